import PyProof.Rows.All
import Wide.All
import OpenK.AllK
import Wide.FinOn
import Lean
import PyProof.EqAt
import PyProof.EqKinds
import PyProof.TupleCall
import PyProof.NeKinds
import OpenK.KOwn
import KE.KTryMore
import KE.RegKTryMore
import PyProof.NsDelKeeps
import KE.KIntText
import PySem.Challenge.RW_lockhouse_k74_replayed_alike
set_option Elab.async false
set_option linter.all false
set_option maxRecDepth 100000
local macro_rules|`(tactic|trivial)=>`(tactic|decide +kernel)
namespace L2
abbrev aa:=@List.getElem?_eq_getElem
abbrev ac:=@List.length_map
abbrev ad:=@PySem.wpAny_bind
abbrev ae:=@List.getElem?_eq_some_iff
abbrev af:=@List.getD_eq_getElem?_getD
abbrev ag:=@List.length_append
abbrev ai:=@PySem.Heap.get?_push_of_some
abbrev aj:=@List.mem_cons
abbrev ak:=@Nat.le_refl
abbrev ao:=@List.size_toArray
abbrev aq:=@PySem.Heap.lt_size
abbrev ar:=@List.getElem?_map
abbrev au:=@List.mem_nil_iff
abbrev av:=@Nat.lt_of_lt_of_le
abbrev aw:=@PySem.Heap.get?_push_size
abbrev ax:=@List.length_singleton
abbrev ay:=@Option.some.inj
abbrev az:=@List.mem_of_getElem?
abbrev aA:=@List.getElem?_append_right
abbrev aB:=@Bool.false_ne_true
abbrev aC:=@PySem.W.mg_of
abbrev aE:=@PyProof.Rows.boot_isinstance
abbrev aF:=@List.mem_cons_of_mem
abbrev aG:=@List.getElem?_append_left
abbrev aH:=@Nat.zero_le
abbrev aI:=@Nat.le_trans
abbrev aJ:=@PySem.wpAny_pure
abbrev aK:=@List.map_append
abbrev aL:=@PyProof.Rows.boot_list
abbrev aM:=@PySem.F.plainAttrs_list
abbrev aN:=@decide_eq_false
abbrev aO:=@List.mem_singleton
abbrev aP:=@PySem.Obj.data_mapFields
abbrev aQ:=@Nat.ne_of_lt
abbrev aR:=@PySem.F.slot_list_append
abbrev aS:=@PySem.F.type_list_append
abbrev aT:=@Option.map_eq_some_iff
abbrev aV:=@List.take_add_one
abbrev aW:=@List.length_take
abbrev aX:=@Nat.le_of_ble_eq_true
abbrev aY:=@PySem.Heap.get?_update_other
abbrev aZ:=@List.take_length
abbrev ba:=@List.mem_append
abbrev bb:=@List.mem_append_right
abbrev bc:=@PySem.wpAny_field
abbrev bd:=@Int.toNat_natCast
abbrev bf:=@List.length_set
abbrev bg:=@PySem.W.mg_none_of
abbrev bh:=@PyProof.Rows.boot_tuple
abbrev bi:=@decide_eq_true
abbrev bj:=@List.take_of_length_le
abbrev bn:=@PySem.wpAny_mono
abbrev bo:=@Array.getElem?_eq_some_iff
abbrev bp:=@List.take_append_of_le_length
abbrev bq:=@List.mem_cons_self
abbrev br:=@List.length_filter_le
abbrev bu:=@List.replicate_succ
abbrev bv:=@or_false
abbrev bw:=@List.length_range
abbrev bx:=@PySem.Heap.get?_update_self
abbrev bz:=@Nat.lt_irrefl
abbrev cb:=@PySem.W.kia_one
abbrev cc:=@PySem.Obj.isFreed_of_fields
abbrev cf:=@congrArg
abbrev cg:=@List.getElem?_set_self
abbrev ci:=@PySem.PassesOwn.never
abbrev ck:=@List.length_cons
abbrev cm:=@List.lookup_cons
abbrev cp:=@List.getElem?_range
abbrev cq:=@List.length_replicate
abbrev cr:=@List.getElem?_eq_none
abbrev cu:=@PyProof.Rows.callWith_type1
abbrev cw:=@List.mem_filterMap
abbrev cx:=@PySem.W.callWith_K
abbrev cy:=@Nat.lt_of_le_of_lt
abbrev da:=@List.mem_append_left
abbrev dc:=@beq_eq_false_iff_ne
abbrev dg:=@PySem.wpAny_loadPart_at
abbrev dh:=@List.mem_filter
abbrev di:=@List.append_nil
abbrev dk:=@List.length_drop
abbrev dm:=@List.all_eq_true
abbrev dq:=@PySem.wpAny_callSpecial?_slot
abbrev du:=@PySem.Heap.size_push
abbrev dv:=@PySem.wpAny_truthy_bool
abbrev dw:=@Bool.eq_false_iff
abbrev dz:=@PySem.W.hideAll_get
abbrev ec:=@List.nodup_cons
abbrev eh:=@PySem.F.slot_tuple_iterator_next
abbrev ei:=@Bool.and_eq_true
abbrev ek:=@Nat.ne_of_gt
abbrev em:=@PySem.wpAny_Call_Name_kw
abbrev eo:=@PySem.W.methodCall_KW
abbrev fb:=@PySem.wpAny_setField_rec
abbrev fe:=@Int.zero_add
abbrev ff:=@PySem.wpAny_setField
abbrev fg:=@Array.getElem?_eq_getElem
abbrev fh:=@PySem.wpAny_seqItems
abbrev fi:=@PySem.W.hideAll_none
abbrev fj:=@List.getElem?_set_ne
abbrev fk:=@List.flatten_cons
abbrev fm:=@decide_eq_true_eq
abbrev fo:=@PySem.mem_of_lookup
abbrev fq:=@List.filter_cons
abbrev ft:=@PySem.W.of_hideAll
abbrev fu:=@PySem.wpAny_pyIter_tuple
abbrev fw:=@PySem.wpAny_execs_nil
abbrev fz:=@List.find?_cons
abbrev gb:=@Nat.not_lt_zero
abbrev gc:=@List.mem_map
abbrev gd:=@List.mem_iff_getElem?
abbrev ge:=@PySem.wpAny_holding
abbrev gg:=@PySem.wpAny_standAt
abbrev gh:=@PySem.wpAny_pyIter_list
abbrev gj:=@List.map_cons
abbrev gk:=@List.any_cons
abbrev gm:=@List.append_assoc
abbrev gq:=@PySem.call_meets
abbrev gr:=@PySem.wpAny_newObj_type
abbrev gt:=@PySem.W.looks_findIn
abbrev gu:=@List.mem_of_mem_take
abbrev gv:=@List.getElem_mem
abbrev gw:=@PySem.W.Looks.ld
abbrev gx:=@PySem.wpAny_call_entry
abbrev gy:=@List.filterMap_cons
abbrev gz:=@Array.length_toList
abbrev hJ:=@List.length_take_le
abbrev hU:=@beq_iff_eq
abbrev hV:=@PySem.codeAny_mono
abbrev hX:=@PySem.AutoSeq1.wpAny_loadPart'
abbrev hZ:=@PySem.wpAny_comprehension_free
abbrev ia:=@Nat.succ.inj
abbrev ib:=@PySem.wpAny_passesOwn
abbrev ic:=@Bool.eq_iff_iff
abbrev ie:=@List.getElem?_replicate
abbrev ig:=@PySem.wpAny_onRaise
abbrev ii:=@List.filter_append
abbrev ij:=@PySem.W.funFrames_hide
abbrev ik:=@PySem.wpAny_pyIter_enum
abbrev il:=@Nat.le_of_lt
abbrev im:=@PySem.wpAny_storeName_local
abbrev io:=@Nat.sub_self
abbrev ip:=@PySem.codeAny_handlers_test
abbrev iq:=@PySem.wpAny_execs_cons
abbrev ir:=@Nat.lt_succ_self
abbrev iu:=@beq_self_eq_true
abbrev iw:=@PySem.Calls.evalArgs_plain
abbrev ix:=@PySem.wpAny_updateSeq_pair
abbrev iy:=@PySem.F.slot_int_rmul
abbrev iz:=@List.range_succ
abbrev kb:=@PySem.wpAny_looks_onW
abbrev kc:=@PySem.F.slot_zip_next
open PySem PySem.Spec PyProof.Rows
abbrev kQ:=Sum Int Str
def eJ:kQ->Value->Bool
 |.inl k,v=>Value.isInt k v
 |.inr x,v=>Value.isStrOf x v
def X3 (w:World):kQ->Int
 |.inl k=>hashInt k
 |.inr x=>hashStr w x
theorem ZA:∀{k:kQ} {v:Value},eJ k v=true->(∃i t,k=Sum.inl i/\v=Value.int i t)\/(∃x t,k=Sum.inr x/\v=Value.str x t)
 |.inl i,v,h=>by
  obtain ⟨t,e⟩:=Value.isInt_shape (k:=i) (v:=v) h;exact .inl ⟨i,t,rfl,e⟩
 |.inr x,v,h=>by
  obtain ⟨t,e⟩:=Value.isStrOf_shape (x:=x) (v:=v) h;exact .inr ⟨x,t,rfl,e⟩
theorem R7 (i:Int) (t:Tok):eJ (.inl i) (.int i t)=true:=by simp [eJ,Value.isInt]
theorem R6 (x:Str) (t:Tok):eJ (.inr x) (.str x t)=true:=by simp [eJ,Value.isStrOf]
theorem WF (a b:Int):decide ((Sum.inl a:kQ)=Sum.inl b)=(a == b):=by
 by_cases e:a=b
 ·subst e;simp
 ·have h:¬(Sum.inl a:kQ)=Sum.inl b:=fun q=>e (Sum.inl.inj q)
  rw [aN h];exact (dc.mpr e).symm
theorem WC (a b:Str):decide ((Sum.inr a:kQ)=Sum.inr b)=decide (a=b):=by
 by_cases e:a=b
 ·subst e;simp
 ·have h:¬(Sum.inr a:kQ)=Sum.inr b:=fun q=>e (Sum.inr.inj q)
  rw [aN h,aN e]
theorem WE (a:Int) (b:Str):decide ((Sum.inl a:kQ)=Sum.inr b)=false:=aN (fun q=>nomatch q)
theorem WD (a:Str) (b:Int):decide ((Sum.inr a:kQ)=Sum.inl b)=false:=aN (fun q=>nomatch q)
def zS (prog:Program) (w:World):PySem.KeyKind prog w kQ where
 is:=eJ
 hash:=X3 w
 inj:=fun v a b E D=>by
  rcases ZA E with ⟨i,t,rfl,rfl⟩|⟨x,t,rfl,rfl⟩
  ·rcases ZA D with ⟨j,u,rfl,e⟩|⟨y,u,rfl,e⟩
   ·injection e with e1 _;rw [e1]
   ·exact nomatch e
  ·rcases ZA D with ⟨j,u,rfl,e⟩|⟨y,u,rfl,e⟩
   ·exact nomatch e
   ·injection e with e1 _;rw [e1]
 byValue:=fun k v h=>by
  rcases ZA h with ⟨i,t,rfl,rfl⟩|⟨x,t,rfl,rfl⟩<;>rfl
 pyHash:=fun l h=>by
  rcases ZA l with ⟨i,t,rfl,rfl⟩|⟨x,t,rfl,rfl⟩
  ·exact wpAny_pyHash_int h
  ·exact wpAny_pyHash_str h
 eqBool:=fun F l h=>by
  rcases ZA F with ⟨i,t,rfl,rfl⟩|⟨x,t,rfl,rfl⟩
  ·rcases ZA l with ⟨j,u,rfl,rfl⟩|⟨y,u,rfl,rfl⟩
   ·rw [WF] at h;exact wpAny_eqBool_int h
   ·rw [WE] at h;exact SeqAt.EqAt.int_str i t y u _ _ _ _ h
  ·rcases ZA l with ⟨j,u,rfl,rfl⟩|⟨y,u,rfl,rfl⟩
   ·rw [WD] at h;exact SeqAt.EqAt.str_int x t j u _ _ _ _ h
   ·rw [WC] at h;exact wpAny_eqBool_str h
 «strs»:=fun k x t v h=>by
  rcases ZA h with ⟨i,u,rfl,e⟩|⟨y,u,rfl,e⟩
  ·exact nomatch e
  ·injection e with e1 _
   subst e1;cases v<;>rfl
theorem OO (prog:Program) (w:World) (i:Int) (t:Tok):(zS prog w).is (.inl i) (.int i t)=true:=R7 i t
theorem ON (prog:Program) (w:World) (x:Str) (t:Tok):(zS prog w).is (.inr x) (.str x t)=true:=R6 x t
inductive V where
 |non|bl (b:Bool)|int (i:Int)|str (x:Str)|byt (b:Array UInt8)|flt (b:UInt64)|ref (a:Addr)|ty (n:String)
 deriving DecidableEq
def RelV:V->Value->Prop
 |.non,u=>u=Value.none
 |.bl b,u=>u=Value.bool b
 |.int i,u=>∃t,u=Value.int i t
 |.str x,u=>∃t,u=Value.str x t
 |.byt b,u=>∃t,u=Value.bytes b t
 |.flt b,u=>∃t,u=Value.float b t
 |.ref a,u=>u=Value.ref a
 |.ty n,u=>u=Value.type n
abbrev Vals:List V->List Value->Prop:=Paired RelV
theorem Vals.length {xs:List V} {us:List Value} (r:Vals xs us):xs.length=us.length:=Paired.length r
theorem Vals.get:∀{xs:List V} {us:List Value} {i:Nat} {x:V},Vals xs us->xs[i]?=some x->∃u,us[i]?=some u/\RelV x u
 |_,_,_,_,.nil,e=>by simp at e
 |_,_,0,_,.cons r _,e=>by simp at e;subst e;exact ⟨_,rfl,r⟩
 |_,_,i+1,x,.cons _ t,e=>by
  obtain ⟨u,h,l⟩:=Vals.get (i:=i) (x:=x) t (by simpa using e);exact ⟨u,by simpa using h,l⟩
theorem Vals.set {x:V} {u:Value} (r:RelV x u):∀{xs:List V} {us:List Value} (i:Nat),Vals xs us->Vals (xs.set i x) (us.set i u)
 |_,_,_,.nil=>.nil
 |_,_,0,.cons _ t=>.cons r t
 |_,_,i+1,.cons q t=>.cons q (Vals.set r i t)
theorem Vals.append:∀{xs ys:List V} {us h:List Value},Vals xs us->Vals ys h->Vals (xs++ys) (us++h)
 |_,_,_,_,.nil,s=>s
 |_,_,_,_,.cons r t,s=>.cons r (Vals.append t s)
theorem Vals.take:∀{xs:List V} {us:List Value} (n:Nat),Vals xs us->Vals (xs.take n) (us.take n)
 |_,_,0,_=>.nil
 |_,_,_+1,.nil=>.nil
 |_,_,n+1,.cons r t=>.cons r (Vals.take n t)
theorem Vals.drop:∀{xs:List V} {us:List Value} (n:Nat),Vals xs us->Vals (xs.drop n) (us.drop n)
 |_,_,0,r=>r
 |_,_,_+1,.nil=>.nil
 |_,_,n+1,.cons _ t=>Vals.drop n t
def RelO:Option V->Option Value->Prop
 |some v,some u=>RelV v u
 |none,none=>True
 |_,_=>False
def KV {h:Type}:List (h×V)->List (h×Value)->Prop:=Paired fun (p:h×V) (q:h×Value)=>p.1=q.1/\RelV p.2 q.2
def kV:kQ->V
 |.inl i=>.int i
 |.inr x=>.str x
inductive HO where
 /-- a list -/
 |lst (xs:List V)
 /-- a tuple (never changes) -/
 |tup (xs:List V)
 /-- a dict whose keys are ints and texts;one whose keys are tuples of ints and texts (the empty one is both) -/
 |dK (km:List (kQ×V))|dT (km:List (List kQ×V))
 /-- a set of ints: its members,its size -/
 |set (S:Int->Bool) (n:Nat)
 /-- an instance of the class at C,its dict at dx,its attributes -/
 |ins (C dx:Addr) (fs:List (Str×V))
 /-- the dict of the instance at x -/
 |own (x:Addr)
 /-- the dict of an exception -/
 |xd (fs:List (Str×V))
 /-- a bound method,f of x -/
 |met (f x:Addr)
 /-- a range object lo,lo+1,.. below hi -/
 |rng (lo hi:Int)
 /-- a thing that is known to the object (the script;a dict while a loop walks it): read,never written while it is so -/
 |frz (o:Obj) (u:HO)
 /-- a code object's table -/
 |tbl (ps:Array Value)
 /-- any other thing,by what is true of its one object (a def of one's own: SetO a S n:=HO.ext fun h=>..) -/
 |ext (φ:Heap->Prop)
abbrev Hp:=Addr->Option HO
def upd (H:Hp) (a:Addr) (o:HO):Hp:=fun b=>if b=a then some o else H b
variable {H:Hp} {a:Addr} {o:HO}
theorem jF:upd H a o a=some o:=by unfold upd;rw [if_pos rfl]
variable {b:Addr}
theorem jQ (h:b≠a):upd H a o b=H b:=by unfold upd;rw [if_neg h]
theorem yC {u:HO} (h:H a=some o) (h':H b=some u) (d:o≠u):a≠b:=by
 intro e;subst e;rw [h] at h';exact d (ay h')
theorem qE (h:H a=some o) (h':H b=none):a≠b:=by
 intro e;subst e;rw [h] at h';cases h'
section
variable (P:Program) (w:World)
def ObjOk (H:Hp) (h:Heap) (a:Addr):HO->Prop
 |.lst xs=>xs.length<=sizeLine/\∃(its:List Value) (n:Nat),Vals xs its/\h.get? a=some {cls:=.type "list",data:=.seq its.toArray n}
 |.tup xs=>xs.length<=sizeLine/\∃its:List Value,Vals xs its/\IsTup h a its.toArray
 |.dK E=>E.length<=sizeLine/\(a == sysModules)=false/\∃vs,KV E vs/\h.DictOf (zS P w) a vs
 |.dT E=>E.length<=sizeLine/\(a == sysModules)=false/\∃xs:List (List kQ×Addr×Value),
   Paired (fun (p:List kQ×V) (q:List kQ×Addr×Value)=>p.1=q.1/\H q.2.1=some (.tup (p.1.map kV))/\RelV p.2 q.2.2) E xs/\
   ∃o O Z,h.get? a=some o/\o.ExactDict/\o.data=.dict O Z/\O.toList=xs.map (entryOfKey (tupleKind (zS P w)))/\(xs.map (·.1)).Nodup
 |.set S n=>h.SetOf (intKind P w) a S n
 |.ins C F D=>H F=some (.own a)/\D.length<=1000/\F≠a/\h.get? a=some (PySem.W.instObj C F)/\
   ∃l,h.Ns1 F l/\(∀f,RelO (D.lookup f) (l f))/\PySem.Within l (D.map (·.1))
 |.own _=>∃o,h.get? a=some o
 |.xd D=>∃l,h.Ns1 a l/\∀f,RelO (D.lookup f) (l f)
 |.rng lo Y=>∃t u v,h.get? a=some {cls:=.type "range",data:=.fields #[.int lo t,.int Y u,.int 1 v]}
 |.frz o u=>h.get? a=some o/\ObjOk H h a u
 |.tbl ps=>h.get? a=some {cls:=.none,data:=.fields ps}
 |.met f x=>h.get? a=some (PySem.W.methodObj (.ref f) (.ref x))
 |.ext G=>G h/\(∃o,h.get? a=some o)/\∀J I:Heap,G J->(∀o,J.get? a=some o->I.get? a=some o)->G I
def HOk (H:Hp) (h:Heap):Prop:=∀a o,H a=some o->ObjOk P w H h a o
end
section
variable {P:Program} {w:World} {H H':Hp} {h h':Heap} {a:Addr} {o:HO}
theorem ObjOk.lt (x:ObjOk P w H h a o):a<h.objs.size:=by
 cases o with
 |lst l=>obtain ⟨_,_,_,_,e⟩:=x;exact aq e
 |tup l=>obtain ⟨_,_,_,p⟩:=x;exact p.lt
 |dK E=>obtain ⟨_,_,_,_,o,_,_,e,_⟩:=x;exact aq e
 |dT E=>obtain ⟨_,_,_,_,o,_,_,e,_⟩:=x;exact aq e
 |set S n=>obtain ⟨o,_,_,_,e,_⟩:=x;exact aq e
 |ins C J D=>obtain ⟨_,_,_,e,_⟩:=x;exact aq e
 |own y=>obtain ⟨_,e⟩:=x;exact aq e
 |xd D=>obtain ⟨_,⟨_,_,_,e,_⟩,_⟩:=x;exact aq e
 |rng O I=>obtain ⟨_,_,_,e⟩:=x;exact aq e
 |frz G u=>obtain ⟨e,_⟩:=x;exact aq e
 |tbl F=>exact aq (show h.get? a=some _ from x)
 |met f y=>exact aq (show h.get? a=some _ from x)
 |ext V=>obtain ⟨_,⟨_,e⟩,_⟩:=x;exact aq e
theorem Paired.mapP {I E:Type} {F G:I->E->Prop}:∀{D:List I} {l:List E},Paired F D l->(∀a b,F a b->G a b)->Paired G D l
 |_,_,.nil,_=>.nil
 |_,_,.cons r t,f=>.cons (f _ _ r) (Paired.mapP t f)
theorem ObjOk.stay (x:ObjOk P w H h a o) (k:∀b u,(b=a\/H b=some (.own a))->h.get? b=some u->h'.get? b=some u)
  (ho:∀b,H b=some (.own a)->H' b=some (.own a)) (ht:∀b xs,H b=some (.tup xs)->H' b=some (.tup xs)):ObjOk P w H' h' a o:=by
 induction o with
 |lst xs=>obtain ⟨z,F,n,r,e⟩:=x;exact ⟨z,F,n,r,k _ _ (.inl rfl) e⟩
 |tup xs=>obtain ⟨z,F,r,l,e,c⟩:=x;exact ⟨z,F,r,l,k _ _ (.inl rfl) e,c⟩
 |dK Y=>obtain ⟨z,y,vs,r,l,E,D,e,c⟩:=x;exact ⟨z,y,vs,r,l,E,D,k _ _ (.inl rfl) e,c⟩
 |dT Y =>
  obtain ⟨z,y,xs,r,l,E,D,e,c⟩:=x;exact ⟨z,y,xs,Paired.mapP r fun p q z=>⟨z.1,ht _ _ z.2.1,z.2.2⟩,l,E,D,k _ _ (.inl rfl) e,c⟩
 |set S n=>obtain ⟨l,E,D,t,e,c⟩:=x;exact ⟨l,E,D,t,k _ _ (.inl rfl) e,c⟩
 |ins C dx V =>
  obtain ⟨d,z,Z,e,I,⟨G,E,D,e2,c⟩,r⟩:=x;exact ⟨ho _ d,z,Z,k _ _ (.inl rfl) e,I,⟨G,E,D,k _ _ (.inr d) e2,c⟩,r⟩
 |own y=>obtain ⟨l,e⟩:=x;exact ⟨l,k _ _ (.inl rfl) e⟩
 |xd V=>obtain ⟨I,⟨G,E,D,e,c⟩,r⟩:=x;exact ⟨I,⟨G,E,D,k _ _ (.inl rfl) e,c⟩,r⟩
 |rng lo hi=>obtain ⟨t,u,v,e⟩:=x;exact ⟨t,u,v,k _ _ (.inl rfl) e⟩
 |frz l u ih=>obtain ⟨e,q⟩:=x;exact ⟨k _ _ (.inl rfl) e,ih q⟩
 |tbl O =>
  have e:h.get? a=some {cls:=.none,data:=.fields O}:=x;show h'.get? a=some {cls:=.none,data:=.fields O};exact k a _ (.inl rfl) e
 |met f y =>
  have e:h.get? a=some (PySem.W.methodObj (.ref f) (.ref y)):=x;show h'.get? a=some (PySem.W.methodObj (.ref f) (.ref y));exact k a _ (.inl rfl) e
 |ext φ=>obtain ⟨p,⟨o,e⟩,J⟩:=x;exact ⟨J _ _ p fun o q=>k _ _ (.inl rfl) q,⟨o,k _ _ (.inl rfl) e⟩,J⟩
theorem HOk.lt (x:HOk P w H h) (e:H a=some o):a<h.objs.size:=(x a o e).lt
theorem HOk.fresh (x:HOk P w H h) (e:h.objs.size<=a):H a=none:=by
 cases q:H a with
 |none=>rfl
 |some u=>exact absurd (av (x.lt q) e) (bz _)
theorem HOk.kept (x:HOk P w H h) (k:∀b u,h.get? b=some u->h'.get? b=some u):HOk P w H h':=fun a o e =>
 (x a o e).stay (fun b u _ q=>k b u q) (fun _ q=>q) fun _ _ q=>q
theorem HOk.laid (x:HOk P w H h) (k:∀b u,h.get? b=some u->h'.get? b=some u) (F:h.objs.size<=a) (l:ObjOk P w (upd H a o) h' a o):HOk P w (upd H a o) h':=fun b u e=>by
 have E:=x.fresh F
 by_cases D:b=a
 ·subst D;rw [jF] at e;cases e;exact l
 ·rw [jQ D] at e;exact (x b u e).stay (fun c v _ q=>k c v q) (fun c q=>by rw [jQ (qE q E)];exact q) fun c G q=>by rw [jQ (qE q E)];exact q
end
def Rd (H:Hp) (a:Addr) (u:HO):Prop:=H a=some u\/∃o,H a=some (.frz o u)
variable {h:Heap}
theorem Rd.ok {P:Program} {w:World} {u:HO} (r:Rd H a u) (x:HOk P w H h):ObjOk P w H h a u:=by
 rcases r with r|⟨o,r⟩
 ·exact x a u r
 ·obtain ⟨_,q⟩:=x a _ r;exact q
def gZ:Option HO->Prop
 |some (.lst _)=>True
 |some (.dK _)=>True
 |some (.dT _)=>True
 |some (.set _ _)=>True
 |some (.ins _ _ _)=>True
 |some (.ext _)=>True
 |_=>False
section
variable {P:Program} {w:World} {H:Hp} {h h':Heap} {x e:Addr} {o':HO}
theorem HOk.write (Y:HOk P w H h) (F:gZ (H x)) (he:e=x\/H e=some (.own x)) (k:∀b u,b≠e->h.get? b=some u->h'.get? b=some u) (O:∃u,h'.get? e=some u)
  (S:ObjOk P w (upd H x o') h' x o'):HOk P w (upd H x o') h':=fun b u q=>by
 have D:∀c y,H c=some (.own y)->c≠x:=fun c y r z=>by subst z;rw [r] at F;exact F
 have E:∀c I,H c=some (.tup I)->c≠x:=fun c I r z=>by subst z;rw [r] at F;exact F
 by_cases G:b=x
 ·subst G;rw [jF] at q;cases q;exact S
 ·rw [jQ G] at q
  by_cases l:b=e
  ·have V:H b=some (.own x):=by
    rcases he with z|z
    ·exact absurd (l.trans z) G
    ·rw [l];exact z
   rw [q] at V;cases V
   obtain ⟨v,Z⟩:=O;exact ⟨v,by rw [l];exact Z⟩
  ·refine (Y b u q).stay (fun c v J r=>k c v ?_ r) (fun c r=>by rw [jQ (D c b r)];exact r) fun c I r=>by rw [jQ (E c I r)];exact r
   rcases J with rfl|J
   ·exact l
   ·rintro rfl
    rcases he with z|z
    ·exact D c b J z
    ·rw [J] at z;cases z;exact G rfl
end
structure Un (fs ex:List Addr) (H H':Hp) (h h':Heap):Prop where
 keep:∀b o,h.get? b=some o->H b=none->b∉fs->b∉ex->h'.get? b=some o
 slot:∀b o,h.get? b=some o->H b=none->b∈fs->b∉ex->∃sl,h'.get? b=some {o with slots:=sl}
 free:∀b o,h.get? b=some o->H b=none->b∉ex->H' b=none
 there:∀b o,h.get? b=some o->b∉ex->∃o',h'.get? b=some o'
 tups:∀b xs,H b=some (.tup xs)->H' b=some (.tup xs)
 frzs:∀b o u,H b=some (.frz o u)->H' b=some (.frz o u)
 tbls:∀b ps,H b=some (.tbl ps)->∃more,H' b=some (.tbl (ps++more))
section
variable {fs fs' ex ex':List Addr} {H H1 H2:Hp} {h h1 h2 h':Heap} {a x e:Addr} {o:HO}
theorem Un.any (u:Un fs ex H H1 h h1) {b:Addr} {l:Obj} (q:h.get? b=some l) (n:H b=none) (D:b∉ex):∃F,h1.get? b=some {l with slots:=F}:=by
 by_cases E:b∈fs
 ·exact u.slot b l q n E D
 ·exact ⟨l.slots,u.keep b l q n E D⟩
theorem Un.kept (k:∀b u,h.get? b=some u->h'.get? b=some u):Un fs ex H H h h' :=
 ⟨fun b l q _ _ _=>k b l q,fun b l q _ _ _=>⟨l.slots,k b l q⟩,fun _ _ _ n _=>n,fun b l q _=>⟨l,k b l q⟩,fun _ _ q=>q,fun _ _ _ q=>q,fun _ D q=>⟨#[],by rw [q];simp⟩⟩
theorem Un.refl:Un fs ex H H h h:=Un.kept fun _ _ q=>q
theorem Un.laid (k:∀b u,h.get? b=some u->h'.get? b=some u) (E:h.objs.size<=a) (l:H a=none):Un fs ex H (upd H a o) h h' where
 keep:=fun b u q _ _ _=>k b u q
 slot:=fun b u q _ _ _=>⟨u.slots,k b u q⟩
 free:=fun b u q n _=>by rw [jQ (aQ (av (aq q) E))];exact n
 there:=fun b u q _=>⟨u,k b u q⟩
 tups:=fun b D q=>by rw [jQ (qE q l)];exact q
 frzs:=fun b u D q=>by rw [jQ (qE q l)];exact q
 tbls:=fun b F q=>⟨#[],by rw [jQ (qE q l),q];simp⟩
theorem Un.write (D:gZ (H x)) (he:e=x\/H e=some (.own x)) (k:∀b u,b≠e->h.get? b=some u->h'.get? b=some u) (F:∃u,h'.get? e=some u):Un fs ex H (upd H x o) h h':=by
 have G:∀b,H b=none->b≠x:=fun b n z=>by subst z;rw [n] at D;exact D
 have I:∀b,H b=none->b≠e:=fun b n z=>by
  subst z
  rcases he with r|r
  ·exact G b n r
  ·rw [n] at r;cases r
 have E:∀b u,H b=some u->¬gZ (some u)->b≠x:=fun b u q O z=>by subst z;rw [q] at D;exact O D
 refine ⟨fun b u q n _ _=>k b u (I b n) q,fun b u q n _ _=>⟨u.slots,k b u (I b n) q⟩,fun b u q n _=>by rw [jQ (G b n)];exact n,fun b u q _=>?_,
  fun b J q=>by rw [jQ (E b _ q fun z=>z)];exact q,fun b u J q=>by rw [jQ (E b _ q fun z=>z)];exact q,fun b S q=>⟨#[],by rw [jQ (E b _ q fun z=>z),q];simp⟩⟩
 by_cases l:b=e
 ·subst l;exact F
 ·exact ⟨u,k b u l q⟩
end
def yR (h:Heap) (H:Hp):List Addr:=(List.range h.objs.size).filter fun a=>(H a).isSome
def ZU (h:Heap) (H:Hp):Heap:=PySem.W.hideAll h (yR h H)
theorem SB (h:Heap) (H:Hp):(ZU h H).objs.size=h.objs.size:=PySem.W.hideAll_size _ _
theorem TM {o:Obj} (e:h.get? b=some o) (n:H b=none):(ZU h H).get? b=some o :=
 dz _ e fun l=>by
  have q:(H b).isSome=true:=(dh.mp l).2;rw [n] at q;simp at q
theorem U3 {o:Obj} (e:(ZU h H).get? b=some o):h.get? b=some o/\H b=none:=by
 have l:h.get? b=some o:=ft (yR h H) e;refine ⟨l,?_⟩;cases q:H b with
 |none=>rfl
 |some x =>
  have D:b∈yR h H:=dh.mpr ⟨List.mem_range.mpr (aq l),by simp [q]⟩;have z:(ZU h H).get? b=none:=fi (yR h H) D;rw [z] at e;cases e
def VM (g h:Heap) (L:Addr):List (Addr×Obj):=(List.range h.objs.size).filterMap fun a=>if a=L\/(g.get? a).isSome=true then none else (h.get? a).map fun o=>(a,o)
def rest (g h:Heap) (L d:Addr):List (Addr×Obj):=(VM g h L).filter fun p=>decide (p.1≠d)
end L2
namespace L2
open PySem PySem.Spec PyProof.Rows
structure Mod (K:PySem.W.Frag) (mg:Str->Option Value) (base:Heap):Prop where
 kin:K.In base
 glob:base.Ns mainGlobals mg
 blt:∃mb,base.Ns builtinsNs mb/\∀x:Str,x≠"__name__"->mb x=bootBuiltins x
 nolimit:base.NoLimit
structure Cx where
 prog:Program
 w:World
 K:PySem.W.Frag
 mg:Str->Option Value
 base:Heap
 A:Around
 N:List Str
 s₀:Shared
 H₀:Hp
 env:Env
 outer:List Env
 stack:List Env
 ex:List Addr
 fn:Str->Bool
 calm:Bool
 pn:List (Addr×Obj)
 xe:Value->Shared->Prop
def j8 (l:List Env):List Addr:=l.filterMap (·.frame)
abbrev Cx.fs (X:Cx):List Addr:=j8 X.outer
def gX (h:Scope) (x:Str):Prop:=h.names.lookup x=some .local\/h.names.lookup x=some .cell\/h.names.lookup x=some .free
def fC (h:Scope) (x:Str):Prop:=h.names.lookup x=some .local\/h.names.lookup x=some .cell
def YE (l:Env) (h:Heap) (m:Str->Option Value) (x:Str) (u:Value):Prop :=
 (l.kindOf x=some .local/\m x=some u)\/((l.kindOf x=some .cell\/l.kindOf x=some .free)/\∃c,l.cells.lookup x=some c/\h.IsCell c (some u))
structure Cx.Ok (X:Cx):Prop where
 mod:Mod X.K X.mg X.base
 kind:X.env.scope.kind=.function
 glob:X.env.globals=mainGlobals
 blt:X.env.builtins=builtinsNs
 above:X.s₀.heap.objs.size<=X.env.locals
 inj:∀x y c,X.env.cells.lookup x=some c->X.env.cells.lookup y=some c->x=y
 has:∀x,(X.env.kindOf x=some .cell\/X.env.kindOf x=some .free)->∃c,X.env.cells.lookup x=some c
 cab:∀x c,X.fn x=true->X.env.cells.lookup x=some c->X.s₀.heap.objs.size<=c
 hd:X.calm=true->X.A.handled=none
 frames:X.A.frames=some X.stack
 stk:X.stack=X.outer\/(X.stack=X.env::X.outer/\X.env.frame=some X.env.locals)
 exf:∀b∈X.ex,b≠X.env.locals/\∀x c,X.env.cells.lookup x=some c->c≠b
 bs:∀b o,X.base.get? b=some o->X.s₀.heap.get? b=some o/\X.H₀ b=none
 bsz:X.base.objs.size<=X.s₀.heap.objs.size
 noex:∀b o,X.base.get? b=some o->b∉X.ex
 exfs:∀b∈X.ex,b∉X.fs
 funs:X.s₀.heap.FunFrames X.base X.outer
 frf:∀b∈X.fs,X.H₀ b=none
structure Inv (X:Cx) (ke:List (Addr×Obj)) (σ:List (Option V)) (H:Hp) (s:Shared):Prop where
 ok:X.Ok
 os:s.os=X.s₀.os
 bare:AllBare s.gens
 base:Un X.fs X.ex X.H₀ H X.s₀.heap s.heap
 loc:∃m,s.heap.Ns X.env.locals m/\∀(i:Nat) (x:Str) (v:V),X.N[i]?=some x->σ[i]?=some (some v)->gX X.env.scope x->∃u,RelV v u/\YE X.env s.heap m x u
 cell:∀x c,X.env.cells.lookup x=some c->∃v,s.heap.IsCell c v
 free:H X.env.locals=none
 freeC:∀x c,X.env.cells.lookup x=some c->H c=none
 pin:∀p∈X.pn++ke,s.heap.get? p.1=some p.2/\H p.1=none/\p.1≠X.env.locals/\p.1∉X.fs/\∀v,p.2.data≠.cell v
 hok:HOk X.prog X.w H s.heap
 len:σ.length=X.N.length
section
variable {X:Cx} {ke:List (Addr×Obj)} {σ:List (Option V)} {H H':Hp} {s:Shared} {h':Heap}
theorem Cx.Ok.nofr (l:X.Ok) {b:Addr} {o:Obj} (e:X.base.get? b=some o):b∉X.fs:=fun h=>by
 have:=(l.funs.mem h).1;rw [e] at this;cases this
theorem Inv.bs (I:Inv X ke σ H s):∀b o,X.base.get? b=some o->s.heap.get? b=some o/\H b=none:=fun b o e =>
 ⟨I.base.keep b o (I.ok.bs b o e).1 (I.ok.bs b o e).2 (I.ok.nofr e) (I.ok.noex b o e),I.base.free b o (I.ok.bs b o e).1 (I.ok.bs b o e).2 (I.ok.noex b o e)⟩
theorem Inv.bk (I:Inv X ke σ H s):∀b o,X.base.get? b=some o->s.heap.get? b=some o:=fun b o e=>(I.bs b o e).1
theorem Inv.mod (I:Inv X ke σ H s):Mod X.K X.mg X.base:=I.ok.mod
theorem Inv.kIn (I:Inv X ke σ H s):X.K.In s.heap:=I.ok.mod.kin.keeps I.bk
theorem Inv.lt (I:Inv X ke σ H s):X.env.locals<s.heap.objs.size:=let ⟨_,h,_⟩:=I.loc;h.lt
theorem Inv.sz (I:Inv X ke σ H s):X.s₀.heap.objs.size<=s.heap.objs.size:=aI I.ok.above (il I.lt)
theorem Inv.nofs (I:Inv X ke σ H s) {a:Addr} (h:s.heap.objs.size<=a):a∉X.fs:=fun D=>by
 obtain ⟨_,o,l,_⟩:=I.ok.funs.mem D;exact absurd (av (aq l) (aI I.sz h)) (bz _)
theorem Inv.cne (I:Inv X ke σ H s):∀x c,X.env.cells.lookup x=some c->c≠X.env.locals:=fun x c e z=>by
 obtain ⟨v,o,D,E⟩:=I.cell x c e;obtain ⟨m,⟨F,J,G,l,h,_⟩,_⟩:=I.loc;rw [z,l] at D;cases D;rw [h] at E;cases E
theorem Inv.funs (I:Inv X ke σ H s):s.heap.FunFrames X.base X.outer:=by
 have D:∀(l:List Env),(∀b∈j8 l,b∈X.fs)->X.s₀.heap.FunFrames X.base l->s.heap.FunFrames X.base l:=by
  intro l
  induction l with
  |nil=>intro _ _;trivial
  |cons Y r Z =>
   intro G hl;obtain ⟨J,⟨L,o,E,hn,O,S⟩,V⟩:=hl;have h:L∈X.fs:=G L (by unfold j8;rw [gy,E];exact bq);obtain ⟨sl,e⟩:=I.base.slot L o O (I.ok.frf L h) h fun z=>I.ok.exfs L z h
   exact ⟨J,⟨L,_,E,hn,e,S⟩,Z (fun b F=>G b (by unfold j8;rw [gy,E];exact aF _ F)) V⟩
 exact D X.outer (fun _ F=>F) I.ok.funs
theorem Inv.stack (I:Inv X ke σ H s):s.heap.FunFrames X.base X.stack:=by
 rcases I.ok.stk with e|⟨e,h⟩
 ·rw [e];exact I.funs
 ·rw [e];obtain ⟨m,l,_⟩:=I.loc;refine .cons (by rw [I.ok.kind];decide) h l ?_ I.funs;exact Heap.get?_none_of_le (aI I.ok.bsz I.ok.above)
theorem Inv.stkSub (I:Inv X ke σ H s):∀b∈j8 X.stack,b∈X.env.locals::X.fs:=fun b h=>by
 rcases I.ok.stk with e|⟨e,l⟩
 ·rw [e] at h;exact aF _ h
 ·rw [e] at h;unfold j8 at h;rw [gy,l] at h;exact h
theorem Inv.stkFree (I:Inv X ke σ H s):∀b∈j8 X.stack,H b=none:=fun b h=>by
 rcases aj.mp (I.stkSub b h) with e|h
 ·rw [e];exact I.free
 ·obtain ⟨_,o,l,_⟩:=I.ok.funs.mem h;exact I.base.free b o l (I.ok.frf b h) fun z=>I.ok.exfs b z h
theorem Inv.step {g':Array GenState} {t':Nat} {d':Drawn} {ch:List Addr} (I:Inv X ke σ H s)
  (G:∀b∈ch,(b∈X.ex\/X.s₀.heap.objs.size<=b)/\b≠X.env.locals/\(∀x c,X.env.cells.lookup x=some c->c≠b)/\∀p∈X.pn++ke,p.1≠b)
  (F:∀b o,b≠X.env.locals->b∉X.fs->b∉ch->s.heap.get? b=some o->H b=none->h'.get? b=some o)
  (V:∀b o,b≠X.env.locals->b∈X.fs->b∉ch->s.heap.get? b=some o->H b=none->∃sl,h'.get? b=some {o with slots:=sl}) (D:∀b o,b∉ch->s.heap.get? b=some o->H b=none->H' b=none)
  (Y:∀b o,b∉ch->s.heap.get? b=some o->∃o',h'.get? b=some o')
  (am:∀b xs,H b=some (.tup xs)->H' b=some (.tup xs)) (ap:∀b o u,H b=some (.frz o u)->H' b=some (.frz o u)) (an:∀b ps,H b=some (.tbl ps)->∃aD,H' b=some (.tbl (ps++aD)))
  (ns:∀m,s.heap.Ns X.env.locals m->h'.Ns X.env.locals m) (a3:HOk X.prog X.w H' h') (hg:AllBare g') :
  Inv X ke σ H' {s with heap:=h',gens:=g',drawn:=d',toks:=t'}:=by
 have ah:∀b o,X.s₀.heap.get? b=some o->b≠X.env.locals:=fun b o e=>aQ (av (aq e) I.ok.above)
 have O:∀b o,X.s₀.heap.get? b=some o->b∉X.ex->b∉ch:=fun b o e h Z=>by
  rcases (G b Z).1 with z|z
  ·exact h z
  ·exact absurd (av (aq e) z) (bz _)
 have E:∀x c,X.env.cells.lookup x=some c->∀v,s.heap.IsCell c v->h'.IsCell c v:=fun x c e v ⟨o,ho,hd⟩=>by
  have J:c∉ch:=fun z=>(G c z).2.2.1 x c e rfl
  by_cases hc:c∈X.fs
  ·obtain ⟨sl,q⟩:=V c o (I.cne x c e) hc J ho (I.freeC x c e);exact ⟨_,q,hd⟩
  ·exact ⟨o,F c o (I.cne x c e) hc J ho (I.freeC x c e),hd⟩
 refine ⟨I.ok,I.os,hg,⟨fun b o e n Z h=>?_,fun b o e n Z h=>?_,fun b o e n h=>?_,fun b o e h=>?_,fun b xs e=>am b xs (I.base.tups b xs e),fun b o xs e=>ap b o xs (I.base.frzs b o xs e),fun b ps e=>?_⟩,?_,fun x c e=>?_,?_,fun x c e=>?_,fun p hp=>?_,a3,I.len⟩
 ·exact F b o (ah b o e) Z (O b o e h) (I.base.keep b o e n Z h) (I.base.free b o e n h)
 ·obtain ⟨sl,S⟩:=I.base.slot b o e n Z h;obtain ⟨aU,e2⟩:=V b _ (ah b o e) Z (O b o e h) S (I.base.free b o e n h);exact ⟨aU,e2⟩
 ·obtain ⟨o',S⟩:=I.base.there b o e h;exact D b o' (O b o e h) S (I.base.free b o e n h)
 ·obtain ⟨o',S⟩:=I.base.there b o e h;exact Y b o' (O b o e h) S
 ·obtain ⟨m1,S⟩:=I.base.tbls b ps e;obtain ⟨m2,e2⟩:=an b _ S;exact ⟨m1++m2,by rw [e2,Array.append_assoc]⟩
 ·obtain ⟨m,hn,hl⟩:=I.loc;refine ⟨m,ns m hn,fun i x v S e2 e3=>?_⟩;obtain ⟨u,r,l⟩:=hl i x v S e2 e3;refine ⟨u,r,?_⟩
  rcases l with l|⟨k,c,e,z⟩
  ·exact .inl l
  ·exact .inr ⟨k,c,e,E x c e _ z⟩
 ·obtain ⟨v,z⟩:=I.cell x c e;exact ⟨v,E x c e v z⟩
 ·obtain ⟨m,⟨o,_,_,ho,_⟩,_⟩:=I.loc;exact D _ o (fun z=>(G _ z).2.1 rfl) ho I.free
 ·obtain ⟨v,o,ho,hd⟩:=I.cell x c e;exact D c o (fun z=>(G c z).2.2.1 x c e rfl) ho (I.freeC x c e)
 ·obtain ⟨e,n,ne,nf,d⟩:=I.pin p hp;have J:p.1∉ch:=fun z=>(G p.1 z).2.2.2 p hp rfl
  exact ⟨F p.1 p.2 ne nf J e n,D p.1 p.2 J e n,ne,nf,d⟩
theorem Inv.un {t':Nat} (I:Inv X ke σ H s) (u:Un X.fs [] H H' s.heap h') (l:HOk X.prog X.w H' h'):Inv X ke σ H' {s with heap:=h',toks:=t'}:=by
  obtain ⟨m,⟨o,es,Z,G,r⟩,_⟩:=id I.loc;obtain ⟨V,O⟩:=u.any G I.free (by simp);exact I.step (g':=s.gens) (d':=s.drawn) (ch:=[]) (fun _ z=>nomatch z) (fun b o _ D _ e n=>u.keep b o e n D (by simp)) (fun b o _ D _ e n=>u.slot b o e n D (by simp)) (fun b o _ e n=>u.free b o e n (by simp)) (fun b o _ e=>u.there b o e (by simp)) u.tups u.frzs u.tbls (fun Y S=>by
    obtain ⟨o',E,F,h,J⟩:=S;rw [G] at h;cases h
    exact ⟨_,E,F,O,J⟩) l I.bare
theorem Inv.call {g':Array GenState} {t':Nat} {d':Drawn} {ch:List Addr} (I:Inv X ke σ H s) (u:Un (j8 X.stack) ch H H' s.heap h') (F:HOk X.prog X.w H' h') (Z:AllBare g')
  (D:∀b∈ch,(b∈X.ex\/X.s₀.heap.objs.size<=b)/\b≠X.env.locals/\(∀x c,X.env.cells.lookup x=some c->c≠b)/\∀p∈X.pn++ke,p.1≠b) :
  Inv X ke σ H' {s with heap:=h',gens:=g',drawn:=d',toks:=t'}:=by
 obtain ⟨m,⟨o,es,ep,O,r⟩,_⟩:=id I.loc;obtain ⟨sl,E⟩:=u.any O I.free fun z=>(D _ z).2.1 rfl
 exact I.step (ch:=ch) D (fun b o E Y h e n=>u.keep b o e n (fun z=>(aj.mp (I.stkSub b z)).elim E Y) h) (fun b o _ _ h e n=>u.any e n h) (fun b o h e n=>u.free b o e n h) (fun b o h e=>u.there b o e h) u.tups u.frzs u.tbls (fun m' V=>by
  obtain ⟨o',G,J,l,S⟩:=V;rw [O] at l;cases l
  exact ⟨_,G,J,E,S⟩) F Z
theorem Inv.turned {t':Nat} {it:Addr} (I:Inv X ke σ H s) (k:∀b o,b≠it->s.heap.get? b=some o->h'.get? b=some o) (Z:H it=none) (D:it≠X.env.locals)
    (O:it∈X.ex\/X.s₀.heap.objs.size<=it) (F:∀x c,X.env.cells.lookup x=some c->c≠it) (V:∀p∈X.pn++ke,p.1≠it):Inv X ke σ H {s with heap:=h',toks:=t'}:=by
  have l:∀b u,H b=some u->b≠it:=fun b u e z=>by rw [z,Z] at e;cases e
  refine I.step (g':=s.gens) (d':=s.drawn) (ch:=[it]) (fun b S=>?_) (fun b o _ _ h e _=>k b o (fun z=>h (by simp [z])) e) (fun b o _ _ h e _=>⟨o.slots,k b o (fun z=>h (by simp [z])) e⟩) (fun _ _ _ _ n=>n)
    (fun b o h e=>⟨o,k b o (fun z=>h (by simp [z])) e⟩) (fun _ _ e=>e) (fun _ _ _ e=>e) (fun b ps e=>⟨#[],by rw [e];simp⟩) (fun m J=>?_) (fun b u e=>?_) I.bare
  . have e:b=it:=by simpa using S
    subst e;exact ⟨O,D,F,V⟩
  . obtain ⟨o,Y,G,E,r⟩:=J
    exact ⟨o,Y,G,k _ o (Ne.symm D) E,r⟩
  . refine (I.hok b u e).stay (fun c v h q=>k c v ?_ q) (fun _ q=>q) fun _ _ q=>q
    rcases h with z|z
    . rw [z];exact l b u e
    . exact l c _ z
theorem Inv.tok (I:Inv X ke σ H s) (t:Nat):Inv X ke σ H {s with toks:=t}:=I.un (h':=s.heap) (t':=t) Un.refl I.hok
theorem Inv.kept {t':Nat} (I:Inv X ke σ H s) (k:∀b u,s.heap.get? b=some u->h'.get? b=some u):Inv X ke σ H {s with heap:=h',toks:=t'}:=I.un (Un.kept k) (I.hok.kept k)
theorem Inv.laid {a:Addr} {o:HO} {t':Nat} (I:Inv X ke σ H s) (k:∀b u,s.heap.get? b=some u->h'.get? b=some u) (l:s.heap.objs.size<=a) (h:ObjOk X.prog X.w (upd H a o) h' a o) :
  Inv X ke σ (upd H a o) {s with heap:=h',toks:=t'}:=I.un (Un.laid k l (I.hok.fresh l)) (I.hok.laid k l h)
theorem Inv.write {x e:Addr} {o:HO} {t':Nat} (I:Inv X ke σ H s) (D:gZ (H x)) (he:e=x\/H e=some (.own x)) (k:∀b u,b≠e->s.heap.get? b=some u->h'.get? b=some u) (h:∃u,h'.get? e=some u)
  (l:ObjOk X.prog X.w (upd H x o) h' x o):Inv X ke σ (upd H x o) {s with heap:=h',toks:=t'}:=I.un (Un.write D he k h) (I.hok.write D he k h l)
theorem Inv.pins_of {pins':List (Addr×Obj)} (I:Inv X ke σ H s) (h:∀p∈pins',s.heap.get? p.1=some p.2/\H p.1=none/\p.1≠X.env.locals/\p.1∉X.fs/\∀v,p.2.data≠.cell v):Inv X pins' σ H s :=
 ⟨I.ok,I.os,I.bare,I.base,I.loc,I.cell,I.free,I.freeC,fun p l=>(ba.mp l).elim (fun z=>I.pin p (da _ z)) (h p),I.hok,I.len⟩
theorem uQ {N:List Str} (D:N.Nodup) {i j:Nat} {x:Str} (a:N[i]?=some x) (b:N[j]?=some x):i=j:=by
 obtain ⟨F,h⟩:=ae.mp a;obtain ⟨E,l⟩:=ae.mp b;exact (List.getElem_inj D).mp (h.trans l.symm)
theorem B4 {M:Model} {A:Around} {E:Value->Shared->Prop} {i:Nat} {x:Str} {v:V} {u:Value} {Q:Unit->Shared->Prop} (I:Inv X ke σ H s) (hN:X.N.Nodup) (hi:X.N[i]?=some x) (J:fC X.env.scope x) (r:RelV v u)
  (h:∀s',Inv X ke (σ.set i (some v)) H s'->(∃a,Heap.SameBut a s.heap s'.heap/\(a=X.env.locals\/X.env.cells.lookup x=some a))->Q () s') (hf:X.fn x=true\/X.env.scope.names.lookup x=some .local:=by first|exact .inl rfl|exact .inr rfl|assumption):wpAny M A (storeName X.env x u) Q E s:=by
 obtain ⟨m,hn,hl⟩:=id I.loc;have an:(X.env.scope.kind == .class||(X.env.scope.kind == .module&&X.env.locals != X.env.globals))=false:=by rw [I.ok.kind];rfl
 have Y:i<σ.length:=by rw [I.len];exact (ae.mp hi).1
 have am:=I.cne;have D:∀{a:Addr} {h':Heap},(∃o,s.heap.get? a=some o/\H a=none)->Heap.SameBut a s.heap h'->HOk X.prog X.w H h':=fun {a h'} ha l b ob e=>by
  obtain ⟨_,_,O⟩:=ha;refine (I.hok b ob e).stay (fun c w' G q=>(l.2 c ?_).trans q) (fun _ q=>q) fun _ _ q=>q
  rintro rfl
  rcases G with rfl|G
  ·rw [O] at e;cases e
  ·rw [O] at G;cases G
 rcases J with Z|Z
 ·refine im Z hn (fun h' a4 l=>?_) an;obtain ⟨oL,_,_,a5,_⟩:=id hn;refine h _ ⟨I.ok,I.os,I.bare,⟨fun b o e n hb J=>?_,fun b o e n hb J=>?_,I.base.free,fun b o e J=>?_,I.base.tups,I.base.frzs,I.base.tbls⟩,⟨_,a4,fun j y v' F S e3=>?_⟩,fun y c e=>?_,I.free,I.freeC,fun p hp=>?_,D ⟨oL,a5,I.free⟩ l,by simpa using I.len⟩ ⟨_,l,.inl rfl⟩
  ·exact (l.2 b (aQ (av (aq e) I.ok.above))).trans (I.base.keep b o e n hb J)
  ·obtain ⟨sl,F⟩:=I.base.slot b o e n hb J;exact ⟨sl,(l.2 b (aQ (av (aq e) I.ok.above))).trans F⟩
  ·obtain ⟨o',F⟩:=I.base.there b o e J;exact ⟨o',(l.2 b (aQ (av (aq e) I.ok.above))).trans F⟩
  ·by_cases hj:j=i
   ·subst hj;rw [hi] at F;cases F
    rw [cg Y] at S;cases S;exact ⟨u,r,.inl ⟨Z,by simp⟩⟩
   ·rw [fj (Ne.symm hj)] at S;obtain ⟨u',r',q⟩:=hl j y v' F S e3;refine ⟨u',r',?_⟩
    rcases q with ⟨k,e⟩|⟨k,c,e,z⟩
    ·refine .inl ⟨k,?_⟩;have:y≠x:=fun e=>hj (uQ hN F (e▸hi))
     simp [this,e]
    ·exact .inr ⟨k,c,e,z.sameBut l (am y c e)⟩
  ·obtain ⟨w',z⟩:=I.cell y c e;exact ⟨w',z.sameBut l (am y c e)⟩
  ·obtain ⟨e,n,ne,nf,d⟩:=I.pin p hp;exact ⟨(l.2 p.1 ne).trans e,n,ne,nf,d⟩
 ·have ah:X.fn x=true:=by
   rcases hf with z|z
   ·exact z
   ·rw [z] at Z;cases Z
  obtain ⟨c,G⟩:=I.ok.has x (.inl Z);obtain ⟨w',z⟩:=I.cell x c G;refine wpAny_storeName_cell I.ok.kind Z G z (fun h' ap l=>?_);obtain ⟨oc,aU,a3⟩:=id z;refine h {s with heap:=h'} ⟨I.ok,I.os,I.bare,⟨fun b o e n hb J=>?_,fun b o e n hb J=>?_,I.base.free,fun b o e J=>?_,I.base.tups,I.base.frzs,I.base.tbls⟩,⟨m,hn.sameBut l (Ne.symm (am x c G)),fun j y v' F S e3=>?_⟩,fun y c' e=>?_,I.free,I.freeC,fun p hp=>?_,D ⟨oc,aU,I.freeC x c G⟩ l,by simpa using I.len⟩ ⟨c,l,.inr G⟩
  ·exact (l.2 b (aQ (av (aq e) (I.ok.cab x c ah G)))).trans (I.base.keep b o e n hb J)
  ·obtain ⟨sl,F⟩:=I.base.slot b o e n hb J;exact ⟨sl,(l.2 b (aQ (av (aq e) (I.ok.cab x c ah G)))).trans F⟩
  ·obtain ⟨o',F⟩:=I.base.there b o e J;exact ⟨o',(l.2 b (aQ (av (aq e) (I.ok.cab x c ah G)))).trans F⟩
  ·by_cases hj:j=i
   ·subst hj;rw [hi] at F;cases F
    rw [cg Y] at S;cases S;exact ⟨u,r,.inr ⟨.inl Z,c,G,ap⟩⟩
   ·rw [fj (Ne.symm hj)] at S;obtain ⟨u',r',q⟩:=hl j y v' F S e3;refine ⟨u',r',?_⟩
    rcases q with q|⟨k,c',e,z'⟩
    ·exact .inl q
    ·refine .inr ⟨k,c',e,z'.sameBut l ?_⟩;rintro rfl;exact hj (uQ hN F (I.ok.inj _ _ _ e G▸hi))
  ·by_cases aD:c'=c
   ·subst aD;exact ⟨_,ap⟩
   ·obtain ⟨w2,z2⟩:=I.cell y c' e;exact ⟨w2,z2.sameBut l aD⟩
  ·obtain ⟨e,n,ne,nf,d⟩:=I.pin p hp;refine ⟨(l.2 p.1 ?_).trans e,n,ne,nf,d⟩;intro q;rw [q,aU] at e;have q':oc=p.2:=ay e;exact d w' (by rw [<- q'];exact a3)
theorem lO {M:Model} {A:Around} {E:Value->Shared->Prop} {i:Nat} {x:Str} {v:V} {u:Value} {Q:Unit->Shared->Prop} (I:Inv X ke σ H s) (O:X.N.Nodup) (G:X.N[i]?=some x) (D:fC X.env.scope x) (r:RelV v u)
  (h:∀l,Inv X ke (σ.set i (some v)) H l->Q () l) (J:X.fn x=true\/X.env.scope.names.lookup x=some .local:=by first|exact .inl rfl|exact .inr rfl|assumption):wpAny M A (storeName X.env x u) Q E s :=
 B4 I O G D r (fun l F _=>h l F) J
theorem Inv.call' {h:Shared} {ch:List Addr} (I:Inv X ke σ H s) (E:h.os=s.os) (u:Un (j8 X.stack) ch H H' s.heap h.heap) (l:HOk X.prog X.w H' h.heap) (G:AllBare h.gens)
  (D:∀b∈ch,(b∈X.ex\/X.s₀.heap.objs.size<=b)/\b≠X.env.locals/\(∀x c,X.env.cells.lookup x=some c->c≠b)/\∀p∈X.pn++ke,p.1≠b):Inv X ke σ H' h:=by
 obtain ⟨h',g',d',t',F⟩:=h;have e:F=s.os:=E;subst e;exact I.call (g':=g') (t':=t') (d':=d') u l G D
end
abbrev XK:=Value->Option Addr->Hp->Prop
abbrev St:=List (Option V)
abbrev VK:=V->Hp->Prop
abbrev TE:=St->Hp->VK->Prop
abbrev TT:=St->Hp->(Bool->Hp->Prop)->Prop
abbrev TA:=St->Hp->(List V->Hp->Prop)->Prop
structure Ends where
 nx:St->Hp->Prop
 rt:VK
 bk:St->Hp->Prop:=fun _ _=>False
 ct:St->Hp->Prop:=fun _ _=>False
abbrev TS:=Ends->St->Hp->Prop
def EP (X:Cx) (l:List (Addr×Obj)) (E:St) (Q:VK) (u:Value) (D:Shared):Prop:=∃v h,Inv X l E h D/\RelV v u/\Q v h
def TP (X:Cx) (l:List (Addr×Obj)) (E:St) (Q:Bool->Hp->Prop) (b:Bool) (D:Shared):Prop:=∃h,Inv X l E h D/\Q b h
def AP (X:Cx) (D:List (Addr×Obj)) (F:St) (Q:List V->Hp->Prop) (us:List Value) (E:Shared):Prop:=∃h l,Inv X D F l E/\Vals h us/\Q h l
def SP (X:Cx) (E:List (Addr×Obj)) (D:Ends) (f:Flow) (F:Shared):Prop :=
 match f with
 |.next=>∃h l,Inv X E h l F/\D.nx h l
 |.brk=>∃h l,Inv X E h l F/\D.bk h l
 |.cont=>∃h l,Inv X E h l F/\D.ct h l
 |.ret u=>∃v h l,Inv X E h l F/\RelV v u/\D.rt v l
def PE (X:Cx) (e:Expr) (t:TE):Prop :=
 ∀(l:List (Addr×Obj)) (s:Shared) (h:St) (H:Hp) (Q:VK),Inv X l h H s->t h H Q->wpAny (model X.prog X.w) X.A (eval e X.env) (EP X l h Q) X.xe s
def PT (X:Cx) (e:Expr) (t:TT):Prop :=
 ∀(l:List (Addr×Obj)) (s:Shared) (h:St) (H:Hp) (Q:Bool->Hp->Prop),Inv X l h H s->t h H Q->wpAny (model X.prog X.w) X.A (isTrue e X.env (eval e X.env)) (TP X l h Q) X.xe s
def PW (X:Cx) (e:Expr) (t:TT):Prop :=
 ∀(h:Sem Value) (D:List (Addr×Obj)) (s:Shared) (l:St) (H:Hp) (Q:Bool->Hp->Prop),Inv X D l H s->t l H Q->wpAny (model X.prog X.w) X.A (isTrue e X.env h) (TP X D l Q) X.xe s
theorem PW.pt {X:Cx} {e:Expr} {t:TT} (h:PW X e t):PT X e t:=h _
def PA (X:Cx) (E:List Expr) (t:TA):Prop :=
 ∀(D:Pos) (l:List (Addr×Obj)) (s:Shared) (h:St) (H:Hp) (Q:List V->Hp->Prop),Inv X l h H s->t h H Q->wpAny (model X.prog X.w) X.A (spliced (backTo D (starEach E X.env))) (AP X l h Q) X.xe s
def PS (X:Cx) (st:Stmt) (t:TS):Prop :=
 ∀(h:List (Addr×Obj)) (s:Shared) (l:St) (H:Hp) (D:Ends),Inv X h l H s->t D l H->wpAny (model X.prog X.w) X.A (exec st X.env) (SP X h D) X.xe s
def PSs (X:Cx) (st:List Stmt) (t:TS):Prop :=
 ∀(h:List (Addr×Obj)) (s:Shared) (l:St) (H:Hp) (D:Ends),Inv X h l H s->t D l H->wpAny (model X.prog X.w) X.A (execs st X.env) (SP X h D) X.xe s
theorem jZ {l:Type} {t:Sem l} {Q D:l->Shared->Prop} {M:Model} {A:Around} {E:Value->Shared->Prop} {s:Shared} (h:wpAny M A t Q E s) (F:∀a s,Q a s->D a s):wpAny M A t D E s:=bn h F fun _ _ x=>x
section
variable {X:Cx}
def xG (i:Nat):TE:=fun h H Q=>∃v,h[i]?=some (some v)/\Q v H
def tC (v:V):TE:=fun _ H Q=>Q v H
theorem V1 {i:Nat} {x:Str} {ko:Pos} (V:X.N[i]?=some x) (hv:gX X.env.scope x) (G:(x == ("__debug__":Str))=false:=by decide) (J:(x == ("__classdict__":Str))=false:=by decide):PE X (.Name x ko) (xG i):=by
 intro Z s S H Q I h;obtain ⟨v,e,h⟩:=h;obtain ⟨m,hn,hl⟩:=I.loc;obtain ⟨u,r,l⟩:=hl i x v V e hv;have F:EP X Z S Q u s:=⟨v,H,I,r,h⟩
 rcases l with ⟨E,Y⟩|⟨E,c,O,D⟩
 ·exact wpAny_Name (wpAny_loadName_local I.ok.kind E hn Y F) G
 ·rcases E with E|E
  ·exact wpAny_Name (wpAny_loadName_cell I.ok.kind E O D F) G
  ·exact wpAny_Name (wpAny_loadName_free I.ok.kind E O D F J) G
theorem jD {i j l}:PE X (.Constant (.int i) j l) (tC (.int i)):=fun _ _ _ H _ I h=>wpAny_Constant_int ⟨.int i,H,I.tok _,⟨_,rfl⟩,h⟩
theorem zT {b j l}:PE X (.Constant (.bool b) j l) (tC (.bl b)):=fun _ _ _ H _ I h=>Constant_bool ⟨.bl b,H,I,rfl,h⟩
theorem V3 {j l}:PE X (.Constant .none j l) (tC .non):=fun _ _ _ H _ I h=>Constant_none ⟨.non,H,I,rfl,h⟩
theorem j4 {x j l}:PE X (.Constant (.str x) j l) (tC (.str x)):=fun _ _ _ H _ I h=>Calls.Constant_str ⟨.str x,H,I.tok _,⟨_,rfl⟩,h⟩
def Gl (X:Cx) (x:Str):Prop:=X.env.kindOf x=some .globalImplicit
theorem QU {E:Value->Shared->Prop} {D:List (Addr×Obj)} {s:Shared} {F:St} {H:Hp} {x:Str} {u:Value} {G:Pos} {Q:Value->Shared->Prop} (I:Inv X D F H s) (O:Gl X x) (l:X.mg x=some u) (h:Q u s)
  (J:(x == ("__debug__":Str))=false:=by decide):wpAny (model X.prog X.w) X.A (eval (.Name x G) X.env) Q E s :=
 Calls.Name_function_global I.ok.kind O (Calls.loadGlobal_global (by rw [I.ok.glob];exact I.mod.glob.keeps I.bk) l h) J
theorem cJ {E:Value->Shared->Prop} {D:List (Addr×Obj)} {s:Shared} {J:St} {H:Hp} {x:Str} {u:Value} {S:Pos} {Q:Value->Shared->Prop} (I:Inv X D J H s) (Y:Gl X x) (l:X.mg x=none) (V:bootBuiltins x=some u) (h:Q u s)
  (Z:x≠"__name__":=by decide) (O:(x == ("__debug__":Str))=false:=by decide):wpAny (model X.prog X.w) X.A (eval (.Name x S) X.env) Q E s:=by
 obtain ⟨mb,G,F⟩:=I.mod.blt;exact Calls.Name_function_global I.ok.kind Y (Calls.loadGlobal_builtin (by rw [I.ok.glob];exact I.mod.glob.keeps I.bk) l (by rw [I.ok.blt];exact G.keeps I.bk) ((F x Z).trans V) h) O
theorem zI {x:Str} {v:V} {u:Value} {D:Pos} (F:Gl X x) (l:X.mg x=some u) (r:RelV v u) (E:(x == ("__debug__":Str))=false:=by decide):PE X (.Name x D) (tC v) :=
 fun _ _ _ H _ I h=>QU I F l ⟨v,H,I,r,h⟩ E
theorem QT {x:Str} {v:V} {u:Value} {D:Pos} (G:Gl X x) (l:X.mg x=none) (F:bootBuiltins x=some u) (r:RelV v u) (J:x≠"__name__":=by decide) (E:(x == ("__debug__":Str))=false:=by decide):PE X (.Name x D) (tC v) :=
 fun _ _ _ H _ I h=>cJ I G l F ⟨v,H,I,r,h⟩ J E
variable {a b:Expr} {ta tb:TE} {ko:Pos}
def tB (t:TE):TT:=fun l H Q=>t l H fun x h=>∃c,x=.bl c/\Q c h
theorem q9 {e:Expr} {t:TE} (h:PE X e t) (he:∀l,isTrue e X.env l=(do let v <- l;standAt e.pos;holding [v] (truthy v)):=by intro _;rfl):PT X e (tB t):=by
 intro G s O H Q I S;refine isTrue_plain (jZ (h G s O H _ I S) fun v V ⟨x,D,J,F,E⟩=>?_) (he _);obtain ⟨d,rfl,q⟩:=E;cases F;exact dv ⟨D,J,q⟩
variable {tA tB':TT} {rest:List Expr}
def XU (t u:TT):TT:=fun l H Q=>t l H fun c h=>if c=true then u l h Q else Q false h
def YK (t u:TT):TT:=fun l H Q=>t l H fun c h=>if c=true then Q true h else u l h Q
def XO (t:TT):TT:=fun l H Q=>t l H fun c h=>Q (!c) h
theorem lY (E:PT X a tA):PW X (.BoolOp .And [a] ko) tA:=by
 intro G l s D H Q I h;refine isTrue_and (jZ (E l s D H Q I h) fun c F e=>?_);cases c with
 |true=>exact isTrue_and_nil e
 |false=>exact e
theorem bG (E:PT X a tA):PW X (.BoolOp .Or [a] ko) tA:=by
 intro G l s D H Q I h;refine isTrue_or (jZ (E l s D H Q I h) fun c F e=>?_);cases c with
 |false=>exact isTrue_or_nil e
 |true=>exact e
theorem mH (V:PT X a tA) (O:PW X (.BoolOp .And (b::rest) ko) tB'):PW X (.BoolOp .And (a::b::rest) ko) (XU tA tB'):=by
 intro S E s G H Q I h;refine isTrue_and (jZ (V E s G H _ I h) fun c J ⟨l,F,D⟩=>?_);cases c with
 |true=>exact O S E J G l Q F D
 |false=>exact ⟨l,F,D⟩
theorem QI (V:PT X a tA) (O:PW X (.BoolOp .Or (b::rest) ko) tB'):PW X (.BoolOp .Or (a::b::rest) ko) (YK tA tB'):=by
 intro S E s G H Q I h;refine isTrue_or (jZ (V E s G H _ I h) fun c J ⟨l,F,D⟩=>?_);cases c with
 |true=>exact ⟨l,F,D⟩
 |false=>exact O S E J G l Q F D
theorem QE (F:PT X a tA):PT X (.UnaryOp .Not a ko) (XO tA):=by
 intro D s E H Q I h;exact isTrue_not (F D s E H (fun c l=>Q (!c) l) I h)
def WY (ta tb:TE):TE:=fun l H Q=>ta l H fun x h=>∃c,x=.bl c/\if c=true then tb l h Q else Q (.bl false) h
def XN (ta tb:TE):TE:=fun l H Q=>ta l H fun x h=>∃c,x=.bl c/\if c=true then Q (.bl true) h else tb l h Q
def WS (ta:TE):TE:=fun l H Q=>ta l H fun x h=>∃c,x=.bl c/\Q (.bl (!c)) h
theorem cG {D} {t:TE} (h:PE X a t):PE X (.BoolOp D [a] ko) t:=fun l s E H Q I F=>BoolOp_one (h l s E H Q I F)
theorem cH (V:PE X a ta) (S:PE X (.BoolOp .And (b::rest) ko) tb):PE X (.BoolOp .And (a::b::rest) ko) (WY ta tb):=by
 intro E s G H Q I h;refine BoolOp_and (jZ (V E s G H _ I h) fun v O ⟨x,D,F,J,l⟩=>?_);obtain ⟨c,rfl,l⟩:=l;cases J;refine dv ?_;cases c with
 |true=>exact S E O G D Q F l
 |false=>exact ⟨.bl false,D,F,rfl,l⟩
theorem W4 (V:PE X a ta) (S:PE X (.BoolOp .Or (b::rest) ko) tb):PE X (.BoolOp .Or (a::b::rest) ko) (XN ta tb):=by
 intro E s G H Q I h;refine BoolOp_or (jZ (V E s G H _ I h) fun v O ⟨x,D,F,J,l⟩=>?_);obtain ⟨c,rfl,l⟩:=l;cases J;refine dv ?_;cases c with
 |false=>exact S E O G D Q F l
 |true=>exact ⟨.bl true,D,F,rfl,l⟩
theorem V2 (O:PE X a ta):PE X (.UnaryOp .Not a ko) (WS ta):=by
 intro E s J H Q I h;refine UnaryOp_ (jZ (O E s J H _ I h) fun v S ⟨x,D,G,F,l⟩=>?_);obtain ⟨c,rfl,l⟩:=l;cases F;exact not_of (dv ⟨.bl (!c),D,G,rfl,l⟩)
def YL (t:TT) (ta tb:TE):TE:=fun h H Q=>t h H fun c l=>if c=true then ta h l Q else tb h l Q
theorem zQ {c:Expr} (V:PT X c tA) (S:PE X a ta) (O:PE X b tb):PE X (.IfExp c a b ko) (YL tA ta tb):=by
 intro l s D H Q I h;refine wpAny_IfExp (jZ (V l s D H _ I h) fun d G ⟨E,J,F⟩=>?_);cases d with
 |true=>exact S l G D E Q J F
 |false=>exact O l G D E Q J F
end
def SqL (K:PySem.W.Frag) (H:Hp) (a:Addr) (xs:List V):Prop :=
 Rd H a (.lst xs)\/
  ∃(o:Obj) (h:Array Value) (n:Nat),K.lookup a=some o/\o.cls=.type "list"/\o.dict=none/\o.data=.seq h n/\h.size<=sizeLine/\Vals xs h.toList
def SqT (K:PySem.W.Frag) (H:Hp) (a:Addr) (xs:List V):Prop :=
 Rd H a (.tup xs)\/
  ∃(o:Obj) (h:Array Value) (n:Nat),K.lookup a=some o/\o.cls=.type "tuple"/\o.data=.seq h n/\h.size<=sizeLine/\Vals xs h.toList
def YC:Value->Option V
 |.none=>some .non
 |.bool b=>some (.bl b)
 |.int i _=>some (.int i)
 |.str x _=>some (.str x)
 |.bytes b _=>some (.byt b)
 |.float b _=>some (.flt b)
 |.ref a=>some (.ref a)
 |.type n=>some (.ty n)
 |_=>none
variable {u:Value}
theorem RelV.abs {x:V} (r:RelV x u):YC u=some x:=by
 cases x with
 |non=>cases r;rfl
 |bl _=>cases r;rfl
 |int _=>obtain ⟨t,rfl⟩:=r;rfl
 |str _=>obtain ⟨t,rfl⟩:=r;rfl
 |byt _=>obtain ⟨t,rfl⟩:=r;rfl
 |flt _=>obtain ⟨t,rfl⟩:=r;rfl
 |ref _=>cases r;rfl
 |ty _=>cases r;rfl
theorem RelV.inj {x y:V} (r:RelV x u) (q:RelV y u):x=y:=ay (r.abs.symm.trans q.abs)
theorem Vals.inj:∀{xs ys:List V} {us:List Value},Vals xs us->Vals ys us->xs=ys
 |_,_,_,.nil,.nil=>rfl
 |_,_,_,.cons r t,.cons h t'=>by rw [r.inj h,Vals.inj t t']
section
variable {X:Cx} {ke:List (Addr×Obj)} {σ:St} {H:Hp} {s:Shared} {a:Addr} {xs ys:List V}
theorem SqL.of {K:PySem.W.Frag} (h:H a=some (.lst xs)):SqL K H a xs:=.inl (.inl h)
theorem SqT.of {K:PySem.W.Frag} (h:H a=some (.tup xs)):SqT K H a xs:=.inl (.inl h)
theorem Inv.list (I:Inv X ke σ H s) (h:SqL X.K H a xs):∃its:List Value,Vals xs its/\PlainL s.heap a its.toArray/\xs.length<=sizeLine:=by
 rcases h with h|⟨o,its,n,D,E,l,F,G,r⟩
 ·obtain ⟨z,its,n,r,e⟩:=h.ok I.hok;exact ⟨its,r,⟨_,n,e,rfl,rfl,rfl⟩,z⟩
 ·refine ⟨its.toList,r,⟨o,n,I.kIn a o D,E,l,by simpa using F⟩,?_⟩;have e:=r.length;simp only [gz] at e
  lia
theorem Inv.tuple (I:Inv X ke σ H s) (h:SqT X.K H a xs):∃its:List Value,Vals xs its/\IsTup s.heap a its.toArray/\xs.length<=sizeLine:=by
 rcases h with h|⟨o,its,n,D,E,l,F,r⟩
 ·obtain ⟨z,its,r,p⟩:=h.ok I.hok;exact ⟨its,r,p,z⟩
 ·refine ⟨its.toList,r,⟨o,I.kIn a o D,E,n,by simpa using l⟩,?_⟩;have e:=r.length;simp only [gz] at e
  lia
theorem Inv.list_inj (I:Inv X ke σ H s) (h:SqL X.K H a xs) (h':SqL X.K H a ys):xs=ys:=by
 obtain ⟨l,r,⟨o,n,e,_,_,d⟩,_⟩:=I.list h;obtain ⟨its',F,⟨G,J,D,_,_,E⟩,_⟩:=I.list h';rw [e] at D;cases D
 rw [d] at E;injection E with d1 _
 have:l=its':=by simpa using cf Array.toList d1
 subst this;exact r.inj F
theorem Inv.tuple_inj (I:Inv X ke σ H s) (h:SqT X.K H a xs) (h':SqT X.K H a ys):xs=ys:=by
 obtain ⟨l,r,⟨o,e,_,n,d⟩,_⟩:=I.tuple h;obtain ⟨its',F,⟨G,D,_,J,E⟩,_⟩:=I.tuple h';rw [e] at D;cases D
 rw [d] at E;injection E with d1 _
 have:l=its':=by simpa using cf Array.toList d1
 subst this;exact r.inj F
end
abbrev Cx.wish (X:Cx) (E:Value->Shared->Prop):Cx:={X with xe:=E}
abbrev Cx.nox (X:Cx):Cx:=X.wish fun _ _=>False
variable {X:Cx}
theorem Cx.Ok.wish (h:X.Ok) (E:Value->Shared->Prop):(X.wish E).Ok :=
 ⟨h.mod,h.kind,h.glob,h.blt,h.above,h.inj,h.has,h.cab,h.hd,h.frames,h.stk,h.exf,h.bs,h.bsz,h.noex,h.exfs,h.funs,h.frf⟩
theorem Cx.Ok.unwish {E:Value->Shared->Prop} (h:(X.wish E).Ok):X.Ok :=
 ⟨h.mod,h.kind,h.glob,h.blt,h.above,h.inj,h.has,h.cab,h.hd,h.frames,h.stk,h.exf,h.bs,h.bsz,h.noex,h.exfs,h.funs,h.frf⟩
section
variable {X:Cx} {ke:List (Addr×Obj)} {σ:St} {H:Hp} {s:Shared} {E:Value->Shared->Prop}
theorem Inv.wish (I:Inv X ke σ H s) (E:Value->Shared->Prop):Inv (X.wish E) ke σ H s:=⟨I.ok.wish E,I.os,I.bare,I.base,I.loc,I.cell,I.free,I.freeC,I.pin,I.hok,I.len⟩
theorem Inv.unwish (I:Inv (X.wish E) ke σ H s):Inv X ke σ H s:=⟨I.ok.unwish,I.os,I.bare,I.base,I.loc,I.cell,I.free,I.freeC,I.pin,I.hok,I.len⟩
theorem SP.unwish {D:Ends} {f:Flow} {G:Shared} (h:SP (X.wish E) ke D f G):SP X ke D f G:=by
 cases f with
 |next=>obtain ⟨l,F,I,q⟩:=h;exact ⟨l,F,I.unwish,q⟩
 |brk=>obtain ⟨l,F,I,q⟩:=h;exact ⟨l,F,I.unwish,q⟩
 |cont=>obtain ⟨l,F,I,q⟩:=h;exact ⟨l,F,I.unwish,q⟩
 |ret u=>obtain ⟨v,l,F,I,r,q⟩:=h;exact ⟨v,l,F,I.unwish,r,q⟩
theorem PE.nox {e:Expr} {t:TE} (h:PE X.nox e t):PE X e t:=fun ke s σ H Q I F =>
 bn (h ke s σ H Q (I.wish _) F) (fun _ _ ⟨v,D,l,r,q⟩=>⟨v,D,l.unwish,r,q⟩) fun _ _ z=>False.elim z
theorem PSs.nox {st:List Stmt} {t:TS} (h:PSs X.nox st t):PSs X st t:=fun ke s σ H D I l =>
 bn (h ke s σ H D (I.wish _) l) (fun _ _ q=>q.unwish) fun _ _ z=>False.elim z
end
section
variable {X:Cx} {st:Stmt} {rest:List Stmt} {t u:TS} {e:Expr} {te:TE} {ko:Pos}
def WT:TS:=fun D h H=>D.nx h H
def XM (t u:TS):TS:=fun D h H=>t {D with nx:=u D} h H
theorem kA:PSs X [] WT:=fun _ _ l H _ I h=>fw ⟨l,H,I,h⟩
theorem jH (O:PS X st t) (J:PSs X rest u):PSs X (st::rest) (XM t u):=by
 intro E s S H D I h;refine iq (jZ (O E s S H {D with nx:=u D} I h) fun f G q=>?_);cases f with
 |next =>
  obtain ⟨l,V,F,q⟩:=q;exact J E G l V D F q
 |ret v=>exact q
 |brk=>exact q
 |cont=>exact q
theorem kM (E:PS X st t):PSs X [st] t:=by
 intro l s F H D I h;refine iq (jZ (E l s F H D I h) fun f G q=>?_);cases f with
 |next=>exact fw q
 |ret v=>exact q
 |brk=>exact q
 |cont=>exact q
theorem Inv.quiet {h:List (Addr×Obj)} {l:St} {H:Hp} {s:Shared} (I:Inv X h l H s):interactive X.env=false:=by simp [interactive,I.ok.kind]
def WU (te:TE):TS:=fun D h H=>te h H fun _ l=>D.nx h l
theorem vL (he:PE X e te) (O:swapsWith e none ko.line X.env=pure false:=by rfl):PS X (.Expr e ko) (WU te):=by
 intro G s l H D I h;exact wpAny_Expr_any (jZ (he G s l H _ I h) fun v V ⟨x,E,J,S,F⟩=>⟨l,E,J,F⟩) I.quiet O
def GG (te:TE):TS:=fun D h H=>te h H D.rt
theorem AA (he:PE X e te):PS X (.Return (some e) ko) (GG te):=by
 intro G s l H D I h;exact wpAny_Return_some (jZ (he G s l H _ I h) fun v S ⟨x,E,O,J,F⟩=>⟨x,l,E,O,J,F⟩)
def XR (c:TT) (t u:TS):TS:=fun D h H=>c h H fun b l=>if b=true then t D h l else u D h l
theorem j9 {c:Expr} {a b:List Stmt} {S:TT} (Z:PT X c S) (Y:PSs X a t) (V:PSs X b u):PS X (.If c a b ko) (XR S t u):=by
 intro l s E H D I h;refine wpAny_If (jZ (Z l s E H _ I h) fun d J ⟨F,O,G⟩=>?_);cases d with
 |true=>exact Y l J E F D O G
 |false=>exact V l J E F D O G
end
abbrev TG:=V->St->Hp->(St->Hp->Prop)->Prop
abbrev bV:=List V->St->Hp->(St->Hp->Prop)->Prop
def PG (X:Cx) (h:Expr) (t:TG):Prop :=
 ∀(D:List (Addr×Obj)) (s:Shared) (E:St) (H:Hp) (v:V) (u:Value) (Q:St->Hp->Prop),Inv X D E H s->RelV v u->t v E H Q->
  wpAny (model X.prog X.w) X.A (assign h X.env u) (fun _ G=>∃l F,Inv X D l F G/\Q l F) X.xe s
def gY (X:Cx) (J:List Expr) (t:bV):Prop :=
 ∀(l:List (Addr×Obj)) (s:Shared) (E:St) (H:Hp) (D:List V) (G:List Value) (Q:St->Hp->Prop),Inv X l E H s->Vals D G->t D E H Q->
  wpAny (model X.prog X.w) X.A (assignInOrder ((assignEach J X.env).map (·.2)) G) (fun _ I=>∃h F,Inv X l h F I/\Q h F) X.xe s
abbrev gQ:=V->V->V->Hp->(Hp->Prop)->Prop
def xO (X:Cx) (t:gQ):Prop :=
 ∀(h:List (Addr×Obj)) (s:Shared) (E:St) (H:Hp) (o i v:V) (D l u:Value) (Q:Hp->Prop),Inv X h E H s->RelV o D->RelV i l->RelV v u->t o i v H Q->
  wpAny (model X.prog X.w) X.A (setItem D l u) (fun _ G=>∃F,Inv X h E F G/\Q F) X.xe s
abbrev nW:=V->V->Hp->VK->Prop
def xY (X:Cx) (D:Operator) (t:nW):Prop :=
 ∀(h:List (Addr×Obj)) (s:Shared) (l:St) (H:Hp) (x y:V) (v u:Value) (Q:VK),Inv X h l H s->RelV x v->RelV y u->t x y H Q->
  wpAny (model X.prog X.w) X.A (inplaceOp D v u) (EP X h l Q) X.xe s
section
variable {X:Cx} {ko:Pos}
def bJ (i:Nat):TG:=fun v h H Q=>Q (h.set i (some v)) H
theorem kT {i:Nat} {x:Str} (G:X.N.Nodup) (E:X.N[i]?=some x) (l:fC X.env.scope x) (F:X.fn x=true\/X.env.scope.names.lookup x=some .local:=by first|exact .inl rfl|exact .inr rfl|assumption):PG X (.Name x ko) (bJ i):=by
 intro J s S H v u Q I r h;exact wpAny_assign_Name (lO I G E l r (fun O D=>⟨_,H,D,h⟩) F)
def X7:bV:=fun h l H Q=>h=[]/\Q l H
def XE (t:TG) (u:bV):bV:=fun l D H Q=>∃v r,l=v::r/\t v D H fun h E=>u r h E Q
theorem zH:gY X [] X7:=by
 intro E s l H D F Q I r h;obtain ⟨e,h⟩:=h;subst e;cases r;exact assignInOrder_nil ⟨l,H,I,h⟩
theorem qO {e:Expr} {l:List Expr} {t:TG} {u:bV} (h1:PG X e t) (V:gY X l u)
  (Y:(assignEach (e::l) X.env).map (·.2)=assign e X.env::(assignEach l X.env).map (·.2):=by rfl):gY X (e::l) (XE t u):=by
 intro E s G H vs us Q I r h;obtain ⟨v,vr,e1,h⟩:=h;subst e1;cases r with
 |cons r J =>
  rw [Y];refine assignInOrder_cons (jZ (h1 E s G H _ _ _ I r h) fun _ S ⟨D,O,Z,F⟩=>?_);exact V E S D O _ _ Q Z J F
def GQ (K:PySem.W.Frag) (n:Nat) (t:bV):TG:=fun v l H Q=>∃a h,v=.ref a/\SqT K H a h/\h.length=n/\t h l H Q
theorem mI {l:List Expr} {k:Nat} {t:bV} {n:Nat} (hc:X.calm=true) (h:gY X l t)
  (Y:(assignEach l X.env).length=n:=by rfl) (D:(assignEach l X.env).findIdx? (·.1)=none:=by rfl):PG X (.Tuple l k ko) (GQ X.K n t):=by
 intro G s F H v u Q I r E;obtain ⟨a,V,e1,S,hl,E⟩:=E;subst e1;cases r;obtain ⟨ah,J,ht,hz⟩:=I.tuple S;refine assign_Tuple_tuple (I.ok.hd hc) ht (by simp [Y,<- hl,J.length]) D fun h' O=>?_
 have Z:Inv X G F H {s with heap:=h'}:=I.kept (t':=s.toks) fun b o e=>O b o (aQ (aq e)) e
 exact h G _ F H V _ Q Z (by simpa using J) E
def X6 (to D:TE) (t:gQ):TG:=fun v h H Q=>to h H fun o l=>D h l fun i E=>t o i v E fun F=>Q h F
theorem gG {o i:Expr} {to G:TE} {t:gQ} (ho:PE X o to) (hi:PE X i G) (hs:xO X t)
  (ha:∀v,assign (.Subscript o i ko) X.env v=(do
   let l <- holding [v] (eval o X.env)
   let D <- holding [v,l] (eval i X.env)
   standAt ko
   holding [v,l,D] (setItem l D v)
   release [v,l,D] []):=by intro _;rfl):PG X (.Subscript o i ko) (X6 to G t):=by
 intro F s E H v u Q I r h;rw [ha];refine ad (ge (jZ (ho F s E H _ I h) fun l s1 ⟨x,Z,I1,S,J⟩=>?_));refine ad (ge (jZ (hi F s1 E Z _ I1 J) fun D s2 ⟨y,H2,Y,V,O⟩=>?_));refine ad (gg (ad (ge (jZ (hs F s2 E H2 x y v l D u _ Y S V r O) fun _ s3 ⟨H3,I3,q3⟩=>?_))));exact wpAny_release ⟨E,H3,I3,q3⟩
def xH (E:TE) (g:TG):TS:=fun D h H=>E h H fun x l=>g x h l D.nx
theorem gE {l e:Expr} {F:TE} {g:TG} (he:PE X e F) (hg:PG X l g) (Y:swapsWithSole [l] e ko.line X.env=pure false:=by rfl) (hw:swappedStores [l] e X.env=pure none:=by rfl)
  (h1:(assignEach [l] X.env).map (·.2)=[assign l X.env]:=by rfl):PS X (.Assign [l] e ko) (xH F g):=by
 intro G s E H D I h;refine wpAny_Assign_stores (jZ (he G s E H _ I h) fun v V ⟨x,S,Z,O,J⟩=>?_) Y hw;rw [h1];exact jZ (hg G V E S x v _ Z O J) fun _ s2 q=>q
theorem HG {i:Nat} {x:Str} {e:Expr} {E:TE} {l:Pos} (hN:X.N.Nodup) (hi:X.N[i]?=some x) (V:fC X.env.scope x) (he:PE X e E) (Z:swapsWith e (some (.Name x l)) ko.line X.env=pure false:=by rfl) (Y:X.fn x=true\/X.env.scope.names.lookup x=some .local:=by first|exact .inl rfl|exact .inr rfl|assumption) :
  PS X (.Assign [.Name x l] e ko) (xH E (bJ i)):=by
 intro ke s J H D I h;refine wpAny_Assign_Name (jZ (he ke s J H _ I h) fun v s1 ⟨y,S,I1,G,F⟩=>?_) Z;exact lO I1 hN hi V G (fun s2 O=>⟨_,S,O,F⟩) Y
def WX (to Z O:TE) (h:V->V->Hp->VK->Prop) (F:nW) (l:gQ):TS:=fun D E H=>to E H fun o I=>Z E I fun i J=>h o i J fun x H3=>O E H3 fun y Y=>F x y Y fun z G=>l o i z G fun S=>D.nx E S
def GU (X:Cx) (t:V->V->Hp->VK->Prop):Prop :=
 ∀(h:List (Addr×Obj)) (s:Shared) (E:St) (H:Hp) (o i:V) (D l:Value) (Q:VK),Inv X h E H s->RelV o D->RelV i l->t o i H Q->
  wpAny (model X.prog X.w) X.A (getItem D l) (EP X h E Q) X.xe s
theorem wB {o i e:Expr} {to ti te:TE} {E:V->V->Hp->VK->Prop} {Y:nW} {F:gQ} {op:Operator} {kh:Pos} (ho:PE X o to) (hi:PE X i ti) (hg:GU X E) (he:PE X e te) (hp:xY X op Y) (hs:xO X F)
  (ha:∀O J l,augStore i O J l=(do holding [l,O,J] (setItem O J l);release [l,O,J] [];pure .next):=by intros;rfl):PS X (.AugAssign (.Subscript o i kh) op e ko) (WX to ti te E Y F):=by
 intro S s G H D I h;refine wpAny_AugAssign_SubscriptAny (jZ (ho S s G H _ I h) fun O s1 ⟨x1,H1,I1,r1,q1⟩=>?_) ha;refine jZ (hi S s1 G H1 _ I1 q1) fun J s2 ⟨x2,H2,I2,r2,q2⟩=>?_
 refine jZ (hg S s2 G H2 x1 x2 O J _ I2 r1 r2 q2) fun Z s3 ⟨x3,H3,I3,r3,q3⟩=>?_
 refine jZ (he S s3 G H3 _ I3 q3) fun v s4 ⟨x4,H4,I4,r4,q4⟩=>?_
 refine jZ (hp S s4 G H4 x3 x4 Z v _ I4 r3 r4 q4) fun l s5 ⟨x5,H5,I5,r5,q5⟩=>?_
 exact jZ (hs S s5 G H5 x1 x2 x5 O J l _ I5 r1 r2 r5 q5) fun _ s6 ⟨H6,I6,q6⟩=>⟨G,H6,I6,q6⟩
def GZ (f:Int->Int->Int):nW:=fun x y H Q=>∃i j,x=.int i/\y=.int j/\Q (.int (f i j)) H
theorem FP:xY X .Add (GZ fun i j=>i+j):=by
 intro J s O H x y v u Q I D F h;obtain ⟨i,j,l,E,q⟩:=h;subst l;subst E
 obtain ⟨t,rfl⟩:=D;obtain ⟨G,rfl⟩:=F;exact iadd_int ⟨.int _,H,I.tok _,⟨_,rfl⟩,q⟩
theorem WH:xY X .Sub (GZ fun i j=>i - j):=by
 intro J s O H x y v u Q I D F h;obtain ⟨i,j,l,E,q⟩:=h;subst l;subst E
 obtain ⟨t,rfl⟩:=D;obtain ⟨G,rfl⟩:=F;exact isub_int ⟨.int _,H,I.tok _,⟨_,rfl⟩,q⟩
end
structure It where
 go:Nat->Hp->Prop
 yld:Nat->Hp->V->Hp->Prop
 stop:Nat->Hp->Prop
def JK (X:Cx) (h:List (Addr×Obj)) (H:Hp) (b:Addr):Prop :=
 H b=none/\b≠X.env.locals/\b∉X.fs/\(b∈X.ex\/X.s₀.heap.objs.size<=b)/\(∀x c,X.env.cells.lookup x=some c->c≠b)/\∀p∈X.pn++h,p.1≠b
theorem Inv.fpOk {l:List (Addr×Obj)} {E:St} {H D:Hp} {s:Shared} {b:Addr} (I:Inv X l E H s) (h:s.heap.objs.size<=b) (G:D b=none):JK X l D b:=by
 refine ⟨G,ek (av I.lt h),I.nofs h,.inr (aI I.sz h),fun x c e z=>?_,fun p F z=>?_⟩
 ·obtain ⟨v,q⟩:=I.cell x c e;exact absurd (av q.lt (by rw [z];exact h)) (bz _)
 ·exact absurd (av (aq (I.pin p F).1) (by rw [z];exact h)) (bz _)
structure Turn (P:Program) (w:World) (K:PySem.W.Frag) (tg:Expr) (J:It) (fp:List Addr) (it:Addr) (tn:Nat->Heap->Prop):Prop where
 mem:it∈fp
 obj:∀i h,tn i h->∀b∈fp,∃o,h.get? b=some o/\∀v,o.data≠.cell v
 keep:∀i h h',tn i h->(∀b∈fp,∀o,h.get? b=some o->h'.get? b=some o)->tn i h'
 item:∀(X:Cx),X.prog=P->X.w=w->X.K=K->X.calm=true->∀(i:Nat) (ke:List (Addr×Obj)) (s:Shared) (σ:St) (H:Hp) (E:Value->Shared->Prop),Inv X ke σ H s->(∀b∈fp,JK X ke H b)->tn i s.heap->J.go i H->
  wpAny (model P w) X.A (pyNext (.ref it)) (fun r s1=>∃u,r=some u/\
   wpAny (model P w) X.A (letOwnedTupleGo tg (.ref it) u) (fun _ s2=>∃x H',Inv X ke σ H' s2/\RelV x u/\J.yld i H x H'/\tn (i+1) s2.heap/\∀b∈fp,H' b=none) E s1) E s
 done:∀(X:Cx),X.prog=P->X.w=w->X.K=K->X.calm=true->∀(i:Nat) (ke:List (Addr×Obj)) (s:Shared) (σ:St) (H:Hp) (E:Value->Shared->Prop),Inv X ke σ H s->(∀b∈fp,JK X ke H b)->tn i s.heap->J.stop i H->
  wpAny (model P w) X.A (pyNext (.ref it)) (fun r s1=>r=none/\Inv X ke σ H s1) E s
 self:∀(A:Around) (i:Nat) (s:Shared) (Q:Value->Shared->Prop) (E:Value->Shared->Prop),tn i s.heap->Q (.ref it) s->wpAny (model P w) A (pyIter (.ref it)) Q E s
abbrev TI:=St->Hp->(It->Hp->Prop)->Prop
def xZ (X:Cx) (E:List (Addr×Obj)) (O:St) (S:Expr) (R:It->Hp->Prop) (h:Value) (F:Shared):Prop :=
 ∃(G:Addr) (I:List Addr) (D:Nat->Heap->Prop) (J:It) (l:Hp),h=.ref G/\Inv X E O l F/\Turn X.prog X.w X.K S J I G D/\D 0 F.heap/\(∀b∈I,JK X E l b)/\R J l
def PI (X:Cx) (G D:Expr) (F:TI):Prop :=
 ∀(l:List (Addr×Obj)) (s:Shared) (h:St) (H:Hp) (R:It->Hp->Prop),Inv X l h H s->F h H R->
  wpAny (model X.prog X.w) X.A (eval D X.env) (fun v E=>wpAny (model X.prog X.w) X.A (pyIter v) (xZ X l h G R) X.xe E) X.xe s
variable {tg:Expr}
theorem mZ {M:Model} {A:Around} {E:Value->Shared->Prop} {s:Shared} {it:Addr} {o:Obj} {n:String} {vs:Array Value} {Q:Unit->Shared->Prop} (D:s.heap.get? it=some o) (G:o.cls=.type n) (F:o.data=.fields vs)
    (I:["enumerate","zip","dict_itemiterator","dict_reverseitemiterator","odict_iterator","itertools.zip_longest","itertools.pairwise"].contains n=false) (l:Q () s):wpAny M A (letOwnedTupleGo tg (.ref it) u) Q E s:=by
  unfold letOwnedTupleGo;cases tg<;>first
    |exact aJ l
    | (cases u<;>first
        |exact aJ l
        | (refine ad (wpAny_load D ?_)
           rw [G,F];show wpAny M A (if (["enumerate","zip","dict_itemiterator","dict_reverseitemiterator","odict_iterator","itertools.zip_longest","itertools.pairwise"].contains n&&vs[0]? == some (rawInt _))=true then _ else _) Q E s;rw [if_neg (by intro h;rw [I,Bool.false_and] at h;cases h)];exact aJ l))
def dH (K:PySem.W.Frag) (a:Addr):It :=
 ⟨fun i H=>∃h x,SqL K H a h/\h[i]?=some x,fun i H x l=>l=H/\∀h,SqL K H a h->h[i]?=some x,fun i H=>∃h,SqL K H a h/\h.length<=i⟩
def fD (K:PySem.W.Frag) (a:Addr):It :=
 ⟨fun i H=>∃h x,SqT K H a h/\h[i]?=some x,fun i H x l=>l=H/\∀h,SqT K H a h->h[i]?=some x,fun i H=>∃h,SqT K H a h/\h.length<=i⟩
def bW (l:Int) (n:Nat):It:=⟨fun i _=>i<n,fun i H x h=>h=H/\x=.int (l+i),fun i _=>n<=i⟩
variable {P:Program} {w:World} {K:PySem.W.Frag}
theorem RM (a it:Addr):Turn P w K tg (dH K a) [it] it (fun i h=>h.IsListIter it a i) where
 mem:=by simp
 obj:=fun i h l b D=>by
  have e:b=it:=by simpa using D
  subst e;obtain ⟨o,e,c,d⟩:=l;exact ⟨o,e,fun v z=>by rw [d] at z;cases z⟩
 keep:=fun i h O l k=>l.at fun o e=>k it (by simp) o e
 item:=by
  intro X S hw V hc i ke s σ H E I J l hg;subst S hw V;obtain ⟨xs,x,G,Y⟩:=hg;obtain ⟨ah,rv,p,hz⟩:=I.list G;obtain ⟨u,hu,ru⟩:=rv.get Y;obtain ⟨Z,f1,f2,f3,f4,f5⟩:=J it (by simp);refine wpAny_pyNext_list_item l p.isList (x:=u) (by simpa using hu) fun O F sb=>?_
  have I1:Inv X ke σ H {s with heap:=O}:=I.turned (t':=s.toks) (fun b o D e=>(sb.2 b D).trans e) Z f1 f3 f4 f5;obtain ⟨o,e,c,d⟩:=id F;exact ⟨u,rfl,mZ (s:={s with heap:=O}) e c d (by decide) ⟨x,H,I1,ru,⟨rfl,fun ys hy=>by rw [I.list_inj hy G];exact Y⟩,F,fun b D=>(J b D).1⟩⟩
 done:=by
  intro X S hw V hc i ke s σ H E I J l hg;subst S hw V;obtain ⟨xs,G,Y⟩:=hg;obtain ⟨ah,rv,p,hz⟩:=I.list G;obtain ⟨Z,f1,f2,f3,f4,f5⟩:=J it (by simp);have hl:=rv.length;exact wpAny_pyNext_list_end (I.ok.hd hc) l p.isList (by simp;lia) fun O eb=>⟨rfl,I.turned (t':=s.toks) (fun b o D e=>eb b o D e) Z f1 f3 f4 f5⟩
 self:=fun _ _ _ _ _ l h=>wpAny_pyIter_listiter l h
theorem O7 (a it:Addr):Turn P w K tg (fD K a) [it] it (fun i h=>h.IsTupleIter it a i) where
 mem:=by simp
 obj:=fun i h l b D=>by
  have e:b=it:=by simpa using D
  subst e;obtain ⟨o,e,c,d⟩:=l;exact ⟨o,e,fun v z=>by rw [d] at z;cases z⟩
 keep:=fun i h S l k=>l.at fun o e=>k it (by simp) o e
 item:=by
  intro X V hw Y hc i ke s σ H E I O l hg;subst V hw Y;obtain ⟨xs,x,J,Z⟩:=hg;obtain ⟨F,rv,p,hz⟩:=I.tuple J;obtain ⟨u,hu,ru⟩:=rv.get Z;obtain ⟨f0,f1,f2,f3,f4,f5⟩:=O it (by simp);refine wpAny_pyNext_tuple_item l (show s.heap.IsTuple a F.toArray from p) (x:=u) (by simpa using hu) fun S G sb=>?_
  have I1:Inv X ke σ H {s with heap:=S}:=I.turned (t':=s.toks) (fun b o D e=>(sb.2 b D).trans e) f0 f1 f3 f4 f5;obtain ⟨o,e,c,d⟩:=id G;exact ⟨u,rfl,mZ (s:={s with heap:=S}) e c d (by decide) ⟨x,H,I1,ru,⟨rfl,fun ys hy=>by rw [I.tuple_inj hy J];exact Z⟩,G,fun b D=>(O b D).1⟩⟩
 done:=by
  intro X V hw Y hc i ke s σ H E I O l hg;subst V hw Y;obtain ⟨xs,J,Z⟩:=hg;obtain ⟨F,rv,p,hz⟩:=I.tuple J;obtain ⟨f0,f1,f2,f3,f4,f5⟩:=O it (by simp);have hl:=rv.length;exact wpAny_pyNext_tuple_end (I.ok.hd hc) l (show s.heap.IsTuple a F.toArray from p) (by simp;lia) fun S eb=>⟨rfl,I.turned (t':=s.toks) (fun b o D e=>eb b o D e) f0 f1 f3 f4 f5⟩
 self:=fun _ _ _ _ _ l h=>wpAny_pyIter_tupleiter l h
theorem O8 (it:Addr) (G:Int) (n:Nat):Turn P w K tg (bW G n) [it] it (fun i h=>IsRangeIter h it (G+(i:Nat)*1) ((n:Int) - (i:Nat)) 1) where
 mem:=by simp
 obj:=fun i h l b D=>by
  have e:b=it:=by simpa using D
  subst e;exact ⟨_,l,fun v z=>by
   have z':Data.fields _=Data.cell v:=z;cases z'⟩
 keep:=fun i h O l k=>k it (by simp) _ l
 item:=by
  intro X S hw V hc i ke s σ H E I J l hg;subst S hw V;obtain ⟨Y,Z,f2,f3,f4,f5⟩:=J it (by simp);have W:=Walks.range (prog:=X.prog) (w:=X.w) (I.ok.hd hc) it G 1 n;refine W.item i s _ _ hg l fun v O tk hv F kk=>?_
  obtain ⟨t,rfl⟩:=hv;have I1:Inv X ke σ H {s with heap:=O,toks:=tk}:=I.turned (fun b o D e=>kk b o (by simpa using D) e) Y Z f3 f4 f5;refine ⟨_,rfl,mZ (s:={s with heap:=O,toks:=tk}) (n:="range_iterator") F rfl rfl (by decide) ⟨.int (G+i),H,I1,⟨t,?_⟩,⟨rfl,rfl⟩,F,fun b D=>(J b D).1⟩⟩;rw [Int.mul_one]
 done:=by
  intro X S hw V hc i ke s σ H E I J l hg;subst S hw V;obtain ⟨Y,Z,f2,f3,f4,f5⟩:=J it (by simp);exact wpAny_pyNext_range_end (I.ok.hd hc) l (by have:n<=i:=hg;lia) fun O eb=>⟨rfl,I.turned (t':=s.toks) (fun b o D e=>eb b o D e) Y Z f3 f4 f5⟩
 self:=fun _ _ _ _ _ l h=>wpAny_pyIter_rangeiter l h
end L2
namespace L2
open PySem PySem.Spec PyProof.Rows
section
variable {X:Cx} {tg:Expr}
def XC (K:PySem.W.Frag) (E:TE):TI:=fun l H R=>E l H fun x h=>∃a,x=.ref a/\(∃D,SqL K h a D)/\R (dH K a) h
def X4 (K:PySem.W.Frag) (E:TE):TI:=fun l H R=>E l H fun x h=>∃a,x=.ref a/\(∃D,SqT K h a D)/\R (fD K a) h
theorem yN {l:Expr} {F:TE} (hl:PE X l F):PI X tg l (XC X.K F):=by
 intro Y s O H R I h;refine jZ (hl Y s O H _ I h) fun v D ⟨x,S,E,J,G⟩=>?_
 obtain ⟨a,e,⟨xs,V⟩,q⟩:=G;subst e;cases J;obtain ⟨ah,rv,p,hz⟩:=E.list V;refine gh p.isList ?_;refine ⟨D.heap.objs.size,[D.heap.objs.size],_,_,S,rfl,E.kept (t':=D.toks) fun b o e=>ai _ e,RM a _,⟨_,aw _ rfl,rfl,rfl⟩,fun b Z=>?_,q⟩;have e:b=D.heap.objs.size:=by simpa using Z
 subst e;exact E.fpOk (ak _) (E.hok.fresh (ak _))
theorem FJ {l:Expr} {G:TE} (hl:PE X l G):PI X tg l (X4 X.K G):=by
 intro Z s S H R I h;refine jZ (hl Z s S H _ I h) fun v D ⟨x,V,E,O,J⟩=>?_
 obtain ⟨a,e,⟨xs,Y⟩,q⟩:=J;subst e;cases O;obtain ⟨F,rv,p,hz⟩:=E.tuple Y;refine fu (show D.heap.IsTuple a F.toArray from p) ?_;refine ⟨D.heap.objs.size,[D.heap.objs.size],_,_,V,rfl,E.kept (t':=D.toks) fun b o e=>ai _ e,O7 a _,⟨_,aw _ rfl,rfl,rfl⟩,fun b hb=>?_,q⟩;have e:b=D.heap.objs.size:=by simpa using hb
 subst e;exact E.fpOk (ak _) (E.hok.fresh (ak _))
theorem SY {D:List (Addr×Obj)} {J:St} {H:Hp} {s:Shared} {R:It->Hp->Prop} {E:Value->Shared->Prop} {h l:Int} {t u v:Tok} {G:Nat} (I:Inv X D J H s) (Z : -(2 ^ 62)<=h) (S:h<2 ^ 62) (h3 : -(2 ^ 62)<=l) (Y:l<2 ^ 62)
    (q:R (bW h (l - h).toNat) H):wpAny (model X.prog X.w) X.A (pyIter (.ref s.heap.objs.size)) (xZ X D J tg R) E {s with heap:=s.heap.push {cls:=.type "range",data:=.fields #[.int h t,.int l u,.int 1 v]},toks:=G}:=by
  refine wpAny_pyIter_range (IsRange.new ..) (small_one Z S h3 Y) ?_;have F:Inv X D J H {s with heap:=s.heap.push {cls:=.type "range",data:=.fields #[.int h t,.int l u,.int 1 v]},toks:=G}:=I.kept fun b o e=>ai _ e
  refine ⟨(s.heap.push {cls:=.type "range",data:=.fields #[.int h t,.int l u,.int 1 v]}).objs.size,[(s.heap.push {cls:=.type "range",data:=.fields #[.int h t,.int l u,.int 1 v]}).objs.size],_,_,H,rfl,
    F.kept (t':=G) fun b o e=>ai _ e,O8 _ h (l - h).toNat,?_,fun b hb=>?_,q⟩
  . have O:h+((0:Nat):Int)*1=h:=by simp
    have V:(((l - h).toNat:Nat):Int) - ((0:Nat):Int)=Builtin.Range.rangeSize h l 1:=by rw [rangeSize_one];split<;>lia
    show IsRangeIter _ _ (h+((0:Nat):Int)*1) ((((l - h).toNat:Nat):Int) - ((0:Nat):Int)) 1;rw [O,V];exact aw _ rfl
  . have e:b=(s.heap.push {cls:=.type "range",data:=.fields #[.int h t,.int l u,.int 1 v]}).objs.size:=by simpa using hb
    subst e;exact F.fpOk (ak _) (F.hok.fresh (ak _))
def XB (D:TA):TI:=fun E H R=>D E H fun l h=>∃j:Int,l=[.int j]/\-(2 ^ 62)<=j/\j<2 ^ 62/\R (bW 0 j.toNat) h
theorem ZB {a:Expr} {D:TA} {p E:Pos} (hg:Gl X "range") (V:X.mg "range"=none) (ha:PA X [a] D) (S:starEach [a] X.env=[(false,eval a X.env)]:=by rfl):PI X tg (.Call (.Name "range" p) [a] [] E) (XB D):=by
 intro Y s J H R I h;refine Call_ (cJ I hg V boot_range (cu (jZ (ha E Y s J H _ I h) fun us s1 ⟨vs,H1,Z,G,l⟩=>?_) S rfl));obtain ⟨j,e,l,F,q⟩:=l;subst e;cases G with
 |cons r O =>
  cases O;obtain ⟨t,rfl⟩:=r;exact call_range_1 (SY Z (by lia) (by lia) l F (by simpa using q))
def XS (S:TI) (g:TG) (V:TS):TS:=fun D h H=>S h H fun J I=>∃W:Nat->Nat->St->Hp->Prop,(∃m,W 0 m h I)/\∀i m h H,W i m h H->
 (J.stop i H/\D.nx h H)\/(J.go i H/\∃N:St->Hp->Prop,(∀E l,N E l->∃G,G<m/\W (i+1) G E l)/\∀x l,J.yld i H x l->g x h l fun F O=>V {D with nx:=N,ct:=N,bk:=D.nx} F O)
def gF (fp:List Addr) (h:Heap):List (Addr×Obj):=fp.filterMap fun b=>(h.get? b).map fun o=>(b,o)
theorem lC {fp:List Addr} {h:Heap} {b:Addr} {o:Obj} (l:b∈fp) (e:h.get? b=some o):(b,o)∈gF fp h:=cw.mpr ⟨b,l,by rw [e];rfl⟩
theorem RZ {fp:List Addr} {h:Heap} {p:Addr×Obj} (E:p∈gF fp h):p.1∈fp/\h.get? p.1=some p.2:=by
 obtain ⟨b,D,e⟩:=cw.mp E;cases q:h.get? b with
 |none=>rw [q] at e;cases e
 |some o =>
  rw [q] at e;have l:(b,o)=p:=ay e;subst l;exact ⟨D,q⟩
theorem Inv.pinned {h:List (Addr×Obj)} {E:St} {H:Hp} {s:Shared} {fp:List Addr} (I:Inv X h E H s) (O:∀b∈fp,JK X h H b) (F:∀b∈fp,∃o,s.heap.get? b=some o/\∀v,o.data≠.cell v):Inv X (h++gF fp s.heap) E H s :=
 I.pins_of fun p V=>(ba.mp V).elim (fun z=>I.pin p (bb _ z)) fun z=>by
  obtain ⟨D,e⟩:=RZ z;obtain ⟨G,S,J,_⟩:=O p.1 D;obtain ⟨o,l,d⟩:=F p.1 D;rw [e] at l;cases l
  exact ⟨e,G,S,J,d⟩
theorem Inv.unpinned {h pl:List (Addr×Obj)} {l:St} {H:Hp} {s:Shared} (I:Inv X (h++pl) l H s):Inv X h l H s:=I.pins_of fun p D=>I.pin p (bb _ (da _ D))
theorem zL {kt:Expr} {ku:List Stmt} {wi:TI} {g:TG} {tb:TS} {ko:Pos} (hp:PassesOwn (model X.prog X.w) X.A X.env X.xe) (hc:X.calm=true) (hi:PI X tg kt wi) (hg:PG X tg g) (S:PSs X ku tb)
  (hs:∀x,foldedSetIterable kt X.env x=pure x:=by intro _;rfl):PS X (.For tg kt ku [] ko) (XS wi g tb):=by
 intro ke s σ H D I h;refine wpAny_For (jZ (hi ke s σ H _ I h) fun v s1 h1=>jZ h1 fun a7 s2 h2=>?_) hs;obtain ⟨it,fp,tn,J,H2,e,I2,T,a3,f2,W,⟨m0,w0⟩,ap⟩:=h2;subst e;have V:∀{Z:Hp},(∀b∈fp,Z b=none)->∀b∈fp,JK X ke Z b:=fun hn b S=>⟨hn b S,(f2 b S).2⟩
 refine codeAny_forLoop_any (fun n s'=>∃i F Z,Inv X ke F Z s'/\tn i s'.heap/\(∀b∈fp,Z b=none)/\W i n F Z) ?_ m0 ⟨0,σ,H2,I2,a3,fun b S=>(f2 b S).1,w0⟩;rintro n s3 ⟨i,Y,H3,I3,am,aU,w3⟩
 rcases ap i n Y H3 w3 with ⟨aD,qn⟩|⟨go,N,hN,an⟩
 ·refine ib hp (jZ (T.done X rfl rfl rfl hc i ke s3 Y H3 X.xe I3 (V aU) am aD) fun r s4 ⟨hr,I4⟩=>?_);subst hr;exact fw ⟨Y,H3,I4,qn⟩
 ·refine ib hp (jZ (T.item X rfl rfl rfl hc i ke s3 Y H3 X.xe I3 (V aU) am go) fun r s4 ⟨u,hr,h4⟩=>?_);subst hr;refine ib hp (jZ h4 fun _ s5 ⟨x,H5,I5,r5,y5,ah,a5⟩=>?_);have a4:=I5.pinned (V a5) (T.obj _ _ ah);refine ib hp (jZ (hg _ s5 Y H5 x u _ a4 r5 (an x H5 y5)) fun _ s6 ⟨a6,H6,I6,q6⟩=>?_);refine ib hp (jZ (S _ s6 a6 H6 _ I6 q6) fun f s7 q7=>?_);have O:∀{l:St} {G:Hp},Inv X (ke++gF fp s5.heap) l G s7->N l G->∃m,m<n/\∃i F Z,Inv X ke F Z s7/\tn i s7.heap/\(∀b∈fp,Z b=none)/\W i m F Z:=fun {l G} E n7=>by
   obtain ⟨m',hm,w7⟩:=hN l G n7;refine ⟨m',hm,i+1,l,G,E.unpinned,T.keep _ _ _ ah fun b S o e=>(E.pin (b,o) (bb _ (bb _ (lC S e)))).1,fun b S=>?_,w7⟩;obtain ⟨o,e,d⟩:=T.obj _ _ ah b S;exact (E.pin (b,o) (bb _ (bb _ (lC S e)))).2.1
  cases f with
  |next=>obtain ⟨l,G,E,n7⟩:=q7;exact O E n7
  |cont=>obtain ⟨l,G,E,n7⟩:=q7;exact O E n7
  |brk=>obtain ⟨l,G,E,q7⟩:=q7;exact ⟨l,G,E.unpinned,q7⟩
  |ret v=>obtain ⟨x7,l,G,E,r7,q7⟩:=q7;exact ⟨x7,l,G,E.unpinned,r7,q7⟩
end
variable {g:TG} {tb:TS} {D:Ends} {σ:St} {H:Hp}
theorem dY {K:PySem.W.Frag} {a:Addr} {xs:List V} (h:Nat->St->Hp->Prop) (O:h 0 σ H) (S:∀i σ H,i<=xs.length->h i σ H->SqL K H a xs)
    (hs:∀i x σ H,xs[i]?=some x->h i σ H->g x σ H fun l G=>tb {D with nx:=h (i+1),ct:=h (i+1),bk:=D.nx} l G) (Y:∀σ H,h xs.length σ H->D.nx σ H) :
    ∃W:Nat->Nat->St->Hp->Prop,(∃m,W 0 m σ H)/\∀i m σ H,W i m σ H->
      ((dH K a).stop i H/\D.nx σ H)\/((dH K a).go i H/\∃N:St->Hp->Prop,(∀σ' E,N σ' E->∃I,I<m/\W (i+1) I σ' E)/\∀x E,(dH K a).yld i H x E->g x σ E fun l G=>tb {D with nx:=N,ct:=N,bk:=D.nx} l G):=by
  refine ⟨fun i m σ H=>m=xs.length - i/\i<=xs.length/\h i σ H,⟨xs.length,by simp,aH _,O⟩,?_⟩;rintro i m σ H ⟨rfl,J,p⟩;have q:=S i σ H J p
  by_cases F:i<xs.length
  . refine .inr ⟨⟨xs,xs[i],q,by simp [F]⟩,h (i+1),fun σ' E Z=>⟨xs.length - (i+1),by lia,rfl,F,Z⟩,fun x E y=>?_⟩
    obtain ⟨e,y⟩:=y;subst e;exact hs i x σ _ (y xs q) p
  . have e:i=xs.length:=by lia
    subst e;exact .inl ⟨⟨xs,q,ak _⟩,Y σ H p⟩
theorem VC {K:PySem.W.Frag} {a:Addr} {xs:List V} (h:Nat->St->Hp->Prop) (O:h 0 σ H) (S:∀i σ H,i<=xs.length->h i σ H->SqT K H a xs)
    (hs:∀i x σ H,xs[i]?=some x->h i σ H->g x σ H fun l G=>tb {D with nx:=h (i+1),ct:=h (i+1),bk:=D.nx} l G) (Y:∀σ H,h xs.length σ H->D.nx σ H) :
    ∃W:Nat->Nat->St->Hp->Prop,(∃m,W 0 m σ H)/\∀i m σ H,W i m σ H->
      ((fD K a).stop i H/\D.nx σ H)\/((fD K a).go i H/\∃N:St->Hp->Prop,(∀σ' E,N σ' E->∃I,I<m/\W (i+1) I σ' E)/\∀x E,(fD K a).yld i H x E->g x σ E fun l G=>tb {D with nx:=N,ct:=N,bk:=D.nx} l G):=by
  refine ⟨fun i m σ H=>m=xs.length - i/\i<=xs.length/\h i σ H,⟨xs.length,by simp,aH _,O⟩,?_⟩;rintro i m σ H ⟨rfl,J,p⟩;have q:=S i σ H J p
  by_cases F:i<xs.length
  . refine .inr ⟨⟨xs,xs[i],q,by simp [F]⟩,h (i+1),fun σ' E Z=>⟨xs.length - (i+1),by lia,rfl,F,Z⟩,fun x E y=>?_⟩
    obtain ⟨e,y⟩:=y;subst e;exact hs i x σ _ (y xs q) p
  . have e:i=xs.length:=by lia
    subst e;exact .inl ⟨⟨xs,q,ak _⟩,Y σ H p⟩
theorem Z9 {G:Int} {n:Nat} (E:Nat->St->Hp->Prop) (O:E 0 σ H)
  (Y:∀i σ H,i<n->E i σ H->g (.int (G+i)) σ H fun h I=>tb {D with nx:=E (i+1),ct:=E (i+1),bk:=D.nx} h I) (S:∀σ H,E n σ H->D.nx σ H) :
  ∃W:Nat->Nat->St->Hp->Prop,(∃m,W 0 m σ H)/\∀i m σ H,W i m σ H->
   ((bW G n).stop i H/\D.nx σ H)\/((bW G n).go i H/\∃N:St->Hp->Prop,(∀σ' F,N σ' F->∃J,J<m/\W (i+1) J σ' F)/\∀x F,(bW G n).yld i H x F->g x σ F fun h I=>tb {D with nx:=N,ct:=N,bk:=D.nx} h I):=by
 refine ⟨fun i m σ H=>m=n - i/\i<=n/\E i σ H,⟨n,by simp,aH _,O⟩,?_⟩;rintro i m σ H ⟨rfl,Z,p⟩
 by_cases l:i<n
 ·refine .inr ⟨l,E (i+1),fun σ' F V=>⟨n - (i+1),by lia,rfl,l,V⟩,fun x F y=>?_⟩;obtain ⟨e,y⟩:=y;subst e y;exact Y i σ _ l p
 ·have e:i=n:=by lia
  subst e;exact .inl ⟨ak _,S σ H p⟩
end L2
namespace L2
open PySem PySem.Spec PyProof.Rows
abbrev R2:=V->V->Hp->VK->Prop
def qN (X:Cx) (f:Value->Value->Sem Value) (r:R2):Prop :=
 ∀(h:List (Addr×Obj)) (s:Shared) (l:St) (H:Hp) (x y:V) (v u:Value) (Q:VK),Inv X h l H s->RelV x v->RelV y u->r x y H Q->
  wpAny (model X.prog X.w) X.A (f v u) (EP X h l Q) X.xe s
def xX (X:Cx) (f:Value->Sem Value) (r:V->Hp->VK->Prop):Prop :=
 ∀(h:List (Addr×Obj)) (s:Shared) (l:St) (H:Hp) (x:V) (v:Value) (Q:VK),Inv X h l H s->RelV x v->r x H Q->
  wpAny (model X.prog X.w) X.A (f v) (EP X h l Q) X.xe s
def yK (X:Cx) (f:Value) (r:List V->Hp->VK->Prop):Prop :=
 ∀(h:List (Addr×Obj)) (s:Shared) (l:St) (H:Hp) (D:List V) (E:List Value) (Q:VK),Inv X h l H s->Vals D E->r D H Q->
  wpAny (model X.prog X.w) X.A (call f E) (EP X h l Q) X.xe s
def dF (r:R2) (D F:TE):TE:=fun h H Q=>D h H fun x l=>F h l fun y E=>r x y E Q
def YI (r:V->Hp->VK->Prop) (l:TE):TE:=fun D H Q=>l D H fun x h=>r x h Q
def rI (C:Int->Int->Prop) (g:Int->Int->V):R2:=fun x y H Q=>∃i j,x=.int i/\y=.int j/\C i j/\Q (g i j) H
def bT (g:Int->Int->V):R2:=fun x y H Q=>∃i j,x=.int i/\y=.int j/\Q (g i j) H
def rU (g:Int->V):V->Hp->VK->Prop:=fun x H Q=>∃i,x=.int i/\Q (g i) H
section
variable {X:Cx} {a b c:Expr} {ta tb tc:TE} {ko:Pos}
theorem xM (ha:PE X a ta) (hb:PE X b tb) {J:List (Addr×Obj)} {s:Shared} {l:St} {H:Hp} {R:V->V->Hp->Prop} (I:Inv X J l H s)
  (h:ta l H fun x O=>tb l O fun y D=>R x y D) {Q:Value->Shared->Prop} {f:Value->Value->Sem Value}
  (hf:∀v u G x y D,Inv X J l D G->RelV x v->RelV y u->R x y D->wpAny (model X.prog X.w) X.A (f v u) Q X.xe G) :
  wpAny (model X.prog X.w) X.A (eval a X.env) (fun v F=>wpAny (model X.prog X.w) X.A (eval b X.env) (fun u E=>wpAny (model X.prog X.w) X.A (f v u) Q X.xe E) X.xe F) X.xe s:=by
 refine jZ (ha J s l H _ I h) fun v s1 ⟨x,O,I1,Z,S⟩=>?_
 refine jZ (hb J s1 l O _ I1 S) fun u G ⟨y,D,I2,r2,Y⟩=>?_
 exact hf v u G x y D I2 Z r2 Y
theorem jI {l:Operator} {r:R2} (F:qN X (binaryOp l) r) (Z:PE X a ta) (V:PE X b tb):PE X (.BinOp a l b ko) (dF r ta tb):=by
 intro O s D H Q I h;exact wpAny_BinOp (xM Z V I h fun v u G x y J E Y S q=>F O G D J x y v u Q E Y S q)
theorem wY {D:UnaryOp} {r:V->Hp->VK->Prop} (O:xX X (unaryOp D) r) (Z:PE X a ta):PE X (.UnaryOp D a ko) (YI r ta):=by
 intro l s E H Q I h;exact UnaryOp_ (jZ (Z l s E H _ I h) fun v S ⟨x,F,Y,J,G⟩=>O l S E F x v Q Y J G)
theorem xV {f:Value->Value->Sem Value} {C:Int->Int->Prop} {g:Int->Int->Int}
  (l:∀(i j:Int) (t u:Tok) (s:Shared) (Q:Value->Shared->Prop) (E:Value->Shared->Prop),C i j->Q (.int (g i j) s.toks) {s with toks:=s.toks+1}->wpAny (model X.prog X.w) X.A (f (.int i t) (.int j u)) Q E s) :
  qN X f (rI C fun i j=>.int (g i j)):=by
 intro O s S H x y v u Q I F G h;obtain ⟨i,j,rfl,rfl,J,q⟩:=h;obtain ⟨t,rfl⟩:=F;obtain ⟨D,rfl⟩:=G;exact l i j t D s _ _ J ⟨.int (g i j),H,I.tok _,⟨_,rfl⟩,q⟩
theorem GN {f:Value->Value->Sem Value} {g:Int->Int->Int}
  (l:∀(i j:Int) (t u:Tok) (s:Shared) (Q:Value->Shared->Prop) (E:Value->Shared->Prop),Q (.int (g i j) s.toks) {s with toks:=s.toks+1}->wpAny (model X.prog X.w) X.A (f (.int i t) (.int j u)) Q E s) :
  qN X f (bT fun i j=>.int (g i j)):=by
 intro J s O H x y v u Q I F G h;obtain ⟨i,j,rfl,rfl,q⟩:=h;obtain ⟨t,rfl⟩:=F;obtain ⟨D,rfl⟩:=G;exact l i j t D s _ _ ⟨.int (g i j),H,I.tok _,⟨_,rfl⟩,q⟩
theorem nI {f:Value->Value->Sem Value} {g:Int->Int->Bool}
  (l:∀(i j:Int) (t u:Tok) (s:Shared) (Q:Value->Shared->Prop) (E:Value->Shared->Prop),Q (.bool (g i j)) s->wpAny (model X.prog X.w) X.A (f (.int i t) (.int j u)) Q E s) :
  qN X f (bT fun i j=>.bl (g i j)):=by
 intro J s O H x y v u Q I F G h;obtain ⟨i,j,rfl,rfl,q⟩:=h;obtain ⟨t,rfl⟩:=F;obtain ⟨D,rfl⟩:=G;exact l i j t D s _ _ ⟨.bl (g i j),H,I,rfl,q⟩
def YF (i j:Int):Prop:=0<j/\j<1073741824
def CMul (i j:Int):Prop:=(-(2 ^ 64)<i/\i<2 ^ 64)\/(-(2 ^ 64)<j/\j<2 ^ 64)
theorem CMul.ok {i j:Int} (h:CMul i j):IntMulOk i j:=by
 rcases h with ⟨l,D⟩|⟨l,D⟩
 ·exact .of_left (intBits_le_64 l D)
 ·exact .of_right (intBits_le_64 l D)
theorem kU:qN X (binaryOp .Add) (bT fun i j=>.int (i+j)):=GN fun _ _ _ _ _ _ _ q=>add_int q
theorem yB:qN X (binaryOp .Sub) (bT fun i j=>.int (i - j)):=GN fun _ _ _ _ _ _ _ q=>sub_int q
theorem y9:qN X (binaryOp .Mult) (rI CMul fun i j=>.int (i*j)):=xV fun _ _ _ _ _ _ _ h q=>mul_int q h.ok
theorem qP:qN X (binaryOp .FloorDiv) (rI YF fun i j=>.int (i / j)):=xV fun i j _ _ _ _ _ h q=>by
 have l:(0:Int)<j:=h.1;have D:j<1073741824:=h.2;exact floordiv_int (by lia) (by rw [Int.fdiv_eq_ediv_of_nonneg i (by lia)];exact q) (.inl (PyProof.noPylong_small (by lia)))
theorem kO:qN X (binaryOp .Mod) (rI (fun _ j=>0<j) fun i j=>.int (i%j)):=xV fun i j _ _ _ _ _ h q=>by
 have l:(0:Int)<j:=h;exact mod_int' (by lia) (by rw [Int.fmod_eq_emod_of_nonneg i (by lia)];exact q)
theorem YH {f:Value->Sem Value} {g:Int->Int}
  (l:∀(i:Int) (t:Tok) (s:Shared) (Q:Value->Shared->Prop) (E:Value->Shared->Prop),Q (.int (g i) s.toks) {s with toks:=s.toks+1}->wpAny (model X.prog X.w) X.A (f (.int i t)) Q E s) :
  xX X f (rU fun i=>.int (g i)):=by
 intro F s G H x v Q I D h;obtain ⟨i,rfl,q⟩:=h;obtain ⟨t,rfl⟩:=D;exact l i t s _ _ ⟨.int (g i),H,I.tok _,⟨_,rfl⟩,q⟩
theorem wK:xX X (unaryOp .USub) (rU fun i=>.int (-i)):=YH fun _ _ _ _ _ q=>neg_int q
end
def GI:V->V->Bool
 |.non,.non=>true|.non,.int _=>true|.int _,.non=>true|.non,.bl _=>true|.bl _,.non=>true|.non,.str _=>true|.str _,.non=>true
 |.int _,.int _=>true|.bl _,.bl _=>true|.str _,.str _=>true|.byt _,.byt _=>true
 |.int _,.str _=>true|.str _,.int _=>true|.bl _,.str _=>true|.str _,.bl _=>true
 |_,_=>false
def YQ:R2:=fun x y H Q=>GI x y=true/\Q (.bl (decide (x=y))) H
def YO:R2:=fun x y H Q=>GI x y=true/\Q (.bl (!decide (x=y))) H
theorem EX {i j:Int}:decide (V.int i=V.int j)=(i == j):=by
 rw [ic];simp
theorem FS {i j:Bool}:decide (V.bl i=V.bl j)=(i == j):=by
 rw [ic];simp
theorem EW {i j:Str}:decide (V.str i=V.str j)=(i == j):=by
 rw [ic];simp
theorem EY {i j:Array UInt8}:decide (V.byt i=V.byt j)=(i.toList == j.toList):=by
 rw [ic];cases i;cases j;simp
section
variable {X:Cx} {a b c:Expr} {ta tb tc:TE} {ko:Pos}
theorem qU {l:List (Addr×Obj)} {D:St} {H:Hp} {s:Shared} {Q:VK} {k h:Bool} (I:Inv X l D H s) (q:Q (.bl k) H) (e:k=h):EP X l D Q (.bool h) s:=by
 subst e;exact ⟨.bl k,H,I,rfl,q⟩
theorem kP:qN X (compareOp .Eq) YQ:=by
 intro J s G H x y v u Q I F l h;obtain ⟨E,q⟩:=h;cases x with
 |non =>
  cases F;cases y with
  |non=>cases l;exact PySem.EqNone.eq_none_none (qU I q (by simp))
  |bl j=>cases l;exact PySem.EqNone.eq_none_bool (qU I q (by simp))
  |int j=>obtain ⟨D,rfl⟩:=l;exact PySem.EqNone.eq_none_int (qU I q (by simp))
  |str j=>obtain ⟨D,rfl⟩:=l;exact PySem.EqNone.eq_none_str (qU I q (by simp))
  |_=>exact absurd (show false=true from E) aB
 |bl i =>
  cases F;cases y with
  |non=>cases l;exact PySem.EqNone.eq_bool_none (qU I q (by simp))
  |bl j=>cases l;exact eq_bool (qU I q FS)
  |str j=>obtain ⟨D,rfl⟩:=l;exact PySem.EqMixed.eq_bool_str (qU I q (by simp))
  |_=>exact absurd (show false=true from E) aB
 |int i =>
  obtain ⟨t,rfl⟩:=F;cases y with
  |non=>cases l;exact PySem.EqNone.eq_int_none (qU I q (by simp))
  |int j=>obtain ⟨D,rfl⟩:=l;exact eq_int (qU I q EX)
  |str j=>obtain ⟨D,rfl⟩:=l;exact PySem.EqMixed.eq_int_str (qU I q (by simp))
  |_=>exact absurd (show false=true from E) aB
 |str i =>
  obtain ⟨t,rfl⟩:=F;cases y with
  |non=>cases l;exact PySem.EqNone.eq_str_none (qU I q (by simp))
  |bl j=>cases l;exact PySem.EqMixed.eq_str_bool (qU I q (by simp))
  |int j=>obtain ⟨D,rfl⟩:=l;exact PySem.EqMixed.eq_str_int (qU I q (by simp))
  |str j=>obtain ⟨D,rfl⟩:=l;exact eq_str (qU I q EW)
  |_=>exact absurd (show false=true from E) aB
 |byt i =>
  obtain ⟨t,rfl⟩:=F;cases y with
  |byt j=>obtain ⟨D,rfl⟩:=l;exact PySem.W.eq_bytes (qU I q EY)
  |_=>exact absurd (show false=true from E) aB
 |_=>cases y<;>exact absurd (show false=true from E) aB
theorem JG:qN X (compareOp .NotEq) YO:=by
 intro J s G H x y v u Q I F l h;obtain ⟨E,q⟩:=h;cases x with
 |non =>
  cases F;cases y with
  |non=>cases l;exact PySem.EqNone.ne_none_none (qU I q (by simp))
  |bl j=>cases l;exact PySem.EqNone.ne_none_bool (qU I q (by simp))
  |int j=>obtain ⟨D,rfl⟩:=l;exact PySem.EqNone.ne_none_int (qU I q (by simp))
  |str j=>obtain ⟨D,rfl⟩:=l;exact PySem.EqNone.ne_none_str (qU I q (by simp))
  |_=>exact absurd (show false=true from E) aB
 |bl i =>
  cases F;cases y with
  |non=>cases l;exact PySem.EqNone.ne_bool_none (qU I q (by simp))
  |bl j=>cases l;exact ne_bool (qU I q (cf not FS))
  |str j=>obtain ⟨D,rfl⟩:=l;exact PySem.EqMixed.ne_bool_str (qU I q (by simp))
  |_=>exact absurd (show false=true from E) aB
 |int i =>
  obtain ⟨t,rfl⟩:=F;cases y with
  |non=>cases l;exact PySem.EqNone.ne_int_none (qU I q (by simp))
  |int j=>obtain ⟨D,rfl⟩:=l;exact ne_int (qU I q (cf not EX))
  |str j=>obtain ⟨D,rfl⟩:=l;exact PySem.EqMixed.ne_int_str (qU I q (by simp))
  |_=>exact absurd (show false=true from E) aB
 |str i =>
  obtain ⟨t,rfl⟩:=F;cases y with
  |non=>cases l;exact PySem.EqNone.ne_str_none (qU I q (by simp))
  |bl j=>cases l;exact PySem.EqMixed.ne_str_bool (qU I q (by simp))
  |int j=>obtain ⟨D,rfl⟩:=l;exact PySem.EqMixed.ne_str_int (qU I q (by simp))
  |str j=>obtain ⟨D,rfl⟩:=l;exact ne_str (qU I q (cf not EW))
  |_=>exact absurd (show false=true from E) aB
 |byt i =>
  obtain ⟨t,rfl⟩:=F;cases y with
  |byt j=>obtain ⟨D,rfl⟩:=l;exact PySem.W.ne_bytes (qU I q (cf not EY))
  |_=>exact absurd (show false=true from E) aB
 |_=>cases y<;>exact absurd (show false=true from E) aB
theorem ZO:qN X (compareOp .Lt) (bT fun i j=>.bl (decide (i<j))):=nI fun _ _ _ _ _ _ _ q=>lt_int q
theorem wZ:qN X (compareOp .LtE) (bT fun i j=>.bl (decide (i<=j))):=nI fun _ _ _ _ _ _ _ q=>le_int q
theorem w6:qN X (compareOp .Gt) (bT fun i j=>.bl (decide (j<i))):=nI fun _ _ _ _ _ _ _ q=>gt_int q
theorem w9:qN X (compareOp .GtE) (bT fun i j=>.bl (decide (j<=i))):=nI fun _ _ _ _ _ _ _ q=>ge_int q
theorem RW:qN X (compareOp .In) (fun x y H Q=>∃i j,x=.str i/\y=.str j/\Q (.bl (!(Builtin.Str.occurrences j i 0 j.length 1).isEmpty)) H):=by
 intro F s G H x y v u Q I l D h;obtain ⟨i,j,rfl,rfl,q⟩:=h;obtain ⟨t,rfl⟩:=l;obtain ⟨E,rfl⟩:=D;exact in_str (qU I q rfl)
theorem V5:qN X (compareOp .Is) (fun x y H Q=>y=.non/\Q (.bl (decide (x=.non))) H):=by
 intro E s F H x y v u Q I l D h;obtain ⟨rfl,q⟩:=h;cases D;refine is_none_gen (qU I q ?_);cases x<;>first
  | (cases l;rfl)
  | (obtain ⟨t,rfl⟩:=l;rfl)
theorem AB (b:Expr) {l:CmpOp} (h:l≠.In:=by decide) (E:l≠.NotIn:=by decide):behindInMarks l b=false:=by
 have D:(l == CmpOp.In)=false:=by cases l<;>first|rfl|exact absurd rfl h
 have F:(l == CmpOp.NotIn)=false:=by cases l<;>first|rfl|exact absurd rfl E
 cases b<;>simp [behindInMarks,D,F]
theorem UX {l:CmpOp} {r:R2} (F:qN X (compareOp l) r) (ha:PE X a ta) (V:PE X b tb) (O:behindInMarks l b=false):PE X (.Compare a [l] [b] ko) (dF r ta tb):=by
 intro S s D H Q I h;exact wpAny_Compare1 (xM ha V I h fun v u G x y J E Z Y q=>F S G D J x y v u Q E Z Y q) O
def FV (t:TE):TT:=fun h H Q=>t h H fun x l=>∃k,x=.bl k/\Q k l
theorem HE {l:CmpOp} {r:R2} (Z:qN X (compareOp l) r) (ha:PE X a ta) (hb:PE X b tb) (hm:behindInMarks l b=false):PT X (.Compare a [l] [b] ko) (FV (dF r ta tb)):=by
 intro E s D H Q I h;refine wpAny_isTrue_Compare1 (jZ (ha E s D H _ I h) fun v s1 ⟨x,Y,I1,J,F⟩=>jZ (hb E s1 D Y _ I1 F) fun u s2 ⟨y,H2,V,S,G⟩ =>
  jZ (Z E s2 D H2 x y v u _ V J S G) fun c s3 ⟨z,H3,I3,O,k,e,q3⟩=>?_) hm
 subst e;cases O;exact dv ⟨H3,I3,q3⟩
def VT (r E:R2) (ta tb tc:TE):TE:=fun h H Q=>ta h H fun x D=>tb h D fun y I=>r x y I fun z l=>∃k,z=.bl k/\
 (if k=true then tc h l fun F G=>E y F G Q else Q (.bl false) l)
theorem S5 {F l:CmpOp} {r J:R2} (ho:qN X (compareOp F) r) (G:qN X (compareOp l) J) (ha:PE X a ta) (hb:PE X b tb) (hc:PE X c tc)
  (hm:lastMarks [F,l] [b,c]=false:=by with_unfolding_all rfl):PE X (.Compare a [F,l] [b,c] ko) (VT r J ta tb tc):=by
 intro E s D H Q I h;refine Compare_chain (jZ (ha E s D H _ I h) fun v s1 ⟨x,H1,I1,r1,q1⟩=>chain_link (jZ (hb E s1 D H1 _ I1 q1) fun u s2 ⟨y,H2,I2,O,Z⟩ =>
  jZ (ho E s2 D H2 x y v u _ I2 r1 O Z) fun d s3 ⟨z,Y,V,r3,k,e,S⟩=>?_)) hm
 subst e;cases r3;refine dv ?_;cases k with
 |false=>exact ite_ff ⟨.bl false,Y,V,rfl,S⟩
 |true=>exact ite_tt (chain_last (jZ (hc E s3 D Y _ V S) fun w' s4 ⟨z',H4,I4,r4,q4⟩=>G E s4 D H4 y z' u w' Q I4 O r4 q4))
theorem cI:(sizeLine:Nat)<2 ^ 63:=by rw [sizeLine_eq];decide
theorem BM:qN X (binaryOp .Add) (fun x y H Q=>∃i j,x=.str i/\y=.str j/\i.length+j.length<=sizeLine/\Q (.str (i++j)) H):=by
 intro G s O H x y v u Q I D E h;obtain ⟨i,j,rfl,rfl,F,q⟩:=h;obtain ⟨t,rfl⟩:=D;obtain ⟨l,rfl⟩:=E;exact add_str (fun l J=>⟨.str (i++j),H,I.tok _,⟨_,rfl⟩,q⟩) F
theorem ZK {x:V} {us:List Value} (r:Vals [x] us):∃u,us=[u]/\RelV x u:=by
 cases r with
 |cons l h=>cases h;exact ⟨_,rfl,l⟩
theorem mQ {x y:V} {us:List Value} (r:Vals [x,y] us):∃u h,us=[u,h]/\RelV x u/\RelV y h:=by
 cases r with
 |cons l E =>
  cases E with
  |cons D F=>cases F;exact ⟨_,_,rfl,l,D⟩
theorem CV (D:X.calm=true):yK X (.builtin "max") (fun xs H Q=>∃i j,xs=[.int i,.int j]/\Q (.int (if j>i then j else i)) H):=by
 intro F s O H xs V Q I r h;obtain ⟨i,j,rfl,q⟩:=h;obtain ⟨u,G,rfl,⟨t,rfl⟩,⟨E,rfl⟩⟩:=mQ r;refine max_two_ints (I.ok.hd D) fun S J k=>⟨_,H,I.kept k,?_,q⟩
 by_cases l:j>i
 ·rw [if_pos l,if_pos l];exact ⟨_,rfl⟩
 ·rw [if_neg l,if_neg l];exact ⟨_,rfl⟩
theorem SO (D:X.calm=true):yK X (.builtin "min") (fun xs H Q=>∃i j,xs=[.int i,.int j]/\Q (.int (if j<i then j else i)) H):=by
 intro F s O H xs V Q I r h;obtain ⟨i,j,rfl,q⟩:=h;obtain ⟨u,G,rfl,⟨t,rfl⟩,⟨E,rfl⟩⟩:=mQ r;refine min_two_ints (I.ok.hd D) fun S J k=>⟨_,H,I.kept k,?_,q⟩
 by_cases l:j<i
 ·rw [if_pos l,if_pos l];exact ⟨_,rfl⟩
 ·rw [if_neg l,if_neg l];exact ⟨_,rfl⟩
theorem SQ:yK X (.type "int") (fun xs H Q=>(∃i,xs=[.int i]/\Q (.int i) H)\/∃k,xs=[.bl k]/\Q (.int (if k then 1 else 0)) H):=by
 intro D s E H xs F Q I r h
 rcases h with ⟨i,rfl,q⟩|⟨k,rfl,q⟩
 ·obtain ⟨u,rfl,t,rfl⟩:=ZK r;exact call_int_int ⟨.int i,H,I,⟨_,rfl⟩,q⟩
 ·obtain ⟨u,rfl,l⟩:=ZK r;cases l;exact call_int_bool ⟨.int (if k then 1 else 0),H,I.tok _,⟨_,rfl⟩,q⟩
end
structure ObjM (h:Heap) (x dx C:Addr) (mA:Str->Option Value):Prop where
 obj:h.get? x=some (PySem.W.instObj C dx)
 ns:h.Ns1 dx mA
 ne:dx≠x
theorem R4 {h:Heap} {D:Addr} {F:Str->Option Value} (n:h.Ns1 D F):∃E,h.get? D=some E/\∀name,PySem.W.lookIn name E=some (F name):=by
 obtain ⟨o,G,Z,J,O,I,_,S⟩:=n;refine ⟨o,J,fun name=>?_⟩;have e:=S name;unfold nsFind findBy at e;rw [<- Array.find?_toList] at e;unfold PySem.W.lookIn;rw [O]
 dsimp only
 split
 ·rename_i y q;rw [q] at e;exact cf some e
 ·rename_i q;rw [q] at e;have a:G.toList.any (·.refKey)=false:=by
   rw [List.any_eq_false];intro y V;obtain ⟨z,t,l⟩:=I y (Array.mem_toList_iff.mp V);simp [DictEntry.refKey,l]
  have Y:¬G.toList.any (·.refKey)=true:=by rw [a];exact aB
  rw [if_neg Y];exact cf some e
variable {C:Addr}
theorem ObjM.look {h:Heap} {x D:Addr} {E:Str->Option Value} (I:ObjM h x D C E):∃l,PySem.W.InstAt h x (PySem.W.instObj C D) C (some l)/\∀name,PySem.W.lookIn name l=some (E name) :=
 let ⟨l,F,G⟩:=R4 I.ns
 ⟨l,⟨I.obj,rfl,rfl,F⟩,G⟩
section
variable {prog:Program} {w:World} {A:Around} {E:Value->Shared->Prop} {s:Shared} {K:PySem.W.Frag} {x dx C f:Addr} {mA:Str->Option Value} {name:Str} {v:Value}
theorem VA {l:Bool} {Q:Value->Shared->Prop} (X:K.In s.heap) (I:ObjM s.heap x dx C mA) (V:PySem.W.plainGet K C name=true) (S:PySem.W.hasDictIn K C=true)
  (G:PySem.W.findIn K (.ref C) name=some none) (O:mA name=some v) (D:PySem.W.handedIn v=true) (h:Q v {s with toks:=s.toks+1}) :
  wpAny (model prog w) A (getAttr (.ref x) name l) Q E s:=by
 obtain ⟨Y,J,F⟩:=I.look;exact PySem.W.get_value X J (PySem.W.plainGet_of V).1 (PySem.W.findObj_own S G rfl (by rw [F,O])) D h
theorem TN {pl:Sem Bool} {Q:Value×List Value->Shared->Prop} (X:K.In s.heap) (I:ObjM s.heap x dx C mA) (l:PySem.W.plainGet K C name=true)
  (O:PySem.W.findIn K (.ref C) name=some (some (.ref f))) (S:PySem.W.isFn K (.ref f)=true) (G:mA name=none) (h:Q (.ref f,[.ref x]) s) :
  wpAny (model prog w) A (getMethod (.ref x) name pl) Q E s:=by
 obtain ⟨D,J,F⟩:=I.look;exact PySem.W.method_fn X J (PySem.W.plainGet_of l).1 (PySem.W.plainGet_of l).2 O (hU.mp S) (by show (PySem.W.lookIn name D).map (·.isSome)=some false;rw [F,G];rfl) h
theorem UK {V:List Str} {Q:Unit->Shared->Prop} (X:K.In s.heap) (I:ObjM s.heap x dx C mA)
  (hs:PySem.W.findIn K (.ref C) "__setattr__"=some (some (.builtin "object.__setattr__"))) (hp:PySem.W.plainOver K C=true) (ht:PySem.W.takerIn K C name=some none) (hh:PySem.W.hasDictIn K C=true)
  (hw:PySem.Within mA V) (Y:V.length<=sizeLine)
  (h:∀h',ObjM h' x dx C (fun y=>if y=name then some v else mA y)->Heap.SameBut dx s.heap h'->Q () {s with heap:=h',toks:=s.toks+2}) :
  wpAny (model prog w) A (setAttr (.ref x) name v) Q E s:=by
 obtain ⟨od,J,hl⟩:=I.look;refine PySem.W.set_plain X J hs (PySem.W.osa_open (s:={s with toks:=s.toks+1}) (r:=none) X J hp ht fun b=>?_);obtain ⟨cd,hc,F⟩:=PySem.W.any_some hh;have hx:s.heap.get? x=some ⟨.ref C,some dx,.plain,#[]⟩:=I.obj;refine ad (aJ (ad (ad (wpAny_loadPart hx (ad (PySem.W.Looks.here (s:={s with toks:=s.toks+1}) (PySem.W.looks_clsIn X hc) ?_))))));rw [F];refine aJ (a:=some dx) (ad (aJ (ad ?_)));refine wpAny_nsSet1 (s:={s with toks:=s.toks+1}) I.ns fun h' l D=>?_
 obtain ⟨oD,ah,Z,O,S,G⟩:=l.count (PySem.Within.cons name v hw);refine ad (wpAny_lookBehind O (by rw [S];exact pastItsLine_dict (aI G (by rw [ck];lia))) ?_);exact aJ (h _ ⟨(D.2 _ (Ne.symm I.ne)).trans I.obj,l,I.ne⟩ D)
theorem TJ {R:Result->Shared->Prop} {vs:List Value} {D:List (Str×Value)} (X:K.In s.heap) (F:PySem.W.makesIn K C=true)
  (G:PySem.W.findIn K (.ref C) "__init__"=some (some (.ref f))) (I:PySem.W.typeIn K (.ref f)=some (.type "function"))
  (h:codeAny (model prog w) (A.under (.builtin "type.__call__" ⟨.ref C::vs,D⟩)) (.call (.ref f) ⟨.ref (s.heap.objs.size+1)::vs,D⟩) (PySem.W.InitBack (s.heap.objs.size+1) R)
   {s with heap:=(s.heap.push PySem.W.emptyDict).push (PySem.W.instObj C s.heap.objs.size)}) :
  codeAny (model prog w) A (.call (.ref C) ⟨vs,D⟩) R s:=by
 obtain ⟨O,g,d,t,J⟩:=s;exact PySem.W.make_core (PySem.W.makes_of X F) (gt X G) (fun l=>PySem.W.bind_fn X l I) (.inl rfl) h
end
def jS (f:Str) (v:V):List (Str×V)->List (Str×V)
 |[]=>[(f,v)]
 | (g,x)::r=>if g=f then (g,v)::r else (g,x)::jS f v r
theorem yG (f g:Str) (v:V):∀E:List (Str×V),(jS f v E).lookup g=if g=f then some v else E.lookup g
 |[]=>by
  show List.lookup g [(f,v)]=_
  by_cases h:g=f
  ·have l:(g == f)=true:=hU.mpr h;simp only [List.lookup,l,if_pos h]
  ·have l:(g == f)=false:=dc.mpr h;simp only [List.lookup,l,if_neg h]
 | (k,x)::r=>by
  have F:=yG f g v r;rw [show jS f v ((k,x)::r)=(if k=f then (k,v)::r else (k,x)::jS f v r) from rfl]
  by_cases D:k=f
  ·rw [if_pos D]
   by_cases h:g=k
   ·have l:(g == k)=true:=hU.mpr h;simp only [List.lookup,l,if_pos (h.trans D)]
   ·have l:(g == k)=false:=dc.mpr h;simp only [List.lookup,l,if_neg (fun e:g=f=>h (e.trans D.symm))]
  ·rw [if_neg D]
   by_cases h:g=k
   ·have l:(g == k)=true:=hU.mpr h;simp only [List.lookup,l,if_neg (fun e:g=f=>D (h.symm.trans e))]
   ·have l:(g == k)=false:=dc.mpr h;simp only [List.lookup,l];exact F
theorem uB (f:Str) (v:V):∀D:List (Str×V),f∈(jS f v D).map (·.1)/\∀g,g∈D.map (·.1)->g∈(jS f v D).map (·.1)
 |[]=>⟨by simp [jS],fun g h=>by simp at h⟩
 | (k,x)::r=>by
  obtain ⟨F,E⟩:=uB f v r;rw [show jS f v ((k,x)::r)=(if k=f then (k,v)::r else (k,x)::jS f v r) from rfl]
  by_cases l:k=f
  ·rw [if_pos l];subst l;exact ⟨by simp,fun g h=>by simpa using h⟩
  ·rw [if_neg l];refine ⟨?_,fun g h=>?_⟩
   ·rw [gj];exact aF _ F
   ·rw [gj] at h ⊢
    rcases aj.mp h with e|e
    ·exact aj.mpr (.inl e)
    ·exact aF _ (E g e)
theorem zO (f:Str) (v:V):∀h:List (Str×V),(jS f v h).length<=h.length+1
 |[]=>by simp [jS]
 | (k,x)::r=>by
  have D:=zO f v r;rw [show jS f v ((k,x)::r)=(if k=f then (k,v)::r else (k,x)::jS f v r) from rfl]
  by_cases l:k=f
  ·rw [if_pos l,ck,ck];lia
  ·rw [if_neg l,ck,ck];lia
theorem RelO.some_of {v:V} {o:Option Value} (r:RelO (some v) o):∃u,o=some u/\RelV v u:=by
 cases o with
 |none=>exact (show False from r).elim
 |some u=>exact ⟨u,rfl,r⟩
theorem RelO.none_of {o:Option Value} (r:RelO none o):o=none:=by
 cases o with
 |none=>rfl
 |some u=>exact (show False from r).elim
theorem SC {v:V} {u:Value} (r:RelV v u):PySem.W.handedIn u=true:=by
 cases v with
 |non=>cases (show u=Value.none from r);rfl
 |bl b=>cases (show u=Value.bool b from r);rfl
 |int i=>obtain ⟨t,e⟩:=(show ∃t,u=Value.int i t from r);cases e;rfl
 |str x=>obtain ⟨t,e⟩:=(show ∃t,u=Value.str x t from r);cases e;rfl
 |byt b=>obtain ⟨t,e⟩:=(show ∃t,u=Value.bytes b t from r);cases e;rfl
 |flt b=>obtain ⟨t,e⟩:=(show ∃t,u=Value.float b t from r);cases e;rfl
 |ref a=>cases (show u=Value.ref a from r);rfl
 |ty n=>cases (show u=Value.type n from r);rfl
section
variable {P:Program} {w:World} {H H':Hp} {h h':Heap} {a C dx:Addr} {fs fs':List (Str×V)}
theorem mB (D:HOk P w H h) (e:H a=some (.ins C dx fs)):∃l,ObjM h a dx C l/\(∀f,RelO (fs.lookup f) (l f))/\PySem.Within l (fs.map (·.1))/\fs.length<=1000/\H dx=some (.own a):=by
 obtain ⟨d,z,F,E,l,n,r,q⟩:=(show ObjOk P w H h a (.ins C dx fs) from D a _ e);exact ⟨l,⟨E,n,F⟩,r,q,z,d⟩
end
structure Cls (K:PySem.W.Frag) (C:Addr):Prop where
 pg:PySem.W.plainGet K C Str.empty=true
 hd:PySem.W.hasDictIn K C=true
 po:PySem.W.plainOver K C=true
 sa:PySem.W.findIn K (.ref C) "__setattr__"=some (some (.builtin "object.__setattr__"))
theorem Cls.get {K:PySem.W.Frag} (c:Cls K C) (f:Str):PySem.W.plainGet K C f=true:=c.pg
def NoAttr (K:PySem.W.Frag) (C:Addr) (f:Str):Prop:=PySem.W.findIn K (.ref C) f=some none
theorem NoAttr.taker {K:PySem.W.Frag} {f:Str} (n:NoAttr K C f):PySem.W.takerIn K C f=some none:=by
 unfold PySem.W.takerIn;rw [show PySem.W.findIn K (.ref C) f=some none from n];rfl
structure Meth (K:PySem.W.Frag) (C:Addr) (m:Str) (f:Addr):Prop where
 at_:PySem.W.findIn K (.ref C) m=some (some (.ref f))
 fn:PySem.W.isFn K (.ref f)=true
 kp:PySem.W.keepIn K (.ref f)=true
section
variable {X:Cx} {ke:List (Addr×Obj)} {σ:St} {H:Hp} {s:Shared} {a C dx:Addr} {fs:List (Str×V)} {f:Str} {v:V} {A:Around} {E:Value->Shared->Prop}
theorem P6 {b:Bool} {Q:Value->Shared->Prop} (I:Inv X ke σ H s) (e:H a=some (.ins C dx fs)) (c:Cls X.K C) (n:NoAttr X.K C f) (l:fs.lookup f=some v)
  (h:∀u F,Inv X ke σ H F->RelV v u->Q u F):wpAny (model X.prog X.w) A (getAttr (.ref a) f b) Q E s:=by
 obtain ⟨G,O,r,_,_,_⟩:=mB I.hok e;obtain ⟨u,J,D⟩:=RelO.some_of (v:=v) (o:=G f) (by rw [<- l];exact r f);exact VA I.kIn O (c.get f) c.hd n J (SC D) (h u _ (I.tok _) D)
theorem lE {m:Str} {g:Addr} {pl:Sem Bool} {Q:Value×List Value->Shared->Prop} (I:Inv X ke σ H s) (e:H a=some (.ins C dx fs)) (c:Cls X.K C) (k:Meth X.K C m g) (l:fs.lookup m=none)
  (h:Q (.ref g,[.ref a]) s):wpAny (model X.prog X.w) A (getMethod (.ref a) m pl) Q E s:=by
 obtain ⟨D,O,r,_,_,_⟩:=mB I.hok e;have F:D m=none:=RelO.none_of (by rw [<- l];exact r m);exact TN I.kIn O (c.get m) k.at_ k.fn F h
theorem PC {y:V} {u:Value} {Q:Unit->Shared->Prop} (I:Inv X ke σ H s) (e:H a=some (.ins C dx fs)) (c:Cls X.K C) (n:NoAttr X.K C f) (hl:fs.length<1000) (ry:RelV y u)
  (h:∀D,Inv X ke σ (upd H a (.ins C dx (jS f y fs))) D->Q () D):wpAny (model X.prog X.w) A (setAttr (.ref a) f u) Q E s:=by
 obtain ⟨G,O,r,J,_,F⟩:=mB I.hok e;have hz:(fs.map (·.1)).length<=sizeLine:=by rw [ac,sizeLine_eq];lia
 refine UK I.kIn O c.sa c.po n.taker c.hd J hz fun h' l S=>h _ ?_
 have Z:∃o,h'.get? dx=some o:=let ⟨o,_,_,Y,_⟩:=l.ns;⟨o,Y⟩
 refine I.write (x:=a) (e:=dx) (by rw [e];exact True.intro) (.inr F) (fun b q hb z=>(S.2 b hb).trans z) Z ?_;refine ⟨by rw [jQ O.ne];exact F,?_,O.ne,l.obj,_,l.ns,fun g=>?_,fun g hg=>?_⟩
 ·have:=zO f y fs;lia
 ·show RelO ((jS f y fs).lookup g) (if g=f then some u else G g);rw [yG]
  by_cases q:g=f
  ·rw [if_pos q,if_pos q];exact ry
  ·rw [if_neg q,if_neg q];exact r g
 ·by_cases q:g=f
  ·rw [q];exact (uB f y fs).1
  ·refine (uB f y fs).2 g (J g fun z=>hg ?_);show (if g=f then some u else G g)=none;rw [if_neg q];exact z
theorem Inv.made (I:Inv X ke σ H s):Inv X ke σ (upd (upd H s.heap.objs.size (.own (s.heap.objs.size+1))) (s.heap.objs.size+1) (.ins C s.heap.objs.size []))
  {s with heap:=(s.heap.push PySem.W.emptyDict).push (PySem.W.instObj C s.heap.objs.size)}:=by
 have h:(s.heap.push PySem.W.emptyDict).get? s.heap.objs.size=some PySem.W.emptyDict:=aw s.heap rfl;have J:((s.heap.push PySem.W.emptyDict).push (PySem.W.instObj C s.heap.objs.size)).get? (s.heap.objs.size+1)=some (PySem.W.instObj C s.heap.objs.size):=by
  have:=aw (s.heap.push PySem.W.emptyDict) (o:=PySem.W.instObj C s.heap.objs.size) rfl
  rwa [du] at this
 have O:(s.heap.push PySem.W.emptyDict).Ns s.heap.objs.size (fun _=>none):=⟨PySem.W.emptyDict,#[],_,h,rfl,(fun e F=>absurd F (by simp)),fun _=>rfl⟩;have G:=I.laid (a:=s.heap.objs.size) (o:=.own (s.heap.objs.size+1)) (h':=s.heap.push PySem.W.emptyDict) (t':=s.toks) (fun b u q=>ai _ q) (ak _) ⟨_,h⟩;refine G.laid (a:=s.heap.objs.size+1) (o:=.ins C s.heap.objs.size []) (t':=s.toks) (fun b u q=>ai _ q) (Nat.le_of_eq (du _ _)) ?_;have l:s.heap.objs.size≠s.heap.objs.size+1:=aQ (ir _);refine ⟨by rw [jQ l,jF],aH _,l,J,fun _=>none,(Heap.Ns1.of_empty O).at fun o q=>ai _ q,fun _=>True.intro,fun y D=>absurd rfl D⟩
theorem VI {prog:Program} {w:World} {l:Env} {e:Expr} {f:Str} {G:Pos} {s:Shared} {Q:Value->Shared->Prop} (F:attributeBase e f l (eval e l)=eval e l)
  (h:wpAny (model prog w) A (eval e l) (fun o D=>wpAny (model prog w) A (getAttr o f true) Q E D) E s):wpAny (model prog w) A (eval (.Attribute e f G) l) Q E s :=
 Attribute_any_ h (by rw [arm_eval_Attribute,F])
end
def GH (K:PySem.W.Frag) (D:TE) (f:Str):TE:=fun F H Q=>D F H fun x h=>∃a C E l v,x=.ref a/\h a=some (.ins C E l)/\Cls K C/\NoAttr K C f/\l.lookup f=some v/\Q v h
def XV (K:PySem.W.Frag) (I J:TE) (f:Str):TS:=fun D h H=>J h H fun y G=>I h G fun x F=>∃a C E l,x=.ref a/\F a=some (.ins C E l)/\Cls K C/\NoAttr K C f/\l.length<1000/\
 D.nx h (upd F a (.ins C E (jS f y l)))
section
variable {X:Cx} {o e kx:Expr} {f:Str} {ko pos' kh:Pos} {ta tv:TE}
theorem HH (he:PE X e ta) (V:attributeBase e f X.env (eval e X.env)=eval e X.env):PE X (.Attribute e f ko) (GH X.K ta f):=by
 intro O s D H Q I h;refine VI V (jZ (he O s D H _ I h) fun u s1 ⟨x,F,S,Z,a,C,dx,fs,v,Y,J,c,n,l,q⟩=>?_);subst Y;obtain rfl:u=Value.ref a:=Z;exact P6 S J c n l fun u' s2 E G=>⟨v,F,E,G,q⟩
theorem vR (ha:PE X o ta) (hv:PE X kx tv) (Z:swapsWith kx (some (.Attribute o f pos')) ko.line X.env=pure false):PS X (.Assign [.Attribute o f pos'] kx ko) (XV X.K ta tv f):=by
 intro F s E H D I h;refine plainObj_wpAny_Assign_Attribute (jZ (hv F s E H _ I h) fun u S ⟨y,O,I1,ry,q⟩=>jZ (ha F S E O _ I1 q) fun Y s2 ⟨x,H2,J,rx,a,C,dx,fs,ex,V,c,n,l,G⟩=>?_) Z;subst ex;obtain rfl:Y=Value.ref a:=rx;exact PC J V c n l ry fun s3 I3=>⟨E,_,I3,G⟩
end
section
variable {X:Cx} {ke:List (Addr×Obj)} {σ:St} {H:Hp} {s:Shared} {A:Around} {E:Value->Shared->Prop} {Q:Value->Shared->Prop} {c:Value} {b:Bool}
inductive TyOf (K:PySem.W.Frag) (H:Hp):V->Value->Prop where
 |non:TyOf K H .non (.type "NoneType")
 |bl (x:Bool):TyOf K H (.bl x) (.type "bool")
 |int (i:Int):TyOf K H (.int i) (.type "int")
 |str (x:Str):TyOf K H (.str x) (.type "str")
 |flt (x:UInt64):TyOf K H (.flt x) (.type "float")
 |lst {a:Addr} {xs:List V} (e:H a=some (.lst xs)):TyOf K H (.ref a) (.type "list")
 |frz {a:Addr} {o:Obj} {xs:List V} (e:H a=some (.frz o (.lst xs))):TyOf K H (.ref a) (.type "list")
 |tup {a:Addr} {xs:List V} (e:H a=some (.tup xs)):TyOf K H (.ref a) (.type "tuple")
 |dK {a:Addr} {km:List (kQ×V)} (e:H a=some (.dK km)):TyOf K H (.ref a) (.type "dict")
 |dT {a:Addr} {km:List (List kQ×V)} (e:H a=some (.dT km)):TyOf K H (.ref a) (.type "dict")
 |ins {a C dx:Addr} {fs:List (Str×V)} (e:H a=some (.ins C dx fs)) (cl:Cls K C) (ha:PySem.W.findIn K (.ref C) "__class__"=some (some (.builtin "object.__class__")))
   (hn:PySem.W.specialIn K (.builtin "object.__class__") "__get__"=some (some (.builtin "getset_descriptor.__get__"))) (htk:PySem.W.takesIn K (.builtin "object.__class__")=some true)
   (hm:PySem.W.mroIn K C (.type "object")=some true):TyOf K H (.ref a) (.ref C)
theorem R8 {x:V} {u t:Value} (I:Inv X ke σ H s) (D:RelV x u) (ty:TyOf X.K H x t) (e:PySem.W.kitOne X.K t c=some b) (h:∀tk,Q (.bool b) {s with toks:=tk}) :
  wpAny (model X.prog X.w) A (call (.builtin "isinstance") [u,c]) Q E s:=by
 cases ty with
 |non=>cases (show u=Value.none from D);exact cb PySem.W.kitx_none I.kIn True.intro e (fun z=>nomatch z) h
 |bl y=>cases (show u=Value.bool y from D);exact cb PySem.W.kitx_bool I.kIn True.intro e (fun z=>nomatch z) h
 |int i=>obtain ⟨t,q⟩:=(show ∃t,u=Value.int i t from D);cases q;exact cb PySem.W.kitx_int I.kIn True.intro e (fun z=>nomatch z) h
 |str y=>obtain ⟨t,q⟩:=(show ∃t,u=Value.str y t from D);cases q;exact cb PySem.W.kitx_str I.kIn True.intro e (fun z=>nomatch z) h
 |flt y=>obtain ⟨t,q⟩:=(show ∃t,u=Value.float y t from D);cases q;exact cb PySem.W.kitx_float I.kIn True.intro e (fun z=>nomatch z) h
 |@lst a G l =>
  cases (show u=Value.ref a from D);obtain ⟨_,_,n,_,F⟩:=(show ObjOk X.prog X.w H s.heap a (.lst G) from I.hok a _ l);exact cb PySem.W.kitx_list I.kIn ⟨_,F,rfl⟩ e (fun z=>nomatch z) h
 |@frz a ob G l =>
  cases (show u=Value.ref a from D);obtain ⟨_,_,_,n,_,F⟩:=(show ObjOk X.prog X.w H s.heap a (.frz ob (.lst G)) from I.hok a _ l);exact cb PySem.W.kitx_list I.kIn ⟨_,F,rfl⟩ e (fun z=>nomatch z) h
 |@tup a G l =>
  cases (show u=Value.ref a from D);obtain ⟨_,_,_,p⟩:=(show ObjOk X.prog X.w H s.heap a (.tup G) from I.hok a _ l);obtain ⟨o,F,S,_⟩:=p;exact cb PySem.W.kitx_tuple I.kIn ⟨o,F,S⟩ e (fun z=>nomatch z) h
 |@dK a Y l =>
  cases (show u=Value.ref a from D);obtain ⟨_,_,vs,_,p⟩:=(show ObjOk X.prog X.w H s.heap a (.dK Y) from I.hok a _ l);obtain ⟨o,es,ep,F,S,_⟩:=p;exact cb PySem.W.kitx_dict I.kIn ⟨o,F,S.1⟩ e (fun z=>nomatch z) h
 |@dT a Y l =>
  cases (show u=Value.ref a from D);obtain ⟨_,_,G,_,o,es,ep,F,S,_⟩:=(show ObjOk X.prog X.w H s.heap a (.dT Y) from I.hok a _ l);exact cb PySem.W.kitx_dict I.kIn ⟨o,F,S.1⟩ e (fun z=>nomatch z) h
 |@ins a C dx fs l cl ha hn Z hm =>
  cases (show u=Value.ref a from D);obtain ⟨mA,O,_⟩:=mB I.hok l;obtain ⟨od,J,_⟩:=O.look;exact cb (PySem.W.kitx_own (cl.get _) cl.hd ha hn Z hm) I.kIn J e (fun z=>nomatch z) h
end
end L2
namespace L2
open PySem PySem.Spec PyProof.Rows
structure Room (k:Nat) (A:Around):Prop where
 hd:A.handled=none
 dp:A.depth+3*k+5<recursionLimit
 un:A.units+16*k+200<cLine
variable {k:Nat} {A:Around}
theorem Room.mono {j:Nat} (r:Room k A) (h:j<=k):Room j A:=⟨r.hd,by have:=r.dp;lia,by have:=r.un;lia⟩
theorem Room.deeper (r:Room (k+1) A) (h:Env):Room k (A.deeper h) :=
 ⟨r.hd,by have:=r.dp;show A.depth+1+3*k+5<_;lia,by have:=r.un;show A.units+3+16*k+200<_;lia⟩
variable {us:List Value}
theorem PX {C:Addr} {h:List (Str×Value)}:(A.under (.builtin "type.__call__" ⟨.ref C::us,h⟩)).depth=A.depth+1:=by
 first|rfl|simp [Around.under,Code.weight,Code.isCreation,Code.isGuard,Code.isCaller,Code.frames,Code.isFrame,guardIds]
theorem PV {C:Addr} {h:List (Str×Value)}:(A.under (.builtin "type.__call__" ⟨.ref C::us,h⟩)).units=A.units+1:=by
 first|rfl|simp [Around.under,Code.cUnits,Code.frames,Code.isFrame]
theorem Room.make (r:Room (k+1) A) (C:Addr) (us:List Value) (h:List (Str×Value)):Room k (A.under (.builtin "type.__call__" ⟨.ref C::us,h⟩)) :=
 ⟨r.hd,by have:=r.dp;rw [PX];lia,by have:=r.un;rw [PV];lia⟩
theorem Room.depth (r:Room k A):A.depth<recursionLimit:=by have:=r.dp;lia
theorem Room.units (r:Room k A):A.units+64<cLine:=by have:=r.un;lia
theorem Room.units0 (r:Room k A):A.units<cLine:=by have:=r.un;lia
def bN:TA:=fun _ H Q=>Q [] H
def yH (D:TE) (G:TA):TA:=fun h H Q=>D h H fun x l=>G h l fun E F=>Q (x::E) F
section
variable {X:Cx} {e:Expr} {es:List Expr} {te:TE} {t:TA} {ko:Pos}
theorem jE:PA X [] bN:=fun _ _ _ _ H Q I h=>Calls.spliced_nil ⟨[],H,I,.nil,h⟩
theorem jC (ha:PE X e te) (hr:PA X es t) (hs:starEach (e::es) X.env=(false,eval e X.env)::starEach es X.env:=by rfl):PA X (e::es) (yH te t):=by
 intro ko D s l H Q I h;rw [hs];show wpAny _ _ (spliced ((false,eval e X.env)::backTo ko (starEach es X.env))) _ _ s;refine Calls.spliced_cons (jZ (ha D s l H _ I h) fun u V ⟨x,S,I1,G,E⟩=>?_);exact jZ (hr ko D V l S _ I1 E) fun us s2 ⟨Y,Z,O,J,F⟩=>⟨x::Y,Z,O,.cons G J,F⟩
def XL (t:TA):TE:=fun D H Q=>t D H fun l h=>l.length<=sizeLine/\∀p,h p=none->Q (.ref p) (upd h p (.tup l))
def XQ (t:TA):TE:=fun D H Q=>t D H fun l h=>l.length<=sizeLine/\∀p,h p=none->Q (.ref p) (upd h p (.lst l))
theorem kX {V} (h:PA X es t):PE X (.Tuple es V ko) (XL t):=by
 intro S s F H Q I G;refine wpAny_Tuple_spliced (jZ (h ko S s F H _ I G) fun us l ⟨J,D,E,r,z,q⟩=>⟨by rw [<- r.length];exact z,?_⟩);have O:D l.heap.objs.size=none:=E.hok.fresh (ak _);refine ⟨.ref l.heap.objs.size,upd D l.heap.objs.size (.tup J),E.laid (t':=l.toks) (fun b u e=>ai _ e) (ak _) ?_,rfl,q _ O⟩;exact ⟨z,us,r,⟨_,aw _ rfl,rfl,_,rfl⟩⟩
theorem qC (h:PA X es t):PE X (.List es ko) (XQ t):=by
 intro S s F H Q I G;refine wpAny_List_spliced (jZ (h ko S s F H _ I G) fun us l ⟨J,D,E,r,z,q⟩=>⟨by rw [<- r.length];exact z,?_⟩);have O:D l.heap.objs.size=none:=E.hok.fresh (ak _);refine ⟨.ref l.heap.objs.size,upd D l.heap.objs.size (.lst J),E.laid (t':=l.toks) (fun b u e=>ai _ e) (ak _) ?_,rfl,q _ O⟩;exact ⟨z,us,0,r,aw _ rfl⟩
end
abbrev Sp:=List V->Hp->VK->XK->Prop
abbrev yI:=List Env->Hp->Shared->XK->Value->Shared->Prop
structure Env0 (P:Program) (w:World) (K:PySem.W.Frag) (mg:Str->Option Value) (base:Heap) (A:Around) (outer:List Env) (s:Shared) (H:Hp):Prop where
 frames:A.frames=some outer
 mod:Mod K mg base
 bs:∀b o,base.get? b=some o->s.heap.get? b=some o/\H b=none
 bsz:base.objs.size<=s.heap.objs.size
 funs:s.heap.FunFrames base outer
 frf:∀b∈j8 outer,H b=none
 hok:HOk P w H s.heap
 bare:AllBare s.gens
def CE (outer:List Env) (P:Program) (w:World) (H:Hp) (s:Shared) (Q:VK) (u:Value) (h:Shared):Prop :=
 ∃v l,h.os=s.os/\AllBare h.gens/\Un (j8 outer) [] H l s.heap h.heap/\HOk P w l h.heap/\RelV v u/\Q v l
def CR (CX:yI) (outer:List Env) (P:Program) (w:World) (H:Hp) (s:Shared) (Q:VK) (E:XK) (r:Result) (h:Shared):Prop :=
 match r with
 |.ok (.ret u)=>CE outer P w H s Q u h
 |.ok _=>False
 |.error e=>CX outer H s E e h
structure FnOk (P:Program) (w:World) (K:PySem.W.Frag) (mg:Str->Option Value) (base:Heap) (CX:yI) (k:Nat) (f:Addr) (fd:FuncData) (ps:List Str) (sp:Sp):Prop where
 len:∀vs H Q E,sp vs H Q E->vs.length=ps.length
 run:∀(A:Around) (outer:List Env) (s:Shared) (H:Hp) (args:Args) (us:List Value) (vs:List V) (Q:VK) (E:XK),Room k A->Env0 P w K mg base A outer s H->BindsTo s fd args (ps.zip us)->Vals vs us->sp vs H Q E->
  codeAny (model P w) A (.call (.ref f) args) (CR CX outer P w H s Q E) s
variable {P:Program} {w:World} {K:PySem.W.Frag} {mg:Str->Option Value} {base:Heap} {CX:yI} {f:Addr} {ps:List Str}
theorem FnOk.imp {G:FuncData} {sp sp':Sp} (F:FnOk P w K mg base CX k f G ps sp)
  (h:∀vs H Q E,sp' vs H Q E->sp vs H Q E):FnOk P w K mg base CX k f G ps sp' :=
 ⟨fun vs H Q E q=>F.len vs H Q E (h _ _ _ _ q),fun A l s H D us vs Q E O I J V S=>F.run A l s H D us vs Q E O I J V (h _ _ _ _ S)⟩
theorem Env0.make {outer:List Env} {s:Shared} {H:Hp} (e:Env0 P w K mg base A outer s H) (C:Addr) (us:List Value) (h:List (Str×Value)) :
  Env0 P w K mg base (A.under (.builtin "type.__call__" ⟨.ref C::us,h⟩)) outer s H:=⟨by first|exact e.frames|(simpa [Around.under,Code.envs,Code.isFrame,pushEnvs] using e.frames),e.mod,e.bs,e.bsz,e.funs,e.frf,e.hok,e.bare⟩
section
variable {X:Cx} {ke:List (Addr×Obj)} {σ:St} {H:Hp} {s s':Shared}
theorem Inv.env0 (I:Inv X ke σ H s):Env0 X.prog X.w X.K X.mg X.base X.A X.stack s H :=
 ⟨I.ok.frames,I.ok.mod,I.bs,aI I.ok.bsz I.sz,I.stack,I.stkFree,I.hok,I.bare⟩
theorem Inv.after {Q:VK} {u:Value} (I:Inv X ke σ H s) (h:CE X.stack X.prog X.w H s Q u s'):EP X ke σ Q u s':=by
 obtain ⟨v,J,G,l,F,E,r,q⟩:=h;obtain ⟨O,g,d,t,D⟩:=s';obtain rfl:D=s.os:=G;exact ⟨v,J,I.call (h':=O) (g':=g) (d':=d) (t':=t) (ch:=[]) F E l (fun b z=>absurd z (by simp)),r,q⟩
end
def wW (sp:Sp) (dvs:List V) (E:XK) (t:TA):TE:=fun D H Q=>t D H fun l h=>sp (l++dvs) h Q E
def mR (C:Addr) (m:Str) (sp:Sp) (dvs:List V) (E:XK) (G:TE) (t:TA):TE:=fun l H Q=>G l H fun x h=>∃a I D,x=.ref a/\h a=some (.ins C I D)/\D.lookup m=none/\
 t l h fun F J=>sp (x::(F++dvs)) J Q E
def FW (C:Addr) (sp:Sp) (dvs:List V) (E:XK) (t:TA):TE:=fun F H Q=>t F H fun D l=>∀x h,l x=none->l h=none->h≠x->
 sp (.ref x::(D++dvs)) (upd (upd l h (.own x)) x (.ins C h [])) (fun v G=>v=.non/\Q (.ref x) G) E
def Binds (K:PySem.W.Frag) (h:FuncData) (ps:List Str) (ds:List Value):Prop :=
 ∀(s:Shared) (us:List Value),K.In s.heap->(us++ds).length=ps.length->BindsTo s h ⟨us,[]⟩ (ps.zip (us++ds))
theorem Binds.all {l:FuncData} (h:∀us:List Value,us.length=ps.length->bindArgs l ⟨us,[]⟩=pure (ps.zip us)):Binds K l ps []:=fun s us _ D=>by
 rw [di] at D ⊢;exact .of_eq (h us D)
def cK (CX:yI) (X:Cx) (E:XK):Prop:=∀(l:List (Addr×Obj)) (D:St) (H:Hp) (s:Shared) (e:Value) (h:Shared),Inv X l D H s->CX X.stack H s E e h->X.xe e h
section
variable {X:Cx} {CX:yI} {k:Nat} {f C:Addr} {fd:FuncData} {ps:List Str} {sp:Sp} {dvs:List V} {ds:List Value} {E:XK} {x m:Str} {p ko ki:Pos} {e o:Expr} {es:List Expr} {ta:TE} {t:TA}
theorem gD {D:List (Addr×Obj)} {G:St} {H:Hp} {s:Shared} {Q:VK} {us:List Value} {vs:List V} (F:FnOk X.prog X.w X.K X.mg X.base CX k f fd ps sp) (hr:Room k X.A) (Y:Binds X.K fd ps ds) (hd:Vals dvs ds) (O:cK CX X E)
  (I:Inv X D G H s) (r:Vals vs us) (h:sp (vs++dvs) H Q E):wpAny (model X.prog X.w) X.A (call (.ref f) us) (EP X D G Q) X.xe s:=by
 have J:Vals (vs++dvs) (us++ds):=r.append hd;have Z:(us++ds).length=ps.length:=by rw [<- J.length];exact F.len _ _ _ _ h
 refine wpAny_call (hV (F.run X.A X.stack s H ⟨us,[]⟩ (us++ds) (vs++dvs) Q E hr I.env0 (Y s us I.kIn Z) J h) fun r S l=>?_);cases r with
 |error e=>exact O D G H s e S I l
 |ok fl =>
  cases fl with
  |ret u=>exact I.after l
  |next=>exact False.elim l
  |brk=>exact False.elim l
  |cont=>exact False.elim l
theorem UY (F:FnOk X.prog X.w X.K X.mg X.base CX k f fd ps sp) (S:Room k X.A) (hg:Gl X x) (V:X.mg x=some (.ref f)) (hk:PySem.W.keepIn X.K (.ref f)=true) (Z:Binds X.K fd ps ds) (O:Vals dvs ds) (J:cK CX X E)
  (ha:PA X (e::es) t) (l:(x == ("__debug__":Str))=false:=by decide) (he:starEach (e::es) X.env=(false,eval e X.env)::starEach es X.env:=by rfl) (hpl:(backTo ko (starEach es X.env)).any (·.1)=false:=by rfl) :
  PE X (.Call (.Name x p) (e::es) [] ko) (wW sp dvs E t):=by
 intro Y s G H Q I h;refine em (QU I hg V ?_ l);refine cx (h₀:=X.base) I.ok.mod.kin hk (jZ (ha ko Y s G H _ I h) fun us s1 ⟨vs,H1,D,r,q⟩=>⟨D.kIn,?_⟩) he hpl;exact gD F S Z O J D r q
theorem UT {pl:Sem Bool} (he:PE X o ta) (c:Cls X.K C) (S:Meth X.K C m f) (F:FnOk X.prog X.w X.K X.mg X.base CX k f fd ps sp) (hr:Room k X.A) (hb:Binds X.K fd ps ds) (hd:Vals dvs ds) (hx:cK CX X E) (ha:PA X (e::es) t)
  (D:starEach (e::es) X.env=(false,eval e X.env)::starEach es X.env:=by rfl) (hpl:(backTo ko (starEach es X.env)).any (·.1)=false:=by rfl)
  (ht:eval (.Call (.Attribute o m ki) (e::es) [] ko) X.env=(do
   let O <- eval o X.env
   standAt ki.atName
   let (f,first) <- holding [O] (getMethod O m pl)
   callWith ko f first (backTo ko (starEach (e::es) X.env)) (backToKw ko (keywordEach [] X.env))):=by rfl) :
  PE X (.Call (.Attribute o m ki) (e::es) [] ko) (mR C m sp dvs E ta t):=by
 intro V s G H Q I h;refine eo (pl:=pl) (jZ (he V s G H _ I h) fun u s1 ⟨x,H1,Y,rx,a,dx,fs,ex,ea,l,q⟩=>?_) ht;subst ex;obtain rfl:u=Value.ref a:=rx;refine lE Y ea c S l ?_;refine cx (first:=[.ref a]) (h₀:=X.base) I.ok.mod.kin S.kp (jZ (ha ko V s1 G H1 _ Y q) fun us s2 ⟨vs,H2,J,r,Z⟩=>⟨J.kIn,?_⟩) D hpl;exact gD (us:=.ref a::us) (vs:=.ref a::vs) F hr hb hd hx J (.cons rfl r) Z
theorem S3 {pl:Sem Bool} (he:PE X o ta) (c:Cls X.K C) (J:Meth X.K C m f) (F:FnOk X.prog X.w X.K X.mg X.base CX k f fd ps sp) (Z:Room k X.A) (hb:Binds X.K fd ps ds) (Y:Vals dvs ds) (S:cK CX X E)
  (ht:eval (.Call (.Attribute o m ki) [] [] ko) X.env=(do
   let G <- eval o X.env
   standAt ki.atName
   let (f,first) <- holding [G] (getMethod G m pl)
   callWith ko f first (backTo ko (starEach [] X.env)) (backToKw ko (keywordEach [] X.env))):=by rfl) :
  PE X (.Call (.Attribute o m ki) [] [] ko) (mR C m sp dvs E ta bN):=by
 intro ke s O H Q I h;refine eo (pl:=pl) (jZ (he ke s O H _ I h) fun u s1 ⟨x,H1,D,rx,a,dx,fs,ex,V,l,q⟩=>?_) ht;subst ex;obtain rfl:u=Value.ref a:=rx;refine lE D V c J l ?_;exact PySem.W.callWith_K0 (first:=[.ref a]) D.kIn J.kp (gD (us:=[.ref a]) (vs:=[.ref a]) F Z hb Y S D (.cons rfl .nil) q)
structure Mk (K:PySem.W.Frag) (C f:Addr):Prop where
 makes:PySem.W.makesIn K C=true
 init:PySem.W.findIn K (.ref C) "__init__"=some (some (.ref f))
 fn:PySem.W.isFn K (.ref f)=true
 kp:PySem.W.keepIn K (.ref C)=true
theorem SW {O:List (Addr×Obj)} {J:St} {H:Hp} {s:Shared} {Q:VK} {us:List Value} {vs:List V} (M:Mk X.K C f) (F:FnOk X.prog X.w X.K X.mg X.base CX k f fd ps sp) (hr:Room (k+1) X.A) (hb:Binds X.K fd ps ds) (hd:Vals dvs ds)
  (hx:cK CX X E) (I:Inv X O J H s) (r:Vals vs us)
  (h:∀x G,H x=none->H G=none->G≠x->sp (.ref x::(vs++dvs)) (upd (upd H G (.own x)) x (.ins C G [])) (fun v H2=>v=.non/\Q (.ref x) H2) E) :
  wpAny (model X.prog X.w) X.A (call (.ref C) us) (EP X O J Q) X.xe s:=by
 have Y:=h (s.heap.objs.size+1) s.heap.objs.size (I.hok.fresh (Nat.le_succ _)) (I.hok.fresh (ak _)) (aQ (ir _));have D:=Inv.made (C:=C) I;have S:Vals (V.ref (s.heap.objs.size+1)::(vs++dvs)) (Value.ref (s.heap.objs.size+1)::(us++ds)):=.cons rfl (r.append hd);have hl:(Value.ref (s.heap.objs.size+1)::us++ds).length=ps.length:=by
  have e:=S.length;rw [F.len _ _ _ _ Y] at e;exact e.symm
 refine wpAny_call (TJ (f:=f) I.kIn M.makes M.init (hU.mp M.fn) (hV (F.run _ X.stack _ _ ⟨Value.ref (s.heap.objs.size+1)::us,[]⟩ (Value.ref (s.heap.objs.size+1)::(us++ds)) _ _ E (hr.make C us [])
  (D.env0.make C us []) (hb _ (Value.ref (s.heap.objs.size+1)::us) D.kIn hl) S Y) fun r Z l=>?_))
 cases r with
 |error e=>exact hx O J _ _ e Z D l
 |ok fl =>
  cases fl with
  |ret u =>
   obtain ⟨v,H',I3,rv,ev,q3⟩:=D.after l;subst ev;exact ⟨rv,⟨V.ref (s.heap.objs.size+1),H',I3,rfl,q3⟩⟩
  |next=>exact False.elim l
  |brk=>exact False.elim l
  |cont=>exact False.elim l
theorem UU (M:Mk X.K C f) (F:FnOk X.prog X.w X.K X.mg X.base CX k f fd ps sp) (S:Room (k+1) X.A) (hg:Gl X x) (V:X.mg x=some (.ref C)) (Z:Binds X.K fd ps ds) (O:Vals dvs ds) (J:cK CX X E)
  (ha:PA X (e::es) t) (l:(x == ("__debug__":Str))=false:=by decide) (he:starEach (e::es) X.env=(false,eval e X.env)::starEach es X.env:=by rfl) (hpl:(backTo ko (starEach es X.env)).any (·.1)=false:=by rfl) :
  PE X (.Call (.Name x p) (e::es) [] ko) (FW C sp dvs E t):=by
 intro Y s G H Q I h;refine em (QU I hg V ?_ l);refine cx (h₀:=X.base) I.ok.mod.kin M.kp (jZ (ha ko Y s G H _ I h) fun us s1 ⟨vs,H1,D,r,q⟩=>⟨D.kIn,?_⟩) he hpl;exact SW M F S Z O J D r q
end
section
variable {X:Cx} {CX:yI} {k:Nat} {f C:Addr} {fd:FuncData} {ps ks:List Str} {sp:Sp} {E:XK} {x m:Str} {p ko ki kpos:Pos} {e o:Expr} {es:List Expr} {kws:List Keyword} {te ta:TE} {t tk:TA} {nm:Option Str}
variable {g:List Value->List Value->List Value} {gV:List V->List V->List V}
end
structure FnScope (N P:List Str) (sc:Scope):Prop where
 kind:sc.kind=.function
 co:sc.isCoroutine=false
 gen:sc.isGenerator=false
 nd:N.Nodup
 pre:N.take P.length=P
 par:∀x∈P,sc.names.lookup x=some .local\/sc.names.lookup x=some .cell
 nofree:∀y∈sc.names,y.2≠.free
theorem CY {D:Str->Option NameKind} {x:Str}:∀{l:List (Str×Value)} {m:Str->Option Value},(∀v,(x,v)∉l)->bindL D l m x=m x
 |[],_,_=>rfl
 | (n,v)::r,m,h=>by
  unfold bindL;rw [CY fun w E=>h w (aF _ E)]
  split
  ·have:x≠n:=by rintro rfl;exact h v bq
   simp [this]
  ·rfl
theorem C2 {D:Str->Option NameKind} {x:Str}:∀{l:List (Str×Value)} {m:Str->Option Value},(∀v,(x,v)∉l)->bindC D l m x=m x
 |[],_,_=>rfl
 | (n,v)::r,m,h=>by
  unfold bindC;rw [C2 fun w E=>h w (aF _ E)]
  split
  ·rfl
  ·have:x≠n:=by rintro rfl;exact h v bq
   simp [this]
theorem CZ {l:Str->Option NameKind} {x:Str} {v:Value}:∀{P:List Str} {vs:List Value} {i:Nat} {m:Str->Option Value},P.Nodup->P[i]?=some x->vs[i]?=some v->l x=some .local->
  bindL l (P.zip vs) m x=some v
 |[],_,_,_,_,h,_,_=>by simp at h
 |_::_,[],_,_,_,_,h,_=>by simp at h
 |p::P,w::vs,0,m,F,E,D,hk=>by
  simp at E D;subst E;subst D
  show bindL l ((p,w)::P.zip vs) m p=_;unfold bindL;rw [CY fun v G=>(ec.mp F).1 (List.of_mem_zip G).1,if_pos hk];simp
 |p::P,w::vs,i+1,m,F,E,D,hk=>by
  show bindL l ((p,w)::P.zip vs) m x=_;unfold bindL;exact CZ (i:=i) (ec.mp F).2 (by simpa using E) (by simpa using D) hk
theorem C3 {l:Str->Option NameKind} {x:Str} {v:Value}:∀{P:List Str} {vs:List Value} {i:Nat} {m:Str->Option Value},P.Nodup->P[i]?=some x->vs[i]?=some v->l x≠some .local->
  bindC l (P.zip vs) m x=some v
 |[],_,_,_,_,h,_,_=>by simp at h
 |_::_,[],_,_,_,_,h,_=>by simp at h
 |p::P,w::vs,0,m,F,E,D,hk=>by
  simp at E D;subst E;subst D
  show bindC l ((p,w)::P.zip vs) m p=_;unfold bindC;rw [C2 fun v G=>(ec.mp F).1 (List.of_mem_zip G).1,if_neg hk];simp
 |p::P,w::vs,i+1,m,F,E,D,hk=>by
  show bindC l ((p,w)::P.zip vs) m x=_;unfold bindC;exact C3 (i:=i) (ec.mp F).2 (by simpa using E) (by simpa using D) hk
def start (N:List Str) (vs:List V):St:=vs.map some++List.replicate (N.length - vs.length) none
def qF (CX:yI) (P:Program) (w:World) (K:PySem.W.Frag) (mg:Str->Option Value) (base:Heap) (N:List Str) (D:Str) (scope:Scope) (f:Addr) (l:Value) (A:Around) (outer:List Env) (s:Shared) (H:Hp) (E:XK):Cx where
 prog:=P
 w:=w
 K:=K
 mg:=mg
 base:=base
 A:=A.deeper (envOfC D scope s.heap.objs.size f l)
 N:=N
 s₀:=s
 H₀:=H
 env:=envOfC D scope s.heap.objs.size f l
 outer:=outer
 stack:=envOfC D scope s.heap.objs.size f l::outer
 ex:=[]
 calm:=true
 fn:=fun _=>true
 pn:=[]
 xe:=fun e G=>wpAny (model P w) (A.deeper (envOfC D scope s.heap.objs.size f l)) (leaving (envOfC D scope s.heap.objs.size f l) e) (fun _ h=>CX outer H s E e h) (fun F h=>CX outer H s E F h) G
theorem DZ {l:Scope} {n:Nat} {x:Str} (h:l.names.lookup x=some .cell):∃c,(cellsFrom n l.names []).lookup x=some c:=by
 have q:=PySem.W.cellsFrom_some l.names n [] (.inl h);exact Option.isSome_iff_exists.mp q
theorem R9 {N:List Str} {kg:Str} {scope:Scope} {Y:Value} {outer:List Env} {s s1:Shared} {H:Hp} {E:XK} {vs:List V}
  (S:FnScope N ps scope) (hd:A.handled=none) (D:Env0 P w K mg base A outer s H) (hl:vs.length=ps.length) (r:Vals vs us)
  (x:InCallC s s.heap.objs.size (bindL (envOfC kg scope s.heap.objs.size f Y).kindOf (ps.zip us) fun _=>none) (cellsFrom (s.heap.objs.size+1) scope.names []) (bindC (envOfC kg scope s.heap.objs.size f Y).kindOf (ps.zip us) fun _=>none) s1) :
  Inv (qF CX P w K mg base N kg scope f Y A outer s H E) [] (start N vs) H s1:=by
 have ah:ps.length<=N.length:=by have:=cf List.length S.pre;rw [aW] at this;lia
 obtain ⟨O,tk,rfl,hk⟩:=x.done;have F:∀b:Addr,b∉(qF CX P w K mg base N kg scope f Y A outer s H E).ex:=fun b z=>absurd (show b∈([]:List Addr) from z) (by simp)
 refine ⟨⟨D.mod,S.kind,rfl,rfl,ak _,fun y z c O l=>?_,fun y G=>?_,fun y c _ h=>?_,fun _=>hd,Around.frames_deeper D.frames,.inr ⟨rfl,rfl⟩,fun b z=>absurd z (F b),D.bs,D.bsz,fun b _ _=>F b,fun b z=>absurd z (F b),D.funs,D.frf⟩,
  rfl,D.bare,Un.kept hk,⟨_,x.toInCall.ns,fun i y v O l h3=>?_⟩,fun y c h=>⟨_,x.cell y c h⟩,D.hok.fresh (ak _),fun y c h=>?_,fun p I=>absurd (show p∈([]:List (Addr×Obj)) from I) (by simp),D.hok.kept hk,?_⟩
 ·exact name_of_addr x.apart (fo O) (fo l)
 ·have G:scope.names.lookup y=some .cell\/scope.names.lookup y=some .free:=G
  rcases G with G|G
  ·exact DZ G
  ·exact absurd rfl (S.nofree _ (fo G))
 ·exact il (x.above y c (fo h))
 ·have Z:i<vs.length:=by
   unfold start at l
   by_cases Z:i<vs.length
   ·exact Z
   ·rw [aA (by simpa using Z)] at l;rw [ie] at l
    split at l<;>cases l
  have ha:vs[i]?=some v:=by
   unfold start at l;rw [aG (by simpa using Z),ar] at l;cases e:vs[i]? with
   |none=>rw [e] at l;cases l
   |some a=>rw [e] at l;cases l;rfl
  obtain ⟨u,hu,rv⟩:=r.get ha;have I:ps[i]?=some y:=by
   rw [<- S.pre,List.getElem?_take_of_lt (by lia)];exact O
  have J:ps.Nodup:=by rw [<- S.pre];exact S.nd.sublist (List.take_sublist _ _)
  refine ⟨u,rv,?_⟩
  rcases S.par y (az I) with k|k
  ·exact .inl ⟨k,CZ J I hu k⟩
  ·obtain ⟨c,e⟩:=DZ (n:=s.heap.objs.size+1) k;refine .inr ⟨.inl k,c,e,?_⟩;have q:=x.cell y c e;rw [C3 J I hu (by show scope.names.lookup y≠_;rw [k];decide)] at q;exact q
 ·exact D.hok.fresh (il (x.above y c (fo h)))
 ·unfold start;show _=N.length;rw [ag,ac,cq]
  lia
theorem m6 {name Y:Str} {h:Arguments} {ku:List Stmt} {scope:Scope} {dV kV ah pm G ct oc:Value} {an od:Option Addr}
  {aU:Array (Option Value)} {N:List Str} {sp:Sp} (lk:K.lookup f=some ⟨oc,od,.func (PySem.W.fnOf name Y h ku scope dV kV ah pm an G ct),aU⟩) (a4:PySem.W.codeIn K G Y=true) (S:FnScope N ps scope)
  (am:∀vs H Q E,sp vs H Q E->vs.length=ps.length)
  (F:∀(A:Around) (outer:List Env) (s:Shared) (H:Hp) (vs:List V) (Q:VK) (E:XK),Room k (A.deeper (envOfC Y scope s.heap.objs.size f G))->sp vs H Q E->
   ∃t,PSs (qF CX P w K mg base N Y scope f G A outer s H E) ku t/\t {nx:=fun _ D=>Q .non D,rt:=Q} (start N vs) H) :
  FnOk P w K mg base CX (k+1) f (PySem.W.fnOf name Y h ku scope dV kV ah pm an G ct) ps sp:=by
 refine ⟨am,fun A outer s H a5 us vs Q E hr e0 hb r ap=>?_⟩;have hl:=am _ _ _ _ ap;have KX:K.In s.heap:=e0.mod.kin.keeps fun b o e=>(e0.bs b o e).1
 have a3:s.heap.NoLimit:=e0.mod.nolimit.keeps fun b o e=>(e0.bs b o e).1
 have O:∀y∈ps.zip us,scope.names.lookup y.1=some .local\/(scope.names.lookup y.1=some .cell/\((cellsFrom (s.heap.objs.size+1) scope.names []).lookup y.1).isSome=true):=fun ⟨n,v⟩ hy=>by
  rcases S.par n (List.of_mem_zip hy).1 with q|q
  ·exact .inl q
  ·exact .inr ⟨q,PySem.W.cellsFrom_some _ _ _ (.inl q)⟩
 refine codeAny_call_function hr.depth (KX _ _ lk) rfl S.co S.gen rfl (PySem.W.codeRec_of KX a4) (hb _ _ _ _ ?_);refine wpAny_newFunctionEnv_cells S.kind O fun a6 he s1 x=>?_
 subst he;refine ⟨a3.keeps x.toInCall.keep,codeAny_func ?_⟩;obtain ⟨t,ht,hq⟩:=F A outer s H vs Q E (hr.deeper _) ap;have I:Inv (qF CX P w K mg base N Y scope f G A outer s H E) [] (start N vs) H s1:=R9 S hr.hd e0 hl r x;refine bn (ht [] s1 (start N vs) H _ I hq) (fun fl s' Z=>?_) fun e s' Z=>Z
 have aD:∀{l:St} {D:Hp} {v:V} {u:Value},Inv (qF CX P w K mg base N Y scope f G A outer s H E) [] l D s'->RelV v u->Q v D->CE outer P w H s Q u s' :=
  fun {l D v u} J rv q=>⟨v,D,J.os,J.bare,J.base,J.hok,rv,q⟩
 cases fl with
 |ret u =>
  obtain ⟨v,l,D,J,rv,q⟩:=Z;exact aD J rv q
 |next =>
  obtain ⟨l,D,J,q⟩:=Z;exact aD (v:=V.non) (u:=Value.none) J rfl q
 |brk =>
  obtain ⟨_,_,_,q⟩:=Z;exact False.elim q
 |cont =>
  obtain ⟨_,_,_,q⟩:=Z;exact False.elim q
end L2
namespace L2
open PySem PySem.Spec PyProof.Rows
section
variable {X:Cx} {x:Str} {p ko:Pos} {e:Expr} {es:List Expr} {t:TA} {id T:String} {r:List V->Hp->VK->Prop}
def xT (r:List V->Hp->VK->Prop) (t:TA):TE:=fun D H Q=>t D H fun l h=>r l h Q
theorem vK (hc:yK X (.builtin id) r) (hg:Gl X x) (V:X.mg x=none) (hv:bootBuiltins x=some (.builtin id)) (ha:PA X (e::es) t) (hn:x≠"__name__":=by decide) (l:(x == ("__debug__":Str))=false:=by decide)
  (he:starEach (e::es) X.env=(false,eval e X.env)::starEach es X.env:=by rfl) (hpl:(backTo ko (starEach es X.env)).any (·.1)=false:=by rfl):PE X (.Call (.Name x p) (e::es) [] ko) (xT r t):=by
 intro E s D H Q I h;refine em (cJ I hg V hv ?_ hn l);exact PyProof.Rows.callWith_builtin1 (jZ (ha ko E s D H _ I h) fun S O ⟨Y,J,Z,G,F⟩=>hc E O D J Y S Q Z G F) he hpl
theorem vP (hc:yK X (.type T) r) (hg:Gl X x) (V:X.mg x=none) (hv:bootBuiltins x=some (.type T)) (ha:PA X (e::es) t) (hn:x≠"__name__":=by decide) (l:(x == ("__debug__":Str))=false:=by decide)
  (he:starEach (e::es) X.env=(false,eval e X.env)::starEach es X.env:=by rfl) (hpl:(backTo ko (starEach es X.env)).any (·.1)=false:=by rfl):PE X (.Call (.Name x p) (e::es) [] ko) (xT r t):=by
 intro E s D H Q I h;refine em (cJ I hg V hv ?_ hn l);exact cu (jZ (ha ko E s D H _ I h) fun S O ⟨Y,J,Z,G,F⟩=>hc E O D J Y S Q Z G F) he hpl
end
end L2
namespace HT
open PySem PyProof.Rows
section
open PySem.SeqAt
open PySem.AutoSeq1 (wpAny_loadPart')
open PySem.MeetsSeq PySem.MeetsSeq2 PySem.MeetsSeq3
end
section
variable {prog:Program} {w:World} {A:Around} {E:Value->Shared->Prop} {s:Shared}
theorem cat_tup {t b:Addr} {vs h:List Value} {Q:Value->Shared->Prop} (ht:IsTup s.heap t vs.toArray) (hb:IsTup s.heap b h.toArray) (hv:vs≠[])
  (h1:h=[]->Q (.ref t) s) (h2:h≠[]->Q (.ref s.heap.objs.size) {s with heap:=s.heap.push {cls:=.type "tuple",data:=.seq (vs++h).toArray}})
  (V:vs.length+h.length<=sizeLine):wpAny (model prog w) A (binaryOp .Add (.ref t) (.ref b)) Q E s:=by
 obtain ⟨⟨cls,Z,data,sl⟩,O,hc,n,hd⟩:=id ht;obtain ⟨⟨ah,D,Y,J⟩,l,I,n2,G⟩:=id hb;simp only at hc hd I G;subst hc hd I G;have e:vs.toArray++h.toArray=(vs++h).toArray:=by simp
 by_cases S:h=[]
 ·exact concat_meets ⟨_,O,rfl⟩ ⟨_,l,rfl⟩ noFill_tuple_add seq_tuple_add PySem.F.slot_tuple_add PySem.F.entry_tuple_add (PySem.F.args_tuple_add_2 _ _)
   (tuple_addW1 t b vs.toArray h.toArray n n2 Z D sl J (by simpa using hv) (by simp [S])) ⟨O,l,h1 S⟩
 ·refine concat_meets ⟨_,O,rfl⟩ ⟨_,l,rfl⟩ noFill_tuple_add seq_tuple_add PySem.F.slot_tuple_add PySem.F.entry_tuple_add (PySem.F.args_tuple_add_2 _ _)
   (tuple_addW2 t b vs.toArray h.toArray n n2 Z D sl J (by simpa using hv) (by simpa using S) (by rw [List.size_toArray,List.size_toArray];exact V)) ⟨O,l,?_⟩
  rw [e];exact h2 S
def sIx (n d:Nat):Option Int->Nat
 |none=>d
 |some v=>if v<0 then (v+(n:Int)).toNat else min v.toNat n
theorem sIx_none (n d:Nat):sIx n d none=d:=rfl
theorem sIx_nat (n d k:Nat):sIx n d (some (k:Int))=min k n:=by
 show (if (k:Int)<0 then ((k:Int)+(n:Int)).toNat else min (k:Int).toNat n)=min k n;rw [if_neg (by lia),Int.toNat_natCast]
end
end HT
namespace L2
open PySem PySem.Spec PyProof.Rows
abbrev TO:=St->Hp->(Option Int->Hp->Prop)->Prop
def PO (X:Cx) (e:Option Expr) (t:TO):Prop :=
 ∀(l:List (Addr×Obj)) (s:Shared) (h:St) (H:Hp) (Q:Option Int->Hp->Prop),Inv X l h H s->t h H Q->
  wpAny (model X.prog X.w) X.A (evalPart e X.env) (fun u E=>∃o D,Inv X l h D E/\IsPart u o/\Q o D) X.xe s
def UG:TO:=fun _ H Q=>Q none H
def WR (t:TE):TO:=fun l H Q=>t l H fun x h=>∃i,x=.int i/\Q (some i) h
section
variable {X:Cx} {e:Expr} {te:TE} {lo hi:Option Expr} {tl th:TO} {ko p2:Pos}
theorem fY:PO X none UG:=by
 intro l s D H Q I h;rw [evalPart_none];exact aJ ⟨none,H,I,.none,h⟩
theorem fF (h:PE X e te):PO X (some e) (WR te):=by
 intro E s J H Q I O;rw [evalPart_some];refine jZ (h E s J H _ I O) fun u S ⟨x,l,G,F,D⟩=>?_
 obtain ⟨i,rfl,q⟩:=D;obtain ⟨t,rfl⟩:=F;exact ⟨some i,l,G,.int i t,q⟩
def nX (X:Cx) (r:V->Option Int->Option Int->Hp->VK->Prop):Prop :=
 ∀(h:List (Addr×Obj)) (s:Shared) (D:St) (H:Hp) (x:V) (v l E:Value) (lo hi:Option Int) (F:Addr) (Q:VK),Inv X h D H s->RelV x v->s.heap.IsSliceOf F l E .none->IsPart l lo->IsPart E hi->r x lo hi H Q->
  ∃T id,typeLookup (.type T) "__getitem__"=pure (some (.builtin id))/\s.TypeIs v T/\wpAny (model X.prog X.w) X.A (getItem v (.ref F)) (EP X h D Q) X.xe s
def YJ (r:V->Option Int->Option Int->Hp->VK->Prop) (te:TE) (tl th:TO):TE:=fun h H Q=>te h H fun x D=>tl h D fun l E=>th h E fun u F=>r x l u F Q
theorem fU {r:V->Option Int->Option Int->Hp->VK->Prop} (hr:nX X r) (he:PE X e te) (hl:PO X lo tl) (hu:PO X hi th):PE X (.Subscript e (.Slice lo hi none p2) ko) (YJ r te tl th):=by
 intro F s E H Q I h;refine Subscript_ (jZ (he F s E H _ I h) fun v s1 ⟨x,H1,I1,r1,Y⟩=>?_);refine wpAny_Slice (jZ (hl F s1 E H1 _ I1 Y) fun G s2 ⟨l,H2,I2,pl,Z⟩=>jZ (hu F s2 E H2 _ I2 Z) fun J D ⟨u,O,I3,S,q3⟩=>?_);rw [evalPart_none];refine aJ ?_;have I4:Inv X F E O {D with heap:=D.heap.push {cls:=.type "slice",data:=.fields #[G,J,.none]}}:=I3.kept (t':=D.toks) fun b ob q=>ai _ q
 obtain ⟨T,id,hT,ht,hg⟩:=hr F {D with heap:=D.heap.push {cls:=.type "slice",data:=.fields #[G,J,.none]}} E O x v G J l u D.heap.objs.size Q I4 r1 (Heap.IsSliceOf.new ..) pl S q3;show wpAny (model X.prog X.w) X.A (subscriptTail e (.Slice lo hi none p2) v (.ref D.heap.objs.size)) (EP X F E Q) X.xe {D with heap:=D.heap.push {cls:=.type "slice",data:=.fields #[G,J,.none]}};exact tail_any (ops:=[.ref D.heap.objs.size,v]) ht hT hg (by with_unfolding_all rfl)
def JJ (xs:List V) (lo hi:Option Int):List V:=(xs.drop (HT.sIx xs.length 0 lo)).take (HT.sIx xs.length xs.length hi - HT.sIx xs.length 0 lo)
theorem OX (xs:List V) (lo hi:Option Int):(JJ xs lo hi).length<=xs.length:=by
 unfold JJ;rw [aW,dk]
 lia
def W3 (K:PySem.W.Frag):R2:=fun x y H Q=>∃a b l h,x=.ref a/\y=.ref b/\SqT K H a l/\SqT K H b h/\l≠[]/\l.length+h.length<=sizeLine/\
 (h=[]->Q (.ref a) H)/\(h≠[]->∀p,H p=none->Q (.ref p) (upd H p (.tup (l++h))))
theorem Vals.nil_iff {xs:List V} {us:List Value} (r:Vals xs us):us=[]↔xs=[]:=by
 cases r with
 |nil=>simp
 |cons _ _=>simp
theorem U1:qN X (binaryOp .Add) (W3 X.K):=by
 intro ke s σ H x y v u Q I rx Y h;obtain ⟨a,b,V,ys,rfl,rfl,ha,Z,S,F,G,J⟩:=h;cases rx;cases Y;obtain ⟨ah,D,O,_⟩:=I.tuple ha;obtain ⟨E,l,p2,_⟩:=I.tuple Z;refine HT.cat_tup O p2 (fun z=>S (D.nil_iff.mp z)) (fun z=>⟨.ref a,H,I,rfl,G (l.nil_iff.mp z)⟩) (fun z=>?_) (by rw [<- D.length,<- l.length];exact F);refine ⟨.ref s.heap.objs.size,_,I.laid (t':=s.toks) (o:=.tup (V++ys)) (fun b ob q=>ai _ q) (ak _) ?_,rfl,J (fun w=>z (l.nil_iff.mpr w)) _ (I.hok.fresh (ak _))⟩;exact ⟨by rw [ag];exact F,_,D.append l,IsTup.new _ _⟩
end
def JM (n:Nat) (i:Int):Option Nat:=if 0<=i then (if i<n then some i.toNat else none) else if -(n:Int)<=i then some (i+n).toNat else none
def vO {h:Type} (xs:List h) (i:Int):Option h:=(JM xs.length i).bind fun j=>xs[j]?
theorem EQ {n:Nat} {i:Int} {j:Nat} (h:JM n i=some j):seqIndex? i n=some j/\j<n/\-(n:Int)<=i/\i<n:=by
 unfold JM at h
 by_cases D:0<=i
 ·rw [if_pos D] at h
  by_cases l:i<n
  ·rw [if_pos l] at h;have e:i.toNat=j:=ay h;exact ⟨by rw [seqIndex_of D l,e],by lia,by lia,l⟩
  ·rw [if_neg l] at h;cases h
 ·rw [if_neg D] at h
  by_cases l : -(n:Int)<=i
  ·rw [if_pos l] at h;have e:(i+n).toNat=j:=ay h;exact ⟨by rw [seqIndex_neg (by lia) l,e],by lia,l,by lia⟩
  ·rw [if_neg l] at h;cases h
variable {α:Type}
theorem mE {xs:List α} {i:Int} {v:α} (h:vO xs i=some v):∃j,seqIndex? i xs.length=some j/\xs[j]?=some v/\j<xs.length/\-(xs.length:Int)<=i/\i<xs.length:=by
 unfold vO at h;cases e:JM xs.length i with
 |none=>rw [e] at h;cases h
 |some j =>
  rw [e] at h;obtain ⟨D,l,F,E⟩:=EQ e;exact ⟨j,D,h,l,F,E⟩
theorem qH {xs:List α} {j:Nat} {v:α} (h:xs[j]?=some v):vO xs (j:Int)=some v:=by
 have l:j<xs.length:=(ae.mp h).1;have e:JM xs.length (j:Int)=some j:=by
  unfold JM;rw [if_pos (by lia),if_pos (by lia)];simp
 unfold vO;rw [e];exact h
theorem atI_last (xs:List α) (v:α):vO (xs++[v]) (-1)=some v:=by
 have h:(xs++[v]).length=xs.length+1:=by simp
 have e:JM (xs++[v]).length (-1)=some xs.length:=by
  unfold JM;rw [h,if_neg (by decide),if_pos (by lia)]
  congr 1
  lia
 unfold vO;rw [e];show (xs++[v])[xs.length]?=some v;simp
def E4 (b:Expr):Prop:=∀o i,subscripted b false o i=operate [o,i] (getItem o i)
def IxR (X:Cx) (r:R2):Prop :=
 ∀(E D:Expr) (h:List (Addr×Obj)) (s:Shared) (l:St) (H:Hp) (x y:V) (v u:Value) (Q:VK),Inv X h l H s->RelV x v->RelV y u->r x y H Q->
  subscripted D false v u=operate [v,u] (getItem v u)->wpAny (model X.prog X.w) X.A (subscriptTail E D v u) (EP X h l Q) X.xe s
def HB (X:Cx) (id:String) (r:V->List V->Hp->VK->Prop):Prop :=
 ∀(h:List (Addr×Obj)) (s:Shared) (l:St) (H:Hp) (x:V) (D:List V) (v:Value) (E:List Value) (Q:VK),Inv X h l H s->RelV x v->Vals D E->r x D H Q->
  wpAny (model X.prog X.w) X.A (call (.builtin id) (v::E)) (EP X h l Q) X.xe s
section
variable {X:Cx} {a b:Expr} {ta tb:TE} {ko:Pos}
theorem IxR.or {r l:R2} (h:IxR X r) (h':IxR X l):IxR X (fun x y H Q=>r x y H Q\/l x y H Q):=by
 intro J O D s G H x y v u Q I E F q S
 rcases q with q|q
 ·exact h J O D s G H x y v u Q I E F q S
 ·exact h' J O D s G H x y v u Q I E F q S
theorem HF {r:R2} (G:IxR X r) (Z:PE X a ta) (V:PE X b tb) (J:E4 b):PE X (.Subscript a b ko) (dF r ta tb):=by
 intro O s l H Q I h;exact Subscript_ (xM Z V I h fun v u E x y F D Y S q=>G a b O E l F x y v u Q D Y S q (J _ _))
def nH (K:PySem.W.Frag):R2:=fun x y H Q=>∃p h i v,x=.ref p/\y=.int i/\SqL K H p h/\vO h i=some v/\Q v H
def xI (K:PySem.W.Frag):R2:=fun x y H Q=>∃p h i v,x=.ref p/\y=.int i/\SqT K H p h/\vO h i=some v/\Q v H
def GL:R2:=fun x y H Q=>∃z i c,x=.str z/\y=.int i/\z.length<=sizeLine/\vO z.cps.toList i=some c/\Q (.str ⟨#[c]⟩) H
theorem x9:IxR X (nH X.K):=by
 intro kx kr Y s O H x y v u Q I rx ry h V;obtain ⟨p,xs,i,z,rfl,rfl,hq,he,q⟩:=h;cases rx;obtain ⟨t,rfl⟩:=ry;obtain ⟨J,r,F,hz⟩:=I.list hq;obtain ⟨j,D,h2,h3,h4,h5⟩:=mE he;obtain ⟨w,Z,E⟩:=r.get h2;have hl:=r.length;have hn:=cI;have l:EP X Y O Q w s:=⟨z,H,I,E,q⟩
 by_cases S:0<=i
 ·have G:i.toNat=j:=by
   rw [seqIndex_of S h5] at D;exact ay D
  exact item_listR F.isList S (by lia) (by rw [G];simpa using Z) l V
 ·have G:(i+(J.toArray.size:Int)).toNat=j:=by
   rw [seqIndex_neg (by lia) h4] at D;rw [ao,<- hl];exact ay D
  exact subscriptTail_builtinR (x:=w) F.isList.typeIs slot_list_getitem.lookup
   (wpAny_getItem_list_neg (Q:=fun r s'=>r=w/\EP X Y O Q r s') F.isList (by lia) (by rw [ao]<;>lia) (by lia) (by rw [G];simpa using Z) ⟨rfl,l⟩) V
theorem ix_tup:IxR X (xI X.K):=by
 intro kx kr F s E H x y v u Q I rx ry h Y;obtain ⟨p,xs,i,z,rfl,rfl,V,J,q⟩:=h;cases rx;obtain ⟨t,rfl⟩:=ry;obtain ⟨ah,r,G,hz⟩:=I.tuple V;obtain ⟨j,Z,S,h3,h4,h5⟩:=mE J;obtain ⟨w,ew,l⟩:=r.get S;have hl:=r.length;have hn:=cI;have D:EP X F E Q w s:=⟨z,H,I,l,q⟩;exact subscriptTail_builtinR (x:=w) G.typeIs slot_tuple_getitem.lookup
  (getItem_tuple (j:=j) (Q:=fun r O=>r=w/\EP X F E Q r O) G (by lia) (by lia) (by rw [ao,<- hl];exact Z) (by simpa using ew) ⟨rfl,D⟩) Y
theorem wS:IxR X GL:=by
 intro kx kr ke s σ H x y v u Q I Y S h O;obtain ⟨z,i,c,rfl,rfl,hz,D,q⟩:=h;obtain ⟨t,rfl⟩:=Y;obtain ⟨t',rfl⟩:=S;obtain ⟨j,l,G,h3,E,F⟩:=mE D;have Z:z.cps.toList.length=z.length:=by simp [Str.length]
 rw [Z] at l E F;have hn:=cI;exact tail_any (typeIs_str s z t) slot_str_getitem.lookup (getItem_str (c:=c) (by
  have V:decide (i < -(2 ^ 63:Int))=false:=aN (by lia);have J:decide (i>=2 ^ 63)=false:=aN (by lia);rw [V,J,Bool.or_false]) (by rw [l];simpa using G) ⟨.str ⟨#[c]⟩,H,I.tok _,⟨_,rfl⟩,q⟩) O
def nQ (K:PySem.W.Frag):R2:=fun x y H Q=>nH K x y H Q\/xI K x y H Q\/GL x y H Q
theorem WG:IxR X (nQ X.K):=x9.or (ix_tup.or wS)
theorem PU (its:List Value) (n j:Nat) (u:Value):Obj.mapSeq (·.setIfInBounds j u) {cls:=.type "list",data:=.seq its.toArray n}={cls:=.type "list",data:=.seq (its.set j u).toArray n}:=by
 simp [Obj.mapSeq]
theorem Inv.lst {l:List (Addr×Obj)} {D:St} {H:Hp} {s:Shared} {p:Addr} {xs:List V} (I:Inv X l D H s) (h:H p=some (.lst xs)) :
  ∃(its:List Value) (n:Nat),Vals xs its/\s.heap.get? p=some {cls:=.type "list",data:=.seq its.toArray n}/\xs.length<=sizeLine:=by
 obtain ⟨z,its,n,r,e⟩:=I.hok p _ h;exact ⟨its,n,r,e,z⟩
theorem Inv.lstUpd {D:List (Addr×Obj)} {E:St} {H:Hp} {s:Shared} {p:Addr} {xs ys:List V} {its its':List Value} {n l:Nat} {f:Obj->Obj} (I:Inv X D E H s) (h:H p=some (.lst xs))
  (G:s.heap.get? p=some {cls:=.type "list",data:=.seq its.toArray n}) (F:f {cls:=.type "list",data:=.seq its.toArray n}={cls:=.type "list",data:=.seq its'.toArray l}) (r:Vals ys its') (O:ys.length<=sizeLine) (t:Nat) :
  Inv X D E (upd H p (.lst ys)) {s with heap:=s.heap.update p f,toks:=t}:=by
 have e:(s.heap.update p f).get? p=some {cls:=.type "list",data:=.seq its'.toArray l}:=by
  rw [bx f G (by rw [F]<;>rfl),F]
 refine I.write (x:=p) (e:=p) (by rw [h];trivial) (.inl rfl) (fun b u J q=>(aY _ _ (Ne.symm J)).trans q) ⟨_,e⟩ ?_;exact ⟨O,its',l,r,e⟩
def W0:V->V->V->Hp->(Hp->Prop)->Prop:=fun o i v H Q=>∃p h k j,o=.ref p/\i=.int k/\H p=some (.lst h)/\JM h.length k=some j/\Q (upd H p (.lst (h.set j v)))
theorem bB:xO X W0:=by
 intro ke s Z H o i v ov iv u Q I ro ri rv h;obtain ⟨p,xs,k,j,rfl,rfl,V,hj,q⟩:=h;cases ro;obtain ⟨t,rfl⟩:=ri;obtain ⟨l,n,r,F,hz⟩:=I.lst V;obtain ⟨D,h2,S,J⟩:=EQ hj;have G:=r.length;have hn:=cI;have Y:Inv X ke Z (upd H p (.lst (xs.set j v))) {s with heap:=s.heap.update p (Obj.mapSeq (·.setIfInBounds j u))} :=
  I.lstUpd V F (PU l n j u) (r.set rv j) (by rw [bf];exact hz) s.toks
 by_cases O:0<=k
 ·have E:k.toNat=j:=by
   rw [seqIndex_of O J] at D;exact ay D
  exact PySem.W.ki_setAt F O (by lia) (by rw [ao,<- G];exact J) (by rw [E];exact ⟨_,Y,q⟩)
 ·have E:(k+(l.toArray.size:Int)).toNat=j:=by
   rw [seqIndex_neg (by lia) S] at D;rw [ao,<- G];exact ay D
  exact PySem.W.ki_setBack F (by lia) (by rw [ao,<- G];exact S) (by lia) (by rw [E];exact ⟨_,Y,q⟩)
theorem N8 (l D:Option Int) (n:Nat):(sliceBounds l D none n).1=((HT.sIx n 0 l:Nat):Int)/\(sliceBounds l D none n).2.1=((HT.sIx n n D:Nat):Int)/\(sliceBounds l D none n).2.2=1:=by
 refine ⟨?_,?_,rfl⟩
 ·cases l with
  |none=>simp [sliceBounds,HT.sIx]
  |some i =>
   simp only [sliceBounds,HT.sIx,Option.getD_none,show (1:Int)>0 by decide,if_true]
   by_cases h:i<0
   ·simp only [h,if_true]<;>lia
   ·simp only [h,if_false]<;>lia
 ·cases D with
  |none=>simp [sliceBounds,HT.sIx]
  |some i =>
   simp only [sliceBounds,HT.sIx,Option.getD_none,show (1:Int)>0 by decide,if_true]
   by_cases h:i<0
   ·simp only [h,if_true]<;>lia
   ·simp only [h,if_false]<;>lia
theorem N0 (its:List Value) (h l:Option Int):slicePick its.toArray h l none=((its.drop (HT.sIx its.length 0 h)).take (HT.sIx its.length its.length l - HT.sIx its.length 0 h)).toArray:=by
 obtain ⟨E,D,F⟩:=N8 h l its.toArray.size;unfold slicePick;rw [E,D,F];simp only [sliceRange_one,pick_run,ao]<;>rfl
def GJ (K:PySem.W.Frag):V->Option Int->Option Int->Hp->VK->Prop:=fun x D l H Q=>∃a h,x=.ref a/\SqL K H a h/\∀p,H p=none->Q (.ref p) (upd H p (.lst (JJ h D l)))
theorem UJ:nX X (GJ X.K):=by
 intro ke s σ H x v vl vu E F sl Q I Z S V J h;obtain ⟨a,l,rfl,O,q⟩:=h;cases Z;obtain ⟨Y,r,G,hz⟩:=I.list O;have D:=r.length;refine ⟨"list",_,slot_list_getitem.lookup,G.isList.typeIs,?_⟩;refine wpAny_getItem_list_slice G.isList S V J .none (by simp) ?_ (by rw [ao]<;>lia);rw [N0,<- D];refine ⟨.ref s.heap.objs.size,_,I.laid (t':=s.toks) (o:=.lst (JJ l E F)) (fun b ob q=>ai _ q) (ak _) ?_,rfl,q _ (I.hok.fresh (ak _))⟩;exact ⟨aI (OX l E F) hz,_,0,(r.drop (HT.sIx l.length 0 E)).take (HT.sIx l.length l.length F - HT.sIx l.length 0 E),aw _ rfl⟩
def vZ:V->Bool
 |.non=>true
 |.bl _=>true
 |.int _=>true
 |.str _=>true
 |_=>false
def vX:V->V->Bool
 |.non,.non=>true
 |.bl a,.bl b=>a == b
 |.bl a,.int b=>(if a then 1 else 0) == b
 |.int a,.bl b=>a == (if b then 1 else 0)
 |.int a,.int b=>a == b
 |.str a,.str b=>a == b
 |_,_=>false
theorem FR {A:Around} {s:Shared} {y x:V} {u v:Value} (D:RelV y u) (h:RelV x v) (F:vZ y=true) (E:vZ x=true):SeqAt.EqAt A s u v (vX y x):=by
 cases y with
 |non =>
  cases D;cases x with
  |non=>cases h;exact SeqAt.EqAt.same _
  |bl b=>cases h;exact SeqAt.EqAt.none_bool b
  |int b=>obtain ⟨t,rfl⟩:=h;exact SeqAt.EqAt.none_int b t
  |str b=>obtain ⟨t,rfl⟩:=h;exact SeqAt.EqAt.none_str b t
  |_=>exact absurd (show false=true from E) aB
 |bl a =>
  cases D;cases x with
  |non=>cases h;exact SeqAt.EqAt.bool_none a
  |bl b=>cases h;exact SeqAt.EqAt.bool_bool a b
  |int b=>obtain ⟨t,rfl⟩:=h;exact SeqAt.EqAt.bool_int a b t
  |str b=>obtain ⟨t,rfl⟩:=h;exact SeqAt.EqAt.bool_str a b t
  |_=>exact absurd (show false=true from E) aB
 |int a =>
  obtain ⟨l,rfl⟩:=D;cases x with
  |non=>cases h;exact SeqAt.EqAt.int_none a l
  |bl b=>cases h;exact SeqAt.EqAt.int_bool a l b
  |int b=>obtain ⟨t,rfl⟩:=h;exact SeqAt.EqAt.int_int a l b t
  |str b=>obtain ⟨t,rfl⟩:=h;exact SeqAt.EqAt.int_str a l b t
  |_=>exact absurd (show false=true from E) aB
 |str a =>
  obtain ⟨l,rfl⟩:=D;cases x with
  |non=>cases h;exact SeqAt.EqAt.str_none a l
  |bl b=>cases h;exact SeqAt.EqAt.str_bool a l b
  |int b=>obtain ⟨t,rfl⟩:=h;exact SeqAt.EqAt.str_int a l b t
  |str b=>obtain ⟨t,rfl⟩:=h;exact SeqAt.EqAt.str_str a l b t
  |_=>exact absurd (show false=true from E) aB
 |_=>exact absurd (show false=true from F) aB
def yM (x:V) (u:Value):Bool:=match u with
 |.none=>vX .non x
 |.bool b=>vX (.bl b) x
 |.int i _=>vX (.int i) x
 |.str z _=>vX (.str z) x
 |_=>false
theorem mO {x y:V} {u:Value} (r:RelV y u) (f:vZ y=true):yM x u=vX y x:=by
 cases y with
 |non=>cases r;rfl
 |bl b=>cases r;rfl
 |int i=>obtain ⟨t,rfl⟩:=r;rfl
 |str z=>obtain ⟨t,rfl⟩:=r;rfl
 |_=>exact absurd (show false=true from f) aB
theorem gB {x:V}:∀{xs:List V} {us:List Value},Vals xs us->xs.all vZ=true->us.any (yM x)=xs.any fun y=>vX y x
 |_,_,.nil,_=>rfl
 |y::xs,u::us,.cons r t,f=>by
  rw [List.all_cons,ei] at f;rw [gk,gk,mO r f.1,gB t f.2]
theorem cD {A:Around} {s:Shared} {x:V} {v:Value} (l:RelV x v) (D:vZ x=true):∀{xs:List V} {us:List Value},Vals xs us->xs.all vZ=true->∀u∈us,SeqAt.EqAt A s u v (yM x u)
 |_,_,.nil,_=>fun u h=>by cases h
 |y::xs,u::us,.cons r t,f=>fun E h=>by
  rw [List.all_cons,ei] at f
  rcases aj.mp h with rfl|h
  ·rw [mO r f.1];exact FR r l f.1 D
  ·exact cD l D t f.2 E h
def zE (x:V) (xs:List V):Bool:=xs.any fun y=>vX y x
def nR (K:PySem.W.Frag) (neg:Bool):R2:=fun x y H Q=>∃p h,y=.ref p/\(SqL K H p h\/SqT K H p h)/\vZ x=true/\h.all vZ=true/\Q (.bl (if neg then !zE x h else zE x h)) H
theorem RY:qN X (compareOp .In) (nR X.K false):=by
 intro ke s Y H x y v u Q I J S h;obtain ⟨p,Z,rfl,D,O,E,q⟩:=h;cases S
 rcases D with D|D
 ·obtain ⟨l,r,F,V⟩:=I.list D;refine SeqAt.in_listAt (yM x) F.isList (fun w G=>cD J O r E w (by simpa using G)) ⟨.bl _,H,I,rfl,?_⟩;rw [show l.toArray.any (yM x)=l.any (yM x) by simp,gB r E];exact q
 ·obtain ⟨l,r,F,V⟩:=I.tuple D;refine SeqAt.in_tupleAt (yM x) F (fun w G=>cD J O r E w (by simpa using G)) ⟨.bl _,H,I,rfl,?_⟩;rw [show l.toArray.any (yM x)=l.any (yM x) by simp,gB r E];exact q
theorem OA:qN X (compareOp .NotIn) (nR X.K true):=by
 intro ke s Y H x y v u Q I J S h;obtain ⟨p,Z,rfl,D,O,E,q⟩:=h;cases S
 rcases D with D|D
 ·obtain ⟨l,r,F,V⟩:=I.list D;refine SeqAt.notIn_listAt (yM x) F.isList (fun w G=>cD J O r E w (by simpa using G)) ⟨.bl _,H,I,rfl,?_⟩;rw [show l.toArray.any (yM x)=l.any (yM x) by simp,gB r E];exact q
 ·obtain ⟨l,r,F,V⟩:=I.tuple D;refine SeqAt.notIn_tupleAt (yM x) F (fun w G=>cD J O r E w (by simpa using G)) ⟨.bl _,H,I,rfl,?_⟩;rw [show l.toArray.any (yM x)=l.any (yM x) by simp,gB r E];exact q
theorem HK:yK X (.builtin "len") (fun xs H Q=>∃p ys,xs=[.ref p]/\(SqL X.K H p ys\/SqT X.K H p ys)/\Q (.int ys.length) H):=by
 intro S s V H xs Y Q I r h;obtain ⟨p,ys,rfl,D,q⟩:=h;obtain ⟨u,rfl,J⟩:=ZK r;cases J;have Z:=cI
 rcases D with D|D
 ·obtain ⟨F,E,G,O⟩:=I.list D;have l:=E.length;exact Calls.call_len_list G.isList (by simp only [ao]<;>lia) ⟨.int ys.length,H,I.tok _,⟨s.toks+1,by rw [ao,l]⟩,q⟩
 ·obtain ⟨F,E,G,O⟩:=I.tuple D;have l:=E.length;exact len_tuple G (by simp only [ao]<;>lia) ⟨.int ys.length,H,I.tok _,⟨s.toks+1,by rw [ao,l]⟩,q⟩
theorem AT:yK X (.builtin "len") (fun xs H Q=>∃z,xs=[.str z]/\z.length<=sizeLine/\Q (.int z.length) H):=by
 intro l s D H xs F Q I r h;obtain ⟨z,rfl,E,q⟩:=h;obtain ⟨u,rfl,t,rfl⟩:=ZK r;have G:=cI;exact len_str (by lia) ⟨.int z.length,H,I.tok _,⟨_,rfl⟩,q⟩
theorem OC:yK X (.type "list") (fun xs H Q=>∃p ys,xs=[.ref p]/\(SqL X.K H p ys\/SqT X.K H p ys)/\∀l,H l=none->Q (.ref l) (upd H l (.lst ys))):=by
 intro ke s σ H xs us Q I r h;obtain ⟨p,ys,rfl,J,q⟩:=h;obtain ⟨u,rfl,rx⟩:=ZK r;cases rx;have S:∀(D:List Value),Vals ys D->ys.length<=sizeLine->∀(E:Heap) (G:Nat),(∀b o',s.heap.get? b=some o'->E.get? b=some o')->
   E.get? s.heap.objs.size=some {cls:=.type "list",dict:=none,data:=.seq D.toArray G,slots := #[]}->EP X ke σ Q (.ref s.heap.objs.size) {s with heap:=E}:=fun D F Y E G V e =>
  ⟨.ref s.heap.objs.size,_,I.laid (t':=s.toks) V (ak _) (show ObjOk X.prog X.w _ E _ (.lst ys) from ⟨Y,D,G,F,e⟩),rfl,q _ (I.hok.fresh (ak _))⟩
 rcases J with J|J
 ·obtain ⟨D,F,pl,Y⟩:=I.list J;have O:=F.length;obtain ⟨o,Z,hc,n,hd⟩:=pl.isList;exact call_list_seq p (.inl rfl) Z hc hd (fun E G V e=>S D F Y E G V e) (by simp only [ao]<;>lia)
 ·obtain ⟨D,F,pl,Y⟩:=I.tuple J;have O:=F.length;obtain ⟨o,Z,hc,n,hd⟩:=pl;exact call_list_seq p (.inr rfl) Z hc hd (fun E G V e=>S D F Y E G V e) (by simp only [ao]<;>lia)
theorem N4:yK X (.type "tuple") (fun xs H Q=>∃p ys,xs=[.ref p]/\((SqL X.K H p ys/\∀l,H l=none->Q (.ref l) (upd H l (.tup ys)))\/(SqT X.K H p ys/\Q (.ref p) H))):=by
 intro S s O H xs us Q I r h;obtain ⟨p,ys,rfl,h⟩:=h;obtain ⟨u,rfl,rx⟩:=ZK r;cases rx
 rcases h with ⟨G,q⟩|⟨G,q⟩
 ·obtain ⟨D,F,J,Z⟩:=I.list G;have Y:=F.length;refine call_tuple_list J.isList (fun E kp=>?_) (by simp only [ao]<;>lia);have V:Inv X S O H {s with heap:=E}:=I.kept (t':=s.toks) kp;have I2:Inv X S O (upd H E.objs.size (.tup ys)) {s with heap:=E.push {cls:=.type "tuple",data:=.seq D.toArray}} :=
   V.laid (t':=s.toks) (fun b o e=>ai _ e) (ak _) (show ObjOk X.prog X.w _ _ _ (.tup ys) from ⟨Z,D,F,IsTup.new _ _⟩)
  exact ⟨.ref E.objs.size,_,I2,rfl,q _ (V.hok.fresh (ak _))⟩
 ·obtain ⟨D,F,J,Z⟩:=I.tuple G;exact call_tuple_same J ⟨.ref p,H,I,rfl,q⟩
def GY (K:PySem.W.Frag) (T:String) (x:V) (H:Hp):Prop:=match x with
 |.str _=>T="str"
 |.int _=>T="int"
 |.ref p=>(T="list"/\∃l,SqL K H p l)\/(T="tuple"/\∃o,K.lookup p=some o/\o.cls=.type "tuple"/\o.dict=none)\/
   (T="dict"/\((∃h,H p=some (.dK h))\/∃h,H p=some (.dT h)))\/(T="set"/\∃S n,H p=some (.set S n))
 |_=>False
theorem VP {ke:List (Addr×Obj)} {O:St} {H:Hp} {s:Shared} {T:String} {x:V} {v:Value} (I:Inv X ke O H s) (r:RelV x v) (D:GY X.K T x H) :
  s.TypeIs v T/\∀a,v=.ref a->∃G,s.heap.get? a=some G/\G.dict=none:=by
 cases x with
 |str z =>
  obtain ⟨t,rfl⟩:=r;cases (show T="str" from D);exact ⟨typeIs_str s z t,fun _ e=>nomatch e⟩
 |int i =>
  obtain ⟨t,rfl⟩:=r;cases (show T="int" from D);exact ⟨typeIs_int s i t,fun _ e=>nomatch e⟩
 |ref p =>
  cases r
  rcases D with ⟨rfl,xs,Z⟩|⟨rfl,o,h,hc,F⟩|⟨rfl,h⟩|⟨rfl,S,n,h⟩
  ·obtain ⟨ah,_,J,_⟩:=I.list Z;refine ⟨J.isList.typeIs,fun a e=>?_⟩;cases e;obtain ⟨o,n,e,c,F,_⟩:=J;exact ⟨o,e,F⟩
  ·refine ⟨⟨o,I.kIn p o h,hc⟩,fun a e=>?_⟩;cases e;exact ⟨o,I.kIn _ o h,F⟩
  ·have z:∃o,s.heap.get? p=some o/\o.ExactDict:=by
    rcases h with ⟨Y,h⟩|⟨Y,h⟩
    ·obtain ⟨_,_,_,_,o,_,_,e,l,_⟩:=I.hok p _ h;exact ⟨o,e,l⟩
    ·obtain ⟨_,_,_,_,o,_,_,e,l,_⟩:=I.hok p _ h;exact ⟨o,e,l⟩
   obtain ⟨o,e,l⟩:=z;refine ⟨⟨o,e,l.1⟩,fun a E=>?_⟩;cases E;exact ⟨o,e,l.2.1⟩
  ·obtain ⟨o,_,_,_,e,l,_⟩:=I.hok p _ h;refine ⟨⟨o,e,l.1⟩,fun a E=>?_⟩;cases E;exact ⟨o,e,l.2.1⟩
 |_=>exact False.elim D
def YM (K:PySem.W.Frag) (T:String) (r:V->List V->Hp->VK->Prop) (to:TE) (t:TA):TE:=fun l H Q=>to l H fun x h=>GY K T x h/\t l h fun D E=>r x D E Q
variable {o e:Expr} {es:List Expr} {to:TE} {t:TA} {name:Str} {ki cpos:Pos} {T id:String} {r:V->List V->Hp->VK->Prop}
theorem yY (pa:PlainAttrs T) (F:Slot T name id) (O:typeOf (.builtin id)=pure (.type "method_descriptor")) (hm:HB X id r) (ho:PE X o to) (ha:PA X (e::es) t)
  (E:attributeBase o name X.env (eval o X.env)=eval o X.env:=by rfl)
  (G:((backTo cpos (starEach (e::es) X.env)).all (fun x => !x.1)&&(backToKw cpos (keywordEach [] X.env)).all (fun x=>x.1.isSome)
   && decide ((e::es).length+([]:List Keyword).length+(if ([]:List Keyword).isEmpty then 0 else 1)<30))=true:=by rfl)
  (D:(ki.endLine == cpos.line)=true:=by rfl) (hs:starEach (e::es) X.env=(false,eval e X.env)::starEach es X.env:=by rfl) (l:(backTo cpos (starEach es X.env)).any (·.1)=false:=by rfl) :
  PE X (.Call (.Attribute o name ki) (e::es) [] cpos) (YM X.K T r to t):=by
 intro S s J H Q I h;refine wpAny_Call_method_late E G D rfl (jZ (ho S s J H _ I h) fun v s1 ⟨x,H1,Y,V,ty,q1⟩=>?_);obtain ⟨h1,h2⟩:=VP Y V ty;refine ⟨T,id,pa,F,O,h1,h2,?_⟩;have Z:=ha cpos S s1 J H1 _ Y q1;rw [hs] at Z ⊢;refine Calls.callWith_builtin (by show (false||(backTo cpos (starEach es X.env)).any (·.1))=false;rw [l]<;>rfl) (iw ?_);exact jZ Z fun us s2 ⟨vs,H2,I2,r2,q2⟩=>hm S s2 J H2 x vs v us Q I2 V r2 q2
/- xs.append(e),list.index on a module's tuple .. are HB facts of 06m -/
end
end L2
namespace L2
open PySem PySem.Spec PyProof.Rows
def oA (X:Cx) (id:String) (r:V->List V->Hp->VK->Prop):Prop :=
 ∀(h:List (Addr×Obj)) (s:Shared) (l:St) (H:Hp) (x:V) (D:List V) (v:Value) (E:List Value) (Q:VK),Inv X h l H s->RelV x v->Vals D E->r x D H Q->
  wpAny (model X.prog X.w) X.A (call (.builtin id) (v::E)) (EP X h l Q) X.xe s
theorem Vals.one:∀{x:V} {us:List Value},Vals [x] us->∃u,us=[u]/\RelV x u
 |_,_,.cons r .nil=>⟨_,rfl,r⟩
theorem Vals.rep {xs:List V} {us:List Value} (h:Vals xs us):∀k:Nat,Vals (List.replicate k xs).flatten (List.replicate k us).flatten
 |0=>.nil
 |k+1=>by
  rw [bu,bu,fk,fk];exact Vals.append h (Vals.rep h k)
theorem CL (its:List Value):∀(k:Nat) (h:List Value),
  List.foldl (fun E D=>E++D) h.toArray (List.replicate k its.toArray)=(h++(List.replicate k its).flatten).toArray
 |0,h=>by simp
 |k+1,h=>by
  have e:h.toArray++its.toArray=(h++its).toArray:=by simp
  have l:(h++its)++(List.replicate k its).flatten=h++(List.replicate (k+1) its).flatten:=by
   rw [bu,fk,gm]
  rw [<- l,<- CL its k (h++its),<- e,bu,List.foldl_cons]
section
variable {X:Cx} {ke:List (Addr×Obj)} {σ:St} {H:Hp} {s:Shared} {l b:Addr} {xs ys zs:List V}
theorem Inv.lset {its its':List Value} {n:Nat} {f:Array Value->Array Value} {t':Nat} (I:Inv X ke σ H s) (h:H l=some (.lst xs))
  (e:s.heap.get? l=some {cls:=.type "list",data:=.seq its.toArray n}) (F:f its.toArray=its'.toArray) (J:Vals ys its') (G:ys.length<=sizeLine) :
  Inv X ke σ (upd H l (.lst ys)) {s with heap:=s.heap.update l (Obj.mapSeq f),toks:=t'}:=by
 have q:=PySem.IsL.update e f;rw [F] at q;refine I.write (x:=l) (e:=l) (by rw [h];exact trivial) (.inl rfl) (fun O u D E=>(aY s.heap (Obj.mapSeq f) (Ne.symm D)).trans E) ⟨_,q⟩ ?_;exact ⟨G,its',_,J,q⟩
theorem Inv.lnew {its:List Value} {t':Nat} (I:Inv X ke σ H s) (D:Vals ys its) (h:ys.length<=sizeLine) :
  Inv X ke σ (upd H s.heap.objs.size (.lst ys)) {s with heap:=s.heap.push {cls:=.type "list",data:=.seq its.toArray},toks:=t'} :=
 I.laid (fun _ _ q=>ai _ q) (ak _) ⟨h,its,0,D,aw _ rfl⟩
theorem Inv.fresh (I:Inv X ke σ H s):H s.heap.objs.size=none:=I.hok.fresh (ak _)
theorem Inv.lstM (I:Inv X ke σ H s) (h:H l=some (.lst xs)):xs.length<=sizeLine/\∃(its:List Value) (n:Nat),Vals xs its/\xs.length=its.length/\s.heap.get? l=some {cls:=.type "list",data:=.seq its.toArray n}:=by
 obtain ⟨z,its,n,r,e⟩:=I.hok l _ h;exact ⟨z,its,n,r,r.length,e⟩
theorem DO {n:Nat} (h:n<=sizeLine):Builtin.List.listTooLong n=false:=by
 unfold Builtin.List.listTooLong;exact aN (by lia)
end
section
variable {X:Cx}
def UN:V->List V->Hp->VK->Prop:=fun x D H Q=>∃l h y,x=.ref l/\D=[y]/\H l=some (.lst h)/\h.length<sizeLine/\Q .non (upd H l (.lst (h++[y])))
theorem zP:oA X "list.append" UN:=by
 intro Z s S H x vs v Y Q I J O h;obtain ⟨l,V,y,rfl,rfl,E,hz,q⟩:=h;cases J;obtain ⟨u,rfl,G⟩:=O.one;obtain ⟨z,D,n,r,hl,e⟩:=I.lstM E;refine gq F.slot_list_append ⟨_,e,rfl⟩ F.entry_list_append (F.args_list_append_2 _ _) (PySem.list_append l D.toArray n u (by rw [ao];lia)) ⟨e,?_⟩;refine ⟨.non,_,I.lset (its':=D++[u]) E e (by simp) (r.append (.cons G .nil)) ?_,rfl,q⟩;rw [ag,ax]
 lia
def UM:V->List V->Hp->VK->Prop:=fun x E H Q=>∃l b D h,x=.ref l/\E=[.ref b]/\H l=some (.lst D)/\H b=some (.lst h)/\D.length+h.length<=sizeLine/\Q .non (upd H l (.lst (D++h)))
theorem CI:oA X "list.extend" UM:=by
 intro ke s σ H x vs v us Q I rx rv h;obtain ⟨l,b,xs,zs,rfl,rfl,O,V,hz,q⟩:=h;cases rx;obtain ⟨u,rfl,ru⟩:=rv.one;cases ru;obtain ⟨z,E,n,r,hl,e⟩:=I.lstM O;obtain ⟨z2,D,Z,S,Y,e2⟩:=I.lstM V;have J:E.toArray.size+D.toArray.size<=sizeLine:=by rw [ao,ao];lia
 have G:¬(!E.toArray.isEmpty&&Builtin.List.listTooLong (E.toArray.size+D.toArray.size))=true:=by
  rw [DO J,Bool.and_false];exact aB
 refine gq F.slot_list_extend ⟨_,e,rfl⟩ F.entry_list_extend (F.args_list_extend_2 _ _)
  (AutoSeq1.list_extend_list_list_0 l E.toArray n b D.toArray Z G (by rw [ao];lia) (by lia)) ⟨e,e2,?_⟩
 refine ⟨.non,_,I.lset (its':=E++D) O e (by simp) (r.append S) ?_,rfl,q⟩;rw [ag]
 lia
def X1:R2:=fun x y H Q=>∃l b D h,x=.ref l/\y=.ref b/\H l=some (.lst D)/\H b=some (.lst h)/\D.length+h.length<=sizeLine/\∀p,H p=none->Q (.ref p) (upd H p (.lst (D++h)))
theorem QF:qN X (binaryOp .Add) X1:=by
 intro ke s σ H x y v u Q I Z Y h;obtain ⟨l,b,xs,zs,rfl,rfl,O,G,hz,q⟩:=h;cases Z;cases Y;obtain ⟨z,E,n,r,hl,e⟩:=I.lstM O;obtain ⟨z2,D,n2,F,J,S⟩:=I.lstM G;refine PySem.P.add_list e S ?_ (by rw [ao,ao];lia);have V:E.toArray++D.toArray=(E++D).toArray:=by simp
 rw [V];exact ⟨.ref _,_,I.lnew (t':=s.toks) (r.append F) (by rw [ag];lia),rfl,q _ I.fresh⟩
def XX:R2:=fun x y H Q=>∃l k h,x=.ref l/\y=.int k/\H l=some (.lst h)/\-(2 ^ 63)<=k/\k<2 ^ 63/\h.length*k.toNat<=sizeLine/\
 ∀p,H p=none->Q (.ref p) (upd H p (.lst (List.replicate k.toNat h).flatten))
theorem EN {h:Type} (xs:List h) (k:Nat):(List.replicate k xs).flatten.length=k*xs.length:=by
 induction k with
 |zero=>simp
 |succ k l=>rw [bu,fk,ag,l,Nat.succ_mul,Nat.add_comm]
theorem FK:qN X (binaryOp .Mult) XX:=by
 intro ke s σ H x y v u Q I rx ry h;obtain ⟨l,k,xs,rfl,rfl,hH,h1,h2,Z,q⟩:=h;cases rx;obtain ⟨t,rfl⟩:=ry;obtain ⟨z,D,n,r,hl,e⟩:=I.lstM hH;have O:D.toArray.size*k.toNat<=sizeLine:=by rw [ao,<- hl];exact Z
 have J:¬D.toArray.size*k.toNat>(2 ^ 63 - 1) / 8:=by
  have:(sizeLine:Nat)<=(2 ^ 63 - 1) / 8:=by decide
  lia
 have G:¬(!Builtin.List.listFitsIndex k)=true:=by
  rw [fitsIndex_both h1 h2];exact aB
 have E:¬Builtin.List.listTooLong (D.toArray.size*k.toNat)=true:=by
  rw [DO O];exact aB
 have S:List.foldl (fun Y V=>Y++V) #[] (List.replicate (if D.toArray.isEmpty=true then 0 else k.toNat) D.toArray)=(List.replicate k.toNat D).flatten.toArray:=by
  have f0:∀m:Nat,List.foldl (fun Y V=>Y++V) #[] (List.replicate m D.toArray)=(List.replicate m D).flatten.toArray:=fun m=>by
   have:=CL D m [];rw [List.nil_append] at this;exact this
  rw [f0];cases D with
  |nil=>simp
  |cons a r'=>rw [if_neg (by simp)]
 refine wpAny_binaryOp_repeat_ref (T:="list") (U:="int") (by decide) ⟨_,e,rfl⟩ (fun s'=>typeIs_int s' k t) noFill_list_mul F.fills_int_mul iy repeat_list F.slot_int_index.lookup
  (gq iy (typeIs_int s k t) F.entry_int_rmul (F.args_int_rmul_2 _ _) (int___rmul___int_list k t l D.toArray n)
   ⟨e,rfl,⟨_,e,rfl⟩,gq F.slot_list_mul ⟨_,e,rfl⟩ F.entry_list_mul (F.args_list_mul_2 _ _) (AutoListH.list___mul___list_int_3 l D.toArray n k t G J E) ⟨e,?_⟩⟩)
 rw [S];exact ⟨.ref _,_,I.lnew (t':=s.toks) (r.rep k.toNat) (by rw [EN,Nat.mul_comm];exact Z),rfl,q _ I.fresh⟩
end
section
variable {prog:Program} {w:World} {A:Around} {E:Value->Shared->Prop} {s:Shared}
end
section
variable {X:Cx}
end
end L2
namespace Att
open PySem PySem.W PySem.Calls PyProof.Rows
theorem NX {P:Params} {h:Heap}:∀(l:List Int) (vs:List Value),WellAll P h vs (l.map WData.int)->IntsAre vs l:=by
 intro l
 induction l with
 |nil =>
  intro vs w;rw [List.map_nil] at w;cases w;exact .nil
 |cons n l D =>
  intro vs w;rw [List.map_cons] at w;cases w with
  |cons a b =>
   cases a;exact .cons _ _ (D _ b)
theorem RQ {l:OpenLaw} {n:Nat} (hn:l.most=some n) {P:Params} {h:Heap} {args:List WData} {F:List Value}
  (E:l.row.toRowW.claim.pre args=true) (S:WellAll P h F args) :
  ∃a vs D,F=[Value.ref a]/\args=[WData.list (D.map WData.int)]/\h.get? a=some {cls:=.type "list",data:=.seq vs.toArray}/\IntsAre vs D/\D.length<=n:=by
 have V:WShape.hasAll [] args [.list .int]=true:=(pre_splitW E).1;have Y:l.pre.holds [] {args:=args}=true:=(pre_splitW E).2;obtain ⟨d,r,rfl,h1,h2⟩:=hasAllW_cons V;obtain rfl:=hasAllW_nil h2;obtain ⟨xs,rfl,h3⟩:=hasW_list h1;obtain ⟨D,rfl⟩:=items_int h3;have I:D.length<=n:=by
  unfold OpenLaw.pre at Y;have J:(WTm.not (.lt (.lit (.int (n:Int))) (.len (.arg 0)))).holds [] {args:=[.list (D.map .int)]}=true:=by
   have J:=(holds_andW Y).1;rw [hn] at J;exact J
  have O:=condW_of J (w_not (w_lt w_lit (w_len_list (w_arg rfl))));rw [List.length_map] at O;refine Nat.le_of_not_lt fun q=>?_
  have q':(n:Int)<((D.length:Nat):Int):=by lia
  first
   | (rw [decide_eq_true q'] at O;exact absurd O (by decide))
   | (simp at O;lia)
 cases S with
 |cons w1 w2 =>
  cases w2;cases w1 with
  |list Z G=>exact ⟨_,_,D,rfl,rfl,Z,NX D _ G,I⟩
theorem RV (l:OpenLaw) (args:List WData):l.row.toRowW.claim.post args (.bool true) args=true :=
 postW_of (r:=l.row.toRowW) (X:=(true == true))
  (show WShape.has [] (.bool true) .bool=true by first|rfl|decide|simp [WShape.has,WShape.arms,WShape.armsAll])
  (show (WTm.eq .res (.lit (.bool true))).value [] {args:=args,res:=some (.bool true),after:=args}=some (.bool (true == true)) from w_eq_bool (w_res rfl) w_lit) rfl
theorem attach_call {l:OpenLaw} {n:Nat} {q:Program} {E:List Str} {XP:(Str->Option Value)->Heap->Prop} {YP:World->Heap->Prop} {d:DefRec}
  (hn:l.most=some n) (ah:d.params.defaults=[])
  (S:∀(w:World) (D h:Shared) (mg mb:Str->Option Value) (O:Addr) (o:Obj) (pm cd F:Value) (a:Addr) (vs:List Value) (ns:List Int),
   Ground q E [] XP w D mg mb h.heap->YP w h.heap->
   h.heap.get? O=some o->o.data=.func (docDef d.name d.params d.body d.scope pm cd F)->h.heap.CodeRec cd d.name->mg d.name=some (.ref O)->
   h.heap.get? a=some {cls:=.type "list",data:=.seq vs.toArray}->IntsAre vs ns->ns.length<=n->h.gens = #[]->
   codeAny (model l.prog w) callerA (.call (.ref O) ⟨[.ref a],[]⟩) (fun r s'=>r=.ok (.ret (.bool true))/\OldK h.heap s'.heap/\s'.os=h.os/\AllBare s'.gens) h) :
  WalkO q E XP YP l.row.toRowW d [] (fun f vs=>PySem.call f vs):=by
 intro w D h mg mb G Y O o pm cd F dV kV ho hd ap hD am hg aU a3 as V aD a4 an a5;obtain rfl:dV=.none:=Dflts.none hD ah;obtain rfl:kV=.none:=Dflts.noKw hD;obtain ⟨a,vs,ns,rfl,rfl,J,I,Z⟩:=RQ hn V an;refine enter_call (codeAny_mono (S w D h mg mb O o pm cd F a vs ns G Y ho (fd_plain hd) ap am J I Z hg) fun r s' hq=>?_);obtain ⟨rfl,h2,h3,h4⟩:=hq;exact ⟨.inl ⟨.bool true,.bool true,[],rfl,fun _=>rfl,.bool true,RV l _,fun _=>⟨List.Pairwise.nil,fun _ hm=>(nomatch hm)⟩⟩,h2,h3,h4⟩
section
variable {prog:Program} {w:World} {A:Around} {E:Value->Shared->Prop} {s:Shared} {K:Frag}
def ledger (h:Heap) (L d:Addr):List (Addr×Obj):=(List.range h.objs.size).filterMap fun a=>if a=L\/a=d then none else (h.get? a).map fun o=>(a,o)
end
end Att
namespace L2
open PySem PySem.Spec PyProof.Rows
theorem BZ:∀{vs:List Value} {l:List Int},IntsAre vs l->Vals (l.map V.int) vs
 |_,_,.nil=>.nil
 |_,_,.cons n t h=>.cons ⟨t,rfl⟩ (BZ h)
def xP (H:Hp):Prop:=∀b,H b=none\/∃o h,H b=some (.frz o (.lst h))
theorem TK {P:Program} {w:World} {K:PySem.W.Frag} {mg mb:Str->Option Value} {CX:yI} {k:Nat} {fa a:Addr} {fd:FuncData} {x:Str} {sp:Sp} {l:Shared} {vs:List Value} {ns:List Int}
  (KX:K.In l.heap) (Z:l.heap.Ns mainGlobals mg) (E:l.heap.Ns builtinsNs mb) (a4:∀x:Str,x≠"__name__"->mb x=bootBuiltins x) (an:l.heap.NoLimit) (hg:l.gens = #[])
  (ha:l.heap.get? a=some {cls:=.type "list",data:=.seq vs.toArray}) (hi:IntsAre vs ns) (hl:ns.length<=sizeLine) (hr:Room k callerA)
  (F:∀base:Heap,K.In base->base.Ns mainGlobals mg->FnOk P w K mg base CX k fa fd [x] sp) (O:∀(s:Shared) (u:Value),BindsTo s fd ⟨[u],[]⟩ [(x,u)])
  (a5:∀H:Hp,xP H->SqL K H a (ns.map V.int)->sp [.ref a] H (fun v _=>v=.bl true) fun _ _ _=>False)
  (aU:∀H e G,CX [] H l (fun _ _ _=>False) e G->False) :
  codeAny (model P w) callerA (.call (.ref fa) ⟨[.ref a],[]⟩) (fun r G=>r=.ok (.ret (.bool true))/\OldK l.heap G.heap/\G.os=l.os/\AllBare G.gens) l:=by
 have rv:=BZ hi;have ap:=hi.length;have J:∀H:Hp,xP H->SqL K H a (ns.map V.int)->HOk P w H l.heap->(∀b,H b≠none->b=a)->(H a≠none->K.lookup a=none)->
   codeAny (model P w) callerA (.call (.ref fa) ⟨[.ref a],[]⟩) (fun r G=>r=.ok (.ret (.bool true))/\OldK l.heap G.heap/\G.os=l.os/\AllBare G.gens) l:=by
  intro H hO hS am hA hK;have D:∀{b:Addr} {o:Obj},l.heap.get? b=some o->H b=none->(ZU l.heap H).get? b=some o:=fun e n=>TM e n
  have a3:∀{b:Addr} {o:Obj} {es:Array DictEntry} {S:Nat},l.heap.get? b=some o->o.data=.dict es S->H b=none:=fun {b o es S} e d=>by
   cases q:H b with
   |none=>rfl
   |some u =>
    have e':b=a:=hA b (by rw [q];simp);subst e';rw [ha] at e;cases e
    have d':Data.seq vs.toArray _=Data.dict es S:=d;cases d'
  have I:∀{b:Addr} {m:Str->Option Value},l.heap.Ns b m->(ZU l.heap H).Ns b m:=fun {b m} ⟨o,es,S,e,d,r⟩=>⟨o,es,S,D e (a3 e d),d,r⟩
  have ah:K.In (ZU l.heap H):=fun b o e=>D (KX b o e) (by
   cases q:H b with
   |none=>rfl
   |some u =>
    have e':b=a:=hA b (by rw [q];simp);subst e';rw [hK (by rw [q];simp)] at e;cases e)
  have hM:Mod K mg (ZU l.heap H):=⟨ah,I Z,⟨mb,I E,a4⟩,let ⟨mc,h1,h2⟩:=an;⟨mc,I h1,h2⟩⟩;have e0:Env0 P w K mg (ZU l.heap H) callerA [] l H:=⟨rfl,hM,fun b o e=>U3 e,Nat.le_of_eq (SB _ _),trivial,fun b E=>absurd (show b∈([]:List Addr) from E) (by simp),am,.of_eq hg⟩;refine hV ((F _ ah (I Z)).run callerA [] l H ⟨[.ref a],[]⟩ [.ref a] [.ref a] _ _ hr e0 (O l (.ref a)) (.cons rfl .nil) (a5 H hO hS)) fun r G h=>?_
  cases r with
  |error e=>exact (aU H e G h).elim
  |ok fl =>
   cases fl with
   |next=>exact False.elim h
   |brk=>exact False.elim h
   |cont=>exact False.elim h
   |ret u =>
    obtain ⟨v,H',os,aD,un,Y,r',q⟩:=h;have q':v=.bl true:=q;subst q';obtain rfl:u=Value.bool true:=r';refine ⟨rfl,OldK.of_keep fun b o e=>?_,os,aD⟩;cases q:H b with
    |none=>exact un.keep b o e q (by intro z;exact absurd (show b∈([]:List Addr) from z) (by simp)) (by simp)
    |some u =>
     rcases hO b with z|⟨ob,xs,z⟩
     ·rw [q] at z;cases z
     ·have z2:=un.frzs b ob _ z;obtain ⟨e1,_⟩:=am b _ z;obtain ⟨e2,_⟩:=Y b _ z2;rw [e] at e1;cases e1
      exact e2
 cases hk:K.lookup a with
 |some o =>
  have e:=KX a o hk;rw [ha] at e;cases e;refine J (fun _=>none) (fun _=>.inl rfl) (.inr ⟨_,vs.toArray,_,hk,rfl,rfl,rfl,by rw [ao,ap];exact hl,by simpa using rv⟩) (fun b u z=>by have z':(none:Option HO)=some u:=z;cases z') (fun b z=>absurd rfl z) fun z=>absurd rfl z
 |none =>
  refine J (fun b=>if b=a then some (.frz {cls:=.type "list",data:=.seq vs.toArray} (.lst (ns.map V.int))) else none) (fun b=>?_) (.inl (.inr ⟨{cls:=.type "list",data:=.seq vs.toArray},if_pos rfl⟩)) (fun b u z=>?_) (fun b z=>?_) fun _=>hk
  ·by_cases E:b=a
   ·exact .inr ⟨_,_,if_pos E⟩
   ·exact .inl (if_neg E)
  ·by_cases E:b=a
   ·have z':=(if_pos E).symm.trans z;cases z';subst E;exact ⟨ha,by rw [ac];exact hl,vs,_,rv,ha⟩
   ·have z':=(if_neg E).symm.trans z;cases z'
  ·by_cases E:b=a
   ·exact E
   ·exact absurd (if_neg E) z
theorem walk_of {l:PySem.W.OpenLaw} {n k:Nat} {q:Program} {I:List Str} {XP:(Str->Option Value)->Heap->Prop} {YP:World->Heap->Prop} {d:DefRec} {K:Params->PySem.W.Frag} {CX:World->yI} {sp:World->Sp} {x:Str}
  (hn:l.most=some n) (ap:n<=sizeLine) (am:d.params.defaults=[]) (hr:Room k callerA)
  (hY:∀(w:World) (h:Heap),YP w h->(K w.params).In h)
  (F:∀(w:World) (J:Str->Option Value) (Z:Addr) (h:Heap),(K w.params).In h->h.Ns mainGlobals J->J d.name=some (.ref Z)->
   ∃fd:FuncData,(∀(s:Shared) (u:Value),BindsTo s fd ⟨[u],[]⟩ [(x,u)])/\
    ∀base:Heap,(K w.params).In base->base.Ns mainGlobals J->FnOk l.prog w (K w.params) J base (CX w) k Z fd [x] (sp w))
  (aD:∀(w:World) (H:Hp) (a:Addr) (ns:List Int),ns.length<=n->xP H->SqL (K w.params) H a (ns.map V.int)->sp w [.ref a] H (fun v _=>v=.bl true) fun _ _ _=>False)
  (ah:∀(w:World) (H:Hp) (s:Shared) (e:Value) (s':Shared),CX w [] H s (fun _ _ _=>False) e s'->False) :
  PySem.W.WalkO q I XP YP l.row.toRowW d [] (fun f vs=>PySem.call f vs):=by
 refine Att.attach_call hn am fun w aU S J mb Z o pm cd a3 a vs ns G Y ho hd a4 an O E D hg=>?_
 have KX:=hY w _ Y;obtain ⟨fd,hb,hF⟩:=F w J Z _ KX G.T.g an;exact TK KX G.T.g G.T.b G.T.builtins G.T.nolimit hg O E (aI D ap) hr hF hb (fun H hO hS=>aD w H a ns D hO hS) fun H e s'=>ah w H S e s'
def qY (s:Stmt) (j:Nat):Stmt:=match s with
 |.ClassDef _ _ _ h _ _ _ _ _ _ _=>h.getD j (.Pass ⟨0,0,0,0⟩)
 |_=>.Pass ⟨0,0,0,0⟩
def vQ (s:Stmt):Arguments:=match s with
 |.FunctionDef _ a _ _ _ _ _ _ _ _=>a
 |_=>{posonlyargs:=[],args:=[],vararg:=none,kwonlyargs:=[],kw_defaults:=[],kwarg:=none,defaults:=[]}
def qZ (s:Stmt):List Stmt:=match s with
 |.FunctionDef _ _ b _ _ _ _ _ _ _=>b
 |_=>[]
def kF (s:Stmt):Scope:=match s with
 |.FunctionDef _ _ _ _ _ _ h _ _ _=>h
 |_=>{kind:=.function,names:=[],isGenerator:=false,isCoroutine:=false}
abbrev jT:yI:=fun _ _ _ _ _ _=>False
abbrev E0:XK:=fun _ _ _=>False
theorem eI {X:Cx}:cK jT X E0:=fun _ _ _ _ _ _ _ h=>h.elim
structure Fun (K:PySem.W.Frag) (x kg:Str) (st:Stmt) (f:Addr) (fd:FuncData):Prop where
 ex:∃(oc:Value) (od:Option Addr) (kV doc pm:Value) (an:Option Addr) (kn ct:Value) (osl:Array (Option Value)),
  fd=PySem.W.fnOf x kg (vQ st) (qZ st) (kF st) .none kV doc pm an kn ct/\K.lookup f=some ⟨oc,od,.func fd,osl⟩/\PySem.W.codeIn K kn kg=true
 kp:PySem.W.keepIn K (.ref f)=true
section
variable {P:Program} {w:World} {K:PySem.W.Frag} {mg:Str->Option Value} {base:Heap}
theorem Fun.ok {x O:Str} {st:Stmt} {f:Addr} {Y:FuncData} {N ps:List Str} {k:Nat} {sp:Sp} (F:Fun K x O st f Y) (S:FnScope N ps (kF st)) (G:∀vs H Q E,sp vs H Q E->vs.length=ps.length)
  (l:∀(D:Value) (A:Around) (outer:List Env) (s:Shared) (H:Hp) (vs:List V) (Q:VK) (E:XK),Room k (A.deeper (envOfC O (kF st) s.heap.objs.size f D))->sp vs H Q E->
   ∃t,PSs (qF jT P w K mg base N O (kF st) f D A outer s H E).nox (qZ st) t/\t {nx:=fun _ H'=>Q .non H',rt:=Q} (start N vs) H):FnOk P w K mg base jT (k+1) f Y ps sp:=by
 obtain ⟨oc,od,kV,Z,pm,an,D,ct,ah,rfl,lk,J⟩:=F.ex;refine m6 lk J S G fun A outer s H vs Q E hr I=>?_
 obtain ⟨t,h,q⟩:=l D A outer s H vs Q E hr I;exact ⟨t,h.nox,q⟩
theorem Fun.binds {x O:Str} {st:Stmt} {f:Addr} {J:FuncData} {ps:List Str} (F:Fun K x O st f J)
  (h:∀(D l I:Value) (G:Option Addr) (E ct:Value) (us:List Value),us.length=ps.length->bindArgs (PySem.W.fnOf x O (vQ st) (qZ st) (kF st) .none D l I G E ct) ⟨us,[]⟩=pure (ps.zip us)):Binds K J ps []:=by
 obtain ⟨oc,Y,D,l,I,G,E,ct,V,rfl,Z,S⟩:=F.ex;exact .all (h D l I G E ct)
theorem iC {x F:Str} {st:Stmt} {f:Addr} {S:Value} {O I:Option Addr} {D:Array (Option Value)} {G h J E ct:Value} (l:K.lookup f=some ⟨S,O,.func (PySem.W.fnOf x F (vQ st) (qZ st) (kF st) .none G h J I E ct),D⟩)
  (c:PySem.W.codeIn K E F=true) (k:PySem.W.keepIn K (.ref f)=true):Fun K x F st f (PySem.W.fnOf x F (vQ st) (qZ st) (kF st) .none G h J I E ct):=⟨⟨S,O,G,h,J,I,E,ct,D,rfl,l,c⟩,k⟩
end
theorem mY {A:Around} {k:Nat} (h:Room k A):A.units+1<cLine:=cy (Nat.add_le_add_left (by decide:1<=64) _) h.units
theorem qX {n:Nat} (h:n<=1000):n<sizeLine:=cy h (by decide)
section
variable {X:Cx}
theorem pv (i:Nat) {x:Str} {D:Pos} (E:X.N[i]?=some x:=by rfl) (F:gX X.env.scope x:=by first|exact Or.inl rfl|exact Or.inr (Or.inl rfl)|exact Or.inr (Or.inr rfl)) (l:(x == ("__debug__":Str))=false:=by decide)
  (h:(x == ("__classdict__":Str))=false:=by decide):PE X (.Name x D) (xG i):=V1 E F l h
end
variable {A B:Prop}
theorem qB (h:B):if false=true then A else B:=by
 rw [if_neg aB];exact h
theorem qA (h:A):if true=true then A else B:=by
 rw [if_pos rfl];exact h
theorem yQ {c:Prop} [Decidable c] (l:c->A) (D:¬c->B):if c then A else B:=by
 by_cases h:c
 ·rw [if_pos h];exact l h
 ·rw [if_neg h];exact D h
theorem zU {c:Prop} [Decidable c] (l:c) (h:B):if (!decide c)=true then A else B:=by
 rw [bi l];exact qB h
def Same (H h:Hp):Prop:=∀b o,H b=some o->h b=some o
theorem Same.refl (H:Hp):Same H H:=fun _ _ h=>h
variable {H:Hp}
theorem Same.trans {l D:Hp} (a:Same H l) (b:Same l D):Same H D:=fun c o h=>b c o (a c o h)
theorem Same.free {D:Hp} (e:Same H D) {l:Addr} (h:D l=Option.none):H l=Option.none:=by
 cases q:H l with
 |none=>rfl
 |some o =>
  rw [e l o q] at h;cases h
theorem Same.seq {K:PySem.W.Frag} {l:Hp} {a:Addr} {xs:List V} (e:Same H l) (h:SqL K H a xs):SqL K l a xs:=by
 rcases h with (h|⟨o,h⟩)|h
 ·exact .inl (.inl (e _ _ h))
 ·exact .inl (.inr ⟨o,e _ _ h⟩)
 ·exact .inr h
end L2
namespace L2
open PySem PySem.Spec PyProof.Rows
def yT (cells:List (Str×Addr)):List (Str×NameKind)->List (Str×Addr)->List (Str×Addr)
 |[],cs=>cs
 | (n,k)::r,cs=>if (k == NameKind.free)=true then yT cells r ((n,(cells.lookup n).getD 0)::cs) else yT cells r cs
variable {scope:Scope}
theorem tG {D:Env} (h:∀x∈scope.names,x.2=.free->∃c,D.cells.lookup x.1=some c):closureFor scope D=pure (yT D.cells scope.names []):=by
 simp only [closureFor];have Y:∀(l:List (Str×NameKind)) (F:List (Str×Addr)),(∀x∈l,x.2=.free->∃c,D.cells.lookup x.1=some c)->
   (forIn l F fun x r=>match x with|(E,G)=>if (G == NameKind.free)=true then do let a <- cellOf D E;pure (ForInStep.yield ((E,a)::r)) else pure (ForInStep.yield r):Sem (List (Str×Addr)))=pure (yT D.cells l F):=by
  intro l
  induction l with
  |nil=>intro F _;rfl
  |cons p r ih =>
   intro F V;obtain ⟨n,k⟩:=p;rw [List.forIn_cons];have S:=fun F=>ih F fun x Z=>V x (aF _ Z)
   by_cases J:(k == NameKind.free)=true
   ·have O:k=NameKind.free:=by simpa using J
    obtain ⟨c,hc⟩:=V (n,k) bq O;have I:D.cells.lookup n=some c:=hc;simp only [J,if_true,yT,cellOf,I,Option.getD_some,pure_bind];exact S _
   ·simp only [J,if_false,yT,pure_bind];exact S _
 rw [Y scope.names [] h];rfl
theorem i6 {cells:List (Str×Addr)}:∀{l:List (Str×NameKind)} {cs:List (Str×Addr)} {x:Str} {c:Addr},(∀y∈l,y.2=.free->∃c,cells.lookup y.1=some c)->(∀y d,cs.lookup y=some d->cells.lookup y=some d)->
  (yT cells l cs).lookup x=some c->cells.lookup x=some c
 |[],cs,x,c,_,D,e=>D x c e
 | (n,k)::r,cs,x,c,F,D,e=>by
  unfold yT at e
  by_cases hk:(k == NameKind.free)=true
  ·rw [if_pos hk] at e;obtain ⟨d,I⟩:=F (n,k) bq (by simpa using hk);have E:cells.lookup n=some d:=I;refine i6 (fun y h=>F y (aF _ h)) (fun y J q=>?_) e;rw [cm] at q
   by_cases h:(y == n)=true
   ·rw [h] at q;have G:y=n:=by simpa using h
    subst G;rw [E] at q ⊢;exact q
   ·rw [Bool.not_eq_true] at h;rw [h] at q;exact D y J q
  ·rw [if_neg hk] at e;exact i6 (fun y h=>F y (aF _ h)) D e
theorem tP {cells:List (Str×Addr)}:∀{l:List (Str×NameKind)} {cs:List (Str×Addr)} {x:Str},(∃c,cs.lookup x=some c)->∃c,(yT cells l cs).lookup x=some c
 |[],_,_,h=>h
 | (n,k)::r,cs,x,h=>by
  unfold yT
  by_cases hk:(k == NameKind.free)=true
  ·rw [if_pos hk];refine tP ?_;rw [cm]
   by_cases D:(x == n)=true
   ·rw [D];exact ⟨_,rfl⟩
   ·rw [Bool.not_eq_true] at D;rw [D];exact h
  ·rw [if_neg hk];exact tP h
theorem lG {cells:List (Str×Addr)}:∀{l:List (Str×NameKind)} {cs:List (Str×Addr)} {x:Str},(x,NameKind.free)∈l->∃c,(yT cells l cs).lookup x=some c
 | (n,k)::r,cs,x,h=>by
  unfold yT
  rcases aj.mp h with e|e
  ·cases e;rw [if_pos (by rfl)];exact tP (by rw [cm,iu];exact ⟨_,rfl⟩)
  ·by_cases hk:(k == NameKind.free)=true
   ·rw [if_pos hk];exact lG e
   ·rw [if_neg hk];exact lG e
def qV (X:Cx) (N:List Str) (scope:Scope) (C:Addr) (s:Shared) (H:Hp) (h:List (Addr×Obj)) (fp:List Addr):Cx where
 prog:=X.prog
 w:=X.w
 K:=X.K
 mg:=X.mg
 base:=X.base
 A:=X.A
 N:=N
 s₀:=s
 H₀:=H
 env:=compEnvC scope (yT X.env.cells scope.names []) C X.env
 outer:=X.stack
 stack:=X.stack
 ex:=fp
 fn:=fun _=>false
 calm:=X.calm
 pn:=X.pn++h
 xe:=fun _ _=>False
structure CompScope (X:Cx) (scope:Scope):Prop where
 kind:scope.kind=.function
 nocell:∀y∈scope.names,y.2≠.cell
 names:∀y∈scope.names,y.2=.local->scope.names.lookup y.1=some .local
 free:∀y∈scope.names,y.2=.free->X.env.kindOf y.1=some .cell\/X.env.kindOf y.1=some .free
theorem tF {l:Env} {x:Str}:∀{names:List (Str×NameKind)} {k:NameKind},(names.map fun (n,k)=>if (k == NameKind.free&&l.scope.kind == .function&&l.kindOf n == some .cell) then (n,NameKind.cell) else (n,k)).lookup x=some k->
  ∃F,names.lookup x=some F/\(F=k\/(F=.free/\k=.cell/\l.kindOf x=some .cell))
 |[],k,h=>by simp at h
 | (n,k0)::r,k,h=>by
  have S:=@tF l x r k;have D:List.lookup x ((if (k0 == NameKind.free&&l.scope.kind == .function&&l.kindOf n == some .cell)=true then (n,NameKind.cell) else (n,k0))::r.map fun (n,k)=>if (k == NameKind.free&&l.scope.kind == .function&&l.kindOf n == some .cell)=true then (n,NameKind.cell) else (n,k))=some k:=h
  by_cases G:(k0 == NameKind.free&&l.scope.kind == .function&&l.kindOf n == some .cell)=true
  ·rw [if_pos G] at D;rw [cm] at D;cases E:x == n with
   |true =>
    rw [E] at D;have V:NameKind.cell=k:=ay D;simp only [ei,hU] at G;have O:x=n:=by simpa using E
    refine ⟨k0,by rw [cm,E],.inr ⟨G.1.1,V.symm,by rw [O];exact G.2⟩⟩
   |false =>
    rw [E] at D;obtain ⟨F,I,J⟩:=S D;exact ⟨F,by rw [cm,E];exact I,J⟩
  ·rw [if_neg G] at D;rw [cm] at D;cases E:x == n with
   |true =>
    rw [E] at D;exact ⟨k0,by rw [cm,E],.inl (ay D)⟩
   |false =>
    rw [E] at D;obtain ⟨F,I,J⟩:=S D;exact ⟨F,by rw [cm,E];exact I,J⟩
theorem tM {F:Type}:∀{l:List (Str×F)} {x:Str} {k:F},l.lookup x=some k->(x,k)∈l
 |[],_,_,h=>by simp at h
 | (n,a)::r,x,k,h=>by
  rw [cm] at h;cases D:x == n with
  |true =>
   rw [D] at h;have e:a=k:=ay h;have E:x=n:=by simpa using D
   subst e;subst E
   exact bq
  |false =>
   rw [D] at h;exact aF _ (tM h)
def dG (X:Cx) (h:List Expr) (t:TT):Prop :=
 ∀(D:List (Addr×Obj)) (s:Shared) (l:St) (H:Hp) (Q:Bool->Hp->Prop),Inv X D l H s->t l H Q->
  wpAny (model X.prog X.w) X.A (forIn h true fun c r=>if r=true then do let E <- isTrue c X.env (eval c X.env);pure (ForInStep.yield E) else pure (ForInStep.yield r)) (TP X D l Q) X.xe s
def xF:TT:=fun _ H Q=>Q true H
variable {X:Cx}
theorem JD:dG X [] xF:=fun _ _ _ H _ I h=>wpAny_tests_nil ⟨H,I,h⟩
theorem d9 {c:Expr} {t:TT} (E:PT X c t):dG X [c] t:=fun l s D H Q I h=>wpAny_tests_one (E l s D H Q I h)
def JS (D:Addr) (J:It) (g:TG) (tc:TT) (te:TE) (E:St) (H:Hp) (Q:Hp->Prop):Prop :=
 ∃W:Nat->Nat->St->Hp->Prop,(∃m,W 0 m E (upd H D (.lst [])))/\∀i m G F,W i m G F->
  (J.stop i F/\Q F)\/(J.go i F/\∃N:St->Hp->Prop,(∀l I,N l I->∃V,V<m/\W (i+1) V l I)/\∀x Y,J.yld i F x Y->g x G Y fun h H3=>tc h H3 fun b Z =>
   if b=true then te h Z fun v S=>∃O,S D=some (.lst O)/\O.length<sizeLine/\N h (upd S D (.lst (O++[v]))) else N h Z)
def mS (I:TI) (h:St->St) (g:TG) (O:TT) (G:TE):TE:=fun E H Q=>I E H fun J l=>∀D,l D=none->JS D J g O G (h E) l fun F=>Q (.ref D) F
def SU (i:Nat) (I:TI) (h:St->St) (g:TG) (O:TT) (G:TE):TS:=fun D l H=>I l H fun J E=>∀d,E d=none->JS d J g O G (h l) E fun F=>D.nx (l.set i (some (.ref d))) F
def Z2 (X:Cx) (N:List Str) (scope:Scope) (h:St->St):Prop :=
 ∀l:St,l.length=X.N.length->(h l).length=N.length/\∀(i:Nat) (x:Str) (v:V),N[i]?=some x->(h l)[i]?=some (some v)->scope.names.lookup x=some .free/\∃j:Nat,X.N[j]?=some x/\l[j]?=some (some v)
def vM (n:Nat) (h:List Nat):St->St:=fun l=>List.replicate n none++h.map fun j=>(l[j]?).join
theorem HJ {N:List Str} (n:Nat) (F:List Nat) (Y:N.length=n+F.length) (V:F.map (fun j=>X.N[j]?)=(N.drop n).map some) (Z:∀x∈N.drop n,scope.names.lookup x=some .free):Z2 X N scope (vM n F):=by
 intro I ah;refine ⟨by unfold vM;rw [ag,cq,ac,Y],fun i x v S h=>?_⟩;unfold vM at h
 by_cases G:i<n
 ·rw [aG (by simpa using G),ie,if_pos G] at h;cases h
 ·rw [aA (by simpa using G),cq,ar] at h;cases J:F[i - n]? with
  |none=>rw [J] at h;cases h
  |some j =>
   rw [J] at h;have E:(I[j]?).join=some v:=ay h;have e4:I[j]?=some (some v):=by
    cases q:I[j]? with
    |none=>rw [q] at E;cases E
    |some o =>
     rw [q] at E;have D:o=some v:=E;rw [D]
   have O:(N.drop n)[i - n]?=some x:=by
    rw [List.getElem?_drop,show n+(i - n)=i by lia];exact S
   have D:=cf (fun l=>l[i - n]?) V;simp only [ar,J,O,Option.map_some] at D;exact ⟨Z x (az O),j,ay D,e4⟩
theorem HI (D:Scope) (E:X.env.scope=D) (kind:scope.kind=.function) (h:∀y∈scope.names,y.2≠.cell) (names:∀y∈scope.names,y.2=.local->scope.names.lookup y.1=some .local)
  (l:∀y∈scope.names,y.2=.free->D.names.lookup y.1=some .cell\/D.names.lookup y.1=some .free):CompScope X scope:=⟨kind,h,names,fun y F G=>by
 subst E;exact l y F G⟩
section
variable {X:Cx} {N:List Str} {scope:Scope} {ke:List (Addr×Obj)} {σ:St} {H:Hp} {s:Shared} {fp:List Addr}
theorem fP (S:CompScope X scope) (I:Inv X ke σ H s):∀y∈scope.names,y.2=.free->∃c,X.env.cells.lookup y.1=some c:=fun y h l=>I.ok.has y.1 (S.free y h l)
theorem T6 {an:St->St} {D C:Addr} {E:Heap} {t':Nat} {m:Str->Option Value} (S:CompScope X scope) (I:Inv X ke σ H s) (Y:Z2 X N scope an) (hf:∀b∈fp,JK X ke H b) (a5:∀b∈fp,∃o,s.heap.get? b=some o)
  (hD:s.heap.objs.size<=D) (hC:s.heap.objs.size<=C) (a3:D≠C) (O:∀b o,s.heap.get? b=some o->E.get? b=some o) (a8:E.Ns C m) (hl:E.get? D=some {cls:=.type "list",data:=.seq ([]:List Value).toArray}) :
  Inv (qV X N scope C s H ke fp) [] (an σ) (upd H D (.lst [])) {s with heap:=E,toks:=t'}:=by
 have G:=fP S I;have h:∀x c,(yT X.env.cells scope.names []).lookup x=some c->X.env.cells.lookup x=some c:=fun x c e=>i6 G (fun y d q=>by simp at q) e
 have lt:∀{b:Addr} {o:Obj},s.heap.get? b=some o->b<s.heap.objs.size:=fun e=>aq e
 have V:∀x c,X.env.cells.lookup x=some c->c<s.heap.objs.size:=fun x c e=>by
  obtain ⟨v,o,Z,_⟩:=I.cell x c e;exact lt Z
 have nD:H D=none:=I.hok.fresh hD;have nC:H C=none:=I.hok.fresh hC;have J:∀b:Addr,b≠X.env.locals->b∉X.fs->b∉j8 X.stack:=fun b h1 h2 z=>by
  rcases aj.mp (I.stkSub b z) with e|e
  ·exact h1 e
  ·exact h2 e
 refine ⟨⟨I.ok.mod,S.kind,I.ok.glob,I.ok.blt,hC,fun x y c h1 h2=>I.ok.inj x y c (h x c h1) (h y c h2),fun x hx=>?_,fun x c a4 _=>(nomatch a4),I.ok.hd,I.ok.frames,.inl rfl,fun b hb=>⟨?_,fun x c e=>(hf b hb).2.2.2.2.1 x c (h x c e)⟩,
   I.bs,aI I.ok.bsz I.sz,fun b o e hb=>?_,fun b hb=>J b (hf b hb).2.1 (hf b hb).2.2.1,I.stack,I.stkFree⟩,
  rfl,I.bare,Un.laid O hD nD,⟨m,a8,fun i x v h1 h2 h3=>?_⟩,fun x c e=>?_,?_,fun x c e=>?_,fun p hp=>?_,?_,(Y σ I.len).1⟩
 ·-- has
  have a7:∃k,(relabel scope X.env).names.lookup x=some k/\(k=.cell\/k=.free):=by
   rcases hx with e|e
   ·exact ⟨_,e,.inl rfl⟩
   ·exact ⟨_,e,.inr rfl⟩
  obtain ⟨k,e,hk⟩:=a7;obtain ⟨k',e1,F⟩:=tF e;have hm:=tM e1;have am:k'=.free:=by
   rcases F with F|F
   ·subst F
    rcases hk with hk|hk
    ·subst hk;exact absurd rfl (S.nocell _ hm)
    ·exact hk
   ·exact F.1
  subst am;exact lG hm
 ·obtain ⟨o,Z⟩:=a5 b hb;exact aQ (av (lt Z) hC)
 ·rcases (hf b hb).2.2.2.1 with z|z
  ·exact I.ok.noex b o e z
  ·exact absurd (av (aq e) (aI I.ok.bsz z)) (bz _)
 ·-- names
  obtain ⟨aU,j,hj,hv⟩:=(Y σ I.len).2 i x v h1 h2;have hm:=tM aU;have hk:=S.free _ hm rfl;obtain ⟨m0,_,a9⟩:=I.loc;have be:gX X.env.scope x:=by
   rcases hk with k|k
   ·exact .inr (.inl k)
   ·exact .inr (.inr k)
  obtain ⟨u,r,l⟩:=a9 j x v hj hv be;refine ⟨u,r,.inr ⟨?_,?_⟩⟩
  ·have ap:∃k,(relabel scope X.env).names.lookup x=some k:=by
    rcases h3 with e|e|e<;>exact ⟨_,e⟩
   obtain ⟨k,e⟩:=ap;obtain ⟨k',e1,F⟩:=tF e;rw [aU] at e1;cases e1
   rcases F with F|F
   ·subst F;exact .inr e
   ·rw [F.2.1] at e;exact .inl e
  ·rcases l with ⟨k,_⟩|⟨_,c,hc,ah⟩
   ·exfalso
    rcases hk with q|q
    ·have q':X.env.kindOf x=some .cell:=q;rw [k] at q';cases q'
    ·have q':X.env.kindOf x=some .free:=q;rw [k] at q';cases q'
   ·obtain ⟨c',e'⟩:=lG (cells:=X.env.cells) (cs:=[]) hm;have F:=h x c' e';have aD:X.env.cells.lookup x=some c':=F;rw [hc] at aD;cases aD;obtain ⟨o,Z,hd⟩:=ah;exact ⟨c,e',o,O _ _ Z,hd⟩
 ·obtain ⟨v,o,Z,hd⟩:=I.cell x c (h x c e);exact ⟨v,o,O _ _ Z,hd⟩
 ·show upd H D (.lst []) C=none;rw [jQ (Ne.symm a3)];exact nC
 ·have hc:=h x c e;rw [jQ (aQ (av (V x c hc) hD))];exact I.freeC x c hc
 ·have a6:p∈X.pn++ke:=by
   rcases ba.mp hp with z|z
   ·exact z
   ·cases z
  obtain ⟨e,n,ne,nf,d⟩:=I.pin p a6;refine ⟨O _ _ e,?_,aQ (av (lt e) hC),J p.1 ne nf,d⟩;rw [jQ (aQ (av (lt e) hD))];exact n
 ·refine I.hok.laid O hD ?_;exact ⟨aH _,[],0,.nil,hl⟩
theorem lK {σ':St} {D:Hp} {l:Shared} {C:Addr} {h:St} {Y:List Str} (I:Inv X ke σ H s) (S:∀b∈fp,JK X ke H b) (J:Inv (qV X Y scope C s H ke fp) [] h D l):Inv X ke σ D l:=by
 refine I.call' (ch:=fp) J.os J.base J.hok J.bare fun b G=>?_
 obtain ⟨_,E,_,F,V,O⟩:=S b G;exact ⟨F,E,V,O⟩
theorem uT {σ':St} {D:Hp} {l:Shared} {C:Addr} {h':Heap} (I:Inv X ke σ H s) (h:s.heap.objs.size<=C) (J:Inv X ke σ' D l) (F:D C=none) (G:Heap.SameBut C l.heap h'):Inv X ke σ' D {l with heap:=h'}:=by
 refine J.turned (t':=l.toks) (it:=C) (fun b o E e=>(G.2 b E).trans e) F (ek (av I.lt h)) (.inr (aI I.sz h)) (fun x c e z=>?_) fun p O z=>?_
 ·obtain ⟨v,q⟩:=I.cell x c e;exact absurd (av q.lt (by rw [z];exact h)) (bz _)
 ·exact absurd (av (aq (I.pin p O).1) (by rw [z];exact h)) (bz _)
end
end L2
namespace L2
open PySem PySem.Spec PyProof.Rows
variable {H:Hp}
theorem zK {l:St} {Q:Bool->Hp->Prop} (h:Q true H):xF l H Q:=h
variable {K:PySem.W.Frag} {D:Addr} {xs:List V} {tc:TT} {te:TE} {Q:Hp->Prop}
theorem b5 {a:Addr} {g:TG} {l:St} (F:Nat->St->Hp->Prop) (S:F 0 l (upd H D (.lst []))) (hl:∀i h H,i<=xs.length->F i h H->SqL K H a xs)
    (hs:∀i x h H,xs[i]?=some x->F i h H->g x h H fun E H3=>tc E H3 fun b J=>if b=true then te E J fun v I=>∃ys,I D=some (.lst ys)/\ys.length<sizeLine/\F (i+1) E (upd I D (.lst (ys++[v]))) else F (i+1) E J)
    (V:∀h H,F xs.length h H->Q H):JS D (dH K a) g tc te l H Q:=by
  refine ⟨fun i m h H=>m=xs.length - i/\i<=xs.length/\F i h H,⟨xs.length,by simp,aH _,S⟩,?_⟩;rintro i m h H ⟨rfl,hi,p⟩;have q:=hl i h H hi p
  by_cases G:i<xs.length
  . refine .inr ⟨⟨xs,xs[i],q,by simp [G]⟩,F (i+1),fun Z O Y=>⟨xs.length - (i+1),by lia,rfl,G,Y⟩,fun x O y=>?_⟩
    obtain ⟨e,y⟩:=y;subst e;exact hs i x h _ (y xs q) p
  . have e:i=xs.length:=by lia
    subst e;exact .inl ⟨⟨xs,q,ak _⟩,V h H p⟩
theorem OF {I:Int} {n:Nat} {g:TG} {h:St} (F:Nat->St->Hp->Prop) (V:F 0 h (upd H D (.lst [])))
  (hs:∀i E H,i<n->F i E H->g (.int (I+i)) E H fun l H3=>tc l H3 fun b O=>if b=true then te l O fun v J=>∃ys,J D=some (.lst ys)/\ys.length<sizeLine/\F (i+1) l (upd J D (.lst (ys++[v]))) else F (i+1) l O)
  (Y:∀E H,F n E H->Q H):JS D (bW I n) g tc te h H Q:=by
 refine ⟨fun i m E H=>m=n - i/\i<=n/\F i E H,⟨n,by simp,aH _,V⟩,?_⟩;rintro i m E H ⟨rfl,hi,p⟩
 by_cases G:i<n
 ·refine .inr ⟨G,F (i+1),fun ah S Z=>⟨n - (i+1),by lia,rfl,G,Z⟩,fun x S y=>?_⟩;obtain ⟨e,y⟩:=y;subst e y;exact hs i E _ G p
 ·have e:i=n:=by lia
  subst e;exact .inl ⟨ak _,Y E H p⟩
theorem qJ {h:Hp} {o:HO} (l:H D=none) (s:Same H h):Same H (upd h D o):=fun b u q=>by
 rw [jQ (qE q l)];exact s b u q
def JT (H:Hp) (D:Addr) (caps:St) (R:Nat->List V->Hp->Prop) (i:Nat) (E:St) (h:Hp):Prop:=∃l c,E=c::caps/\Same H h/\h D=some (.lst l)/\l.length<=i/\R i l h
variable {caps:St}
theorem Q7 {E h:Hp} {R:Nat->List V->Hp->Prop} {i:Nat} {ys:List V} {c:Option V} {v:V} (I:H D=none) (s:Same H E) (G:E D=some (.lst ys)) (O:ys.length<=i) (J:i<=999) (F:Same E h)
  (r:R (i+1) (ys++[v]) (upd h D (.lst (ys++[v])))):∃l,h D=some (.lst l)/\l.length<sizeLine/\JT H D caps R (i+1) (c::caps) (upd h D (.lst (l++[v]))):=by
 refine ⟨ys,F _ _ G,qX (by lia),ys++[v],c,rfl,qJ I (s.trans F),jF,?_,r⟩;rw [ag,ax];lia
theorem lJ {l h:Hp} {R:Nat->List V->Hp->Prop} {i:Nat} {ys:List V} {c:Option V} (s:Same H l) (F:l D=some (.lst ys)) (G:ys.length<=i) (E:Same l h) (r:R (i+1) ys h) :
  JT H D caps R (i+1) (c::caps) h:=⟨ys,c,rfl,s.trans E,E _ _ F,by lia,r⟩
theorem dI {a:Addr} (R:Nat->List V->Hp->Prop) (hD:H D=none) (Y:SqL K H a xs) (Z:R 0 [] (upd H D (.lst [])))
  (hs:∀i x ys h,xs[i]?=some x->i<xs.length->ys.length<=i->Same H h->h D=some (.lst ys)->R i ys h->tc (some x::caps) h fun b J=>if b=true then te (some x::caps) J fun v S=>∃F,S D=some (.lst F)/\F.length<sizeLine/\JT H D caps R (i+1) (some x::caps) (upd S D (.lst (F++[v])))
   else JT H D caps R (i+1) (some x::caps) J)
  (hd:∀ys l,Same H l->l D=some (.lst ys)->ys.length<=xs.length->R xs.length ys l->Q l):JS D (dH K a) (bJ 0) tc te (none::caps) H Q:=by
 refine b5 (xs:=xs) (JT H D caps R) ⟨[],none,rfl,qJ hD (Same.refl H),jF,ak _,Z⟩ (fun i O h _ ⟨_,_,_,s,_⟩=>s.seq Y) ?_ ?_
 ·rintro i x O h I ⟨ys,c,rfl,s,E,G,r⟩;exact hs i x ys h I (ae.mp I).1 G s E r
 ·rintro O l ⟨ys,c,rfl,s,E,G,r⟩;exact hd ys l s E G r
theorem BD {E:Int} {n:Nat} (R:Nat->List V->Hp->Prop) (hD:H D=none) (Y:R 0 [] (upd H D (.lst [])))
  (hs:∀i ys h,i<n->ys.length<=i->Same H h->h D=some (.lst ys)->R i ys h->tc (some (.int (E+i))::caps) h fun b J=>if b=true then te (some (.int (E+i))::caps) J fun v O=>∃G,O D=some (.lst G)/\G.length<sizeLine/\JT H D caps R (i+1) (some (.int (E+i))::caps) (upd O D (.lst (G++[v])))
   else JT H D caps R (i+1) (some (.int (E+i))::caps) J)
  (hd:∀ys l,Same H l->l D=some (.lst ys)->ys.length<=n->R n ys l->Q l):JS D (bW E n) (bJ 0) tc te (none::caps) H Q:=by
 refine OF (JT H D caps R) ⟨[],none,rfl,qJ hD (Same.refl H),jF,ak _,Y⟩ ?_ ?_
 ·rintro i Z h S ⟨ys,c,rfl,s,F,I,r⟩;exact hs i ys h S I s F r
 ·rintro Z l ⟨ys,c,rfl,s,F,I,r⟩;exact hd ys l s F I r
def GR:V->Option Value
 |.ty n=>some (.type n)
 |.ref a=>some (.ref a)
 |_=>none
section
variable {X:Cx}
def GM (K:PySem.W.Frag):List V->Hp->VK->Prop:=fun xs H Q=>∃(x c:V) (t u:Value) (b:Bool),xs=[x,c]/\GR c=some u/\TyOf K H x t/\PySem.W.kitOne K t u=some b/\Q (.bl b) H
theorem T9:yK X (.builtin "isinstance") (GM X.K):=by
 intro Y s O H xs V Q I r h;obtain ⟨x,c,t,u,b,rfl,E,ty,e,q⟩:=h;obtain ⟨S,l,rfl,G,F⟩:=mQ r;have J:l=u:=by
  cases c with
  |ty n=>cases (show l=Value.type n from F);exact ay E
  |ref a=>cases (show l=Value.ref a from F);exact ay E
  |_=>cases E
 subst J;exact R8 I G ty e fun Z=>⟨.bl b,H,I.tok _,rfl,q⟩
end
theorem ZF (n:String):PySem.W.kitOne K (.type n) (.type n)=some true:=by
 unfold PySem.W.kitOne;rw [if_pos (iu _)]
theorem OB:PySem.W.kitOne K (.type "int") (.type "bool")=some false:=by kernel_rfl
def fA (xs ys:List V):Bool:=(List.range (min xs.length ys.length)).all (fun j=>vX (xs.getD j .non) (ys.getD j .non))&&xs.length == ys.length
theorem TY {x:V} (h:vZ x=true):vX x x=true:=by
 cases x with
 |non=>rfl
 |bl b=>show (b == b)=true;simp
 |int i=>show (i == i)=true;simp
 |str z=>show (z == z)=true;simp
 |_=>exact absurd (show false=true from h) aB
theorem TX (h:xs.all vZ=true):fA xs xs=true:=by
 unfold fA;rw [ei];refine ⟨?_,by simp⟩;rw [dm];intro j E;have l:j<xs.length:=by simpa using E
 refine TY ?_;rw [af,aa l];exact dm.mp h _ (gv l)
theorem tT {us:List Value} (r:Vals xs us) {j:Nat} (h:j<us.toArray.size):RelV (xs.getD j .non) us.toArray[j]:=by
 have E:j<us.length:=by simpa using h
 have l:j<xs.length:=by rw [r.length];exact E
 obtain ⟨u,e,q⟩:=r.get (aa l);rw [aa E] at e;have F:=ay e;rw [af,aa l];show RelV xs[j] us.toArray[j];rw [List.getElem_toArray,F];exact q
theorem uD (h:xs.all vZ=true) {j:Nat} (l:j<xs.length):vZ (xs.getD j .non)=true:=by
 rw [af,aa l];exact dm.mp h _ (gv l)
section
variable {X:Cx}
def XZ (K:PySem.W.Frag) (neg:Bool):R2:=fun x y H Q=>∃a b xs h,x=.ref a/\y=.ref b/\SqT K H a xs/\SqT K H b h/\xs.all vZ=true/\h.all vZ=true/\Q (.bl (if neg then !fA xs h else fA xs h)) H
theorem V4 (Y:X.A.units<cLine):qN X (compareOp .NotEq) (XZ X.K true):=by
 intro ke s σ H x y v u Q I rx ry h;obtain ⟨a,b,xs,ys,rfl,rfl,ha,hb,fx,fy,q⟩:=h;cases rx;cases ry;obtain ⟨F,r,pl,hz⟩:=I.tuple ha;obtain ⟨l,J,G,Z⟩:=I.tuple hb;have V:=r.length;have E:=J.length;refine SeqAt.RcNeAt.tuples (e:=fun j=>vX (xs.getD j .non) (ys.getD j .non)) pl G Y (fun j S O=>?_) X.prog X.w X.xe _ ⟨.bl _,H,I,rfl,?_⟩
 ·exact FR (tT r S) (tT J O) (uD fx (by rw [V];simpa using S)) (uD fy (by rw [E];simpa using O))
 ·have e:(!((List.range (min F.toArray.size l.toArray.size)).all (fun j=>vX (xs.getD j .non) (ys.getD j .non))&&F.toArray.size == l.toArray.size)) = !fA xs ys:=by
   unfold fA;rw [ao,ao,<- V,<- E]
  rw [e];exact q
end
end L2
namespace L2
open PySem PySem.Spec PyProof.Rows
section
variable {X:Cx}
end
section
variable {X:Cx} (K:PySem.W.Frag)
theorem qD (h:X.K=K:=by rfl):IxR X (nH K):=by subst h;exact x9
theorem jO (h:X.K=K:=by rfl):IxR X (xI K):=by subst h;exact ix_tup
theorem wD (h:X.K=K:=by rfl):IxR X (nQ K):=by subst h;exact WG
theorem uN (h:X.K=K:=by rfl):nX X (GJ K):=by subst h;exact UJ
theorem N6 (h:X.K=K:=by rfl):yK X (.builtin "len") (fun xs H Q=>∃p ys,xs=[.ref p]/\(SqL K H p ys\/SqT K H p ys)/\Q (.int ys.length) H):=by subst h;exact HK
theorem QQ (h:X.K=K:=by rfl):yK X (.builtin "isinstance") (GM K):=by subst h;exact T9
theorem JP {l:List Expr} {k:Nat} {t:bV} {n:Nat} {F:Pos} (G:X.calm=true) (h:gY X l t) (E:X.K=K:=by rfl)
  (I:(assignEach l X.env).length=n:=by rfl) (D:(assignEach l X.env).findIdx? (·.1)=none:=by rfl):PG X (.Tuple l k F) (GQ K n t):=by subst E;exact mI G h I D
end
section
variable {X:Cx}
end
section
variable {X:Cx}
def XT (t u:TS):TS:=fun D E H=>∃P:St->Hp->Prop,t {D with nx:=P} E H/\∀h l,P h l->u D h l
theorem ZH {st:Stmt} {l:List Stmt} {t u:TS} (Z:PS X st t) (Y:PSs X l u):PSs X (st::l) (XT t u):=by
 intro G s O H D I h;obtain ⟨P,J,S⟩:=h;refine iq (jZ (Z G s O H {D with nx:=P} I J) fun f V q=>?_);cases f with
 |next =>
  obtain ⟨E,F,I',q⟩:=q;exact Y G V E F D I' (S E F q)
 |ret v=>exact q
 |brk=>exact q
 |cont=>exact q
end
structure Def (P:Program) (w:World) (K:PySem.W.Frag) (mg:Str->Option Value) (base:Heap) (k:Nat) (x:Str) (ps:List Str) (dvs:List V) (sp:Sp):Prop where
 ex:∃(f:Addr) (fd:FuncData) (ds:List Value),FnOk P w K mg base jT k f fd ps sp/\mg x=some (.ref f)/\PySem.W.keepIn K (.ref f)=true/\Vals dvs ds/\Binds K fd ps ds
theorem jR {X:Cx} {k E:Nat} {x:Str} {ps:List Str} {dvs:List V} {sp:Sp} {p D:Pos} {e:Expr} {h:List Expr} {t:TA} (F:Def X.prog X.w X.K X.mg X.base k x ps dvs sp) (O:Room E X.A) (S:Gl X x) (I:PA X (e::h) t)
  (hk:k<=E:=by decide) (l:(x == ("__debug__":Str))=false:=by decide) (he:starEach (e::h) X.env=(false,eval e X.env)::starEach h X.env:=by rfl) (hpl:(backTo D (starEach h X.env)).any (·.1)=false:=by rfl) :
  PE X (.Call (.Name x p) (e::h) [] D) (wW sp dvs E0 t):=by
 obtain ⟨f,Z,ds,G,m,J,Y,b⟩:=F.ex;exact UY G (O.mono hk) S m J b Y eI I l he hpl
structure FunD (K:PySem.W.Frag) (x kg:Str) (st:Stmt) (f:Addr) (fd:FuncData) (ds:List Value):Prop where
 ex:∃(oc:Value) (od:Option Addr) (T:Addr) (kV doc pm:Value) (an:Option Addr) (kn ct:Value) (osl:Array (Option Value)) (oT:Obj) (n:Nat),
  fd=PySem.W.fnOf x kg (vQ st) (qZ st) (kF st) (.ref T) kV doc pm an kn ct/\K.lookup f=some ⟨oc,od,.func fd,osl⟩/\PySem.W.codeIn K kn kg=true/\K.lookup T=some oT/\oT.data=.seq ds.toArray n
 kp:PySem.W.keepIn K (.ref f)=true
section
variable {P:Program} {w:World} {K:PySem.W.Frag} {mg:Str->Option Value} {base:Heap}
theorem FunD.ok {x O:Str} {st:Stmt} {f:Addr} {Y:FuncData} {ds:List Value} {N ps:List Str} {k:Nat} {sp:Sp} (F:FunD K x O st f Y ds) (S:FnScope N ps (kF st)) (G:∀vs H Q E,sp vs H Q E->vs.length=ps.length)
  (l:∀(D:Value) (A:Around) (outer:List Env) (s:Shared) (H:Hp) (vs:List V) (Q:VK) (E:XK),Room k (A.deeper (envOfC O (kF st) s.heap.objs.size f D))->sp vs H Q E->
   ∃t,PSs (qF jT P w K mg base N O (kF st) f D A outer s H E).nox (qZ st) t/\t {nx:=fun _ H'=>Q .non H',rt:=Q} (start N vs) H):FnOk P w K mg base jT (k+1) f Y ps sp:=by
 obtain ⟨oc,od,T,kV,Z,pm,an,D,ct,ah,oT,n,rfl,lk,J,_,_⟩:=F.ex;refine m6 lk J S G fun A outer s H vs Q E hr I=>?_
 obtain ⟨t,h,q⟩:=l D A outer s H vs Q E hr I;exact ⟨t,h.nox,q⟩
theorem FunD.binds {x S:Str} {st:Stmt} {f:Addr} {O:FuncData} {ds:List Value} {ps:List Str} (D:List Value) (m:Nat) (hm:m+D.length=ps.length) (F:FunD K x S st f O ds)
  (h:∀(T:Addr) (E l J:Value) (I:Option Addr) (G ct:Value) (us:List Value),us.length=m->∃k,bindArgs (PySem.W.fnOf x S (vQ st) (qZ st) (kF st) (.ref T) E l J I G ct) ⟨us,[]⟩=seqItems? (.ref T) >>= k/\
   k (some ds.toArray)=pure (ps.zip (us++D))):Binds K O ps D:=by
 obtain ⟨oc,od,T,E,l,J,I,G,ct,Y,oT,n,rfl,lk,ah,lT,Z⟩:=F.ex;intro s us V hl;obtain ⟨k,h1,h2⟩:=h T E l J I G ct us (by rw [ag] at hl;lia);exact BindsTo.of_defaults rfl (V _ _ lT) Z h1 h2
theorem VB {x F:Str} {st:Stmt} {f T:Addr} {V:Value} {S J:Option Addr} {D:Array (Option Value)} {G h O E ct:Value} {I:Obj} {n:Nat} {ds:List Value}
  (l:K.lookup f=some ⟨V,S,.func (PySem.W.fnOf x F (vQ st) (qZ st) (kF st) (.ref T) G h O J E ct),D⟩)
  (c:PySem.W.codeIn K E F=true) (k:PySem.W.keepIn K (.ref f)=true) (Y:K.lookup T=some I) (Z:I.data=.seq ds.toArray n):FunD K x F st f (PySem.W.fnOf x F (vQ st) (qZ st) (kF st) (.ref T) G h O J E ct) ds :=
 ⟨⟨V,S,T,G,h,O,J,E,ct,D,I,n,rfl,l,c,Y,Z⟩,k⟩
end
section
variable {X:Cx}
theorem uR:GU X (nH X.K):=by
 intro ke s Z H o i ov iv Q I ro ri h;obtain ⟨p,xs,k,z,rfl,rfl,hq,V,q⟩:=h;cases ro;obtain ⟨t,rfl⟩:=ri;obtain ⟨G,r,O,hz⟩:=I.list hq;obtain ⟨j,D,h2,h3,Y,h5⟩:=mE V;obtain ⟨w,S,E⟩:=r.get h2;have hl:=r.length;have hn:=cI;have l:EP X ke Z Q w s:=⟨z,H,I,E,q⟩
 by_cases J:0<=k
 ·have F:k.toNat=j:=by
   rw [seqIndex_of J h5] at D;exact ay D
  exact wpAny_getItem_list O.isList J (by lia) (by rw [F];simpa using S) l
 ·have F:(k+(G.toArray.size:Int)).toNat=j:=by
   rw [seqIndex_neg (by lia) Y] at D;rw [ao,<- hl];exact ay D
  exact wpAny_getItem_list_neg O.isList (by lia) (by rw [ao]<;>lia) (by lia) (by rw [F];simpa using S) l
end
end L2
namespace L2
open PySem
variable {c A B:Prop}
theorem bI [Decidable c] (l:¬c) (h:A):if (!decide c)=true then A else B:=by
 rw [aN l];exact qA h
theorem kE [Decidable c] (l:¬c) (h:B):if decide c=true then A else B:=by
 rw [aN l];exact qB h
theorem kY [Decidable c] (l:c) (h:A):if decide c=true then A else B:=by
 rw [bi l];exact qA h
end L2
namespace L2
open PySem PySem.Spec PyProof.Rows
structure MkD (P:Program) (w:World) (K:PySem.W.Frag) (mg:Str->Option Value) (base:Heap) (k:Nat) (x:Str) (C:Addr) (ps:List Str) (sp:Sp):Prop where
 ex:mg x=some (.ref C)/\∃(f:Addr) (fd:FuncData),Mk K C f/\FnOk P w K mg base jT k f fd ps sp/\Binds K fd ps []
structure MeD (P:Program) (w:World) (K:PySem.W.Frag) (mg:Str->Option Value) (base:Heap) (k:Nat) (C:Addr) (m:Str) (ps:List Str) (sp:Sp):Prop where
 ex:Cls K C/\∃(f:Addr) (fd:FuncData),Meth K C m f/\FnOk P w K mg base jT k f fd ps sp/\Binds K fd ps []
section
variable {X:Cx} {k k':Nat} {x m:Str} {C:Addr} {ps:List Str} {sp:Sp} {p ko ki:Pos} {o e:Expr} {es:List Expr} {ta:TE} {t:TA}
theorem cS (M:MkD X.prog X.w X.K X.mg X.base k x C ps sp) (E:Room k' X.A) (F:Gl X x) (D:PA X (e::es) t)
  (hk:k+1<=k':=by decide) (h:(x == ("__debug__":Str))=false:=by decide) (he:starEach (e::es) X.env=(false,eval e X.env)::starEach es X.env:=by rfl) (hpl:(backTo ko (starEach es X.env)).any (·.1)=false:=by rfl) :
  PE X (.Call (.Name x p) (e::es) [] ko) (FW C sp [] E0 t):=by
 obtain ⟨l,f,I,M,G,b⟩:=M.ex;exact UU M G (E.mono hk) F l b .nil eI D h he hpl
theorem bP {pl:Sem Bool} (M:MeD X.prog X.w X.K X.mg X.base k C m ps sp) (F:Room k' X.A) (D:PE X o ta) (E:PA X (e::es) t) (hk:k<=k':=by decide)
  (h:starEach (e::es) X.env=(false,eval e X.env)::starEach es X.env:=by rfl) (hpl:(backTo ko (starEach es X.env)).any (·.1)=false:=by rfl)
  (I:eval (.Call (.Attribute o m ki) (e::es) [] ko) X.env=(do
   let l <- eval o X.env
   standAt ki.atName
   let (f,first) <- holding [l] (getMethod l m pl)
   callWith ko f first (backTo ko (starEach (e::es) X.env)) (backToKw ko (keywordEach [] X.env))):=by rfl) :
  PE X (.Call (.Attribute o m ki) (e::es) [] ko) (mR C m sp [] E0 ta t):=by
 obtain ⟨c,f,J,M,G,b⟩:=M.ex;exact UT (pl:=pl) D c M G (F.mono hk) b .nil eI E h hpl I
theorem kL {pl:Sem Bool} (M:MeD X.prog X.w X.K X.mg X.base k C m ps sp) (D:Room k' X.A) (l:PE X o ta) (hk:k<=k':=by decide)
  (E:eval (.Call (.Attribute o m ki) [] [] ko) X.env=(do
   let h <- eval o X.env
   standAt ki.atName
   let (f,first) <- holding [h] (getMethod h m pl)
   callWith ko f first (backTo ko (starEach [] X.env)) (backToKw ko (keywordEach [] X.env))):=by rfl) :
  PE X (.Call (.Attribute o m ki) [] [] ko) (mR C m sp [] E0 ta bN):=by
 obtain ⟨c,f,F,M,G,b⟩:=M.ex;exact S3 (pl:=pl) l c M G (D.mono hk) b .nil eI E
end
structure ClsM (K:PySem.W.Frag) (C:Addr) (m:Str) (f:Addr):Prop where
 sp:PySem.W.specialIn K (.ref C) "__getattribute__"=some (some (.builtin "type.__getattribute__"))
 rd:PySem.W.readsIn K C (.type "type")=true
 fc:PySem.W.findCls K (.ref C) (.type "type") m=some (.val (.ref f))
 kp:PySem.W.keepIn K (.ref f)=true
structure CmD (P:Program) (w:World) (K:PySem.W.Frag) (mg:Str->Option Value) (base:Heap) (k:Nat) (x:Str) (C:Addr) (m:Str) (ps:List Str) (sp:Sp):Prop where
 ex:mg x=some (.ref C)/\∃(f:Addr) (fd:FuncData),ClsM K C m f/\FnOk P w K mg base jT k f fd ps sp/\Binds K fd ps []
theorem EL {X:Cx} {k k':Nat} {x m:Str} {C:Addr} {ps:List Str} {sp:Sp} {p l E:Pos} {e:Expr} {D:List Expr} {t:TA} {pl:Sem Bool} (M:CmD X.prog X.w X.K X.mg X.base k x C m ps sp) (hr:Room k' X.A) (hg:Gl X x) (ha:PA X (e::D) t) (hk:k<=k':=by decide)
  (O:(x == ("__debug__":Str))=false:=by decide) (S:starEach (e::D) X.env=(false,eval e X.env)::starEach D X.env:=by rfl) (hpl:(backTo l (starEach D X.env)).any (·.1)=false:=by rfl)
  (ht:eval (.Call (.Attribute (.Name x p) m E) (e::D) [] l) X.env=(do
   let Y <- eval (.Name x p) X.env
   standAt E.atName
   let (f,first) <- holding [Y] (getMethod Y m pl)
   callWith l f first (backTo l (starEach (e::D) X.env)) (backToKw l (keywordEach [] X.env))):=by rfl) :
  PE X (.Call (.Attribute (.Name x p) m E) (e::D) [] l) (wW sp [] E0 t):=by
 obtain ⟨hm,f,fd,c,G,b⟩:=M.ex;intro Z s V H Q I h;refine eo (pl:=pl) (jZ ((zI (v:=.ref C) hg hm rfl O:PE X (.Name x p) (tC (.ref C))) Z s V H (fun v F=>v=.ref C/\F=H) I ⟨rfl,rfl⟩) fun u s1 ⟨v,F,J,rv,e1,e2⟩=>?_) ht;subst e1 e2;obtain rfl:u=Value.ref C:=rv;refine PySem.W.method_cls J.kIn c.sp (PySem.W.cls_value J.kIn c.rd c.fc rfl ?_);have I2:=J.tok (s1.toks+1);refine cx (first:=[]) (h₀:=X.base) I.ok.mod.kin c.kp (jZ (ha l Z _ V F _ I2 h) fun us s2 ⟨vs,H2,I3,r,q2⟩=>⟨I3.kIn,?_⟩) S hpl;exact gD (us:=us) (vs:=vs) G (hr.mono hk) b .nil eI I3 r q2
section
variable {X:Cx}
theorem OE {l:List Int} {its:List Value} (D:Vals (l.map V.int) its) {i:Nat} {v:Value} (h:its.toArray[i]?=some v):∃t,v=Value.int (l.getD i 0) t:=by
 have E:its[i]?=some v:=by simpa using h
 have G:i<its.length:=(ae.mp E).1;have F:i<l.length:=by have:=D.length;rw [ac] at this;lia
 obtain ⟨u,e,q⟩:=D.get (x:=V.int (l.getD i 0)) (i:=i) (by rw [ar,aa F,af,aa F];rfl);rw [E] at e;cases e;exact q
theorem O5 {bs:List Bool} {its:List Value} (l:Vals (bs.map V.bl) its) {i:Nat} {v:Value} (h:its.toArray[i]?=some v):v=Value.bool (bs.getD i true):=by
 have D:its[i]?=some v:=by simpa using h
 have F:i<its.length:=(ae.mp D).1;have E:i<bs.length:=by have:=l.length;rw [ac] at this;lia
 obtain ⟨u,e,q⟩:=l.get (x:=V.bl (bs.getD i true)) (i:=i) (by rw [ar,aa E,af,aa E];rfl);rw [D] at e;cases e;exact q
theorem NY (bs:List Bool):(List.range bs.length).all (fun i=>bs.getD i true)=bs.all id:=by
 rw [ic,dm,dm];constructor
 ·intro h x E;obtain ⟨i,D,e⟩:=List.mem_iff_getElem.mp E;have:=h i (by simpa using D);rw [af,aa D,e] at this;exact this
 ·intro h i D;have l:i<bs.length:=by simpa using D
  rw [af,aa l];exact h _ (gv l)
theorem CU (hc:X.calm=true):yK X (.builtin "sum") (fun xs H Q=>∃(p:Addr) (D:List Int),xs=[.ref p]/\SqL X.K H p (D.map V.int)/\Q (.int D.sum) H):=by
 intro ke s σ H xs us Q I r h;obtain ⟨p,D,rfl,hq,q⟩:=h;obtain ⟨u,rfl,rx⟩:=ZK r;cases rx;obtain ⟨E,rv,O,hz⟩:=I.list hq;have l:=rv.length;rw [ac] at l;have Z:p<s.heap.objs.size:=by obtain ⟨o,n,e,_⟩:=O;exact aq e
 refine call_sum_walkAnyS (gh O.isList ?_);refine ⟨s.heap.objs.size,_,_,_,_,_,_,fun i=>D.getD i 0,rfl,(Walks.list (A:=X.A.in1) (I.ok.hd hc) s.heap.objs.size p (aQ Z) E.toArray).toS,⟨⟨_,aw _ rfl,rfl,rfl⟩,O.isList.at fun o e=>ai _ e⟩,fun b J=>?_,fun i v h=>OE rv h,fun s' t' m=>?_⟩
 ·rw [du]
  rcases aj.mp J with e|e
  ·rw [e];exact ir _
  ·have F:b=p:=by simpa using e
   rw [F];exact Nat.lt_succ_of_lt Z
 ·obtain ⟨hh,g,d,t,os⟩:=s';obtain ⟨m1,m2,m3,m4,m5⟩:=m;have Y:g=s.gens:=m2;have S:d=s.drawn:=m3;have G:os=s.os:=m4;subst Y S G;have e:preSum (fun i=>D.getD i 0) E.toArray.size=D.sum:=by rw [preSum_getD,ao,<- l,aZ]
  rw [e];refine ⟨.int D.sum,H,I.kept (t':=t) fun b o e=>m1 b o (fun J=>?_) (ai _ e),⟨_,rfl⟩,q⟩;have F:b=s.heap.objs.size:=by simpa using J
  exact absurd (aq e) (by rw [F];exact bz _)
theorem CW (Z:X.calm=true):yK X (.builtin "all") (fun xs H Q=>∃(p:Addr) (bs:List Bool),xs=[.ref p]/\SqL X.K H p (bs.map V.bl)/\Q (.bl (bs.all id)) H):=by
 intro ke s σ H xs us Q I r h;obtain ⟨p,bs,rfl,S,q⟩:=h;obtain ⟨u,rfl,rx⟩:=ZK r;cases rx;obtain ⟨E,F,D,hz⟩:=I.list S;have l:=F.length;rw [ac] at l;have hp:p<s.heap.objs.size:=by obtain ⟨o,n,e,_⟩:=D;exact aq e
 refine call_all_walk (gh D.isList ?_);refine ⟨s.heap.objs.size,_,_,_,_,_,fun i=>bs.getD i true,rfl,Walks.list (A:=X.A.in1) (I.ok.hd Z) s.heap.objs.size p (aQ hp) E.toArray,⟨⟨_,aw _ rfl,rfl,rfl⟩,D.isList.at fun o e=>ai _ e⟩,fun i v s' Q' E' h G=>?_,fun h' tk J=>?_⟩
 ·rw [O5 F h];exact dv G
 ·rw [ao,<- l,NY];refine ⟨.bl (bs.all id),H,I.kept (t':=tk) fun b o e=>J b o (fun Y=>?_) (ai _ e),rfl,q⟩;have O:b=s.heap.objs.size:=by simpa using Y
  exact absurd (aq e) (by rw [O];exact bz _)
end
def xN (p:Addr) (a b c:Int):HO:=.ext fun h=>∃t u v,IsRange h p a b c t u v
section
variable {X:Cx}
theorem OY:yK X (.type "range") (fun xs H Q=>∃a b c:Int,xs=[.int a,.int b,.int c]/\c≠0/\c.natAbs<1073741824/\∀p,H p=none->Q (.ref p) (upd H p (xN p a b c))):=by
 intro ke s V H xs Z Q I r h;obtain ⟨a,b,c,rfl,G,F,q⟩:=h;cases r with
 |cons l E =>
  cases E with
  |cons D O =>
   cases O with
   |cons S J =>
    cases J;obtain ⟨t,rfl⟩:=l;obtain ⟨u,rfl⟩:=D;obtain ⟨v,rfl⟩:=S;refine call_range_3 G ?_ (.inl (PyProof.noPylong_small F));refine ⟨.ref s.heap.objs.size,_,I.laid (t':=s.toks) (o:=xN s.heap.objs.size a b c) (fun b o e=>ai _ e) (ak _) ?_,rfl,q _ (I.hok.fresh (ak _))⟩;exact ⟨⟨t,u,v,aw _ rfl⟩,⟨_,aw _ rfl⟩,fun h1 Y ⟨t,u,v,e⟩ k=>⟨t,u,v,k _ e⟩⟩
theorem AQ {f:Nat->Int}:∀{n:Nat} {l:List Value},l.length=n->(∀i v,l[i]?=some v->∃t,v=Value.int (f i) t)->Vals ((List.range n).map fun (i:Nat)=>V.int (f i)) l
 |0,l,F,h=>by
  cases l with
  |nil=>exact .nil
  |cons x r=>cases F
 |n+1,l,F,h=>by
  obtain ⟨D,E,rfl⟩:∃D E,l=D++[E]:=by
   have G:l≠[]:=by intro e;rw [e] at F;cases F
   exact ⟨l.dropLast,l.getLast G,(List.dropLast_concat_getLast G).symm⟩
  rw [ag,ax] at F;have I:D.length=n:=by lia
  rw [iz,aK];refine Vals.append (AQ I fun i v e=>h i v ?_) (.cons ?_ .nil)
  ·rw [aG (ae.mp e).1];exact e
  ·exact h n E (by rw [aA (by lia),I,io];rfl)
theorem N5 (S:X.calm=true):yK X (.type "list") (fun xs H Q=>∃(p:Addr) (a b c:Int) (n:Nat),xs=[.ref p]/\H p=some (xN p a b c)/\Builtin.Range.small a b c=true/\Builtin.Range.rangeSize a b c=n/\n<=1000/\
  ∀l,H l=none->Q (.ref l) (upd H l (.lst ((List.range n).map fun (i:Nat)=>V.int (a+(i:Int)*c))))):=by
 intro ke s σ H xs us Q I r h;obtain ⟨p,a,b,c,n,rfl,Y,G,hn,hz,q⟩:=h;obtain ⟨u,rfl,Z⟩:=ZK r;cases Z;obtain ⟨⟨t,u,v,e⟩,_,_⟩:=I.hok p _ Y;refine call_list_range (I.ok.hd S) e G hn (by lia) fun h' tk D O J F E=>?_
 have hl:D.toList.length=n:=by have:=E.1;simpa using this
 refine ⟨.ref s.heap.objs.size,_,I.laid (t':=tk) (o:=.lst ((List.range n).map fun (i:Nat)=>V.int (a+(i:Int)*c))) J (ak _) ?_,rfl,q _ (I.hok.fresh (ak _))⟩;refine ⟨by rw [ac,bw];exact il (qX hz),D.toList,O,AQ hl fun i v e=>E.2 i v (by simpa using e),by simpa using F⟩
end
def zW (n:Nat):List Nat:=(List.range n).reverse
theorem P8 (n:Nat):((List.range n).map fun (i:Nat)=>V.int (((n:Int) - 1)+(i:Int) * -1))=(zW n).map fun (i:Nat)=>V.int (i:Int):=by
 apply List.ext_getElem?;intro k;unfold zW;rw [ar,ar]
 by_cases h:k<n
 ·rw [cp h,List.getElem?_reverse (by simpa using h),bw,cp (by lia)];show some (V.int ((n:Int) - 1+(k:Int) * -1))=some (V.int ((n - 1 - k:Nat):Int))
  congr 2
  lia
 ·rw [cr (by simp;lia),cr (by simp;lia)];rfl
theorem CS (n:Nat):Builtin.Range.rangeSize ((n:Int) - 1) (-1) (-1)=n:=by
 unfold Builtin.Range.rangeSize;rw [if_neg (by decide)]
 by_cases h:(n:Int) - 1 > -1
 ·rw [if_pos h];have e:((n:Int) - 1 - -1 - 1) / (- (-1:Int))=(n:Int) - 1:=by
   have l:(-(-1:Int))=1:=rfl;rw [l,Int.ediv_one]
   lia
  rw [e]
  lia
 ·rw [if_neg h]
  lia
theorem P9 {n:Nat} (h:n<=1000):Builtin.Range.small ((n:Int) - 1) (-1) (-1)=true:=by
 unfold Builtin.Range.small;rw [CS];simp only [Builtin.Range.rangeFitsLong,ei,Bool.or_eq_true,fm,hU];simp
 lia
def YD (M:Model) (D:PySem.Ctx) (p:Pos) (s:Shared) (e:PySem.End) (E:Shared) (t:Sem PySem.Fin):List PySem.Frame->Prop
 |[]=>match t with
  |.pure (.done f)=>e=.ret (.ok f)/\E=s
  |.pure (.again c)=>Runs M (D.goto c) p (M.den c) [] s e E
  |.raise x=>e=.ret (.error x)/\E=s
  |.yield v g l k=>e=.susp v g l k D.code p []/\E=s
  |.call c h g l k=>∃e1 Z,Runs M (D.enter c h p) p (M.den c) [] s e1 Z/\match e1 with
   |.ret r=>Runs M D p (k r) [] Z e E
   |.susp v S J Y V O fs=>e=.susp v S J Y V O (fs++[.ret k h g l D.code p []])/\E=Z
  |.resume g r _ k=>∃x Z,Wakes M D p g r s x Z/\Runs M D p (k x) [] Z e E
  |.rule _ k=>Runs M D p (k ()) [] s e E
  |.at p' k=>Runs M D p' (k ()) [] s e E
  |.load a _ k=>∃o,s.heap.get? a=some o/\Runs M D p (k o) [] s e E
  |.update a _ f k=>Runs M D p (k ()) [] {s with heap:=s.heap.update a f} e E
  |.loadIfAlive a k=>Runs M D p (k (s.heap.get? a)) [] s e E
  |.point _ k=>Runs M D p (k ()) [] s e E
  |.alloc o k=>Runs M D p (k s.heap.objs.size) [] {s with heap:=s.heap.push o} e E
  |.fresh k=>Runs M D p (k s.toks) [] {s with toks:=s.toks+1} e E
  |.ask k=>Runs M D p (k ⟨M.prog,M.w.params⟩) [] s e E
  |.choose am n k=>Runs M D p (k (M.w.draws am (s.drawn.get am)%n)) [] {s with drawn:=s.drawn.bump am} e E
  |.os q _ k=>Runs M D p (k (Os.step s.os q).2) [] {s with os:=(Os.step s.os q).1} e E
  |.handled ap k=>Runs M D p (k (if ap then D.own else D.handled)) [] s e E
  |.genState g k=>∃st,s.gens[g]?=some st/\Runs M D p (k st.seen) [] s e E
  |.stack k=>Runs M D p (k ((D.code,p)::D.below)) [] s e E
  |.thread k=>Runs M D p (k 0) [] s e E
  |.newGen c k=>Runs M D p (k s.gens.size) [] {s with gens:=s.gens.push (.fresh c)} e E
  |_=>False
 |F::fs=>∃e1 Z,Runs M (D.over (F::fs)) p t [] s e1 Z/\match e1 with
  |.ret r=>(match F with
   |.ret k _ _ _ I G _=>Runs M (D.goto I) G (k r) fs Z e E
   |.gen g k _ I G=>Runs M (D.goto I) G (k (End.ret r).result) fs (Z.setGen g .finished) e E)
  |.susp v S J Y V O ah=>match splitAtGen (F::fs) with
   |none=>e=.susp v S J Y V O (ah++F::fs)/\E=Z
   |some (aD,(g,k,I,G),an)=>Runs M (D.goto I) G (k (.yielded v)) an (Z.setGen g (End.susp v S J Y V O (ah++aD)).genState) e E
variable {M:Model} {Γ:PySem.Ctx} {p:Pos} {s:Shared}
theorem qT {t:Sem PySem.Fin} {F:List PySem.Frame} {E:Shared} {e:PySem.End} (h:Runs M Γ p t F s e E):YD M Γ p s e E t F:=by
 cases h with
 |done=>exact ⟨rfl,rfl⟩
 |raise=>exact ⟨rfl,rfl⟩
 |yield=>exact ⟨rfl,rfl⟩
 |again _ h=>exact h
 |load a h=>exact ⟨_,a,h⟩
 |genState a h=>exact ⟨_,a,h⟩
 |update _ h=>exact h
 |choose _ h=>exact h
 |call l D=>exact ⟨_,_,l,D⟩
 |callSusp l=>exact ⟨_,_,l,rfl,rfl⟩
 |segRet l D=>exact ⟨_,_,l,D⟩
 |segGen l D=>exact ⟨_,_,l,D⟩
 |segSuspOut a l=>exact ⟨_,_,l,by simp [a]⟩
 |segSuspGen a l _ D=>exact ⟨_,_,l,by simp only [a];exact D⟩
 |resumeFresh a l b D=>exact ⟨_,_,by unfold Wakes;simp only [a];exact ⟨_,_,l,b,rfl,rfl⟩,D⟩
 |resumeSuspended a l b D=>exact ⟨_,_,by unfold Wakes;simp only [a];exact ⟨_,_,l,b,rfl,rfl⟩,D⟩
 |resumeJustStarted a b h =>
  refine ⟨_,_,?_,h⟩;unfold Wakes;simp only [a];exact ⟨trivial,trivial⟩
 |resumeThrowFresh a h=>exact ⟨_,_,by simp [Wakes,a],h⟩
 |resumeRunning a h=>exact ⟨_,_,by simp [Wakes,a],h⟩
 |resumeFinished a h=>exact ⟨_,_,by simp [Wakes,a],h⟩
 |rule h=>exact h
 |«at» h=>exact h
 |loadIfAlive h=>exact h
 |point h=>exact h
 |alloc h=>exact h
 |fresh h=>exact h
 |ask h=>exact h
 |os h=>exact h
 |handled h=>exact h
 |stack h=>exact h
 |thread h=>exact h
 |newGen h=>exact h
theorem uO {t:Sem PySem.Fin} {S:List PySem.Frame} {I:Shared} {G:PySem.End} (h:Runs M Γ p t S s G I):∀O J,Runs M Γ p t S s O J->O=G/\J=I:=by
 induction h with
 |done=>exact fun _ _ l=>qT l
 |raise=>exact fun _ _ l=>qT l
 |yield=>exact fun _ _ l=>qT l
 |again _ _ D=>exact fun _ _ l=>D _ _ (qT l)
 |load a _ D=>exact fun _ _ l=>by obtain ⟨o,b,r⟩:=qT l;rw [a] at b;cases b;exact D _ _ r
 |genState a _ D=>exact fun _ _ l=>by obtain ⟨o,b,r⟩:=qT l;rw [a] at b;cases b;exact D _ _ r
 |update _ _ D=>exact fun _ _ l=>D _ _ (qT l)
 |choose _ _ D=>exact fun _ _ l=>D _ _ (qT l)
 |call _ _ F E =>
   intro _ _ l;obtain ⟨e,s,r,q⟩:=qT l;obtain ⟨rfl,rfl⟩:=F _ _ r;exact E _ _ q
 |callSusp _ D =>
   intro _ _ l;obtain ⟨e,s,r,q⟩:=qT l;obtain ⟨rfl,rfl⟩:=D _ _ r;exact q
 |segRet _ _ F E =>
   intro _ _ l;obtain ⟨e,s,r,q⟩:=qT l;obtain ⟨rfl,rfl⟩:=F _ _ r;exact E _ _ q
 |segGen _ _ F E =>
   intro _ _ l;obtain ⟨e,s,r,q⟩:=qT l;obtain ⟨rfl,rfl⟩:=F _ _ r;exact E _ _ q
 |segSuspOut a _ D =>
   intro _ _ l;obtain ⟨e,s,r,q⟩:=qT l;obtain ⟨rfl,rfl⟩:=D _ _ r;simp only [a] at q;exact q
 |segSuspGen a _ _ _ F E =>
   intro _ _ l;obtain ⟨e,s,r,q⟩:=qT l;obtain ⟨rfl,rfl⟩:=F _ _ r;simp only [a] at q;exact E _ _ q
 |resumeFresh a _ _ _ F E =>
   intro _ _ l;obtain ⟨x,s,w,r⟩:=qT l;unfold Wakes at w;simp only [a] at w;obtain ⟨e,s,w,_,rfl,rfl⟩:=w;obtain ⟨rfl,rfl⟩:=F _ _ w;exact E _ _ r
 |resumeSuspended a _ _ _ F E =>
   intro _ _ l;obtain ⟨x,s,w,r⟩:=qT l;unfold Wakes at w;simp only [a] at w;obtain ⟨e,s,w,_,rfl,rfl⟩:=w;obtain ⟨rfl,rfl⟩:=F _ _ w;exact E _ _ r
 |resumeJustStarted a b _ D =>
   intro _ _ l;obtain ⟨x,s,w,r⟩:=qT l;unfold Wakes at w;simp only [a] at w;obtain ⟨rfl,rfl⟩:=w;exact D _ _ r
 |resumeThrowFresh a _ D =>
   intro _ _ l;obtain ⟨x,s,w,r⟩:=qT l;unfold Wakes at w;simp only [a] at w;obtain ⟨rfl,rfl⟩:=w;exact D _ _ r
 |resumeRunning a _ D =>
   intro _ _ l;obtain ⟨x,s,w,r⟩:=qT l;unfold Wakes at w;simp only [a] at w;obtain ⟨rfl,rfl⟩:=w;exact D _ _ r
 |resumeFinished a _ D =>
   intro _ _ l;obtain ⟨x,s,w,r⟩:=qT l;unfold Wakes at w;simp only [a] at w;obtain ⟨rfl,rfl⟩:=w;exact D _ _ r
 |rule _ D=>exact fun _ _ l=>D _ _ (qT l)
 |«at» _ D=>exact fun _ _ l=>D _ _ (qT l)
 |loadIfAlive _ D=>exact fun _ _ l=>D _ _ (qT l)
 |point _ D=>exact fun _ _ l=>D _ _ (qT l)
 |alloc _ D=>exact fun _ _ l=>D _ _ (qT l)
 |fresh _ D=>exact fun _ _ l=>D _ _ (qT l)
 |ask _ D=>exact fun _ _ l=>D _ _ (qT l)
 |os _ D=>exact fun _ _ l=>D _ _ (qT l)
 |handled _ D=>exact fun _ _ l=>D _ _ (qT l)
 |stack _ D=>exact fun _ _ l=>D _ _ (qT l)
 |thread _ D=>exact fun _ _ l=>D _ _ (qT l)
 |newGen _ D=>exact fun _ _ l=>D _ _ (qT l)
theorem RI {g:Nat} {r:Resume} {E G:Shared} {F I:GenResult} (l:Wakes M Γ p g r s F E) (h:Wakes M Γ p g r s I G):I=F/\G=E:=by
 unfold Wakes at l h
 split at l
 ·exact l.elim
 ·split at l
  ·obtain ⟨a,b,c,_,rfl,rfl⟩:=l;simp only [*] at h;obtain ⟨O,J,D,_,rfl,rfl⟩:=h;obtain ⟨rfl,rfl⟩:=uO c _ _ D;exact ⟨rfl,rfl⟩
  ·obtain ⟨rfl,rfl⟩:=l;simp only [*] at h;exact h
  ·obtain ⟨rfl,rfl⟩:=l;simp only [*] at h;exact h
 ·obtain ⟨a,b,c,_,rfl,rfl⟩:=l;simp only [*] at h;obtain ⟨O,J,D,_,rfl,rfl⟩:=h;obtain ⟨rfl,rfl⟩:=uO c _ _ D;exact ⟨rfl,rfl⟩
 ·obtain ⟨rfl,rfl⟩:=l;simp only [*] at h;exact h
 ·obtain ⟨rfl,rfl⟩:=l;simp only [*] at h;exact h
theorem UC {Y:Type} {S V:Y->Pos->Shared->Prop} {E1 Z:Value->Pos->Shared->Prop} (t:Sem Y):∀{p:Pos} {s:Shared},Sem.wp M Γ t S E1 p s->Sem.wp M Γ t V Z p s->Sem.wp M Γ t (fun a p s=>S a p s/\V a p s) (fun a p s=>E1 a p s/\Z a p s) p s:=by
 induction t with
 |pure a=>intro p s D E;exact ⟨D,E⟩
 |raise a=>intro p s D E;exact ⟨D,E⟩
 |call c h g l k F =>
  intro p s D E;obtain ⟨r,O,a,b⟩:=D;obtain ⟨r',J,G,I⟩:=E;obtain ⟨e1,e2⟩:=uO a _ _ G;cases e1;cases e2
  exact ⟨r,O,a,F _ b I⟩
 |resume g r l k F =>
  intro p s D E;obtain ⟨x,O,a,b⟩:=D;obtain ⟨x',J,G,I⟩:=E;obtain ⟨rfl,rfl⟩:=RI a G;exact ⟨_,_,a,F _ b I⟩
 |load a _ k F =>
  intro p s D E;obtain ⟨o,a,b⟩:=D;obtain ⟨o',G,I⟩:=E;rw [a] at G;cases G
  exact ⟨_,a,F _ b I⟩
 |genState g k F =>
  intro p s D E;obtain ⟨o,a,b⟩:=D;obtain ⟨o',G,I⟩:=E;rw [a] at G;cases G
  exact ⟨_,a,F _ b I⟩
 |update a _ f k F=>intro p s D E;exact ⟨D.1,F _ D.2 E.2⟩
 |choose a b k F=>intro p s D E;exact ⟨D.1,F _ D.2 E.2⟩
 |_=>first|(intro p s D E;exact D.elim)|(rename_i F;intro p s D E;exact F _ D E)
theorem O0 {A:Around} {D:Type} {t:Sem D} {l F:D->Shared->Prop} {G E:Value->Shared->Prop} (J:wpAny M A t l G s) (I:wpAny M A t F E s):wpAny M A t (fun a s=>l a s/\F a s) (fun a s=>G a s/\E a s) s:=fun Γ p h=>UC t (J Γ p h) (I Γ p h)
end L2
namespace L2
open PySem PySem.Spec PyProof.Rows
def JW (h:Heap) (e:Addr):Prop:=∃o l,h.get? e=some o/\o.data=.fields l/\l[2]?=some .none
def Ctx1 (h:Heap) (e T:Addr):Prop:=(∃o l,h.get? e=some o/\o.data=.fields l/\l[2]?=some .none/\l[1]?=some (.ref T))/\T≠e/\∃o D,h.get? T=some o/\o.data=.fields D/\3<D.size
theorem Ctx1.to {h:Heap} {e T:Addr} (x:Ctx1 h e T):JW h e:=by
 obtain ⟨⟨o,l,a,b,c,_⟩,_⟩:=x;exact ⟨o,l,a,b,c⟩
section
variable {M:Model} {A:Around} {E:Value->Shared->Prop} {s:Shared}
theorem lV {e T:Addr} {f:Option Addr} {Q:Unit->Shared->Prop} (x:Ctx1 s.heap e T) (h:∀h',Ctx1 h' e T->Q () {s with heap:=h'}):wpAny M A (setFlight (.ref e) f) Q E s:=by
 obtain ⟨⟨o,G,a,b,c,d⟩,n,I,J,D,l,F⟩:=x;unfold setFlight;refine ad (bc a b d ?_);rw [if_pos (by simp)];refine ff D l F (h _ ⟨⟨o,G,(aY _ _ n).trans a,b,c,d⟩,n,_,_,bx _ D (cc (aP l _)),aP l _,by simp [F]⟩)
theorem EU {base:Heap} {l:Env} {outer:List Env} {L e:Addr} {D:Value} {I:Bool} {Q:Unit->Shared->Prop} (O:A.frames=some (l::outer)) (hl:s.heap.FunFrames base (l::outer)) (hf:l.frame=some L) (hc:JW s.heap e)
  (h:∀h' T,Ctx1 h' e T->Q () {s with heap:=h'}):wpAny M A (do
   let a <- frameOf l
   let pl <- entryPlaceOf L I
   let b <- EntryCells.newEntry D a .none (rawInt L) .none pl
   setField (.ref e) 1 b) Q E s:=by
 obtain ⟨o,vs,V,F,Z⟩:=hc;have J:e∉(l::outer).filterMap (·.frame):=fun z=>by
  obtain ⟨_,o',q,nf⟩:=hl.mem z;rw [V] at q;cases q
  exact nf vs F
 refine ad (wpAny_frameOf_fun O hl hf fun G k1=>?_);refine ad (wpAny_entryPlaceOf fun pl hp=>?_);unfold EntryCells.newEntry newFields;refine ad (gr ?_ (hp.sizeOk5 _ _ _ _ _));have S:G.get? e=some o:=(k1.2.1 e J).trans V;have ah:2<vs.size:=(bo.mp Z).1;have Y:G.objs.size≠e:=ek (aq S);refine ff (ai _ S) F (by lia) (h _ G.objs.size ⟨⟨_,_,bx _ (ai _ S) (cc (aP F _)),aP F _,?_,?_⟩,Y,_,_,(aY _ _ (Ne.symm Y)).trans (aw G rfl),rfl,?_⟩)
 ·rw [Array.getElem?_setIfInBounds_ne (by decide)];exact Z
 ·rw [Array.getElem?_setIfInBounds_self];simp;lia
 ·simp only [ao,ag,ck,List.length_nil];lia
theorem wQ {base:Heap} {l:Env} {outer:List Env} {L e T:Addr} {Q:Unit->Shared->Prop} (I:A.frames=some (l::outer)) (hl:s.heap.FunFrames base (l::outer)) (J:l.frame=some L) (S:Ctx1 s.heap e T)
  (h:∀h' T,Ctx1 h' e T->Q () {s with heap:=h'}):wpAny M A (noteFrame (.ref e) l) Q E s:=by
 have D:=S;obtain ⟨⟨o,Z,a,b,c,d⟩,n,oT,V,G,F,O⟩:=S;unfold noteFrame;simp only [J];refine ad (bc a b d ?_);rw [if_pos (by simp)];obtain ⟨y,hy⟩:∃y,V[3]?=some y:=⟨_,fg O⟩;refine ad (bc G F hy ?_)
 split
 ·exact aJ (h _ T D)
 refine ad (ff G F O ?_);refine EU I (hl.of_keeps fun b' o' q Y=>?_) J ⟨o,Z,(aY _ _ n).trans a,b,c⟩ h
 by_cases z:T=b'
 ·subst z;rw [G] at q;cases q
  exact absurd F (Y _)
 ·exact ⟨o',(aY _ _ z).trans q,rfl⟩
theorem CJ {base:Heap} {l:Env} {outer:List Env} {L e T:Addr} {Q:Unit->Shared->Prop} (D:A.frames=some (l::outer)) (I:s.heap.FunFrames base (l::outer)) (J:l.frame=some L) (S:Ctx1 s.heap e T)
  (h:∀h' T,Ctx1 h' e T->Q () {s with heap:=h'}):wpAny M A (leaving l (.ref e)) Q E s:=by
 unfold leaving;exact ad (wQ D I J S fun Y O V=>lV V fun G F=>h G O F)
theorem PZ {base I:Heap} {l:Env} {outer:List Env} {L e:Addr} {cls:Value} {us:List Value} {Q:Unit->Shared->Prop} (D:A.frames=some (l::outer)) (V:I.FunFrames base (l::outer)) (J:l.frame=some L) (F:Heap.MadeExcOf I s.heap e cls us)
  (h:∀h' T,Ctx1 h' e T->Q () {s with heap:=h'}):wpAny M A (leaving l (.ref e)) Q E s:=by
 obtain ⟨t,G,_,_⟩:=F.there;unfold leaving noteFrame;simp only [J];refine ad (ad (bc G rfl (x:=.none) rfl ?_));rw [if_neg (by decide)];exact EU D (V.of_keeps fun b o q _=>⟨o,F.keeps b o q,rfl⟩) J ⟨_,_,G,rfl,rfl⟩ fun h1 Y Z=>lV Z fun S O=>h S Y O
theorem wF {B h:Heap} {l:List Env} {e:Addr} {cls a0:Value} (f:Heap.FlyingW B l e cls a0 h) (c:JW h e):∃T,Ctx1 h e T:=by
 obtain ⟨_,_,_,S,I,T,J,V,F,_,G,O,_,n,Z,D,Y⟩:=f;obtain ⟨o,us,a,b,c⟩:=c;rw [F] at a;cases a
 rw [G] at b;cases b
 exact ⟨T,⟨S,I,F,G,c,O⟩,n,J,V,Z,D,(bo.mp Y).1⟩
theorem b6 {t:Sem Unit} {P R:Heap->Prop} {Q:Unit->Shared->Prop} (F:∀Q:Unit->Shared->Prop,(∀h',P h'->Q () {s with heap:=h'})->wpAny M A t Q E s) (h:∀Q:Unit->Shared->Prop,(∀h',R h'->Q () {s with heap:=h'})->wpAny M A t Q E s)
  (q:∀h',P h'->R h'->Q () {s with heap:=h'}):wpAny M A t Q E s:=by
 refine bn (O0 (F (fun _ z=>∃h',z={s with heap:=h'}/\P h') fun h' p=>⟨h',rfl,p⟩) (h (fun _ z=>∃h',z={s with heap:=h'}/\R h') fun h' p=>⟨h',rfl,p⟩)) (fun _ z y=>?_) fun _ _ y=>y.1
 obtain ⟨⟨h',l,p⟩,h,D,r⟩:=y;rw [l] at D;obtain rfl:h'=h:=cf Shared.heap D;rw [l];exact q h' p r
end
section
variable {P:Program} {w:World} {H:Hp} {h h':Heap} {a:Addr} {o:HO}
theorem ObjOk.there (x:ObjOk P w H h a o):∃u,h.get? a=some u:=by
 cases o with
 |lst l=>obtain ⟨_,_,_,_,e⟩:=x;exact ⟨_,e⟩
 |tup l=>obtain ⟨_,_,_,o,e,_⟩:=x;exact ⟨_,e⟩
 |dK D=>obtain ⟨_,_,_,_,o,_,_,e,_⟩:=x;exact ⟨_,e⟩
 |dT D=>obtain ⟨_,_,_,_,o,_,_,e,_⟩:=x;exact ⟨_,e⟩
 |set S n=>obtain ⟨o,_,_,_,e,_⟩:=x;exact ⟨_,e⟩
 |ins C J E=>obtain ⟨_,_,_,e,_⟩:=x;exact ⟨_,e⟩
 |own y=>obtain ⟨_,e⟩:=x;exact ⟨_,e⟩
 |xd E=>obtain ⟨_,⟨_,_,_,e,_⟩,_⟩:=x;exact ⟨_,e⟩
 |rng O I=>obtain ⟨_,_,_,e⟩:=x;exact ⟨_,e⟩
 |frz G u=>obtain ⟨e,_⟩:=x;exact ⟨_,e⟩
 |tbl F=>exact ⟨_,(show h.get? a=some _ from x)⟩
 |met f y=>exact ⟨_,(show h.get? a=some _ from x)⟩
 |ext V=>obtain ⟨_,e,_⟩:=x;exact e
theorem HOk.there (x:HOk P w H h) (e:H a=some o):∃u,h.get? a=some u:=(x a o e).there
theorem HOk.keepT (x:HOk P w H h) (k:∀b u,H b≠none->h.get? b=some u->h'.get? b=some u):HOk P w H h':=fun a o e =>
 (x a o e).stay (fun b u l q=>k b u (by
  rcases l with rfl|l
  ·rw [e];exact fun z=>nomatch z
  ·rw [l];exact fun z=>nomatch z) q) (fun _ q=>q) fun _ _ q=>q
end
variable {H:Hp}
theorem Un.go {E O:List Addr} {S:Hp} {F h h':Heap} (u:Un E O H S F h) (k:∀b o,h.get? b=some o->b∉E->b∉O->(∃o',F.get? b=some o')->h'.get? b=some o)
  (V:∀b o,h.get? b=some o->b∈E->(∃o',F.get? b=some o')->∃J,h'.get? b=some {o with slots:=J}):Un E O H S F h' where
 keep:=fun b o q n l D=>k b o (u.keep b o q n l D) l D ⟨o,q⟩
 slot:=fun b o q n l D=>by
  obtain ⟨J,e⟩:=u.slot b o q n l D;obtain ⟨I,G⟩:=V b _ e l ⟨o,q⟩;exact ⟨I,G⟩
 free:=u.free
 there:=fun b o q D=>by
  obtain ⟨o',e⟩:=u.there b o q D
  by_cases l:b∈E
  ·obtain ⟨J,G⟩:=V b o' e l ⟨o,q⟩;exact ⟨_,G⟩
  ·exact ⟨o',k b o' e l D ⟨o,q⟩⟩
 tups:=u.tups
 frzs:=u.frzs
 tbls:=u.tbls
def x8 (l:List Env) (Z:Addr->Prop) (h:Heap) (a C:Addr):Prop :=
 ∃(B:Heap) (D:Value),Heap.FlyingW B l a (.ref C) D h/\∀b o,h.get? b=some o->b∉j8 l->Z b->B.get? b=some o
def kJ (P:Program) (w:World):yI:=fun h H s E e l=>∃(a C:Addr) (D:Hp),e=.ref a/\l.os=s.os/\AllBare l.gens/\Un (j8 h) [] H D s.heap l.heap/\HOk P w D l.heap/\
 x8 h (fun b=>D b≠none\/∃F,s.heap.get? b=some F) l.heap a C/\D a=none/\s.heap.get? a=none/\JW l.heap a/\E (.ref C) none D
def FT (X:Cx) (R:St->Value->Hp->Prop):Prop:=∀E h H s e l C D,Inv X E h H s->Heap.MadeExcOf s.heap l e (.ref C) D->R h (.ref C) H->X.xe (.ref e) {s with heap:=l}
def Q3 (X:Cx) (R:St->Value->Hp->Prop):Prop:=∀D l H s e h,Inv X D l H s->kJ X.prog X.w X.stack H s (fun c _ E=>R l c E) e h->X.xe e h
theorem QP {P:Program} {w:World} {K:PySem.W.Frag} {mg:Str->Option Value} {base:Heap} {N:List Str} {l:Str} {scope:Scope} {f:Addr} {h:Value} {A:Around} {outer:List Env} {s:Shared} {E:XK} :
  FT (qF (kJ P w) P w K mg base N l scope f h A outer s H E) (fun _ c H'=>E c none H'):=by
 intro ke σ Z G e h' C vs I hx q;have aD:∀V∈(envOfC l scope s.heap.objs.size f h::outer),∀b,V.frame=some b->b∈j8 (envOfC l scope s.heap.objs.size f h::outer):=fun V he b hb=>cw.mpr ⟨V,he,hb⟩
 have Y:G.heap.FunFrames base (envOfC l scope s.heap.objs.size f h::outer):=I.stack;have J:∀b∈j8 (envOfC l scope s.heap.objs.size f h::outer),Z b=none:=I.stkFree;have am:j8 (envOfC l scope s.heap.objs.size f h::outer)=s.heap.objs.size::j8 outer:=rfl;have ub:Un (j8 outer) [] H Z s.heap G.heap:=I.base;have ap:G.heap.get? e=none:=hx.new;show wpAny (model P w) (A.deeper (envOfC l scope s.heap.objs.size f h)) (leaving (envOfC l scope s.heap.objs.size f h) (.ref e)) (fun _ S=>kJ P w outer H s E (.ref e) S) (fun e' S=>kJ P w outer H s E e' S) {G with heap:=h'};refine b6 (P:=fun F=>∃t,Heap.FlyingW (PySem.W.hideAll G.heap (j8 (envOfC l scope s.heap.objs.size f h::outer))) outer e (.ref C) (.ref t) F/\h'.UpToSlots F) (fun Q k=>wpAny_leaves_madeW (base:=PySem.W.hideAll G.heap (j8 (envOfC l scope s.heap.objs.size f h::outer))) I.ok.frames rfl (fun b o q=>ft _ q) (ij Y aD) hx fun F t fl _ _ up=>k F ⟨t,fl,up⟩)
  (R:=fun F=>JW F e) (fun Q k=>PZ I.ok.frames Y rfl hx fun F T c=>k F c.to) fun F ⟨t,fl,up⟩ aU=>?_
 have D:∀b o,G.heap.get? b=some o->b∉j8 (envOfC l scope s.heap.objs.size f h::outer)->(PySem.W.hideAll G.heap (j8 (envOfC l scope s.heap.objs.size f h::outer))).get? b=some o:=fun b o q n=>dz _ q n
 have an:∀b,(∃o',s.heap.get? b=some o')->b∉j8 outer->b∉j8 (envOfC l scope s.heap.objs.size f h::outer):=fun b ⟨o',q⟩ n z=>by
  rw [am] at z
  rcases aj.mp z with z|z
  ·exact absurd (aq q) (by rw [z];exact bz _)
  ·exact n z
 have yR:∀b,Z b≠none->b∉j8 (envOfC l scope s.heap.objs.size f h::outer):=fun b hb z=>hb (J b z)
 refine ⟨e,C,Z,rfl,I.os,I.bare,ub.go (fun b o q n _ z=>fl.1 b o (D b o q (an b z n))) (fun b o q n _=>?_),I.hok.keepT fun b u hb q=>fl.1 b u (D b u q (yR b hb)),?_,?_,?_,aU,q⟩
 ·obtain ⟨_,o',ah,hd⟩:=Y.mem (show b∈j8 (envOfC l scope s.heap.objs.size f h::outer) from by rw [am];exact aF _ n);rw [q] at ah;cases ah
  exact up b o (hx.keeps b o q) hd
 ·refine ⟨_,_,fl,fun b o q n z=>?_⟩;have hn:b∉j8 (envOfC l scope s.heap.objs.size f h::outer):=by
   rcases z with z|z
   ·exact yR b z
   ·exact an b z n
  have h1:∃u,G.heap.get? b=some u:=by
   rcases z with z|⟨o',z⟩
   ·cases r:Z b with
    |none=>exact absurd r z
    |some v=>exact I.hok.there r
   ·exact ub.there b o' z (by simp)
  obtain ⟨u,O⟩:=h1;have hB:=D b u O hn;have:=fl.1 b u hB;have q':F.get? b=some o:=q;rw [q'] at this;cases this;exact hB
 ·cases r:Z e with
  |none=>rfl
  |some v =>
   obtain ⟨u,O⟩:=I.hok.there r;rw [ap] at O;cases O
 ·cases r:s.heap.get? e with
  |none=>rfl
  |some v =>
   obtain ⟨u,O⟩:=ub.there e v r (by simp);rw [ap] at O;cases O
theorem qR {P:Program} {w:World} {K:PySem.W.Frag} {mg:Str->Option Value} {base:Heap} {N:List Str} {F:Str} {scope:Scope} {f:Addr} {D:Value} {A:Around} {outer:List Env} {s:Shared} {E:XK} :
  Q3 (qF (kJ P w) P w K mg base N F scope f D A outer s H E) (fun _ c H'=>E c none H'):=by
 intro ke σ H1 s1 e O I hx;obtain ⟨a,C,Z,rfl,os,aD,un,aU,⟨B,a0,fl,h⟩,ha,hs,q⟩:=hx;have am:Heap.FlyingW B (envOfC F scope s.heap.objs.size f D::outer) a (.ref C) a0 O.heap:=fl;have J:Inv (qF (kJ P w) P w K mg base N F scope f D A outer s H E) ke σ Z O:=I.call' (ch:=[]) os un aU aD fun b z=>absurd z (by simp)
 have ub:Un (j8 outer) [] H Z s.heap O.heap:=J.base;have ah:j8 (envOfC F scope s.heap.objs.size f D::outer)=s.heap.objs.size::j8 outer:=rfl;have an:∀b,(∃o',s.heap.get? b=some o')->b∉j8 outer->b∉j8 (envOfC F scope s.heap.objs.size f D::outer):=fun b ⟨o',q⟩ n z=>by
  rw [ah] at z
  rcases aj.mp z with z|z
  ·exact absurd (aq q) (by rw [z];exact bz _)
  ·exact n z
 have yR:∀b,Z b≠none->b∉j8 (envOfC F scope s.heap.objs.size f D::outer):=fun b hb z=>hb (J.stkFree b z)
 have u1:Un (j8 outer) [] H H1 s.heap s1.heap:=I.base;have V:∀b,(∃o',s.heap.get? b=some o')->∃o',s1.heap.get? b=some o':=fun b ⟨o',z⟩=>u1.there b o' z (by simp)
 have ap:O.heap.FunFrames base (envOfC F scope s.heap.objs.size f D::outer):=J.stack;show wpAny (model P w) (A.deeper (envOfC F scope s.heap.objs.size f D)) (leaving (envOfC F scope s.heap.objs.size f D) (.ref a)) (fun _ S=>kJ P w outer H s E (.ref a) S) (fun e' S=>kJ P w outer H s E e' S) O;obtain ⟨T,a3⟩:=wF am q.1;refine b6 (P:=fun G=>Heap.FlyingW B outer a (.ref C) a0 G/\O.heap.UpToSlots G) (fun Q k=>wpAny_leaves_onW J.ok.frames rfl am fun G l up=>k G ⟨l,up⟩)
  (R:=fun G=>JW G a) (fun Q k=>CJ J.ok.frames ap rfl a3 fun G T c=>k G c.to) fun G ⟨l,up⟩ a4=>?_
 refine ⟨a,C,Z,rfl,J.os,J.bare,ub.go (fun b o q n _ z=>l.1 b o (h b o q (an b z n) (.inr (V b z)))) (fun b o q n _=>?_),J.hok.keepT fun b u hb q=>l.1 b u (h b u q (yR b hb) (.inl hb)),?_,ha,?_,a4,q.2⟩
 ·obtain ⟨_,o',Y,hd⟩:=ap.mem (show b∈j8 (envOfC F scope s.heap.objs.size f D::outer) from by rw [ah];exact aF _ n);rw [q] at Y;cases Y
  exact up b o q hd
 ·refine ⟨B,a0,l,fun b o q n z=>?_⟩;have hn:b∉j8 (envOfC F scope s.heap.objs.size f D::outer):=by
   rcases z with z|z
   ·exact yR b z
   ·exact an b z n
  have h1:∃u,O.heap.get? b=some u:=by
   rcases z with z|⟨o',z⟩
   ·cases r:Z b with
    |none=>exact absurd r z
    |some v=>exact J.hok.there r
   ·exact ub.there b o' z (by simp)
  obtain ⟨u,hu⟩:=h1;have hB:=h b u hu hn (by
   rcases z with z|z
   ·exact .inl z
   ·exact .inr (V b z))
  have:=l.1 b u hB;have q':G.get? b=some o:=q;rw [q'] at this;cases this;exact hB
 ·cases r:s.heap.get? a with
  |none=>rfl
  |some v =>
   obtain ⟨u,hu⟩:=V a ⟨v,r⟩;rw [hs] at hu;cases hu
end L2
namespace L2
open PySem PySem.Spec PyProof.Rows
theorem wI {K:PySem.W.Frag} {h:Heap} {C:Addr} {G:List Value} {newId:String} (X:K.In h) (q:PySem.W.excIn K C G newId=true) :
  ∃bm N nm I bs hdct sn sub ab col dd k0 k1 k2 k3 k5 mN,K.lookup C=some (excClassObj nm I C N bs bm hdct sn sub ab col dd k0 k1 k2 k3 k5 newId)/\h.get? C=some (excClassObj nm I C N bs bm hdct sn sub ab col dd k0 k1 k2 k3 k5 newId)/\h.Ns N mN/\mN "__init__"=none/\OwnTail h G bm:=by
 unfold PySem.W.excIn at q
 split at q
 ·rename_i dd cd O S
  split at q
  ·rename_i C' bm k0 k1 k2 k3 n k5 Y V;simp only [ei,hU,Bool.not_eq_true'] at q;obtain ⟨⟨⟨⟨⟨rfl,rfl⟩,D⟩,ht⟩,E⟩,F⟩:=q;obtain ⟨nm,bs,ah,ns,I,hd,sn,sub,ab,col,Z⟩:=cd
   dsimp only at Y D E F
   subst Y D;have J:O = #[k0,k1,k2,k3,some (.builtin n),k5]:=by
    obtain ⟨l⟩:=O;simp only at V;rw [V]
   subst J;exact ⟨bm,ns,nm,I,bs,hd,sn,sub,ab,col,dd,k0,k1,k2,k3,k5,_,S,X _ _ S,.of_isNs (PySem.W.isNs_of_in X E),PySem.W.nsMap_none_of_in X E F,PySem.W.tail_of_in X ht⟩
  ·cases q
 ·cases q
abbrev X2:List Value:=[.type "ValueError",.type "Exception",.type "BaseException",.type "object"]
def zD (K:PySem.W.Frag) (C:Addr):Prop:=PySem.W.excIn K C X2 "ValueError.__new__"=true
section
variable {X:Cx} {R:St->Value->Hp->Prop} {x:Str} {C:Addr} {np cpos ko p:Pos} {e:Expr} {es:List Expr} {t:TA}
theorem QR (hx:FT X R) (l:X.calm=true) (hg:Gl X x) (O:X.mg x=some (.ref C)) (hc:zD X.K C) (ha:PA X (e::es) t) (S:(x == ("__debug__":Str))=false:=by decide)
  (he:starEach (e::es) X.env=(false,eval e X.env)::starEach es X.env:=by rfl) (hpl:(backTo cpos (starEach es X.env)).any (·.1)=false:=by rfl) :
  PS X (.Raise (some (.Call (.Name x np) (e::es) [] cpos)) none ko) (fun _ E H=>t E H fun vs H1=>vs.length<=sizeLine/\R E (.ref C) H1):=by
 intro V s E H D I h;obtain ⟨tl,N,nm,q,bs,hdct,sn,sub,ab,col,dd,k0,k1,k2,k3,k5,mN,_,hC,hN,J,T⟩:=wI I.ok.mod.kin hc;refine wpAny_Raise_call_subT (C:=C) (nm:=nm) (q:=q) (N:=N) (bs:=bs) (bm:=tl) (hdct:=hdct) (sn:=sn) (sub:=sub) (ab:=ab) (col:=col) (dd:=dd) (k0:=k0) (k1:=k1) (k2:=k2) (k3:=k3) (k5:=k5)
  PySem.F.excBase_ValueError (mN:=mN) (T.hasType PySem.F.excBase_ValueError.hasBase) (I.ok.hd l) (by rw [he];show (false||(backTo cpos (starEach es X.env)).any (·.1))=false;rw [hpl];rfl) J (QU I hg O ⟨rfl,?_⟩ S)
 have Y:=ha cpos V s E H _ I h;rw [he] at Y ⊢;refine iw (bn Y (fun us s2 ⟨vs,H2,G,r2,hl,Z⟩=>⟨rfl,by rw [<- r2.length];exact hl,G.bk _ _ hC,hN.keeps G.bk,T.keeps G.bk,fun h' a O=>hx V E H2 s2 a h' C us G O Z⟩) fun _ _ y=>y)
def E6 (sp:Sp) (dvs:List V) (R:St->Value->Hp->Prop) (t:TA):TE:=fun h H Q=>t h H fun D l=>sp (D++dvs) l Q (fun c _ E=>R h c E)
theorem EH {k:Nat} {f:Addr} {G:FuncData} {ps:List Str} {sp:Sp} {dvs:List V} {ds:List Value} {E:List (Addr×Obj)} {D:St} {H:Hp} {s:Shared} {Q:VK} {us:List Value} {vs:List V} (F:FnOk X.prog X.w X.K X.mg X.base (kJ X.prog X.w) k f G ps sp) (hr:Room k X.A) (Y:Binds X.K G ps ds) (hd:Vals dvs ds) (O:Q3 X R)
  (I:Inv X E D H s) (r:Vals vs us) (h:sp (vs++dvs) H Q (fun c _ Z=>R D c Z)):wpAny (model X.prog X.w) X.A (call (.ref f) us) (EP X E D Q) X.xe s:=by
 have J:Vals (vs++dvs) (us++ds):=r.append hd;have hl:(us++ds).length=ps.length:=by rw [<- J.length];exact F.len _ _ _ _ h
 refine wpAny_call (hV (F.run X.A X.stack s H ⟨us,[]⟩ (us++ds) (vs++dvs) Q _ hr I.env0 (Y s us I.kIn hl) J h) fun r S l=>?_);cases r with
 |error e=>exact O E D H s e S I l
 |ok fl =>
  cases fl with
  |ret u=>exact I.after l
  |next=>exact False.elim l
  |brk=>exact False.elim l
  |cont=>exact False.elim l
end
structure DefX (P:Program) (w:World) (K:PySem.W.Frag) (mg:Str->Option Value) (base:Heap) (k:Nat) (x:Str) (ps:List Str) (dvs:List V) (sp:Sp):Prop where
 ex:∃(f:Addr) (fd:FuncData) (ds:List Value),FnOk P w K mg base (kJ P w) k f fd ps sp/\mg x=some (.ref f)/\PySem.W.keepIn K (.ref f)=true/\Vals dvs ds/\Binds K fd ps ds
variable {X:Cx} {R:St->Value->Hp->Prop}
theorem vH {k O:Nat} {x:Str} {ps:List Str} {dvs:List V} {sp:Sp} {p D:Pos} {e:Expr} {l:List Expr} {t:TA} (F:DefX X.prog X.w X.K X.mg X.base k x ps dvs sp) (Y:Q3 X R) (Z:Room O X.A) (hg:Gl X x) (ha:PA X (e::l) t)
  (hk:k<=O:=by decide) (E:(x == ("__debug__":Str))=false:=by decide) (he:starEach (e::l) X.env=(false,eval e X.env)::starEach l X.env:=by rfl) (hpl:(backTo D (starEach l X.env)).any (·.1)=false:=by rfl) :
  PE X (.Call (.Name x p) (e::l) [] D) (E6 sp dvs R t):=by
 obtain ⟨f,fd,ds,G,m,kp,hv,b⟩:=F.ex;intro ke s S H Q I h;refine em (QU I hg m ?_ E);refine cx (h₀:=X.base) I.ok.mod.kin kp (jZ (ha D ke s S H _ I h) fun us s1 ⟨vs,H1,J,r,q⟩=>⟨J.kIn,?_⟩) he hpl;exact EH G (Z.mono hk) b hv Y J r q
def bM (X:Cx) (h:List (Addr×Obj)) (a:Addr):Prop:=X.s₀.heap.get? a=none/\a≠X.env.locals/\(∀x c,X.env.cells.lookup x=some c->c≠a)/\∀p∈X.pn++h,p.1≠a
def zM (X:Cx) (l:List (Addr×Obj)) (R:St->Value->Hp->Prop):Cx:={X with
 pn:=X.pn++l
 xe:=fun e E=>∃(a C:Addr) (h:St) (D:Hp),e=.ref a/\Inv X l h D E/\x8 X.stack (fun b=>D b≠none\/(∃o,X.s₀.heap.get? b=some o)\/∃p∈X.pn++l,p.1=b) E.heap a C/\D a=none/\bM X l a/\R h (.ref C) D}
theorem Cx.Ok.intoTry {l:List (Addr×Obj)} (h:X.Ok):(zM X l R).Ok :=
 ⟨h.mod,h.kind,h.glob,h.blt,h.above,h.inj,h.has,h.cab,h.hd,h.frames,h.stk,h.exf,h.bs,h.bsz,h.noex,h.exfs,h.funs,h.frf⟩
theorem Cx.Ok.outTry {l:List (Addr×Obj)} (h:(zM X l R).Ok):X.Ok :=
 ⟨h.mod,h.kind,h.glob,h.blt,h.above,h.inj,h.has,h.cab,h.hd,h.frames,h.stk,h.exf,h.bs,h.bsz,h.noex,h.exfs,h.funs,h.frf⟩
section
variable {X:Cx} {ke pins':List (Addr×Obj)} {σ:St} {H:Hp} {s:Shared} {R:St->Value->Hp->Prop}
theorem Inv.intoTry (I:Inv X ke σ H s):Inv (zM X ke R) [] σ H s :=
 ⟨I.ok.intoTry,I.os,I.bare,I.base,I.loc,I.cell,I.free,I.freeC,fun p l=>I.pin p (by have h:p∈(X.pn++ke)++[]:=l;rw [di] at h;exact h),I.hok,I.len⟩
theorem Inv.outTry (I:Inv (zM X ke R) pins' σ H s):Inv X ke σ H s :=
 ⟨I.ok.outTry,I.os,I.bare,I.base,I.loc,I.cell,I.free,I.freeC,fun p h=>I.pin p (da _ h),I.hok,I.len⟩
theorem SP.outTry {D:Ends} {f:Flow} {F:Shared} (h:SP (zM X ke R) [] D f F):SP X ke D f F:=by
 cases f with
 |next=>obtain ⟨l,E,I,q⟩:=h;exact ⟨l,E,I.outTry,q⟩
 |brk=>obtain ⟨l,E,I,q⟩:=h;exact ⟨l,E,I.outTry,q⟩
 |cont=>obtain ⟨l,E,I,q⟩:=h;exact ⟨l,E,I.outTry,q⟩
 |ret u=>obtain ⟨v,l,E,I,r,q⟩:=h;exact ⟨v,l,E,I.outTry,r,q⟩
theorem uC (E:X.ex=[]):Q3 (zM X ke R) R:=by
 intro pins' σ H1 s1 e s2 I hx;obtain ⟨a,C,Y,rfl,os,F,un,O,⟨B,a0,Z,h⟩,ha,G,q⟩:=hx;have D:Inv X ke σ H1 s1:=I.outTry;have J:Inv X ke σ Y s2:=D.call' (ch:=[]) os un O F fun b z=>absurd z (by simp)
 refine ⟨a,C,σ,Y,rfl,J,⟨B,a0,Z,fun b o q n z=>h b o q n ?_⟩,ha,⟨?_,fun z=>?_,fun x c e z=>?_,fun p S z=>?_⟩,q.2⟩
 ·rcases z with z|⟨o',z⟩|⟨p,S,rfl⟩
  ·exact .inl z
  ·exact .inr (D.base.there b o' z (by rw [E];simp))
  ·exact .inr ⟨_,(D.pin p S).1⟩
 ·cases r:X.s₀.heap.get? a with
  |none=>rfl
  |some v =>
   obtain ⟨u,V⟩:=D.base.there a v r (by rw [E];simp);rw [G] at V;cases V
 ·obtain ⟨m,⟨o,_,_,l,_⟩,_⟩:=D.loc;rw [<- z,G] at l;cases l
 ·obtain ⟨v,o,l,_⟩:=D.cell x c e;rw [z,G] at l;cases l
 ·have l:=(D.pin p S).1;rw [z,G] at l;cases l
theorem Inv.fly {h':Heap} (I:Inv X ke σ H s) (E:X.stack=X.env::X.outer) (hf:X.env.frame=some X.env.locals)
  (k:∀b o,s.heap.get? b=some o->b∉j8 X.stack->(H b≠none\/(∃o,X.s₀.heap.get? b=some o)\/∃p∈X.pn++ke,p.1=b)->h'.get? b=some o) (up:s.heap.UpToSlots h'):Inv X ke σ H {s with heap:=h'}:=by
 have D:j8 X.stack=X.env.locals::X.fs:=by rw [E];unfold j8;rw [gy,hf];rfl
 have h:∀c v,s.heap.IsCell c v->h'.IsCell c v:=fun c v ⟨o,ho,G⟩=>by
  obtain ⟨sl,e⟩:=up c o ho (fun vs q=>by rw [G] at q;cases q);exact ⟨_,e,G⟩
 have yR:∀b,H b≠none->b∉j8 X.stack:=fun b J z=>J (I.stkFree b z)
 refine ⟨I.ok,I.os,I.bare,I.base.go (fun b o q n _ z=>k b o q (fun m=>?_) (.inr (.inl z))) (fun b o q n z=>?_),?_,fun x c e=>?_,I.free,I.freeC,fun p Z=>?_,I.hok.keepT fun b u J q=>k b u q (yR b J) (.inl J),I.len⟩
 ·rw [D] at m
  rcases aj.mp m with m|m
  ·obtain ⟨o',z⟩:=z;exact absurd (av (aq z) I.ok.above) (by rw [m];exact bz _)
  ·exact n m
 ·obtain ⟨_,o',F,G⟩:=I.stack.mem (show b∈j8 X.stack from by rw [D];exact aF _ n);rw [q] at F;cases F
  exact up b o q G
 ·obtain ⟨m,hn,hl⟩:=I.loc;refine ⟨m,up.ns hn,fun i x v V S O=>?_⟩;obtain ⟨u,r,l⟩:=hl i x v V S O;refine ⟨u,r,?_⟩
  rcases l with l|⟨l1,c,l2,l3⟩
  ·exact .inl l
  ·exact .inr ⟨l1,c,l2,h c _ l3⟩
 ·obtain ⟨v,q⟩:=I.cell x c e;exact ⟨v,h c v q⟩
 ·obtain ⟨V,S,O,Y,h5⟩:=I.pin p Z;refine ⟨k p.1 p.2 V (fun m=>?_) (.inr (.inr ⟨p,Z,rfl⟩)),S,O,Y,h5⟩;rw [D] at m
  rcases aj.mp m with m|m
  ·exact O m
  ·exact Y m
end
def zR (X:Cx) (e:Value):Cx:={X with A:=X.A.mark (some e),calm:=false,xe:=fun _ _=>False}
section
variable {X:Cx} {ke:List (Addr×Obj)} {σ:St} {H:Hp} {s:Shared} {e:Value}
theorem Inv.intoSuite (I:Inv X ke σ H s) (e:Value):Inv (zR X e) ke σ H s :=
 ⟨⟨I.ok.mod,I.ok.kind,I.ok.glob,I.ok.blt,I.ok.above,I.ok.inj,I.ok.has,I.ok.cab,fun z=>absurd (show false=true from z) (by decide),I.ok.frames,I.ok.stk,I.ok.exf,I.ok.bs,I.ok.bsz,I.ok.noex,I.ok.exfs,I.ok.funs,I.ok.frf⟩,I.os,I.bare,I.base,I.loc,I.cell,I.free,I.freeC,I.pin,I.hok,I.len⟩
theorem Inv.outSuite (h:X.Ok) (I:Inv (zR X e) ke σ H s):Inv X ke σ H s:=⟨h,I.os,I.bare,I.base,I.loc,I.cell,I.free,I.freeC,I.pin,I.hok,I.len⟩
theorem SP.outSuite (F:X.Ok) {D:Ends} {f:Flow} {G:Shared} (h:SP (zR X e) ke D f G):SP X ke D f G:=by
 cases f with
 |next=>obtain ⟨l,E,I,q⟩:=h;exact ⟨l,E,I.outSuite F,q⟩
 |brk=>obtain ⟨l,E,I,q⟩:=h;exact ⟨l,E,I.outSuite F,q⟩
 |cont=>obtain ⟨l,E,I,q⟩:=h;exact ⟨l,E,I.outSuite F,q⟩
 |ret u=>obtain ⟨v,l,E,I,r,q⟩:=h;exact ⟨v,l,E,I.outSuite F,r,q⟩
end
end L2
namespace L2
open PySem PySem.Spec PyProof.Rows
section
variable {P:Program} {w:World} {K:PySem.W.Frag} {mg:Str->Option Value} {base:Heap}
theorem Fun.okX {x J:Str} {st:Stmt} {f:Addr} {O:FuncData} {N ps:List Str} {k:Nat} {sp:Sp} (F:Fun K x J st f O) (S:FnScope N ps (kF st)) (D:∀vs H Q E,sp vs H Q E->vs.length=ps.length)
  (h:∀(l:Value) (A:Around) (outer:List Env) (s:Shared) (H:Hp) (vs:List V) (Q:VK) (E:XK),Room k (A.deeper (envOfC J (kF st) s.heap.objs.size f l))->sp vs H Q E->
   ∃t,PSs (qF (kJ P w) P w K mg base N J (kF st) f l A outer s H E) (qZ st) t/\t {nx:=fun _ Z=>Q .non Z,rt:=Q} (start N vs) H):FnOk P w K mg base (kJ P w) (k+1) f O ps sp:=by
 obtain ⟨oc,od,kV,Y,pm,an,l,ct,ah,rfl,lk,I⟩:=F.ex;exact m6 lk I S D fun A outer s H vs Q E hr G=>h l A outer s H vs Q E hr G
theorem FnOk.noX {k:Nat} {f:Addr} {I:FuncData} {ps:List Str} {sp sp':Sp} (F:FnOk P w K mg base (kJ P w) k f I ps sp) (h:∀vs H Q E,sp' vs H Q E->sp vs H Q (fun _ _ _=>False)):FnOk P w K mg base jT k f I ps sp' :=
 ⟨fun vs H Q E q=>F.len vs H Q _ (h _ _ _ _ q),fun A l s H D V vs Q E S J Z hv Y=>hV (F.run A l s H D V vs Q _ S J Z hv (h _ _ _ _ Y)) fun r s' G=>by
  cases r with
  |ok O=>cases O<;>exact G
  |error e=>obtain ⟨_,_,_,_,_,_,_,_,_,_,_,_,z⟩:=G;exact z⟩
end
section
variable {X:Cx}
end
section
variable {X:Cx} {ke:List (Addr×Obj)} {σ:St} {H:Hp} {s:Shared}
theorem Inv.unset {i:Nat} {x:Str} {S:Str->Option Value} {h':Heap} {t':Nat} (I:Inv X ke σ H s) (hN:X.N.Nodup) (Y:X.N[i]?=some x)
  (hm:∀m,s.heap.Ns X.env.locals m->∀y,y≠x->S y=m y) (hn:h'.Ns X.env.locals S) (h:Heap.SameBut X.env.locals s.heap h'):Inv X ke (σ.set i none) H {s with heap:=h',toks:=t'}:=by
 obtain ⟨m,G,hl⟩:=id I.loc;obtain ⟨oL,_,_,ah,_⟩:=id G;have E:i<σ.length:=by rw [I.len];exact (ae.mp Y).1
 refine ⟨I.ok,I.os,I.bare,⟨fun b o e n l F=>?_,fun b o e n l F=>?_,I.base.free,fun b o e F=>?_,I.base.tups,I.base.frzs,I.base.tbls⟩,⟨_,hn,fun j y v' D J e3=>?_⟩,fun y c e=>?_,I.free,I.freeC,fun p hp=>?_,?_,by simpa using I.len⟩
 ·exact (h.2 b (aQ (av (aq e) I.ok.above))).trans (I.base.keep b o e n l F)
 ·obtain ⟨sl,D⟩:=I.base.slot b o e n l F;exact ⟨sl,(h.2 b (aQ (av (aq e) I.ok.above))).trans D⟩
 ·obtain ⟨o',D⟩:=I.base.there b o e F;exact ⟨o',(h.2 b (aQ (av (aq e) I.ok.above))).trans D⟩
 ·by_cases O:j=i
  ·subst O;rw [cg E] at J;cases J
  ·rw [fj (Ne.symm O)] at J;obtain ⟨u',Z,q⟩:=hl j y v' D J e3;refine ⟨u',Z,?_⟩
   rcases q with ⟨k,e⟩|⟨k,c,e,z⟩
   ·refine .inl ⟨k,?_⟩;have:y≠x:=fun e=>O (uQ hN D (e▸Y))
    rw [hm m G y this];exact e
   ·exact .inr ⟨k,c,e,z.sameBut h (I.cne y c e)⟩
 ·obtain ⟨w',z⟩:=I.cell y c e;exact ⟨w',z.sameBut h (I.cne y c e)⟩
 ·obtain ⟨e,n,V,nf,d⟩:=I.pin p hp;exact ⟨(h.2 p.1 V).trans e,n,V,nf,d⟩
 ·refine I.hok.keepT fun b u l q=>(h.2 b fun z=>?_).trans q
  rw [z] at l;exact l I.free
theorem EM {h:Heap} {a:Addr} {m F:Str->Option Value} (x:h.Ns a m) (y:h.Ns a F):m=F:=by
 obtain ⟨o,Z,Y,G,I,_,J⟩:=x;obtain ⟨V,O,S,D,l,_,E⟩:=y;rw [G] at D;cases D
 rw [I] at l;cases l
 funext n;rw [<- J n,<- E n]
theorem lI {A:Around} {E:Value->Shared->Prop} {i:Nat} {x:Str} {ko:Pos} {Q:Unit->Shared->Prop} (I:Inv X ke σ H s) (hN:X.N.Nodup) (hi:X.N[i]?=some x) (O:X.env.scope.names.lookup x=some .local)
  (h:∀J,Inv X ke (σ.set i none) H J->Q () J):wpAny (model X.prog X.w) A (do bindName X.env x .none;unbindBehindTheSuite X.env x ko) Q E s:=by
 have Y:(X.env.scope.kind == .class||(X.env.scope.kind == .module&&X.env.locals != X.env.globals))=false:=by rw [I.ok.kind];rfl
 obtain ⟨m,Z,_⟩:=id I.loc;refine ad (wpAny_bindName (im O Z (fun S l G=>?_) Y));unfold unbindBehindTheSuite;refine ig ?_;unfold unbindName;refine ad (wpAny_point (ad ?_));unfold deleteName;have hl:X.env.kindOf x=some .local:=O;simp only [hl,Y];rw [if_neg (by decide)];refine ad (wpAny_nsDel_keeps l fun V v D F=>?_);simp only [if_true,Option.isSome_some,Bool.not_true,Bool.false_eq_true,if_false];refine aJ (wpAny_point (h _ ?_));exact I.unset hN hi (fun m0 h0 y hy=>by rw [EM h0 Z];simp [hy]) D (G.trans F)
theorem Inv.track {a:Addr} {o:HO} (I:Inv X ke σ H s) (h:H a=none) (S:bM X ke a) (E:ObjOk X.prog X.w (upd H a o) s.heap a o):Inv X ke σ (upd H a o) s:=by
 obtain ⟨n0,J,nc,O⟩:=S;refine ⟨I.ok,I.os,I.bare,⟨I.base.keep,I.base.slot,fun b u q n V=>?_,I.base.there,fun b D q=>?_,fun b u D q=>?_,fun b Z q=>?_⟩,I.loc,I.cell,?_,fun x c e=>?_,fun p G=>?_,fun b u e=>?_,I.len⟩
 ·rw [jQ (fun z=>by rw [z,n0] at q;cases q)];exact I.base.free b u q n V
 ·have:=I.base.tups b D q;rw [jQ (qE this h)];exact this
 ·have:=I.base.frzs b u D q;rw [jQ (qE this h)];exact this
 ·obtain ⟨l,e⟩:=I.base.tbls b Z q;exact ⟨l,by rw [jQ (qE e h)];exact e⟩
 ·rw [jQ (Ne.symm J)];exact I.free
 ·rw [jQ (nc x c e)];exact I.freeC x c e
 ·obtain ⟨h1,Y,h3⟩:=I.pin p G;exact ⟨h1,by rw [jQ (O p G)];exact Y,h3⟩
 ·by_cases F:b=a
  ·subst F;rw [jF] at e;cases e;exact E
  ·rw [jQ F] at e;exact (I.hok b u e).stay (fun c v _ q=>q) (fun c q=>by rw [jQ (qE q h)];exact q) fun c D q=>by rw [jQ (qE q h)];exact q
end
def eX (a C:Addr):HO:=.ext fun h=>∃o l,h.get? a=some o/\o.cls=.ref C/\o.data=.fields l
def VQ (K:PySem.W.Frag) (G:Addr) (i:Nat) (O:(St->Value->Hp->Prop)->TS) (J:TS):TS:=fun D I H=>∃R:St->Value->Hp->Prop,O R D I H/\∀E c F,R E c F->∃C,c=.ref C/\PySem.W.exmOne K (.ref C) (.ref G)=some true/\
 ∀a,F a=none->J {nx:=fun h l=>D.nx (h.set i none) l,rt:=D.rt,bk:=fun h l=>D.bk (h.set i none) l,ct:=fun h l=>D.ct (h.set i none) l} (E.set i (some (.ref a))) (upd F a (eX a C))
theorem S0 {X:Cx} {ku:List Stmt} {x n:Str} {C0:Addr} {i:Nat} {np aU ko:Pos} {S:Stmt} {F:List Stmt} {tb:(St->Value->Hp->Prop)->TS} {ts:TS} (b3:X.ex=[]) (E:X.stack=X.env::X.outer) (hf:X.env.frame=some X.env.locals)
  (hN:X.N.Nodup) (hi:X.N[i]?=some n) (hl:X.env.scope.names.lookup n=some .local)
  (hg:Gl X x) (hm:X.mg x=some (.ref C0)) (hb:∀O R,Q3 (zM X O R) R->PSs (zM X O R) ku (tb R)) (hs:∀e,PSs (zR X e) (S::F) ts) (b0:(x == ("__debug__":Str))=false:=by decide) :
  PS X (.Try ku [.ExceptHandler (some (.Name x np)) (some n) (S::F) aU] [] [] ko) (VQ X.K C0 i tb ts):=by
 intro O s σ H D I h;obtain ⟨R,h1,h2⟩:=h;refine wpAny_Try_except (bn (hb O R (uC b3) [] s σ H D I.intoTry h1) (fun f s1 q=>?_) (fun v s1 q=>?_))
 ·have q':=q.outTry;cases f with
  |next=>exact fw q'
  |brk=>exact q'
  |cont=>exact q'
  |ret u=>exact q'
 ·obtain ⟨a,C',G,H',rfl,J,⟨B,a0,fl,l⟩,ha,ap,r⟩:=q;obtain ⟨C,e1,a6,h3⟩:=h2 G (.ref C') H' r;cases e1;have be:Heap.FlyingW B (X.env::X.outer) a (.ref C') a0 s1.heap:=by rw [E] at fl;exact fl
  have bt:X.A.frames=some (X.env::X.outer):=by rw [<- E];exact J.ok.frames
  refine kb bt hf be fun h4 am a5=>?_
  refine wpAny_landsW am fun h5 an a9=>?_
  have J5:Inv X O G H' {s1 with heap:=h5}:=J.fly E hf (fun b o q n z=>an.1 b o (l b o q n z)) (a5.trans a9);obtain ⟨ob,bl,a7⟩:=an.there;have LT:PySem.W.Looks (model X.prog X.w) h5 (typeOf (.ref a)) (.ref C'):=by
   have:PySem.W.Looks (model X.prog X.w) h5 (typeOf (.ref a)) ob.cls:=(gw bl).andThen .now;rw [a7] at this;exact this
  refine wpAny_handleBy_cons (ip (QU (J5.intoSuite (.ref a)) hg hm ?_ b0)) (by intro q;cases q);have KI:X.K.In h5:=J5.kIn;refine (PySem.W.exm_one KI LT a6).here ?_;refine codeAny_handlers_suite_as ?_;refine lands_againW an fun h6 a4 b2=>?_
  have J6:Inv X O G H' {s1 with heap:=h6}:=J.fly E hf (fun b o q n z=>a4.1 b o (l b o q n z)) ((a5.trans a9).trans b2);obtain ⟨oe,vs,aD,a3,a8,_⟩:=a4.first;have b1:ObjOk X.prog X.w (upd H' a (eX a C')) h6 a (eX a C') :=
   ⟨⟨oe,vs,aD,a3,a8⟩,⟨oe,aD⟩,fun h1 h2 ⟨o,vs,e1,e2,e3⟩ k=>⟨o,vs,k o e1,e2,e3⟩⟩
  have J7:Inv X O G (upd H' a (eX a C')) {s1 with heap:=h6}:=J6.track ha ap b1;refine lO (X:=zR X (.ref a)) (i:=i) (v:=.ref a) (J7.intoSuite (.ref a)) hN hi (.inl hl) rfl (fun s7 J8=>?_) (.inr hl);refine bn (hs (.ref a) O _ _ _ _ J8 (h3 a ha)) (fun f s' q=>?_) fun _ _ z=>False.elim z
  have q':=q.outSuite J6.ok;cases f with
  |next=>obtain ⟨ah,H2,Z,V⟩:=q';exact lI Z hN hi hl fun Y I3=>⟨_,_,I3,V⟩
  |brk=>obtain ⟨ah,H2,Z,V⟩:=q';exact lI Z hN hi hl fun Y I3=>⟨_,_,I3,V⟩
  |cont=>obtain ⟨ah,H2,Z,V⟩:=q';exact lI Z hN hi hl fun Y I3=>⟨_,_,I3,V⟩
  |ret u=>obtain ⟨v,ah,H2,Z,r2,V⟩:=q';exact lI Z hN hi hl fun Y I3=>⟨_,_,_,I3,r2,V⟩
end L2
namespace L2
open PySem PySem.Spec PySem.Calls PyProof.Rows PySem.W
structure ExcAttr (K:PySem.W.Frag) (C:Addr):Prop where
 ga:PySem.W.findIn K (.ref C) "__getattribute__"=some (some (.builtin "BaseException.__getattribute__"))
 gn:PySem.W.findIn K (.ref C) "__getattr__"=some none
 ca:PySem.W.findIn K (.ref C) "__class__"=some (some (.builtin "object.__class__"))
 mo:PySem.W.mroIn K C (.type "object")=some true
 mb:PySem.W.subIn K (.ref C) (.type "BaseException")=some true
section
variable {prog:Program} {w:World} {A:Around} {E:Value->Shared->Prop} {h:Heap} {g:Array GenState} {d:Drawn} {t:Nat} {os:OsState} {a C:Addr} {o:Obj} {K:PySem.W.Frag}
open PySem.Builtin PySem.Builtin.ObjectAttr PySem.Builtin.Getset_descriptor in
theorem VE {R:Result->Shared->Prop} {F:Value} (X:K.In h) (Z:ExcAttr K C) (l:h.get? a=some o) (G:o.cls=.ref C) (D:R (.ok (.ret (.ref C))) ⟨h,g,d,t,os⟩) :
  codeAny (model prog w) A (.call (.builtin "getset_descriptor.__get__") ⟨[.builtin "object.__class__",.ref a,F],[]⟩) R ⟨h,g,d,t,os⟩:=by
 have J:PySem.W.Looks (model prog w) h (typeOf (.ref a)) (.ref C):=G▸(gw l).andThen .now;have I:=PySem.W.looks_mroIn (M:=model prog w) X Z.mo;refine codeAny_call_builtin KF.slot_gs.plain KF.entry_gs (KF.slot_gs.check _ _ _ _ _ _ _ _ KF.type_class (KF.args_gs _ _ _) ?_);unfold Builtin.«getset_descriptor.__get__» descrGet;rw [dga_obj];refine ad (aJ ?_);unfold descrGetter descrCheckInstance descrNameAndClass isInstance;simp only [KF.owner_class]
 repeat lk
 refine ⟨Code.quiet_builtin _ (by trivial),codeAny_builtin KF.entry_class ?_⟩;unfold Builtin.«object.__class__» shownTypeOf
 repeat lk
 exact D
theorem SE {I:Tok} {Q:Fin->Shared->Prop} (X:K.In h) (Z:ExcAttr K C) (l:h.get? a=some o) (D:o.cls=.ref C) (S:Q (.done (.ret (.ref C))) ⟨h,g,d,t,os⟩) :
  wpAny (model prog w) A (Builtin.«object.__getattribute__» ⟨[.ref a,.str "__class__" I],[]⟩) Q E ⟨h,g,d,t,os⟩:=by
 have J:(⟨h,g,d,t,os⟩:Shared).TypeIs (.builtin "object.__class__") "getset_descriptor":=F.typeOf_object_class;have O:=F.typeOf_object_class;have V:=F.slot_gs_get.lookup;have Y:=F.slot_gs_set.lookup;have G:=gt (M:=model prog w) X Z.ca
 repeat (any_goals (first|assumption|(with_reducible refine dg l ?_;rw [D])|with_reducible refine G.at ?_|wp_step))
 refine VE X Z l D ?_
 repeat (any_goals (first|assumption|wp_step))
theorem SF {M:Model} {l:Value} {Q:Unit->Shared->Prop} (X:K.In h) (Z:ExcAttr K C) (G:h.get? a=some o) (S:o.cls=.ref C) (J:Q () ⟨h,g,d,t,os⟩) :
  wpAny M A (checkBuiltinCall "BaseException.__getattribute__" ⟨[.ref a,l],[]⟩) Q E ⟨h,g,d,t,os⟩:=by
 have O:builtinKind "BaseException.__getattribute__"=some .slot:=by trivial
 have D:splitId "BaseException.__getattribute__"=some ("BaseException","__getattribute__"):=by trivial
 have I:PySem.W.Looks M h (isSubtype (.ref C) (.type "BaseException")) true:=PySem.W.looks_subIn X Z.mb;have V:=F.args_bexc_ga (.ref a) l;simp only [checkBuiltinCall,O,D];refine ad ?_
 ·unfold isInstance
  repeat (first|(with_reducible refine dg G ?_;rw [S])|with_reducible refine I.at ?_|wp_step)
  exact J
theorem TV {G:Tok} {R:Result->Shared->Prop} (X:K.In h) (Z:ExcAttr K C) (l:h.get? a=some o) (D:o.cls=.ref C) (I:R (.ok (.ret (.ref C))) ⟨h,g,d,t,os⟩) :
  codeAny (model prog w) A (.call (.builtin "BaseException.__getattribute__") ⟨[.ref a,.str "__class__" G],[]⟩) R ⟨h,g,d,t,os⟩ :=
 codeAny_call_builtin PySem.F.attr_ValueError.ga.plain F.entry_bexc_ga (SF X Z l D (SE X Z l D I))
theorem WK {V:Tok} {D l:Bool} {Q:Value->Shared->Prop} (X:K.In h) (Z:ExcAttr K C) (I:h.get? a=some o) (J:o.cls=.ref C) (hq:Q (.ref C) ⟨h,g,d,t,os⟩) :
  wpAny (model prog w) A (getAttrBy (.ref a) (.str "__class__" V) D l) Q E ⟨h,g,d,t,os⟩:=by
 have f3:=PySem.F.attr_ValueError.ga.bind (.ref a);have ah:(l&&onTheHeap (Value.builtin "BaseException.__getattribute__"))=false:=by cases l<;>rfl
 have G:(Value.builtin "BaseException.__getattribute__" == Value.builtin "object.__getattribute__")=false:=by trivial
 have O:(onTheHeap (Value.ref C)&&Value.builtin "BaseException.__getattribute__" == Value.builtin "object.__getattribute__")=false:=by rw [G];rfl
 have S:=gt (M:=model prog w) X Z.ga;have Y:=gt (M:=model prog w) X Z.gn
 repeat (any_goals (first|assumption|(with_reducible refine dg I ?_;rw [J])|with_reducible refine S.at ?_|with_reducible refine Y.at ?_|wp_step))
 refine TV X Z I J ?_
 repeat (any_goals (first|assumption|wp_step))
theorem TW {Q:Option Value->Shared->Prop} (X:K.In h) (Z:ExcAttr K C) (D:h.get? a=some o) (l:o.cls=.ref C) (F:Q (some (.ref C)) ⟨h,g,d,t+1,os⟩) :
  wpAny (model prog w) A (getAttr? (.ref a) "__class__") Q E ⟨h,g,d,t,os⟩:=by
 unfold getAttr? getAttrBy?
 repeat (any_goals (first|assumption|with_reducible apply WK X Z D l|wp_step))
end
theorem DS {K:PySem.W.Frag} {a C:Addr} (Z:ExcAttr K C) (l:(PySem.W.clsIn K C).isSome=true):PySem.W.KitX K (.ref a) (.ref C) (fun h=>∃o vs,h.get? a=some o/\o.cls=.ref C/\o.data=.fields vs) where
 ty:=fun M h _ ⟨o,_,G,E,_⟩=>E▸(gw G).andThen .now
 it:=fun _ _ X _=>by
  unfold PySem.W.clsIn at l
  split at l
  ·rename_i O V J F D;intro A' Q' E' s' k q;unfold isType loadHead;exact ad (wpAny_loadPart (k _ _ (X _ _ D)) (aJ q))
  ·cases l
 ne:=fun h S dd Y n sl X I=>by
  refine dw.mpr fun q=>?_
  have e:C=S:=Value.ref.inj (hU.mp q);subst e;unfold PySem.W.clsIn at l
  split at l
  ·rename_i O V J F D;have z:=(X _ _ D).symm.trans I;cases z
  ·cases l
 ca:=fun {_ _ _ _ _ s} X ⟨o,_,G,E,_⟩ k=>by
  obtain ⟨h,g,d,t,os⟩:=s;exact TW X Z G E k
section
variable {X:Cx}
def XY (K:PySem.W.Frag):List V->Hp->VK->Prop:=fun l H Q=>∃(a C:Addr) (c:V) (b:Bool),l=[.ref a,c]/\H a=some (eX a C)/\ExcAttr K C/\(PySem.W.clsIn K C).isSome=true/\
 ((∃u,GR c=some u/\PySem.W.kitOne K (.ref C) u=some b)\/∃(p:Addr) (h:List Addr),c=.ref p/\H p=some (.tup (h.map V.ref))/\PySem.W.kitAny K (.ref C) (h.map Value.ref)=some b)/\Q (.bl b) H
theorem BY:∀{ds:List Addr} {us:List Value},Vals (ds.map V.ref) us->us=ds.map Value.ref
 |[],_,r=>by cases r;rfl
 |d::ds,_,r=>by
  cases r with
  |cons h t =>
   cases (show _=Value.ref d from h);rw [BY t];rfl
theorem fW {K:PySem.W.Frag} (Y:X.K=K:=by rfl):yK X (.builtin "isinstance") (XY K):=by
 subst Y;intro ke s σ H xs us Q I r h;obtain ⟨a,C,c,b,rfl,ha,Z,l,hc,q⟩:=h;obtain ⟨u1,D,rfl,S,E⟩:=mQ r;cases (show u1=Value.ref a from S);obtain ⟨p,_,_⟩:=(show ObjOk X.prog X.w H s.heap a (eX a C) from I.hok a _ ha)
 rcases hc with ⟨u,F,e⟩|⟨G,ds,rfl,ht,e⟩
 ·have e2:D=u:=by
   cases c with
   |ty n=>cases (show D=Value.type n from E);exact ay F
   |ref a=>cases (show D=Value.ref a from E);exact ay F
   |_=>cases F
  subst e2;exact cb (DS Z l) I.kIn p e (fun z=>nomatch z) fun tk=>⟨.bl b,H,I.tok _,rfl,q⟩
 ·cases (show D=Value.ref G from E);obtain ⟨_,an,rv,ob,h1,J,n,O⟩:=(show ObjOk X.prog X.w H s.heap G (.tup (ds.map V.ref)) from I.hok G _ ht);have hi:=BY rv;subst hi;obtain ⟨oc,od,am,ah⟩:=ob
  dsimp only at J O
  subst J O;exact PySem.W.kia_tup (DS Z l) I.kIn p h1 e (fun z=>nomatch z) fun tk=>⟨.bl b,H,I.tok _,rfl,q⟩
end
end L2
namespace L2
open PySem PySem.Spec PyProof.Rows
section
variable {X:Cx} {x:Str} {C:Addr} {ko p:Pos} {e:Expr} {es:List Expr} {t:TA}
end
section
variable {X:Cx}
end
def VR (C:Addr) (m:Str) (sp:Sp) (R:St->Value->Hp->Prop) (F:TE) (t:TA):TE:=fun h H Q=>F h H fun x l=>∃a G D,x=.ref a/\l a=some (.ins C G D)/\D.lookup m=none/\
 t h l fun E I=>sp (x::E) I Q (fun c _ J=>R h c J)
structure MeX (P:Program) (w:World) (K:PySem.W.Frag) (mg:Str->Option Value) (base:Heap) (k:Nat) (C:Addr) (m:Str) (ps:List Str) (sp:Sp):Prop where
 ex:Cls K C/\∃(f:Addr) (fd:FuncData),Meth K C m f/\FnOk P w K mg base (kJ P w) k f fd ps sp/\Binds K fd ps []
section
variable {X:Cx} {R:St->Value->Hp->Prop} {k k':Nat} {x m:Str} {C:Addr} {ps:List Str} {sp:Sp} {p ko ki:Pos} {o e:Expr} {es:List Expr} {ta:TE} {t:TA}
theorem QY {pl:Sem Bool} (M:MeX X.prog X.w X.K X.mg X.base k C m ps sp) (hx:Q3 X R) (hr:Room k' X.A) (ho:PE X o ta) (ha:PA X (e::es) t) (hk:k<=k':=by decide)
  (D:starEach (e::es) X.env=(false,eval e X.env)::starEach es X.env:=by rfl) (hpl:(backTo ko (starEach es X.env)).any (·.1)=false:=by rfl)
  (ht:eval (.Call (.Attribute o m ki) (e::es) [] ko) X.env=(do
   let J <- eval o X.env
   standAt ki.atName
   let (f,first) <- holding [J] (getMethod J m pl)
   callWith ko f first (backTo ko (starEach (e::es) X.env)) (backToKw ko (keywordEach [] X.env))):=by rfl) :
  PE X (.Call (.Attribute o m ki) (e::es) [] ko) (VR C m sp R ta t):=by
 obtain ⟨c,f,fd,O,G,b⟩:=M.ex;intro S s E H Q I h;refine eo (pl:=pl) (jZ (ho S s E H _ I h) fun u s1 ⟨x,Z,V,rx,a,dx,fs,ex,ea,l,q⟩=>?_) ht;subst ex;obtain rfl:u=Value.ref a:=rx;refine lE V ea c O l ?_;refine cx (first:=[.ref a]) (h₀:=X.base) I.ok.mod.kin O.kp (jZ (ha ko S s1 E Z _ V q) fun us s2 ⟨vs,H2,F,r,Y⟩=>⟨F.kIn,?_⟩) D hpl;exact EH (us:=.ref a::us) (vs:=.ref a::vs) (dvs:=[]) G (hr.mono hk) b .nil hx F (.cons rfl r) (by rw [di];exact Y)
theorem mJ {CX:yI} {P:Program} {w:World} {K:PySem.W.Frag} {D:Str->Option Value} {base:Heap} {N:List Str} {G:Str} {scope:Scope} {f:Addr} {F:Value} {A:Around} {outer:List Env} {s:Shared} {H:Hp} {E:XK} :
  PassesOwn (model (qF CX P w K D base N G scope f F A outer s H E).prog (qF CX P w K D base N G scope f F A outer s H E).w) (qF CX P w K D base N G scope f F A outer s H E).A (qF CX P w K D base N G scope f F A outer s H E).env (qF CX P w K D base N G scope f F A outer s H E).xe:=by
 intro e J h;exact PassesOwn.leaving (Q₁:=fun e l=>CX outer H s E e l) (E₁:=fun I l=>CX outer H s E I l) e J h
end
section
variable {κ:Type} [DecidableEq κ]
def yD (h:List (κ×V)) (k:κ):Option V:=(h.find? fun l=>decide (l.1=k)).map (·.2)
def zY (l:List (κ×V)) (k:κ) (v:V):List (κ×V) :=
 if (l.any fun h=>decide (h.1=k))=true then l.map (fun h=>if h.1=k then (h.1,v) else h) else l++[(k,v)]
theorem valV_nil {k:κ}:yD ([]:List (κ×V)) k=none:=rfl
theorem cA {p:κ×V} {r:List (κ×V)} {k:κ} (e:p.1=k):yD (p::r) k=some p.2:=by simp [yD,fz,e]
theorem zG {p:κ×V} {r:List (κ×V)} {k:κ} (e:¬p.1=k):yD (p::r) k=yD r k:=by simp [yD,fz,e]
theorem C8 (k:κ):∀h:List (κ×V),(h.any fun l=>decide (l.1=k))=(yD h k).isSome
 |[]=>rfl
 |p::r=>by
  rw [gk]
  by_cases e:p.1=k
  ·simp only [cA e,bi e,Bool.true_or,Option.isSome_some]
  ·rw [zG e,aN e,Bool.false_or];exact C8 k r
theorem OQ (h:List (κ×V)) (k:κ) (v:V):(zY h k v).length<=h.length+1:=by
 unfold zY
 split
 ·rw [ac];lia
 ·rw [ag,ck,List.length_nil];lia
theorem lR {l:List (κ×V)} {k:κ} (v:V) (h:yD l k=none):zY l k v=l++[(k,v)]:=by
 unfold zY;rw [C8,h];exact if_neg (by decide)
theorem KV.val {F:List (κ×V)} {vs:List (κ×Value)} (r:KV F vs) (k:κ):RelO (yD F k) (valueAt vs k):=by
 unfold KV at r
 induction r with
 |nil=>exact True.intro
 |@cons p q J l h t I =>
  obtain ⟨E,G⟩:=h
  by_cases e:p.1=k
  ·have D:q.1=k:=E.symm.trans e;have b:valueAt (q::l) k=some q.2:=by simp [valueAt,fz,D]
   rw [cA e,b];exact G
  ·have D:¬q.1=k:=fun z=>e (E.trans z)
   have b:valueAt (q::l) k=valueAt l k:=by simp [valueAt,fz,D]
   rw [zG e,b];exact I
theorem KV.any {D:List (κ×V)} {vs:List (κ×Value)} (r:KV D vs) (k:κ):(D.any fun l=>decide (l.1=k))=vs.any fun l=>decide (l.1=k):=by
 unfold KV at r
 induction r with
 |nil=>rfl
 |cons h t E=>rw [gk,gk,E,h.1]
theorem KV.repl {E:List (κ×V)} {vs:List (κ×Value)} (r:KV E vs) (k:κ) {y:V} {u:Value} (I:RelV y u) :
  KV (E.map fun l=>if l.1=k then (l.1,y) else l) (vs.map fun l=>if l.1=k then (l.1,u) else l):=by
 unfold KV at r ⊢
 induction r with
 |nil=>exact .nil
 |@cons p q J O h t G =>
  rw [gj,gj];refine .cons ?_ G;obtain ⟨D,F⟩:=h
  by_cases e:p.1=k
  ·rw [if_pos e,if_pos (D.symm.trans e)];exact ⟨D,I⟩
  ·rw [if_neg e,if_neg (fun z=>e (D.trans z))];exact ⟨D,F⟩
theorem KV.put {h:List (κ×V)} {vs:List (κ×Value)} (r:KV h vs) (k:κ) {y:V} {u:Value} (l:RelV y u):KV (zY h k y) (stored vs k u):=by
 unfold zY stored;rw [r.any k]
 by_cases e:(vs.any fun D=>decide (D.1=k))=true
 ·rw [if_pos e,if_pos e];exact r.repl k l
 ·rw [if_neg e,if_neg e];exact Paired.snoc r ⟨rfl,l⟩
end
variable {w:World}
theorem xA {P:Program} {k:kQ} {u:Value} (r:RelV (kV k) u):(zS P w).is k u=true:=by
 cases k with
 |inl i=>obtain ⟨t,e⟩:=(show ∃t,u=Value.int i t from r);subst e;exact OO P w i t
 |inr x=>obtain ⟨t,e⟩:=(show ∃t,u=Value.str x t from r);subst e;exact ON P w x t
theorem CK {P:Program} {w:World}:∀{l:List kQ} {us:List Value},Vals (l.map kV) us->ItemsAre (zS P w) l us
 |[],_,r=>by rw [List.map_nil] at r;cases r;exact .nil
 |k::l,_,r=>by
  rw [gj] at r;cases r with
  |cons h t=>exact .cons (xA h) (CK t)
abbrev KT (H:Hp):List (List kQ×V)->List (List kQ×Addr×Value)->Prop:=Paired fun p q=>p.1=q.1/\H q.2.1=some (.tup (p.1.map kV))/\RelV p.2 q.2.2
variable {H:Hp}
theorem KT.val {F:List (List kQ×V)} {xs:List (List kQ×Addr×Value)} (r:KT H F xs) (k:List kQ):RelO (yD F k) ((atKey xs k).map (·.2)):=by
 induction r with
 |nil=>exact True.intro
 |@cons p q J l h t I =>
  obtain ⟨E,_,G⟩:=h
  by_cases e:p.1=k
  ·have D:q.1=k:=E.symm.trans e;have b:atKey (q::l) k=some q.2:=by simp [atKey,fz,D]
   rw [cA e,b];exact G
  ·have D:¬q.1=k:=fun z=>e (E.trans z)
   have b:atKey (q::l) k=atKey l k:=by simp [atKey,fz,D]
   rw [zG e,b];exact I
section
variable {P:Program} {w:World} {H:Hp} {h:Heap} {a:Addr}
theorem FY {u:HO} (l:HOk P w H h) (e:Rd H a u):ObjOk P w H h a u:=e.ok l
theorem xD {l:List (kQ×V)} (D:HOk P w H h) (e:Rd H a (.dK l)):l.length<=sizeLine/\(a == sysModules)=false/\∃vs,KV l vs/\h.DictOf (zS P w) a vs :=
 show ObjOk P w H h a (.dK l) from FY D e
theorem XH {l:List (kQ×V)} (D:HOk P w H h) (e:H a=some (.dK l)):l.length<=sizeLine/\(a == sysModules)=false/\∃vs,KV l vs/\h.DictOf (zS P w) a vs:=xD D (.inl e)
theorem FM {D:List kQ} (F:HOk P w H h) (e:H a=some (.tup (D.map kV))):(tupleKind (zS P w)).is h D a:=by
 obtain ⟨_,l,r,o,G,E,n,I⟩:=(show ObjOk P w H h a (.tup (D.map kV)) from F a _ e);exact ⟨o,l.toArray,n,G,E,I,by simpa using CK r⟩
theorem GD {E:List (List kQ×V)} (G:HOk P w H h) (e:Rd H a (.dT E)):E.length<=sizeLine/\(a == sysModules)=false/\
  ∃xs,KT H E xs/\h.DictOfH (tupleKind (zS P w)) a xs:=by
 obtain ⟨z,y,xs,r,o,es,Y,Z,S,h3,J,O⟩:=(show ObjOk P w H h a (.dT E) from FY G e);refine ⟨z,y,xs,r,o,es,Y,Z,S,h3,J,fun x D=>?_,O⟩;have F:∀{l:List (List kQ×V)} {m:List (List kQ×Addr×Value)},KT H l m->∀x∈m,(tupleKind (zS P w)).is h x.1 x.2.1:=by
  intro l m q
  induction q with
  |nil=>intro x D;exact nomatch D
  |@cons p q ps qs I t ih =>
   intro x D
   rcases aj.mp D with e|D
   ·subst e;exact FM G (by rw [<- I.1];exact I.2.1)
   ·exact ih x D
 exact F r x D
end
def DGet (H:Hp) (a:Addr) (y:V) (r:Option V):Prop :=
 (∃h k,Rd H a (.dK h)/\y=kV k/\r=yD h k)\/∃h k b,Rd H a (.dT h)/\y=.ref b/\H b=some (.tup (k.map kV))/\r=yD h k
theorem DGet.kq {a:Addr} {h:List (kQ×V)} {k:kQ} (e:H a=some (.dK h)):DGet H a (kV k) (yD h k):=.inl ⟨h,k,.inl e,rfl,rfl⟩
section
variable {X:Cx} {ke:List (Addr×Obj)} {σ:St} {H:Hp} {s:Shared} {a:Addr} {y v:V} {u r:Value} {o:Option V} {A:Around} {E:Value->Shared->Prop}
theorem Inv.big (I:Inv X ke σ H s):sysModules<s.heap.objs.size:=by
 have h:mainGlobals<s.heap.objs.size:=(I.mod.glob.keeps I.bk).lt;exact Nat.lt_trans (by decide) h
theorem SK {Q:Value->Shared->Prop} (hu:A.units+1<cLine) (I:Inv X ke σ H s) (g:DGet H a y (some v)) (Z:RelV y u) (h:∀G Y,Inv X ke σ H Y->RelV v G->Q G Y) :
  wpAny (model X.prog X.w) A (getItem (.ref a) u) Q E s:=by
 rcases g with ⟨km,k,e,O,l⟩|⟨km,k,b,e,O,eb,l⟩
 ·subst O;obtain ⟨z,hd,vs,D,J⟩:=xD I.hok e;obtain ⟨G,V,F⟩:=RelO.some_of (v:=v) (o:=valueAt vs k) (by rw [l];exact D.val k);exact wpAny_getItem_of (xA Z) J.mapOf V (h G _ (I.tok _) F)
 ·subst O;cases (show u=Value.ref b from Z);obtain ⟨z,hd,xs,D,J⟩:=GD I.hok e;obtain ⟨G,V,F⟩:=RelO.some_of (v:=v) (o:=(atKey xs k).map (·.2)) (by rw [l];exact D.val k);obtain ⟨p,hp,S⟩:=aT.mp V;refine wpAny_getItem_heap (tupleKind_room_in1 hu) (FM I.hok eb) J hp ?_;rw [S];exact h G _ (I.tok _) F
theorem VH {h':Heap} {t':Nat} {h:HO} (I:Inv X ke σ H s) (D:gZ (H a)) (G:Heap.SameBut a s.heap h') (he:∃q,h'.get? a=some q) (l:ObjOk X.prog X.w (upd H a h) h' a h) :
  Inv X ke σ (upd H a h) {s with heap:=h',toks:=t'} :=
 I.write (x:=a) (e:=a) D (.inl rfl) (fun b q F z=>(G.2 b F).trans z) he l
theorem WL {P:Program} {w:World} {F:Hp} {h':Heap} {h:List (kQ×V)} {vs:List (kQ×Value)} (z:h.length<=sizeLine) (D:(a == sysModules)=false) (l:KV h vs) (dd:h'.DictOf (zS P w) a vs) :
  ObjOk P w F h' a (.dK h):=⟨z,D,vs,l,dd⟩
end
section
variable {X:Cx} {ke:List (Addr×Obj)} {σ:St} {H:Hp} {s:Shared} {a:Addr} {km:List (kQ×V)} {k:kQ} {u:Value} {A:Around} {E:Value->Shared->Prop}
end
def GV (i:Expr):Prop:=∀l h,subscripted i false l h=operate [l,h] (getItem l h)
variable {ko:Pos}
theorem UH {prog:Program} {A:Around} {E:Value->Shared->Prop} {s:Shared} {J:Env} {Y V:Expr} {T id:String} {Q:Value->Shared->Prop}
  (hl:typeLookup (.type T) "__getitem__"=pure (some (.builtin id))) (hs:GV V)
  (h:wpAny (model prog w) A (eval Y J) (fun o G=>wpAny (model prog w) A (eval V J) (fun i l=>l.TypeIs o T/\wpAny (model prog w) A (getItem o i) Q E l) E G) E s) :
  wpAny (model prog w) A (eval (.Subscript Y V ko) J) Q E s:=by
 refine Subscript_ (bn h (fun o G S=>bn S (fun i l D=>?_) fun _ _ x=>x) fun _ _ x=>x);obtain ⟨Z,D⟩:=D;unfold subscriptTail;refine ad ?_;rw [getitemInPython_of_ne Z.not_modules];refine ad (wpAny_specialOf Z hl ?_);have I:wpAny (model prog w) A (subscripted V false o i) (fun r F=>wpAny (model prog w) A (letTemporaryGo Y o r >>= fun _=>pure r) Q E F) E l:=by
  rw [hs o i];exact wpAny_operating (bn D (fun r F O=>ad (wpAny_letTemporaryGo (aJ O))) fun _ _ x=>x)
 first
  |exact aJ (ad I)
  |exact ad (aJ (ad I))
  |exact ad I
variable {X:Cx}
theorem OW {l:List (Addr×Obj)} {D:St} {s:Shared} {a:Addr} {y:V} {o:Option V} (I:Inv X l D H s) (g:DGet H a y o):s.TypeIs (.ref a) "dict":=by
 rcases g with ⟨E,k,e,_,_⟩|⟨E,k,b,e,_,_,_⟩
 ·obtain ⟨_,_,F,_,h⟩:=xD I.hok e;exact h.typeIs
 ·obtain ⟨_,_,G,_,h⟩:=GD I.hok e;exact h.typeIs
def WW (F E:TE):TE:=fun h H Q=>F h H fun x D=>E h D fun y l=>∃a v,x=.ref a/\DGet l a y (some v)/\Q v l
section
variable {X:Cx} {o i e kx:Expr} {ko pos' kh:Pos} {td ty tv:TE}
theorem EK (S:X.A.units+1<cLine) (Y:PE X o td) (hi:PE X i ty) (hs:GV i):PE X (.Subscript o i ko) (WW td ty):=by
 intro G s D H Q I h;refine UH PySem.F.slot_dict_getitem.lookup hs (jZ (Y G s D H _ I h) fun u Z ⟨x,V,I1,rx,J⟩=>jZ (hi G Z D V _ I1 J) fun iv s2 ⟨y,H2,E,ry,a,v,ex,g,O⟩=>?_);subst ex;obtain rfl:u=Value.ref a:=rx;exact ⟨OW E g,SK S E g ry fun w' s3 I3 l=>⟨v,H2,I3,l,O⟩⟩
end
theorem T2 {P:Program} (h:Heap) (l:sysModules<h.objs.size):ObjOk P w H (h.push {cls:=.type "dict",data:=.dict #[]}) h.objs.size (.dK []) :=
 ⟨aH _,dc.mpr (Ne.symm (aQ l)),[],.nil,Heap.DictOf.new h⟩
section
variable {X:Cx} {ko:Pos}
end
def wL:List (TE×TE)->St->Hp->(List (V×V)->Hp->Prop)->Prop
 |[],_,H,Q=>Q [] H
 | (D,F)::r,h,H,Q=>D h H fun x l=>F h l fun y E=>wL r h E fun ps G=>Q ((x,y)::ps) G
abbrev VV:List (V×V)->List (Value×Value)->Prop:=Paired fun p q=>RelV p.1 q.1/\RelV p.2 q.2
def nY (X:Cx) (ko:Pos) (l:List (Option Expr)) (h:List Expr) (E:List (TE×TE)):Prop :=
 ∀(G:List (Addr×Obj)) (s:Shared) (D:St) (H:Hp) (Q:List (V×V)->Hp->Prop),Inv X G D H s->wL E D H Q->
  wpAny (model X.prog X.w) X.A (evalPairs (pairTrees l h X.env ko)) (fun J O=>∃F I,Inv X G D I O/\VV F J/\Q F I) X.xe s
theorem UO:nY X ko [] [] []:=fun l s D H Q I h=>pairTrees_nil_walk ⟨[],H,I,.nil,h⟩
theorem lS {k v:Expr} {J:List (Option Expr)} {vs:List Expr} {O G:TE} {l:List (TE×TE)} (hk:PE X k O) (hv:PE X v G) (hr:nY X ko J vs l) :
  nY X ko (some k::J) (v::vs) ((O,G)::l):=fun F s E H Q I h =>
 pairTrees_cons_walk (jZ (hk F s E H _ I h) fun u s1 ⟨x,Z,I1,rx,S⟩=>jZ (hv F s1 E Z _ I1 S) fun w2 s2 ⟨y,H2,Y,ry,V⟩ =>
  jZ (hr F s2 E H2 _ Y V) fun ws s3 ⟨ps,H3,I3,D,q3⟩=>⟨(x,y)::ps,H3,I3,.cons ⟨rx,ry⟩ D,q3⟩)
def eE (E h:List (kQ×V)):List (kQ×V):=h.foldl (fun l D=>zY l D.1 D.2) E
theorem KV.merge:∀{l:List (kQ×V)} {E:List (kQ×Value)} {D:List (kQ×V)} {vs:List (kQ×Value)},KV l E->KV D vs->KV (eE D l) (merged vs E):=by
 intro l E D vs r;unfold KV at r
 induction r generalizing D vs with
 |nil=>intro q;exact q
 |@cons p q I J h t F =>
  intro G;have e:KV (zY D p.1 p.2) (stored vs q.1 q.2):=by
   have:=G.put p.1 h.2;rw [<- h.1];exact this
  exact F e
theorem AS:∀(l h:List (kQ×V)),(eE h l).length<=h.length+l.length
 |[],h=>by show h.length<=h.length+0;lia
 |p::r,h=>by
  have D:=AS r (zY h p.1 p.2);have E:=OQ h p.1 p.2;show (eE (zY h p.1 p.2) r).length<=_;rw [ck];lia
theorem BS {P:Program} {w:World}:∀{D:List (kQ×V)} {E:List (Value×Value)},VV (D.map fun F=>(kV F.1,F.2)) E->∃l,Carries (zS P w) E l/\KV D l
 |[],_,r=>by rw [List.map_nil] at r;cases r;exact ⟨[],True.intro,.nil⟩
 |p::D,_,r=>by
  rw [gj] at r;cases r with
  |@cons a b as bs h t =>
   obtain ⟨l,c,q⟩:=BS (P:=P) (w:=w) t;obtain ⟨I,G⟩:=b;exact ⟨(p.1,G)::l,⟨xA h.1,rfl,c⟩,.cons ⟨rfl,h.2⟩ q⟩
def WV (h:List (TE×TE)):TE:=fun G H Q=>∀p,H p=none->wL h G (upd H p (.dK [])) fun F D=>D p=some (.dK [])/\∃l:List (kQ×V),F=l.map (fun E=>(kV E.1,E.2))/\l.length<=15/\Q (.ref p) (upd D p (.dK (eE [] l)))
theorem UV {l:List (Option Expr)} {D:List Expr} {E:List (TE×TE)} (h:nY X ko l D E) (F:l.all (·.isSome)=true) (hl:l.length=D.length) (h0:l≠[])
  (O:l.length<=15):PE X (.Dict l D ko) (WV E):=by
 intro ke s σ H Q I q;have hn:=I.hok.fresh (ak s.heap.objs.size);have I1:=I.laid (a:=s.heap.objs.size) (o:=.dK []) (h':=s.heap.push {cls:=.type "dict",data:=.dict #[]}) (t':=s.toks) (fun _ _ q=>ai _ q) (ak _) (T2 s.heap I.big);refine wpAny_Dict_walk (knd:=zS X.prog X.w) F hl h0 O (jZ (h ke _ σ _ _ I1 (q _ hn)) fun ws s2 ⟨ps,H2,S,J,e,V,ep,lk,Y⟩=>?_);subst ep;obtain ⟨Z,c,rk⟩:=BS (P:=X.prog) (w:=X.w) J;obtain ⟨z,hd,ah,r0,dd⟩:=XH S.hok e;cases r0;refine ⟨Z,c,dd,fun h' G hs=>⟨.ref s.heap.objs.size,_,?_,rfl,Y⟩⟩;have hz:(eE [] V).length<=sizeLine:=by
  have h1:=AS V [];rw [List.length_nil] at h1;rw [sizeLine_eq];lia
 have he:∃q,h'.get? s.heap.objs.size=some q:=let ⟨q,_,_,hq,_⟩:=G;⟨q,hq⟩
 exact VH S (by rw [e];exact True.intro) hs he (WL hz hd (rk.merge .nil) G)
end L2
namespace L2
open PySem PySem.Spec PyProof.Rows
section
variable {X:Cx} {tg:Expr}
end
section
variable {X:Cx}
end
inductive Kd where
 |plain|basin|pump
structure MeK (P:Program) (w:World) (K:PySem.W.Frag) (mg:Str->Option Value) (base:Heap) (k:Nat) (cs:Kd->Addr) (m:Str) (ps:List Str) (ss:Kd->Sp):Prop where
 ex:∀kd,MeD P w K mg base k (cs kd) m ps (ss kd)
def VS (cs:Kd->Addr) (m:Str) (O:Kd->Sp) (G:TE) (t:TA):TE:=fun D H Q=>G D H fun x h=>∃(l:Kd) (a I:Addr) (E:List (Str×V)),x=.ref a/\h a=some (.ins (cs l) I E)/\E.lookup m=none/\
 t D h fun F J=>O l (x::F) J Q E0
section
variable {X:Cx} {k k':Nat} {x m:Str} {cs:Kd->Addr} {ps:List Str} {ss:Kd->Sp} {p ko ki:Pos} {o e:Expr} {es:List Expr} {ta:TE} {t:TA}
theorem FZ {pl:Sem Bool} (M:MeK X.prog X.w X.K X.mg X.base k cs m ps ss) (hr:Room k' X.A) (ho:PE X o ta) (ha:PA X (e::es) t) (hk:k<=k':=by decide)
  (D:starEach (e::es) X.env=(false,eval e X.env)::starEach es X.env:=by rfl) (hpl:(backTo ko (starEach es X.env)).any (·.1)=false:=by rfl)
  (ht:eval (.Call (.Attribute o m ki) (e::es) [] ko) X.env=(do
   let J <- eval o X.env
   standAt ki.atName
   let (f,first) <- holding [J] (getMethod J m pl)
   callWith ko f first (backTo ko (starEach (e::es) X.env)) (backToKw ko (keywordEach [] X.env))):=by rfl) :
  PE X (.Call (.Attribute o m ki) (e::es) [] ko) (VS cs m ss ta t):=by
 intro S s E H Q I h;refine eo (pl:=pl) (jZ (ho S s E H _ I h) fun u s1 ⟨x,H1,V,rx,Z,a,dx,fs,ex,ea,l,q⟩=>?_) ht;obtain ⟨c,f,fd,O,G,b⟩:=(M.ex Z).ex;subst ex;obtain rfl:u=Value.ref a:=rx;refine lE V ea c O l ?_;refine cx (first:=[.ref a]) (h₀:=X.base) I.ok.mod.kin O.kp (jZ (ha ko S s1 E H1 _ V q) fun us s2 ⟨vs,H2,F,r,Y⟩=>⟨F.kIn,?_⟩) D hpl;exact gD (us:=.ref a::us) (vs:=.ref a::vs) (dvs:=[]) G (hr.mono hk) b .nil eI F (.cons rfl r) (by rw [di];exact Y)
end
def iA (z:Str):It:=⟨fun i _=>i<z.cps.size,fun i H v h=>h=H/\∃c,z.cps[i]?=some c/\v=.str ⟨#[c]⟩,fun i _=>i=z.cps.size⟩
theorem B3 {P:Program} {w:World} {K:PySem.W.Frag} {tg:Expr} (it:Addr) (z:Str) (t:Tok) (T:String)
  (W:∀A:Around,A.handled=none->Walks P w A it [it] [it] z.cps.size (SignAt z) (fun i h=>h.IsStrIter it T z t i))
  (hn:["enumerate","zip","dict_itemiterator","dict_reverseitemiterator","odict_iterator","itertools.zip_longest","itertools.pairwise"].contains T=false)
  (D:∀(A:Around) (i:Nat) (s:Shared) (Q:Value->Shared->Prop) (E:Value->Shared->Prop),s.heap.IsStrIter it T z t i->Q (.ref it) s->wpAny (model P w) A (pyIter (.ref it)) Q E s) :
  Turn P w K tg (iA z) [it] it (fun i h=>h.IsStrIter it T z t i) where
 mem:=by simp
 obj:=fun i h l b F=>by
  have e:b=it:=by simpa using F
  subst e;obtain ⟨o,J,_,hd⟩:=l;exact ⟨o,J,fun v q=>by rw [hd] at q;cases q⟩
 keep:=fun i h S l k=>by
  obtain ⟨o,J,r⟩:=l;exact ⟨o,k it (by simp) o J,r⟩
 item:=by
  intro X Y V hK hc i ke s σ H E I O l hg;subst Y V hK;obtain ⟨f0,f1,f2,f3,f4,f5⟩:=O it (by simp);refine (W X.A (I.ok.hd hc)).item i s _ _ hg l fun v S tk hv G kk=>?_
  obtain ⟨c,u,Z,rfl⟩:=hv;have I1:Inv X ke σ H {s with heap:=S,toks:=tk}:=I.turned (fun b o F e=>kk b o (by simpa using F) e) f0 f1 f3 f4 f5;have ah:=G;obtain ⟨o,J,am,hd⟩:=ah;exact ⟨_,rfl,mZ (s:={s with heap:=S,toks:=tk}) (n:=T) J am hd hn ⟨.str ⟨#[c]⟩,H,I1,⟨u,rfl⟩,⟨rfl,c,Z,rfl⟩,G,fun b F=>(O b F).1⟩⟩
 done:=by
  intro X Y V hK hc i ke s σ H E I O l hg;subst Y V hK;obtain ⟨f0,f1,f2,f3,f4,f5⟩:=O it (by simp);have e:i=z.cps.size:=hg;subst e;exact (W X.A (I.ok.hd hc)).done s _ _ l fun S tk eb=>⟨rfl,I.turned (fun b o F e=>eb b o (by simpa using F) e) f0 f1 f3 f4 f5⟩
 self:=fun A i s Q E l h=>D A i s Q E l h
section
variable {X:Cx} {tg:Expr}
def X5 (D:TE):TI:=fun l H R=>D l H fun x h=>∃z:Str,x=.str z/\R (iA z) h
theorem V0 {l:Expr} {Z:TE} (hl:PE X l Z):PI X tg l (X5 Z):=by
 intro Y s V H R I h;refine jZ (hl Y s V H _ I h) fun v D ⟨x,H1,O,r1,q1⟩=>?_
 obtain ⟨z,e,q⟩:=q1;subst e;obtain ⟨t,rfl⟩:=r1;have F:∀(o:Obj) (T:String) (G:Nat->Heap->Prop),Turn X.prog X.w X.K tg (iA z) [D.heap.objs.size] D.heap.objs.size G->G 0 (D.heap.push o)->xZ X Y V tg R (.ref D.heap.objs.size) {D with heap:=D.heap.push o}:=by
  intro o T G tu h0;refine ⟨D.heap.objs.size,[D.heap.objs.size],G,_,H1,rfl,O.kept (t':=D.toks) fun b o e=>ai _ e,tu,h0,fun b hb=>?_,q⟩;have e:b=D.heap.objs.size:=by simpa using hb
  subst e;exact O.fpOk (ak _) (O.hok.fresh (ak _))
 cases ha:z.cps.all (· < 128)
 ·exact wpAny_pyIter_wide ha (F _ "str_iterator" _ (B3 _ z t "str_iterator" (fun A S=>Walks.strWide S _ z t) (by decide) (fun A i s Q E J h=>wpAny_pyIter_striter_wide J h)) ⟨_,aw _ rfl,rfl,rfl⟩)
 ·exact wpAny_pyIter_ascii ha (F _ "str_ascii_iterator" _ (B3 _ z t "str_ascii_iterator" (fun A S=>Walks.strAscii S _ z t) (by decide) (fun A i s Q E J h=>wpAny_pyIter_striter_ascii J h)) ⟨_,aw _ rfl,rfl,rfl⟩)
end
theorem RK {z:Str} {D:Addr} {g:TG} {S:TT} {J:TE} {h:St} {H:Hp} {Q:Hp->Prop} (F:Nat->St->Hp->Prop) (Y:F 0 h (upd H D (.lst [])))
  (hs:∀i c E H,z.cps[i]?=some c->F i E H->g (.str ⟨#[c]⟩) E H fun l H3=>S l H3 fun b O=>if b=true then J l O fun v I=>∃ys,I D=some (.lst ys)/\ys.length<sizeLine/\F (i+1) l (upd I D (.lst (ys++[v]))) else F (i+1) l O)
  (Z:∀E H,F z.cps.size E H->Q H):JS D (iA z) g S J h H Q:=by
 refine ⟨fun i m E H=>m=z.cps.size - i/\i<=z.cps.size/\F i E H,⟨_,rfl,aH _,Y⟩,?_⟩;rintro i m E H ⟨rfl,hi,p⟩
 by_cases G:i<z.cps.size
 ·refine .inr ⟨G,F (i+1),fun ah V p'=>⟨z.cps.size - (i+1),by lia,rfl,G,p'⟩,fun x V y=>?_⟩;obtain ⟨e,c,hc,y⟩:=y;subst e y;exact hs i c E _ hc p
 ·have e:i=z.cps.size:=by lia
  subst e;exact .inl ⟨rfl,Z E H p⟩
theorem SL {z:Str} {D:Addr} {S:TT} {J:TE} {caps:St} {H:Hp} {Q:Hp->Prop} (R:Nat->List V->Hp->Prop) (hD:H D=none) (Z:R 0 [] (upd H D (.lst [])))
  (hs:∀i c ys h,z.cps[i]?=some c->ys.length<=i->Same H h->h D=some (.lst ys)->R i ys h->S (some (.str ⟨#[c]⟩)::caps) h fun b O=>if b=true then J (some (.str ⟨#[c]⟩)::caps) O fun v I=>∃F,I D=some (.lst F)/\F.length<sizeLine/\JT H D caps R (i+1) (some (.str ⟨#[c]⟩)::caps) (upd I D (.lst (F++[v])))
   else JT H D caps R (i+1) (some (.str ⟨#[c]⟩)::caps) O)
  (hd:∀ys l,Same H l->l D=some (.lst ys)->ys.length<=z.cps.size->R z.cps.size ys l->Q l):JS D (iA z) (bJ 0) S J (none::caps) H Q:=by
 refine RK (JT H D caps R) ⟨[],none,rfl,qJ hD (Same.refl H),jF,ak _,Z⟩ ?_ ?_
 ·rintro i c Y h hi ⟨ys,c',rfl,s,E,G,r⟩;exact hs i c ys h hi G s E r
 ·rintro Y l ⟨ys,c,rfl,s,E,G,r⟩;exact hd ys l s E G r
section
variable {X:Cx}
def XW:V->Option Int->Option Int->Hp->VK->Prop:=fun x l h H Q=>∃z:Str,x=.str z/\z.length<=sizeLine/\Q (.str (Txt.slice z l h)) H
theorem FG:nX X XW:=by
 intro ke s σ H x v vl vu lo hi Y Q I rx hs pl V h;obtain ⟨z,rfl,hz,q⟩:=h;obtain ⟨t,rfl⟩:=rx;refine ⟨"str",_,F.slot_str_getitem.lookup,typeIs_str _ _ _,?_⟩;have D:∀(l u:Option (Int×Tok)),l.map (·.1)=lo->u.map (·.1)=hi->s.heap.IsSlice Y l u none->wpAny (model X.prog X.w) X.A (getItem (.str z t) (.ref Y)) (EP X ke σ Q) X.xe s:=by
  intro l u e1 e2 O;subst e1 e2;exact wpAny_getItem_str_slice O rfl (post_val_or_str ⟨aI (Txt.slice_le z _ _) hz,fun t' k=>⟨.str (Txt.slice z (l.map (·.1)) (u.map (·.1))),H,I.tok _,⟨t',rfl⟩,q⟩⟩)
 obtain ⟨o,E,J,G⟩:=hs;cases pl with
 |none =>
  cases V with
  |none=>exact D none none rfl rfl ⟨o,E,J,G⟩
  |int j S=>exact D none (some (j,S)) rfl rfl ⟨o,E,J,G⟩
 |int i Z =>
  cases V with
  |none=>exact D (some (i,Z)) none rfl rfl ⟨o,E,J,G⟩
  |int j S=>exact D (some (i,Z)) (some (j,S)) rfl rfl ⟨o,E,J,G⟩
end
section
variable {X:Cx} {K:PySem.W.Frag} {w:World} {o i:Expr} {ko:Pos} {td ty:TE}
end
theorem EB {K:PySem.W.Frag} {H:Hp} {a:Addr} {o:Obj} {its:List Value} {n:Nat} {xs:List V} (l:K.lookup a=some o) (c:o.cls=.type "tuple") (d:o.data=.seq its.toArray n) (z:its.length<=sizeLine) (v:Vals xs its):SqT K H a xs :=
 .inr ⟨o,its.toArray,n,l,c,d,by rw [ao];exact z,v⟩
section
variable {X:Cx} {ke:List (Addr×Obj)} {σ:St} {H:Hp} {s:Shared} {A:Around}
end
section
variable {X:Cx}
def VW:V->List V->Hp->VK->Prop:=fun x D H Q=>∃(l:Addr) (h:List V) (y:V) (j:Nat),x=.ref l/\D=[y]/\H l=some (.lst h)/\vZ y=true/\h.all vZ=true/\j<h.length/\j<=1000/\vX (h.getD j .non) y=true/\(∀i,i<j->vX (h.getD i .non) y=false)/\Q (.int (j:Int)) H
theorem TF:oA X "list.index" VW:=by
 intro ke s σ H x vs v us Q I rx rv h;obtain ⟨l,xs,y,j,rfl,rfl,hH,fy,Y,hj,ah,Z,S,q⟩:=h;cases rx;obtain ⟨u,rfl,ru⟩:=rv.one;obtain ⟨z,D,n,r,V,e⟩:=I.lstM hH;have J:∀(m:Nat) (E:m<D.toArray.size),yM y D.toArray[m]=vX (xs.getD m .non) y:=fun m E=>mO (tT r E) (uD Y (by rw [V];simpa using E))
 have G:j<D.toArray.size:=by rw [ao,<- V];exact hj
 refine gq F.slot_list_index ⟨_,e,rfl⟩ F.entry_list_index (F.args_list_index_2 _ _) (SeqAt.list_indexAt l D.toArray n none #[] u (yM y) j G (by lia) (by rw [J j G];exact Z) (fun m E O=>by rw [J m E];exact S m O)) ⟨e,fun w hw=>cD ru fy r Y w (by simpa using hw),⟨.int (j:Int),H,I.tok _,⟨_,rfl⟩,q⟩⟩
end
def UF (K:PySem.W.Frag) (E:Addr) (I:(St->Value->Hp->Prop)->TS) (G:TS):TS:=fun D F H=>∃R:St->Value->Hp->Prop,I R D F H/\∀h c l,R h c l->∃C,c=.ref C/\PySem.W.exmOne K (.ref C) (.ref E)=some true/\G D h l
theorem RS {X:Cx} {ku:List Stmt} {x:Str} {C0:Addr} {np an ko:Pos} {O:Stmt} {F:List Stmt} {tb:(St->Value->Hp->Prop)->TS} {ts:TS} (a3:X.ex=[]) (E:X.stack=X.env::X.outer) (hf:X.env.frame=some X.env.locals)
  (hg:Gl X x) (hm:X.mg x=some (.ref C0)) (hb:∀V R,Q3 (zM X V R) R->PSs (zM X V R) ku (tb R)) (hs:∀e,PSs (zR X e) (O::F) ts) (a5:(x == ("__debug__":Str))=false:=by decide) :
  PS X (.Try ku [.ExceptHandler (some (.Name x np)) none (O::F) an] [] [] ko) (UF X.K C0 tb ts):=by
 intro V s σ H D I h;obtain ⟨R,h1,h2⟩:=h;refine wpAny_Try_except (bn (hb V R (uC a3) [] s σ H D I.intoTry h1) (fun f s1 q=>?_) (fun v s1 q=>?_))
 ·have q':=q.outTry;cases f with
  |next=>exact fw q'
  |brk=>exact q'
  |cont=>exact q'
  |ret u=>exact q'
 ·obtain ⟨a,C',G,H',rfl,J,⟨B,a0,fl,l⟩,ha,_,r⟩:=q;obtain ⟨C,e1,ah,h3⟩:=h2 G (.ref C') H' r;cases e1;have a6:Heap.FlyingW B (X.env::X.outer) a (.ref C') a0 s1.heap:=by rw [E] at fl;exact fl
  have a4:X.A.frames=some (X.env::X.outer):=by rw [<- E];exact J.ok.frames
  refine kb a4 hf a6 fun h4 Y ap=>?_
  refine wpAny_landsW Y fun h5 S Z=>?_
  have J5:Inv X V G H' {s1 with heap:=h5}:=J.fly E hf (fun b o q n z=>S.1 b o (l b o q n z)) (ap.trans Z);obtain ⟨ob,aD,am⟩:=S.there;have LT:PySem.W.Looks (model X.prog X.w) h5 (typeOf (.ref a)) (.ref C'):=by
   have:PySem.W.Looks (model X.prog X.w) h5 (typeOf (.ref a)) ob.cls:=(gw aD).andThen .now;rw [am] at this;exact this
  refine wpAny_handleBy_cons (ip (QU (J5.intoSuite (.ref a)) hg hm ?_ a5)) (by intro q;cases q);have KI:X.K.In h5:=J5.kIn;refine (PySem.W.exm_one KI LT ah).here ?_;refine codeAny_handlers_suite ?_;refine lands_againW S fun h6 aU a7=>?_
  have J6:Inv X V G H' {s1 with heap:=h6}:=J.fly E hf (fun b o q n z=>aU.1 b o (l b o q n z)) ((ap.trans Z).trans a7);exact bn (hs (.ref a) V _ G H' D (J6.intoSuite _) h3) (fun f s' q=>q.outSuite J6.ok) fun _ _ z=>False.elim z
theorem bY {X:Cx} (K:PySem.W.Frag) (h:X.K=K:=by rfl):yK X (.type "tuple") (fun xs H Q=>∃p ys,xs=[.ref p]/\((SqL K H p ys/\∀l,H l=none->Q (.ref l) (upd H l (.tup ys)))\/(SqT K H p ys/\Q (.ref p) H))):=by subst h;exact N4
section
variable {X:Cx}
end
section
variable {X:Cx} {tg:Expr}
end
theorem RJ {K:PySem.W.Frag} {a D:Addr} {xs:List V} {g:TG} {S:TT} {J:TE} {l:St} {H:Hp} {Q:Hp->Prop} (F:Nat->St->Hp->Prop) (Z:F 0 l (upd H D (.lst []))) (hl:∀i h H,i<=xs.length->F i h H->SqT K H a xs)
    (hs:∀i x h H,xs[i]?=some x->F i h H->g x h H fun E H3=>S E H3 fun b O=>if b=true then J E O fun v I=>∃ys,I D=some (.lst ys)/\ys.length<sizeLine/\F (i+1) E (upd I D (.lst (ys++[v]))) else F (i+1) E O)
    (hd:∀h H,F xs.length h H->Q H):JS D (fD K a) g S J l H Q:=by
  refine ⟨fun i m h H=>m=xs.length - i/\i<=xs.length/\F i h H,⟨xs.length,by simp,aH _,Z⟩,?_⟩;rintro i m h H ⟨rfl,hi,p⟩;have q:=hl i h H hi p
  by_cases G:i<xs.length
  . refine .inr ⟨⟨xs,xs[i],q,by simp [G]⟩,F (i+1),fun ah Y p'=>⟨xs.length - (i+1),by lia,rfl,G,p'⟩,fun x Y y=>?_⟩
    obtain ⟨e,y⟩:=y;subst e;exact hs i x h _ (y xs q) p
  . have e:i=xs.length:=by lia
    subst e;exact .inl ⟨⟨xs,q,ak _⟩,hd h H p⟩
section
variable {X:Cx} {ke:List (Addr×Obj)} {σ:List (Option V)} {H:Hp} {s:Shared} {h':Heap}
theorem Inv.turnedN {t':Nat} {fp:List Addr} (I:Inv X ke σ H s) (k:∀b o,b∉fp->s.heap.get? b=some o->h'.get? b=some o) (D:∀b∈fp,JK X ke H b):Inv X ke σ H {s with heap:=h',toks:=t'}:=by
 have l:∀b u,H b=some u->b∉fp:=fun b u e z=>by rw [(D b z).1] at e;cases e
 have E:X.env.locals∉fp:=fun z=>(D _ z).2.1 rfl
 refine I.step (g':=s.gens) (d':=s.drawn) (ch:=fp) (fun b S=>?_) (fun b o _ _ h e _=>k b o h e) (fun b o _ _ h e _=>⟨o.slots,k b o h e⟩) (fun _ _ _ _ n=>n)
  (fun b o h e=>⟨o,k b o h e⟩) (fun _ _ e=>e) (fun _ _ _ e=>e) (fun b ps e=>⟨#[],by rw [e];simp⟩) (fun m O=>?_) (fun b u e=>?_) I.bare
 ·obtain ⟨f0,J,f2,Z,V,Y⟩:=D b S;exact ⟨Z,J,V,Y⟩
 ·obtain ⟨o,es,G,F,r⟩:=O;exact ⟨o,es,G,k _ o E F,r⟩
 ·refine (I.hok b u e).stay (fun c v h q=>k c v ?_ q) (fun _ q=>q) fun _ _ q=>q
  rcases h with z|z
  ·rw [z];exact l b u e
  ·exact l c _ z
theorem Inv.laidN {t':Nat} {fp:List Addr} {a:Addr} {o:HO} (I:Inv X ke σ H s) (k:∀b u,b∉fp->s.heap.get? b=some u->h'.get? b=some u) (F:∀b∈fp,JK X ke H b) (J:s.heap.objs.size<=a) (G:ObjOk X.prog X.w (upd H a o) h' a o) :
  Inv X ke σ (upd H a o) {s with heap:=h',toks:=t'}:=by
 have D:=I.hok.fresh J;have l:∀b u,H b=some u->b∉fp:=fun b u e z=>by rw [(F b z).1] at e;cases e
 have O:X.env.locals∉fp:=fun z=>(F _ z).2.1 rfl
 refine I.step (g':=s.gens) (d':=s.drawn) (ch:=fp) (fun b E=>?_) (fun b o _ _ h e _=>k b o h e) (fun b o _ _ h e _=>⟨o.slots,k b o h e⟩) (fun b u _ e n=>?_)
  (fun b o h e=>⟨o,k b o h e⟩) (fun b Y e=>?_) (fun b u v e=>?_) (fun b ps e=>⟨#[],?_⟩) (fun m hm=>?_) (fun b u e=>?_) I.bare
 ·obtain ⟨f0,Z,f2,f3,f4,f5⟩:=F b E;exact ⟨f3,Z,f4,f5⟩
 ·rw [jQ (aQ (av (aq e) J))];exact n
 ·rw [jQ (qE e D)];exact e
 ·rw [jQ (qE e D)];exact e
 ·rw [jQ (qE e D),e];simp
 ·obtain ⟨o,es,V,S,r⟩:=hm;exact ⟨o,es,V,k _ o O S,r⟩
 ·by_cases E:b=a
  ·subst E;rw [jF] at e;cases e;exact G
  ·rw [jQ E] at e;refine (I.hok b u e).stay (fun c v h q=>k c v ?_ q) (fun c q=>by rw [jQ (qE q D)];exact q) fun c Y q=>by rw [jQ (qE q D)];exact q
   rcases h with z|z
   ·rw [z];exact l b u e
   ·exact l c _ z
end
def iB (K:PySem.W.Frag) (a:Addr):It :=
 ⟨fun i H=>∃h x,SqL K H a h/\h[i]?=some x,
  fun i H v l=>∃T x,v=.ref T/\H T=none/\l=upd H T (.tup [.int (i:Int),x])/\∀h,SqL K H a h->h[i]?=some x,
  fun i H=>∃h,SqL K H a h/\h.length<=i⟩
theorem RN {P:Program} {w:World} {K:PySem.W.Frag} {kj:List Expr} {x1:Nat} {ko:Pos} {a e it:Addr} (Y:e≠it) :
  Turn P w K (.Tuple kj x1 ko) (iB K a) [e,it] e (fun i h=>(∃l,IsEnum h e it i l)/\h.IsListIter it a i) where
 mem:=by simp
 obj:=fun i h G b D=>by
  obtain ⟨⟨l,F⟩,⟨o1,e1,c1,d1⟩⟩:=G;simp only [aj,au,bv] at D
  rcases D with rfl|rfl
  ·exact ⟨_,F,fun v y=>by have y':Data.fields _=Data.cell v:=y;cases y'⟩
  ·exact ⟨o1,e1,fun v y=>by rw [d1] at y;cases y⟩
 keep:=fun i h h' G k=>by
  obtain ⟨⟨l,F⟩,V⟩:=G;exact ⟨⟨l,k _ (by simp) _ F⟩,V.at fun o e=>k _ (by simp) o e⟩
 item:=by
  intro X hP hw hK hc i ke s σ H E I hf G hg;subst hP hw hK;obtain ⟨⟨l,F⟩,V⟩:=G;obtain ⟨xs,x,J,hx⟩:=hg;obtain ⟨Z,O,p1,_⟩:=I.list J;obtain ⟨u,hu,ru⟩:=O.get hx;refine wpAny_pyNext_enum_item F V p1.isList (x:=u) (by simpa using hu) Y fun h' ap an ah a3 hk=>?_
  refine ⟨_,rfl,?_⟩;refine wpAny_letOwnedTupleGo_enum ap fun h2 aU S=>?_
  have lt:∀{b:Addr} {o:Obj},s.heap.get? b=some o->b<s.heap.objs.size:=fun e=>aq e
  have nT:s.heap.objs.size≠e:=ek (lt F);have k2:∀b o,b∉[e,it]->s.heap.get? b=some o->h2.get? b=some o:=fun b o D q=>by
   simp only [aj,au,bv,not_or] at D;exact (S.2 b D.1).trans (hk b o D.1 D.2 q)
  have aD:=(S.2 _ nT).trans ah;refine ⟨.ref s.heap.objs.size,upd H s.heap.objs.size (.tup [.int (i:Int),x]),I.laidN (t':=s.toks+1) (fp:=[e,it]) k2 hf (ak _) ⟨(by show 2<=sizeLine;decide),[.int i s.toks,u],.cons ⟨_,rfl⟩ (.cons ru .nil),⟨_,aD,rfl,_,rfl⟩⟩,rfl,?_,?_,?_⟩
  ·exact ⟨_,x,rfl,I.hok.fresh (ak _),rfl,fun zs am=>by rw [I.list_inj am J];exact hx⟩
  ·exact ⟨⟨_,aU⟩,an.at fun o q=>(S.2 _ Y.symm).trans q⟩
  ·intro b D;have:=(hf b D).1;rw [jQ]
   ·exact this
   ·intro q;simp only [aj,au,bv] at D;obtain ⟨o1,e1,_⟩:=V
    rcases D with rfl|rfl
    ·exact nT q.symm
    ·exact aQ (lt e1) q
 done:=by
  intro X hP hw hK hc i ke s σ H E I hf G hg;subst hP hw hK;obtain ⟨⟨l,F⟩,V⟩:=G;obtain ⟨xs,J,hx⟩:=hg;obtain ⟨Z,O,p1,_⟩:=I.list J;have l1:=O.length;refine wpAny_pyNext_enum_end (I.ok.hd hc) F V p1.isList (by simp;lia) fun h' hk=>⟨rfl,I.turnedN (t':=s.toks) (fp:=[e,it]) (fun b o D q=>?_) hf⟩
  simp only [aj,au,bv,not_or] at D;exact hk b o D.2 q
 self:=fun _ _ _ _ _ G h=>by obtain ⟨⟨l,F⟩,_⟩:=G;exact ik F h
section
variable {X:Cx} {kj:List Expr} {x1:Nat} {kh:Pos}
def XD (K:PySem.W.Frag) (D:TA):TI:=fun E H R=>D E H fun l h=>∃a,l=[.ref a]/\(∃F,SqL K h a F)/\R (iB K a) h
theorem US {a:Expr} {O:TA} {p V:Pos} (hg:Gl X "enumerate") (hm:X.mg "enumerate"=none) (ha:PA X [a] O) (hs:starEach [a] X.env=[(false,eval a X.env)]:=by rfl) :
  PI X (.Tuple kj x1 kh) (.Call (.Name "enumerate" p) [a] [] V) (XD X.K O):=by
 intro ke s σ H R I h;refine Call_ (cJ I hg hm boot_enumerate (cu (jZ (ha V ke s σ H _ I h) fun us J ⟨vs,H1,D,r1,Z⟩=>?_) hs rfl));obtain ⟨a1,e,⟨xs,F⟩,q⟩:=Z;subst e;cases r1 with
 |cons r rr =>
  cases rr;cases r;obtain ⟨Y,am,p1,_⟩:=D.list F;refine call_enumerate_list p1.isList fun h' G E ah hk=>?_
  refine ik G ?_;refine ⟨_,_,_,_,H1,rfl,D.kept (t':=J.toks) hk,RN (Nat.succ_ne_self _),⟨⟨_,G⟩,E⟩,fun b S=>?_,q⟩;simp only [aj,au,bv] at S;have l:J.heap.objs.size<=b:=by rcases S with rfl|rfl<;>simp only [Addr] at *<;>lia
  exact D.fpOk l (D.hok.fresh l)
theorem TQ {K:PySem.W.Frag} {a:Addr} {xs:List V} {g:TG} {O:TS} {D:Ends} {h:St} {H:Hp} (P:Nat->St->Hp->Prop) (S:P 0 h H) (hl:∀i h H,i<=xs.length->P i h H->SqL K H a xs)
  (F:∀i x h H T,xs[i]?=some x->P i h H->H T=none->g (.ref T) h (upd H T (.tup [.int (i:Int),x])) fun l I=>O {D with nx:=P (i+1),ct:=P (i+1),bk:=D.nx} l I) (done:∀h H,P xs.length h H->D.nx h H) :
  ∃W:Nat->Nat->St->Hp->Prop,(∃m,W 0 m h H)/\∀i m h H,W i m h H->((iB K a).stop i H/\D.nx h H)\/((iB K a).go i H/\∃N:St->Hp->Prop,(∀σ' E,N σ' E->∃J,J<m/\W (i+1) J σ' E)/\∀x E,(iB K a).yld i H x E->g x h E fun l I=>O {D with nx:=N,ct:=N,bk:=D.nx} l I):=by
 refine ⟨fun i m h H=>i<=xs.length/\m=xs.length - i/\P i h H,⟨_,aH _,rfl,S⟩,fun i m h H w=>?_⟩;obtain ⟨hi,hm,p⟩:=w;have G:=hl i h H hi p
 by_cases e:i=xs.length
 ·refine .inl ⟨⟨xs,G,by lia⟩,done h H (e▸p)⟩
 ·have Y:i<xs.length:=by lia
  refine .inr ⟨⟨xs,_,G,aa Y⟩,P (i+1),fun σ' E n=>⟨_,by lia,by lia,rfl,n⟩,fun v E hy=>?_⟩;obtain ⟨T,x,rfl,hT,rfl,Z⟩:=hy;exact F i x h H T (Z xs G) p hT
end
section
variable {X:Cx}
end
section
variable {prog:Program} {w:World} {A:Around} {s:Shared} {E:Value->Shared->Prop}
theorem BN {j p:Addr} {i:Nat} {vs:Array Value} {v:Value} {Q:Value->Shared->Prop} (D:s.heap.IsTupleIter j p i) (O:s.heap.IsTuple p vs) (J:vs[i]?=some v) (q:∀h',h'.IsTupleIter j p (i+1)->Heap.SameBut j s.heap h'->Q v {s with heap:=h'}):wpAny (model prog w) A (Builtin.SmallTypes.nextOf (.ref j)) Q E s:=by
 obtain ⟨Y,l,I,h⟩:=id D;obtain ⟨V,G,_,Z,S⟩:=O;unfold Builtin.SmallTypes.nextOf
 refine ad (dq (name:=Str.ofString "__next__") D.typeIs eh (gx eh D.typeIs F.entry_tuple_iterator_next ?_ (F.args_tuple_iterator_next_1 _)));show wpAny _ _ (field (.ref j) 0 >>= _) _ _ s;refine ad (bc l h (x:=.ref p) rfl ?_);show wpAny _ _ (if (Value.ref p == Value.none)=true then _ else _) _ _ s;rw [if_neg (show ¬((Value.ref p == Value.none)=true) from aB)];show wpAny _ _ (field (.ref j) 1 >>= _) _ _ s;refine ad (bc l h (x:=.int i 0) rfl ?_);show wpAny _ _ (seqItems? (.ref p) >>= _) _ _ s;refine ad (fh G S ?_);simp only [bd,J];refine ad (ff l h (by simp) (aJ ⟨v,rfl,aJ (q _ ?_ (Heap.SameBut.update ..))⟩));exact ⟨_,bx _ l (cc (aP h _)),(Obj.cls_mapFields ..).trans I,by rw [aP h];simp [rawInt]⟩
theorem t6 {j p:Addr} {i:Nat} {vs:Array Value} {Q:Value->Shared->Prop} (G:A.handled=none) (l:s.heap.IsTupleIter j p i) (O:s.heap.IsTuple p vs) (S:vs[i]?=none)
  (q:∀h' e,Heap.ExtBut j s.heap h'->(∃o,h'.get? e=some o/\o.cls=.type "StopIteration")->E (.ref e) {s with heap:=h'}):wpAny (model prog w) A (Builtin.SmallTypes.nextOf (.ref j)) Q E s:=by
 obtain ⟨Z,D,Y,h⟩:=id l;obtain ⟨V,I,_,np,J⟩:=O;unfold Builtin.SmallTypes.nextOf
 refine ad (dq (name:=Str.ofString "__next__") l.typeIs eh (gx eh l.typeIs F.entry_tuple_iterator_next ?_ (F.args_tuple_iterator_next_1 _)));show wpAny _ _ (field (.ref j) 0 >>= _) _ _ s;refine ad (bc D h (x:=.ref p) rfl ?_);show wpAny _ _ (if (Value.ref p == Value.none)=true then _ else _) _ _ s;rw [if_neg (show ¬((Value.ref p == Value.none)=true) from aB)];show wpAny _ _ (field (.ref j) 1 >>= _) _ _ s;refine ad (bc D h (x:=.int i 0) rfl ?_);show wpAny _ _ (seqItems? (.ref p) >>= _) _ _ s;refine ad (fh I J ?_);simp only [bd,S];refine ad (wpAny_rule (ad (ff D h (by simp) ?_)));refine ad ?_
 simp only [newExc,newTuple];refine ad (gr ?_ (by size_fits))
 refine ad (m:=firstArgMember _ _) (wpAny_of_eq (a:=Value.none) (by first|rfl|(simp only [firstArgMember];rfl)) ?_);refine gr ?_ (by size_fits)
 simp only [raiseNew];refine ad (wpAny_handled ?_);(first|rw [show A.in1.handled=none from G]|rw [G])
 refine ad (aJ (wpAny_throw ?_));exact q _ _ (((Heap.SameBut.update ..).extBut.push _).push _) ⟨_,aw _ rfl,rfl⟩
end
structure SqK where
 c:String
 It:Heap->Addr->Addr->Nat->Prop
 Sq:Heap->Addr->Array Value->Prop
 R:PySem.W.Frag->Hp->Addr->List V->Prop
structure SqK.Ok (S:SqK):Prop where
 at_:∀{h h':Heap} {j a:Addr} {k:Nat},S.It h j a k->(∀o,h.get? j=some o->h'.get? j=some o)->S.It h' j a k
 sq:∀{h h':Heap} {a:Addr} {us:Array Value},S.Sq h a us->(∀o,h.get? a=some o->h'.get? a=some o)->S.Sq h' a us
 ob:∀{h:Heap} {j a:Addr} {k:Nat},S.It h j a k->∃o,h.get? j=some o/\∀v,o.data≠.cell v
 lt:∀{h:Heap} {a:Addr} {us:Array Value},S.Sq h a us->∃o,h.get? a=some o
 mk0:∀{h:Heap} {j a:Addr},h.get? j=some {cls:=.type S.c,data:=.fields #[.ref a,.int 0 0]}->S.It h j a 0
 item:∀{prog:Program} {w:World} {A:Around} {s:Shared} {E:Value->Shared->Prop} {j p:Addr} {i:Nat} {vs:Array Value} {v:Value} {Q:Value->Shared->Prop},S.It s.heap j p i->S.Sq s.heap p vs->vs[i]?=some v->(∀h',S.It h' j p (i+1)->Heap.SameBut j s.heap h'->Q v {s with heap:=h'})->wpAny (model prog w) A (Builtin.SmallTypes.nextOf (.ref j)) Q E s
 fin:∀{prog:Program} {w:World} {A:Around} {s:Shared} {E:Value->Shared->Prop} {j p:Addr} {i:Nat} {vs:Array Value} {Q:Value->Shared->Prop},A.handled=none->S.It s.heap j p i->S.Sq s.heap p vs->vs[i]?=none->(∀h' e,Heap.ExtBut j s.heap h'->(∃o,h'.get? e=some o/\o.cls=.type "StopIteration")->E (.ref e) {s with heap:=h'})->wpAny (model prog w) A (Builtin.SmallTypes.nextOf (.ref j)) Q E s
 rel:∀{X:Cx} {ke:List (Addr×Obj)} {σ:St} {H:Hp} {s:Shared} {a:Addr} {xs:List V},Inv X ke σ H s->S.R X.K H a xs->∃its:List Value,Vals xs its/\S.Sq s.heap a its.toArray
 inj:∀{X:Cx} {ke:List (Addr×Obj)} {σ:St} {H:Hp} {s:Shared} {a:Addr} {xs ys:List V},Inv X ke σ H s->S.R X.K H a xs->S.R X.K H a ys->xs=ys
def sqL:SqK:=⟨"list_iterator",Heap.IsListIter,Heap.IsList,SqL⟩
def sqT:SqK:=⟨"tuple_iterator",Heap.IsTupleIter,Heap.IsTuple,SqT⟩
theorem E8:sqL.Ok:=⟨fun h k=>Heap.IsListIter.at h k,fun ⟨o,e,c⟩ k=>⟨o,k o e,c⟩,fun ⟨o,e,c,d⟩=>⟨o,e,fun v y=>by rw [d] at y;cases y⟩,fun ⟨o,e,_⟩=>⟨o,e⟩,fun e=>⟨_,e,rfl,rfl⟩,fun n l h q=>wpAny_nextOf_list_item n l h q,fun F n l h q=>wpAny_nextOf_list_end F n l h q,fun I h=>by obtain ⟨D,r,p,_⟩:=I.list h;exact ⟨D,r,p.isList⟩,fun I h E=>I.list_inj h E⟩
theorem E7:sqT.Ok:=⟨fun h k=>Heap.IsTupleIter.at h k,fun ⟨o,e,c⟩ k=>⟨o,k o e,c⟩,fun ⟨o,e,c,d⟩=>⟨o,e,fun v y=>by rw [d] at y;cases y⟩,fun ⟨o,e,_⟩=>⟨o,e⟩,fun e=>⟨_,e,rfl,rfl⟩,fun n l h q=>BN n l h q,fun F n l h q=>t6 F n l h q,fun I h=>by obtain ⟨D,r,p,_⟩:=I.tuple h;exact ⟨D,r,p⟩,fun I h E=>I.tuple_inj h E⟩
section
variable {S1 S2:SqK}
section
variable (O1:S1.Ok) (O2:S2.Ok) {prog:Program} {w:World} {A:Around} {s:Shared} {E:Value->Shared->Prop}
include O1 O2
theorem RF {z F h I J a b:Addr} {k:Nat} {us vs:Array Value} {u v g g':Value} {Q:Value->Shared->Prop} (D:ZipApart z F h I J a b)
  (hz:IsZip s.heap z F h .none) (am:IsPair s.heap F (.ref I) (.ref J)) (an:IsPair s.heap h g g') (n1:S1.It s.heap I a k) (n2:S2.It s.heap J b k) (la:S1.Sq s.heap a us) (tb:S2.Sq s.heap b vs) (hu:us[k]?=some u) (hv:vs[k]?=some v)
  (q:∀h',IsZip h' z F h (rawInt s.heap.objs.size)->IsPair h' h u v->S1.It h' I a (k+1)->S2.It h' J b (k+1)->IsPair h' s.heap.objs.size u v->(∀c o,c≠z->c≠h->c≠I->c≠J->s.heap.get? c=some o->h'.get? c=some o)->Q (.ref s.heap.objs.size) {s with heap:=h'}):wpAny (model prog w) A (Builtin.«zip.__next__» ⟨[.ref z],[]⟩) (fun a3 s'=>∃v,a3=.done (.ret v)/\Q v s') E s:=by
 show wpAny _ _ (field (.ref z) 2 >>= _) _ _ _;refine ad (bc hz rfl (x:=.bool false) rfl ?_);show wpAny _ _ (field (.ref z) 3 >>= _) _ _ _
 refine ad (bc hz rfl (x:=.ref F) rfl ?_);refine ad (fh am rfl ?_)
 show wpAny _ _ (Builtin.SmallTypes.ownedTupleIsFree (.ref z) >>= _) _ _ _;refine ad ?_;unfold Builtin.SmallTypes.ownedTupleIsFree
 refine ad (bc hz rfl (x:=.none) rfl (aJ ?_));simp only [if_true]
 refine ad (wpAny_rule ?_);refine ad (bc hz rfl (x:=.ref h) rfl ?_)
 refine ad (fb hz (by simp) fun m1 z1 G=>?_);have z1:IsZip m1 z F h .ellipsis:=z1;refine ad ?_;simp only [List.zipIdx_cons,List.zipIdx_nil,List.forIn_cons,List.forIn_nil]
 refine ad (ad (ig ?_));show wpAny _ _ (Builtin.SmallTypes.nextOf (.ref I) >>= _) _ _ _
 refine ad (O1.item (O1.at_ n1 (G.extBut _ · D.i1z)) (O1.sq la (G.extBut _ · D.l1z)) hu fun m2 aD S=>aJ ?_);have p2:IsPair m2 h g g':=S.extBut _ _ D.TOi1 (G.extBut _ _ D.TOz an);refine ad (fh p2 rfl ?_);refine ad (ix p2 fun m3 p3 V=>?_)
 have p3:IsPair m3 h u g':=p3;refine ad (wpAny_letGo (aJ ?_));refine ad (ad (ig ?_));show wpAny _ _ (Builtin.SmallTypes.nextOf (.ref J) >>= _) _ _ _
 refine ad (O2.item (O2.at_ n2 fun o e=>V.extBut _ o D.TOi2.symm (S.extBut _ o D.i12.symm (G.extBut _ o D.i2z e))) (O2.sq tb fun o e=>V.extBut _ o D.l2TO (S.extBut _ o D.l2i1 (G.extBut _ o D.l2z e))) hv fun m4 ap Y=>aJ ?_);have p4:IsPair m4 h u g':=Y.extBut _ _ D.TOi2 p3;refine ad (fh p4 rfl ?_);refine ad (ix p4 fun l p5 Z=>?_)
 have p5:IsPair l h u v:=p5;refine ad (wpAny_letGo (aJ (aJ ?_)));refine ad (fh p5 rfl ?_);refine ad (wpAny_newTuple ?_)
 have sz:l.objs.size=s.heap.objs.size:=by rw [Z.1,Y.1,V.1,S.1,G.1]
 have z5:IsZip l z F h .ellipsis:=Z.extBut _ _ D.TOz.symm (Y.extBut _ _ D.i2z.symm (V.extBut _ _ D.TOz.symm (S.extBut _ _ D.i1z.symm z1)));have kk:∀c o,c≠z->c≠h->c≠I->c≠J->s.heap.get? c=some o->l.get? c=some o:=fun c o O e2 e3 e4 e=>Z.extBut _ _ e2 (Y.extBut _ _ e4 (V.extBut _ _ e2 (S.extBut _ _ e3 (G.extBut _ _ O e))))
 have aU:=O1.at_ (h':=l) aD fun o e=>Z.extBut _ o D.TOi1.symm (Y.extBut _ o D.i12 (V.extBut _ o D.TOi1.symm e))
 have ah:=O2.at_ (h':=l) ap (Z.extBut _ · D.TOi2.symm);have zl:z<l.objs.size:=aq z5;show wpAny _ _ (Builtin.SmallTypes.ownedTupleHandOut (.ref z) (.ref l.objs.size) >>= _) _ _ _;refine ad ?_;unfold Builtin.SmallTypes.ownedTupleHandOut
 have z6:IsZip (l.push {cls:=.type "tuple",data:=.seq #[u,v]}) z F h .ellipsis:=ai _ z5;refine ad (fb z6 (by simp) fun m7 z7 d7=>?_);have z7:IsZip m7 z F h (rawInt l.objs.size):=z7;refine fb z7 (by simp) fun m8 z8 d8=>?_
 have z8:IsZip m8 z F h (rawInt l.objs.size):=z8;have up:∀c o,c≠z->l.get? c=some o->m8.get? c=some o:=fun c o O e=>d8.extBut _ _ O (d7.extBut _ _ O (ai _ e))
 have t8:IsPair m8 l.objs.size u v:=d8.extBut _ _ (ek zl) (d7.extBut _ _ (ek zl) (aw _ rfl));rw [sz] at z8 t8;refine aJ ⟨_,rfl,?_⟩;show Q (.ref l.objs.size) _;rw [sz]
 exact q m8 z8 (up _ _ D.TOz p5) (O1.at_ aU (up _ · D.i1z)) (O2.at_ ah (up _ · D.i2z)) t8 fun c o O e2 e3 e4 e=>up c o O (kk c o O e2 e3 e4 e)
theorem SS {z O F S V a b:Addr} {k:Nat} {us vs:Array Value} {g g':Value} {Q:Fin->Shared->Prop} (hh:A.handled=none) (D:ZipApart z O F S V a b)
  (hz:IsZip s.heap z O F .none) (ah:IsPair s.heap O (.ref S) (.ref V)) (am:IsPair s.heap F g g') (n1:S1.It s.heap S a k) (n2:S2.It s.heap V b k) (la:S1.Sq s.heap a us) (tb:S2.Sq s.heap b vs) (he:us[k]?=none\/vs[k]?=none)
  (q:∀h' e,(∀c o,c≠z->c≠F->c≠S->c≠V->s.heap.get? c=some o->h'.get? c=some o)->(∃o,h'.get? e=some o/\o.cls=.type "StopIteration")->E (.ref e) {s with heap:=h'}):wpAny (model prog w) A (Builtin.«zip.__next__» ⟨[.ref z],[]⟩) Q E s:=by
 show wpAny _ _ (field (.ref z) 2 >>= _) _ _ _;refine ad (bc hz rfl (x:=.bool false) rfl ?_);show wpAny _ _ (field (.ref z) 3 >>= _) _ _ _
 refine ad (bc hz rfl (x:=.ref O) rfl ?_);refine ad (fh ah rfl ?_)
 show wpAny _ _ (Builtin.SmallTypes.ownedTupleIsFree (.ref z) >>= _) _ _ _;refine ad ?_;unfold Builtin.SmallTypes.ownedTupleIsFree
 refine ad (bc hz rfl (x:=.none) rfl (aJ ?_));simp only [if_true]
 refine ad (wpAny_rule ?_);refine ad (bc hz rfl (x:=.ref F) rfl ?_)
 refine ad (fb hz (by simp) fun m1 z1 l=>?_);have z1:IsZip m1 z O F .ellipsis:=z1;refine ad ?_;simp only [List.zipIdx_cons,List.zipIdx_nil,List.forIn_cons,List.forIn_nil]
 refine ad (ad (ig ?_));show wpAny _ _ (Builtin.SmallTypes.nextOf (.ref S) >>= _) _ _ _
 cases hu:us[k]? with
 |none =>
  refine ad (O1.fin hh (O1.at_ n1 (l.extBut _ · D.i1z)) (O1.sq la (l.extBut _ · D.l1z)) hu fun m2 e G st=>?_);obtain ⟨oe,I,Y⟩:=st
  have z2:IsZip m2 z O F .ellipsis:=G _ _ D.i1z.symm z1;have ne:e≠z:=fun x=>by subst x;rw [z2] at I;cases I;simp at Y
  refine fb z2 (by simp) fun m3 _ J=>q m3 e (fun c o Z _ e3 _ x=>J.extBut _ _ Z (G _ _ e3 (l.extBut _ _ Z x))) ⟨oe,J.extBut _ _ ne I,Y⟩
 |some u =>
  have hv:vs[k]?=none:=by rcases he with h|h;rw [hu] at h;cases h;exact h
  refine ad (O1.item (O1.at_ n1 (l.extBut _ · D.i1z)) (O1.sq la (l.extBut _ · D.l1z)) hu fun m2 an G=>aJ ?_);have p2:IsPair m2 F g g':=G.extBut _ _ D.TOi1 (l.extBut _ _ D.TOz am);refine ad (fh p2 rfl ?_);refine ad (ix p2 fun m3 p3 J=>?_)
  refine ad (wpAny_letGo (aJ ?_));refine ad (ad (ig ?_));show wpAny _ _ (Builtin.SmallTypes.nextOf (.ref V) >>= _) _ _ _
  refine ad (O2.fin hh (O2.at_ n2 fun o e=>J.extBut _ o D.TOi2.symm (G.extBut _ o D.i12.symm (l.extBut _ o D.i2z e))) (O2.sq tb fun o e=>J.extBut _ o D.l2TO (G.extBut _ o D.l2i1 (l.extBut _ o D.l2z e))) hv fun m4 e d4 st=>?_);obtain ⟨oe,I,Y⟩:=st
  have z4:IsZip m4 z O F .ellipsis:=d4 _ _ D.i2z.symm (J.extBut _ _ D.TOz.symm (G.extBut _ _ D.i1z.symm z1));have ne:e≠z:=fun x=>by subst x;rw [z4] at I;cases I;simp at Y
  refine fb z4 (by simp) fun m5 _ d5=>q m5 e (fun c o Z e2 e3 e4 x=>d5.extBut _ _ Z (d4 _ _ e4 (J.extBut _ _ e2 (G.extBut _ _ e3 (l.extBut _ _ Z x))))) ⟨oe,d5.extBut _ _ ne I,Y⟩
end
def xQ (S1 S2:SqK) (K:PySem.W.Frag) (a1 a2:Addr):It :=
 ⟨fun i H=>∃l h x y,S1.R K H a1 l/\S2.R K H a2 h/\l[i]?=some x/\h[i]?=some y,
  fun i H v D=>∃T x y,v=.ref T/\H T=none/\D=upd H T (.tup [x,y])/\(∀l,S1.R K H a1 l->l[i]?=some x)/\(∀h,S2.R K H a2 h->h[i]?=some y),
  fun i H=>∃l h,S1.R K H a1 l/\S2.R K H a2 h/\(l.length<=i\/h.length<=i)⟩
theorem RL (Z:S1.Ok) (O2:S2.Ok) {P:Program} {w:World} {K:PySem.W.Frag} {kj:List Expr} {x1:Nat} {ko:Pos} {a1 a2 z TI TO i1 i2:Addr} (D:ZipApart z TI TO i1 i2 a1 a2) :
  Turn P w K (.Tuple kj x1 ko) (xQ S1 S2 K a1 a2) [z,TI,TO,i1,i2] z (fun i h=>IsZip h z TI TO .none/\IsPair h TI (.ref i1) (.ref i2)/\(∃a b,IsPair h TO a b)/\S1.It h i1 a1 i/\S2.It h i2 a2 i) where
 mem:=by simp
 obj:=fun i h Y b G=>by
  obtain ⟨V,l,⟨p,q,J⟩,h1,h2⟩:=Y;simp only [aj,au,bv] at G
  rcases G with rfl|rfl|rfl|rfl|rfl
  ·exact ⟨_,V,fun v y=>by have y':Data.fields _=Data.cell v:=y;cases y'⟩
  ·exact ⟨_,l,fun v y=>by have y':Data.seq _ _=Data.cell v:=y;cases y'⟩
  ·exact ⟨_,J,fun v y=>by have y':Data.seq _ _=Data.cell v:=y;cases y'⟩
  ·exact Z.ob h1
  ·exact O2.ob h2
 keep:=fun i h h' Y k=>by
  obtain ⟨V,l,⟨p,q,J⟩,h1,h2⟩:=Y;exact ⟨k _ (by simp) _ V,k _ (by simp) _ l,⟨p,q,k _ (by simp) _ J⟩,Z.at_ h1 (k _ (by simp)),O2.at_ h2 (k _ (by simp))⟩
 item:=by
  intro X hP hw hK hc i ke s σ H E I hf Y hg;subst hP hw hK;obtain ⟨V,l,⟨p,q,J⟩,h1,h2⟩:=Y;obtain ⟨xs,ys,x,y,ah,am,hx,hy⟩:=hg;obtain ⟨a3,an,p1⟩:=Z.rel I ah;obtain ⟨aU,aD,p2⟩:=O2.rel I am;obtain ⟨u,hu,ru⟩:=an.get hx;obtain ⟨v,hv,rv⟩:=aD.get hy;have S:s.TypeIs (.ref z) "zip":=⟨_,V,rfl⟩;unfold pyNext;refine ad (wpAny_attempt (dq (name:=Str.ofString "__next__") S kc (gx kc S F.entry_zip_next (RF Z O2 D V l J h1 h2 p1 p2 (u:=u) (v:=v) (by simpa using hu) (by simpa using hv) fun h' bl a4 a9 a6 a8 hk=>aJ ?_) (F.args_zip_next_1 _))));refine ⟨_,rfl,?_⟩;refine wpAny_letOwnedTupleGo_zip bl fun a5 bt O=>?_
  have lt:∀{b:Addr} {o:Obj},s.heap.get? b=some o->b<s.heap.objs.size:=fun e=>aq e
  have nT:s.heap.objs.size≠z:=ek (lt V);have k2:∀b o,b∉[z,TI,TO,i1,i2]->s.heap.get? b=some o->a5.get? b=some o:=fun b o G e=>by
   simp only [aj,au,bv,not_or] at G;exact (O.2 b G.1).trans (hk b o G.1 G.2.2.1 G.2.2.2.1 G.2.2.2.2 e)
  have a7:IsPair a5 s.heap.objs.size u v:=(O.2 _ nT).trans a8;refine ⟨.ref s.heap.objs.size,upd H s.heap.objs.size (.tup [x,y]),I.laidN (t':=s.toks) (fp:=[z,TI,TO,i1,i2]) k2 hf (ak _) ⟨(by show 2<=sizeLine;decide),[u,v],.cons ru (.cons rv .nil),⟨_,a7,rfl,_,rfl⟩⟩,rfl,?_,?_,?_⟩
  ·exact ⟨_,x,y,rfl,I.hok.fresh (ak _),rfl,fun zs ap=>by rw [Z.inj I ap ah];exact hx,fun zs ap=>by rw [O2.inj I ap am];exact hy⟩
  ·refine ⟨bt,(O.2 _ D.TIz).trans (hk _ _ D.TIz D.TITO D.TIi1 D.TIi2 l),⟨_,_,(O.2 _ D.TOz).trans a4⟩,Z.at_ a9 fun o e=>(O.2 _ D.i1z).trans e,O2.at_ a6 fun o e=>(O.2 _ D.i2z).trans e⟩
  ·intro b G;have:=(hf b G).1;rw [jQ]
   ·exact this
   ·intro e;simp only [aj,au,bv] at G;obtain ⟨o1,e1,_⟩:=Z.ob h1;obtain ⟨o2,e2,_⟩:=O2.ob h2
    rcases G with rfl|rfl|rfl|rfl|rfl
    ·exact nT e.symm
    ·exact aQ (lt l) e
    ·exact aQ (lt J) e
    ·exact aQ (lt e1) e
    ·exact aQ (lt e2) e
 done:=by
  intro X hP hw hK hc i ke s σ H E I hf Y hg;subst hP hw hK;obtain ⟨V,l,⟨p,q,J⟩,h1,h2⟩:=Y;obtain ⟨xs,ys,ah,am,he⟩:=hg;obtain ⟨a3,an,p1⟩:=Z.rel I ah;obtain ⟨aU,aD,p2⟩:=O2.rel I am;have l1:=an.length;have l2:=aD.length;have S:s.TypeIs (.ref z) "zip":=⟨_,V,rfl⟩;unfold pyNext;refine ad (wpAny_attempt (dq (name:=Str.ofString "__next__") S kc (gx kc S F.entry_zip_next (SS Z O2 (I.ok.hd hc) D V l J h1 h2 p1 p2 (he.imp (fun e=>by simp;lia) (fun e=>by simp;lia)) fun h' e hk ho=>?_) (F.args_zip_next_1 _))));obtain ⟨o,ho,be⟩:=ho;refine ad (wpAny_isInstance (T:="StopIteration") (b:=true) ⟨o,ho,be⟩ isSubtype_stop (aJ ⟨rfl,I.turnedN (t':=s.toks) (fp:=[z,TI,TO,i1,i2]) (fun b o G e=>?_) hf⟩));simp only [aj,au,bv,not_or] at G;exact hk b o G.1 G.2.2.1 G.2.2.2.1 G.2.2.2.2 e
 self:=fun _ _ _ _ _ Y h=>wpAny_pyIter_zip Y.1 h
abbrev gR (c:String) (h:Heap) (a:Addr):Heap:=h.push {cls:=.type c,data:=.fields #[.ref a,.int 0 0]}
abbrev nM (c d:String) (h:Heap) (a b:Addr):Heap:=gR d (gR c h a) b
abbrev nL (c d:String) (h:Heap) (a b:Addr):Heap:=(nM c d h a b).push {cls:=.type "tuple",data:=.seq #[.ref h.objs.size,.ref (gR c h a).objs.size]}
abbrev nK (c d:String) (h:Heap) (a b:Addr):Heap:=(nL c d h a b).push {cls:=.type "tuple",data:=.seq #[.none,.none]}
abbrev eY (c d:String) (h:Heap) (a b:Addr):Heap:=(nK c d h a b).push {cls:=.type "zip",data:=.fields #[.none,.bool false,.bool false,.ref (nM c d h a b).objs.size,.ref (nL c d h a b).objs.size]}
def nZ (S1 S2:SqK) (a b:Addr) (us vs:Array Value):Prop:=Meets (Builtin.«zip.__new__» ⟨[.type "zip",.ref a,.ref b],[]⟩) (fun _ R s=>S1.Sq s.heap a us/\S2.Sq s.heap b vs/\R (.ok (.ret (.ref (nK S1.c S2.c s.heap a b).objs.size))) {s with heap:=eY S1.c S2.c s.heap a b})
theorem PR (a b:Addr) (us vs:Array Value):nZ sqL sqT a b us vs:=.of_wp fun F w A R s h=>by
  obtain ⟨G,g,d,E,D⟩:=s;obtain ⟨I,S,h⟩:=h;have l:=sub_zip
  have J:Heap.IsList (Shared.heap ⟨G,g,d,E,D⟩) a us:=I;have O:Heap.IsTuple (Shared.heap ⟨G.push {cls:=.type "list_iterator",data:=.fields #[.ref a,.int 0 0]},g,d,E,D⟩) b vs:=Heap.IsTuple.push S _
  wp_walk using gh J,fu O
  exact ⟨_,rfl,h⟩
theorem PQ (a b:Addr) (us vs:Array Value):nZ sqT sqL a b us vs:=.of_wp fun F w A R s h=>by
  obtain ⟨G,g,d,E,D⟩:=s;obtain ⟨I,S,h⟩:=h;have l:=sub_zip
  have J:Heap.IsTuple (Shared.heap ⟨G,g,d,E,D⟩) a us:=I;have O:Heap.IsList (Shared.heap ⟨G.push {cls:=.type "tuple_iterator",data:=.fields #[.ref a,.int 0 0]},g,d,E,D⟩) b vs:=Heap.IsList.push S _
  wp_walk using fu J,gh O
  exact ⟨_,rfl,h⟩
theorem SN (O1:S1.Ok) (O2:S2.Ok) (M:∀(a b:Addr) (us vs:Array Value),nZ S1 S2 a b us vs) {prog:Program} {w:World} {A:Around} {s:Shared} {E:Value->Shared->Prop} {a b:Addr} {us vs:Array Value} {Q:Value->Shared->Prop} (la:S1.Sq s.heap a us) (tb:S2.Sq s.heap b vs)
  (q:∀h',IsZip h' (s.heap.objs.size+4) (s.heap.objs.size+2) (s.heap.objs.size+3) .none->IsPair h' (s.heap.objs.size+2) (.ref s.heap.objs.size) (.ref (s.heap.objs.size+1))->IsPair h' (s.heap.objs.size+3) .none .none->S1.It h' s.heap.objs.size a 0->S2.It h' (s.heap.objs.size+1) b 0->(∀c o,s.heap.get? c=some o->h'.get? c=some o)->Q (.ref (s.heap.objs.size+4)) {s with heap:=h'}) :
  wpAny (model prog w) A (call (.type "zip") [.ref a,.ref b]) Q E s:=by
 refine callType_new F.called_zip (by decide) (F.typeCall_zip_2 _ _) (F.newCall_zip_2 _ _) (fun I=>F.args_object_init_3 I _ _) F.entry_zip_new (M a b us vs) ⟨la,tb,?_⟩;have O:(gR S1.c s.heap a).objs.size=s.heap.objs.size+1:=du ..;have G:(nM S1.c S2.c s.heap a b).objs.size=s.heap.objs.size+2:=by rw [du,O]
 have D:(nL S1.c S2.c s.heap a b).objs.size=s.heap.objs.size+3:=by rw [du,G]
 have Z:(nK S1.c S2.c s.heap a b).objs.size=s.heap.objs.size+4:=by rw [du,D]
 have l:∀{h:Heap} {o:Obj} {c:Addr} {v:Obj},h.get? c=some v->(h.push o).get? c=some v:=fun e=>ai _ e
 have J:(eY S1.c S2.c s.heap a b).get? (nK S1.c S2.c s.heap a b).objs.size=some _:=aw _ rfl;have S:(eY S1.c S2.c s.heap a b).get? (nL S1.c S2.c s.heap a b).objs.size=some _:=l (aw _ rfl);have Y:(eY S1.c S2.c s.heap a b).get? (nM S1.c S2.c s.heap a b).objs.size=some _:=l (l (aw _ rfl));have V:(eY S1.c S2.c s.heap a b).get? (gR S1.c s.heap a).objs.size=some _:=l (l (l (aw _ rfl)));have g1:(eY S1.c S2.c s.heap a b).get? s.heap.objs.size=some _:=l (l (l (l (aw _ rfl))));show _/\_;rw [G,D,Z] at J;rw [O,G] at Y;rw [D] at S;rw [O] at V;rw [Z]
 exact ⟨⟨_,J,rfl⟩,q _ J Y S (O1.mk0 g1) (O2.mk0 V) fun c o x=>l (l (l (l (l x))))⟩
def xB (S1 S2:SqK) (K:PySem.W.Frag) (F:TA):TI:=fun G H R=>F G H fun E h=>∃D l,E=[.ref D,.ref l]/\(∃I,S1.R K h D I)/\(∃J,S2.R K h l J)/\R (xQ S1 S2 K D l) h
section
variable {X:Cx} {kj:List Expr} {x1:Nat} {kh:Pos}
theorem EJ (J:S1.Ok) (O:S2.Ok) (M:∀(a b:Addr) (us vs:Array Value),nZ S1 S2 a b us vs) {a b:Expr} {ta:TA} {p ko:Pos} (hg:Gl X "zip") (hm:X.mg "zip"=none) (ha:PA X [a,b] ta) (hs:starEach [a,b] X.env=[(false,eval a X.env),(false,eval b X.env)]:=by rfl) (G:starEach [b] X.env=[(false,eval b X.env)]:=by rfl) :
  PI X (.Tuple kj x1 kh) (.Call (.Name "zip" p) [a,b] [] ko) (xB S1 S2 X.K ta):=by
 intro ke s σ H R I h;refine Call_ (cJ I hg hm boot_zip (cu (jZ (ha ko ke s σ H _ I h) fun us l ⟨vs,H1,E,r1,q1⟩=>?_) (by rw [hs,G]) (by rw [G];rfl)));obtain ⟨a1,a2,e,⟨xs,ah⟩,⟨ys,Z⟩,q⟩:=q1;subst e;cases r1 with
 |cons r S =>
  cases S with
  |cons r' S =>
   cases S;cases r;cases r';obtain ⟨an,a3,p1⟩:=J.rel E ah;obtain ⟨am,aD,p2⟩:=O.rel E Z;have ap:a1<l.heap.objs.size:=by obtain ⟨o,e⟩:=J.lt p1;exact aq e
   have aU:a2<l.heap.objs.size:=by obtain ⟨o,e⟩:=O.lt p2;exact aq e
   refine SN J O M p1 p2 fun h' hz Y V h1 h2 hk=>?_
   refine wpAny_pyIter_zip hz ?_;have D:ZipApart (l.heap.objs.size+4) (l.heap.objs.size+2) (l.heap.objs.size+3) l.heap.objs.size (l.heap.objs.size+1) a1 a2:=by
    constructor<;>(intro e;simp only [Addr] at *;lia)
   refine ⟨_,_,_,_,H1,rfl,E.kept (t':=l.toks) hk,RL J O D,⟨hz,Y,⟨_,_,V⟩,h1,h2⟩,fun b hb=>?_,q⟩;simp only [aj,au,bv] at hb;have F:l.heap.objs.size<=b:=by rcases hb with rfl|rfl|rfl|rfl|rfl<;>simp only [Addr] at *<;>lia
   exact E.fpOk F (E.hok.fresh F)
end
end
section
variable {X:Cx} {kj:List Expr} {x1:Nat} {kh:Pos} {a b:Expr} {ta:TA} {p ko:Pos}
theorem UR (E:Gl X "zip") (l:X.mg "zip"=none) (D:PA X [a,b] ta) (F:starEach [a,b] X.env=[(false,eval a X.env),(false,eval b X.env)]:=by rfl) (h:starEach [b] X.env=[(false,eval b X.env)]:=by rfl):PI X (.Tuple kj x1 kh) (.Call (.Name "zip" p) [a,b] [] ko) (xB sqL sqT X.K ta):=EJ E8 E7 PR E l D F h
theorem UQ (E:Gl X "zip") (l:X.mg "zip"=none) (D:PA X [a,b] ta) (F:starEach [a,b] X.env=[(false,eval a X.env),(false,eval b X.env)]:=by rfl) (h:starEach [b] X.env=[(false,eval b X.env)]:=by rfl):PI X (.Tuple kj x1 kh) (.Call (.Name "zip" p) [a,b] [] ko) (xB sqT sqL X.K ta):=EJ E7 E8 PQ E l D F h
end
theorem BE {S1 Z:SqK} {K:PySem.W.Frag} {a1 a2 D:Addr} {xs ys:List V} {g:TG} {tc:TT} {te:TE} {l:St} {H:Hp} {Q:Hp->Prop} (F:Nat->St->Hp->Prop) (h0:F 0 l (upd H D (.lst []))) (hl:∀i h H,i<=xs.length->F i h H->S1.R K H a1 xs/\Z.R K H a2 ys) (hn:xs.length=ys.length)
  (hs:∀i x y h H T,xs[i]?=some x->ys[i]?=some y->F i h H->H T=none->g (.ref T) h (upd H T (.tup [x,y])) fun E H3=>tc E H3 fun b H4=>if b=true then te E H4 fun v Y=>∃S,Y D=some (.lst S)/\S.length<sizeLine/\F (i+1) E (upd Y D (.lst (S++[v]))) else F (i+1) E H4)
  (hd:∀h H,F xs.length h H->Q H):JS D (xQ S1 Z K a1 a2) g tc te l H Q:=by
 refine ⟨fun i m h H=>m=xs.length - i/\i<=xs.length/\F i h H,⟨xs.length,by simp,aH _,h0⟩,?_⟩;rintro i m h H ⟨rfl,hi,p⟩;obtain ⟨J,O⟩:=hl i h H hi p
 by_cases I:i<xs.length
 ·have G:i<ys.length:=by lia
  refine .inr ⟨⟨xs,ys,_,_,J,O,aa I,aa G⟩,F (i+1),fun ah H' p'=>⟨xs.length - (i+1),by lia,rfl,I,p'⟩,fun v H' hy=>?_⟩;obtain ⟨T,x,y,rfl,hT,rfl,e1,e2⟩:=hy;exact hs i x y h H T (e1 xs J) (e2 ys O) p hT
 ·exact .inl ⟨⟨xs,ys,J,O,.inl (by lia)⟩,hd h H (by rw [show xs.length=i by lia];exact p)⟩
set_option maxRecDepth 100000
theorem U5:fillsNumberSlot (.type "tuple") "mul"=pure false:=PySem.fillsNumberSlot_seq (id:="tuple.__mul__") (r:=some (.builtin "tuple.__rmul__")) F.slot_tuple_mul.lookup (by trivial) F.slot_tuple_rmul.lookup (by trivial)
theorem UL:seqRepeat? (.type "tuple")=pure (some (.builtin "tuple.__mul__")):=by
 unfold seqRepeat?;rw [PySem.seqSlot_of (T:="tuple") (name:="__mul__") (id:="tuple.__mul__") F.slot_tuple_mul.lookup (by trivial),PySem.seqSlot_of (T:="tuple") (name:="__rmul__") (id:="tuple.__rmul__") F.slot_tuple_rmul.lookup (by trivial)];rfl
theorem WZ (a:Int) (t:Tok) (p:Addr) (vs:Array Value) (n:Nat) (dd:Option Addr) (D:Array (Option Value)):Meets (Builtin.«int.__rmul__» ⟨[.int a t,.ref p],[]⟩) (fun _ R s=>s.heap.get? p=some {cls:=.type "tuple",dict:=dd,data:=.seq vs n,slots:=D}/\R (.ok (.ret Value.notImplemented)) s):=.of_wp fun l w A R s h=>by obtain ⟨I,g,d,F,E⟩:=s;obtain ⟨G,h⟩:=h;wp_walk;exact ⟨_,rfl,h⟩
theorem TD (t:Tok) (p:Addr) (vs:Array Value) (n:Nat) (dd:Option Addr) (D:Array (Option Value)):Meets (Builtin.«tuple.__mul__» ⟨[.ref p,.int 1 t],[]⟩) (fun _ R s=>s.heap.get? p=some {cls:=.type "tuple",dict:=dd,data:=.seq vs n,slots:=D}/\R (.ok (.ret (.ref p))) s):=.of_wp fun l w A R s h=>by obtain ⟨I,g,d,F,E⟩:=s;obtain ⟨G,h⟩:=h;wp_walk;exact ⟨_,rfl,h⟩
theorem R1 (t:Tok) (p:Addr) (vs:Array Value) (n:Nat) (dd:Option Addr) (D:Array (Option Value)) (F:vs.isEmpty=false):Meets (Builtin.«tuple.__mul__» ⟨[.ref p,.int 0 t],[]⟩) (fun _ R s=>s.heap.get? p=some {cls:=.type "tuple",dict:=dd,data:=.seq vs n,slots:=D}/\R (.ok (.ret (.ref s.heap.objs.size))) {s with heap:=s.heap.push {cls:=.type "tuple",data:=.seq #[]}}):=.of_wp fun l w A R s h=>by
 obtain ⟨O,g,G,I,E⟩:=s;obtain ⟨J,h⟩:=h
 wp_walk;exact ⟨_,rfl,h⟩
theorem R3 (k:Int) (t:Tok) (p:Addr) (vs:Array Value) (n:Nat) (dd:Option Addr) (F:Array (Option Value)) (S:vs.isEmpty=false) (V:(k == 1)=false) (G:¬((decide (k < -(2 ^ 63))||decide (k>=2 ^ 63))=true)) (I:¬((decide (k<=0)||vs.isEmpty)=true)) (D:¬((vs.size:Int)*k>(2 ^ 63 - 1) / 8)) (E:¬(Builtin.Tuple.tupleTooMany ((vs.size:Int)*k)=true)) (J:((List.replicate k.toNat vs).foldl (·++·) (#[]:Array Value)).size<=sizeLine):Meets (Builtin.«tuple.__mul__» ⟨[.ref p,.int k t],[]⟩) (fun _ R s=>s.heap.get? p=some {cls:=.type "tuple",dict:=dd,data:=.seq vs n,slots:=F}/\R (.ok (.ret (.ref s.heap.objs.size))) {s with heap:=s.heap.push {cls:=.type "tuple",data:=.seq ((List.replicate k.toNat vs).foldl (·++·) #[])}}):=.of_wp fun l w A R s h=>by
 obtain ⟨Y,g,Z,tk,O⟩:=s;obtain ⟨hl,h⟩:=h
 wp_walk
 rw [if_neg G]
 wp_walk
 rw [if_neg I];show wpAny _ _ (if (vs.size:Int)*k>(2 ^ 63 - 1) / 8 then _ else if Builtin.Tuple.tupleTooMany ((vs.size:Int)*k)=true then _ else _) _ _ _;rw [if_neg D,if_neg E];refine ad (gr (aJ ⟨_,rfl,h⟩) ?_);exact J
section
variable {X:Cx}
def W1:R2:=fun x y H Q=>∃(p:Addr) (v:V) (k:Nat),x=.ref p/\y=.int (k:Int)/\H p=some (.tup [v])/\k<=1000/\(k=1->Q (.ref p) H)/\(k≠1->∀l,H l=none->Q (.ref l) (upd H l (.tup (List.replicate k v))))
theorem CM (u:Value):∀(m:Nat) (h:Array Value),List.foldl (fun D l=>D++l) h (List.replicate m #[u])=h++(List.replicate m u).toArray
 |0,h=>by simp
 |m+1,h=>by rw [bu,List.foldl_cons,CM u m (h++#[u]),bu,Array.append_assoc];congr 1;apply Array.toList_inj.mp;simp
theorem UZ:qN X (binaryOp .Mult) W1:=by
 intro ke s σ H x y v u Q I rx ry h;obtain ⟨p,w,k,rfl,rfl,hH,Y,q1,q2⟩:=h;cases rx;obtain ⟨t,rfl⟩:=ry;obtain ⟨z,ah,r,⟨cls,G,data,J⟩,e,hc,n,Z⟩:=(show ObjOk X.prog X.w H s.heap p (.tup [w]) from I.hok p _ hH);simp only at hc Z;subst hc Z;cases r with
 |@cons _ l _ us ru rt =>
  cases rt;refine wpAny_binaryOp_repeat_ref (T:="tuple") (U:="int") (by decide) ⟨_,e,rfl⟩ (fun s'=>typeIs_int s' (k:Int) t) U5 F.fills_int_mul iy UL F.slot_int_index.lookup
   (gq iy (typeIs_int s (k:Int) t) F.entry_int_rmul (F.args_int_rmul_2 _ _) (WZ (k:Int) t p #[l] n G J) ⟨e,rfl,⟨_,e,rfl⟩,?_⟩)
  have mk:∀V:Array Value,V=(List.replicate k l).toArray->k≠1->EP X ke σ Q (.ref s.heap.objs.size) {s with heap:=s.heap.push {cls:=.type "tuple",data:=.seq V}}:=fun V O E=>by
   have hv:Vals (List.replicate k w) (List.replicate k l):=by
    have S:∀m,Vals (List.replicate m w) (List.replicate m l):=fun m=>by
     induction m with
     |zero=>exact .nil
     |succ m ih=>exact .cons ru ih
    exact S k
   refine ⟨.ref s.heap.objs.size,upd H s.heap.objs.size (.tup (List.replicate k w)),I.laid (t':=s.toks) (fun b o e=>ai _ e) (ak _) ⟨by rw [cq];exact aI Y (by decide),_,hv,⟨_,aw _ rfl,rfl,0,by rw [O]⟩⟩,rfl,q2 E _ (I.hok.fresh (ak _))⟩
  by_cases E:k=1
  ·subst E;exact gq F.slot_tuple_mul ⟨_,e,rfl⟩ F.entry_tuple_mul (F.args_tuple_mul_2 _ _) (TD t p #[l] n G J) ⟨e,⟨.ref p,H,I,rfl,q1 rfl⟩⟩
  by_cases h0:k=0
  ·subst h0;exact gq F.slot_tuple_mul ⟨_,e,rfl⟩ F.entry_tuple_mul (F.args_tuple_mul_2 _ _) (R1 t p #[l] n G J rfl) ⟨e,mk _ rfl E⟩
  have hf:(List.replicate (k:Int).toNat #[l]).foldl (fun x1 x2=>x1++x2) (#[]:Array Value)=(List.replicate k l).toArray:=by rw [CM,bd];simp
  have D:((#[l]:Array Value).size:Int)*(k:Int)=(k:Int):=by show ((1:Nat):Int)*(k:Int)=_;lia
  refine gq F.slot_tuple_mul ⟨_,e,rfl⟩ F.entry_tuple_mul (F.args_tuple_mul_2 _ _) (R3 (k:Int) t p #[l] n G J rfl ?_ ?_ ?_ ?_ ?_ ?_) ⟨e,?_⟩
  ·exact dc.mpr (by lia)
  ·rw [Bool.or_eq_true,fm,fm];lia
  ·rw [Bool.or_eq_true,fm];rintro (h|h);lia;cases h
  ·rw [D];lia
  ·rw [D];unfold Builtin.Tuple.tupleTooMany;rw [fm];have:(1000:Nat)<=sizeLine:=by decide
   lia
  ·rw [hf,ao,cq];exact aI Y (by decide)
  ·exact mk _ hf E
def VX:V->List V->Hp->VK->Prop:=fun x D H Q=>∃(l:Addr) (h:List V) (y:V),x=.ref l/\D=[y]/\H l=some (.lst h)/\vZ y=true/\h.all vZ=true/\Q (.int ((h.countP fun z=>vX z y:Nat):Int)) H
theorem BR {y:V}:∀{xs:List V} {us:List Value},Vals xs us->xs.all vZ=true->us.countP (yM y)=xs.countP fun z=>vX z y
 |[],_,r,_=>by cases r;rfl
 |x::xs,_,r,f=>by
  cases r with
  |@cons _ u _ us h rt =>
   rw [List.all_cons,ei] at f;have l:=BR (y:=y) rt f.2;rw [List.countP_cons,List.countP_cons,l,mO h f.1]
theorem TH:oA X "list.count" VX:=by
 intro ke s σ H x vs v us Q I V Y h;obtain ⟨l,O,y,rfl,rfl,J,S,E,q⟩:=h;cases V;obtain ⟨u,rfl,G⟩:=Y.one;obtain ⟨z,D,n,r,hl,e⟩:=I.lstM J;refine gq F.slot_list_count ⟨_,e,rfl⟩ F.entry_list_count (F.args_list_count_2 _ _) (SeqAt.list_countAt l D.toArray n none #[] u (yM y)) ⟨e,fun w Z=>cD G S r E w (by simpa using Z),?_⟩;rw [show D.toArray.toList=D from rfl,BR r E];exact ⟨.int ((O.countP fun z=>vX z y:Nat):Int),H,I.tok _,⟨_,rfl⟩,q⟩
end
end L2
namespace L2
open PySem PySem.Spec PyProof.Rows
section
variable {prog:Program} {w:World} {A:Around} {s:Shared} {E:Value->Shared->Prop}
end
section
variable {X:Cx} {ke:List (Addr×Obj)} {σ:List (Option V)} {H:Hp} {s:Shared} {h':Heap}
end
section
variable {X:Cx}
end
section
variable {prog:Program} {w:World} {A:Around} {s:Shared} {E:Value->Shared->Prop}
end
section
variable {X:Cx} {e se:Expr} {te:TE} {lo hi:Option Expr} {tl th tk:TO} {ko p2:Pos}
end
section
variable {X:Cx}
end
section
end
section
variable {prog:Program} {w:World} {A:Around} {s:Shared} {E:Value->Shared->Prop}
theorem AU {h h':Heap} {p:Addr} {vs:Array Value} (l:h.IsTuple p vs) (k:∀o,h.get? p=some o->h'.get? p=some o):h'.IsTuple p vs:=by obtain ⟨o,e,c⟩:=l;exact ⟨o,k o e,c⟩
theorem SJ {it p:Addr} {vs:Array Value} (V:A.handled=none) (D:it≠p):Draws prog w A it [it,p] vs.size (fun i x=>vs[i]?=some x) (fun i h=>h.IsTupleIter it p i/\h.IsTuple p vs) where
 live:=fun i h l=>by obtain ⟨⟨o,e,_⟩,_⟩:=l;exact ⟨o,e⟩
 frame:=fun i h G l k=>⟨l.1.at fun o e=>k _ (by simp) o e,AU l.2 fun o e=>k _ (by simp) o e⟩
 item:=fun i s Q E F l O=>by
  refine BN l.1 l.2 (fg F) fun G S I=>?_
  exact O _ G s.toks (fg F) ⟨S,AU l.2 fun o e=>(I.2 _ D.symm).trans e⟩ I
 done:=fun s Q E l J=>t6 V l.1 l.2 (by simp) J
abbrev nV (h:Heap) (q:Addr):Heap:=h.push {cls:=.type "tuple_iterator",data:=.fields #[.ref q,.int 0 0]}
abbrev xW (h:Heap) (q:Addr):Heap:=(nV h q).push {cls:=.type "enumerate",data:=.fields #[.none,.bool false,.ref h.objs.size,rawInt 0,.none,.none]}
theorem OP (q:Addr) (us:Array Value) (m:Nat) (dd:Option Addr) (J:Array (Option Value)):Meets (Builtin.«enumerate.__new__» ⟨[.type "enumerate",.ref q],[]⟩) (fun _ R s=>s.heap.get? q=some {cls:=.type "tuple",dict:=dd,data:=.seq us m,slots:=J}/\R (.ok (.ret (.ref (nV s.heap q).objs.size))) {s with heap:=xW s.heap q}):=.of_wp fun prog w A R s h=>by
 obtain ⟨O,g,d,I,G⟩:=s;obtain ⟨l,h⟩:=h;have D:=sub_enumerate
 have F:Heap.IsTuple (Shared.heap ⟨O,g,d,I,G⟩) q us:=⟨_,l,rfl,m,rfl⟩
 wp_walk using hX l
 refine wpAny_stack_any fun S=>aJ ?_;split
 ·rename_i c _ _ _ _ _;cases (c == Value.type "enumerate")<;>(wp_walk using hX l,fu F;exact ⟨_,rfl,h⟩)
 ·wp_walk using hX l,fu F;exact ⟨_,rfl,h⟩
theorem RB {q:Addr} {us:Array Value} {Q:Value->Shared->Prop} (J:s.heap.IsTuple q us)
  (k:∀h',IsEnum h' (s.heap.objs.size+1) s.heap.objs.size 0 .none->h'.IsTupleIter s.heap.objs.size q 0->(∀b o,s.heap.get? b=some o->h'.get? b=some o)->Q (.ref (s.heap.objs.size+1)) {s with heap:=h'}):wpAny (model prog w) A (call (.type "enumerate") [.ref q]) Q E s:=by
 obtain ⟨⟨c,V,O,Z⟩,S,D,m,l⟩:=J;have D:c=.type "tuple":=D;have l:O=.seq us m:=l;subst D;subst l
 refine callType_new F.called_enumerate (by decide) (F.typeCall_enumerate_1 _) (F.newCall_enumerate_1 _) (fun G=>F.args_object_init_2 G _) F.entry_enumerate_new (OP q us m V Z) ⟨S,?_⟩;have Y:(nV s.heap q).objs.size=s.heap.objs.size+1:=du ..;have h:(xW s.heap q).get? (nV s.heap q).objs.size=some _:=aw _ rfl;have I:(xW s.heap q).get? s.heap.objs.size=some _:=ai _ (aw _ rfl);show _/\_;rw [Y] at h ⊢;exact ⟨⟨_,h,rfl⟩,k _ h ⟨_,I,rfl,rfl⟩ fun b o x=>ai _ (ai _ x)⟩
end
def xR (K:PySem.W.Frag) (a:Addr):It :=
 ⟨fun i H=>∃h x,SqT K H a h/\h[i]?=some x,
  fun i H v l=>∃T x,v=.ref T/\H T=none/\l=upd H T (.tup [.int (i:Int),x])/\∀h,SqT K H a h->h[i]?=some x,
  fun i H=>∃h,SqT K H a h/\h.length<=i⟩
theorem O9 {P:Program} {w:World} {K:PySem.W.Frag} {kj:List Expr} {x1:Nat} {ko:Pos} {a e it:Addr} (Y:e≠it) (aD:e≠a) (am:it≠a) :
  Turn P w K (.Tuple kj x1 ko) (xR K a) [e,it] e (fun i h=>(∃D,IsEnum h e it i D)/\h.IsTupleIter it a i) where
 mem:=by simp
 obj:=fun i h O b G=>by
  obtain ⟨⟨D,J⟩,⟨o1,e1,c1,d1⟩⟩:=O;simp only [aj,au,bv] at G
  rcases G with rfl|rfl
  ·exact ⟨_,J,fun v y=>by have y':Data.fields _=Data.cell v:=y;cases y'⟩
  ·exact ⟨o1,e1,fun v y=>by rw [d1] at y;cases y⟩
 keep:=fun i h h' O k=>by
  obtain ⟨⟨D,J⟩,h1⟩:=O;exact ⟨⟨D,k _ (by simp) _ J⟩,h1.at fun o e=>k _ (by simp) o e⟩
 item:=by
  intro X hP hw hK hc i ke s σ H E I hf O hg;subst hP hw hK;obtain ⟨⟨D,J⟩,h1⟩:=O;obtain ⟨xs,x,S,hx⟩:=hg;obtain ⟨l,Z,V,_⟩:=I.tuple S;have V:s.heap.IsTuple a l.toArray:=V;obtain ⟨u,hu,ru⟩:=Z.get hx;have a7:i<l.toArray.size:=by rw [ao];exact (ae.mp hu).1
  refine wpAny_pyNext_enum_itemD (SJ (A:=X.A.in1) (I.ok.hd hc) am) J ⟨h1,V⟩ a7 Y (by simp [Y,aD]) fun u' h' tk a6 a3 ap an a8 hk=>?_
  have eu:u'=u:=by
   have e1:l.toArray[i]?=some u':=a6;rw [List.getElem?_toArray,hu] at e1;exact (ay e1).symm
  subst eu;refine ⟨_,rfl,?_⟩;refine wpAny_letOwnedTupleGo_enum a3 fun h2 a5 ah=>?_
  have lt:∀{b:Addr} {o:Obj},s.heap.get? b=some o->b<s.heap.objs.size:=fun e=>aq e
  have nT:s.heap.objs.size≠e:=ek (lt J);have k2:∀b o,b∉[e,it]->s.heap.get? b=some o->h2.get? b=some o:=fun b o G q=>by
   simp only [aj,au,bv,not_or] at G;exact (ah.2 b G.1).trans (hk b o G.1 G.2 q)
  have a4:=(ah.2 _ nT).trans an;refine ⟨.ref s.heap.objs.size,upd H s.heap.objs.size (.tup [.int (i:Int),x]),I.laidN (t':=tk+1) (fp:=[e,it]) k2 hf (ak _) ⟨(by show 2<=sizeLine;decide),[.int i tk,u'],.cons ⟨_,rfl⟩ (.cons ru .nil),⟨_,a4,rfl,_,rfl⟩⟩,rfl,?_,?_,?_⟩
  ·exact ⟨_,x,rfl,I.hok.fresh (ak _),rfl,fun zs aU=>by rw [I.tuple_inj aU S];exact hx⟩
  ·exact ⟨⟨_,a5⟩,ap.1.at fun o q=>(ah.2 _ Y.symm).trans q⟩
  ·intro b G;have:=(hf b G).1;rw [jQ]
   ·exact this
   ·intro q;simp only [aj,au,bv] at G;obtain ⟨o1,e1,_⟩:=h1
    rcases G with rfl|rfl
    ·exact nT q.symm
    ·exact aQ (lt e1) q
 done:=by
  intro X hP hw hK hc i ke s σ H E I hf O hg;subst hP hw hK;obtain ⟨⟨D,J⟩,h1⟩:=O;obtain ⟨xs,S,hx⟩:=hg;obtain ⟨l,Z,V,_⟩:=I.tuple S;have V:s.heap.IsTuple a l.toArray:=V;have l1:=Z.length;unfold pyNext;refine ad (wpAny_attempt (dq (name:=Str.ofString "__next__") ⟨_,J,rfl⟩ F.slot_enumerate_next (gx F.slot_enumerate_next ⟨_,J,rfl⟩ F.entry_enumerate_next ?_ (F.args_enumerate_next_1 _))));show wpAny _ _ (field (.ref e) 2 >>= _) _ _ _;refine ad (bc J rfl (x:=.ref it) rfl ?_);refine ad (t6 (A:=X.A.in1) (I.ok.hd hc) h1 V (by simp;lia) fun h' z hk hz=>?_);obtain ⟨oz,ez,cz⟩:=hz;refine ad (wpAny_isInstance (T:="StopIteration") (b:=true) ⟨oz,ez,cz⟩ isSubtype_stop ?_);refine aJ ⟨rfl,I.turnedN (t':=s.toks) (fp:=[e,it]) (fun b o G q=>?_) hf⟩;simp only [aj,au,bv,not_or] at G;exact hk b o G.2 q
 self:=fun _ _ _ _ _ O h=>by obtain ⟨⟨D,J⟩,_⟩:=O;exact ik J h
section
variable {X:Cx} {kj:List Expr} {x1:Nat} {kh:Pos}
def WI (K:PySem.W.Frag) (D:TA):TI:=fun E H R=>D E H fun l h=>∃a,l=[.ref a]/\(∃F,SqT K h a F)/\R (xR K a) h
theorem uP {a:Expr} {V:TA} {p Z:Pos} (hg:Gl X "enumerate") (hm:X.mg "enumerate"=none) (ha:PA X [a] V) (hs:starEach [a] X.env=[(false,eval a X.env)]:=by rfl) :
  PI X (.Tuple kj x1 kh) (.Call (.Name "enumerate" p) [a] [] Z) (WI X.K V):=by
 intro ke s σ H R I h;refine Call_ (cJ I hg hm boot_enumerate (cu (jZ (ha Z ke s σ H _ I h) fun us F ⟨vs,H1,G,r1,q1⟩=>?_) hs rfl));obtain ⟨a1,e,⟨xs,O⟩,q⟩:=q1;subst e;cases r1 with
 |cons r rr =>
  cases rr;cases r;obtain ⟨D,am,E,_⟩:=G.tuple O;have E:F.heap.IsTuple a1 D.toArray:=E;have ah:a1<F.heap.objs.size:=by obtain ⟨o,e,_⟩:=E;exact aq e
  refine RB E fun h' S J hk=>?_
  refine ik S ?_;refine ⟨_,_,_,_,H1,rfl,G.kept (t':=F.toks) hk,O9 (Nat.succ_ne_self _) (by intro z;simp only [Addr] at *;lia) (by intro z;simp only [Addr] at *;lia),⟨⟨_,S⟩,J⟩,fun b Y=>?_,q⟩;simp only [aj,au,bv] at Y;have l:F.heap.objs.size<=b:=by rcases Y with rfl|rfl<;>simp only [Addr] at *<;>lia
  exact G.fpOk l (G.hok.fresh l)
theorem tJ {K:PySem.W.Frag} {a D:Addr} {xs:List V} {g:TG} {Z:TT} {S:TE} {l:St} {H:Hp} {Q:Hp->Prop} (F:Nat->St->Hp->Prop) (h0:F 0 l (upd H D (.lst []))) (hl:∀i h H,i<=xs.length->F i h H->SqT K H a xs)
  (hs:∀i x h H T,xs[i]?=some x->F i h H->H T=none->g (.ref T) h (upd H T (.tup [.int (i:Int),x])) fun E H3=>Z E H3 fun b Y=>if b=true then S E Y fun v O=>∃J,O D=some (.lst J)/\J.length<sizeLine/\F (i+1) E (upd O D (.lst (J++[v]))) else F (i+1) E Y)
  (hd:∀h H,F xs.length h H->Q H):JS D (xR K a) g Z S l H Q:=by
 refine ⟨fun i m h H=>m=xs.length - i/\i<=xs.length/\F i h H,⟨xs.length,by simp,aH _,h0⟩,?_⟩;rintro i m h H ⟨rfl,hi,p⟩;have I:=hl i h H hi p
 by_cases G:i<xs.length
 ·refine .inr ⟨⟨xs,_,I,aa G⟩,F (i+1),fun ah H' p'=>⟨xs.length - (i+1),by lia,rfl,G,p'⟩,fun v H' hy=>?_⟩;obtain ⟨T,x,rfl,hT,rfl,e1⟩:=hy;exact hs i x h H T (e1 xs I) p hT
 ·exact .inl ⟨⟨xs,I,by lia⟩,hd h H (by rw [show xs.length=i by lia];exact p)⟩
end
section
variable {X:Cx}
end
variable {K:PySem.W.Frag} {H:Hp} {i:Int} {v:V} {P:V->Prop}
theorem qM {p:Addr} {xs:List V} (h:SqL K H p xs) (t:vO xs i=some v) (q:P v):∃E l F D,V.ref p=.ref E/\V.int i=.int F/\SqL K H E l/\vO l F=some D/\P D:=⟨p,xs,i,v,rfl,rfl,h,t,q⟩
theorem jK {p:Addr} {xs:List V} (h:SqT K H p xs) (t:vO xs i=some v) (q:P v):∃E l F D,V.ref p=.ref E/\V.int i=.int F/\SqT K H E l/\vO l F=some D/\P D:=⟨p,xs,i,v,rfl,rfl,h,t,q⟩
theorem kR {a C I:Addr} {F:List (Str×V)} {f:Str} (h:H a=some (.ins C I F)) (c:Cls K C) (n:NoAttr K C f) (l:F.lookup f=some v) (q:P v):∃J C' E D G,V.ref a=.ref J/\H J=some (.ins C' E D)/\Cls K C'/\NoAttr K C' f/\D.lookup f=some G/\P G:=⟨a,C,I,F,v,rfl,h,c,n,l,q⟩
theorem qS {P:Int->Int->Prop} {j:Int} (h:P i j):∃a b,V.int i=V.int a/\V.int j=V.int b/\P a b:=⟨i,j,rfl,rfl,h⟩
end L2
namespace L2
open PySem PySem.Spec PyProof.Rows
section
variable {X:Cx}
end
end L2
namespace L2
theorem jB {l D:Type} {f:l->D} {b:D} {v:l} {B:l->Prop} (h:b=f v) (q:B v):∃x,b=f x/\B x:=⟨v,h,q⟩
open PySem PySem.Spec PyProof.Rows in
theorem jX {CX:yI} {P:Program} {w:World} {K:PySem.W.Frag} {l:Str->Option Value} {base:Heap} {N:List Str} {D:Str} {scope:Scope} {f:Addr} {h:Value} {A:Around} {outer:List Env} {s:Shared} {H:Hp} {E:XK}:(qF CX P w K l base N D scope f h A outer s H E).K=K:=rfl
open PySem PySem.Spec PyProof.Rows in
theorem jW {CX:yI} {P:Program} {w:World} {K:PySem.W.Frag} {l:Str->Option Value} {base:Heap} {N:List Str} {D:Str} {scope:Scope} {f:Addr} {h:Value} {A:Around} {outer:List Env} {s:Shared} {H:Hp} {E:XK}:(qF CX P w K l base N D scope f h A outer s H E).nox.K=K:=rfl
end L2
namespace L2
variable {α0 α1 α2:Sort _}
theorem j3 {P:α0->α1->α2->Prop} (a0:α0) (a1:α1) (a2:α2) (h:P a0 a1 a2):∃a0 a1 a2,P a0 a1 a2:=⟨a0,a1,a2,h⟩
variable {α3:Sort _}
theorem j5 {P:α0->α1->α2->α3->Prop} (a0:α0) (a1:α1) (a2:α2) (l:α3) (h:P a0 a1 a2 l):∃a0 a1 a2 l,P a0 a1 a2 l:=⟨a0,a1,a2,l,h⟩
variable {α4:Sort _}
theorem kS {P:α0->α1->α2->α3->α4->Prop} (a0:α0) (a1:α1) (a2:α2) (l:α3) (D:α4) (h:P a0 a1 a2 l D):∃a0 a1 a2 l D,P a0 a1 a2 l D:=⟨a0,a1,a2,l,D,h⟩
variable {α5:Sort _}
theorem yE {P:α0->α1->α2->α3->α4->α5->Prop} (a0:α0) (a1:α1) (a2:α2) (l:α3) (D:α4) (E:α5) (h:P a0 a1 a2 l D E):∃a0 a1 a2 l D E,P a0 a1 a2 l D E:=⟨a0,a1,a2,l,D,E,h⟩
variable {α6:Sort _}
theorem kI {P:α0->α1->α2->α3->α4->α5->α6->Prop} (a0:α0) (a1:α1) (a2:α2) (F:α3) (E:α4) (D:α5) (l:α6) (h:P a0 a1 a2 F E D l):∃a0 a1 a2 F E D l,P a0 a1 a2 F E D l:=⟨a0,a1,a2,F,E,D,l,h⟩
variable {α7:Sort _}
theorem Z4 {P:α0->α1->α2->α3->α4->α5->α6->α7->Prop} (a0:α0) (a1:α1) (a2:α2) (G:α3) (E:α4) (D:α5) (l:α6) (F:α7) (h:P a0 a1 a2 G E D l F):∃a0 a1 a2 G E D l F,P a0 a1 a2 G E D l F:=⟨a0,a1,a2,G,E,D,l,F,h⟩
variable {α8:Sort _}
theorem vG {P:α0->α1->α2->α3->α4->α5->α6->α7->α8->Prop} (a0:α0) (a1:α1) (a2:α2) (I:α3) (F:α4) (D:α5) (l:α6) (G:α7) (E:α8) (h:P a0 a1 a2 I F D l G E):∃a0 a1 a2 I F D l G E,P a0 a1 a2 I F D l G E:=⟨a0,a1,a2,I,F,D,l,G,E,h⟩
variable {α9:Sort _}
theorem eS {P:α0->α1->α2->α3->α4->α5->α6->α7->α8->α9->Prop} (a0:α0) (a1:α1) (a2:α2) (J:α3) (G:α4) (E:α5) (D:α6) (I:α7) (F:α8) (l:α9) (h:P a0 a1 a2 J G E D I F l):∃a0 a1 a2 J G E D I F l,P a0 a1 a2 J G E D I F l:=⟨a0,a1,a2,J,G,E,D,I,F,l,h⟩
variable {α10:Sort _}
theorem X9 {P:α0->α1->α2->α3->α4->α5->α6->α7->α8->α9->α10->Prop} (a0:α0) (a1:α1) (a2:α2) (O:α3) (I:α4) (F:α5) (E:α6) (J:α7) (G:α8) (D:α9) (l:α10) (h:P a0 a1 a2 O I F E J G D l):∃a0 a1 a2 O I F E J G D l,P a0 a1 a2 O I F E J G D l:=⟨a0,a1,a2,O,I,F,E,J,G,D,l,h⟩
variable {α11:Sort _}
theorem X8 {P:α0->α1->α2->α3->α4->α5->α6->α7->α8->α9->α10->α11->Prop} (a0:α0) (a1:α1) (a2:α2) (S:α3) (J:α4) (G:α5) (F:α6) (O:α7) (I:α8) (E:α9) (D:α10) (l:α11) (h:P a0 a1 a2 S J G F O I E D l):∃a0 a1 a2 S J G F O I E D l,P a0 a1 a2 S J G F O I E D l:=⟨a0,a1,a2,S,J,G,F,O,I,E,D,l,h⟩
variable {α12:Sort _}
theorem xL {P:α0->α1->α2->α3->α4->α5->α6->α7->α8->α9->α10->α11->α12->Prop} (a0:α0) (a1:α1) (a2:α2) (V:α3) (O:α4) (I:α5) (G:α6) (S:α7) (J:α8) (F:α9) (E:α10) (D:α11) (l:α12) (h:P a0 a1 a2 V O I G S J F E D l):∃a0 a1 a2 V O I G S J F E D l,P a0 a1 a2 V O I G S J F E D l:=⟨a0,a1,a2,V,O,I,G,S,J,F,E,D,l,h⟩
theorem gN {G:Sort _} {P:α0->α1->α2->α3->α4->α5->α6->α7->α8->α9->α10->α11->α12->G->Prop} (a0:α0) (a1:α1) (a2:α2) (Z:α3) (V:α4) (O:α5) (J:α6) (Y:α7) (S:α8) (I:α9) (F:α10) (D:α11) (l:α12) (E:G) (h:P a0 a1 a2 Z V O J Y S I F D l E):∃a0 a1 a2 Z V O J Y S I F D l E,P a0 a1 a2 Z V O J Y S I F D l E:=⟨a0,a1,a2,Z,V,O,J,Y,S,I,F,D,l,E,h⟩
theorem xK {J:Sort _} {S:Sort _} {O:Sort _} {P:α0->α1->α2->α3->α4->α5->α6->α7->α8->α9->α10->α11->α12->J->S->O->Prop} (a0:α0) (a1:α1) (a2:α2) (Y:α3) (a4:α4) (Z:α5) (a6:α6) (a7:α7) (a8:α8) (V:α9) (G:α10) (D:α11) (l:α12) (I:J) (E:S) (F:O) (h:P a0 a1 a2 Y a4 Z a6 a7 a8 V G D l I E F):∃a0 a1 a2 Y a4 Z a6 a7 a8 V G D l I E F,P a0 a1 a2 Y a4 Z a6 a7 a8 V G D l I E F:=⟨a0,a1,a2,Y,a4,Z,a6,a7,a8,V,G,D,l,I,E,F,h⟩
variable {A0 A1 A2:Prop}
theorem kG (h:A0) (l:A1) (D:A2):A0/\A1/\A2:=⟨h,l,D⟩
variable {A3:Prop}
theorem jM (l:A0) (D:A1) (E:A2) (h:A3):A0/\A1/\A2/\A3:=⟨l,D,E,h⟩
variable {A4:Prop}
theorem jP (l:A0) (D:A1) (h:A2) (F:A3) (E:A4):A0/\A1/\A2/\A3/\A4:=⟨l,D,h,F,E⟩
variable {A5:Prop}
theorem j7 (l:A0) (D:A1) (h:A2) (G:A3) (E:A4) (F:A5):A0/\A1/\A2/\A3/\A4/\A5:=⟨l,D,h,G,E,F⟩
variable {A6:Prop}
theorem vS (l:A0) (D:A1) (h:A2) (I:A3) (E:A4) (G:A5) (F:A6):A0/\A1/\A2/\A3/\A4/\A5/\A6:=⟨l,D,h,I,E,G,F⟩
variable {A7:Prop}
theorem y6 (D:A0) (F:A1) (l:A2) (J:A3) (E:A4) (I:A5) (G:A6) (h:A7):A0/\A1/\A2/\A3/\A4/\A5/\A6/\A7:=⟨D,F,l,J,E,I,G,h⟩
variable {A8:Prop}
theorem fB (D:A0) (F:A1) (l:A2) (J:A3) (E:A4) (I:A5) (G:A6) (h:A7) (O:A8):A0/\A1/\A2/\A3/\A4/\A5/\A6/\A7/\A8:=⟨D,F,l,J,E,I,G,h,O⟩
theorem dE {h:Prop} (E:A0) (F:A1) (D:A2) (O:A3) (G:A4) (J:A5) (I:A6) (l:A7) (S:A8) (V:h):A0/\A1/\A2/\A3/\A4/\A5/\A6/\A7/\A8/\h:=⟨E,F,D,O,G,J,I,l,S,V⟩
theorem GS {D h:Prop} (G:A0) (I:A1) (F:A2) (V:A3) (J:A4) (S:A5) (O:A6) (E:A7) (Y:A8) (Z:D) (l:h):A0/\A1/\A2/\A3/\A4/\A5/\A6/\A7/\A8/\D/\h:=⟨G,I,F,V,J,S,O,E,Y,Z,l⟩
variable {C:Prop}
theorem bR {P:α0->α1->α2->Prop} (h:∃a0 a1 a2,P a0 a1 a2) (q:∀a0 a1 a2,P a0 a1 a2->C):C:=by
 obtain ⟨a0,a1,a2,h⟩:=h;exact q _ _ _ h
theorem dA {P:α0->α1->α2->α3->Prop} (h:∃a0 a1 a2 l,P a0 a1 a2 l) (q:∀a0 a1 a2 l,P a0 a1 a2 l->C):C:=by
 obtain ⟨a0,a1,a2,l,h⟩:=h;exact q _ _ _ _ h
theorem Q6 {P:α0->α1->α2->α3->α4->Prop} (h:∃a0 a1 a2 l D,P a0 a1 a2 l D) (q:∀a0 a1 a2 l D,P a0 a1 a2 l D->C):C:=by
 obtain ⟨a0,a1,a2,l,D,h⟩:=h;exact q _ _ _ _ _ h
theorem bQ {P:α0->α1->α2->α3->α4->α5->Prop} (h:∃a0 a1 a2 l D E,P a0 a1 a2 l D E) (q:∀a0 a1 a2 l D E,P a0 a1 a2 l D E->C):C:=by
 obtain ⟨a0,a1,a2,l,D,E,h⟩:=h;exact q _ _ _ _ _ _ h
theorem yL {P:α0->α1->α2->α3->α4->α5->α6->Prop} (h:∃a0 a1 a2 F E D l,P a0 a1 a2 F E D l) (q:∀a0 a1 a2 F E D l,P a0 a1 a2 F E D l->C):C:=by
 obtain ⟨a0,a1,a2,F,E,D,l,h⟩:=h;exact q _ _ _ _ _ _ _ h
theorem ZW {P:α0->α1->α2->α3->α4->α5->α6->α7->Prop} (h:∃a0 a1 a2 G E D l F,P a0 a1 a2 G E D l F) (q:∀a0 a1 a2 G E D l F,P a0 a1 a2 G E D l F->C):C:=by
 obtain ⟨a0,a1,a2,G,E,D,l,F,h⟩:=h;exact q _ _ _ _ _ _ _ _ h
theorem zZ {P:α0->α1->α2->α3->α4->α5->α6->α7->α8->Prop} (h:∃a0 a1 a2 I F D l G E,P a0 a1 a2 I F D l G E) (q:∀a0 a1 a2 I F D l G E,P a0 a1 a2 I F D l G E->C):C:=by
 obtain ⟨a0,a1,a2,I,F,D,l,G,E,h⟩:=h;exact q _ _ _ _ _ _ _ _ _ h
theorem vC (h:A0/\A1/\A2) (q:A0->A1->A2->C):C:=by
 obtain ⟨l,D,E⟩:=h;exact q l D E
theorem bS (h:A0/\A1/\A2/\A3) (q:A0->A1->A2->A3->C):C:=by
 obtain ⟨D,E,l,F⟩:=h;exact q D E l F
theorem Z0 (h:A0/\A1/\A2/\A3/\A4) (q:A0->A1->A2->A3->A4->C):C:=by
 obtain ⟨D,E,l,G,F⟩:=h;exact q D E l G F
theorem z3 (h:A0/\A1/\A2/\A3/\A4/\A5) (q:A0->A1->A2->A3->A4->A5->C):C:=by
 obtain ⟨D,E,l,I,F,G⟩:=h;exact q D E l I F G
theorem ZZ (h:A0/\A1/\A2/\A3/\A4/\A5/\A6) (q:A0->A1->A2->A3->A4->A5->A6->C):C:=by
 obtain ⟨D,E,l,J,F,I,G⟩:=h;exact q D E l J F I G
theorem eV (h:A0/\A1/\A2/\A3/\A4/\A5/\A6/\A7) (q:A0->A1->A2->A3->A4->A5->A6->A7->C):C:=by
 obtain ⟨E,G,D,O,F,J,I,l⟩:=h;exact q E G D O F J I l
end L2
namespace L2
open PySem PySem.Spec PyProof.Rows
section
variable {X:Cx}
end
section
variable {prog:Program} {w:World} {A:Around} {E:Value->Shared->Prop} {s:Shared}
end
section
variable {X:Cx}
end
section
variable {X:Cx} {ke:List (Addr×Obj)} {σ:St} {H:Hp} {s:Shared} {a:Addr} {y d:V} {u r:Value} {o:Option V} {A:Around} {E:Value->Shared->Prop}
end
section
variable {X:Cx} {o e f:Expr} {ki cpos:Pos} {td ty tx:TE}
end
section
variable {M:Model} {A:Around} {E:Value->Shared->Prop} {s:Shared}
theorem TB {B:Heap} {l:Env} {outer:List Env} {L e:Addr} {cls a0 fl:Value} {Q:Unit->Shared->Prop} (O:A.frames=some (l::outer)) (hl:s.heap.FunFrames B (l::outer)) (hf:l.frame=some L) (ht:s.heap.TracedAtW B e cls a0 fl) (hn:fl≠rawInt L) (hb:B.StaysIn s.heap) (I:B.get? e=none)
  (q:∀h',Heap.NotedW B (l::outer) e cls a0 (rawInt L) s.heap h'->Q () {s with heap:=h'}):wpAny M A (noteFrame (.ref e) l) Q E s:=by
 obtain ⟨oe,vs,T,oT,ts,Y,⟨rfl,h0⟩,Z,h1,nT,V,S,J,h3⟩:=ht;unfold noteFrame;simp only [hf];refine ad (bc Y Z h1 ?_);rw [if_pos (show (Value.ref T != Value.none)=true from by simp)];refine ad (bc S J h3 ?_);rw [if_neg (show ¬((fl == rawInt L)=true) from fun z=>hn (eq_of_beq z))];refine ad (ff S J (bo.mp h3).1 ?_);have D:∀b,b≠T->(s.heap.update T (Obj.mapFields (·.setIfInBounds 3 Value.none))).get? b=s.heap.get? b:=fun b nb=>aY _ _ (Ne.symm nb)
 have F:∀b o,s.heap.get? b=some o->(∀vs,o.data≠.fields vs)->b≠T:=fun b o h G z=>by rw [z,S] at h;cases h;exact G ts J
 refine wpAny_entryW O (hl.of_keeps fun b o h G=>⟨o,(D b (F b o h G)).trans h,rfl⟩) hf ((D e (Ne.symm V)).trans Y) (fun b o h=>(D b fun z=>by rw [z,nT] at h;cases h).trans (hb b o h)) I Z (bo.mp h1).1 h0 fun h' y=>?_
 obtain ⟨y1,y2,y3,y4⟩:=y;exact q h' ⟨y1,y2,y3,fun b o h G=>y4 b o ((D b (F b o h G)).trans h) G⟩
theorem BP {B:Heap} {h:Env} {outer:List Env} {L e:Addr} {cls a0 fl:Value} {Q:Unit->Shared->Prop} (J:A.frames=some (h::outer)) (Y:s.heap.FunFrames B (h::outer)) (S:h.frame=some L) (I:s.heap.TracedAtW B e cls a0 fl) (V:B.StaysIn s.heap) (l:B.get? e=none)
  (q:∀h',Heap.FlyingW B outer e cls a0 h'->s.heap.UpToSlots h'->Q () {s with heap:=h'}):wpAny M A (leaving h (.ref e)) Q E s:=by
 have F:∀D,Heap.HeldW B (h::outer) e cls a0 L D->s.heap.UpToSlots D->wpAny M A (setFlight (.ref e) none) Q E {s with heap:=D}:=fun D hh up=>by
  refine wpAny_landsW (s:={s with heap:=D}) hh fun h' G O=>q h' ?_ (up.trans O)
  obtain ⟨k1,k2,⟨_,_,k3⟩,k4⟩:=G;exact ⟨k1,k2,k3,k4⟩
 unfold leaving
 by_cases Z:fl=rawInt L
 ·subst Z;exact ad (wpAny_noteFrame_againW S I (F s.heap ⟨V,l,Y,I⟩ (Heap.UpToSlots.refl _)))
 ·refine ad (TB J Y S I Z V l fun D y=>?_);obtain ⟨y1,y2,y3,y4⟩:=y;exact F D ⟨y1,l,y2,y3⟩ y4
end
theorem R0 {B h:Heap} (k:∀b o,h.get? b=some o->B.get? b=some o) {b:Addr} (l:B.get? b=none):h.get? b=none:=by
 cases r:h.get? b with
 |none=>rfl
 |some v=>rw [k b v r] at l;cases l
theorem BC {h B D:Heap} (k:∀b o,D.get? b=some o->B.get? b=some o):∀{l:List Env},h.FunFrames B l->h.FunFrames D l
 |[],_=>trivial
 |_::_,⟨hk,⟨L,o,I,J,E,F⟩,G⟩=>⟨hk,⟨L,o,I,R0 k J,E,F⟩,BC k G⟩
def eK (X:Cx) (N:List Str) (scope:Scope) (C:Addr) (s:Shared) (H:Hp) (F:List (Addr×Obj)) (fp:List Addr) (RX:Value->Hp->Prop):Value->Shared->Prop:=fun e G=>∃h E l D,Inv (qV X N scope C s H F fp) h E l D/\kJ X.prog X.w X.stack l D (fun c _ I=>RX c I) e G
theorem P4 {X:Cx} {N:List Str} {scope:Scope} {C:Addr} {s:Shared} {H:Hp} {F:List (Addr×Obj)} {fp:List Addr} {RX:Value->Hp->Prop}:Q3 ((qV X N scope C s H F fp).wish (eK X N scope C s H F fp RX)) (fun _ c J=>RX c J) :=
 fun h l D E _ _ I G=>⟨h,l,D,E,I.unwish,G⟩
section
variable {P:Program} {w:World} {K:PySem.W.Frag} {mg:Str->Option Value} {base:Heap} {N:List Str} {kg:Str} {scope:Scope} {f:Addr} {cd:Value} {A:Around} {outer:List Env} {s:Shared} {H:Hp} {E:XK}
theorem T7 {Nc:List Str} {sc:Scope} {ke:List (Addr×Obj)} {σ:St} {H2:Hp} {s2:Shared} {fp:List Addr} {C:Addr} {e df:Value} {I:Shared} {use:Option (Value->Sem Unit)} {Q:Value->Shared->Prop} {E':Value->Shared->Prop}
  (I2:Inv (qF (kJ P w) P w K mg base N kg scope f cd A outer s H E) ke σ H2 s2) (f2:∀b∈fp,JK (qF (kJ P w) P w K mg base N kg scope f cd A outer s H E) ke H2 b) (hC:s2.heap.objs.size<=C)
  (hx:eK (qF (kJ P w) P w K mg base N kg scope f cd A outer s H E) Nc sc C s2 H2 ke fp (fun c H'=>E c none H') e I) (cells:List (Str×Addr)) :
  wpAny (model P w) (A.deeper (envOfC kg scope s.heap.objs.size f cd)) (noteFrame e (compEnvC sc cells C (envOfC kg scope s.heap.objs.size f cd)))
   (fun _ J=>compPost (model P w) (A.deeper (envOfC kg scope s.heap.objs.size f cd)) (qF (kJ P w) P w K mg base N kg scope f cd A outer s H E).xe use Q df C (.error e) J) E' I:=by
 obtain ⟨V,a7,b7,F,Ic,a,Cc,H3,rfl,os,b9,un,cB,⟨B,a0,fl,D⟩,ha,cN,q⟩:=hx;have J1:Inv (qV (qF (kJ P w) P w K mg base N kg scope f cd A outer s H E) Nc sc C s2 H2 ke fp) V a7 H3 I:=Ic.call' (ch:=[]) os un cB b9 fun b z=>absurd z (by simp)
 have J0:=J1.pins_of (pins':=[]) fun p hp=>nomatch hp
 have JX:Inv (qF (kJ P w) P w K mg base N kg scope f cd A outer s H E) ke σ H3 I:=lK (σ':=σ) I2 f2 J0;have be:Heap.FlyingW B (envOfC kg scope s.heap.objs.size f cd::outer) a (.ref Cc) a0 I.heap:=fl;have b3:j8 (envOfC kg scope s.heap.objs.size f cd::outer)=s.heap.objs.size::j8 outer:=rfl;have ce:s2.heap.FunFrames base (envOfC kg scope s.heap.objs.size f cd::outer):=I2.stack;have c4:I.heap.FunFrames base (envOfC kg scope s.heap.objs.size f cd::outer):=JX.stack;have ub:Un (j8 outer) [] H H3 s.heap I.heap:=JX.base;have u2:Un (j8 outer) [] H H2 s.heap s2.heap:=I2.base;have uc:Un (j8 (envOfC kg scope s.heap.objs.size f cd::outer)) fp H2 b7 s2.heap F.heap:=Ic.base;have Y:C∉j8 (envOfC kg scope s.heap.objs.size f cd::outer):=fun z=>by
  obtain ⟨_,o,ho,_⟩:=ce.mem z;exact absurd (aq ho) (Nat.not_lt_of_le hC)
 have cj:∀b,(∃o',s.heap.get? b=some o')->b∉j8 outer->b∉j8 (envOfC kg scope s.heap.objs.size f cd::outer):=fun b ⟨o',z⟩ n y=>by
  rw [b3] at y
  rcases aj.mp y with y|y
  ·exact absurd (aq z) (by rw [y];exact bz _)
  ·exact n y
 have yR:∀b,H3 b≠none->b∉j8 (envOfC kg scope s.heap.objs.size f cd::outer):=fun b hb z=>hb (JX.stkFree b z)
 have cP:∀b,(∃o',s.heap.get? b=some o')->b∉fp:=fun b ⟨o',z⟩ y=>by
  obtain ⟨_,_,_,h,_⟩:=f2 b y
  rcases h with h|h
  ·cases h
  ·exact absurd (aq z) (Nat.not_lt_of_le h)
 have a6:∀b,(∃o',s.heap.get? b=some o')->∃o',F.heap.get? b=some o':=fun b z=>by
  obtain ⟨o',z'⟩:=z;obtain ⟨o2,h2⟩:=u2.there b o' z' (by simp);exact uc.there b o2 h2 (cP b ⟨o',z'⟩)
 have b1:∀b,(∃o',s.heap.get? b=some o')->b≠C:=fun b z y=>by
  obtain ⟨o',z'⟩:=z;obtain ⟨o2,h2⟩:=u2.there b o' z' (by simp);exact absurd (aq h2) (Nat.not_lt_of_le (by rw [y];exact hC))
 obtain ⟨m,c7,_⟩:=J0.loc;have aU:I.heap.Ns C m:=c7;have ah:∃o,B.get? C=some o:=by
  obtain ⟨m1,c3,_⟩:=Ic.loc;obtain ⟨o1,_,_,c5,_⟩:=(show F.heap.Ns C m1 from c3);obtain ⟨o2,_,_,c1,_⟩:=aU;exact ⟨o2,D C o2 c1 Y (.inr ⟨o1,c5⟩)⟩
 obtain ⟨oC,ah⟩:=ah;have b0:H3 C=none:=J1.free;have a4:∀b o,(PySem.W.hideAll B [C]).get? b=some o->B.get? b=some o:=fun b o z=>ft _ z
 have cO:∀b o,b≠C->B.get? b=some o->(PySem.W.hideAll B [C]).get? b=some o:=fun b o n z=>dz _ z fun y=>n (aO.mp y)
 have b8:∀b,B.get? b=none->(PySem.W.hideAll B [C]).get? b=none:=fun b z=>by
  cases r:(PySem.W.hideAll B [C]).get? b with
  |none=>rfl
  |some v=>rw [a4 b v r] at z;cases z
 show wpAny (model P w) (A.deeper (envOfC kg scope s.heap.objs.size f cd)) (noteFrame (.ref a) (envOfC kg scope s.heap.objs.size f cd)) _ _ I;obtain ⟨T0,cz⟩:=wF be q.1;refine b6 (P:=fun h=>Heap.HeldW B (envOfC kg scope s.heap.objs.size f cd::outer) a (.ref Cc) a0 s.heap.objs.size h/\I.heap.UpToSlots h) (fun Q k=>kb J1.ok.frames rfl be fun h S up=>k h ⟨S,up⟩)
  (R:=fun h=>JW h a) (fun Q k=>wQ J1.ok.frames be.2.2.1 rfl cz fun h T c=>k h c.to) fun h ⟨S,up⟩ c6=>?_
 obtain ⟨k1,k2,k3,oe,vs,T,oT,ts,he,c2,hd,h1,nT,an,hT,dT,h3⟩:=S;refine ⟨m,up.ns aU,fun Z sb co _=>?_⟩;have db:a≠C:=fun z=>by rw [z,ah] at k2;cases k2
 have cU:T≠C:=fun z=>by rw [z,ah] at nT;cases nT
 have ap:Z.get? a=some oe:=(sb.2 a db).trans he;have ca:Z.get? T=some oT:=(sb.2 T cU).trans hT;unfold PySem.passOn;refine ad (bc ap hd h1 ?_);rw [if_neg (by simp)];unfold setFlight;refine ad (ad (bc ap hd h1 ?_));rw [if_pos (by simp)];have a8:3<ts.size:=(bo.mp h3).1;refine ff ca dT a8 (wpAny_throw ?_);generalize dj:(co.frame.elim Value.none fun f=>rawInt f)=fv;have am:∀b,b≠T->(Z.update T (Obj.mapFields (·.setIfInBounds 3 fv))).get? b=Z.get? b:=fun b nb=>aY _ _ (Ne.symm nb)
 have b4:=bx (Obj.mapFields (·.setIfInBounds 3 fv)) ca (cc (aP dT _));have b2:(Z.update T (Obj.mapFields (·.setIfInBounds 3 fv))).TracedAtW (PySem.W.hideAll B [C]) a (.ref Cc) a0 fv:=⟨oe,vs,T,_,_,(am a (Ne.symm an)).trans ap,c2,hd,h1,b8 T nT,an,b4,aP dT _,by simp [a8]⟩;have O:(PySem.W.hideAll B [C]).StaysIn (Z.update T (Obj.mapFields (·.setIfInBounds 3 fv))):=fun b o z=>by
  have zb:=a4 b o z;have nb:b≠C:=fun y=>by rw [y,fi [C] bq] at z;cases z
  have nt:b≠T:=fun y=>by rw [y,nT] at zb;cases zb
  rw [am b nt,sb.2 b nb];exact k1 b o zb
 have aD:∀b o,b≠C->h.get? b=some o->(∀vs,o.data≠.fields vs)->(Z.update T (Obj.mapFields (·.setIfInBounds 3 fv))).get? b=some o:=fun b o nb z nf=>by
  have nt:b≠T:=fun y=>by rw [y,hT] at z;cases z;exact nf ts dT
  rw [am b nt,sb.2 b nb];exact z
 have bt:(Z.update T (Obj.mapFields (·.setIfInBounds 3 fv))).FunFrames (PySem.W.hideAll B [C]) (envOfC kg scope s.heap.objs.size f cd::outer):=by
  have a3:=BC a4 k3;clear b2 O
  revert a3
  generalize envOfC kg scope s.heap.objs.size f cd::outer=l at Y;intro a3
  induction l with
  |nil=>trivial
  |cons cv cn ih =>
   obtain ⟨g1,⟨L,o,g2,g3,g4,g5⟩,g6⟩:=a3;have hm:L∈j8 (cv::cn):=cw.mpr ⟨cv,bq,g2⟩;refine ⟨g1,⟨L,o,g2,g3,aD L o (fun y=>Y (by rw [<- y];exact hm)) g4 g5,g5⟩,ih (fun z=>Y ?_) g6⟩;obtain ⟨en,c9,hf⟩:=cw.mp z;exact cw.mpr ⟨en,aF _ c9,hf⟩
 show wpAny (model P w) (A.deeper (envOfC kg scope s.heap.objs.size f cd)) (leaving (envOfC kg scope s.heap.objs.size f cd) (.ref a)) (fun _ J=>kJ P w outer H s E (.ref a) J) (fun e' J=>kJ P w outer H s E e' J) _;have de:Ctx1 (Z.update T (Obj.mapFields (·.setIfInBounds 3 fv))) a T:=by
  obtain ⟨o,us,g1,g2,g3⟩:=c6;rw [he] at g1;cases g1
  rw [hd] at g2;cases g2
  exact ⟨⟨oe,vs,(am a (Ne.symm an)).trans ap,hd,g3,h1⟩,an,_,_,b4,aP dT _,by simp [a8]⟩
 refine b6 (P:=fun h7=>Heap.FlyingW (PySem.W.hideAll B [C]) outer a (.ref Cc) a0 h7/\(Z.update T (Obj.mapFields (·.setIfInBounds 3 fv))).UpToSlots h7) (fun Q k=>BP (B:=PySem.W.hideAll B [C]) JX.ok.frames bt rfl b2 O (b8 a k2) fun h7 G a9=>k h7 ⟨G,a9⟩)
  (R:=fun h7=>JW h7 a) (fun Q k=>CJ JX.ok.frames bt rfl de fun h7 T c=>k h7 c.to) fun h7 ⟨G,a9⟩ cC=>?_
 have g7:∀b o,I.heap.get? b=some o->b∉j8 (envOfC kg scope s.heap.objs.size f cd::outer)->b≠C->(H3 b≠none\/∃o',F.heap.get? b=some o')->(PySem.W.hideAll B [C]).get? b=some o:=fun b o z n nb y=>cO b o nb (D b o z n y)
 refine ⟨a,Cc,H3,rfl,JX.os,JX.bare,ub.go (fun b o z n _ y=>G.1 b o (g7 b o z (cj b y n) (b1 b y) (.inr (a6 b y)))) (fun b o z n _=>?_),JX.hok.keepT fun b u hb z=>G.1 b u (g7 b u z (yR b hb) (fun y=>hb (by rw [y];exact b0)) (.inl hb)),?_,ha,?_,cC,q.2⟩
 ·have hm:b∈j8 (envOfC kg scope s.heap.objs.size f cd::outer):=by rw [b3];exact aF _ n
  obtain ⟨_,o',bl,a5⟩:=c4.mem hm;rw [z] at bl;cases bl
  obtain ⟨sl,e4⟩:=up b o z a5;have e6:=aD b _ (fun y=>Y (by rw [<- y];exact hm)) e4 a5;obtain ⟨cR,e7⟩:=a9 b _ e6 a5;exact ⟨cR,e7⟩
 ·refine ⟨_,a0,G,fun b o z n y=>?_⟩;have hn:b∉j8 (envOfC kg scope s.heap.objs.size f cd::outer):=by
   rcases y with y|y
   ·exact yR b y
   ·exact cj b y n
  have nb:b≠C:=by
   rcases y with y|y
   ·exact fun v=>y (by rw [v];exact b0)
   ·exact b1 b y
  have c0:∃u,I.heap.get? b=some u:=by
   rcases y with y|⟨o',y⟩
   ·cases r:H3 b with
    |none=>exact absurd r y
    |some v=>exact JX.hok.there r
   ·exact ub.there b o' y (by simp)
  obtain ⟨u,hu⟩:=c0;have hB:=g7 b u hu hn nb (by
   rcases y with y|y
   ·exact .inl y
   ·exact .inr (a6 b y))
  have:=G.1 b u hB;have z':h7.get? b=some o:=z;rw [z'] at this;cases this;exact hB
 ·cases r:s.heap.get? a with
  |none=>rfl
  |some v =>
   obtain ⟨u,hu⟩:=a6 a ⟨v,r⟩;rw [cN] at hu;cases hu
end
theorem RA {prog:Program} {w:World} {A:Around} {ah l kt:Expr} {am:List Expr} {scope:Scope} {ko:Pos} {it ap:Value} {D:Env} {R:Result->Shared->Prop} {s:Shared} (I:Nat->Shared->Prop)
  (aU:∀n s,I n s->wpAny (model prog w) A (pyNext it) (fun r J=>match r with
   |none=>R (.ok .next) J
   |some v=>wpAny (model prog w) A (letOwnedTupleGo l it v) (fun _ F=>wpAny (model prog w) A (assign l D v) (fun _ V =>
     wpAny (model prog w) A (forIn am true fun c r=>if r=true then do let ok <- isTrue c D (eval c D);pure (ForInStep.yield ok) else pure (ForInStep.yield r)) (fun ok E =>
      if ok=true then wpAny (model prog w) A (eval ah D) (fun x O =>
       wpAny (model prog w) A (call (.builtin "list.append") [ap,x]) (fun _ Z=>∃m,m<n/\I m Z) (fun _ _=>False) O) (notedBy (model prog w) A D fun e s'=>R (.error e) s') E
      else ∃m,m<n/\I m E) (fun _ _=>False) V) (fun _ _=>False) F) (fun _ _=>False) J) (fun _ _=>False) s)
  (n:Nat) (h:I n s):codeAny (model prog w) A (.compLoop (.ListComp ah [⟨l,kt,am,0⟩] scope ko) 0 it ap D) R s:=by
 refine codeAny_loop rfl I (fun n s hI=>?_) n h;show wpAny _ A ((compTurn (.ListComp ah [⟨l,kt,am,0⟩] scope ko) 0 it ap D).onRaise (fun x=>do noteFrame x D;theTreesLotGoes x)) _ _ s;refine wpAny_noted ?_;rw [compTurn_list];refine ad (gg (ad (bn (aU n s hI) (fun r J S=>?_) fun _ _ G=>G.elim)));cases r with
 |none=>exact aJ S
 |some v =>
  refine ad (bn S (fun _ F an=>?_) fun _ _ G=>G.elim);refine ad (bn an (fun _ V a4=>ad (bn a4 (fun ok E Y=>?_) fun _ _ G=>G.elim)) fun _ _ G=>G.elim);cases ok with
  |false=>exact aJ ⟨rfl,Y⟩
  |true =>
   exact ad (ad (bn Y (fun x O a3=>ad (bn a3 (fun _ Z aD=>aJ (aJ ⟨rfl,aD⟩)) fun _ _ G=>G.elim)) fun _ _ G=>G))
section
variable {X:Cx} {N:List Str} {scope:Scope} {ke:List (Addr×Obj)} {σ:St} {H:Hp} {s:Shared} {fp:List Addr}
theorem uE {tg kt bt:Expr} {be:List Expr} {ko:Pos} {a5:St->St} {g:TG} {tc:TT} {te:TE} {J:It} {it:Addr} {tn:Nat->Heap->Prop} {Q:Addr->Hp->Prop} {RR:Value->Addr->Result->Shared->Prop} {RX:Value->Hp->Prop}
  (aD:X.calm=true) (S:CompScope X scope) (cd:Z2 X N scope a5) (I:Inv X ke σ H s) (T:Turn X.prog X.w X.K tg J fp it tn) (st:tn 0 s.heap) (hf:∀b∈fp,JK X ke H b)
  (hg:∀C,PG (qV X N scope C s H ke fp) tg g) (hc:∀C,dG (qV X N scope C s H ke fp) be tc) (he:∀C,PE ((qV X N scope C s H ke fp).wish (eK X N scope C s H ke fp RX)) bt te)
  (hq:∀D,H D=none->JS D J g tc te (a5 σ) H (Q D))
  (cv:∀D C co O Z,s.heap.objs.size<=C->Inv (qV X N scope C s H ke fp) [] co O Z->Q D O->RR (.ref D) C (.ok .next) Z)
  (cB:∀D C e Z,s.heap.objs.size<=C->eK X N scope C s H ke fp RX e Z->wpAny (model X.prog X.w) X.A (noteFrame e (compEnvC scope (yT X.env.cells scope.names []) C X.env)) (fun _ a9=>RR (.ref D) C (.error e) a9) (fun e' a9=>RR (.ref D) C (.error e') a9) Z) :
  wpAny (model X.prog X.w) X.A (newList []) (fun cn F=>wpAny (model X.prog X.w) X.A (newFunctionEnv scope X.env.globals (yT X.env.cells scope.names []) [] X.env.qual none .none (some X.env)) (fun a8 b3 =>
   codeAny (model X.prog X.w) X.A (.compStart (.ListComp bt [⟨tg,kt,be,0⟩] scope ko) 0 (.ref it) cn {a8 with scope:=relabel scope X.env}) (RR cn a8.locals) b3) X.xe F) X.xe s:=by
 refine gr (wpAny_newFunctionEnv S.nocell (by intro y hy;simp at hy) (fun l E h=>?_) S.kind)
 dsimp only at E h ⊢
 generalize bl:s.heap.push {cls:=.type "list",dict:=none,data:=.seq ([]:List Value).toArray}=V at E h ⊢;have hC:V.objs.size=s.heap.objs.size+1:=by rw [<- bl,du]
 have b1:s.heap.objs.size≠V.objs.size:=by rw [hC];exact aQ (ir _)
 have an:s.heap.objs.size<=V.objs.size:=by rw [hC];exact Nat.le_succ _
 have ap:∀b,b<s.heap.objs.size->b≠V.objs.size:=fun b G=>by rw [hC];exact aQ (Nat.lt_succ_of_lt G)
 have ca:∀b o,s.heap.get? b=some o->l.get? b=some o:=fun b o e=>h.extBut b o (ap b (aq e)) (ai _ (bl▸ai _ e))
 have b8:l.get? s.heap.objs.size=some {cls:=.type "list",data:=.seq ([]:List Value).toArray}:=h.extBut _ _ b1 (ai _ (bl▸aw _ rfl));have a3:=T.obj 0 s.heap st;have I1:∀t',Inv (qV X N scope V.objs.size s H ke fp) [] (a5 σ) (upd H s.heap.objs.size (.lst [])) {s with heap:=l,toks:=t'}:=fun t' =>
  T6 S I cd hf (fun b G=>let ⟨o,e,_⟩:=a3 b G;⟨o,e⟩) (ak _) an b1 ca E b8
 have b9:tn 0 l:=T.keep 0 s.heap l st fun b _ o e=>ca b o e
 have aU:∀{O:Hp},(∀b∈fp,O b=none)->∀b∈fp,JK (qV X N scope V.objs.size s H ke fp) [] O b:=fun hn b G=>by
  obtain ⟨_,h2,h3,h4,h5,h6⟩:=hf b G;obtain ⟨o,ho,_⟩:=a3 b G;refine ⟨hn b G,ap b (aq ho),?_,.inl G,fun x c e=>h5 x c (i6 (fP S I) (fun y d q=>by simp at q) e),fun p hp=>?_⟩
  ·intro z
   rcases aj.mp (I.stkSub b z) with e|e
   ·exact h2 e
   ·exact h3 e
  ·rcases ba.mp hp with z|z
   ·exact h6 p z
   ·cases z
 have cC:∀b∈fp,upd H s.heap.objs.size (.lst []) b=none:=fun b G=>by
  obtain ⟨o,ho,_⟩:=a3 b G;rw [jQ (aQ (aq ho))];exact (hf b G).1
 obtain ⟨W,⟨m0,w0⟩,b7⟩:=hq s.heap.objs.size (I.hok.fresh (ak _));have a7:∀F:Shared,F={s with heap:=l,toks:=s.toks+([]:List (Str×Value)).length}->
   codeAny (model X.prog X.w) X.A (.compLoop (.ListComp bt [⟨tg,kt,be,0⟩] scope ko) 0 (.ref it) (.ref s.heap.objs.size) (compEnvC scope (yT X.env.cells scope.names []) V.objs.size X.env))
    (RR (.ref s.heap.objs.size) V.objs.size) F:=by
  rintro F rfl;refine RA (fun n Z=>∃i Y O,Inv (qV X N scope V.objs.size s H ke fp) [] Y O Z/\tn i Z.heap/\(∀b∈fp,O b=none)/\W i n Y O) ?_ m0 ⟨0,a5 σ,_,I1 _,b9,cC,w0⟩;rintro n s3 ⟨i,a4,H3,I3,b2,cj,w3⟩
  rcases b7 i n a4 H3 w3 with ⟨ce,qn⟩|⟨go,Nn,hN,b4⟩
  ·refine jZ (T.done (qV X N scope V.objs.size s H ke fp) rfl rfl rfl aD i [] s3 a4 H3 (fun _ _=>False) I3 (aU cj) b2 ce) fun r s4 ⟨hr,I4⟩=>?_
   subst hr;exact cv _ _ a4 H3 s4 an I4 qn
  ·refine jZ (T.item (qV X N scope V.objs.size s H ke fp) rfl rfl rfl aD i [] s3 a4 H3 (fun _ _=>False) I3 (aU cj) b2 go) fun r s4 ⟨u,hr,h4⟩=>?_
   subst hr;refine jZ h4 fun _ s5 ⟨x,H5,I5,r5,y5,b0,cN⟩=>?_
   have cz:=I5.pinned (aU cN) (T.obj _ _ b0);have am:∀{ah:St} {H7:Hp} {s7:Shared},Inv (qV X N scope V.objs.size s H ke fp) ([]++gF fp s5.heap) ah H7 s7->Nn ah H7->
     ∃m,m<n/\∃i Y O,Inv (qV X N scope V.objs.size s H ke fp) [] Y O s7/\tn i s7.heap/\(∀b∈fp,O b=none)/\W i m Y O:=fun {ah H7 s7} I7 n7=>by
    obtain ⟨m',hm,w7⟩:=hN ah H7 n7;refine ⟨m',hm,i+1,ah,H7,I7.unpinned,T.keep _ _ _ b0 fun b G o e=>(I7.pin (b,o) (bb _ (bb _ (lC G e)))).1,fun b G=>?_,w7⟩;obtain ⟨o,e,d⟩:=T.obj _ _ b0 b G;exact (I7.pin (b,o) (bb _ (bb _ (lC G e)))).2.1
   refine jZ (hg _ _ s5 a4 H5 x u _ cz r5 (b4 x H5 y5)) fun _ s6 ⟨a6,H6,I6,q6⟩=>?_
   refine jZ (hc _ _ s6 a6 H6 _ I6 q6) fun ok s7 ⟨H7,I7,q7⟩=>?_
   cases ok with
   |false=>exact am I7 q7
   |true =>
    refine bn (he _ _ s7 a6 H7 _ (I7.wish _) q7) (fun v s8 ⟨y,H8,I8,r8,xs,cO,cP,n8⟩=>?_) fun e se hx=>cB _ _ e se an hx
    have I8:=I8.unwish;refine jZ (zP _ s8 a6 H8 (.ref s.heap.objs.size) [y] (.ref s.heap.objs.size) [v] (fun _ H9=>Nn a6 H9) I8 rfl (.cons r8 .nil) ⟨_,_,_,rfl,rfl,cO,cP,n8⟩) fun _ s9 ⟨_,H9,I9,_,n9⟩=>?_
    exact am I9 n9
 exact codeAny_compStart_list (a7 _ rfl) (bn (T.self X.A 0 _ (fun v Z=>v=.ref it/\Z=_) (fun _ _=>False) b9 ⟨rfl,rfl⟩) (fun v Z ⟨e1,e2⟩=>by subst e1;subst e2;exact a7 _ rfl) fun _ _ z=>z.elim)
end
section
variable {P:Program} {w:World} {K:PySem.W.Frag} {mg:Str->Option Value} {base:Heap} {Nf:List Str} {kg:Str} {scf:Scope} {f:Addr} {cd:Value} {A:Around} {outer:List Env} {s₀:Shared} {H₀:Hp} {E:XK}
theorem S4 {tg kt G:Expr} {Y:List Expr} {scope:Scope} {ko:Pos} {wi:TI} {g:TG} {tc:TT} {te:TE} (N:List Str) (F:St->St) (S:CompScope (qF (kJ P w) P w K mg base Nf kg scf f cd A outer s₀ H₀ E) scope) (O:Z2 (qF (kJ P w) P w K mg base Nf kg scf f cd A outer s₀ H₀ E) N scope F) (hi:PI (qF (kJ P w) P w K mg base Nf kg scf f cd A outer s₀ H₀ E) tg kt wi)
  (hg:∀C s H l fp,PG (qV (qF (kJ P w) P w K mg base Nf kg scf f cd A outer s₀ H₀ E) N scope C s H l fp) tg g) (hc:∀C s H l fp,dG (qV (qF (kJ P w) P w K mg base Nf kg scf f cd A outer s₀ H₀ E) N scope C s H l fp) Y tc)
  (he:∀C s H l fp,PE ((qV (qF (kJ P w) P w K mg base Nf kg scf f cd A outer s₀ H₀ E) N scope C s H l fp).wish (eK (qF (kJ P w) P w K mg base Nf kg scf f cd A outer s₀ H₀ E) N scope C s H l fp fun c V=>E c none V)) G te)
  (hs:∀x,foldedSetIterable kt (qF (kJ P w) P w K mg base Nf kg scf f cd A outer s₀ H₀ E).env x=pure x:=by intro _;rfl):PE (qF (kJ P w) P w K mg base Nf kg scf f cd A outer s₀ H₀ E) (.ListComp G [⟨tg,kt,Y,0⟩] scope ko) (mS wi F g tc te):=by
 intro l s σ H Q I h;rw [eval_ListComp];refine hZ (use:=none) rfl hs (tG (fP S I)) S.kind S.names (jZ (hi l s σ H _ I h) fun v s1 h1=>jZ h1 fun aD s2 h2=>?_);obtain ⟨it,fp,tn,J,H2,e,Z,T,am,f2,q2⟩:=h2;subst e;refine uE (RR:=fun an C=>compPost (model P w) (A.deeper (envOfC kg scf s₀.heap.objs.size f cd)) (qF (kJ P w) P w K mg base Nf kg scf f cd A outer s₀ H₀ E).xe none (EP (qF (kJ P w) P w K mg base Nf kg scf f cd A outer s₀ H₀ E) l σ Q) an C) (Q:=fun D V=>Q (.ref D) V) rfl S O Z T am f2 (fun C=>hg C _ _ _ _) (fun C=>hc C _ _ _ _) (fun C=>he C _ _ _ _) q2 ?_ ?_
 ·intro D C ap V s' hC Jc q;obtain ⟨m,hn,_⟩:=Jc.loc;refine ⟨m,hn,fun h' ah=>?_⟩;exact ⟨.ref D,V,uT Z hC (lK (σ':=σ) Z f2 Jc) Jc.free ah,rfl,q⟩
 ·intro D C e s' hC hx;exact T7 Z f2 hC hx _
end
section
variable {X:Cx}
def JI (z:Str) (k:Nat):Str:=⟨(List.replicate k z.cps).foldl (·++·) #[]⟩
theorem DU (a:Array Nat):∀(k:Nat) (h:Array Nat),((List.replicate k a).foldl (·++·) h).toList=h.toList++(List.replicate k a.toList).flatten
 |0,h=>by simp
 |k+1,h=>by rw [bu,List.foldl_cons,DU a k,bu,fk,Array.toList_append,gm]
theorem DM (z:Str) (k:Nat):(JI z k).cps.toList=(List.replicate k z.cps.toList).flatten:=by
 unfold JI;rw [DU];rfl
theorem DL (z:Str) (k:Nat):(JI z k).length=k*z.length:=by
 show (JI z k).cps.size=k*z.cps.size;rw [<- gz,DM,EN,gz]
def W2:R2:=fun x y H Q=>∃(z:Str) (k:Int),x=.str z/\y=.int k/\0<=k/\k<=100/\z.length<=100/\Q (.str (JI z k.toNat)) H
theorem U0:qN X (binaryOp .Mult) W2:=by
 intro Z s V H x y v u Q I J G h;obtain ⟨z,k,rfl,rfl,Y,h1,O,q⟩:=h;obtain ⟨t,rfl⟩:=J;obtain ⟨S,rfl⟩:=G;have E:z.length*k.toNat<=10000:=aI (Nat.mul_le_mul O (show k.toNat<=100 by lia)) (ak _);refine P.mul_str ?_ (fun l _=>?_) (fun _ _=>?_) ?_
 ·rw [aN (by lia),aN (by lia)];rfl
 ·have:(100:Int)<=(2 ^ 63 - 1) / k:=by
   rw [Int.le_ediv_iff_mul_le (by lia)]
   lia
  lia
 ·exact aN (Nat.not_lt.mpr (aI E (by decide)))
 ·by_cases l:k<1
  ·rw [if_pos l];have e:k.toNat=0:=by lia
   rw [e] at q;exact ⟨by decide,.str (JI z 0),H,I.tok _,⟨_,rfl⟩,q⟩
  ·rw [if_neg l]
   by_cases D:(k == 1||z.length == 0)=true
   ·rw [if_pos D];have e:JI z k.toNat=z:=by
     have:(JI z k.toNat).cps.toList=z.cps.toList:=by
      rw [DM]
      rcases Bool.or_eq_true_iff.mp D with h|h
      ·rw [show k.toNat=1 by have:=eq_of_beq h;lia];simp
      ·have h:z.cps.size=0:=eq_of_beq h;rw [Array.eq_empty_of_size_eq_zero h];simp
     cases F:JI z k.toNat with
     |mk a=>rw [F] at this;obtain ⟨b⟩:=z;exact cf Str.mk (Array.toList_inj.mp this)
    rw [e] at q;exact ⟨.str z,H,I,⟨_,rfl⟩,q⟩
   ·rw [if_neg D];exact ⟨by show (JI z k.toNat).length<=sizeLine;rw [DL,Nat.mul_comm];exact aI E (by decide),.str (JI z k.toNat),H,I.tok _,⟨_,rfl⟩,q⟩
theorem BL {X:Cx} (K:PySem.W.Frag) (h:X.K=K:=by rfl):qN X (compareOp .In) (nR K false):=by subst h;exact RY
theorem N2 {X:Cx} (K:PySem.W.Frag) (h:X.K=K:=by rfl):qN X (compareOp .NotIn) (nR K true):=by subst h;exact OA
end
section
variable {P:Program} {w:World} {K:PySem.W.Frag} {mg:Str->Option Value} {base:Heap}
theorem Fun.ok2 {x D:Str} {st:Stmt} {f:Addr} {G:FuncData} {N ps:List Str} {k:Nat} {sp:Sp} (F:Fun K x D st f G) (S:FnScope N ps (kF st))
  (h:∀vs H Q E,sp vs H Q E->vs.length=ps.length/\∀l A outer s,Room k (A.deeper (envOfC D (kF st) s.heap.objs.size f l))->∃t,PSs (qF jT P w K mg base N D (kF st) f l A outer s H E).nox (qZ st) t/\t {nx:=fun _ I=>Q .non I,rt:=Q} (start N vs) H):FnOk P w K mg base jT (k+1) f G ps sp :=
 F.ok S (fun vs H Q E z=>(h vs H Q E z).1) fun l A outer s H vs Q E r z=>(h vs H Q E z).2 l A outer s r
theorem Fun.okX2 {x D:Str} {st:Stmt} {f:Addr} {G:FuncData} {N ps:List Str} {k:Nat} {sp:Sp} (F:Fun K x D st f G) (S:FnScope N ps (kF st))
  (h:∀vs H Q E,sp vs H Q E->vs.length=ps.length/\∀l A outer s,Room k (A.deeper (envOfC D (kF st) s.heap.objs.size f l))->∃t,PSs (qF (kJ P w) P w K mg base N D (kF st) f l A outer s H E) (qZ st) t/\t {nx:=fun _ I=>Q .non I,rt:=Q} (start N vs) H):FnOk P w K mg base (kJ P w) (k+1) f G ps sp :=
 F.okX S (fun vs H Q E z=>(h vs H Q E z).1) fun l A outer s H vs Q E r z=>(h vs H Q E z).2 l A outer s r
theorem FunD.ok2 {x D:Str} {st:Stmt} {f:Addr} {G:FuncData} {ds:List Value} {N ps:List Str} {k:Nat} {sp:Sp} (F:FunD K x D st f G ds) (S:FnScope N ps (kF st))
  (h:∀vs H Q E,sp vs H Q E->vs.length=ps.length/\∀l A outer s,Room k (A.deeper (envOfC D (kF st) s.heap.objs.size f l))->∃t,PSs (qF jT P w K mg base N D (kF st) f l A outer s H E).nox (qZ st) t/\t {nx:=fun _ I=>Q .non I,rt:=Q} (start N vs) H):FnOk P w K mg base jT (k+1) f G ps sp :=
 F.ok S (fun vs H Q E z=>(h vs H Q E z).1) fun l A outer s H vs Q E r z=>(h vs H Q E z).2 l A outer s r
theorem mV {x:Str} {f:Addr} {h:FuncData} {ps:List Str} {k:Nat} {sp:Sp} (G:FnOk P w K mg base jT k f h ps sp) (m:mg x=some (.ref f)) (l:PySem.W.keepIn K (.ref f)=true) (b:Binds K h ps []):Def P w K mg base k x ps [] sp:=⟨_,_,[],G,m,l,.nil,b⟩
theorem mL {x:Str} {f:Addr} {h:FuncData} {ps:List Str} {k:Nat} {sp:Sp} (G:FnOk P w K mg base (kJ P w) k f h ps sp) (m:mg x=some (.ref f)) (l:PySem.W.keepIn K (.ref f)=true) (b:Binds K h ps []):DefX P w K mg base k x ps [] sp:=⟨_,_,[],G,m,l,.nil,b⟩
end
section
variable {X:Cx} {a b:Expr} {ta tb:TE} {r:R2} {ko:Pos}
theorem jJ (h:IxR X r) (E:PE X a ta) (l:PE X b tb) (D:E4 b:=by exact fun _ _=>rfl):PE X (.Subscript a b ko) (dF r ta tb):=HF h E l D
theorem JB {h:CmpOp} (D:qN X (compareOp h) r) (F:PE X a ta) (E:PE X b tb) (l:behindInMarks h b=false:=by first|exact AB _|with_unfolding_all rfl):PE X (.Compare a [h] [b] ko) (dF r ta tb):=UX D F E l
theorem j6 {h:CmpOp} (D:qN X (compareOp h) r) (F:PE X a ta) (E:PE X b tb) (l:behindInMarks h b=false:=by first|exact AB _|with_unfolding_all rfl):PT X (.Compare a [h] [b] ko) (FV (dF r ta tb)):=HE D F E l
end
theorem so {K:PySem.W.Frag} {H:Hp} {a:Addr} {xs:List V} (h:H a=some (.lst xs)):SqL K H a xs:=SqL.of h
section
variable {X:Cx} {N:List Str} {scope:Scope} {ke:List (Addr×Obj)} {σ:St} {H:Hp} {s:Shared} {fp:List Addr}
theorem noX {C:Addr} {e:Value} {l:Shared} {p:Prop} (h:eK X N scope C s H ke fp (fun _ _=>False) e l):p:=by
 obtain ⟨_,_,_,_,_,h⟩:=h;obtain ⟨_,_,_,_,_,_,_,_,_,_,_,_,z⟩:=h;exact z.elim
theorem QC {tg kt F:Expr} {O:List Expr} {ko:Pos} {wi:TI} {g:TG} {tc:TT} {te:TE} (N:List Str) (E:St->St) (l:X.calm=true) (S:CompScope X scope) (G:Z2 X N scope E) (hi:PI X tg kt wi)
  (hg:∀C s H ke fp,PG (qV X N scope C s H ke fp) tg g) (hc:∀C s H ke fp,dG (qV X N scope C s H ke fp) O tc) (he:∀C s H ke fp,PE (qV X N scope C s H ke fp) F te)
  (hs:∀x,foldedSetIterable kt X.env x=pure x:=by intro _;rfl):PE X (.ListComp F [⟨tg,kt,O,0⟩] scope ko) (mS wi E g tc te):=by
 intro ke s σ H Q I h;rw [eval_ListComp];refine hZ (use:=none) rfl hs (tG (fP S I)) S.kind S.names (jZ (hi ke s σ H _ I h) fun v s1 h1=>jZ h1 fun ap s2 h2=>?_);obtain ⟨it,fp,tn,J,H2,e,Z,T,ah,f2,q2⟩:=h2;subst e;refine uE (RX:=fun _ _=>False) (RR:=fun am C=>compPost (model X.prog X.w) X.A X.xe none (EP X ke σ Q) am C) (Q:=fun D V=>Q (.ref D) V) l S G Z T ah f2 (fun C=>hg C _ _ _ _) (fun C=>hc C _ _ _ _) (fun C=>PE.nox (he C _ _ _ _)) q2 ?_ (fun _ _ _ _ _ hx=>noX hx);intro D C an V s' hC Jc q;obtain ⟨m,hn,_⟩:=Jc.loc;refine ⟨m,hn,fun h' Y=>?_⟩;exact ⟨.ref D,V,uT Z hC (lK (σ':=σ) Z f2 Jc) Jc.free Y,rfl,q⟩
theorem fM {tg Y l:Expr} {E:List Expr} {ko F V:Pos} {i:Nat} {y:Str} {wi:TI} {g:TG} {tc:TT} {te:TE} (N:List Str) (Z:St->St) (hN:X.N.Nodup) (hy:X.N[i]?=some y) (am:fC X.env.scope y) (G:X.calm=true) (S:CompScope X scope) (ah:Z2 X N scope Z) (hi:PI X tg Y wi)
  (hg:∀C s H ke fp,PG (qV X N scope C s H ke fp) tg g) (hc:∀C s H ke fp,dG (qV X N scope C s H ke fp) E tc) (he:∀C s H ke fp,PE (qV X N scope C s H ke fp) l te)
  (a4:swapsWith (.ListComp l [⟨tg,Y,E,0⟩] scope ko) (some (.Name y V)) F.line X.env=pure true:=by rfl)
  (hs:∀x,foldedSetIterable Y X.env x=pure x:=by intro _;rfl) (an:X.fn y=true\/X.env.scope.names.lookup y=some .local:=by first|exact .inl rfl|exact .inr rfl|assumption) :
  PS X (.Assign [.Name y V] (.ListComp l [⟨tg,Y,E,0⟩] scope ko) F) (SU i wi Z g tc te):=by
 intro ke s σ H D I h;rw [exec_Assign_Name_used _ _ _ _ a4];refine ad (gg (ad ?_));show wpAny _ X.A (do let _ <- comprehension (.ListComp l [⟨tg,Y,E,0⟩] scope ko) scope X.env _ (newList []) false (eval Y X.env) (some (assign (.Name y V) X.env))) _ _ s;refine ad (bn (hZ (use:=some (assign (.Name y V) X.env)) (Q:=fun _ O=>SP X ke D .next O) rfl hs (tG (fP S I)) S.kind S.names
  (jZ (hi ke s σ H _ I h) fun v s1 h1=>jZ h1 fun a7 s2 h2=>?_)) (fun _ O hq=>aJ (aJ hq)) fun _ _ e=>e)
 obtain ⟨it,fp,tn,J,H2,e,I2,T,aU,f2,q2⟩:=h2;subst e;refine uE (RX:=fun _ _=>False) (RR:=fun a5 C=>compPost (model X.prog X.w) X.A X.xe (some (assign (.Name y V) X.env)) (fun _ O=>SP X ke D .next O) a5 C) (Q:=fun d H'=>D.nx (σ.set i (some (.ref d))) H') G S ah I2 T aU f2 (fun C=>hg C _ _ _ _) (fun C=>hc C _ _ _ _) (fun C=>PE.nox (he C _ _ _ _)) q2 ?_ (fun _ _ _ _ _ hx=>noX hx);intro d C a6 H' O hC Jc q;obtain ⟨m,hn,_⟩:=Jc.loc;have J1:Inv X ke σ H' O:=lK (σ':=σ) I2 f2 Jc;show wpAny _ X.A (assign (.Name y V) X.env (.ref d)) _ _ _;refine wpAny_assign_Name (B4 (v:=.ref d) J1 hN hy am rfl (fun a8 J2 a3=>?_) an);obtain ⟨a,sb,ha⟩:=a3;have ap:C≠a:=by
  rcases ha with e|e
  ·rw [e];exact ek (av I2.lt hC)
  ·obtain ⟨v,q'⟩:=I2.cell y a e;exact ek (av q'.lt hC)
 refine ⟨m,hn.sameBut sb ap,fun h' aD=>?_⟩;exact ⟨_,H',uT I2 hC J2 Jc.free aD,q⟩
end
theorem jU {N P:List Str} {h:Scope} (a:h.kind=.function:=by rfl) (b:h.isCoroutine=false:=by rfl) (c:h.isGenerator=false:=by rfl) (d:N.Nodup:=by trivial) (e:N.take P.length=P:=by rfl)
  (f:∀x∈P,h.names.lookup x=some .local\/h.names.lookup x=some .cell:=by trivial) (g:∀y∈h.names,y.2≠.free:=by trivial):FnScope N P h:=⟨a,b,c,d,e,f,g⟩
theorem yF {X:Cx} {scope:Scope} (h:Scope) (a:X.env.scope=h:=by rfl) (b:scope.kind=.function:=by rfl) (c:∀y∈scope.names,y.2≠.cell:=by trivial) (d:∀y∈scope.names,y.2=.local->scope.names.lookup y.1=some .local:=by trivial)
  (e:∀y∈scope.names,y.2=.free->h.names.lookup y.1=some .cell\/h.names.lookup y.1=some .free:=by trivial):CompScope X scope:=HI h a b c d e
theorem cps {X:Cx} {N:List Str} {scope:Scope} (n:Nat) (h:List Nat) (a:N.length=n+h.length:=by rfl) (b:h.map (fun j=>X.N[j]?)=(N.drop n).map some:=by rfl) (c:∀x∈N.drop n,scope.names.lookup x=some .free:=by trivial):Z2 X N scope (vM n h):=HJ n h a b c
inductive GK where
 |i (n:Int)
 |s (t:Str)
 |nil
 |cons (a b:GK)
 deriving DecidableEq
section
variable {prog:Program} {w:World} {E:Value->Shared->Prop}
end
section
variable {s:Shared}
end
section
variable {prog:Program} {w:World} {E:Value->Shared->Prop} {s:Shared}
abbrev x6:=GK×Value×Value
end
section
variable {prog:Program} {w:World} {A:Around} {E:Value->Shared->Prop} {s:Shared}
end
section
variable {prog:Program} {w:World} {A:Around} {E:Value->Shared->Prop} {s:Shared} {d:Addr} {xs:List x6} {k:GK} {key v:Value}
end
section
variable {P:Program} {w:World} {H:Hp} {h:Heap}
end
abbrev HD:=GK×V×V
section
variable {X:Cx} {ke:List (Addr×Obj)} {σ:St} {H:Hp} {s:Shared} {d:Addr} {k:GK} {y v:V} {u r:Value} {A:Around} {E:Value->Shared->Prop} {km:List HD}
end
section
variable {X:Cx} {o i e kx:Expr} {ko pos':Pos} {td ty tv:TE}
end
section
variable {X:Cx} {ke:List (Addr×Obj)} {σ:List (Option V)} {H:Hp} {s:Shared}
end
def kB (H:Hp) (cs:List Addr):Hp:=fun b=>if b∈cs then none else H b
theorem zJ {H:Hp} {cs:List Addr} {b:Addr} (h:b∈cs):kB H cs b=none:=if_pos h
theorem vB {H:Hp} {cs:List Addr} {b:Addr} (h:b∉cs):kB H cs b=H b:=if_neg h
section
variable {P:Program} {w:World} {H H' HC:Hp} {h h':Heap} {cs fs:List Addr}
end
section
variable {CX:yI} {P:Program} {w:World} {K:PySem.W.Frag} {mg:Str->Option Value} {base:Heap} {N ps fr:List Str} {kg:Str} {params:Arguments} {ku:List Stmt} {scope:Scope} {f:Addr} {kn:Value} {fd:FuncData} {cl:List (Str×Addr)} {A:Around} {outer:List Env} {s:Shared} {H:Hp} {E:XK} {Q:VK} {us:List Value} {vs fvs:List V} {k:Nat} {args:Args}
end
section
variable {X:Cx} {CX:yI} {k:Nat} {sp:Addr->Sp} {E:XK} {x:Str} {p ko:Pos} {e:Expr} {es:List Expr} {t:TA} {i:Nat}
end
section
variable {X:Cx} {k k':Nat} {f:Addr} {fd:FuncData} {ps:List Str} {sp:Sp} {dvs:List V} {ds:List Value} {x:Str} {p ko:Pos} {e:Expr} {es:List Expr} {t:TA} {cs:List (Nat×Addr)}
end
section
variable {X:Cx} {ke:List (Addr×Obj)} {σ:List (Option V)} {H:Hp} {s:Shared}
end
section
variable {P:Program} {w:World} {K:PySem.W.Frag} {mg:Str->Option Value} {base:Heap}
end
section
variable {prog:Program} {w:World} {A:Around} {E:Value->Shared->Prop} {s:Shared} {d:Addr} {xs:List x6} {k:GK} {key v:Value}
end
section
variable {X:Cx} {ke:List (Addr×Obj)} {σ:St} {H:Hp} {s:Shared} {d:Addr} {k:GK} {y v:V} {u r:Value} {A:Around} {E:Value->Shared->Prop} {km:List HD}
end
section
variable {X:Cx} {o i e kx:Expr} {ko pos':Pos} {td ty tv:TE}
end
section
variable {X:Cx} {o i:Expr} {ko:Pos} {td ty:TE}
end
section
variable {X:Cx} {ke:List (Addr×Obj)} {σ:St} {H:Hp} {s:Shared}
end
section
variable {prog:Program} {w:World} {A:Around} {s:Shared} {E:Value->Shared->Prop}
end
section
variable {X:Cx}
end
section
variable {prog:Program} {w:World} {A:Around} {E:Value->Shared->Prop} {s:Shared} {d it:Addr} {xs:List x6} {o:Obj} {es:Array DictEntry} {i ep:Nat}
end
section
variable {X:Cx} {tg:Expr}
end
section
variable {X:Cx} {ke:List (Addr×Obj)} {σ:St} {H:Hp} {s:Shared}
theorem UA (n:Nat):(List.range n).all (fun _=>true)=true:=by simp
end
section
variable {M:Model} {A:Around} {E:Value->Shared->Prop} {s:Shared}
end
section
variable {P:Program} {w:World} {H H':Hp} {h:Heap} {cs:List Addr}
end
section
variable {CX:yI} {P:Program} {w:World} {K:PySem.W.Frag} {mg:Str->Option Value} {base:Heap} {N fr:List Str} {x:Str} {b:Bool} {kg:Str} {params:Arguments} {ku:Expr} {scope:Scope} {f:Addr} {kn:Value} {cl:List (Str×Addr)} {A:Around} {outer:List Env} {s:Shared} {H:Hp} {E:XK} {Q:VK} {u:Value} {v:V} {fvs:List V} {k:Nat} {args:Args}
end
section
variable {X:Cx} {ke:List (Addr×Obj)} {σ:List (Option V)} {H:Hp} {s:Shared}
end
variable {P:List Value->Prop}
theorem eZ (h:P []):∀us:List Value,us.length=0->P us
 |[],_=>h
theorem nP (h:∀a0,P [a0]) (us:List Value) (D:us.length=1):P us:=by
 cases us with
 |nil=>cases D
 |cons a us=>exact eZ (P:=fun l=>P (a::l)) (h a) us (ia D)
theorem JL (h:∀a0 a1,P [a0,a1]) (us:List Value) (D:us.length=2):P us:=by
 cases us with
 |nil=>cases D
 |cons a us=>exact nP (P:=fun l=>P (a::l)) (fun a1=>h a a1) us (ia D)
theorem gS (h:∀a0 a1 a2,P [a0,a1,a2]) (us:List Value) (D:us.length=3):P us:=by
 cases us with
 |nil=>cases D
 |cons a us=>exact JL (P:=fun l=>P (a::l)) (fun a1 a2=>h a a1 a2) us (ia D)
theorem nO (h:∀a0 a1 a2 D,P [a0,a1,a2,D]) (us:List Value) (E:us.length=4):P us:=by
 cases us with
 |nil=>cases E
 |cons a us=>exact gS (P:=fun l=>P (a::l)) (fun a1 a2 D=>h a a1 a2 D) us (ia E)
theorem GX (h:∀a0 a1 a2 E D,P [a0,a1,a2,E,D]) (us:List Value) (F:us.length=5):P us:=by
 cases us with
 |nil=>cases F
 |cons a us=>exact nO (P:=fun l=>P (a::l)) (fun a1 a2 E D=>h a a1 a2 E D) us (ia F)
theorem xS (h:∀a0 a1 a2 F E D,P [a0,a1,a2,F,E,D]) (us:List Value) (G:us.length=6):P us:=by
 cases us with
 |nil=>cases G
 |cons a us=>exact GX (P:=fun l=>P (a::l)) (fun a1 a2 F E D=>h a a1 a2 F E D) us (ia G)
theorem YG (h:∀a0 a1 a2 G F E D,P [a0,a1,a2,G,F,E,D]) (us:List Value) (I:us.length=7):P us:=by
 cases us with
 |nil=>cases I
 |cons a us=>exact xS (P:=fun l=>P (a::l)) (fun a1 a2 G F E D=>h a a1 a2 G F E D) us (ia I)
end L2
namespace L2
open PySem PySem.Spec PyProof.Rows
section
variable {CX:yI} {P:Program} {w:World} {K:PySem.W.Frag} {mg:Str->Option Value} {base:Heap} {N fr:List Str} {x:Str} {b:Bool} {kg:Str} {params:Arguments} {ku:List Stmt} {scope:Scope} {f:Addr} {kn:Value} {cl:List (Str×Addr)} {A:Around} {outer:List Env} {s:Shared} {H:Hp} {E:XK} {Q:VK} {u:Value} {v:V} {fvs:List V} {k:Nat} {args:Args} {fd:FuncData}
end
section
variable {X:Cx}
end
section
variable {X:Cx} {a b c d e f g h:Expr} {ta tb tc td te tf tg th:TE}
theorem qQ (F:PE X a ta) (E:PE X b tb) (I:PE X c tc) (l:starEach [a,b,c] X.env=(false,eval a X.env)::starEach [b,c] X.env:=by rfl) (D:starEach [b,c] X.env=(false,eval b X.env)::starEach [c] X.env:=by rfl) (G:starEach [c] X.env=(false,eval c X.env)::starEach [] X.env:=by rfl):PA X [a,b,c] (yH ta (yH tb (yH tc bN))):=jC F (jC E (jC I jE G) D) l
theorem yS (G:PE X a ta) (E:PE X b tb) (O:PE X c tc) (I:PE X d td) (F:starEach [a,b,c,d] X.env=(false,eval a X.env)::starEach [b,c,d] X.env:=by rfl) (D:starEach [b,c,d] X.env=(false,eval b X.env)::starEach [c,d] X.env:=by rfl) (J:starEach [c,d] X.env=(false,eval c X.env)::starEach [d] X.env:=by rfl) (l:starEach [d] X.env=(false,eval d X.env)::starEach [] X.env:=by rfl):PA X [a,b,c,d] (yH ta (yH tb (yH tc (yH td bN)))):=jC G (jC E (jC O (jC I jE l) J) D) F
theorem nS (I:PE X a ta) (F:PE X b tb) (V:PE X c tc) (J:PE X d td) (S:PE X e te) (l:starEach [a,b,c,d,e] X.env=(false,eval a X.env)::starEach [b,c,d,e] X.env:=by rfl) (G:starEach [b,c,d,e] X.env=(false,eval b X.env)::starEach [c,d,e] X.env:=by rfl) (O:starEach [c,d,e] X.env=(false,eval c X.env)::starEach [d,e] X.env:=by rfl) (D:starEach [d,e] X.env=(false,eval d X.env)::starEach [e] X.env:=by rfl) (E:starEach [e] X.env=(false,eval e X.env)::starEach [] X.env:=by rfl):PA X [a,b,c,d,e] (yH ta (yH tb (yH tc (yH td (yH te bN))))):=jC I (jC F (jC V (jC J (jC S jE E) D) O) G) l
theorem YR (J:PE X a ta) (E:PE X b tb) (Z:PE X c tc) (O:PE X d td) (Y:PE X e te) (V:PE X f tf) (F:starEach [a,b,c,d,e,f] X.env=(false,eval a X.env)::starEach [b,c,d,e,f] X.env:=by rfl) (G:starEach [b,c,d,e,f] X.env=(false,eval b X.env)::starEach [c,d,e,f] X.env:=by rfl) (S:starEach [c,d,e,f] X.env=(false,eval c X.env)::starEach [d,e,f] X.env:=by rfl) (l:starEach [d,e,f] X.env=(false,eval d X.env)::starEach [e,f] X.env:=by rfl) (D:starEach [e,f] X.env=(false,eval e X.env)::starEach [f] X.env:=by rfl) (I:starEach [f] X.env=(false,eval f X.env)::starEach [] X.env:=by rfl):PA X [a,b,c,d,e,f] (yH ta (yH tb (yH tc (yH td (yH te (yH tf bN)))))):=jC J (jC E (jC Z (jC O (jC Y (jC V jE I) D) l) S) G) F
theorem jY (i:Nat) {x:Str} {D l:Pos} (J:X.N.Nodup) (he:PE X a ta) (F:X.N[i]?=some x:=by rfl) (E:fC X.env.scope x:=by first|exact .inl rfl|exact .inr rfl) (I:swapsWith a (some (.Name x l)) D.line X.env=pure false:=by rfl) (G:X.fn x=true\/X.env.scope.names.lookup x=some .local:=by first|exact .inl rfl|exact .inr rfl|assumption):PS X (.Assign [.Name x l] a D) (xH ta (bJ i)):=HG J F E he I G
theorem vF (K:PySem.W.Frag) {p l:Pos} (D:X.mg "len"=none) (F:PE X a ta) (E:X.K=K:=by rfl) (G:Gl X "len":=by rfl) (he:starEach [a] X.env=(false,eval a X.env)::starEach [] X.env:=by rfl) (hpl:(backTo l (starEach [] X.env)).any (·.1)=false:=by rfl):PE X (.Call (.Name "len" p) [a] [] l) (xT (fun xs H Q=>∃p ys,xs=[.ref p]/\(SqL K H p ys\/SqT K H p ys)/\Q (.int ys.length) H) (yH ta bN)):=vK (N6 K E) G D PySem.boot_len (jC F jE he) (he:=he) (hpl:=hpl)
theorem jN {l:Pos} (h:PE X a ta):PSs X [.Return (some a) l] (GG ta):=kM (AA h)
end
abbrev jV (n:Nat) (N:List Str) (st:Stmt):Prop:=FnScope N (N.take n) (kF st)
abbrev kC (K:PySem.W.Frag) (x:Str) (st:Stmt) (f:Addr) (h:FuncData):Prop:=Fun K x x st f h
abbrev kD (K:PySem.W.Frag) (x:Str) (st:Stmt):Prop:=∃f h,PySem.W.nsIn K mainGlobals x=some (some (.ref f))/\Fun K x x st f h
section
variable {P:Program} {w:World} {K:PySem.W.Frag} {mg:Str->Option Value} {base h:Heap} {x q:Str} {st:Stmt} {f:Addr} {fd:FuncData} {k:Nat} {sp:Sp} {p0 p1 p2 p3 p4 p5 p6:Str}
theorem fnT_mk {O:Value} {I J:Option Addr} {E:Array (Option Value)} {G D S F ct:Value} (a:PySem.W.nsIn K mainGlobals x=some (some (.ref f))) (l:K.lookup f=some ⟨O,I,.func (PySem.W.fnOf x x (vQ st) (qZ st) (kF st) .none G D S J F ct),E⟩) (c:PySem.W.codeIn K F x=true) (k:PySem.W.keepIn K (.ref f)=true):kD K x st:=⟨_,_,a,iC l c k⟩
theorem gW (X:K.In h) (G:h.Ns mainGlobals mg) (a:PySem.W.nsIn K mainGlobals x=some (some (.ref f))) (F:Fun K x q st f fd) (S:FnOk P w K mg base jT k f fd [p0] sp) (O:∀(D l I:Value) (J:Option Addr) (E ct a0:Value),bindArgs (PySem.W.fnOf x q (vQ st) (qZ st) (kF st) .none D l I J E ct) ⟨[a0],[]⟩=pure ([p0].zip [a0]):=by intros;rfl):Def P w K mg base k x [p0] [] sp:=mV S (aC X G a) F.kp (F.binds fun D l I J E ct=>nP (O D l I J E ct))
theorem vN (X:K.In h) (G:h.Ns mainGlobals mg) (a:PySem.W.nsIn K mainGlobals x=some (some (.ref f))) (F:Fun K x q st f fd) (S:FnOk P w K mg base jT k f fd [p0,p1] sp) (O:∀(D l I:Value) (J:Option Addr) (E ct a0 a1:Value),bindArgs (PySem.W.fnOf x q (vQ st) (qZ st) (kF st) .none D l I J E ct) ⟨[a0,a1],[]⟩=pure ([p0,p1].zip [a0,a1]):=by intros;rfl):Def P w K mg base k x [p0,p1] [] sp:=mV S (aC X G a) F.kp (F.binds fun D l I J E ct=>JL (O D l I J E ct))
theorem JC (X:K.In h) (G:h.Ns mainGlobals mg) (a:PySem.W.nsIn K mainGlobals x=some (some (.ref f))) (F:Fun K x q st f fd) (S:FnOk P w K mg base (kJ P w) k f fd [p0,p1] sp) (O:∀(D l I:Value) (J:Option Addr) (E ct a0 a1:Value),bindArgs (PySem.W.fnOf x q (vQ st) (qZ st) (kF st) .none D l I J E ct) ⟨[a0,a1],[]⟩=pure ([p0,p1].zip [a0,a1]):=by intros;rfl):DefX P w K mg base k x [p0,p1] [] sp:=mL S (aC X G a) F.kp (F.binds fun D l I J E ct=>JL (O D l I J E ct))
theorem QM (X:K.In h) (G:h.Ns mainGlobals mg) (a:PySem.W.nsIn K mainGlobals x=some (some (.ref f))) (F:Fun K x q st f fd) (S:FnOk P w K mg base jT k f fd [p0,p1,p2] sp) (O:∀(D l I:Value) (J:Option Addr) (E ct a0 a1 a2:Value),bindArgs (PySem.W.fnOf x q (vQ st) (qZ st) (kF st) .none D l I J E ct) ⟨[a0,a1,a2],[]⟩=pure ([p0,p1,p2].zip [a0,a1,a2]):=by intros;rfl):Def P w K mg base k x [p0,p1,p2] [] sp:=mV S (aC X G a) F.kp (F.binds fun D l I J E ct=>gS (O D l I J E ct))
theorem YU (X:K.In h) (G:h.Ns mainGlobals mg) (a:PySem.W.nsIn K mainGlobals x=some (some (.ref f))) (F:Fun K x q st f fd) (S:FnOk P w K mg base (kJ P w) k f fd [p0,p1,p2] sp) (O:∀(D l I:Value) (J:Option Addr) (E ct a0 a1 a2:Value),bindArgs (PySem.W.fnOf x q (vQ st) (qZ st) (kF st) .none D l I J E ct) ⟨[a0,a1,a2],[]⟩=pure ([p0,p1,p2].zip [a0,a1,a2]):=by intros;rfl):DefX P w K mg base k x [p0,p1,p2] [] sp:=mL S (aC X G a) F.kp (F.binds fun D l I J E ct=>gS (O D l I J E ct))
theorem J4 (X:K.In h) (G:h.Ns mainGlobals mg) (a:PySem.W.nsIn K mainGlobals x=some (some (.ref f))) (F:Fun K x q st f fd) (V:FnOk P w K mg base jT k f fd [p0,p1,p2,p3] sp) (S:∀(D l I:Value) (J:Option Addr) (E ct a0 a1 a2 O:Value),bindArgs (PySem.W.fnOf x q (vQ st) (qZ st) (kF st) .none D l I J E ct) ⟨[a0,a1,a2,O],[]⟩=pure ([p0,p1,p2,p3].zip [a0,a1,a2,O]):=by intros;rfl):Def P w K mg base k x [p0,p1,p2,p3] [] sp:=mV V (aC X G a) F.kp (F.binds fun D l I J E ct=>nO (S D l I J E ct))
theorem YT (X:K.In h) (G:h.Ns mainGlobals mg) (a:PySem.W.nsIn K mainGlobals x=some (some (.ref f))) (F:Fun K x q st f fd) (V:FnOk P w K mg base (kJ P w) k f fd [p0,p1,p2,p3] sp) (S:∀(D l I:Value) (J:Option Addr) (E ct a0 a1 a2 O:Value),bindArgs (PySem.W.fnOf x q (vQ st) (qZ st) (kF st) .none D l I J E ct) ⟨[a0,a1,a2,O],[]⟩=pure ([p0,p1,p2,p3].zip [a0,a1,a2,O]):=by intros;rfl):DefX P w K mg base k x [p0,p1,p2,p3] [] sp:=mL V (aC X G a) F.kp (F.binds fun D l I J E ct=>nO (S D l I J E ct))
abbrev vJ (K:PySem.W.Frag) (C:Addr) (x q:Str) (st:Stmt):Prop:=∃f fd,PySem.W.findIn K (.ref C) x=some (some (.ref f))/\PySem.W.isFn K (.ref f)=true/\Fun K x q st f fd
abbrev qG (K:PySem.W.Frag) (x:Str) (v:Option Value):Prop:=PySem.W.nsIn K mainGlobals x=some v
abbrev kZ (K:PySem.W.Frag) (C:Addr) (x:Str) (v:Option Value):Prop:=PySem.W.findIn K (.ref C) x=some v
theorem nsP_mk {v:Option Value} (h:PySem.W.nsIn K mainGlobals x=some v):qG K x v:=h
theorem fnP_mk {C:Addr} {v:Option Value} (h:PySem.W.findIn K (.ref C) x=some v):kZ K C x v:=h
theorem fnC_mk {C:Addr} {O:Value} {I J:Option Addr} {E:Array (Option Value)} {G D S F ct:Value} (a:PySem.W.findIn K (.ref C) x=some (some (.ref f))) (i:PySem.W.isFn K (.ref f)=true) (l:K.lookup f=some ⟨O,I,.func (PySem.W.fnOf x q (vQ st) (qZ st) (kF st) .none G D S J F ct),E⟩) (c:PySem.W.codeIn K F q=true) (k:PySem.W.keepIn K (.ref f)=true):vJ K C x q st:=⟨_,_,a,i,iC l c k⟩
theorem JZ {C:Addr} (cl:Cls K C) (a:PySem.W.findIn K (.ref C) x=some (some (.ref f))) (i:PySem.W.isFn K (.ref f)=true) (F:Fun K x q st f fd) (O:FnOk P w K mg base jT k f fd [p0] sp) (J:∀(D l G:Value) (I:Option Addr) (E ct a0:Value),bindArgs (PySem.W.fnOf x q (vQ st) (qZ st) (kF st) .none D l G I E ct) ⟨[a0],[]⟩=pure ([p0].zip [a0]):=by intros;rfl):MeD P w K mg base k C x [p0] sp:=⟨cl,_,_,⟨a,i,F.kp⟩,O,F.binds fun D l G I E ct=>nP (J D l G I E ct)⟩
theorem e9 {C:Addr} (cl:Cls K C) (a:PySem.W.findIn K (.ref C) x=some (some (.ref f))) (i:PySem.W.isFn K (.ref f)=true) (F:Fun K x q st f fd) (O:FnOk P w K mg base jT k f fd [p0,p1] sp) (J:∀(D l G:Value) (I:Option Addr) (E ct a0 a1:Value),bindArgs (PySem.W.fnOf x q (vQ st) (qZ st) (kF st) .none D l G I E ct) ⟨[a0,a1],[]⟩=pure ([p0,p1].zip [a0,a1]):=by intros;rfl):MeD P w K mg base k C x [p0,p1] sp:=⟨cl,_,_,⟨a,i,F.kp⟩,O,F.binds fun D l G I E ct=>JL (J D l G I E ct)⟩
theorem YS {C:Addr} (cl:Cls K C) (a:PySem.W.findIn K (.ref C) x=some (some (.ref f))) (i:PySem.W.isFn K (.ref f)=true) (F:Fun K x q st f fd) (O:FnOk P w K mg base jT k f fd [p0,p1,p2] sp) (J:∀(D l G:Value) (I:Option Addr) (E ct a0 a1 a2:Value),bindArgs (PySem.W.fnOf x q (vQ st) (qZ st) (kF st) .none D l G I E ct) ⟨[a0,a1,a2],[]⟩=pure ([p0,p1,p2].zip [a0,a1,a2]):=by intros;rfl):MeD P w K mg base k C x [p0,p1,p2] sp:=⟨cl,_,_,⟨a,i,F.kp⟩,O,F.binds fun D l G I E ct=>gS (J D l G I E ct)⟩
end
section
variable {X:Cx} {scope:Scope}
theorem xU {x:Str} {G D:Expr} {E:List Expr} {p ko:Pos} {V:TI} {Y:TT} {O:TE} (N:List Str) (is:List Nat) (S:CompScope X scope) (Z:PI X (.Name x p) G V) (hc:∀C s H h fp,dG (qV X N scope C s H h fp) E Y) (he:∀C s H h fp,PE (qV X N scope C s H h fp) D O)
  (I:N.Nodup:=by trivial) (F:Z2 X N scope (vM 1 is):=by exact cps 1 _) (h0:N[0]?=some x:=by rfl) (J:∀C s H h fp,List.lookup x (qV X N scope C s H h fp).env.scope.names=some .local:=by intros;rfl) (l:X.calm=true:=by rfl) (hs:∀x,foldedSetIterable G X.env x=pure x:=by intro _;rfl):PE X (.ListComp D [⟨.Name x p,G,E,0⟩] scope ko) (mS V (vM 1 is) (bJ 0) Y O) :=
 QC N (vM 1 is) l S F Z (fun C s H h fp=>kT (X:=qV X N scope C s H h fp) I h0 (.inl (J C s H h fp)) (.inr (J C s H h fp))) hc he hs
theorem xJ {x:Str} {F D:Expr} {p Z:Pos} {O:TI} {J:TE} (N:List Str) (is:List Nat) (S:CompScope X scope) (V:PI X (.Name x p) F O) (he:∀C s H h fp,PE (qV X N scope C s H h fp) D J)
  (G:N.Nodup:=by trivial) (E:Z2 X N scope (vM 1 is):=by exact cps 1 _) (Y:N[0]?=some x:=by rfl) (I:∀C s H h fp,List.lookup x (qV X N scope C s H h fp).env.scope.names=some .local:=by intros;rfl) (l:X.calm=true:=by rfl) (hs:∀x,foldedSetIterable F X.env x=pure x:=by intro _;rfl):PE X (.ListComp D [⟨.Name x p,F,[],0⟩] scope Z) (mS O (vM 1 is) (bJ 0) xF J) :=
 QC N (vM 1 is) l S E V (fun C s H h fp=>kT (X:=qV X N scope C s H h fp) G Y (.inl (I C s H h fp)) (.inr (I C s H h fp))) (fun _ _ _ _ _=>JD) he hs
end
section
variable {X:Cx} {k:Nat} {sp:Addr->Sp} {x:Str} {p ko:Pos} {e:Expr} {es:List Expr} {t:TA} {i:Nat} {cs:List (Nat×Addr)}
def X0 (K:PySem.W.Frag):R2:=fun x y H Q=>∃(a b:Addr) (h:List V),x=.ref a/\y=.ref b/\SqL K H a h/\SqL K H b []/\Q (.bl h.isEmpty) H
theorem FL (F:X.A.units<cLine):qN X (compareOp .Eq) (X0 X.K):=by
 intro ke s σ H x y v u Q I rx Y h;obtain ⟨a,b,V,rfl,rfl,ha,Z,q⟩:=h;cases rx;cases Y;obtain ⟨ah,r,J,hz⟩:=I.list ha;obtain ⟨G,O,D,S⟩:=I.list Z;have E:=r.length;have l:=O.length;cases V with
 |nil =>
  have h:=SeqAt.RcAt.lists (A:=X.A) (e:=fun _=>true) J.isList D.isList (by rw [ao,ao,<- E,<- l]) F (fun j h1 h2=>absurd h1 (by rw [ao,<- E];exact gb _));rw [UA] at h;exact h X.prog X.w X.xe _ ⟨.bl true,H,I,rfl,q⟩
 |cons z zs=>exact SeqAt.RcAt.lists_lengths (A:=X.A) J.isList D.isList (by rw [ao,ao,<- E,<- l];rfl) F X.prog X.w X.xe _ ⟨.bl false,H,I,rfl,q⟩
end
end L2
namespace HT
open PySem PySem.Spec PyProof.Rows
variable {prog:Program} {w:World} {A:Around} {s:Shared} {E:Value->Shared->Prop}
theorem cat_tup0 {t b:Addr} {S:List Value} {Q:Value->Shared->Prop} (ht:IsTup s.heap t #[]) (hb:IsTup s.heap b S.toArray) (h1:Q (.ref b) s):wpAny (model prog w) A (binaryOp .Add (.ref t) (.ref b)) Q E s:=by
 obtain ⟨⟨am,dd,O,sl⟩,V,Z,n,Y⟩:=id ht;obtain ⟨⟨ah,G,J,I⟩,D,l,n2,h⟩:=id hb;simp only at Z Y l h;subst Z Y l h;exact concat_meets ⟨_,V,rfl⟩ ⟨_,D,rfl⟩ noFill_tuple_add seq_tuple_add PySem.F.slot_tuple_add PySem.F.entry_tuple_add (PySem.F.args_tuple_add_2 _ _) (tuple_addW0 t b #[] S.toArray n n2 dd G sl I rfl) ⟨V,D,h1⟩
end HT
namespace L2
open PySem PySem.Spec PyProof.Rows
theorem FH {X:Cx} {l:List Stmt}:PSs X l (fun _ _ _=>False):=fun _ _ _ _ _ _ h=>h.elim
section
variable {X:Cx}
def VY (K:PySem.W.Frag):R2:=fun x y H Q=>∃a b h l,x=.ref a/\y=.ref b/\SqT K H a h/\SqT K H b l/\l≠[]/\h.length+l.length<=sizeLine/\(h=[]->Q (.ref b) H)/\(h≠[]->∀p,H p=none->Q (.ref p) (upd H p (.tup (h++l))))
theorem S9:qN X (binaryOp .Add) (VY X.K):=by
 intro ke s σ H x y v u Q I O G h;obtain ⟨a,b,E,ys,rfl,rfl,S,J,hy,hz,V,Y⟩:=h
 by_cases l:E=[]
 ·subst l;cases O;cases G;obtain ⟨D,Z,p1,_⟩:=I.tuple S;obtain ⟨F,r2,p2,_⟩:=I.tuple J;have e:D=[]:=Z.nil_iff.mpr rfl;subst e;exact HT.cat_tup0 p1 p2 ⟨.ref b,H,I,rfl,V rfl⟩
 ·exact U1 ke s σ H _ _ v u Q I O G ⟨a,b,E,ys,rfl,rfl,S,J,l,hz,fun h=>absurd h hy,fun _=>Y l⟩
end
section
variable {P:Program} {w:World} {K:PySem.W.Frag} {mg:Str->Option Value} {base:Heap}
end
section
variable {X:Cx} {ke:List (Addr×Obj)} {σ:St} {H:Hp} {s:Shared}
end
def VU (j:Nat):List Stmt->List Stmt
 |.For _ _ b _ _::_=>b
 |.While _ b _ _::_=>b
 |.If _ a b _::_=>match j with|0=>a|_=>b
 |_=>[]
def sb (b:List Stmt):List Nat->List Stmt
 |[]=>b
 |[n]=>b.drop n
 |n::j::p=>sb (VU j (b.drop n)) p
structure Ru where
 X:Cx
 b:List Stmt
 t:TS
 h:PSs X b t
def Tk (_:Cx) (_:List Stmt):Prop:=True
theorem tk {X:Cx} {b:List Stmt} {G:TS->Prop} (h:Tk X b->∃t,PSs X b t/\G t):∃t,PSs X b t/\G t:=h trivial
def ru {X:Cx} {b:List Stmt} (_:Tk X b) (p:List Nat) {t:TS} (h:PSs X (sb b p) t):Ru:=⟨X,_,t,h⟩
def tV (i:Nat):TE:=fun h H Q=>match h[i]? with
 |some (some v)=>Q v H
 |_=>False
theorem WQ {i:Nat} {l:St} {H:Hp} {Q:VK} (h:tV i l H Q):xG i l H Q:=by
 unfold tV at h
 split at h
 ·exact ⟨_,by assumption,h⟩
 ·exact h.elim
section
variable {X:Cx}
theorem jA (i:Nat) {x:Str} {F:Pos} (J:X.N[i]?=some x:=by rfl) (G:gX X.env.scope x:=by first|exact Or.inl rfl|exact Or.inr (Or.inl rfl)|exact Or.inr (Or.inr rfl)) (E:(x == ("__debug__":Str))=false:=by decide)
  (l:(x == ("__classdict__":Str))=false:=by decide):PE X (.Name x F) (tV i):=fun p s D H Q I h=>pv i J G E l p s D H Q I (WQ h)
end
def VN (h h':Heap) (e:Addr) (cls:Value):Prop:=(∀b,b≠e->h'.get? b=h.get? b)/\∃o l t,h'.get? e=some o/\o.cls=cls/\o.data=.fields l/\2<l.size/\l[0]?=some t/\l[1]?=some .none
theorem N3:entryFor table "proto.unchain"=some Builtin.«proto.unchain»:=entryFor_of_tree (by kernel_rfl)
section
variable {prog:Program} {w:World} {A:Around} {E:Value->Shared->Prop} {s:Shared} {env:Env}
theorem O6 {a:Addr} {e:Value} {Q:Value->Shared->Prop} (F:JW s.heap a) (q:Q .none s):wpAny (model prog w) A (runValue (.builtin "proto.unchain" ⟨[e,.ref a,.ref a,.bool false],[]⟩)) Q E s:=by
 obtain ⟨o,G,l,h,D⟩:=F;refine wpAny_runValue (codeAny_builtin N3 ?_);unfold Builtin.«proto.unchain»;refine ad (bc l h D ?_);rw [if_pos (by rfl)];exact aJ q
theorem OK {l:Type} {a e:Addr} {o:Obj} {vs:Array Value} {Q:l->Shared->Prop} (G:A.handled=some (.ref a)) (h:e≠a) (I:JW s.heap a) (he:s.heap.get? e=some o) (D:o.data=.fields vs) (J:2<vs.size)
  (q:E (.ref e) {s with heap:=s.heap.update e (Obj.mapFields (·.setIfInBounds 2 (.ref a)))}):wpAny (model prog w) A (raiseNew (.ref e):Sem l) Q E s:=by
 unfold raiseNew;refine ad (wpAny_handled ?_);rw [G];have F:((Value.ref a) != (Value.ref e))=true:=by simp;exact fun z=>h z.symm
 simp only [F,if_true];refine ad (ge (O6 I ?_));refine ad ?_;unfold updateField;refine ad (wpAny_load he ?_);obtain ⟨c,d,O,S⟩:=o;simp only at D;subst D;simp only [J,if_true];exact wpAny_update (by rw [he]) (wpAny_throw q)
variable {nm q:Str} {C N:Addr} {bs bm:List Value} {hdct:Bool} {sn:List Str} {sub:List Value} {ab:Bool} {col:Option Bool} {dd:Option Addr} {k0 k1 k2 k3 k5:Option Value} {newId:String}
variable {nm' q':Str} {C' N':Addr} {bs' bm':List Value} {hdct':Bool} {sn':List Str} {sub':List Value} {ab':Bool} {col':Option Bool} {dd':Option Addr} {k0' k1' k2' k3' k5':Option Value} {newId':String}
theorem NZ {a:Addr} {x c:Sem Value} {Q:Flow->Shared->Prop} (J:bm.contains (.type "BaseException")=true) (G:bm'.contains (.type "BaseException")=true) (hh:A.handled=some (.ref a))
  (h:wpAny (model prog w) A x (fun v l=>∃e t,v=.ref e/\e≠a/\l.heap.get? C=some (excClassObj nm q C N bs bm hdct sn sub ab col dd k0 k1 k2 k3 k5 newId)/\l.heap.get? C'=some (excClassObj nm' q' C' N' bs' bm' hdct' sn' sub' ab' col' dd' k0' k1' k2' k3' k5' newId')/\
   l.heap.get? e=some {cls:=.ref C,data:=.fields #[.ref t,.none,.none,.none,.bool false,.none]}/\(∃oa,l.heap.get? a=some oa/\oa.cls=.ref C')/\JW l.heap a/\wpAny (model prog w) A c (fun cv F=>cv=.ref a/\F=l) E l/\
   ∀h',VN l.heap h' e (.ref C)->E (.ref e) {l with heap:=h'}) E s) :
  wpAny (model prog w) A (raiseStmt env (some x) (some c)) Q E s:=by
 have aD:(Value.ref C::bm).contains (.type "BaseException")=true:=by rw [List.contains_cons,J,Bool.or_true]
 have am:(Value.ref C'::bm').contains (.type "BaseException")=true:=by rw [List.contains_cons,G,Bool.or_true]
 unfold raiseStmt;refine ad (bn h (fun v l ah=>?_) fun _ _ x=>x);obtain ⟨e,t,rfl,ap,Y,S,he,⟨oa,I,Z⟩,hx,hr,hE⟩:=ah;refine ad (ge (bn hr (fun cv F an=>?_) fun _ _ x=>x));obtain ⟨rfl,rfl⟩:=an;obtain ⟨hp,g,d,tk,os⟩:=F;refine ad (aJ ?_)
 dsimp only at Y S he I hx
 obtain ⟨o2,vs,g1,g2,g3⟩:=id hx;rw [I] at g1;cases g1
 obtain ⟨oc,od,a5,a4⟩:=oa;simp only at Z g2;subst Z g2
 repeat (first|with_reducible refine dg he ?_|with_reducible refine dg I ?_|with_reducible refine dg Y ?_|with_reducible refine dg S ?_|(with_reducible refine wpAny_isSubtype_exc Y ?_;rw [aD])|(with_reducible refine wpAny_isSubtype_exc S ?_;rw [am])|wp_step)
 have a3:e≠C:=fun z=>by subst z;rw [he] at Y;cases Y
 have D:(Obj.mapFields (fun x=>x.setIfInBounds 3 (Value.ref a)) {cls:=Value.ref C,data:=Data.fields #[Value.ref t,Value.none,Value.none,Value.none,Value.bool false,Value.none]}).data=.fields #[Value.ref t,.none,.none,.ref a,.bool false,.none]:=rfl;have aU:=bx (Obj.mapFields fun x=>x.setIfInBounds 3 (Value.ref a)) he (cc D);have V:=bx (Obj.mapFields fun x=>x.setIfInBounds 4 (Value.bool true)) aU (cc (aP D _));have O:∀b,b≠e->((hp.update e (Obj.mapFields fun x=>x.setIfInBounds 3 (Value.ref a))).update e (Obj.mapFields fun x=>x.setIfInBounds 4 (Value.bool true))).get? b=hp.get? b:=fun b n=>by rw [aY _ _ (Ne.symm n),aY _ _ (Ne.symm n)]
 refine dg ((O C (Ne.symm a3)).trans Y) (aJ ?_);rw [if_pos (by rfl)];refine aJ ?_
 dsimp only
 refine ad ?_;unfold setFlight;refine ad (bc V (aP D _) (x:=.none) rfl ?_);rw [if_neg (by decide)];refine aJ (OK hh ap ?_ V (aP D _) (by show 2<6;decide) (hE _ ⟨fun b n=>?_,?_⟩))
 ·obtain ⟨o,us,y1,y2,y3⟩:=hx;exact ⟨o,us,(O a (Ne.symm ap)).trans y1,y2,y3⟩
 ·exact (aY _ _ (Ne.symm n)).trans (O b n)
 ·exact ⟨_,_,_,bx _ V (cc (aP (aP D _) _)),rfl,aP (aP D _) _,(by show 2<6;decide),rfl,rfl⟩
end
def QN (P:Program) (w:World):yI:=fun h H s E e l=>∃(a C:Addr) (D:Hp),e=.ref a/\l.os=s.os/\AllBare l.gens/\Un (j8 h) [] H D s.heap l.heap/\HOk P w D l.heap/\
 x8 h (fun b=>D b≠none\/∃F,s.heap.get? b=some F) l.heap a C/\D a=none/\s.heap.get? a=none/\E (.ref C) none D
def Tr1 (h:Heap) (e T:Addr) (C:Value):Prop:=(∃o l t,h.get? e=some o/\o.cls=C/\o.data=.fields l/\l[0]?=some t/\l[1]?=some (.ref T))/\T≠e/\∃o D,h.get? T=some o/\o.data=.fields D/\3<D.size
def GT (X:Cx) (l:Value->Hp->Prop):Prop:=∀h D H s e T C,Inv X h D H s->Tr1 s.heap e T (.ref C)->bM X h e->bM X h T->H e=none->H T=none->l (.ref C) H->X.xe (.ref e) s
variable {H:Hp} {s:Shared}
theorem uF {X:Cx} {F:List (Addr×Obj)} {G:St} {e:Addr} (I:Inv X F G H s) (E:X.ex=[]) (D:s.heap.get? e=none):bM X F e/\H e=none:=by
 refine ⟨⟨?_,fun z=>?_,fun x c q z=>?_,fun p J z=>?_⟩,?_⟩
 ·cases r:X.s₀.heap.get? e with
  |none=>rfl
  |some v =>
   obtain ⟨u,l⟩:=I.base.there e v r (by rw [E];simp);rw [D] at l;cases l
 ·obtain ⟨m,⟨o,_,_,h,_⟩,_⟩:=I.loc;rw [<- z,D] at h;cases h
 ·obtain ⟨v,o,h,_⟩:=I.cell x c q;rw [z,D] at h;cases h
 ·have h:=(I.pin p J).1;rw [z,D] at h;cases h
 ·cases r:H e with
  |none=>rfl
  |some v =>
   obtain ⟨u,l⟩:=I.hok.there r;rw [D] at l;cases l
theorem Tr1.ne {h B:Heap} {l:List Env} {e T:Addr} {C:Value} (x:Tr1 h e T C) (f:h.FunFrames B l):e∉j8 l/\T∉j8 l:=by
 obtain ⟨⟨o,I,t,a,_,d,_⟩,_,J,O,E,G,_⟩:=x;refine ⟨fun z=>?_,fun z=>?_⟩
 ·obtain ⟨_,F,q,D⟩:=f.mem z;rw [a] at q;cases q
  exact D _ d
 ·obtain ⟨_,F,q,D⟩:=f.mem z;rw [E] at q;cases q
  exact D _ G
theorem UE {P:Program} {w:World} {K:PySem.W.Frag} {mg:Str->Option Value} {base:Heap} {N:List Str} {l:Str} {scope:Scope} {f:Addr} {h:Value} {A:Around} {outer:List Env} {E:XK} :
  GT (qF (QN P w) P w K mg base N l scope f h A outer s H E) (fun c H'=>E c none H'):=by
 intro ke σ Z G a T C J tr a6 a5 ha hT q;have S:G.heap.FunFrames base (envOfC l scope s.heap.objs.size f h::outer):=J.stack;have ah:j8 (envOfC l scope s.heap.objs.size f h::outer)=s.heap.objs.size::j8 outer:=rfl;have ub:Un (j8 outer) [] H Z s.heap G.heap:=J.base;have an:∀b,(∃F,s.heap.get? b=some F)->b∉j8 outer->b∉j8 (envOfC l scope s.heap.objs.size f h::outer):=fun b ⟨F,q⟩ n z=>by
  rw [ah] at z
  rcases aj.mp z with z|z
  ·exact absurd (aq q) (by rw [z];exact bz _)
  ·exact n z
 have yR:∀b,Z b≠none->b∉j8 (envOfC l scope s.heap.objs.size f h::outer):=fun b V z=>V (J.stkFree b z)
 obtain ⟨a7,a8⟩:=tr.ne S;have am:s.heap.get? a=none:=a6.1;have a4:s.heap.get? T=none:=a5.1;obtain ⟨⟨o,vs,t,e1,e2,e3,e4,e5⟩,aU,oT,ts,t1,t2,t3⟩:=tr;obtain ⟨y,hy⟩:∃y,ts[3]?=some y:=⟨_,fg t3⟩;generalize hL:a::T::j8 (envOfC l scope s.heap.objs.size f h::outer)=L;have ap:∀b,b∈j8 (envOfC l scope s.heap.objs.size f h::outer)->b∈L:=fun b z=>by rw [<- hL];exact aF _ (aF _ z)
 have a3:∀b,b∉j8 (envOfC l scope s.heap.objs.size f h::outer)->b≠a->b≠T->b∉L:=fun b n n1 n2 z=>by
  rw [<- hL] at z
  rcases aj.mp z with z|z
  ·exact n1 z
  ·rcases aj.mp z with z|z
   ·exact n2 z
   ·exact n z
 have aD:∀O∈(envOfC l scope s.heap.objs.size f h::outer),∀b,O.frame=some b->b∈L:=fun O he b V=>ap b (cw.mpr ⟨O,he,V⟩)
 have g1:∀b o,G.heap.get? b=some o->b∉j8 (envOfC l scope s.heap.objs.size f h::outer)->(Z b≠none\/∃F,s.heap.get? b=some F)->(PySem.W.hideAll G.heap L).get? b=some o:=fun b o z n y=>dz _ z (a3 b n (fun v=>by
  subst v
  rcases y with y|⟨F,y⟩
  ·exact y ha
  ·rw [am] at y;cases y) fun v=>by
  subst v
  rcases y with y|⟨F,y⟩
  ·exact y hT
  ·rw [a4] at y;cases y)
 show wpAny (model P w) (A.deeper (envOfC l scope s.heap.objs.size f h)) (leaving (envOfC l scope s.heap.objs.size f h) (.ref a)) (fun _ I=>QN P w outer H s E (.ref a) I) (fun e' I=>QN P w outer H s E e' I) G;refine BP (B:=PySem.W.hideAll G.heap L) (cls:=.ref C) (a0:=t) (fl:=y) J.ok.frames (ij S aD) rfl ⟨o,vs,T,oT,ts,e1,⟨e2,e4⟩,e3,e5,fi L (by rw [<- hL];simp),aU,t1,t2,hy⟩ (fun b o z=>ft _ z) (fi L (by rw [<- hL];simp)) fun h3 D up=>?_
 refine ⟨a,C,Z,rfl,J.os,J.bare,ub.go (fun b o q n _ z=>D.1 b o (g1 b o q (an b z n) (.inr z))) (fun b o q n _=>?_),J.hok.keepT fun b u V q=>D.1 b u (g1 b u q (yR b V) (.inl V)),⟨_,t,D,fun b o q n z=>?_⟩,ha,am,q⟩
 ·obtain ⟨_,F,Y,hd⟩:=S.mem (show b∈j8 (envOfC l scope s.heap.objs.size f h::outer) from by rw [ah];exact aF _ n);rw [q] at Y;cases Y
  exact up b o q hd
 ·have hn:b∉j8 (envOfC l scope s.heap.objs.size f h::outer):=by
   rcases z with z|z
   ·exact yR b z
   ·exact an b z n
  have h1:∃u,G.heap.get? b=some u:=by
   rcases z with z|⟨F,z⟩
   ·cases r:Z b with
    |none=>exact absurd r z
    |some v=>exact J.hok.there r
   ·exact ub.there b F z (by simp)
  obtain ⟨u,hu⟩:=h1;have hB:=g1 b u hu hn z;have:=D.1 b u hB;have q':h3.get? b=some o:=q;rw [q'] at this;cases this;exact hB
theorem PP {X:Cx} {Y:List (Addr×Obj)} {O:St} {A:Around} {E:Value->Shared->Prop} {i:Nat} {x:Str} {ko:Pos} {Q:Unit->Shared->Prop} (I:Inv X Y O H s) (hN:X.N.Nodup) (hi:X.N[i]?=some x) (S:X.env.scope.names.lookup x=some .local)
  (h:∀J,Inv X Y (O.set i none) H J->Heap.SameBut X.env.locals s.heap J.heap->Q () J):wpAny (model X.prog X.w) A (do bindName X.env x .none;unbindBehindTheSuite X.env x ko) Q E s:=by
 have hp:(X.env.scope.kind == .class||(X.env.scope.kind == .module&&X.env.locals != X.env.globals))=false:=by rw [I.ok.kind];rfl
 obtain ⟨m,hn,_⟩:=id I.loc;refine ad (wpAny_bindName (im S hn (fun V F D=>?_) hp));unfold unbindBehindTheSuite;refine ig ?_;unfold unbindName;refine ad (wpAny_point (ad ?_));unfold deleteName;have hl:X.env.kindOf x=some .local:=S;simp only [hl,hp];rw [if_neg (by decide)];refine ad (wpAny_nsDel_keeps F fun Z v G l=>?_);simp only [if_true,Option.isSome_some,Bool.not_true,Bool.false_eq_true,if_false];refine aJ (wpAny_point (h _ ?_ (D.trans l)));exact I.unset hN hi (fun m0 h0 y hy=>by rw [EM h0 hn];simp [hy]) G (D.trans l)
section
variable {X:Cx} {ke:List (Addr×Obj)} {σ:St} {H:Hp} {s:Shared}
theorem Inv.tb {h':Heap} {T:Addr} {o:Obj} {D:Array Value} (I:Inv X ke σ H s) (h:X.stack=X.env::X.outer) (J:X.env.frame=some X.env.locals) (S:s.heap.get? T=some o) (F:o.data=.fields D) (l:bM X ke T) (G:H T=none)
  (k:∀b,b≠T->h'.get? b=s.heap.get? b):Inv X ke σ H {s with heap:=h'}:=by
 refine I.fly h J (fun b u q _ z=>(k b fun v=>?_).trans q) fun b u q E=>⟨u.slots,(k b fun v=>?_).trans q⟩
 ·subst v
  rcases z with z|⟨V,z⟩|⟨p,O,z⟩
  ·exact z G
  ·rw [l.1] at z;cases z
  ·exact l.2.2.2 p O z
 ·subst v;rw [S] at q;cases q
  exact E D F
theorem CN {A:Around} {E:Value->Shared->Prop} {e T:Addr} {C:Value} {f:Option Addr} {Q:Unit->Shared->Prop} (I:Inv X ke σ H s) (h:X.stack=X.env::X.outer) (hf:X.env.frame=some X.env.locals) (tr:Tr1 s.heap e T C) (Z:bM X ke T) (hn:H T=none)
  (q:∀h',Inv X ke σ H {s with heap:=h'}->Tr1 h' e T C->(∃o G,h'.get? T=some o/\o.data=.fields G/\G[3]?=some (f.elim .none fun g=>rawInt g))->Q () {s with heap:=h'}):wpAny (model X.prog X.w) A (setFlight (.ref e) f) Q E s:=by
 obtain ⟨⟨o,vs,t,Y,e2,V,e4,S⟩,l,oT,G,O,F,J⟩:=tr;unfold setFlight;refine ad (bc Y V S ?_);rw [if_pos (by simp)];have D:=bx (Obj.mapFields fun x=>x.setIfInBounds 3 (f.elim Value.none fun g=>rawInt g)) O (cc (aP F _));refine ff O F J (q _ (I.tb h hf O F Z hn fun b n=>aY _ _ (Ne.symm n)) ⟨⟨o,vs,t,(aY _ _ l).trans Y,e2,V,e4,S⟩,l,_,_,D,aP F _,by simp [J]⟩ ⟨_,_,D,aP F _,by simp [J]⟩)
theorem SM {A:Around} {e T:Addr} {C:Value} (I:Inv X ke σ H s) (h:X.stack=X.env::X.outer) (Y:X.env.frame=some X.env.locals) (D:Tr1 s.heap e T C) (E:bM X ke T) (V:H T=none)
  (q:∀h',Inv X ke σ H {s with heap:=h'}->Tr1 h' e T C->X.xe (.ref e) {s with heap:=h'}):cameBackBy (model X.prog X.w) A X.env X.xe (.ref e) s:=by
 have l:=D;obtain ⟨⟨o,Z,t,G,e2,S,e4,J⟩,_⟩:=l;unfold cameBackBy;refine ad (bc G S J ?_);rw [if_neg (by simp)];exact CN I h Y D E V fun h' O F _=>q h' O F
end
end L2
namespace L2
open PySem PySem.Spec PyProof.Rows
def bL (a C:Addr):HO:=.ext fun h=>∃o l,h.get? a=some o/\o.cls=.ref C/\o.data=.fields l/\l[2]?=some .none
def eA (X:Cx) (h:List (Addr×Obj)) (R:St->Value->Hp->Prop):Cx:={zM X h R with xe:=fun e l=>(zM X h R).xe e l/\∃a,e=.ref a/\JW l.heap a}
def ST (K:PySem.W.Frag) (I G:Addr) (i:Nat) (S:(St->Value->Hp->Prop)->TS) (t:TA) (J:Value->Hp->Prop):TS:=fun D O H=>∃R:St->Value->Hp->Prop,S R D O H/\∀h c l,R h c l->∃C,c=.ref C/\zD K C/\PySem.W.exmOne K (.ref C) (.ref I)=some true/\
 ∀a,l a=none->t (h.set i (some (.ref a))) (upd l a (bL a C)) fun F E=>F.length<=sizeLine/\E a=some (bL a C)/\J (.ref G) E
variable {X:Cx} {ke:List (Addr×Obj)} {R:St->Value->Hp->Prop}
theorem Inv.intoTryK {h:St} {H:Hp} {s:Shared} (I:Inv X ke h H s):Inv (eA X ke R) [] h H s:=by
 have J:Inv (zM X ke R) [] h H s:=I.intoTry;exact ⟨⟨J.ok.mod,J.ok.kind,J.ok.glob,J.ok.blt,J.ok.above,J.ok.inj,J.ok.has,J.ok.cab,J.ok.hd,J.ok.frames,J.ok.stk,J.ok.exf,J.ok.bs,J.ok.bsz,J.ok.noex,J.ok.exfs,J.ok.funs,J.ok.frf⟩,J.os,J.bare,J.base,J.loc,J.cell,J.free,J.freeC,J.pin,J.hok,J.len⟩
theorem Inv.outTryK {pins':List (Addr×Obj)} {h:St} {H:Hp} {s:Shared} (J:Inv (eA X ke R) pins' h H s):Inv (zM X ke R) pins' h H s :=
 ⟨⟨J.ok.mod,J.ok.kind,J.ok.glob,J.ok.blt,J.ok.above,J.ok.inj,J.ok.has,J.ok.cab,J.ok.hd,J.ok.frames,J.ok.stk,J.ok.exf,J.ok.bs,J.ok.bsz,J.ok.noex,J.ok.exfs,J.ok.funs,J.ok.frf⟩,J.os,J.bare,J.base,J.loc,J.cell,J.free,J.freeC,J.pin,J.hok,J.len⟩
theorem SP.outTryK {X:Cx} {ke:List (Addr×Obj)} {R:St->Value->Hp->Prop} {D:Ends} {f:Flow} {F:Shared} (h:SP (eA X ke R) [] D f F):SP X ke D f F:=by
 cases f with
 |next=>obtain ⟨l,E,I,q⟩:=h;exact ⟨l,E,I.outTryK.outTry,q⟩
 |brk=>obtain ⟨l,E,I,q⟩:=h;exact ⟨l,E,I.outTryK.outTry,q⟩
 |cont=>obtain ⟨l,E,I,q⟩:=h;exact ⟨l,E,I.outTryK.outTry,q⟩
 |ret u=>obtain ⟨v,l,E,I,r,q⟩:=h;exact ⟨v,l,E,I.outTryK.outTry,r,q⟩
theorem P3 (l:X.ex=[]):Q3 (eA X ke R) R:=by
 intro h F G J e O I D;refine ⟨uC (X:=X) l h F G J e O I.outTryK D,?_⟩;obtain ⟨a,C,Z,rfl,Y,E,un,S,V,ha,hs,q⟩:=D;exact ⟨a,rfl,q.1⟩
variable {es:List Expr} {t:TA}
theorem PD {R':Value->Hp->Prop} {y n:Str} {O:Addr} {i:Nat} {b7 b2 l ah:Pos} {h:Expr} {σ':St} {H':Hp} {s7:Shared} {a C':Addr} {Q':Flow->Shared->Prop} {E':Value->Shared->Prop} (bt:X.Ok)
  (hi:X.N[i]?=some n) (hl:X.env.scope.names.lookup n=some .local) (aU:Gl X y) (b8:X.mg y=some (.ref O)) (hc:zD X.K O) (hA:∀e,PA (zR X e) (h::es) t) (am:zD X.K C') (J8:Inv (zR X (.ref a)) ke (σ'.set i (some (.ref a))) (upd H' a (bL a C')) s7) (ap:i<σ'.length)
  (hH:t (σ'.set i (some (.ref a))) (upd H' a (bL a C')) fun vs H1=>vs.length<=sizeLine/\H1 a=some (bL a C')/\R' (.ref O) H1) (V:(y == ("__debug__":Str))=false) (an:(n == ("__debug__":Str))=false)
  (he:starEach (h::es) X.env=(false,eval h X.env)::starEach es X.env) (hpl:(backTo l (starEach es X.env)).any (·.1)=false)
  (be:∀H2 E e Z,Inv X ke (σ'.set i (some (.ref a))) H2 E->E.heap.get? e=none->(∀b o,E.heap.get? b=some o->Z.get? b=some o)->(∃o vs t,Z.get? e=some o/\o.cls=.ref O/\o.data=.fields vs/\2<vs.size/\vs[0]?=some t/\vs[1]?=some .none)->R' (.ref O) H2->E' (.ref e) {E with heap:=Z}) :
  wpAny (model X.prog X.w) (X.A.mark (some (.ref a))) (exec (.Raise (some (.Call (.Name y b7) (h::es) [] l)) (some (.Name n b2)) ah) X.env) Q' E' s7:=by
 rw [arm_exec_Raise];refine ad (gg ?_);simp only [evalOpt,Option.map];obtain ⟨tl,N1,nm,q,bs,hdct,sn,sub,ab,col,dd,k0,k1,k2,k3,k5,mN,_,hC,bl,a5,T1⟩:=wI J8.ok.mod.kin hc;obtain ⟨b1,a9,nm',q',bs',hdct',sn',sub',ab',col',dd',k0',k1',k2',k3',k5',cn,_,a3,ca,cd,b4⟩:=wI J8.ok.mod.kin am;have hh:(X.A.mark (some (.ref a))).handled=some (.ref a):=rfl;refine NZ (C:=O) (nm:=nm) (q:=q) (N:=N1) (bs:=bs) (bm:=tl) (hdct:=hdct) (sn:=sn) (sub:=sub) (ab:=ab) (col:=col) (dd:=dd) (k0:=k0) (k1:=k1) (k2:=k2) (k3:=k3) (k5:=k5) (newId:="ValueError.__new__") (newId':="ValueError.__new__") (C':=C') (nm':=nm') (q':=q') (N':=a9) (bs':=bs') (bm':=b1) (hdct':=hdct') (sn':=sn') (sub':=sub') (ab':=ab') (col':=col') (dd':=dd') (k0':=k0') (k1':=k1') (k2':=k2') (k3':=k3') (k5':=k5')
  (T1.hasType PySem.F.excBase_ValueError.hasBase) (b4.hasType PySem.F.excBase_ValueError.hasBase) hh ?_
 refine ad (bn (wpAny_Call_ofName (QU (X:=zR X (.ref a)) J8 aU b8 ?_ V)) (fun v ce aD=>ad (gg (aJ aD))) fun _ _ x=>x);have h5:=hA (.ref a) l ke s7 _ _ _ J8 hH;unfold callWith;have I:(backTo l (starEach (h::es) X.env)).any (·.1)=false:=by rw [he];show (false||(backTo l (starEach es X.env)).any (·.1))=false;rw [hpl];rfl
 have a7:starEach (h::es) (zR X (.ref a)).env=(false,eval h (zR X (.ref a)).env)::starEach es (zR X (.ref a)).env:=he;rw [a7] at h5;refine ad (ge ?_);simp only [I];rw [he];refine iw (bn h5 (fun us E ⟨cj,H2,S,r2,b3,b9,q2⟩=>ad (gg ?_)) fun _ _ z=>z.elim);have J:=S.bk _ _ hC;refine ad (wpAny_keeperOf_exc (g:=E.gens) (d:=E.drawn) (t:=E.toks) (os:=E.os) J ?_);refine ad (wpAny_call_exc_subT (hrest:=by show us.length<=sizeLine;rw [<- r2.length];exact b3) PySem.F.excBase_ValueError (T1.keeps S.bk) J (bl.keeps S.bk) a5 fun h' e G=>ad (ge (wpAny_point (aJ ?_))));have J2:Inv X ke (σ'.set i (some (.ref a))) H2 E:=S.outSuite bt;have G:Heap.MadeExcOf E.heap h' e (.ref O) us:=G;obtain ⟨⟨oa,va,Y,f2,f3,f4⟩,_,_⟩:=J2.hok a _ b9;have Y:E.heap.get? a=some oa:=Y;have a8:e≠a:=fun z=>by have:=G.new;rw [z,Y] at this;cases this
 obtain ⟨t0,a6,_,_⟩:=G.there;refine ⟨e,t0,rfl,a8,G.keeps _ _ J,G.keeps _ _ (S.bk _ _ a3),a6,⟨oa,G.keeps _ _ Y,f2⟩,⟨oa,va,G.keeps _ _ Y,f3,f4⟩,?_,fun Z ch=>?_⟩
 ·obtain ⟨m,hn,b0⟩:=J2.loc;obtain ⟨u,ru,lk⟩:=b0 i n (.ref a) hi (cg ap) (.inl hl);obtain rfl:u=Value.ref a:=ru
  rcases lk with ⟨D,a4⟩|⟨D,_⟩
  ·refine ad (wpAny_Name (wpAny_loadName_local J2.ok.kind D (hn.keeps G.keeps) a4 ?_) an);exact ad (gg (aJ ⟨rfl,rfl⟩))
  ·rcases D with D|D
   ·have D:X.env.scope.names.lookup n=some .cell:=D;rw [hl] at D;cases D
   ·have D:X.env.scope.names.lookup n=some .free:=D;rw [hl] at D;cases D
 exact be H2 E e Z J2 G.new (fun b o q=>(ch.1 b fun z=>by have:=G.new;rw [<- z,q] at this;cases this).trans (G.keeps b o q)) ch.2 q2
theorem PH {R':Value->Hp->Prop} {ku:List Stmt} {x y n:Str} {C0 C1:Addr} {i:Nat} {np bl ko dy dt an ca:Pos} {F:Expr} {tb:(St->Value->Hp->Prop)->TS} (cd:GT X R')
  (a8:X.ex=[]) (l:X.stack=X.env::X.outer) (O:X.env.frame=some X.env.locals) (hN:X.N.Nodup) (hi:X.N[i]?=some n) (hl:X.env.scope.names.lookup n=some .local)
  (hg:Gl X x) (hm:X.mg x=some (.ref C0)) (c9:Gl X y) (dD:X.mg y=some (.ref C1)) (hc:zD X.K C1)
  (hb:∀ke R,Q3 (eA X ke R) R->PSs (eA X ke R) ku (tb R)) (hA:∀e,PA (zR X e) (F::es) t) (dl:(x == ("__debug__":Str))=false:=by decide) (b7:(y == ("__debug__":Str))=false:=by decide) (cN:(n == ("__debug__":Str))=false:=by decide)
  (he:starEach (F::es) X.env=(false,eval F X.env)::starEach es X.env:=by rfl) (hpl:(backTo an (starEach es X.env)).any (·.1)=false:=by rfl) :
  PS X (.Try ku [.ExceptHandler (some (.Name x np)) (some n) [.Raise (some (.Call (.Name y dy) (F::es) [] an)) (some (.Name n dt)) ca] bl] [] [] ko) (ST X.K C0 C1 i tb t R'):=by
 intro ke s σ H D I h;obtain ⟨R,h1,h2⟩:=h;refine wpAny_Try_except (bn (hb ke R (P3 a8) [] s σ H D I.intoTryK h1) (fun f s1 q=>?_) (fun v s1 q=>?_))
 ·have q':=q.outTryK;cases f with
  |next=>exact fw q'
  |brk=>exact q'
  |cont=>exact q'
  |ret u=>exact q'
 obtain ⟨⟨a,C',σ',H',rfl,J,⟨B,a0,fl,E⟩,ha,ap,r⟩,_,hv,c0⟩:=q;cases hv;obtain ⟨C,e1,cj,co,h3⟩:=h2 σ' (.ref C') H' r;cases e1;have aU:Heap.FlyingW B (X.env::X.outer) a (.ref C') a0 s1.heap:=by rw [l] at fl;exact fl
 have a5:X.A.frames=some (X.env::X.outer):=by rw [<- l];exact J.ok.frames
 obtain ⟨T0,c1⟩:=wF aU c0;refine b6 (P:=fun S=>Heap.HeldW B (X.env::X.outer) a (.ref C') a0 X.env.locals S/\s1.heap.UpToSlots S) (fun Q k=>kb a5 O aU fun S b c=>k S ⟨b,c⟩) (R:=fun S=>∃T,Ctx1 S a T) (fun Q k=>wQ a5 aU.2.2.1 O c1 fun S T c=>k S ⟨T,c⟩) fun S ⟨a6,b9⟩ ⟨T4,c4⟩=>?_
 refine b6 (P:=fun G=>Heap.FlyingW B (X.env::X.outer) a (.ref C') a0 G/\S.UpToSlots G) (fun Q k=>wpAny_landsW a6 fun G b c=>k G ⟨b,c⟩) (R:=fun G=>Ctx1 G a T4) (fun Q k=>lV c4 k) fun G ⟨a7,cO⟩ c5=>?_
 have J5:Inv X ke σ' H' {s1 with heap:=G}:=J.fly l O (fun b o q n z=>a7.1 b o (E b o q n z)) (b9.trans cO);obtain ⟨ob,db,cz⟩:=a7.there;have LT:PySem.W.Looks (model X.prog X.w) G (typeOf (.ref a)) (.ref C'):=by
  have:PySem.W.Looks (model X.prog X.w) G (typeOf (.ref a)) ob.cls:=(gw db).andThen .now;rw [cz] at this;exact this
 refine wpAny_handleBy_cons (ip (QU (J5.intoSuite (.ref a)) hg hm ?_ dl)) (by intro q;cases q);have KI:X.K.In G:=J5.kIn;refine (PySem.W.exm_one KI LT co).here ?_;refine codeAny_handlers_suite_as ?_;refine b6 (P:=fun V=>Heap.FlyingW B (X.env::X.outer) a (.ref C') a0 V/\G.UpToSlots V) (fun Q k=>lands_againW a7 fun V b c=>k V ⟨b,c⟩) (R:=fun V=>Ctx1 V a T4) (fun Q k=>lV c5 k) fun V ⟨b8,dx⟩ c6=>?_
 have J6:Inv X ke σ' H' {s1 with heap:=V}:=J.fly l O (fun b o q n z=>b8.1 b o (E b o q n z)) ((b9.trans cO).trans dx);obtain ⟨oe,vs,aD,b1,am,_⟩:=b8.first;have dj:vs[2]?=some .none:=by
  obtain ⟨⟨o,us,a1,a2,a3,_⟩,_⟩:=c6;rw [aD] at a1;cases a1
  rw [am] at a2;cases a2
  exact a3
 have dr:ObjOk X.prog X.w (upd H' a (bL a C')) V a (bL a C') :=
  ⟨⟨oe,vs,aD,b1,am,dj⟩,⟨oe,aD⟩,fun h1 h2 ⟨o,vs,e1,e2,e3,e4⟩ k=>⟨o,vs,k o e1,e2,e3,e4⟩⟩
 have J7:Inv X ke σ' (upd H' a (bL a C')) {s1 with heap:=V}:=J6.track ha ap dr;refine lO (X:=zR X (.ref a)) (i:=i) (v:=.ref a) (J7.intoSuite (.ref a)) hN hi (.inl hl) rfl (fun s7 J8=>?_) (.inr hl);refine iq (PD J6.ok hi hl c9 dD hc hA cj J8 (by rw [J.len];exact (ae.mp hi).1) (h3 a ha) b7 cN he hpl fun H2 s2 e h9 J2 cC kp ⟨o,dT,t9,c1,c2,c3,c4,c5,c6⟩ q2=>?_);obtain ⟨Y,bt⟩:=uF J2 a8 cC;have J9:Inv X ke (σ'.set i (some (.ref a))) H2 {s2 with heap:=h9}:=J2.fly l O (fun b o q _ _=>kp b o q) fun b o q _=>⟨o.slots,kp b o q⟩
 have b0:h9.FunFrames X.base (X.env::X.outer):=by rw [<- l];exact J9.stack
 have de:j8 X.stack=j8 (X.env::X.outer):=by rw [l]
 generalize hL:e::j8 (X.env::X.outer)=L;have dn:∀a9∈(X.env::X.outer),∀b,a9.frame=some b->b∈L:=fun a9 he b hb=>by rw [<- hL];exact aF _ (cw.mpr ⟨a9,he,hb⟩)
 show wpAny _ _ (noteFrame (.ref e) X.env) _ _ _;unfold noteFrame;simp only [O];refine ad (bc c1 c3 c6 ?_);rw [if_neg (by decide)];refine wpAny_entryW (base:=PySem.W.hideAll h9 L) (outer:=X.outer) a5 (ij b0 dn) O c1 (fun b o z=>ft _ z) (fi L (by rw [<- hL];simp)) c3 (by lia) c5 fun cn nt=>?_
 obtain ⟨n1,n2,⟨b2,v9,T,oT,ts,g1,⟨g2,g3⟩,g4,g5,g6,g7,g8,g9,ce⟩,n4⟩:=nt;have b4:Tr1 cn e T (.ref C1):=⟨⟨b2,v9,_,g1,g2.trans c2,g4,g3,g5⟩,g7,oT,ts,g8,g9,(bo.mp ce).1⟩;have be:∀b,b∉j8 (X.env::X.outer)->b≠e->b∉L:=fun b x y z=>by
  rw [<- hL] at z
  rcases aj.mp z with z|z
  ·exact y z
  ·exact x z
 have df:h9.get? T=none:=by
  cases r:h9.get? T with
  |none=>rfl
  |some v =>
   have:=dz L r (be T (b4.ne n2).2 g7);rw [g6] at this;cases this
 obtain ⟨Z,a4⟩:=uF J9 a8 df;have cR:Inv X ke (σ'.set i (some (.ref a))) H2 {s2 with heap:=cn}:=J9.fly l O (fun b o q nf z=>n1 b o (dz _ q (be b (by rw [<- de];exact nf) fun v=>?_))) n4
 case refine_1 =>
  subst v
  rcases z with z|⟨o',z⟩|⟨p,hp,z⟩
  ·exact z bt
  ·have:=Y.1;rw [z] at this;cases this
  ·exact Y.2.2.2 p hp z
 refine PP (X:=X) cR hN hi hl fun dp c7 sb=>?_
 have eL:e≠X.env.locals:=Y.2.1;have TL:T≠X.env.locals:=Z.2.1;have cv:Tr1 dp.heap e T (.ref C1):=⟨⟨b2,v9,_,(sb.2 e eL).trans g1,g2.trans c2,g4,g3,g5⟩,g7,oT,ts,(sb.2 T TL).trans g8,g9,(bo.mp ce).1⟩;unfold PySem.passOn;refine ad (bc ((sb.2 e eL).trans g1) g4 g5 ?_);rw [if_neg (by simp)];refine ad (CN c7 l O cv Z a4 fun dN cP ah b3=>wpAny_throw ?_);obtain ⟨⟨dO,d0,dV,u1,u2,u3,u4,u5⟩,u6,_⟩:=id ah;obtain ⟨dM,dK,w1,w2,w3⟩:=b3;rw [O] at w3;show wpAny _ _ (noteFrame (.ref e) X.env) _ _ _;unfold noteFrame;simp only [O];refine ad (bc u1 u3 u5 ?_);rw [if_pos (by simp)];refine ad (bc w1 w2 w3 ?_);rw [if_pos (by simp [rawInt])];refine aJ ?_;exact SM cP l O ah Z a4 fun dU cU cB=>cd _ _ _ _ _ _ _ cU cB Y Z bt a4 q2
section
variable {P:Program} {w:World} {K:PySem.W.Frag} {mg:Str->Option Value} {base:Heap}
theorem Fun.okC2 {x I:Str} {st:Stmt} {f:Addr} {J:FuncData} {N ps:List Str} {k:Nat} {sp:Sp} (F:Fun K x I st f J) (S:FnScope N ps (kF st))
  (h:∀vs H Q E,sp vs H Q E->vs.length=ps.length/\∀l A outer s,Room k (A.deeper (envOfC I (kF st) s.heap.objs.size f l))->∃t,PSs (qF (QN P w) P w K mg base N I (kF st) f l A outer s H E) (qZ st) t/\t {nx:=fun _ V=>Q .non V,rt:=Q} (start N vs) H):FnOk P w K mg base (QN P w) (k+1) f J ps sp:=by
 obtain ⟨oc,od,kV,O,pm,an,l,ct,Y,rfl,lk,G⟩:=F.ex;exact m6 lk G S (fun vs H Q E z=>(h vs H Q E z).1) fun A outer s H vs Q E Z D=>(h vs H Q E D).2 l A outer s Z
structure DefC (P:Program) (w:World) (K:PySem.W.Frag) (mg:Str->Option Value) (base:Heap) (k:Nat) (x:Str) (ps:List Str) (dvs:List V) (sp:Sp):Prop where
 ex:∃(f:Addr) (fd:FuncData) (ds:List Value),FnOk P w K mg base (QN P w) k f fd ps sp/\mg x=some (.ref f)/\PySem.W.keepIn K (.ref f)=true/\Vals dvs ds/\Binds K fd ps ds
theorem V9 {x:Str} {f:Addr} {h:FuncData} {ps:List Str} {k:Nat} {sp:Sp} (G:FnOk P w K mg base (QN P w) k f h ps sp) (m:mg x=some (.ref f)) (l:PySem.W.keepIn K (.ref f)=true) (b:Binds K h ps []):DefC P w K mg base k x ps [] sp:=⟨_,_,[],G,m,l,.nil,b⟩
end
def FU (X:Cx) (R:St->Value->Hp->Prop):Prop:=∀ke l H s e h,Inv X ke l H s->QN X.prog X.w X.stack H s (fun c _ D=>R l c D) e h->X.xe e h
theorem P5 (l:X.ex=[]):FU (zM X ke R) R:=by
 intro O F Y s1 e s2 I Z;obtain ⟨a,C,S,rfl,os,D,un,G,⟨B,a0,V,h⟩,ha,hs,q⟩:=Z;have E:Inv X ke F Y s1:=I.outTry;have J:Inv X ke F S s2:=E.call' (ch:=[]) os un G D fun b z=>absurd z (by simp)
 refine ⟨a,C,F,S,rfl,J,⟨B,a0,V,fun b o q n z=>h b o q n ?_⟩,ha,(uF E l hs).1,q⟩
 rcases z with z|⟨o',z⟩|⟨p,hp,rfl⟩
 ·exact .inl z
 ·exact .inr (E.base.there b o' z (by rw [l];simp))
 ·exact .inr ⟨_,(E.pin p hp).1⟩
theorem UW {k k':Nat} {x:Str} {ps:List Str} {dvs:List V} {sp:Sp} {p S:Pos} {e:Expr} (F:DefC X.prog X.w X.K X.mg X.base k x ps dvs sp) (hx:FU X R) (hr:Room k' X.A) (hg:Gl X x) (ha:PA X (e::es) t)
  (hk:k<=k':=by decide) (Y:(x == ("__debug__":Str))=false:=by decide) (he:starEach (e::es) X.env=(false,eval e X.env)::starEach es X.env:=by rfl) (hpl:(backTo S (starEach es X.env)).any (·.1)=false:=by rfl) :
  PE X (.Call (.Name x p) (e::es) [] S) (E6 sp dvs R t):=by
 obtain ⟨f,fd,O,G,m,kp,hv,b⟩:=F.ex;intro ke s σ H Q I h;refine em (QU I hg m ?_ Y);refine cx (h₀:=X.base) I.ok.mod.kin kp (jZ (ha S ke s σ H _ I h) fun D J ⟨vs,H1,E,r,q⟩=>⟨E.kIn,?_⟩) he hpl;have Z:Vals (vs++dvs) (D++O):=r.append hv;have hl:(D++O).length=ps.length:=by rw [<- Z.length];exact G.len _ _ _ _ q
 refine wpAny_call (hV (G.run X.A X.stack J H1 ⟨D,[]⟩ (D++O) (vs++dvs) Q _ (hr.mono hk) E.env0 (b J D E.kIn hl) Z q) fun r s' l=>?_);cases r with
 |error e=>exact hx ke σ H1 J e s' E l
 |ok fl =>
  cases fl with
  |ret u=>exact E.after l
  |next=>exact False.elim l
  |brk=>exact False.elim l
  |cont=>exact False.elim l
theorem FnOk.noC {P:Program} {w:World} {K:PySem.W.Frag} {I:Str->Option Value} {base:Heap} {k:Nat} {f:Addr} {J:FuncData} {ps:List Str} {sp sp':Sp} (F:FnOk P w K I base (QN P w) k f J ps sp) (h:∀vs H Q E,sp' vs H Q E->sp vs H Q (fun _ _ _=>False)):FnOk P w K I base jT k f J ps sp' :=
 ⟨fun vs H Q E q=>F.len vs H Q _ (h _ _ _ _ q),fun A l s H D Y vs Q E V O hb hv Z=>hV (F.run A l s H D Y vs Q _ V O hb hv (h _ _ _ _ Z)) fun r s' G=>by
  cases r with
  |ok S=>cases S<;>exact G
  |error e=>obtain ⟨_,_,_,_,_,_,_,_,_,_,_,z⟩:=G;exact z⟩
section
variable {P:Program} {w:World} {K:PySem.W.Frag} {mg:Str->Option Value} {base h:Heap} {x q:Str} {st:Stmt} {f:Addr} {fd:FuncData} {k:Nat} {sp:Sp} {p0 p1:Str}
theorem YV (X:K.In h) (G:h.Ns mainGlobals mg) (a:PySem.W.nsIn K mainGlobals x=some (some (.ref f))) (F:Fun K x q st f fd) (S:FnOk P w K mg base (QN P w) k f fd [p0,p1] sp) (O:∀(D l I:Value) (J:Option Addr) (E ct a0 a1:Value),bindArgs (PySem.W.fnOf x q (vQ st) (qZ st) (kF st) .none D l I J E ct) ⟨[a0,a1],[]⟩=pure ([p0,p1].zip [a0,a1]):=by intros;rfl):DefC P w K mg base k x [p0,p1] [] sp:=V9 S (aC X G a) F.kp (F.binds fun D l I J E ct=>JL (O D l I J E ct))
end
end L2
namespace My
open PySem L2 List
theorem zz0:0<=sizeLine:=by decide
theorem zz1:1<=sizeLine:=by decide
theorem zz2:2<=sizeLine:=by decide
theorem zz3:3<=sizeLine:=by decide
theorem zz4:4<=sizeLine:=by decide
theorem zz7:7<=sizeLine:=by decide
def top (i:Nat):Stmt:=PySem.Challenge.pw_lockhouse_k74_replayed_alike.main.body.getD i (.Pass ⟨0,0,0,0⟩)
abbrev rH:Stmt:=top 23
abbrev rB:Stmt:=top 25
abbrev pW:Stmt:=top 30
abbrev rR:Stmt:=top 29
abbrev iQ:Stmt:=top 27
abbrev rP:Stmt:=top 26
abbrev sE:Stmt:=top 28
abbrev iP:Stmt:=top 86
abbrev o3:Stmt:=qY (top 87) 0
abbrev oB:Stmt:=qY (top 88) 0
abbrev o6:Stmt:=qY (top 89) 0
abbrev o8:Stmt:=qY (top 83) 0
abbrev o4:Stmt:=qY (top 87) 1
abbrev oE:Stmt:=qY (top 88) 1
abbrev o7:Stmt:=qY (top 89) 1
abbrev o5:Stmt:=qY (top 87) 2
abbrev oF:Stmt:=qY (top 88) 2
abbrev bX:Stmt:=qY (top 84) 0
abbrev oZ:Stmt:=qY (top 84) 6
abbrev o0:Stmt:=qY (top 84) 7
abbrev oX:Stmt:=qY (top 84) 3
abbrev oS:Stmt:=qY (top 84) 4
abbrev oR:Stmt:=qY (top 84) 5
abbrev iF:Stmt:=qY (top 84) 8
abbrev oV:Stmt:=qY (top 84) 10
abbrev iE:Stmt:=qY (top 84) 9
abbrev iK:Stmt:=top 38
abbrev iM:Stmt:=top 39
abbrev iL:Stmt:=top 42
abbrev iI:Stmt:=top 41
abbrev rE:Stmt:=top 40
abbrev rT:Stmt:=top 15
abbrev pY:Stmt:=top 14
abbrev rV:Stmt:=top 20
abbrev rK:Stmt:=top 17
abbrev iN:Stmt:=top 18
abbrev pN:Stmt:=top 16
abbrev dJ:Stmt:=top 32
abbrev iS:Stmt:=top 33
abbrev pT:Stmt:=top 19
abbrev pZ:Stmt:=top 21
abbrev iO:Stmt:=top 53
abbrev pP:Stmt:=top 52
abbrev iJ:Stmt:=top 50
abbrev rC:Stmt:=top 48
abbrev pX:Stmt:=top 49
abbrev pU:Stmt:=top 47
abbrev pS:Stmt:=top 46
abbrev rZ:Stmt:=top 45
abbrev r9:Stmt:=top 44
abbrev rJ:Stmt:=top 51
abbrev rG:Stmt:=top 82
abbrev oY:Stmt:=qY (top 84) 1
abbrev oW:Stmt:=qY (top 84) 2
abbrev iR:Stmt:=top 64
abbrev oI:Stmt:=qY (top 77) 1
abbrev oP:Stmt:=qY (top 77) 4
abbrev oO:Stmt:=qY (top 77) 2
abbrev oQ:Stmt:=qY (top 77) 3
abbrev oN:Stmt:=qY (top 77) 5
abbrev oK:Stmt:=qY (top 77) 7
abbrev iD:Stmt:=qY (top 77) 6
abbrev oG:Stmt:=qY (top 77) 0
abbrev iT:Stmt:=top 57
abbrev pV:Stmt:=top 58
abbrev pO:Stmt:=top 66
abbrev rA:Stmt:=top 65
abbrev rM:Stmt:=top 62
abbrev rN:Stmt:=top 63
abbrev rL:Stmt:=top 61
abbrev pQ:Stmt:=top 67
abbrev rW:Stmt:=top 69
abbrev rY:Stmt:=top 68
abbrev rQ:Stmt:=top 71
abbrev pR:Stmt:=top 70
abbrev rF:Stmt:=top 37
abbrev rD:Stmt:=top 75
abbrev rX:Stmt:=top 72
abbrev rS:Stmt:=top 73
abbrev sF:Stmt:=top 74
abbrev oM:Stmt:=qY (top 77) 8
abbrev oH:Stmt:=qY (top 77) 9
abbrev oJ:Stmt:=qY (top 77) 10
abbrev rO:Stmt:=top 79
abbrev pC:Stmt:=top 91
abbrev pF:Stmt:=top 92
abbrev pK:Stmt:=top 93
abbrev iG:Stmt:=top 94
abbrev pG:Stmt:=top 95
abbrev pH:Stmt:=top 96
abbrev pE:Stmt:=top 97
abbrev pB:Stmt:=top 98
abbrev iH:Stmt:=top 99
abbrev pL:Stmt:=top 100
abbrev pD:Stmt:=top 101
abbrev pM:Stmt:=top 102
abbrev pI:Stmt:=top 103
abbrev o9:Stmt:=top 104
abbrev pJ:Stmt:=top 105
abbrev pA:Stmt:=top 106
abbrev Q8:Stmt:=top 107
abbrev fE (K:W.Frag) (x q:Str) (st:Stmt) (f:Addr):Prop:=∃h,Fun K x q st f h
variable {K:W.Frag} {H H':Hp} {a:Addr} {xs:List V}
theorem wX (e:Same H H') (h:SqT K H a xs):SqT K H' a xs:=by
 rcases h with (h|⟨o,h⟩)|h
 ·exact .inl (.inl (e _ _ h))
 ·exact .inl (.inr ⟨o,e _ _ h⟩)
 ·exact .inr h
theorem jL {p:Addr} (h:H p=none) (o:HO):Same H (upd H p o):=fun b u q=>by rw [jQ (qE q h)];exact q
variable {n:Nat}
theorem small (h:n<=1000):n<=sizeLine:=il (qX h)
def Ints (K:W.Frag) (H:Hp) (a:Addr) (h:List Int):Prop:=SqL K H a (h.map V.int)\/SqT K H a (h.map V.int)
theorem Ints.same {l:List Int} (e:Same H H') (h:Ints K H a l):Ints K H' a l:=by
 rcases h with h|h
 ·exact .inl (e.seq h)
 ·exact .inr (wX e h)
variable {s:Nat}
theorem bD (h:s<n):JM n (s:Int)=some s:=by
 unfold JM;rw [if_pos (by lia),if_pos (by lia)];simp
theorem yU {l:List Int} (h:s<l.length):vO (l.map V.int) (s:Int)=some (.int (l.getD s 0)):=by
 refine qH ?_;rw [ar,aa h,af,aa h];rfl
theorem SZ {p:Addr} {l:List Int} {Q:VK} (h:Ints K H p l) (D:s<l.length) (q:Q (.int (l.getD s 0)) H):nQ K (.ref p) (.int s) H Q:=by
 rcases h with h|h
 ·exact .inl ⟨p,_,s,_,rfl,rfl,h,yU D,q⟩
 ·exact .inr (.inl ⟨p,_,s,_,rfl,rfl,h,yU D,q⟩)
theorem dQ (h:List Int) (s:Nat) (z:Int):(h.map V.int).set s (V.int z)=(h.set s z).map V.int:=by rw [map_set]
theorem tH (l:List Int):(l.map V.int).all vZ=true:=by
 rw [dm];intro x h;obtain ⟨z,_,rfl⟩:=gc.mp h;rfl
def cL (K:W.Frag):Sp:=fun l H Q _=>∃a,∃(h:List Int),l=[.ref a]/\SqL K H a (h.map V.int)/\h.length<=63/\∀H',Q (.bl true) H'
def pour (h:List Int) (q:Nat×Nat×Int):List Int:=(h.set q.1 (h.getD q.1 0 - q.2.2)).set q.2.1 ((h.set q.1 (h.getD q.1 0 - q.2.2)).getD q.2.1 0+q.2.2)
theorem AY (h:List Int) (q:Nat×Nat×Int):(pour h q).length=h.length:=by unfold pour;rw [bf,bf]
def k7 (l:List Int) (h:List (Nat×Nat×Int)):List Int:=h.foldl pour l
theorem QA (l:List (Nat×Nat×Int)):∀h:List Int,(k7 h l).length=h.length:=by
 induction l with
 |nil=>intro h;rfl
 |cons q r D=>intro h;show (k7 (pour h q) r).length=_;rw [D,AY]
theorem N9 (l:List Int) (h:List (Nat×Nat×Int)) (q:Nat×Nat×Int):k7 l (h++[q])=pour (k7 l h) q:=by
 unfold k7;rw [foldl_append];rfl
theorem i4 (D:List Int) (l:List (Nat×Nat×Int)) (i:Nat) (q:Nat×Nat×Int) (h:l[i]?=some q):k7 D (l.take (i+1))=pour (k7 D (l.take i)) q:=by
 rw [aV,h];exact N9 ..
def E3 (K:W.Frag) (H:Hp) (l:List V) (h:List (Nat×Nat×Int)) (n:Nat):Prop :=
 l.length=h.length/\∀(i:Nat) r,l[i]?=some r->∃a,∃(s t:Nat) (m:Int),r=.ref a/\h[i]?=some (s,t,m)/\SqT K H a [.int s,.int t,.int m]/\s<n/\t<n
def gJ (K:W.Frag):Sp:=fun E H Q _=>∃w p h D l,E=[.ref w,.ref p]/\Ints K H w h/\SqL K H p D/\E3 K H D l h.length/\h.length<=1000/\
 ∀r H',Same H H'->H r=none->H' r=some (.tup ((k7 h l).map V.int))->Q (.ref r) H'
def Keep (d:Addr) (H H':Hp):Prop:=∀b o,b≠d->H b=some o->H' b=some o
theorem Keep.refl (d:Addr) (H:Hp):Keep d H H:=fun _ _ _ q=>q
variable {d:Addr}
theorem Keep.of (s:Same H H'):Keep d H H':=fun b o _ q=>s b o q
theorem Keep.trans {h l:Hp} (a:Keep d H h) (b:Keep d h l):Keep d H l:=fun c o n q=>b c o n (a c o n q)
theorem Keep.upd (k:Keep d H H') (o:HO):Keep d H (upd H' d o):=fun b u n q=>by rw [jQ n];exact k b u n q
variable {ys:List V}
theorem Keep.sqt (k:Keep d H H') (l:H d=some (.lst ys)) (h:SqT K H a xs):SqT K H' a xs:=by
 rcases h with (h|⟨o,h⟩)|h
 ·exact .inl (.inl (k _ _ (yC h l (fun z=>nomatch z)) h))
 ·exact .inl (.inr ⟨o,k _ _ (yC h l (fun z=>nomatch z)) h⟩)
 ·exact .inr h
def ZE:Str:="abcdefghijklmnopqrstuvwxyz"
def yW (n h l r:V):List (Str×V):=jS "room" r (jS "low" l (jS "high" h (jS "name" n [])))
theorem W7:¬(("name":Str)="high"):=by trivial
theorem W6:¬(("name":Str)="low"):=by trivial
theorem W5:¬(("name":Str)="room"):=by trivial
theorem XA:¬(("high":Str)="low"):=by trivial
theorem W9:¬(("high":Str)="room"):=by trivial
theorem W8:¬(("low":Str)="room"):=by trivial
theorem U7 (n h l r:V):(yW n h l r).lookup ("name":Str)=some n:=by
 unfold yW;rw [yG,if_neg W5,yG,if_neg W6,yG,if_neg W7,yG,if_pos rfl]
theorem U8 (n h l r:V):(yW n h l r).lookup ("high":Str)=some h:=by
 unfold yW;rw [yG,if_neg W9,yG,if_neg XA,yG,if_pos rfl]
theorem WB (n h l r:V):(yW n h l r).lookup ("low":Str)=some l:=by
 unfold yW;rw [yG,if_neg W8,yG,if_pos rfl]
theorem U6 (n h l r:V):(yW n h l r).lookup ("room":Str)=some r:=by
 unfold yW;rw [yG,if_pos rfl]
variable {m:Str}
theorem GA (n h l r:V) (E:¬m="room") (D:¬m="low") (G:¬m="high") (F:¬m="name"):(yW n h l r).lookup m=none:=by
 unfold yW;rw [yG,if_neg E,yG,if_neg D,yG,if_neg G,yG,if_neg F];rfl
def PartsAt (H:Hp) (h:List V) (ps:List (Str×Int)):Prop:=h.length=ps.length/\∀(i:Nat) r,h[i]?=some r->∃a s,∃(n:Int),r=.ref a/\ps[i]?=some (s,n)/\H a=some (.tup [.str s,.int n])
theorem PartsAt.nil:PartsAt H [] []:=⟨rfl,fun i r h=>by cases h⟩
variable {rs:List V}
theorem PartsAt.keep {ps:List (Str×Int)} (k:Keep d H H') (G:H d=some (.lst ys)) (h:PartsAt H rs ps):PartsAt H' rs ps:=by
 refine ⟨h.1,fun i r E=>?_⟩;obtain ⟨a,s,n,F,D,l⟩:=h.2 i r E;exact ⟨a,s,n,F,D,k _ _ (yC l G (fun z=>nomatch z)) l⟩
theorem PartsAt.snoc {ps:List (Str×Int)} {s:Str} {n:Int} (h:PartsAt H rs ps) (O:H a=some (.tup [.str s,.int n])):PartsAt H (rs++[.ref a]) (ps++[(s,n)]):=by
 refine ⟨by rw [ag,ag,h.1];rfl,fun i r l=>?_⟩
 by_cases D:i<rs.length
 ·rw [aG D] at l;obtain ⟨b,J,G,I,F,S⟩:=h.2 i r l;exact ⟨b,J,G,I,by rw [aG (by rw [<- h.1];exact D)];exact F,S⟩
 ·rw [aA (by lia)] at l;have E:i - rs.length=0:=by
   have:=(ae.mp l).1;rw [ax] at this
   lia
  rw [E] at l;have e:V.ref a=r:=ay l;refine ⟨a,s,n,e.symm,?_,O⟩;rw [aA (by rw [<- h.1];lia),<- h.1,E];rfl
def zF (q:Str×Int):Bool := !decide (q.2=0)
def eH (K:W.Frag):Sp:=fun D H Q _=>∃(p:Addr) (rs:List V) (l:List (Str×Int)),D=[.ref p]/\SqL K H p rs/\PartsAt H rs l/\rs.length<=10/\
 ∀r H' h,Same H H'->H r=none->H' r=some (.lst h)->PartsAt H' h (l.filter zF)->Q (.ref r) H'
def eG (e:Str) (n h l r v:V):List (Str×V):=jS e v (yW n h l r)
theorem uW (e:Str) (n h l r v:V):(eG e n h l r v).lookup e=some v:=by
 unfold eG;rw [yG,if_pos rfl]
theorem EA {e:Str} (D:¬m=e) (n h l r v:V):(eG e n h l r v).lookup m=(yW n h l r).lookup m:=by
 unfold eG;rw [yG,if_neg D]
theorem BO (n h l r:V):(yW n h l r).length<1000:=by
 have E:=zO "high" h (jS "name" n []);have D:=zO "low" l (jS "high" h (jS "name" n []));have G:=zO "room" r (jS "low" l (jS "high" h (jS "name" n [])));have F:(jS ("name":Str) n []).length=1:=rfl;unfold yW
 lia
def wv (b:Bool):V:=if b then .str "up" else .str "down"
theorem WP:¬(V.str "down"=V.str "up"):=fun h=>absurd (V.str.inj h) (by trivial)
def jG (h D l:Addr):Kd->Addr
 |.plain=>h
 |.basin=>D
 |.pump=>l
def ZI (D:Kd) (n h l r v:V):List (Str×V):=match D with
 |.plain=>yW n h l r
 |.basin=>eG "side" n h l r v
 |.pump=>eG "lift" n h l r v
theorem eF (D:Kd) (n h l r v:V) (F:¬m="side") (E:¬m="lift"):(ZI D n h l r v).lookup m=(yW n h l r).lookup m:=by
 cases D
 ·rfl
 ·exact EA F _ _ _ _ _
 ·exact EA E _ _ _ _ _
theorem wG (D:Kd) (n h l r v:V):(ZI D n h l r v).lookup ("name":Str)=some n:=by rw [eF D _ _ _ _ _ (by trivial) (by trivial)];exact U7 ..
theorem wH (D:Kd) (n h l r v:V):(ZI D n h l r v).lookup ("high":Str)=some h:=by rw [eF D _ _ _ _ _ (by trivial) (by trivial)];exact U8 ..
theorem wT (D:Kd) (n h l r v:V):(ZI D n h l r v).lookup ("low":Str)=some l:=by rw [eF D _ _ _ _ _ (by trivial) (by trivial)];exact WB ..
theorem gA (D:Kd) (n h l r v:V):(ZI D n h l r v).lookup ("room":Str)=some r:=by rw [eF D _ _ _ _ _ (by trivial) (by trivial)];exact U6 ..
theorem VD (D:Kd) (n h l r v:V):(ZI D n h l r v).lookup ("fill_parts":Str)=none:=by rw [eF D _ _ _ _ _ (by trivial) (by trivial)];exact GA _ _ _ _ (by trivial) (by trivial) (by trivial) (by trivial)
theorem WJ (D:Kd) (n h l r v:V):(ZI D n h l r v).lookup ("let_parts":Str)=none:=by rw [eF D _ _ _ _ _ (by trivial) (by trivial)];exact GA _ _ _ _ (by trivial) (by trivial) (by trivial) (by trivial)
def LockAt (cs:Kd->Addr) (H:Hp) (x:Addr) (E:Kd) (n h l:V) (D v:Int):Prop:=∃F:Addr,H x=some (.ins (cs E) F (ZI E n h l (.int D) (.int v)))
variable {cs:Kd->Addr} {x:Addr}
theorem LockAt.same {E:Kd} {n h l:V} {D v:Int} (e:Same H H') (a:LockAt cs H x E n h l D v):LockAt cs H' x E n h l D v:=by
 obtain ⟨F,a⟩:=a;exact ⟨F,e _ _ a⟩
def bK (l:Kd) (h v b:Int):List (Str×Int):=match l with
 |.plain=>([("high",h)]:List (Str×Int)).filter zF
 |.basin=>([("basin",b),("high",h - b)]:List (Str×Int)).filter zF
 |.pump=>([("low",v),("high",h - v)]:List (Str×Int)).filter zF
def Q5 (l:Kd) (h v b:Int):List (Str×Int):=match l with
 |.basin=>([("basin",v - b),("low",h - (v - b))]:List (Str×Int)).filter zF
 |_=>([("low",h)]:List (Str×Int)).filter zF
theorem CO (l:Kd) (h v b:Int):(bK l h v b).length<=2:=by
 cases l
 ·exact aI (br _ _) (by show 1<=2;decide)
 ·exact aI (br _ _) (by show 2<=2;decide)
 ·exact aI (br _ _) (by show 2<=2;decide)
theorem DR (l:Kd) (h v b:Int):(Q5 l h v b).length<=2:=by
 cases l
 ·exact aI (br _ _) (by show 1<=2;decide)
 ·exact aI (br _ _) (by show 2<=2;decide)
 ·exact aI (br _ _) (by show 1<=2;decide)
def JO (cs:Kd->Addr) (F:Kd->Int->Int->Int->List (Str×Int)) (E:Kd):Sp:=fun G H Q _=>∃x n h l,∃(D v b:Int),G=[.ref x,.int b]/\LockAt cs H x E n h l D v/\
 ∀r H' rs,Same H H'->H r=none->H' r=some (.lst rs)->PartsAt H' rs (F E D v b)->Q (.ref r) H'
def UI (cs:Kd->Addr):Sp:=fun E H Q _=>∃F x n h l,∃(D v b:Int),E=[.ref x,.int b]/\LockAt cs H x F n h l D v/\
 ∀r H' rs,Same H H'->H r=none->H' r=some (.lst rs)->PartsAt H' rs (([("low",D)]:List (Str×Int)).filter zF)->Q (.ref r) H'
def d6 (cs:Kd->Addr):Sp:=fun F H Q _=>∃D x E n h l r,F=[.ref x,n,h,l,r]/\H x=some (.ins (cs D) E [])/\∀H':Hp,Keep x H H'->H' x=some (.ins (cs D) E (yW n h l r))->Q .non H'
def dZ (cs:Kd->Addr) (D:Kd):Sp:=fun F H Q _=>∃x E n h l r v,F=[.ref x,n,h,l,r,v]/\H x=some (.ins (cs D) E [])/\∀H':Hp,Keep x H H'->H' x=some (.ins (cs D) E (ZI D n h l r v))->Q .non H'
def PoursS (H:Hp) (rs:List V) (ps:List (Str×Str×Int)):Prop:=rs.length=ps.length/\∀(i:Nat) r,rs[i]?=some r->∃a s t,∃(n:Int),r=.ref a/\ps[i]?=some (s,t,n)/\H a=some (.tup [.str s,.str t,.int n])
theorem PoursS.nil:PoursS H [] []:=⟨rfl,fun i r h=>by cases h⟩
variable {ps:List (Str×Str×Int)}
theorem PoursS.same (e:Same H H') (h:PoursS H rs ps):PoursS H' rs ps:=by
 refine ⟨h.1,fun i r D=>?_⟩;obtain ⟨a,s,t,n,E,l,F⟩:=h.2 i r D;exact ⟨a,s,t,n,E,l,e _ _ F⟩
theorem PoursS.keep (k:Keep d H H') (G:H d=some (.lst ys)) (h:PoursS H rs ps):PoursS H' rs ps:=by
 refine ⟨h.1,fun i r E=>?_⟩;obtain ⟨a,s,t,n,F,D,l⟩:=h.2 i r E;exact ⟨a,s,t,n,F,D,k _ _ (yC l G (fun z=>nomatch z)) l⟩
theorem PoursS.append {D:List V} {l:List (Str×Str×Int)} (h:PoursS H rs ps) (h':PoursS H D l):PoursS H (rs++D) (ps++l):=by
 refine ⟨by rw [ag,ag,h.1,h'.1],fun i r E=>?_⟩
 by_cases Y:i<rs.length
 ·rw [aG Y] at E;obtain ⟨b,O,F,I,J,G,S⟩:=h.2 i r E;exact ⟨b,O,F,I,J,by rw [aG (by rw [<- h.1];exact Y)];exact G,S⟩
 ·rw [aA (by lia)] at E;obtain ⟨b,O,F,I,J,G,S⟩:=h'.2 _ r E;exact ⟨b,O,F,I,J,by rw [aA (by rw [<- h.1];lia),<- h.1];exact G,S⟩
theorem PoursS.one {s t:Str} {n:Int} (l:H a=some (.tup [.str s,.str t,.int n])):PoursS H [.ref a] [(s,t,n)]:=by
 refine ⟨rfl,fun i r h=>?_⟩;cases i with
 |zero=>exact ⟨a,s,t,n,(ay h).symm,rfl,l⟩
 |succ i=>cases h
def zV (l:Kd) (h v b:Int):List (Str×Str×Int):=(bK l h v b).map fun p=>(p.1,"chamber",p.2)
def zB (l:Kd) (h v b:Int):List (Str×Str×Int):=(Q5 l h v b).map fun p=>("chamber",p.1,p.2)
theorem fQ (l:Kd) (h v b:Int):(zV l h v b).length<=2:=by unfold zV;rw [ac];exact CO ..
theorem cE (l:Kd) (h v b:Int):(zB l h v b).length<=2:=by unfold zB;rw [ac];exact DR ..
def ZQ (p:Str×Str×Int->Bool) (h:List (Str×Str×Int)):List Int:=(h.filter p).map (·.2.2)
theorem BT (p:Str×Str×Int->Bool) (l:List (Str×Str×Int)) (i:Nat) (q:Str×Str×Int) (h:l[i]?=some q):ZQ p (l.take (i+1))=ZQ p (l.take i)++(if p q=true then [q.2.2] else []):=by
 unfold ZQ;rw [aV,h];simp only [Option.toList,ii,aK]
 by_cases c:p q=true
 ·rw [if_pos c];simp [c]
 ·rw [if_neg c];simp [c]
theorem C5 (p:Str×Str×Int->Bool) (h:List (Str×Str×Int)) (i:Nat):(ZQ p (h.take i)).length<=i:=by
 unfold ZQ;rw [ac];exact aI (br _ _) (hJ _ _)
def gU (s:Str) (q:Str×Str×Int):Bool:=decide (q.1=s)
def toS (s:Str) (q:Str×Str×Int):Bool:=decide (q.2.1=s)
def FQ (s:Str) (h:List (Str×Str×Int)):Int:=(ZQ (gU s) h).sum
def QX (b:Int) (h:List (Str×Str×Int)):Int:=b+(ZQ (toS "basin") h).sum - FQ "basin" h
theorem DY (s t:Str):decide (V.str s=V.str t)=decide (s=t):=decide_eq_decide.mpr ⟨V.str.inj,fun e=>by rw [e]⟩
def fT (cs:Kd->Addr) (F:Kd->Int->Int->Int->List (Str×Str×Int)):Sp:=fun G H Q _=>∃x E n h l,∃(D v b:Int),G=[.ref x,.int b]/\LockAt cs H x E n h l D v/\
 ∀r H' rs,Same H H'->H r=none->H' r=some (.lst rs)->PoursS H' rs (F E D v b)->Q (.ref r) H'
def EE:Sp:=fun l H Q _=>∃s p rs h,l=[.str s,.ref p]/\H p=some (.lst rs)/\PoursS H rs h/\rs.length<=999/\∀H',Same H H'->Q (.int (FQ s h)) H'
def EG:Sp:=fun l H Q _=>∃(b:Int),∃p rs h,l=[.int b,.ref p]/\H p=some (.lst rs)/\PoursS H rs h/\rs.length<=999/\∀H',Same H H'->Q (.int (QX b h)) H'
def mT (l:Kd) (h v:Int) (f:Bool) (b:Int) (w:Bool):List (Str×Str×Int):=match w,f with
 |true,true=>zB l h v b++zV l h v (QX b (zB l h v b))
 |true,false=>zV l h v b
 |false,true=>zB l h v b
 |false,false=>zV l h v b++zB l h v (QX b (zV l h v b))
theorem BU (b:Int):QX b []=b:=by show b+0 - 0=b;lia
theorem CH (l:Kd) (h v:Int) (f:Bool) (b:Int) (w:Bool):(mT l h v f b w).length<=4:=by
 have D:=fun b=>fQ l h v b
 have E:=fun b=>cE l h v b
 cases w<;>cases f
 ·show (zV l h v b++zB l h v (QX b (zV l h v b))).length<=4;rw [ag];have:=D b;have:=E (QX b (zV l h v b));lia
 ·exact aI (E b) (by decide)
 ·exact aI (D b) (by decide)
 ·show (zB l h v b++zV l h v (QX b (zB l h v b))).length<=4;rw [ag];have:=E b;have:=D (QX b (zB l h v b));lia
def CA (cs:Kd->Addr):Sp:=fun F H Q _=>∃x E n h l,∃(D v b:Int),∃f w,F=[.ref x,.bl f,.int b,wv w]/\LockAt cs H x E n h l D v/\
 ∀r H' rs,Same H H'->H r=none->H' r=some (.lst rs)->PoursS H' rs (mT E D v f b w)->Q (.ref r) H'
variable {α:Type} {i:Nat}
theorem AR {l:Type} {f:α->l} {ps:List α} {p:α} (h:ps[i]?=some p):(ps.take (i+1)).map f=(ps.take i).map f++[f p]:=by
 rw [aV,h,aK];rfl
def ZN (c m:Int):Int:=if m - c>0 then m - c else 0
def bE (h:List (Int×Nat)) (i:Nat):Int:=(h.getD i (0,0)).1
def qL (h:List (Int×Nat)) (i:Nat):Nat:=(h.getD i (0,0)).2
def WeirsAt (K:W.Frag) (H:Hp) (rs:List V) (h:List (Int×Nat)) (n:Nat):Prop :=
 rs.length=h.length/\∀(i:Nat) r,rs[i]?=some r->∃a,∃(c:Int) (t:Nat),r=.ref a/\h[i]?=some (c,t)/\SqT K H a [.int c,.int t]/\t<n
def nE (R:Nat) (h:List (Int×Nat)):Prop:=∀(i:Nat) (c:Int) (t:Nat),h[i]?=some (c,t)->t<i\/R<=t
variable {ws:List (Int×Nat)}
theorem WeirsAt.same (e:Same H H') (h:WeirsAt K H rs ws n):WeirsAt K H' rs ws n:=by
 refine ⟨h.1,fun i r D=>?_⟩;obtain ⟨a,c,t,E,l,G,F⟩:=h.2 i r D;exact ⟨a,c,t,E,l,wX e G,F⟩
theorem lF (h:WeirsAt K H rs ws n) (E:i<ws.length):∃a,vO rs (i:Int)=some (V.ref a)/\SqT K H a [.int (bE ws i),.int (qL ws i)]/\qL ws i<n:=by
 have l:i<rs.length:=by rw [h.1];exact E
 obtain ⟨a,c,t,F,D,I,G⟩:=h.2 i rs[i] (aa l);have e:ws.getD i (0,0)=(c,t):=by rw [af,D];rfl
 refine ⟨a,qH (by rw [aa l,F]),?_,?_⟩
 ·unfold bE qL;rw [e];exact I
 ·unfold qL;rw [e];exact G
theorem UB {R:Nat} (h:nE R ws) (l:i<ws.length):qL ws i<i\/R<=qL ws i:=by
 have e:ws[i]?=some ((ws.getD i (0,0)).1,(ws.getD i (0,0)).2):=by rw [af,aa l];rfl
 exact h i _ _ e
def FD (K:W.Frag):Sp:=fun F H Q _=>∃E D rs ws,∃(n:Nat),∃l,∃(h:Nat),F=[.ref E,.ref D,.int h]/\SqL K H E rs/\WeirsAt K H rs ws n/\Ints K H D l/\h<ws.length/\h<l.length/\
 Q (.int (ZN (bE ws h) (l.getD h 0))) H
def yX (t:Nat->Nat) (g:Nat->Int) (j:Nat):Nat->Int
 |0=>0
 |a+1=>yX t g j a+(if t a=j then g a else 0)
theorem BB {t:Nat->Nat} {g g':Nat->Int} {j:Nat}:∀{R:Nat},(∀a,a<R->t a=j->g a<=g' a)->yX t g j R<=yX t g' j R
 |0,_=>Int.le_refl _
 |R+1,h=>by
  show yX t g j R+_<=yX t g' j R+_;have l:=BB (R:=R) fun a D=>h a (by lia)
  by_cases c:t R=j
  ·rw [if_pos c,if_pos c];have:=h R (by lia) c
   lia
  ·rw [if_neg c,if_neg c]
   lia
theorem BA (t:Nat->Nat) (j:Nat):∀R:Nat,yX t (fun _=>0) j R=0
 |0=>rfl
 |R+1=>by
  show yX t (fun _=>0) j R+_=0;rw [BA t j R]
  split<;>rfl
theorem BQ {t:Nat->Nat} {g g':Nat->Int} {i:Nat} (h:∀a,a≠i->g' a=g a) (j:Nat):∀{R:Nat},yX t g' j R=yX t g j R+(if i<R/\t i=j then g' i - g i else 0)
 |0=>by
  show (0:Int)=0+_;rw [if_neg (by lia)];rfl
 |R+1=>by
  show yX t g' j R+(if t R=j then g' R else 0)=yX t g j R+(if t R=j then g R else 0)+(if i<R+1/\t i=j then g' i - g i else 0);rw [BQ h j (R:=R)]
  by_cases l:i=R
  ·subst l
   repeat' split
   all_goals lia
  ·rw [h R (fun e=>l e.symm)]
   repeat' split
   all_goals lia
def gC (R:Nat) (c:Nat->Int) (t:Nat->Nat) (m:Nat->Int) (g:Nat->Int):Prop:=∀i,i<R->g i=ZN (c i) (m i+yX t g i R)
def gI (R:Nat) (t:Nat->Nat):Prop:=∀a,a<R->t a<a\/R<=t a
theorem PL {c m l:Int} (h:m<=l):ZN c m<=ZN c l:=by
 unfold ZN
 split<;>split<;>lia
variable {g:Nat->Int}
theorem BI {R:Nat} {c:Nat->Int} {t:Nat->Nat} {m F g':Nat->Int} (O:gI R t) (G:∀i,i<R->m i<=F i) (h:gC R c t m g) (h':gC R c t F g'):∀k,k<=R->∀i,R - k<=i->i<R->g i<=g' i:=by
 intro k
 induction k with
 |zero=>intro _ i I l;lia
 |succ k D =>
  intro V i I l
  by_cases e:R - k<=i
  ·exact D (by lia) i e l
  ·have S:i=R - (k+1):=by lia
   rw [h i l,h' i l];refine PL ?_;have:=BB (t:=t) (g:=g) (g':=g') (j:=i) (R:=R) fun a E J=>D (by lia) a (by have:=O a E;lia) E
   have:=G i l
   lia
theorem N7 {R:Nat} {c:Nat->Int} {t:Nat->Nat} {m g':Nat->Int} (D:gI R t) (h:gC R c t m g) (h':gC R c t m g') (l:i<R):g i=g' i:=by
 have F:=BI D (fun i _=>Int.le_refl (m i)) h h' R (ak _) i (by lia) l;have E:=BI D (fun i _=>Int.le_refl (m i)) h' h R (ak _) i (by lia) l
 lia
def after (R:Nat) (t:Nat->Nat) (m g:Nat->Int) (j:Nat):Int:=m j+yX t g j R - (if j<R then g j else 0)
def ZV:List (Nat×Nat×Int)->Nat->Int
 |[],_=>0
 |q::r,j=>(if q.2.1=j then q.2.2 else 0) - (if q.1=j then q.2.2 else 0)+ZV r j
theorem fL (l:List Int) (i j:Nat) (z:Int) (h:i<l.length):(l.set i z).getD j 0=if i=j then z else l.getD j 0:=by
 rw [af,af]
 by_cases e:i=j
 ·subst e;rw [cg h,if_pos rfl];rfl
 ·rw [fj e,if_neg e]
theorem RT (h:List Int) (q:Nat×Nat×Int) (j:Nat) (l:q.1<h.length) (D:q.2.1<h.length):(pour h q).getD j 0=h.getD j 0+((if q.2.1=j then q.2.2 else 0) - (if q.1=j then q.2.2 else 0)):=by
 unfold pour;rw [fL _ _ _ _ (by rw [bf];exact D),fL _ _ _ _ l,fL _ _ _ _ l]
 by_cases a:q.2.1=j
 ·rw [if_pos a,if_pos a];rw [a]
  by_cases b:q.1=j
  ·rw [if_pos b,if_pos b];rw [b];lia
  ·rw [if_neg b,if_neg b];lia
 ·rw [if_neg a,if_neg a]
  by_cases b:q.1=j
  ·rw [if_pos b,if_pos b];rw [b];lia
  ·rw [if_neg b,if_neg b];lia
theorem tI:∀(D:List (Nat×Nat×Int)) (l:List Int) (j:Nat),(∀q∈D,q.1<l.length/\q.2.1<l.length)->(k7 l D).getD j 0=l.getD j 0+ZV D j
 |[],l,j,_=>by
  show l.getD j 0=l.getD j 0+0
  lia
 |q::r,l,j,h=>by
  show (k7 (pour l q) r).getD j 0=_;obtain ⟨G,F⟩:=h q bq;rw [tI r (pour l q) j (fun x E=>by rw [AY];exact h x (aF _ E)),RT l q j G F];show _=l.getD j 0+((if q.2.1=j then q.2.2 else 0) - (if q.1=j then q.2.2 else 0)+ZV r j)
  lia
theorem mem_downs {a:Nat}:a∈zW n↔a<n:=by
 unfold zW;rw [mem_reverse,mem_range]
theorem dP (n:Nat):(zW n).length=n:=by
 unfold zW;rw [length_reverse,bw]
variable {k:Nat}
theorem CQ (h:k<n):(zW n)[k]?=some (n - 1 - k):=by
 unfold zW;rw [List.getElem?_reverse (by simpa using h),bw,cp (by lia)]
def yV (t:Nat->Nat) (g:Nat->Int) (R:Nat):List (Nat×Nat×Int):=(zW R).map fun a=>(a,t a,g a)
theorem DV {l D:List Int} (h:l.length=D.length) (e:∀j,j<l.length->l.getD j 0=D.getD j 0):l=D:=by
 apply ext_getElem h;intro i E F;have:=e i E;rw [af,af,aa E,aa F] at this;exact this
def QL (l:List Int) (ws:List (Int×Nat)) (h:List Int):List Int:=k7 l (yV (qL ws) (fun a=>h.getD a 0) ws.length)
def Spl (ws:List (Int×Nat)) (l h:List Int):Prop:=h.length=ws.length/\gC ws.length (bE ws) (qL ws) (fun j=>l.getD j 0) (fun a=>h.getD a 0)
variable {ms gs:List Int}
theorem Spl.unique {l:List Int} (D:gI ws.length (qL ws)) (h:Spl ws ms gs) (h':Spl ws ms l):gs=l:=by
 refine DV (by rw [h.1,h'.1]) fun j E=>?_
 exact N7 D h.2 h'.2 (by rw [<- h.1];exact E)
theorem lM (h:nE ws.length ws):gI ws.length (qL ws):=fun a l=>UB h l
theorem BV (h:WeirsAt K H rs ws n):∀a,a<ws.length->qL ws a<n:=fun a l=>let ⟨_,_,_,q⟩:=lF h l;q
structure SplInv (ws:List (Int×Nat)) (ms hs gs:List Int) (k:Nat):Prop where
 lh:hs.length=ms.length
 lg:gs.length=ws.length
 flow:∀j,j<ms.length->hs.getD j 0=ms.getD j 0+yX (qL ws) (fun a=>gs.getD a 0) j ws.length
 zero:∀a,a<ws.length - k->gs.getD a 0=0
 done:∀a,ws.length - k<=a->a<ws.length->gs.getD a 0=ZN (bE ws a) (ms.getD a 0+yX (qL ws) (fun a=>gs.getD a 0) a ws.length)
theorem SplInv.start (ws:List (Int×Nat)) (ms:List Int):SplInv ws ms ms (List.replicate ws.length 0) 0:=by
 have h:(fun a:Nat=>(List.replicate ws.length (0:Int)).getD a 0)=fun _=>0:=by
  funext a;rw [af,ie]
  split<;>rfl
 refine ⟨rfl,by simp,fun j _=>?_,fun a _=>congrFun h a,fun a l D=>by lia⟩;rw [h,BA]
 lia
theorem SplInv.step {G:List Int} (hA:gI ws.length (qL ws)) (hR:ws.length<=ms.length) (hk:k<ws.length) (S:qL ws (ws.length - 1 - k)<ms.length) (h:SplInv ws ms G gs k) :
  SplInv ws ms (G.set (qL ws (ws.length - 1 - k)) (G.getD (qL ws (ws.length - 1 - k)) 0+(gs.set (ws.length - 1 - k) (ZN (bE ws (ws.length - 1 - k)) (G.getD (ws.length - 1 - k) 0))).getD (ws.length - 1 - k) 0))
   (gs.set (ws.length - 1 - k) (ZN (bE ws (ws.length - 1 - k)) (G.getD (ws.length - 1 - k) 0))) (k+1):=by
 obtain ⟨i,hi⟩:∃i,i=ws.length - 1 - k:=⟨_,rfl⟩;rw [<- hi] at S ⊢;obtain ⟨O,V,F,E,done⟩:=h;have J:i<gs.length:=by rw [V];lia
 obtain ⟨v,Y⟩:∃v,v=ZN (bE ws i) (G.getD i 0):=⟨_,rfl⟩;rw [<- Y];have l:∀a,(gs.set i v).getD a 0=if i=a then v else gs.getD a 0:=fun a=>fL gs i a v J
 have g0:gs.getD i 0=0:=E i (by lia);have I:(gs.set i v).getD i 0=v:=by rw [l,if_pos rfl]
 have D:∀j,yX (qL ws) (fun a=>(gs.set i v).getD a 0) j ws.length=yX (qL ws) (fun a=>gs.getD a 0) j ws.length+(if qL ws i=j then v else 0):=fun j=>by
  rw [BQ (g:=fun a=>gs.getD a 0) (i:=i) (fun a Z=>by show (gs.set i v).getD a 0=gs.getD a 0;rw [l,if_neg (Ne.symm Z)]) j];show _+(if i<ws.length/\qL ws i=j then (gs.set i v).getD i 0 - gs.getD i 0 else 0)=_;rw [I,g0];have am:i<ws.length:=by lia
  repeat' split
  all_goals lia
 have ah:=hA i (by lia);refine ⟨by rw [bf,O],by rw [bf,V],fun j hj=>?_,fun a Z=>?_,fun a h1 h2=>?_⟩
 ·rw [fL _ _ _ _ (by rw [O];exact S),D,I];have:=F j hj
  by_cases e:qL ws i=j
  ·rw [if_pos e,if_pos e,e]
   lia
  ·rw [if_neg e,if_neg e]
   lia
 ·rw [l,if_neg (by lia)];exact E a (by lia)
 ·rw [D]
  by_cases e:i=a
  ·subst e;rw [I,if_neg (by lia),Int.add_zero,Y,F i (by lia)]
  ·rw [l,if_neg e,if_neg (by lia),Int.add_zero];exact done a (by lia) h2
theorem SplInv.spl {l:List Int} (h:SplInv ws ms l gs ws.length):Spl ws ms gs:=⟨h.lg,fun i D=>h.done i (by lia) D⟩
theorem DK (n:Nat):(List.replicate n [V.int 0]).flatten=(List.replicate n (0:Int)).map V.int:=by
 induction n with
 |zero=>rfl
 |succ n h =>
  rw [bu,fk,h,bu,gj];rfl
structure Ready (K:W.Frag) (H:Hp) (wq wa:Addr) (rs:List V) (ws:List (Int×Nat)) (ms:List Int):Prop where
 w:SqL K H wq rs
 a:WeirsAt K H rs ws ms.length
 m:Ints K H wa ms
 ah:nE ws.length ws
 le:ws.length<=ms.length
 sm:ms.length<=1000
theorem Ready.same {l D:Addr} (e:Same H H') (h:Ready K H l D rs ws ms):Ready K H' l D rs ws ms:=⟨e.seq h.w,h.a.same e,h.m.same e,h.ah,h.le,h.sm⟩
def wP (K:W.Frag):Sp:=fun l H Q _=>∃h rs,l=[.ref h]/\SqL K H h rs/\rs.length<=1000/\∀r H',Same H H'->H r=none->H' r=some (.lst ((zW rs.length).map fun (i:Nat)=>V.int (i:Int)))->Q (.ref r) H'
def DC (K:W.Frag):Sp:=fun D H Q _=>∃l h rs ws ms,D=[.ref l,.ref h]/\Ready K H l h rs ws ms/\
 ∀r H' gs,Same H H'->H r=none->H' r=some (.lst (gs.map V.int))->Spl ws ms gs->Q (.ref r) H'
def B7 (K:W.Frag):Sp:=fun D H Q _=>∃l h rs ws ms,D=[.ref l,.ref h]/\Ready K H l h rs ws ms/\
 ∀r H' gs,Same H H'->H r=none->H' r=some (.tup ((QL ms ws gs).map V.int))->Spl ws ms gs->Q (.ref r) H'
theorem DX {R:Nat} {x:V} (h:((zW R).map fun (i:Nat)=>V.int (i:Int))[i]?=some x):i<R/\x=V.int ((R - 1 - i:Nat):Int):=by
 rw [ar] at h
 by_cases l:i<R
 ·rw [CQ l] at h;exact ⟨l,(ay h).symm⟩
 ·rw [cr (by rw [dP];lia)] at h;cases h
theorem OH {t:Nat->Nat} {R:Nat} (h:i<R):(yV t g R)[i]?=some (R - 1 - i,t (R - 1 - i),g (R - 1 - i)):=by
 unfold yV;rw [ar,CQ h];rfl
def vA (q:Nat×Nat×Int):Bool := !decide (q.2.2=0)
theorem wE (j:Nat):∀l:List (Nat×Nat×Int),ZV (l.filter vA) j=ZV l j
 |[]=>rfl
 |q::r=>by
  rw [fq]
  by_cases h:q.2.2=0
  ·rw [if_neg (by unfold vA;rw [bi h];decide)];show ZV (r.filter vA) j=(if q.2.1=j then q.2.2 else 0) - (if q.1=j then q.2.2 else 0)+ZV r j;rw [wE j r,h]
   repeat' split
   all_goals lia
  ·rw [if_pos (by unfold vA;rw [aN h];rfl)];show _+ZV (r.filter vA) j=_+ZV r j;rw [wE j r]
variable {qs:List (Nat×Nat×Int)}
theorem PJ (h:∀q∈qs,q.1<ms.length/\q.2.1<ms.length):k7 ms (qs.filter vA)=k7 ms qs:=by
 refine DV (by rw [QA,QA]) fun j _=>?_
 rw [tI _ _ _ h,tI _ _ _ (fun q l=>h q (dh.mp l).1),wE]
theorem PB (E:ws.length<=n) (l:∀a,a<ws.length->qL ws a<n):∀q∈yV (qL ws) g ws.length,q.1<n/\q.2.1<n:=fun q h=>by
 obtain ⟨a,D,rfl⟩:=gc.mp h;have:=mem_downs.mp D;exact ⟨by show a<n;lia,l a this⟩
def PoursH (H:Hp) (rs:List V) (qs:List (Nat×Nat×Int)) (n:Nat):Prop:=rs.length=qs.length/\∀(i:Nat) r,rs[i]?=some r->∃a,∃(s t:Nat) (m:Int),r=.ref a/\qs[i]?=some (s,t,m)/\H a=some (.tup [.int s,.int t,.int m])/\s<n/\t<n
theorem PoursH.nil (H:Hp) (n:Nat):PoursH H [] [] n:=⟨rfl,fun i r h=>by cases h⟩
theorem PoursH.pa (h:PoursH H rs qs n):E3 K H rs qs n:=⟨h.1,fun i r D=>by
 obtain ⟨a,s,t,m,E,l,G,F⟩:=h.2 i r D;exact ⟨a,s,t,m,E,l,SqT.of G,F⟩⟩
theorem PoursH.same (h:PoursH H rs qs n) (e:Same H H'):PoursH H' rs qs n:=⟨h.1,fun i r D=>by
 obtain ⟨a,s,t,m,E,l,G,F⟩:=h.2 i r D;exact ⟨a,s,t,m,E,l,e _ _ G,F⟩⟩
variable {o:HO}
theorem PoursH.put (h:PoursH H rs qs n) (I:H d=some (.lst ys)):PoursH (upd H d o) rs qs n:=⟨h.1,fun i r E=>by
 obtain ⟨a,s,t,m,F,D,l,G⟩:=h.2 i r E;exact ⟨a,s,t,m,F,D,by rw [jQ (fun z=>by rw [z,I] at l;cases l)];exact l,G⟩⟩
theorem PoursH.append {D:List V} {l:List (Nat×Nat×Int)} (h:PoursH H rs qs n) (h':PoursH H D l n):PoursH H (rs++D) (qs++l) n:=by
 refine ⟨by rw [ag,ag,h.1,h'.1],fun i r E=>?_⟩
 by_cases J:i<rs.length
 ·rw [aG J] at E;obtain ⟨a,s,t,m,G,F,I⟩:=h.2 i r E;exact ⟨a,s,t,m,G,by rw [aG (by rw [<- h.1];exact J)];exact F,I⟩
 ·rw [aA (by lia)] at E;obtain ⟨a,s,t,m,G,F,I⟩:=h'.2 _ r E;exact ⟨a,s,t,m,G,by rw [aA (by rw [<- h.1];lia),<- h.1];exact F,I⟩
theorem PoursH.snoc {t:Nat} {m:Int} (h:PoursH H rs qs n) (D:H a=some (.tup [.int s,.int t,.int m])) (F:s<n) (E:t<n):PoursH H (rs++[.ref a]) (qs++[(s,t,m)]) n:=h.append ⟨rfl,fun i r l=>by
 rcases i with _|i
 ·cases l;exact ⟨a,s,t,m,rfl,rfl,D,F,E⟩
 ·cases l⟩
def uJ (K:W.Frag):Sp:=fun D H Q _=>∃l h rs ws ms,D=[.ref l,.ref h]/\Ready K H l h rs ws ms/\
 ∀r H' gs ys,Same H H'->H r=none->H' r=some (.lst ys)->PoursH H' ys ((yV (qL ws) (fun a=>gs.getD a 0) ws.length).filter vA) ms.length->Spl ws ms gs->Q (.ref r) H'
def lW (K:W.Frag):Sp:=fun D H Q _=>∃l h p rs ps ws ms qs,D=[.ref l,.ref h,.ref p]/\Ready K H l h rs ws ms/\H p=some (.lst ps)/\PoursH H ps qs ms.length/\ps.length<=500/\
 ∀r H' gs ys,Same H H'->H r=none->H' r=some (.lst ys)->PoursH H' ys (qs++(yV (qL ws) (fun a=>gs.getD a 0) ws.length).filter vA) ms.length->Spl ws (k7 ms qs) gs->Q (.ref r) H'
theorem OI (ws:List (Int×Nat)) (g:Nat->Int):((yV (qL ws) g ws.length).filter vA).length<=ws.length:=by
 refine aI (br ..) ?_;unfold yV;rw [ac,dP];exact ak _
structure RC where
 name:Str
 least:Int
 crest:Int
 berths:Int
 water:Int
 target:Int
def RC.good (r:RC) (n:Nat):Prop:=0<=r.least/\r.least<=r.crest/\r.crest<=999999999999/\1<=r.berths/\r.berths<=9/\0<=r.water/\r.water<=999999999999/\-1<=r.target/\r.target<(n:Int)
structure LC where
 name:Str
 high:Int
 low:Int
 room:Int
 kd:Kd
 extra:Int
def LC.good (l:LC) (n:Nat):Prop:=1<=l.high/\l.high<(n:Int)/\0<=l.low/\l.low<l.high/\1<=l.room/\l.room<=999999999999/\(l.kd=.plain->l.extra=0)/\(l.kd≠.plain->1<=l.extra/\l.extra<=l.room)
def AllAt {α:Type} (P:V->α->Prop) (vs:List V) (xs:List α):Prop:=vs.length=xs.length/\∀(i:Nat) v,vs[i]?=some v->∃x,xs[i]?=some x/\P v x
theorem AllAt.nil {P:V->α->Prop}:AllAt P [] ([]:List α):=⟨rfl,fun i v h=>by cases h⟩
variable {vs:List V}
theorem AllAt.mono {P P':V->α->Prop} {xs:List α} (m:∀v x,P v x->P' v x) (h:AllAt P vs xs):AllAt P' vs xs:=⟨h.1,fun i v E=>by obtain ⟨x,l,D⟩:=h.2 i v E;exact ⟨x,l,m v x D⟩⟩
variable {v:V}
theorem AllAt.snoc {P:V->α->Prop} {xs:List α} {x:α} (h:AllAt P vs xs) (E:P v x):AllAt P (vs++[v]) (xs++[x]):=by
 refine ⟨by rw [ag,ag,h.1];rfl,fun i w l=>?_⟩
 by_cases D:i<vs.length
 ·rw [aG D] at l;rw [aG (by rw [<- h.1];exact D)];exact h.2 i w l
 ·rw [aA (by lia)] at l;have e:i=vs.length:=by
   by_cases z:i - vs.length=0
   ·lia
   ·rw [cr (by show 1<=i - vs.length;lia)] at l;cases l
  rw [e,io] at l;cases l;refine ⟨x,?_,E⟩;rw [e,h.1,aA (ak _),io];rfl
theorem AllAt.get {P:V->α->Prop} {xs:List α} (h:AllAt P vs xs) {x:α} (l:xs[i]?=some x):∃v,vs[i]?=some v/\P v x:=by
 have D:i<vs.length:=by rw [h.1];exact (ae.mp l).1
 obtain ⟨y,E,F⟩:=h.2 i _ (aa D);rw [l] at E;cases E;exact ⟨_,aa D,F⟩
def QAt (H:Hp) (v:V) (p:Int×Int):Prop:=∃t,v=.ref t/\H t=some (.tup [.int p.1,.int p.2])
def NAt (D:List Addr) (H:Hp) (v:V) (ps:List (Int×Int)):Prop:=∃l qs,v=.ref l/\H l=some (.lst qs)/\AllAt (QAt H) qs ps/\l∉D
theorem QAt.same (e:Same H H') (v:V) (r:Int×Int):QAt H v r->QAt H' v r:=fun ⟨t,h,l⟩=>⟨t,h,e _ _ l⟩
theorem QAt.put (D:H d=some (.lst ys)) (v:V) (r:Int×Int):QAt H v r->QAt (upd H d o) v r:=fun ⟨t,l,h⟩=>⟨t,l,by rw [jQ (fun z=>by rw [z,D] at h;cases h)];exact h⟩
variable {D:List Addr}
theorem NAt.same (e:Same H H') (v:V) (r:List (Int×Int)):NAt D H v r->NAt D H' v r:=fun ⟨l,qs,F,h,G,E⟩=>⟨l,qs,F,e _ _ h,G.mono (QAt.same e),E⟩
theorem NAt.put (G:H d=some (.lst ys)) (I:d∈D) (v:V) (r:List (Int×Int)):NAt D H v r->NAt D (upd H d o) v r:=fun ⟨l,qs,F,E,J,h⟩=>⟨l,qs,F,by rw [jQ (fun z=>h (by rw [z];exact I))];exact E,J.mono (QAt.put G),h⟩
theorem NAt.less {h:List Addr} (I:∀d∈h,d∈D) (v:V) (r:List (Int×Int)):NAt D H v r->NAt h H v r:=fun ⟨l,qs,F,E,J,G⟩=>⟨l,qs,F,E,J,fun z=>G (I _ z)⟩
variable {f:Str} {fs:List (Str×V)}
theorem yP:(jS f v fs).lookup f=some v:=by rw [yG,if_pos rfl]
theorem kH {g:Str} (h:¬g=f):(jS f v fs).lookup g=fs.lookup g:=by rw [yG,if_neg h]
def uV (fs:List (Str×V)) (I F G h E l:V):Prop:=fs.lookup ("name":Str)=some I/\fs.lookup ("least":Str)=some F/\fs.lookup ("crest":Str)=some G/\fs.lookup ("berths":Str)=some h/\fs.lookup ("water":Str)=some E/\fs.lookup ("target":Str)=some l
theorem RD (I F G h E l:V):uV (jS "target" l (jS "water" E (jS "berths" h (jS "crest" G (jS "least" F (jS "name" I [])))))) I F G h E l:=by
 refine ⟨?_,?_,?_,?_,?_,?_⟩
 ·rw [kH (f:="target") (g:="name") (by trivial),kH (f:="water") (g:="name") (by trivial),kH (f:="berths") (g:="name") (by trivial),kH (f:="crest") (g:="name") (by trivial),kH (f:="least") (g:="name") (by trivial),yP]
 ·rw [kH (f:="target") (g:="least") (by trivial),kH (f:="water") (g:="least") (by trivial),kH (f:="berths") (g:="least") (by trivial),kH (f:="crest") (g:="least") (by trivial),yP]
 ·rw [kH (f:="target") (g:="crest") (by trivial),kH (f:="water") (g:="crest") (by trivial),kH (f:="berths") (g:="crest") (by trivial),yP]
 ·rw [kH (f:="target") (g:="berths") (by trivial),kH (f:="water") (g:="berths") (by trivial),yP]
 ·rw [kH (f:="target") (g:="water") (by trivial),yP]
 ·rw [yP]
def tK (c:Addr):Sp:=fun vs H Q _=>∃x J I F G h E l,vs=[.ref x,I,F,G,h,E,l]/\H x=some (.ins c J [])/\∀H' fs,Keep x H H'->H' x=some (.ins c J fs)->uV fs I F G h E l->Q .non H'
def RcAt (l:Addr) (H:Hp) (x:Addr) (r:RC):Prop:=∃h fs,H x=some (.ins l h fs)/\uV fs (.str r.name) (.int r.least) (.int r.crest) (.int r.berths) (.int r.water) (.int r.target)
variable {cR:Addr}
theorem RcAt.same {r:RC} (e:Same H H') (h:RcAt cR H x r):RcAt cR H' x r:=by
 obtain ⟨l,fs,E,F⟩:=h;exact ⟨l,fs,e _ _ E,F⟩
theorem zN {X:Cx} (K:W.Frag) (h:X.K=K:=by rfl):yK X (.type "list") (fun xs H Q=>∃p ys,xs=[.ref p]/\(SqL K H p ys\/SqT K H p ys)/\∀l,H l=none->Q (.ref l) (upd H l (.lst ys))):=by subst h;exact OC
theorem kN {X:Cx} (K:W.Frag) {e:Expr} {E:Pos} {l:TE} (he:PE X e l) (F:attributeBase e f X.env (eval e X.env)=eval e X.env) (h:X.K=K:=by rfl):PE X (.Attribute e f E) (GH K l f):=by subst h;exact HH he F
def CanalFld (fs:List (Str×V)) (r l n:V):Prop:=fs.lookup ("reaches":Str)=some r/\fs.lookup ("locks":Str)=some l/\fs.lookup ("nights":Str)=some n/\∀m:Str,¬m="reaches"->¬m="locks"->¬m="nights"->fs.lookup m=none
theorem RE (r l n:V):CanalFld (jS "nights" n (jS "locks" l (jS "reaches" r []))) r l n:=by
 refine ⟨?_,?_,?_,fun m E F h=>?_⟩
 ·rw [kH (f:="nights") (g:="reaches") (by trivial),kH (f:="locks") (g:="reaches") (by trivial),yP]
 ·rw [kH (f:="nights") (g:="locks") (by trivial),yP]
 ·rw [yP]
 ·rw [kH h,kH F,kH E];rfl
theorem CanalFld.no {r l n:V} (h:CanalFld fs r l n) (F:¬m="reaches") (E:¬m="locks") (G:¬m="nights"):fs.lookup m=none:=h.2.2.2 m F E G
def RcO (cR:Addr) (H:Hp) (v:V) (r:RC):Prop:=∃x,v=.ref x/\RcAt cR H x r
def LkO (cs:Kd->Addr) (H:Hp) (v:V) (l:LC):Prop:=∃x,v=.ref x/\LockAt cs H x l.kd (.str l.name) (.int l.high) (.int l.low) l.room l.extra
theorem RcO.same (e:Same H H') (v:V) (r:RC):RcO cR H v r->RcO cR H' v r:=fun ⟨x,h,l⟩=>⟨x,h,l.same e⟩
theorem LkO.same (e:Same H H') (v:V) (l:LC):LkO cs H v l->LkO cs H' v l:=fun ⟨x,h,E⟩=>⟨x,h,E.same e⟩
variable {y:Addr}
theorem RcO.keep (k:Keep y H H') (l:H y=some (.lst ys)) (v:V) (r:RC):RcO cR H v r->RcO cR H' v r:=fun ⟨x,F,E,fs,h,G⟩=>⟨x,F,E,fs,k _ _ (yC h l (fun z=>nomatch z)) h,G⟩
theorem LkO.keep (k:Keep y H H') (E:H y=some (.lst ys)) (v:V) (l:LC):LkO cs H v l->LkO cs H' v l:=fun ⟨x,G,F,h⟩=>⟨x,G,F,k _ _ (yC h E (fun z=>nomatch z)) h⟩
theorem RcO.keepI {c:Addr} (k:Keep y H H') (E:H y=some (.ins c d [])) (v:V) (r:RC):RcO cR H v r->RcO cR H' v r:=fun ⟨x,G,F,fs,h,l⟩=>⟨x,G,F,fs,k _ _ (fun z=>by rw [z,E] at h;cases h;cases l.1) h,l⟩
theorem LkO.keepI {c:Addr} (k:Keep y H H') (E:H y=some (.ins c d [])) (v:V) (l:LC):LkO cs H v l->LkO cs H' v l:=fun ⟨x,G,F,h⟩=>⟨x,G,F,k _ _ (fun z=>by
 rw [z,E] at h;have e:=wG l.kd (.str l.name) (.int l.high) (.int l.low) (.int l.room) (.int l.extra);injection h with h;injection h with h h3 h4
 rw [<- h4] at e;cases e) h⟩
theorem QAt.keep (k:Keep y H H') (E:H y=some o) (l:∀xs,o≠.tup xs) (v:V) (p:Int×Int):QAt H v p->QAt H' v p:=fun ⟨t,F,h⟩=>⟨t,F,k _ _ (fun z=>by rw [z,E] at h;exact l _ (ay h)) h⟩
def CnAt (cs:Kd->Addr) (cR J:Addr) (D:List Addr) (H:Hp) (x:Addr) (R:List RC) (L:List LC) (N:List (List (Int×Int))):Prop:=∃I E l h fs rs F G,H x=some (.ins J I fs)/\CanalFld fs (.ref E) (.ref l) (.ref h)/\H E=some (.lst rs)/\H l=some (.lst F)/\H h=some (.lst G)/\AllAt (RcO cR H) rs R/\AllAt (LkO cs H) F L/\AllAt (NAt D H) G N/\E∉D/\l∉D/\h∉D
variable {cN:Addr} {R:List RC} {L:List LC} {N:List (List (Int×Int))}
theorem CnAt.same (e:Same H H') (h:CnAt cs cR cN D H x R L N):CnAt cs cR cN D H' x R L N:=by
 obtain ⟨I,Y,F,l,fs,rs,S,ns,O,G,h3,J,Z,V,E,h8,h9⟩:=h;exact ⟨I,Y,F,l,fs,rs,S,ns,e _ _ O,G,e _ _ h3,e _ _ J,e _ _ Z,V.mono (RcO.same e),E.mono (LkO.same e),h8.mono (NAt.same e),h9⟩
def XJ (H:Hp) (E:V) (N:List (List (Int×Int))):Prop:=(E=.non/\N=[])\/∃l h,E=.ref l/\H l=some (.lst h)/\AllAt (NAt [] H) h N/\h.length<=100
def tL (cs:Kd->Addr) (cR cN:Addr):Sp:=fun vs H Q _=>∃x G F l h rs E R L N,vs=[.ref x,.ref F,.ref l,h]/\H x=some (.ins cN G [])/\H F=some (.lst rs)/\H l=some (.lst E)/\AllAt (RcO cR H) rs R/\AllAt (LkO cs H) E L/\XJ H h N/\
 ∀H',Keep x H H'->(∀D:List Addr,(∀d∈D,H d≠none)->CnAt cs cR cN D H' x R L N)->Q .non H'
def ZR (cs:Kd->Addr) (cR cN:Addr) (F:Nat->Nat->Int):Sp:=fun vs H Q _=>∃x D R L N,vs=[.ref x]/\CnAt cs cR cN D H x R L N/\Q (.int (F R.length L.length)) H
def cM (cs:Kd->Addr) (cR cN:Addr) (F:Nat->Nat->Int->Int):Sp:=fun vs H Q _=>∃x D R L N,∃(k:Int),vs=[.ref x,.int k]/\CnAt cs cR cN D H x R L N/\Q (.int (F R.length L.length k)) H
def JQ (h:Int) (r:RC):Int×Int:=(r.crest,if r.target = -1 then h else r.target)
def JH (n m:Nat):Int:=(n:Int)+2*(m:Int)
def bO (n m:Nat):Int:=(n:Int)+2*(m:Int)+1
def mW (n m:Nat):Int:=(n:Int)+2*(m:Int)+1+1
def JV (n h:Nat) (k:Int):Int:=(n:Int)+k
def zC (n m:Nat) (k:Int):Int:=(n:Int)+(m:Int)+k
def fS (cs:Kd->Addr) (cR cN:Addr):Sp:=fun vs H Q _=>∃x D R L N,vs=[.ref x]/\CnAt cs cR cN D H x R L N/\R.length<=100/\
 ∀l ws H',Same H H'->H l=none->H' l=some (.lst ws)->AllAt (QAt H') ws (R.map (JQ (JH R.length L.length)))->Q (.ref l) H'
structure Drawn (R:List RC) (L:List LC) (N:List (List (Int×Int))):Prop where
 r8:R.length<=8
 r1:1<=R.length
 l8:L.length<=8
 n6:N.length<=6
 good:∀(i:Nat) (r:RC),R[i]?=some r->r.good i
 lock:∀(i:Nat) (l:LC),L[i]?=some l->l.good R.length
 night:∀p∈N,p.length=R.length
theorem fZ {l:Addr} {o':HO} (nx:H x=none) (h:H l=none):Same H (upd (upd H l o) x o'):=fun b u e=>by rw [jQ (qE e nx),jQ (qE e h)];exact e
theorem fV {h l:Hp} (nx:H x=none) (u:Same H h) (k:Keep x h l):Same H l:=fun b o e=>k b o (qE e nx) (u b o e)
def wV (h:Nat) (r:RC):Int×Nat:=(r.crest,if r.target = -1 then h else r.target.toNat)
def qK (R:List RC) (m:Nat):List (Int×Nat):=R.map (wV (R.length+2*m))
def yJ (R:List RC) (m:Nat):List Int:=R.map (·.water)++List.replicate (2*m+2) 0
theorem fN (R:List RC) (m:Nat):(qK R m).length=R.length:=ac _
theorem fO (R:List RC) (m:Nat):(yJ R m).length=R.length+2*m+2:=by
 unfold yJ;rw [ag,ac,cq]
 lia
def cV (R:List RC):Prop:=∀(i:Nat) r,R[i]?=some r->-1<=r.target/\r.target<(i:Int)
theorem fK {m:Nat} (h:cV R):nE (qK R m).length (qK R m):=by
 intro i c t l;rw [fN];unfold qK at l;rw [ar] at l;cases E:R[i]? with
 |none=>rw [E] at l;cases l
 |some r =>
  rw [E] at l;have e:wV (R.length+2*m) r=(c,t):=ay l;obtain ⟨J,I⟩:=h i r E;unfold wV at e;have F:(if r.target = -1 then R.length+2*m else r.target.toNat)=t:=cf Prod.snd e
  by_cases G:r.target = -1
  ·rw [if_pos G] at F;lia
  ·rw [if_neg G] at F;lia
theorem C6 {ws:List V} {m:Nat} (G:cV R) (h:AllAt (QAt H) ws (R.map (JQ (JH R.length m)))):WeirsAt K H ws (qK R m) (yJ R m).length:=by
 refine ⟨by rw [h.1,ac,fN],fun i v I=>?_⟩;obtain ⟨p,F,t,rfl,l⟩:=h.2 i v I;rw [ar] at F;cases E:R[i]? with
 |none=>rw [E] at F;cases F
 |some r =>
  rw [E] at F;cases F;obtain ⟨S,J⟩:=G i r E;have O:i<R.length:=(ae.mp E).1;refine ⟨t,r.crest,if r.target = -1 then R.length+2*m else r.target.toNat,rfl,?_,?_,?_⟩
  ·unfold qK;rw [ar,E];rfl
  ·have e:(((if r.target = -1 then R.length+2*m else r.target.toNat):Nat):Int)=(JQ (JH R.length m) r).2:=by
    unfold JQ JH
    by_cases l:r.target = -1
    ·rw [if_pos l,if_pos l];lia
    ·rw [if_neg l,if_neg l];lia
   rw [e];exact SqT.of l
  ·rw [fO];split<;>lia
def uI (cs:Kd->Addr) (cR cN:Addr):Sp:=fun vs H Q _=>∃x D R L N,vs=[.ref x]/\CnAt cs cR cN D H x R L N/\R.length<=100/\L.length<=100/\cV R/\
 ∀r H' gs,Same H H'->H r=none->H' r=some (.tup ((QL (yJ R L.length) (qK R L.length) gs).map V.int))->Spl (qK R L.length) (yJ R L.length) gs->Q (.ref r) H'
def lX (cs:Kd->Addr) (cR cN:Addr):Sp:=fun vs H Q _=>∃x h D R L N,∃(ms:List Int) (k:Nat),vs=[.ref x,.ref h,.int (k:Int)]/\CnAt cs cR cN D H x R L N/\H h=some (.tup (ms.map V.int))/\R.length+k<ms.length/\Q (.bl (decide (0<ms.getD (R.length+k) 0))) H
theorem bZ (h:Drawn R L N):cV R:=fun i r E=>by
 obtain ⟨G,I,O,S,Y,V,J,l,F⟩:=h.good i r E;exact ⟨l,F⟩
def Z3 (b:Bool):Str:=if b then "up" else "down"
def JR (L:List LC) (p:Nat×Bool):Int×Int:=match L[p.1]? with
 |some l=>if p.2 then (l.low,l.high) else (l.high,l.low)
 |none=>(0,0)
theorem EV {l:LC} (h:L[k]?=some l):JR L (k,true)=(l.low,l.high):=by unfold JR;rw [h];rfl
theorem CP {l:LC} (h:L[k]?=some l):JR L (k,false)=(l.high,l.low):=by unfold JR;rw [h];rfl
def PAt (H:Hp) (v:V) (p:Nat×Bool):Prop:=∃t,v=.ref t/\H t=some (.tup [.int (p.1:Int),.str (Z3 p.2)])
theorem PAt.same (e:Same H H') (v:V) (p:Nat×Bool):PAt H v p->PAt H' v p:=fun ⟨t,h,l⟩=>⟨t,h,e _ _ l⟩
theorem PAt.put (E:H d=some (.lst ys)) (v:V) (p:Nat×Bool):PAt H v p->PAt (upd H d o) v p:=fun ⟨t,l,h⟩=>⟨t,l,by rw [jQ (fun z=>by rw [z,E] at h;cases h)];exact h⟩
def vW (L:List LC) (s:Int) (ps:List (Nat×Bool)):List Int:=s::ps.map fun p=>(JR L p).2
def bU (L:List LC) (s:Int) (ps:List (Nat×Bool)):Prop:=∀(j:Nat) (p:Nat×Bool),ps[j]?=some p->(vW L s ps)[j]?=some (JR L p).1
theorem SI (L:List LC) (s:Int) (ps:List (Nat×Bool)) (p:Nat×Bool):vW L s (ps++[p])=vW L s ps++[(JR L p).2]:=by unfold vW;rw [aK];rfl
theorem DW (L:List LC) (s:Int) (ps:List (Nat×Bool)):(vW L s ps).length=ps.length+1:=by unfold vW;rw [ck,ac]
theorem SH (L:List LC) (s:Int) (ps:List (Nat×Bool)) (i:Nat):(vW L s ps).take (i+1)=vW L s (ps.take i):=by unfold vW;rw [take_succ_cons,map_take]
variable {j:Nat}
theorem VF {s:Int} {ps:List (Nat×Bool)} (h:j<ps.length+1):(vW L s ps)[j]?=(vW L s (ps.take j))[j]?:=by
 rw [<- SH,List.getElem?_take,if_pos (by lia)]
theorem P7 (d:Drawn R L N) {p:Nat×Bool} (h:p.1<L.length):∃l,L[p.1]?=some l/\l.good R.length:=⟨_,aa h,d.lock _ _ (aa h)⟩
def FE (cs:Kd->Addr):Sp:=fun vs H Q _=>∃y l b,vs=[.ref y,.str (Z3 b)]/\LkO cs H (.ref y) l/\∀t H',Same H H'->H t=none->H' t=some (.tup [.int (if b then l.low else l.high),.int (if b then l.high else l.low)])->Q (.ref t) H'
theorem WM (b:Bool):decide (V.str (Z3 b)=V.str "up")=b:=by
 cases b
 ·exact aN fun h=>absurd (V.str.inj h) (by trivial)
 ·exact bi rfl
theorem P0 (l:List Int):(l.map V.int).all vZ=true:=by
 rw [dm];intro x h;obtain ⟨z,_,rfl⟩:=gc.mp h;rfl
abbrev vD:=Int×List (Nat×Bool)
def WyAt (H:Hp) (v:V) (y:vD):Prop:=∃t h l,v=.ref t/\H t=some (.tup [.int y.1,.ref h])/\H h=some (.tup l)/\AllAt (PAt H) l y.2
theorem WyAt.same (e:Same H H') (v:V) (y:vD):WyAt H v y->WyAt H' v y:=fun ⟨t,G,I,E,h,F,l⟩=>⟨t,G,I,E,e _ _ h,e _ _ F,l.mono (PAt.same e)⟩
structure WyOk (L:List LC) (y:vD):Prop where
 lt:∀p∈y.2,p.1<L.length
 ok:bU L y.1 y.2
 le:y.2.length<=8
def StAt (H:Hp) (t:Addr) (d:Int) (ms:List Int) (pl:List Nat):Prop:=∃h l:Addr,H t=some (.tup [.int d,.ref h,.ref l])/\H h=some (.tup (ms.map V.int))/\H l=some (.tup (pl.map fun (p:Nat)=>V.int (p:Int)))
variable {t:Addr} {pl:List Nat}
theorem StAt.same {d:Int} (e:Same H H') (h:StAt H t d ms pl):StAt H' t d ms pl:=by
 obtain ⟨F,I,E,l,G⟩:=h;exact ⟨F,I,e _ _ E,e _ _ l,e _ _ G⟩
structure Fleet (L:List LC) (ys:List vD) (pl:List Nat):Prop where
 len:pl.length=ys.length
 n10:ys.length<=10
 ok:∀y∈ys,WyOk L y
 le:∀(i:Nat) (y:vD) (p:Nat),ys[i]?=some y->pl[i]?=some p->p<=y.2.length
theorem atI_last (l:xs.length=n+1) (h:xs[n]?=some v):vO xs (-1)=some v:=by
 have e:JM xs.length (-1)=some n:=by
  unfold JM;rw [if_neg (by decide),if_pos (by lia)]
  congr 1
  lia
 unfold vO;rw [e];exact h
def uL (K:W.Frag) (cs:Kd->Addr) (cR cN F:Addr):Sp:=fun vs H Q E=>∃x h,∃(s:Int),∃l ps D R L N,vs=[.ref x,.int s,.ref h]/\CnAt cs cR cN D H x R L N/\H h=some (.tup l)/\AllAt (PAt H) l ps/\(∀p∈ps,p.1<L.length)/\ps.length<=100/\
 (bU L s ps->∀r H',Same H H'->H r=none->H' r=some (.lst ((vW L s ps).map V.int))->Q (.ref r) H')/\(¬bU L s ps->∀H',Same H H'->E (.ref F) none H')
def t4 (K:W.Frag) (cs:Kd->Addr) (cR cN:Addr):Sp:=fun vs H Q _=>∃x h,∃(s:Int),∃l ps D R L N,vs=[.ref x,.int s,.ref h]/\CnAt cs cR cN D H x R L N/\H h=some (.tup l)/\AllAt (PAt H) l ps/\(∀p∈ps,p.1<L.length)/\ps.length<=100/\bU L s ps/\
 ∀r H',Same H H'->H r=none->H' r=some (.lst ((vW L s ps).map V.int))->Q (.ref r) H'
variable {eL:Addr}
theorem PY:∀vs H Q E,t4 K cs cR cN vs H Q E->uL K cs cR cN eL vs H Q (fun _ _ _=>False):=by
 rintro vs H Q E ⟨x,S,s,V,ps,D,R,L,N,e,G,l,O,F,J,I,q⟩;exact ⟨x,S,s,V,ps,D,R,L,N,e,G,l,O,F,J,fun _=>q,fun h=>absurd I h⟩
def G7 (H:Hp) (t:Addr) (d:Int) (ms ps:List Int):Prop:=∃h l:Addr,H t=some (.tup [.int d,.ref h,.ref l])/\H h=some (.tup (ms.map V.int))/\H l=some (.tup (ps.map V.int))
theorem StAt.toI {d:Int} (h:StAt H t d ms pl):G7 H t d ms (pl.map fun (p:Nat)=>(p:Int)):=by
 obtain ⟨F,I,E,l,G⟩:=h;exact ⟨F,I,E,l,by rw [map_map];exact G⟩
def eO (p q:List (Int×Int)) (i:Nat):Bool:=decide ((q.getD i (0,0)).1<=(p.getD i (0,0)).1)&&decide ((p.getD i (0,0)).2<=(q.getD i (0,0)).2)
def gL (p q:List (Int×Int)):Bool:=(List.range p.length).all (eO p q)
theorem UD {p q:List (Int×Int)} {a b:Int×Int} (h:p[i]?=some a) (l:q[i]?=some b):eO p q i=(decide (b.1<=a.1)&&decide (a.2<=b.2)):=by
 unfold eO;rw [af,af,h,l];rfl
def FB:Sp:=fun vs H Q _=>∃a b l ws p h,vs=[.ref a,.ref b]/\H a=some (.tup l)/\H b=some (.lst ws)/\AllAt (QAt H) l p/\AllAt (QAt H) ws h/\h.length=p.length/\p.length<=100/\∀H',Same H H'->Q (.bl (gL p h)) H'
def eP (ms:List Int) (W:List (Int×Int)) (r:Nat):Int:=if ms.getD r 0<(W.getD r (0,0)).2 then ms.getD r 0 else (W.getD r (0,0)).2
def cX (k:Nat) (ms:List Int) (W:List (Int×Int)) (n:Nat):List (Nat×Nat×Int):=(List.range n).map fun r=>(r,k,eP ms W r)
def cQ (k:Nat) (W:List (Int×Int)) (n:Nat):List (Nat×Nat×Int):=(List.range n).map fun r=>(k,r,(W.getD r (0,0)).1)
def QG (k:Nat) (ms:List Int) (W:List (Int×Int)) (n:Nat):List (Nat×Nat×Int):=cX k ms W n++cQ k W n
theorem lN (k:Nat) (ms:List Int) (W:List (Int×Int)) (n:Nat):(cX k ms W n).length=n:=by unfold cX;rw [ac,bw]
theorem lH (k:Nat) (W:List (Int×Int)) (n:Nat):(cQ k W n).length=n:=by unfold cQ;rw [ac,bw]
theorem PM (k:Nat) (ms:List Int) (W:List (Int×Int)) (n:Nat):(QG k ms W n).length=n+n:=by unfold QG;rw [ag,lN,lH]
theorem RO {W:List (Int×Int)} (h:i<n):(cX k ms W n).take (i+1)=(cX k ms W n).take i++[(i,k,eP ms W i)]:=by
 rw [aV];unfold cX;rw [ar,cp h];rfl
theorem PF {W:List (Int×Int)} (h:i<n):(cQ k W n).take (i+1)=(cQ k W n).take i++[(k,i,(W.getD i (0,0)).1)]:=by
 rw [aV];unfold cQ;rw [ar,cp h];rfl
theorem GW {W:List (Int×Int)} {y:Int×Int} (h:W[i]?=some y):W.getD i (0,0)=y:=by rw [af,h];rfl
theorem D9 {W:List (Int×Int)} {y:Int×Int} (h:W[i]?=some y):eP ms W i=if ms.getD i 0<y.2 then ms.getD i 0 else y.2:=by unfold eP;rw [GW h]
theorem SV {W:List (Int×Int)} {y:Int×Int} (h:W[i]?=some y):eP ms W i=if y.2<ms.getD i 0 then y.2 else ms.getD i 0:=by rw [D9 h];split<;>split<;>lia
def DP (R:List RC) (m:Nat) (ms:List Int) (W:List (Int×Int)) (gs:List Int):List (Nat×Nat×Int):=(QG (R.length+2*m+1) ms W R.length).filter vA++(yV (qL (qK R m)) (fun a=>gs.getD a 0) (qK R m).length).filter vA
def V7 (R:List RC) (m:Nat) (ms:List Int) (W:List (Int×Int)):List Int:=k7 ms ((QG (R.length+2*m+1) ms W R.length).filter vA)
theorem i5 {I G:Addr} {ws:List V} {m:Nat} (J:cV R) (h:AllAt (QAt H) ws (R.map (JQ (JH R.length m)))) (l:H I=some (.lst ws)) (F:Ints K H G ms) (E:ms.length=R.length+2*m+2) (S:R.length<=100) (O:m<=100):Ready K H I G ws (qK R m) ms :=
 ⟨so l,by have:=C6 (K:=K) J h;rw [fO] at this;rw [E];exact this,F,fK J,by rw [fN];lia,by lia⟩
def DH (K:W.Frag) (cs:Kd->Addr) (cR cN:Addr):Sp:=fun vs H Q _=>∃x t l,∃(d:Int),∃ms ps h W D R L N,vs=[.ref x,.ref t,.ref l]/\CnAt cs cR cN D H x R L N/\G7 H t d ms ps/\H l=some (.tup h)/\AllAt (QAt H) h W/\W.length=R.length/\ms.length=R.length+2*L.length+2/\R.length<=100/\L.length<=100/\cV R/\
 ∀r H' gs ys,Same H H'->H r=none->H' r=some (.lst ys)->PoursH H' ys (DP R L.length ms W gs) ms.length->Spl (qK R L.length) (V7 R L.length ms W) gs->Q (.ref r) H'
def vU (L:List LC) (y:vD) (p:Nat):Int:=if p=y.2.length then -1 else (vW L y.1 y.2).getD p 0
def FC:Sp:=fun vs H Q _=>∃t y,∃(p:Int),vs=[.ref t,.int p]/\WyAt H (.ref t) y/\Q (.int ((y.2.length:Int) - p)) H
def tY (cs:Kd->Addr) (cR cN:Addr):Sp:=fun vs H Q _=>∃x t y,∃(p:Nat),∃D R L N,vs=[.ref x,.ref t,.int (p:Int)]/\CnAt cs cR cN D H x R L N/\WyAt H (.ref t) y/\WyOk L y/\p<=y.2.length/\∀H',Same H H'->Q (.int (vU L y p)) H'
def zA (L:List LC) (ys:List vD) (pl:List Nat):List Int:=(List.range ys.length).map fun i=>vU L (ys.getD i (0,[])) (pl.getD i 0)
def EC (cs:Kd->Addr) (cR cN:Addr):Sp:=fun vs H Q _=>∃x E h,∃(r:Int),∃l ys,∃(d:Int),∃ms pl D R L N,vs=[.ref x,.ref E,.ref h,.int r]/\CnAt cs cR cN D H x R L N/\H E=some (.lst l)/\AllAt (WyAt H) l ys/\StAt H h d ms pl/\Fleet L ys pl/\∀H',Same H H'->Q (.int (((zA L ys pl).countP fun z=>decide (z=r):Nat):Int)) H'
theorem WO (b:Bool):wv b=.str (Z3 b):=by cases b<;>rfl
def JF (r l k:Nat) (h:LC) (s:Str):Nat:=if s="high" then h.high.toNat else if s="low" then h.low.toNat else if s="chamber" then r+k else r+l+k
def nJ (r l k:Nat) (h:LC) (q:Str×Str×Int):Nat×Nat×Int:=(JF r l k h q.1,JF r l k h q.2.1,q.2.2)
inductive okW:Str->Prop
 |high:okW "high"
 |low:okW "low"
 |cham:okW "chamber"
 |bas:okW "basin"
theorem C7 (r l k:Nat) (h:LC):JF r l k h "high"=h.high.toNat:=if_pos rfl
theorem D8 (r l k:Nat) (h:LC):JF r l k h "low"=h.low.toNat:=by unfold JF;rw [if_neg (show ¬("low":Str)="high" by trivial),if_pos rfl]
theorem BW (r l k:Nat) (h:LC):JF r l k h "chamber"=r+k:=by unfold JF;rw [if_neg (show ¬("chamber":Str)="high" by trivial),if_neg (show ¬("chamber":Str)="low" by trivial),if_pos rfl]
theorem BX (r l k:Nat) (h:LC):JF r l k h "basin"=r+l+k:=by unfold JF;rw [if_neg (show ¬("basin":Str)="high" by trivial),if_neg (show ¬("basin":Str)="low" by trivial),if_neg (show ¬("basin":Str)="chamber" by trivial)]
theorem E5 {r l:Nat} {E:LC} {s:Str} (h:okW s) (F:E.good r) (hk:k<l):JF r l k E s<r+2*l+2:=by
 obtain ⟨O,G,I,J,_⟩:=F;cases h
 ·rw [C7];lia
 ·rw [D8];lia
 ·rw [BW];lia
 ·rw [BX];lia
def d4 (a b c d:V):List (kQ×V):=[(.inr "high",a),(.inr "low",b),(.inr "chamber",c),(.inr "basin",d)]
theorem J3 {s t:Str} (h:¬s=t):¬((Sum.inr s:kQ)=(Sum.inr t:kQ)):=fun e=>h (Sum.inr.inj e)
theorem WA (a b c d:V):eE [] [((.inr "high":kQ),a),(.inr "low",b),(.inr "chamber",c),(.inr "basin",d)]=d4 a b c d:=by
 show zY (zY (zY (zY ([]:List (kQ×V)) (Sum.inr "high") a) (Sum.inr "low") b) (Sum.inr "chamber") c) (Sum.inr "basin") d=_;rw [lR a (valV_nil:yD [] (Sum.inr "high":kQ)=none)];rw [lR b (by show yD [((.inr "high":kQ),a)] (.inr "low")=none;rw [zG (J3 (by trivial))];rfl)];rw [lR c (by show yD [((.inr "high":kQ),a),(.inr "low",b)] (.inr "chamber")=none;rw [zG (J3 (by trivial)),zG (J3 (by trivial))];rfl)];rw [lR d (by show yD [((.inr "high":kQ),a),(.inr "low",b),(.inr "chamber",c)] (.inr "basin")=none;rw [zG (J3 (by trivial)),zG (J3 (by trivial)),zG (J3 (by trivial))];rfl)];rfl
theorem XI {p:Addr} {a b c d:V} (h:H p=some (.dK (d4 a b c d))):DGet H p (.str "high") (some a)/\DGet H p (.str "low") (some b)/\DGet H p (.str "chamber") (some c)/\DGet H p (.str "basin") (some d):=by
 have l:yD (d4 a b c d) (.inr "high")=some a:=by unfold d4;rw [cA rfl]
 have E:yD (d4 a b c d) (.inr "low")=some b:=by unfold d4;rw [zG (J3 (by trivial)),cA rfl]
 have F:yD (d4 a b c d) (.inr "chamber")=some c:=by unfold d4;rw [zG (J3 (by trivial)),zG (J3 (by trivial)),cA rfl]
 have G:yD (d4 a b c d) (.inr "basin")=some d:=by unfold d4;rw [zG (J3 (by trivial)),zG (J3 (by trivial)),zG (J3 (by trivial)),cA rfl]
 refine ⟨?_,?_,?_,?_⟩
 ·rw [<- l];exact DGet.kq (k:=.inr "high") h
 ·rw [<- E];exact DGet.kq (k:=.inr "low") h
 ·rw [<- F];exact DGet.kq (k:=.inr "chamber") h
 ·rw [<- G];exact DGet.kq (k:=.inr "basin") h
theorem uS (E:Kd) (h v b:Int):∀q∈zV E h v b,okW q.1/\okW q.2.1:=fun q F=>by
 obtain ⟨p,l,rfl⟩:=gc.mp F;refine ⟨?_,.cham⟩;cases E
 ·have:=(dh.mp l).1;rw [aO] at this;rw [this];exact .high
 ·have:=(dh.mp l).1;simp only [aj,au,bv] at this
  rcases this with rfl|rfl
  ·exact .bas
  ·exact .high
 ·have:=(dh.mp l).1;simp only [aj,au,bv] at this
  rcases this with rfl|rfl
  ·exact .low
  ·exact .high
theorem lZ (E:Kd) (h v b:Int):∀q∈zB E h v b,okW q.1/\okW q.2.1:=fun q F=>by
 obtain ⟨p,l,rfl⟩:=gc.mp F;refine ⟨.cham,?_⟩;cases E
 ·have:=(dh.mp l).1;rw [aO] at this;rw [this];exact .low
 ·have:=(dh.mp l).1;simp only [aj,au,bv] at this
  rcases this with rfl|rfl
  ·exact .bas
  ·exact .low
 ·have:=(dh.mp l).1;rw [aO] at this;rw [this];exact .low
theorem S6 (F:Kd) (l v:Int) (f:Bool) (b:Int) (w:Bool):∀q∈mT F l v f b w,okW q.1/\okW q.2.1:=fun q E=>by
 cases w<;>cases f
 ·rcases ba.mp E with h|h
  ·exact uS _ _ _ _ q h
  ·exact lZ _ _ _ _ q h
 ·exact lZ _ _ _ _ q E
 ·exact uS _ _ _ _ q E
 ·rcases ba.mp E with h|h
  ·exact lZ _ _ _ _ q h
  ·exact uS _ _ _ _ q h
def QK (r:Nat) (ms:List Int) (k:Nat):Bool:=decide (0<ms.getD (r+k) 0)
def QZ (r:Nat) (L:List LC) (ms:List Int) (s:Nat×Bool):List (Nat×Nat×Int):=match L[s.1]? with
 |some l=>(mT l.kd l.room l.extra (QK r ms s.1) (ms.getD (r+L.length+s.1) 0) s.2).map (nJ r L.length s.1 l)
 |none=>[]
def gM (r:Nat) (L:List LC) (ms:List Int) (k:Nat):List (Nat×Nat×Int):=match L[k]? with
 |some l=>(zB l.kd l.room l.extra (ms.getD (r+L.length+k) 0)).map (nJ r L.length k l)
 |none=>[]
def ZT (R:List RC) (ms:List Int) (v:Nat):Bool:=match R[v]? with
 |some r=>decide (ms.getD v 0<r.least)
 |none=>false
def QW (R:List RC):List Int->List (Nat×Nat×Int)->Bool
 |_,[]=>false
 |ms,q::qs=>ZT R (pour ms q) q.1||QW R (pour ms q) qs
def fX (R:List RC) (t:Int):Int:=match R[t.toNat]? with
 |some r=>r.berths
 |none=>0
def cW (R:List RC) (L:List LC) (ys:List vD) (ms:List Int) (pl:List Nat) (b:Nat):Str :=
 if pl.getD b 0=(ys.getD b (0,[])).2.length then "home" else
 if ¬vU L (ys.getD b (0,[])) (pl.getD b 0+1) = -1/\fX R (vU L (ys.getD b (0,[])) (pl.getD b 0+1))<=(((zA L ys pl).countP fun z=>decide (z=vU L (ys.getD b (0,[])) (pl.getD b 0+1)):Nat):Int) then "berth" else
 if QW R ms (QZ R.length L ms ((ys.getD b (0,[])).2.getD (pl.getD b 0) (0,true)))=true then "water" else ""
inductive Deed
 |pass (b:Nat)
 |let (k:Nat)
 |night
def m9:Deed->List V
 |.pass b=>[.str "pass",.int (b:Int)]
 |.let k=>[.str "let",.int (k:Int)]
 |.night=>[.str "night"]
def Q4 (R:List RC) (L:List LC) (n:Nat) (ys:List vD) (d:Int) (ms:List Int) (pl:List Nat):Deed->Str
 |.pass b=>cW R L ys ms pl b
 |.let k=>if QK R.length ms k=true then "" else "empty"
 |.night=>if d<(n:Int) then "" else "over"
def wU (l h:Nat):Deed->Prop
 |.pass b=>b<l
 |.let k=>k<h
 |.night=>True
def wA (cs:Kd->Addr) (cR cN:Addr):Sp:=fun vs H Q _=>∃x p,∃(k:Nat),∃l rs ps D R L N,vs=[.ref x,.int (k:Int),.ref p]/\CnAt cs cR cN D H x R L N/\L[k]?=some l/\l.good R.length/\H p=some (.lst rs)/\PoursS H rs ps/\(∀q∈ps,okW q.1/\okW q.2.1)/\ps.length<=10/\
 ∀r H' h,Same H H'->H r=none->H' r=some (.lst h)->PoursH H' h (ps.map (nJ R.length L.length k l)) (R.length+2*L.length+2)->Q (.ref r) H'
structure Stage (cs:Kd->Addr) (cR cN:Addr) (D:List Addr) (H:Hp) (x wl st:Addr) (us:List V) (R:List RC) (L:List LC) (N:List (List (Int×Int))) (ys:List vD) (d:Int) (ms:List Int) (pl:List Nat):Prop where
 cn:CnAt cs cR cN D H x R L N
 dr:Drawn R L N
 wls:H wl=some (.lst us)
 wys:AllAt (WyAt H) us ys
 sts:StAt H st d ms pl
 fl:Fleet L ys pl
 ml:ms.length=R.length+2*L.length+2
theorem Stage.same {l st:Addr} {us:List V} {ys:List vD} {d:Int} (h:Stage cs cR cN D H x l st us R L N ys d ms pl) (e:Same H H'):Stage cs cR cN D H' x l st us R L N ys d ms pl:=⟨h.cn.same e,h.dr,e _ _ h.wls,h.wys.mono (WyAt.same e),h.sts.same e,h.fl,h.ml⟩
def wO:Sp:=fun vs H Q _=>∃(t:Addr) (y:vD) (p:Nat) (s:Nat×Bool),vs=[.ref t,.int (p:Int)]/\WyAt H (.ref t) y/\y.2[p]?=some s/\∀v,PAt H v s->Q v H
def tZ (cs:Kd->Addr) (cR cN:Addr):Sp:=fun vs H Q _=>∃x l h,∃(b:Nat),∃r E ys,∃(d:Int),∃ms pl D R L N,vs=[.ref x,.ref l,.ref h,.int (b:Int)]/\Stage cs cR cN D H x l h E R L N ys d ms pl/\R[b]?=some r/\∀H',Same H H'->Q (.bl (decide (r.berths<=(((zA L ys pl).countP fun z=>decide (z=(b:Int)):Nat):Int)))) H'
def uZ (cs:Kd->Addr) (cR cN:Addr):Sp:=fun vs H Q _=>∃(x E l:Addr) (b:Nat) (F:List V) (ys:List vD) (y:vD) (p:Nat) (s:Nat×Bool) (d:Int) (ms:List Int) (pl:List Nat) (D:List Addr) (R:List RC) (L:List LC) (N:List (List (Int×Int))),vs=[.ref x,.ref E,.ref l,.int (b:Int)]/\Stage cs cR cN D H x E l F R L N ys d ms pl/\ys[b]?=some y/\pl[b]?=some p/\y.2[p]?=some s/\
 ∀r H' h,Same H H'->H r=none->H' r=some (.lst h)->PoursH H' h (QZ R.length L ms s) ms.length->Q (.ref r) H'
def ED (cs:Kd->Addr) (cR cN:Addr):Sp:=fun vs H Q _=>∃x F l,∃(k:Nat),∃E ys,∃(d:Int),∃ms pl D R L N,vs=[.ref x,.ref l,.int (k:Int)]/\Stage cs cR cN D H x F l E R L N ys d ms pl/\k<L.length/\
 ∀r H' h,Same H H'->H r=none->H' r=some (.lst h)->PoursH H' h (gM R.length L ms k) ms.length->Q (.ref r) H'
def FX (cs:Kd->Addr) (cR cN:Addr):Sp:=fun vs H Q _=>∃x w,∃(v:Nat),∃ms D R L N,vs=[.ref x,.ref w,.int (v:Int)]/\CnAt cs cR cN D H x R L N/\H w=some (.tup (ms.map V.int))/\v<ms.length/\Q (.bl (ZT R ms v)) H
def DE (cs:Kd->Addr) (cR cN:Addr):Sp:=fun vs H Q _=>∃x w p ms h qs D R L N,vs=[.ref x,.ref w,.ref p]/\CnAt cs cR cN D H x R L N/\H w=some (.tup (ms.map V.int))/\H p=some (.lst h)/\PoursH H h qs ms.length/\ms.length<=1000/\∀H',Same H H'->Q (.bl (QW R ms qs)) H'
def FA (cs:Kd->Addr) (cR cN:Addr):Sp:=fun vs H Q _=>∃x l h,∃(b:Nat),∃E ys,∃(d:Int),∃ms pl D R L N,vs=[.ref x,.ref l,.ref h,.int (b:Int)]/\Stage cs cR cN D H x l h E R L N ys d ms pl/\b<ys.length/\∀H',Same H H'->Q (.str (cW R L ys ms pl b)) H'
def wM (cs:Kd->Addr) (cR cN:Addr):Sp:=fun vs H Q _=>∃x l F E h G ys,∃(d:Int),∃ms pl D R L N,vs=[.ref x,.ref l,.ref F,.ref E]/\Stage cs cR cN D H x l F G R L N ys d ms pl/\H E=some (.tup (m9 h))/\wU ys.length L.length h/\∀H',Same H H'->Q (.str (Q4 R L N.length ys d ms pl h)) H'
variable {p:Nat}
theorem VZ {y:vD} {s:Nat×Bool} (l:WyOk L y) (h:y.2[p]?=some s):vU L y p=(JR L s).1:=by
 have E:=(ae.mp h).1;unfold vU;rw [if_neg (by lia),af,l.ok p s h];rfl
theorem TZ (d:Drawn R L N) {s:Nat×Bool} (h:s.1<L.length):0<=(JR L s).1/\(JR L s).1<(R.length:Int):=by
 obtain ⟨l,E,J,F,G,I,_⟩:=P7 d h;obtain ⟨k,b⟩:=s;cases b
 ·rw [CP E];show 0<=l.high/\l.high<_;lia
 ·rw [EV E];show 0<=l.low/\l.low<_;lia
theorem FI (d:Drawn R L N) {y:vD} (h:WyOk L y) (E:p<y.2.length):0<=vU L y p/\vU L y p<(R.length:Int):=by
 have l:=aa E;rw [VZ h l];exact TZ d (h.lt _ (az l))
theorem EI (L:List LC) (y:vD):vU L y y.2.length = -1:=if_pos rfl
def Q0 (R:List RC) (L:List LC) (N:List (List (Int×Int))) (ys:List vD) (d:Int) (ms:List Int) (pl:List Nat):Deed->List (Nat×Nat×Int)
 |.pass b=>QZ R.length L ms ((ys.getD b (0,[])).2.getD (pl.getD b 0) (0,true))
 |.let k=>gM R.length L ms k
 |.night=>(QG (R.length+2*L.length+1) ms (N.getD d.toNat []) R.length).filter vA
def mD (R:List RC) (L:List LC) (N:List (List (Int×Int))) (ys:List vD) (d:Int) (ms:List Int) (pl:List Nat) (h:Deed) (gs:List Int):List (Nat×Nat×Int):=Q0 R L N ys d ms pl h++(yV (qL (qK R L.length)) (fun a=>gs.getD a 0) (qK R L.length).length).filter vA
def QD (pl:List Nat) (b:Nat):List Nat:=(List.range pl.length).map fun i=>if i=b then pl.getD i 0+1 else pl.getD i 0
def GE (d:Int):Deed->Int
 |.night=>d+1
 |_=>d
def ZD (pl:List Nat):Deed->List Nat
 |.pass b=>QD pl b
 |_=>pl
def DF (cs:Kd->Addr) (cR cN J:Addr):Sp:=fun vs H Q E=>∃x I G F h O ys,∃(d:Int),∃ms pl D R L N,vs=[.ref x,.ref I,.ref G,.ref F]/\Stage cs cR cN D H x I G O R L N ys d ms pl/\H F=some (.tup (m9 h))/\wU ys.length L.length h/\0<=d/\h≠.night/\
 (Q4 R L N.length ys d ms pl h=""->∀r H' gs l,Same H H'->H r=none->H' r=some (.lst l)->PoursH H' l (mD R L N ys d ms pl h gs) ms.length->Spl (qK R L.length) (k7 ms (Q0 R L N ys d ms pl h)) gs->Q (.ref r) H')/\
 (¬Q4 R L N.length ys d ms pl h=""->∀H',Same H H'->E (.ref J) none H')
def DB:Sp:=fun vs H Q _=>∃h pl,∃(b:Nat),vs=[.ref h,.int (b:Int)]/\H h=some (.tup (pl.map fun (p:Nat)=>V.int (p:Int)))/\pl.length<=100/\∀r H',Same H H'->H r=none->H' r=some (.tup ((QD pl b).map fun (p:Nat)=>V.int (p:Int)))->Q (.ref r) H'
variable {b:Nat}
theorem uG {ys:List vD} (h:cW R L ys ms pl b=""):¬pl.getD b 0=(ys.getD b (0,[])).2.length:=fun e=>by
 unfold cW at h;rw [if_pos e] at h;exact absurd h (by trivial)
theorem CG (r:Nat) (L:List LC) (ms:List Int) (s:Nat×Bool):(QZ r L ms s).length<=4:=by
 unfold QZ
 split
 ·rw [ac];exact CH _ _ _ _ _ _
 ·exact aH _
theorem DQ (r:Nat) (L:List LC) (ms:List Int) (k:Nat):(gM r L ms k).length<=4:=by
 unfold gM
 split
 ·rw [ac];exact aI (cE _ _ _ _) (by decide)
 ·exact aH _
theorem i7 (pl:List Nat) (b:Nat):(QD pl b).length=pl.length:=by unfold QD;rw [ac,bw]
theorem AW (h:i<pl.length):(QD pl b).take (i+1)=(QD pl b).take i++[if i=b then pl.getD i 0+1 else pl.getD i 0]:=by
 rw [aV];unfold QD;rw [ar,cp h];rfl
def CC:Sp:=fun vs H Q _=>∃G E F h,∃(d:Int),∃ms l pl,vs=[.ref G,.ref E,.ref F]/\StAt H G d ms pl/\H E=some (.tup (m9 h))/\H F=some (.tup (l.map V.int))/\pl.length<=100/\∀r H',Same H H'->H r=none->StAt H' r (GE d h) l (ZD pl h)->Q (.ref r) H'
def EF (cs:Kd->Addr) (cR cN:Addr):Sp:=fun vs H Q _=>∃x F h D R L N,vs=[.ref x,.ref F]/\CnAt cs cR cN D H x R L N/\H F=some (.lst h)/\h.length<=100/\R.length<=100/\L.length<=100/\cV R/\
 ∀t E l H' gs,Same H H'->H' t=some (.tup [.int 0,.ref E,.ref l])->H' E=some (.tup ((QL (yJ R L.length) (qK R L.length) gs).map V.int))->Spl (qK R L.length) (yJ R L.length) gs->H' l=some (.tup (List.replicate h.length (.int 0)))->Q (.ref t) H'
def xE (K:W.Frag) (H:Hp) (v:V) (nm:Str):Prop:=∃x C h fs,v=.ref x/\H x=some (.ins C h fs)/\Cls K C/\NoAttr K C "name"/\fs.lookup ("name":Str)=some (.str nm)
def FirstAt (h:List Str) (nm:Str) (i:Nat):Prop:=h[i]?=some nm/\∀j:Nat,j<i->h[j]?≠some nm
def QV (h:List Str) (nm:Str):Prop:=∀i:Nat,h[i]?≠some nm
variable {zs:List Str} {nm:Str}
theorem FirstAt.uniq (h:FirstAt zs nm i) (h':FirstAt zs nm j):i=j:=by
 rcases Nat.lt_trichotomy i j with c|c|c
 ·exact absurd h.1 (h'.2 i c)
 ·exact c
 ·exact absurd h'.1 (h.2 j c)
theorem TU (zs:List Str) (nm:Str):(∃i,FirstAt zs nm i)\/QV zs nm:=by
 have l:∀n:Nat,(∃i,FirstAt zs nm i)\/∀j:Nat,j<n->zs[j]?≠some nm:=by
  intro n
  induction n with
  |zero=>exact .inr fun j F=>absurd F (gb j)
  |succ n G =>
   rcases G with h|h
   ·exact .inl h
   ·by_cases e:zs[n]?=some nm
    ·exact .inl ⟨n,e,h⟩
    ·refine .inr fun j F=>?_
     by_cases c:j=n
     ·rw [c];exact e
     ·exact h j (by lia)
 rcases l zs.length with h|h
 ·exact .inl h
 ·refine .inr fun i E=>h i ?_ E
  exact (ae.mp E).1
def uY (K:W.Frag) (F:Addr):Sp:=fun vs H Q E=>∃nm l h zs,vs=[.str nm,.ref l]/\H l=some (.lst h)/\AllAt (xE K H) h zs/\h.length<=100/\(∀i:Nat,FirstAt zs nm i->∀H',Same H H'->Q (.int (i:Int)) H')/\(QV zs nm->∀H',Same H H'->E (.ref F) none H')
def mK (w:Nat) (R:List RC) (L:List LC):List Str:=if w=0 then R.map (·.name) else L.map (·.name)
def ZM (cs:Kd->Addr) (cR cN h:Addr) (w:Nat):Sp:=fun vs H Q E=>∃x D R L N nm,vs=[.ref x,.str nm]/\CnAt cs cR cN D H x R L N/\R.length<=100/\L.length<=100/\(∀i:Nat,FirstAt (mK w R L) nm i->∀H',Same H H'->Q (.int (i:Int)) H')/\(QV (mK w R L) nm->∀H',Same H H'->E (.ref h) none H')
theorem OM (c:Cls K cR) (n:NoAttr K cR "name") (h:AllAt (RcO cR H) rs R):AllAt (xE K H) rs (R.map (·.name)):=by
 refine ⟨by rw [h.1,ac],fun i v I=>?_⟩;obtain ⟨r,F,x,rfl,E,fs,l,G⟩:=h.2 i v I;exact ⟨r.name,by rw [ar,F];rfl,x,cR,E,fs,rfl,l,c,n,G.1⟩
theorem PN (c:∀E,Cls K (cs E)) (n:∀E,NoAttr K (cs E) "name") (h:AllAt (LkO cs H) rs L):AllAt (xE K H) rs (L.map (·.name)):=by
 refine ⟨by rw [h.1,ac],fun i v J=>?_⟩;obtain ⟨l,I,x,rfl,G,F⟩:=h.2 i v J;exact ⟨l.name,by rw [ar,I];rfl,x,_,G,_,rfl,F,c _,n _,wG ..⟩
theorem QB (h:n<=1000):n<=sizeLine:=il (qX h)
def SAt (H:Hp) (v:V) (p:Str×Bool):Prop:=∃t,v=.ref t/\H t=some (.tup [.str p.1,.str (Z3 p.2)])
theorem SAt.same (e:Same H H') (v:V) (p:Str×Bool):SAt H v p->SAt H' v p:=fun ⟨t,h,l⟩=>⟨t,h,e _ _ l⟩
theorem SAt.put (l:H d=some (.lst ys)) (v:V) (p:Str×Bool):SAt H v p->SAt (upd H d o) v p:=fun ⟨t,E,h⟩=>⟨t,E,by rw [jQ (fun z=>by rw [z,l] at h;cases h)];exact h⟩
structure CoE where
 name:Str
 start:Str
 steps:List (Str×Bool)
def CoAt (H:Hp) (t:Addr) (e:CoE):Prop:=∃h l,H t=some (.tup [.str "come",.str e.name,.str e.start,.ref h])/\H h=some (.tup l)/\AllAt (SAt H) l e.steps
theorem CoAt.same {e:CoE} (s:Same H H') (h:CoAt H t e):CoAt H' t e:=by
 obtain ⟨G,I,E,l,F⟩:=h;exact ⟨G,I,s _ _ E,s _ _ l,F.mono (SAt.same s)⟩
def kK:List Str->Str->Option Nat
 |[],_=>none
 |z::zs,n=>if z=n then some 0 else (kK zs n).map (· + 1)
theorem dR:∀{zs:List Str} {n:Str} {i:Nat},kK zs n=some i->FirstAt zs n i
 |[],n,i,h=>by cases h
 |z::zs,n,i,h=>by
  unfold kK at h
  split at h
  ·rename_i e;cases h;exact ⟨by rw [e];rfl,fun j l=>absurd l (gb j)⟩
  ·rename_i G;obtain ⟨k,hk,rfl⟩:=aT.mp h;obtain ⟨F,E⟩:=dR hk;refine ⟨F,fun j l=>?_⟩;cases j with
   |zero=>exact fun e=>G (ay e)
   |succ j=>exact E j (by lia)
theorem tO:∀{zs:List Str} {n:Str},kK zs n=none->QV zs n
 |[],n,_=>fun i h=>by cases h
 |z::zs,n,h=>by
  unfold kK at h
  split at h
  ·cases h
  ·rename_i E;have h':=Option.map_eq_none_iff.mp h;intro i l;cases i with
   |zero=>exact E (ay l)
   |succ i=>exact tO h' i l
theorem dS {n:Str} (h:FirstAt zs n i):kK zs n=some i:=by
 cases e:kK zs n with
 |none=>exact absurd h.1 (tO e i)
 |some j=>rw [(dR e).uniq h]
theorem dW {n:Str} (h:QV zs n):kK zs n=none:=by
 cases e:kK zs n with
 |none=>rfl
 |some j=>exact absurd (dR e).1 (h j)
theorem bA {n:Str} (h:kK zs n=some i):i<zs.length:=(ae.mp (dR h).1).1
def y8 (zs:List Str):List (Str×Bool)->Option (List (Nat×Bool))
 |[]=>some []
 | (n,b)::r=>match kK zs n with
  |none=>none
  |some k=>(y8 zs r).map ((k,b) :: ·)
theorem AV {zs:List Str} {p:Str×Bool} {k:Nat} (hk:kK zs p.1=some k):∀{l:List (Str×Bool)} {ps:List (Nat×Bool)},y8 zs l=some ps->y8 zs (l++[p])=some (ps++[(k,p.2)])
 |[],ps,h=>by
  cases h;show (match kK zs p.1 with|none=>none|some k=>(y8 zs []).map ((k,p.2) :: ·))=_;rw [hk];rfl
 | (n,b)::r,ps,h=>by
  unfold y8 at h;show (match kK zs n with|none=>none|some k=>(y8 zs (r++[p])).map ((k,b) :: ·))=_;cases E:kK zs n with
  |none=>rw [E] at h;cases h
  |some j =>
   rw [E] at h;obtain ⟨qs,F,rfl⟩:=aT.mp h;show (y8 zs (r++[p])).map ((j,b) :: ·)=_;rw [AV hk F];rfl
theorem BH {zs:List Str} {p:Str×Bool} (E:kK zs p.1=none):∀{l:List (Str×Bool)},p∈l->y8 zs l=none
 | (n,b)::r,h=>by
  unfold y8
  rcases aj.mp h with e|h
  ·cases e;have E:kK zs n=none:=E;rw [E]
  ·cases kK zs n with
   |none=>rfl
   |some k=>show (y8 zs r).map _=none;rw [BH E h];rfl
theorem tW {zs:List Str}:∀{l:List (Str×Bool)} {ps:List (Nat×Bool)},y8 zs l=some ps->ps.length=l.length/\∀p∈ps,p.1<zs.length
 |[],ps,h=>by cases h;exact ⟨rfl,fun p E=>by cases E⟩
 | (n,b)::r,ps,h=>by
  unfold y8 at h;cases F:kK zs n with
  |none=>rw [F] at h;cases h
  |some k =>
   rw [F] at h;obtain ⟨qs,J,rfl⟩:=aT.mp h;obtain ⟨I,G⟩:=tW J;refine ⟨by rw [ck,I];rfl,fun p E=>?_⟩
   rcases aj.mp E with rfl|E
   ·exact bA F
   ·exact G p E
def zX (R:List RC) (L:List LC) (e:CoE):Option vD:=match kK (R.map (·.name)) e.start with
 |none=>none
 |some a=>(y8 (L.map (·.name)) e.steps).map fun ps=>((a:Int),ps)
def tX (cs:Kd->Addr) (cR cN h:Addr):Sp:=fun vs H Q E=>∃x t e D R L N,vs=[.ref x,.ref t]/\CnAt cs cR cN D H x R L N/\R.length<=100/\L.length<=100/\CoAt H t e/\e.steps.length<=100/\
 (∀y,zX R L e=some y->∀w H',Same H H'->H w=none->WyAt H' (.ref w) y->Q (.ref w) H')/\(zX R L e=none->∀H',Same H H'->E (.ref h) none H')
def BkFld (fs:List (Str×V)) (J I h G E l F:V):Prop:=fs.lookup ("kept_canal":Str)=some J/\fs.lookup ("kept_names":Str)=some I/\fs.lookup ("kept_ways":Str)=some h/\fs.lookup ("kept_state":Str)=some G/\fs.lookup ("kept_pours":Str)=some E/\fs.lookup ("kept_words":Str)=some l/\fs.lookup ("kept_entries":Str)=some F/\∀m:Str,¬m="kept_canal"->¬m="kept_names"->¬m="kept_ways"->¬m="kept_state"->¬m="kept_pours"->¬m="kept_words"->¬m="kept_entries"->fs.lookup m=none
theorem VO (J I h F E l G:V):BkFld (jS "kept_entries" G (jS "kept_words" l (jS "kept_pours" E (jS "kept_state" F (jS "kept_ways" h (jS "kept_names" I (jS "kept_canal" J []))))))) J I h F E l G:=by
 refine ⟨?_,?_,?_,?_,?_,?_,?_,fun m S n1 Y Z n4 O n6=>?_⟩
 ·rw [kH (f:="kept_entries") (g:="kept_canal") (by trivial),kH (f:="kept_words") (g:="kept_canal") (by trivial),kH (f:="kept_pours") (g:="kept_canal") (by trivial),kH (f:="kept_state") (g:="kept_canal") (by trivial),kH (f:="kept_ways") (g:="kept_canal") (by trivial),kH (f:="kept_names") (g:="kept_canal") (by trivial),yP]
 ·rw [kH (f:="kept_entries") (g:="kept_names") (by trivial),kH (f:="kept_words") (g:="kept_names") (by trivial),kH (f:="kept_pours") (g:="kept_names") (by trivial),kH (f:="kept_state") (g:="kept_names") (by trivial),kH (f:="kept_ways") (g:="kept_names") (by trivial),yP]
 ·rw [kH (f:="kept_entries") (g:="kept_ways") (by trivial),kH (f:="kept_words") (g:="kept_ways") (by trivial),kH (f:="kept_pours") (g:="kept_ways") (by trivial),kH (f:="kept_state") (g:="kept_ways") (by trivial),yP]
 ·rw [kH (f:="kept_entries") (g:="kept_state") (by trivial),kH (f:="kept_words") (g:="kept_state") (by trivial),kH (f:="kept_pours") (g:="kept_state") (by trivial),yP]
 ·rw [kH (f:="kept_entries") (g:="kept_pours") (by trivial),kH (f:="kept_words") (g:="kept_pours") (by trivial),yP]
 ·rw [kH (f:="kept_entries") (g:="kept_words") (by trivial),yP]
 ·rw [yP]
 ·rw [kH n6,kH O,kH n4,kH Z,kH Y,kH n1,kH S];rfl
variable {v0 v1 v2 v3 v4 v5 v6:V}
theorem BkFld.put2 (z:V) (h:BkFld fs v0 v1 v2 v3 v4 v5 v6):BkFld (jS "kept_ways" z fs) v0 v1 z v3 v4 v5 v6:=by
 obtain ⟨G,I,h2,Z,J,Y,O,S⟩:=h;refine ⟨?_,?_,?_,?_,?_,?_,?_,fun m F n1 l n3 n4 E n6=>?_⟩
 ·rw [kH (f:="kept_ways") (g:="kept_canal") (by trivial)];exact G
 ·rw [kH (f:="kept_ways") (g:="kept_names") (by trivial)];exact I
 ·rw [yP]
 ·rw [kH (f:="kept_ways") (g:="kept_state") (by trivial)];exact Z
 ·rw [kH (f:="kept_ways") (g:="kept_pours") (by trivial)];exact J
 ·rw [kH (f:="kept_ways") (g:="kept_words") (by trivial)];exact Y
 ·rw [kH (f:="kept_ways") (g:="kept_entries") (by trivial)];exact O
 ·rw [kH l];exact S m F n1 l n3 n4 E n6
theorem BkFld.put3 (z:V) (h:BkFld fs v0 v1 v2 v3 v4 v5 v6):BkFld (jS "kept_state" z fs) v0 v1 v2 z v4 v5 v6:=by
 obtain ⟨I,J,F,h3,O,Z,S,Y⟩:=h;refine ⟨?_,?_,?_,?_,?_,?_,?_,fun m G n1 n2 l n4 E n6=>?_⟩
 ·rw [kH (f:="kept_state") (g:="kept_canal") (by trivial)];exact I
 ·rw [kH (f:="kept_state") (g:="kept_names") (by trivial)];exact J
 ·rw [kH (f:="kept_state") (g:="kept_ways") (by trivial)];exact F
 ·rw [yP]
 ·rw [kH (f:="kept_state") (g:="kept_pours") (by trivial)];exact O
 ·rw [kH (f:="kept_state") (g:="kept_words") (by trivial)];exact Z
 ·rw [kH (f:="kept_state") (g:="kept_entries") (by trivial)];exact S
 ·rw [kH l];exact Y m G n1 n2 l n4 E n6
theorem BkFld.no (h:BkFld fs v0 v1 v2 v3 v4 v5 v6) (E:¬m="kept_canal") (J:¬m="kept_names") (F:¬m="kept_ways") (G:¬m="kept_state") (I:¬m="kept_pours") (l:¬m="kept_words") (O:¬m="kept_entries"):fs.lookup m=none:=h.2.2.2.2.2.2.2 m E J F G I l O
theorem vY (H:Hp) (A:List Addr):Same (kB H A) H:=fun a o e=>by
 by_cases h:a∈A
 ·rw [zJ h] at e;cases e
 ·rw [vB h] at e;exact e
variable {A:List Addr}
theorem y7 (s:Same H H'):Same (kB H A) (kB H' A):=fun a o e=>by
 by_cases h:a∈A
 ·rw [zJ h] at e;cases e
 ·rw [vB h] at e ⊢;exact s a o e
theorem T3 {B:List Addr} (h:∀a∈B,a∈A):Same (kB H A) (kB H B):=fun a o e=>by
 by_cases l:a∈A
 ·rw [zJ l] at e;cases e
 ·rw [vB l] at e;rw [vB fun z=>l (h a z)];exact e
theorem VG (h:a∈A):kB (upd H a o) A=kB H A:=by
 funext b
 by_cases l:b∈A
 ·rw [zJ l,zJ l]
 ·rw [vB l,vB l,jQ (fun z=>l (by rw [z];exact h))]
theorem put3 {b:Addr} {o' u:HO} (h:H a=none) (l:H b=some u):upd (upd H a o) b o' a=some o:=by
 rw [jQ (qE l h).symm];exact jF
theorem StAt.del {d:Int} (G:∀a∈A,∀l,H a≠some (.tup l)) (h:StAt H t d ms pl):StAt (kB H A) t d ms pl:=by
 obtain ⟨I,O,F,E,J⟩:=h;have k:∀(a:Addr) (l:List V),H a=some (.tup l)->kB H A a=some (.tup l):=fun a l e=>by rw [vB fun z=>G a z l e];exact e
 exact ⟨I,O,k _ _ F,k _ _ E,k _ _ J⟩
theorem WyAt.del (I:∀a∈A,∀l,H a≠some (.tup l)) (v:V) (y:vD) (h:WyAt H v y):WyAt (kB H A) v y:=by
 have k:∀(a:Addr) (l:List V),H a=some (.tup l)->kB H A a=some (.tup l):=fun a l e=>by rw [vB fun z=>I a z l e];exact e
 obtain ⟨t,E,O,e,G,F,J⟩:=h;exact ⟨t,E,O,e,k _ _ G,k _ _ F,J.mono fun v p ⟨t,e,h⟩=>⟨t,e,k _ _ h⟩⟩
theorem c8 (h:n<=8):n<=100:=aI h (by decide)
def WdAt (H:Hp) (v:V) (p:Str×List Str):Prop:=∃t l:Addr,v=.ref t/\H t=some (.tup [.str p.1,.ref l])/\H l=some (.lst (p.2.map V.str))
theorem WdAt.same (s:Same H H') (v:V) (p:Str×List Str):WdAt H v p->WdAt H' v p:=fun ⟨t,l,e,h,E⟩=>⟨t,l,e,s _ _ h,s _ _ E⟩
def WdNew (h:Hp) (D:Addr) (H:Hp) (v:V) (p:Str×List Str):Prop:=∃t l:Addr,v=.ref t/\h t=none/\h l=none/\l≠D/\H t=some (.tup [.str p.1,.ref l])/\H l=some (.lst (p.2.map V.str))
theorem WdNew.same {h:Hp} {D:Addr} (s:Same H H') (v:V) (p:Str×List Str):WdNew h D H v p->WdNew h D H' v p:=fun ⟨t,l,e,J,G,I,F,E⟩=>⟨t,l,e,J,G,I,s _ _ F,s _ _ E⟩
theorem WdNew.put {E:Hp} {D:Addr} (I:H D=some (.lst ys)) (v:V) (p:Str×List Str):WdNew E D H v p->WdNew E D (upd H D o) v p:=fun ⟨t,l,e,O,J,F,h,G⟩=>⟨t,l,e,O,J,F,by rw [jQ (yC h I (fun z=>nomatch z))];exact h,by rw [jQ F];exact G⟩
structure BkS where
 zs:List Str
 ys:List vD
 d:Int
 ms:List Int
 pl:List Nat
 us:List V
 st:Addr
 ps:List V
 pd:List (Nat×Nat×Int)
 qs:List V
 qd:List (Str×List Str)
 es:List V
structure BkOk (R:List RC) (L:List LC) (N:List (List (Int×Int))) (B:BkS):Prop where
 dr:Drawn R L N
 fl:Fleet L B.ys B.pl
 ml:B.ms.length=R.length+2*L.length+2
 d0:0<=B.d
 zl:B.zs.length=B.ys.length
 z9:B.zs.length<=9
 e15:B.es.length<=57
 pn:B.ps.length<=24*B.es.length
 qn:B.qs.length<=B.es.length
 pr:∀z∈B.ps,∃c,z=.ref c
 er:∀z∈B.es,∃c,z=.ref c
structure BkAt (cs:Kd->Addr) (cR cN cO:Addr) (A:List Addr) (H:Hp) (b x:Addr) (R:List RC) (L:List LC) (N:List (List (Int×Int))) (B:BkS):Prop where
 ob:∃(db nl wl pl ql el:Addr) (fs:List (Str×V)),A.take 5=[b,nl,pl,ql,el]/\H b=some (.ins cO db fs)/\fs.length<=7+2*B.es.length/\BkFld fs (.ref x) (.ref nl) (.ref wl) (.ref B.st) (.ref pl) (.ref ql) (.ref el)/\H nl=some (.lst (B.zs.map V.str))/\H pl=some (.lst B.ps)/\H ql=some (.lst B.qs)/\H el=some (.lst B.es)/\[nl,pl,ql,el].Nodup/\kB H A wl=some (.lst B.us)
 cn:CnAt cs cR cN [] (kB H A) x R L N
 wy:AllAt (WyAt (kB H A)) B.us B.ys
 sts:StAt (kB H A) B.st B.d B.ms B.pl
 wd:AllAt (WdAt (kB H A)) B.qs B.qd
 pp:PoursH (kB H A) B.ps B.pd B.ms.length
 ok:BkOk R L N B
 tr:∀a∈A,∃o,H a=some o/\∀l,o≠.tup l
section
variable {cs:Kd->Addr} {cR cN cO:Addr} {A:List Addr} {H H':Hp} {b x:Addr} {R:List RC} {L:List LC} {N:List (List (Int×Int))} {B:BkS}
theorem BkAt.same (s:Same H H') (h:BkAt cs cR cN cO A H b x R L N B):BkAt cs cR cN cO A H' b x R L N B:=by
 obtain ⟨J,E,O,pl,ql,el,fs,V,h1,S,h3,G,I,h6,F,Y,Z⟩:=h.ob;have l:Same (kB H A) (kB H' A):=y7 s;exact ⟨⟨J,E,O,pl,ql,el,fs,V,s _ _ h1,S,h3,s _ _ G,s _ _ I,s _ _ h6,s _ _ F,Y,l _ _ Z⟩,h.cn.same l,h.wy.mono (WyAt.same l),h.sts.same l,h.wd.mono (WdAt.same l),h.pp.same l,h.ok,fun a ha=>(h.tr a ha).imp fun o z=>⟨s _ _ z.1,z.2⟩⟩
theorem BkAt.cnH (h:BkAt cs cR cN cO A H b x R L N B):CnAt cs cR cN [] H x R L N:=h.cn.same (vY _ _)
theorem BkAt.wyH (h:BkAt cs cR cN cO A H b x R L N B):AllAt (WyAt H) B.us B.ys:=h.wy.mono (WyAt.same (vY _ _))
theorem BkAt.stH (h:BkAt cs cR cN cO A H b x R L N B):StAt H B.st B.d B.ms B.pl:=h.sts.same (vY _ _)
theorem BkAt.stage {l:Addr} (h:BkAt cs cR cN cO A H b x R L N B) (E:H l=some (.lst B.us)):Stage cs cR cN [] H x l B.st B.us R L N B.ys B.d B.ms B.pl:=⟨h.cnH,h.ok.dr,E,h.wyH,h.stH,h.ok.fl,h.ok.ml⟩
theorem BkAt.ins (h:BkAt cs cR cN cO A H b x R L N B):∃(E:Addr) (fs:List (Str×V)),H b=some (.ins cO E fs)/\∀m:Str,m∉(["kept_canal","kept_names","kept_ways","kept_state","kept_pours","kept_words","kept_entries"]:List Str)->fs.lookup m=none:=by
 obtain ⟨E,I,S,pl,O,J,fs,_,F,_,G,_⟩:=h.ob;refine ⟨E,fs,F,fun m l=>?_⟩;simp only [aj,au,bv,not_or] at l;exact G.no l.1 l.2.1 l.2.2.1 l.2.2.2.1 l.2.2.2.2.1 l.2.2.2.2.2.1 l.2.2.2.2.2.2
end
def vE (cs:Kd->Addr) (cR cN h:Addr) (P:BkS->Hp->VK->Prop):Sp:=fun vs H Q _=>∃b x A R L N B,vs=[.ref b]/\BkAt cs cR cN h A H b x R L N B/\P B H Q
def ZL (cs:Kd->Addr) (cR cN h:Addr):Sp:=fun vs H Q _=>∃b x A R L N B,vs=[.ref b]/\BkAt cs cR cN h A H b x R L N B/\Q (.ref x) H
def yZ (f:BkS->List V) (B:BkS) (H:Hp) (Q:VK):Prop:=∀l H',Same H H'->H l=none->H' l=some (.lst (f B))->Q (.ref l) H'
def ZJ (B:BkS) (H:Hp) (Q:VK):Prop:=Q (.ref B.st) H
def FN (B:BkS) (H:Hp) (Q:VK):Prop:=∀l vs H',Same H H'->H l=none->H' l=some (.lst vs)->AllAt (WdNew H l H') vs B.qd->Q (.ref l) H'
def gK (R:List RC) (L:List LC) (B:BkS):Prop:=B.zs=[]/\B.ys=[]/\B.d=0/\B.pl=[]/\B.us=[]/\B.ps=[]/\B.pd=[]/\B.qd=[]/\B.es=[]/\∃gs,Spl (qK R L.length) (yJ R L.length) gs/\B.ms=QL (yJ R L.length) (qK R L.length) gs
def lB (cs:Kd->Addr) (cR cN h:Addr):Sp:=fun vs H Q _=>∃b l x R L N,vs=[.ref b,.ref x]/\H b=some (.ins h l [])/\CnAt cs cR cN [] (kB H [b]) x R L N/\Drawn R L N/\
 ∀A B H',BkAt cs cR cN h A H' b x R L N B->gK R L B->Same (kB H [b]) (kB H' A)->Q .non H'
structure IniJ (H0 Hi:Hp) (b db cO:Addr) (fs:List (Str×V)) (n:Nat) (ls:List Addr):Prop where
 jb:Hi b=some (.ins cO db fs)
 jn:fs.length<=n
 jl:∀c∈ls,Hi c=some (.lst [])
 jnd:ls.Nodup
 jd:Same (kB H0 [b]) (kB Hi (b::ls))
section
variable {H0 Hi Hj:Hp} {b db cO a:Addr} {fs:List (Str×V)} {n:Nat} {ls:List Addr}
theorem IniJ.same (h:IniJ H0 Hi b db cO fs n ls) (s:Same Hi Hj):IniJ H0 Hj b db cO fs n ls:=⟨s _ _ h.jb,h.jn,fun c l=>s _ _ (h.jl c l),h.jnd,h.jd.trans (y7 s)⟩
theorem IniJ.set (h:IniJ H0 Hi b db cO fs n ls) (f:Str) (z:V):∃H',upd Hi b (.ins cO db (jS f z fs))=H'/\IniJ H0 H' b db cO (jS f z fs) (n+1) ls/\Keep b Hi H':=by
 refine ⟨_,rfl,⟨jF,aI (zO f z fs) (Nat.succ_le_succ h.jn),fun c l=>?_,h.jnd,?_⟩,(Keep.refl b Hi).upd _⟩
 ·rw [jQ (yC (h.jl c l) h.jb (fun z=>nomatch z))];exact h.jl c l
 ·rw [VG bq];exact h.jd
theorem IniJ.step (h:IniJ H0 Hi b db cO fs n ls) (F:Hi a=none) (f:Str):∃H',upd (upd Hi a (.lst [])) b (.ins cO db (jS f (.ref a) fs))=H'/\IniJ H0 H' b db cO (jS f (.ref a) fs) (n+1) (a::ls)/\∀t l,Hi t=some (.tup l)->H' t=some (.tup l):=by
 have u:=jL F (.lst []);obtain ⟨H',e,J,k⟩:=(h.same u).set f (.ref a);have I:a≠b:=(qE h.jb F).symm;refine ⟨H',e,⟨J.jb,J.jn,fun c E=>?_,ec.mpr ⟨fun z=>(by rw [h.jl a z] at F;cases F),h.jnd⟩,?_⟩,fun t l S=>k _ _ (yC (u _ _ S) (u _ _ h.jb) (fun z=>nomatch z)) (u _ _ S)⟩
 ·rcases aj.mp E with rfl|E
  ·exact k _ _ I jF
  ·exact J.jl c E
 ·refine h.jd.trans fun c o E=>?_
  by_cases G:c∈b::ls
  ·rw [zJ G] at E;cases E
  ·rw [vB G] at E;have V:=qE E F;have O:c≠b:=fun z=>G (by rw [z];exact bq)
   rw [vB fun z=>?_]
   ·exact k _ _ O (u _ _ E)
   ·rcases aj.mp z with z|z
    ·exact O z
    ·rcases aj.mp z with z|z
     ·exact V z
     ·exact G (aF _ z)
theorem StAt.tup {H H':Hp} {t:Addr} {d:Int} {ms:List Int} {pl:List Nat} (k:∀t l,H t=some (.tup l)->H' t=some (.tup l)) (h:StAt H t d ms pl):StAt H' t d ms pl:=by
 obtain ⟨G,J,F,E,I⟩:=h;exact ⟨G,J,k _ _ F,k _ _ E,k _ _ I⟩
end
def xC (S:Str) (c:Nat):Bool := !(Builtin.Str.occurrences S ⟨#[c]⟩ 0 S.length 1).isEmpty
def gP (S w:Str) (i:Nat):Bool:=(w.cps.toList.take i).all (xC S)
theorem SR {S w:Str} {c:Nat} (h:w.cps[i]?=some c):gP S w (i+1)=(gP S w i&&xC S c):=by
 unfold gP;rw [aV,show w.cps.toList[i]?=some c by rw [Array.getElem?_toList];exact h,all_append];simp
def QJ (S w:Str):Bool:=decide (0<w.length)&&decide (w.length<13)&&gP S w w.cps.size
theorem tU (zs:List Str):(zs.map V.str).all vZ=true:=by rw [all_map,dm];intro _ _;rfl
theorem U4 (h:QV zs nm):zE (.str nm) (zs.map V.str)=false:=by
 unfold zE;rw [any_map,dw];intro e;obtain ⟨z,E,e⟩:=any_eq_true.mp e;obtain ⟨i,l⟩:=gd.mp E;have e:(z == nm)=true:=e;rw [eq_of_beq e] at l;exact h i l
theorem in_iff:zE (.str nm) (zs.map V.str)=true↔¬QV zs nm:=by
 refine ⟨fun h l=>?_,fun h=>?_⟩
 ·rw [U4 l] at h;cases h
 ·cases e:zE (.str nm) (zs.map V.str) with
  |true=>rfl
  |false =>
   refine absurd (fun i E=>?_) h;unfold zE at e;rw [any_map,dw] at e;exact e (any_eq_true.mpr ⟨nm,az E,by show (nm == nm)=true;exact iu nm⟩)
open Classical in
def E9:Sp:=fun vs H Q _=>∃w S:Str,vs=[.str w,.str S]/\w.length<=100/\∀H',Same H H'->Q (.bl (QJ S w)) H'
def DJ:Sp:=fun vs H Q _=>∃w:Str,vs=[.str w]/\w.length<=100/\∀H',Same H H'->Q (.bl (QJ ZE w)) H'
open Classical in
noncomputable def vI (R:List RC) (L:List LC) (zs:List Str) (e:CoE):Nat:=if QJ ZE e.name=false then 1 else if e.name∈zs then 2 else if 9<=zs.length then 3 else match zX R L e with
 |none=>4
 |some y=>if bU L y.1 y.2 then 0 else 5
def gO (h F l E eL:Addr) (c:Nat):Addr:=if c=1 then h else if c=2 then F else if c=3 then l else if c=4 then E else eL
theorem mem_inV:zE (V.str nm) (zs.map V.str)=true↔nm∈zs:=by
 rw [in_iff];constructor
 ·intro h
  rcases TU zs nm with ⟨i,l⟩|E
  ·exact az l.1
  ·exact absurd E h
 ·intro h F;obtain ⟨i,l⟩:=gd.mp h;exact F i l
theorem SA (h:FirstAt zs nm j):j<(zs.map V.str).length/\vX ((zs.map V.str).getD j .non) (.str nm)=true/\∀i,i<j->vX ((zs.map V.str).getD i .non) (.str nm)=false:=by
 have F:=(ae.mp h.1).1;refine ⟨by rw [ac];exact F,?_,fun i E=>?_⟩
 ·rw [af,ar,h.1];show (nm == nm)=true;exact iu nm
 ·have l:zs[i]?=some zs[i]:=aa (by lia);rw [af,ar,l];show (zs[i] == nm)=false;exact dc.mpr fun e=>h.2 i E (by rw [l,e])
theorem tS {e:CoE} {y:vD} (h:zX R L e=some y):∃a:Nat,y.1=(a:Int)/\kK (R.map (·.name)) e.start=some a/\a<R.length/\y.2.length=e.steps.length/\∀p∈y.2,p.1<L.length:=by
 unfold zX at h;cases E:kK (R.map (·.name)) e.start with
 |none=>rw [E] at h;cases h
 |some a =>
  rw [E] at h;obtain ⟨ps,l,rfl⟩:=aT.mp h;have F:=bA E;rw [ac] at F;obtain ⟨G,I⟩:=tW l;exact ⟨a,rfl,rfl,F,G,fun p J=>by have:=I p J;rwa [ac] at this⟩
open Classical in
theorem uU {R:List RC} {L:List LC} {zs:List Str} {e:CoE} (h:vI R L zs e=0):∃y,zX R L e=some y/\bU L y.1 y.2/\e.name∉zs/\zs.length<9:=by
 unfold vI at h
 by_cases G:QJ ZE e.name=false
 ·rw [if_pos G] at h;cases h
 rw [if_neg G] at h
 by_cases E:e.name∈zs
 ·rw [if_pos E] at h;cases h
 rw [if_neg E] at h
 by_cases I:9<=zs.length
 ·rw [if_pos I] at h;cases h
 rw [if_neg I] at h;cases F:zX R L e with
 |none=>rw [F] at h;cases h
 |some y =>
  rw [F] at h
  by_cases l:bU L y.1 y.2
  ·exact ⟨y,rfl,l,E,by lia⟩
  ·have h:(if bU L y.1 y.2 then 0 else 5)=0:=h;rw [if_neg l] at h;cases h
theorem T8 (R:List RC) (L:List LC) (zs:List Str) (e:CoE):vI R L zs e<=5:=by
 unfold vI
 split
 ·decide
 split
 ·decide
 split
 ·decide
 split
 ·decide
 split<;>decide
inductive Ent
 |come (e:CoE)
 |pas (n:Str)
 |lt (n:Str)
 |night (W:List (Int×Int))
 |take (n:Str) (a:Int)
 |rain (n:Str) (a:Int)
def EnAt (H:Hp) (t:Addr):Ent->Prop
 |.come e=>CoAt H t e
 |.pas n=>H t=some (.tup [.str "pass",.str n])
 |.lt n=>H t=some (.tup [.str "let",.str n])
 |.night W=>∃h us,H t=some (.tup [.str "night",.ref h])/\H h=some (.tup us)/\AllAt (QAt H) us W
 |.take n a=>H t=some (.tup [.str "take",.str n,.int a])
 |.rain n a=>H t=some (.tup [.str "rain",.str n,.int a])
theorem EnAt.same {H H':Hp} {t:Addr} (s:Same H H'):∀{e:Ent},EnAt H t e->EnAt H' t e
 |.come _,h=>CoAt.same s h
 |.pas _,h=>s _ _ h
 |.lt _,h=>s _ _ h
 |.night _,⟨F,us,E,l,G⟩=>⟨F,us,s _ _ E,s _ _ l,G.mono (QAt.same s)⟩
 |.take _ _,h=>s _ _ h
 |.rain _ _,h=>s _ _ h
def Z1:Ent->Prop
 |.come e=>e.name.length<=100/\e.steps.length<=8/\1<=e.steps.length
 |.night W=>W.length<=100
 |_=>True
def JU:Ent->Str
 |.come _=>"come"
 |.pas _=>"pass"
 |.lt _=>"let"
 |.night _=>"night"
 |.take _ _=>"take"
 |.rain _ _=>"rain"
theorem yO {x:V} {l:List V}:vO (x::l) 0=some x:=qH (j:=0) rfl
theorem EnAt.head:∀{e:Ent},EnAt H t e->∃l,H t=some (.tup (.str (JU e)::l))
 |.come _,⟨_,_,h,_⟩=>⟨_,h⟩
 |.pas _,h=>⟨_,h⟩
 |.lt _,h=>⟨_,h⟩
 |.night _,⟨_,_,h,_⟩=>⟨_,h⟩
 |.take _ _,h=>⟨_,h⟩
 |.rain _ _,h=>⟨_,h⟩
def ZS (R:List RC) (L:List LC) (zs:List Str):Ent->Option Nat
 |.pas n=>kK zs n
 |.lt n=>kK (L.map (·.name)) n
 |.take n _=>kK (R.map (·.name)) n
 |.rain n _=>kK (R.map (·.name)) n
 |_=>none
def ZP:Ent->Bool
 |.come _=>false
 |.night _=>false
 |_=>true
noncomputable def qI (R:List RC) (L:List LC) (N:List (List (Int×Int))) (B:BkS):Ent->Nat
 |.come e=>vI R L B.zs e
 |.night W=>if W.length=R.length then (if B.d<(N.length:Int)/\gL W (N.getD B.d.toNat [])=false then 8 else 0) else 7
 |e=>if ZS R L B.zs e=none then 4 else 0
def mP (R:List RC) (L:List LC) (B:BkS) (e:CoE):Bool:=match zX R L e with
 |some y=>decide (((R[y.1.toNat]?).map (·.berths)).getD 0<=(((zA L B.ys B.pl).countP fun z=>decide (z=y.1):Nat):Int))
 |none=>false
def yA (R:List RC) (L:List LC) (zs:List Str):Ent->Option Deed
 |.pas n=>(kK zs n).map Deed.pass
 |.lt n=>(kK (L.map (·.name)) n).map Deed.let
 |.night _=>some .night
 |_=>none
def vV (R:List RC) (L:List LC) (N:List (List (Int×Int))) (B:BkS):Ent->Str
 |.come e=>if mP R L B e=true then "berth" else ""
 |.take n a=>match kK (R.map (·.name)) n with
  |some i=>if B.ms.getD i 0 - a<((R[i]?).map (·.least)).getD 0 then "water" else ""
  |none=>""
 |.rain _ _=>""
 |e=>match yA R L B.zs e with
  |some h=>Q4 R L N.length B.ys B.d B.ms B.pl h
  |none=>""
def ZX (l G F I eL E h:Addr) (c:Nat):Addr:=if c=7 then E else if c=8 then h else gO l G F I eL c
def qW (cs:Kd->Addr) (cR cN h:Addr) (P:List RC->List LC->List (List (Int×Int))->BkS->Addr->Ent->Hp->VK->XK->Prop):Sp:=fun vs H Q E=>∃b t x A R L N B e,vs=[.ref b,.ref t]/\BkAt cs cR cN h A H b x R L N B/\EnAt H t e/\Z1 e/\P R L N B t e H Q E
def cZ (h:Addr) (R:List RC) (L:List LC) (_:List (List (Int×Int))) (B:BkS) (_:Addr) (e:Ent) (H:Hp) (Q:VK) (E:XK):Prop:=ZP e=true/\(∀i,ZS R L B.zs e=some i->∀H',Same H H'->Q (.int ((i:Nat):Int)) H')/\(ZS R L B.zs e=none->∀H',Same H H'->E (.ref h) none H')
def GP (l I G J eL F h:Addr) (R:List RC) (L:List LC) (N:List (List (Int×Int))) (B:BkS) (_:Addr) (e:Ent) (H:Hp) (Q:VK) (E:XK):Prop:=(qI R L N B e=0->∀H',Same H H'->Q .non H')/\(qI R L N B e≠0->∀H',Same H H'->E (.ref (ZX l I G J eL F h (qI R L N B e))) none H')
def FF (h:Addr):Sp:=fun vs H Q E=>∃nm l zs,vs=[.str nm,.ref l]/\H l=some (.lst (zs.map V.str))/\zs.length<=100/\(∀i,kK zs nm=some i->Q (.int ((i:Nat):Int)) H)/\(kK zs nm=none->E (.ref h) none H)
def B8 (cs:Kd->Addr) (cR cN h l G F I eL:Addr):Sp:=fun vs H Q E=>∃b t x A R L N B e,vs=[.ref b,.ref t]/\BkAt cs cR cN h A H b x R L N B/\CoAt H t e/\Z1 (.come e)/\(vI R L B.zs e=0->∀H',Same H H'->Q .non H')/\(vI R L B.zs e≠0->∀H',Same H H'->E (.ref (gO l G F I eL (vI R L B.zs e))) none H')
def BJ (cs:Kd->Addr) (cR cN F I G:Addr):Sp:=fun vs H Q E=>∃b h x A R L N B l W,vs=[.ref b,.ref h]/\BkAt cs cR cN F A H b x R L N B/\H h=some (.tup l)/\AllAt (QAt H) l W/\W.length<=100/\(qI R L N B (.night W)=0->∀H',Same H H'->Q .non H')/\(qI R L N B (.night W)=7->∀H',Same H H'->E (.ref I) none H')/\(qI R L N B (.night W)=8->∀H',Same H H'->E (.ref G) none H')
def mX (R:List RC) (L:List LC) (_:List (List (Int×Int))) (B:BkS) (_:Addr) (e:Ent) (H:Hp) (Q:VK) (_:XK):Prop:=∃h,yA R L B.zs e=some h/\∀l H',Same H H'->H' l=some (.tup (m9 h))->Q (.ref l) H'
def GC (R:List RC) (_:List LC) (_:List (List (Int×Int))) (B:BkS) (_:Addr) (e:Ent) (H:Hp) (Q:VK) (_:XK):Prop:=∃n a i,e=.take n a/\kK (R.map (·.name)) n=some i/\∀H',Same H H'->Q (.bl (decide (B.ms.getD i 0 - a<((R[i]?).map (·.least)).getD 0))) H'
def GO (R:List RC) (L:List LC) (N:List (List (Int×Int))) (B:BkS) (_:Addr) (e:Ent) (H:Hp) (Q:VK) (_:XK):Prop:=qI R L N B e=0/\∀H',Same H H'->Q (.str (vV R L N B e)) H'
variable {B:BkS} {e:Ent}
theorem bC (h:ZP e=true) (l:qI R L N B e=0):∃i,ZS R L B.zs e=some i:=by
 cases E:ZS R L B.zs e with
 |some i=>exact ⟨i,rfl⟩
 |none =>
  have:qI R L N B e=if ZS R L B.zs e=none then 4 else 0:=by cases e<;>first|rfl|cases h
  rw [E,if_pos rfl,l] at this;cases this
def bH:Ent->Bool
 |.pas _=>true
 |.lt _=>true
 |.night _=>true
 |_=>false
theorem DT:∀{e:Ent},ZP e=true->JU e≠"come"/\JU e≠"night"
 |.pas _,_=>⟨(show ("pass":Str)≠"come" by trivial),(show ("pass":Str)≠"night" by trivial)⟩
 |.lt _,_=>⟨(show ("let":Str)≠"come" by trivial),(show ("let":Str)≠"night" by trivial)⟩
 |.take _ _,_=>⟨(show ("take":Str)≠"come" by trivial),(show ("take":Str)≠"night" by trivial)⟩
 |.rain _ _,_=>⟨(show ("rain":Str)≠"come" by trivial),(show ("rain":Str)≠"night" by trivial)⟩
theorem t7:∀{e:Ent},bH e=true->JU e≠"come"/\JU e≠"take"/\JU e≠"rain"
 |.pas _,_=>⟨(show ("pass":Str)≠"come" by trivial),(show ("pass":Str)≠"take" by trivial),(show ("pass":Str)≠"rain" by trivial)⟩
 |.lt _,_=>⟨(show ("let":Str)≠"come" by trivial),(show ("let":Str)≠"take" by trivial),(show ("let":Str)≠"rain" by trivial)⟩
 |.night _,_=>⟨(show ("night":Str)≠"come" by trivial),(show ("night":Str)≠"take" by trivial),(show ("night":Str)≠"rain" by trivial)⟩
theorem uA:∀e:Ent,JU e≠"come"\/∃h,e=.come h
 |.come e=>.inr ⟨e,rfl⟩
 |.pas _=>.inl (show ("pass":Str)≠"come" by trivial)
 |.lt _=>.inl (show ("let":Str)≠"come" by trivial)
 |.night _=>.inl (show ("night":Str)≠"come" by trivial)
 |.take _ _=>.inl (show ("take":Str)≠"come" by trivial)
 |.rain _ _=>.inl (show ("rain":Str)≠"come" by trivial)
theorem R5:∀e:Ent,(JU e≠"let"/\JU e≠"pass")\/(∃n,e=.pas n)\/∃n,e=.lt n
 |.pas n=>.inr (.inl ⟨n,rfl⟩)
 |.lt n=>.inr (.inr ⟨n,rfl⟩)
 |.come _=>.inl ⟨(show ("come":Str)≠"let" by trivial),(show ("come":Str)≠"pass" by trivial)⟩
 |.night _=>.inl ⟨(show ("night":Str)≠"let" by trivial),(show ("night":Str)≠"pass" by trivial)⟩
 |.take _ _=>.inl ⟨(show ("take":Str)≠"let" by trivial),(show ("take":Str)≠"pass" by trivial)⟩
 |.rain _ _=>.inl ⟨(show ("rain":Str)≠"let" by trivial),(show ("rain":Str)≠"pass" by trivial)⟩
theorem wJ (I:B.zs.length=B.ys.length) (h:bH e=true) (G:qI R L N B e=0):∃E,yA R L B.zs e=some E/\wU B.ys.length L.length E/\vV R L N B e=Q4 R L N.length B.ys B.d B.ms B.pl E/\(ZP e=true->E≠.night/\(Q0 R L N B.ys B.d B.ms B.pl E).length<=4):=by
 cases e with
 |night W=>exact ⟨.night,rfl,trivial,rfl,fun z=>nomatch z⟩
 |pas n =>
  obtain ⟨i,l⟩:=bC (e:=.pas n) rfl G;have l:kK B.zs n=some i:=l;have F:yA R L B.zs (.pas n)=some (.pass i):=by show (kK B.zs n).map Deed.pass=_;rw [l];rfl
  refine ⟨.pass i,F,?_,?_,fun _=>⟨(fun z=>nomatch z),CG _ _ _ _⟩⟩
  ·have:=bA l;show i<B.ys.length
   lia
  ·show (match yA R L B.zs (.pas n) with|some E=>Q4 R L N.length B.ys B.d B.ms B.pl E|none=>"")=_;rw [F]
 |lt n =>
  obtain ⟨i,l⟩:=bC (e:=.lt n) rfl G;have l:kK (L.map (·.name)) n=some i:=l;have F:yA R L B.zs (.lt n)=some (.let i):=by show (kK (L.map (·.name)) n).map Deed.let=_;rw [l];rfl
  refine ⟨.let i,F,?_,?_,fun _=>⟨(fun z=>nomatch z),DQ _ _ _ _⟩⟩
  ·have:=bA l
   rwa [ac] at this
  ·show (match yA R L B.zs (.lt n) with|some E=>Q4 R L N.length B.ys B.d B.ms B.pl E|none=>"")=_;rw [F]
 |come e=>cases h
 |take n a=>cases h
 |rain n a=>cases h
theorem OJ (h:n<=2000):n<=sizeLine:=aI h (by show 2000<=2 ^ 24;decide)
def ZG (s t:Nat) (a:Int):List (Nat×Nat×Int):=if a=0 then [] else [(s,t,a)]
def eQ (R:List RC) (L:List LC) (N:List (List (Int×Int))) (B:BkS):Ent->List (Nat×Nat×Int)
 |.come _=>[]
 |.take n a=>match kK (R.map (·.name)) n with|some i=>ZG i (R.length+2*L.length+1) a|none=>[]
 |.rain n a=>match kK (R.map (·.name)) n with|some i=>ZG (R.length+2*L.length+1) i a|none=>[]
 |.night W=>(QG (R.length+2*L.length+1) B.ms W R.length).filter vA
 |.pas n=>match yA R L B.zs (.pas n) with|some h=>Q0 R L N B.ys B.d B.ms B.pl h|none=>[]
 |.lt n=>match yA R L B.zs (.lt n) with|some h=>Q0 R L N B.ys B.d B.ms B.pl h|none=>[]
def uX:Ent->Bool
 |.come _=>false
 |.take _ _=>false
 |_=>true
def YN (R:List RC) (L:List LC) (gs:List Int):List (Nat×Nat×Int):=(yV (qL (qK R L.length)) (fun a=>gs.getD a 0) (qK R L.length).length).filter vA
def PourE (R:List RC) (L:List LC) (N:List (List (Int×Int))) (B:BkS) (e:Ent) (qs:List (Nat×Nat×Int)):Prop:=(uX e=false/\qs=eQ R L N B e)\/(uX e=true/\∃gs,Spl (qK R L.length) (k7 B.ms (eQ R L N B e)) gs/\qs=eQ R L N B e++YN R L gs)
theorem PourE.unique {l:List (Nat×Nat×Int)} (G:Drawn R L N) (h:PourE R L N B e qs) (h':PourE R L N B e l):l=qs:=by
 rcases h with ⟨a,rfl⟩|⟨a,gs,s,rfl⟩
 ·rcases h' with ⟨_,rfl⟩|⟨b,_⟩
  ·rfl
  ·rw [a] at b;cases b
 ·rcases h' with ⟨b,_⟩|⟨_,E,F,rfl⟩
  ·rw [a] at b;cases b
  ·rw [Spl.unique (lM (fK (m:=L.length) (bZ G))) F s]
variable {de:Deed}
theorem S8:∀{e:Ent},bH e=true->ZP e=true->yA R L B.zs e=some de->eQ R L N B e=Q0 R L N B.ys B.d B.ms B.pl de/\uX e=true
 |.pas n,_,_,h=>⟨by show (match yA R L B.zs (.pas n) with|some de=>Q0 R L N B.ys B.d B.ms B.pl de|none=>[])=_;rw [h],rfl⟩
 |.lt n,_,_,h=>⟨by show (match yA R L B.zs (.lt n) with|some de=>Q0 R L N B.ys B.d B.ms B.pl de|none=>[])=_;rw [h],rfl⟩
theorem RU (G:bH e=true) (E:ZP e=true) (h:yA R L B.zs e=some de) (I:Spl (qK R L.length) (k7 B.ms (Q0 R L N B.ys B.d B.ms B.pl de)) gs):PourE R L N B e (mD R L N B.ys B.d B.ms B.pl de gs):=by
 obtain ⟨l,F⟩:=S8 (N:=N) G E h;exact .inr ⟨F,gs,by rw [l];exact I,by rw [l];rfl⟩
theorem S7 {n:Str} {a:Int} (h:ZS R L B.zs (.take n a)=some i):ZG i (R.length+2*L.length+1) a=eQ R L N B (.take n a):=by
 show _=(match kK (R.map (·.name)) n with|some i=>ZG i (R.length+2*L.length+1) a|none=>[]);rw [show kK (R.map (·.name)) n=some i from h]
theorem DN {n:Str} {a:Int} (h:ZS R L B.zs (.rain n a)=some i):eQ R L N B (.rain n a)=ZG (R.length+2*L.length+1) i a:=by
 show (match kK (R.map (·.name)) n with|some i=>ZG (R.length+2*L.length+1) i a|none=>[])=_;rw [show kK (R.map (·.name)) n=some i from h]
theorem PoursH.delT (h:PoursH H rs qs n) (J:∀a∈A,∀G,H a≠some (.tup G)):PoursH (kB H A) rs qs n:=⟨h.1,fun i r E=>by
 obtain ⟨a,s,t,m,e,F,l,O,I⟩:=h.2 i r E;exact ⟨a,s,t,m,e,F,by rw [vB fun z=>J a z _ l];exact l,O,I⟩⟩
def upT:List Str:=["open low","in low","shut low","fill","open high","out high","shut high"]
def downT:List Str:=["open high","in high","shut high","let","open low","out low","shut low"]
def cT (f w:Bool):List Str:=match f,w with
 |true,true=>([("let":Str)]:List Str)++upT
 |false,true=>([]:List Str)++upT
 |true,false=>([]:List Str)++downT
 |false,false=>([("fill":Str)]:List Str)++downT
def cY (R:List RC) (L:List LC) (B:BkS) (n:Str):Option (Str×List Str):=(kK B.zs n).bind fun i=>((B.ys.getD i (0,[])).2[B.pl.getD i 0]?).bind fun s=>(L[s.1]?).map fun h=>(h.name,cT (QK R.length B.ms s.1) s.2)
def bF (R:List RC) (L:List LC) (B:BkS):Ent->List (Str×List Str)
 |.lt n=>[(n,[("let":Str)])]
 |.pas n=>(cY R L B n).toList
 |_=>[]
theorem O3:∀{e:Ent},(JU e≠"let"/\JU e≠"pass")->bF R L B e=[]
 |.pas _,h=>absurd rfl h.2
 |.lt _,h=>absurd rfl h.1
 |.come _,_=>rfl
 |.take _ _,_=>rfl
 |.rain _ _,_=>rfl
 |.night _,_=>rfl
theorem RG {n:Str} {y:vD} {s:Nat×Bool} {h:LC} (E:kK B.zs n=some i) (l:B.ys[i]?=some y) (I:B.pl[i]?=some p) (F:y.2[p]?=some s) (G:L[s.1]?=some h):bF R L B (.pas n)=[(h.name,cT (QK R.length B.ms s.1) s.2)]:=by
 have e:cY R L B n=some (h.name,cT (QK R.length B.ms s.1) s.2):=by
  unfold cY;rw [E];show ((B.ys.getD i (0,[])).2[B.pl.getD i 0]?).bind _=_;rw [af,af,l,I];show (y.2[p]?).bind _=_;rw [F];show (L[s.1]?).map _=_;rw [G];rfl
 show (cY R L B n).toList=_;rw [e];rfl
def DD:Sp:=fun vs H Q _=>∃(s t m:Nat) (a:Int),vs=[.int (s:Int),.int (t:Int),.int a]/\s<m/\t<m/\∀r zs H',Same H H'->H r=none->H' r=some (.lst zs)->PoursH H' zs (ZG s t a) m->zs.length<=1->Q (.ref r) H'
def wR (R:List RC) (L:List LC) (N:List (List (Int×Int))) (B:BkS) (_:Addr) (e:Ent) (H:Hp) (Q:VK) (_:XK):Prop:=qI R L N B e=0/\vV R L N B e=""/\∀r zs qs H',Same H H'->H r=none->H' r=some (.lst zs)->PoursH H' zs qs B.ms.length->zs.length<=24->PourE R L N B e qs->Q (.ref r) H'
theorem uH {m:Nat} {f:Nat->Int}:((yV (qL (qK R m)) f (qK R m).length).filter vA).length<=R.length:=by
 refine aI (br _ _) ?_;unfold yV;rw [ac,dP,fN];exact ak _
theorem TC {W:List (Int×Int)} (l:qI R L N B (.night W)=0):W.length=R.length:=by
 have:qI R L N B (.night W)=if W.length=R.length then (if B.d<(N.length:Int)/\gL W (N.getD B.d.toNat [])=false then 8 else 0) else 7:=rfl
 by_cases h:W.length=R.length
 ·exact h
 ·rw [if_neg h,l] at this;cases this
def QH (R:List RC) (L:List LC) (B:BkS):Ent->List vD
 |.come e=>B.ys++(zX R L e).toList
 |_=>B.ys
def JA (R:List RC) (L:List LC) (B:BkS) (e:Ent):List Nat:=match e with
 |.come _=>B.pl++[0]
 |_=>match yA R L B.zs e with
  |some de=>ZD B.pl de
  |none=>B.pl
def ZY (B:BkS):Ent->Int
 |.night _=>B.d+1
 |_=>B.d
def JY (B:BkS):Ent->List Str
 |.come e=>B.zs++[e.name]
 |_=>B.zs
theorem WN (h:bH e=true) (l:yA R L B.zs e=some de):ZY B e=GE B.d de/\JA R L B e=ZD B.pl de:=by
 cases e with
 |come e=>cases h
 |take n a=>cases h
 |rain n a=>cases h
 |night W=>cases l;exact ⟨rfl,rfl⟩
 |pas n =>
  have E:JA R L B (.pas n)=ZD B.pl de:=by show (match yA R L B.zs (.pas n) with|some de=>ZD B.pl de|none=>B.pl)=_;rw [l]
  obtain ⟨i,_,rfl⟩:=aT.mp l;exact ⟨rfl,E⟩
 |lt n =>
  have E:JA R L B (.lt n)=ZD B.pl de:=by show (match yA R L B.zs (.lt n) with|some de=>ZD B.pl de|none=>B.pl)=_;rw [l]
  obtain ⟨i,_,rfl⟩:=aT.mp l;exact ⟨rfl,E⟩
def FO (R:List RC) (L:List LC) (N:List (List (Int×Int))) (B:BkS) (_:Addr) (e:Ent) (H:Hp) (Q:VK) (_:XK):Prop:=qI R L N B e=0/\∀l h H',Same H H'->H l=none->H' l=some (.lst h)->AllAt (WyAt H') h (QH R L B e)->Q (.ref l) H'
def EO (R:List RC) (L:List LC) (N:List (List (Int×Int))) (B:BkS) (_:Addr) (e:Ent) (H:Hp) (Q:VK) (_:XK):Prop:=qI R L N B e=0/\vV R L N B e=""/\∀h qs H',Same H H'->StAt H' h (ZY B e) (k7 B.ms qs) (JA R L B e)->PourE R L N B e qs->Q (.ref h) H'
def GB (R:List RC) (L:List LC) (N:List (List (Int×Int))) (B:BkS) (_:Addr) (e:Ent) (H:Hp) (Q:VK) (_:XK):Prop:=qI R L N B e=0/\vV R L N B e=""/\∀l vs H',Same H H'->H l=none->H' l=some (.lst vs)->AllAt (WdNew H l H') vs (bF R L B e)->vs.length<=1->Q (.ref l) H'
def DG:Sp:=fun vs H Q _=>∃f w:Bool,vs=[.bl f,.str (Z3 w)]/\∀l H',Same H H'->H l=none->H' l=some (.lst ((cT f w).map V.str))->Q (.ref l) H'
def C9 (cs:Kd->Addr) (cR cN:Addr):Sp:=fun vs H Q _=>∃(x F E:Addr) (b:Nat) (G:List V) (ys:List vD) (y:vD) (p:Nat) (s:Nat×Bool) (d:Int) (ms:List Int) (pl:List Nat) (D:List Addr) (R:List RC) (L:List LC) (N:List (List (Int×Int))),vs=[.ref x,.ref F,.ref E,.int (b:Int)]/\Stage cs cR cN D H x F E G R L N ys d ms pl/\ys[b]?=some y/\pl[b]?=some p/\y.2[p]?=some s/\
 ∀t l h H',L[s.1]?=some h->Same H H'->H t=none->H l=none->H' t=some (.tup [.str h.name,.ref l])->H' l=some (.lst ((cT (QK R.length ms s.1) s.2).map V.str))->Q (.ref t) H'
structure DoE (R:List RC) (L:List LC) (N:List (List (Int×Int))) (B:BkS) (e:Ent) (t:Addr) (B':BkS):Prop where
 zs:B'.zs=JY B e
 ys:B'.ys=QH R L B e
 d:B'.d=ZY B e
 pl:B'.pl=JA R L B e
 po:∃qs,PourE R L N B e qs/\B'.ms=k7 B.ms qs/\B'.pd=B.pd++qs
 qd:B'.qd=B.qd++bF R L B e
 es:B'.es=B.es++[.ref t]
def mM (l I G J eL F h:Addr) (R:List RC) (L:List LC) (N:List (List (Int×Int))) (B:BkS) (_:Addr) (e:Ent) (H:Hp) (Q:VK) (E:XK):Prop:=(qI R L N B e=0->∀H',Same H H'->Q (.str (vV R L N B e)) H')/\(qI R L N B e≠0->∀H',Same H H'->E (.ref (ZX l I G J eL F h (qI R L N B e))) none H')
def wC (O Y V I eL S J G:Addr) (R:List RC) (L:List LC) (N:List (List (Int×Int))) (B:BkS) (_:Addr) (e:Ent) (H:Hp) (Q:VK) (E:XK):Prop :=
 (qI R L N B e=0->vV R L N B e=""->∀p l h F qs H',Same H H'->H' p=some (.tup [.ref l,.ref h])->H l=none->H' l=some (.lst F)->AllAt (WyAt H') F (QH R L B e)->StAt H' h (ZY B e) (k7 B.ms qs) (JA R L B e)->PourE R L N B e qs->Q (.ref p) H')/\
 (qI R L N B e=0->vV R L N B e≠""->∀H',Same H H'->E (.ref G) none H')/\(qI R L N B e≠0->∀H',Same H H'->E (.ref (ZX O Y V I eL S J (qI R L N B e))) none H')
def nG (cs:Kd->Addr) (cR cN l I S O V eL J G F:Addr):Sp:=fun vs H Q E=>∃b t x A R L N B e,vs=[.ref b,.ref t]/\BkAt cs cR cN l A H b x R L N B/\EnAt H t e/\Z1 e/\
 (qI R L N B e=0->vV R L N B e=""->B.es.length<57/\∀h H',BkAt cs cR cN l A H' b x R L N h->DoE R L N B e t h->Same (kB H A) (kB H' A)->(∀a o,a∉A.take 5->H a=some o->H' a=some o)->Q .non H')/\
 (qI R L N B e=0->vV R L N B e≠""->∀H',Same H H'->E (.ref F) none H')/\(qI R L N B e≠0->∀H',Same H H'->E (.ref (ZX I S O V eL J G (qI R L N B e))) none H')
theorem mC (h:∀a,a∉A->H a=H' a):kB H A=kB H' A:=by
 funext a
 by_cases l:a∈A
 ·rw [zJ l,zJ l]
 ·rw [vB l,vB l,h a l]
theorem AllAt.app {P:V->α->Prop} {as bs:List α} (h:AllAt P xs as) (h':AllAt P ys bs):AllAt P (xs++ys) (as++bs):=by
 refine ⟨by rw [ag,ag,h.1,h'.1],fun i v l=>?_⟩
 by_cases E:i<xs.length
 ·rw [aG E] at l;rw [aG (by rw [<- h.1];exact E)];exact h.2 i v l
 ·rw [aA (by lia)] at l;rw [aA (by rw [<- h.1];lia),<- h.1];exact h'.2 _ v l
theorem RP (h:(QD pl b)[i]?=some p):∃q,pl[i]?=some q/\p=if i=b then q+1 else q:=by
 unfold QD at h;rw [ar] at h;obtain ⟨j,l,rfl⟩:=aT.mp h;have E:i<pl.length:=by
  have:=(ae.mp l).1
  rwa [bw] at this
 rw [cp E] at l;cases l;exact ⟨_,aa E,by rw [af,aa E];rfl⟩
theorem TR (ok:BkOk R L N B) (am:Z1 e) (hc:qI R L N B e=0) (hw:vV R L N B e=""):Fleet L (QH R L B e) (JA R L B e)/\(JY B e).length=(QH R L B e).length/\(JY B e).length<=9:=by
 have fl:=ok.fl;have S:=ok.zl;have O:=ok.z9;cases e with
 |come e =>
  obtain ⟨y,J,an,aD,h9⟩:=uU (show vI R L B.zs e=0 from hc);obtain ⟨a,ha,aU,a4,a3,ap⟩:=tS J;have Y:QH R L B (.come e)=B.ys++[y]:=by show B.ys++(zX R L e).toList=_;rw [J];rfl
  have l:JA R L B (.come e)=B.pl++[0]:=rfl;have Z:JY B (.come e)=B.zs++[e.name]:=rfl;have h8:=am.2.1;rw [Y,l,Z];simp only [ag,ax];refine ⟨⟨by simp only [ag,ax];rw [fl.len],by simp only [ag,ax];lia,fun y' F=>?_,fun i y' p F G=>?_⟩,by lia,by lia⟩
  ·rcases ba.mp F with h|h
   ·exact fl.ok y' h
   ·rw [aO.mp h];exact ⟨ap,an,by lia⟩
  ·by_cases E:i<B.ys.length
   ·rw [aG E] at F;rw [aG (by rw [fl.len];exact E)] at G;exact fl.le i y' p F G
   ·rw [aA (by rw [fl.len];lia)] at G;have:p=0:=by
     have h1:=(ae.mp G).1;rw [ax] at h1;rw [show i - B.pl.length=0 by lia] at G;cases G;rfl
    lia
 |pas n =>
  obtain ⟨i,E⟩:=bC (e:=.pas n) rfl hc;have E:kK B.zs n=some i:=E;have V:yA R L B.zs (.pas n)=some (.pass i):=by show (kK B.zs n).map Deed.pass=_;rw [E];rfl
  have l:JA R L B (.pas n)=QD B.pl i:=by
   show (match yA R L B.zs (.pas n) with|some de=>ZD B.pl de|none=>B.pl)=_;rw [V];rfl
  have ah:cW R L B.ys B.ms B.pl i="":=by
   have e1:vV R L N B (.pas n)=match yA R L B.zs (.pas n) with|some de=>Q4 R L N.length B.ys B.d B.ms B.pl de|none=>"":=rfl
   rw [e1,V] at hw;exact hw
  have I:=uG ah;rw [l];refine ⟨⟨by rw [i7];exact fl.len,fl.n10,fl.ok,fun j y p J G=>?_⟩,S,O⟩;have J:B.ys[j]?=some y:=J;obtain ⟨q,hq,rfl⟩:=RP G;have h1:=fl.le j y q J hq
  by_cases hj:j=i
  ·subst hj;rw [if_pos rfl];rw [af,hq,af,J] at I;have I:¬q=y.2.length:=I
   lia
  ·rw [if_neg hj];exact h1
 |lt n =>
  obtain ⟨i,E⟩:=bC (e:=.lt n) rfl hc;have E:kK (L.map (·.name)) n=some i:=E;have l:JA R L B (.lt n)=B.pl:=by
   show (match (kK (L.map (·.name)) n).map Deed.let with|some de=>ZD B.pl de|none=>B.pl)=_;rw [E];rfl
  rw [l];exact ⟨fl,S,O⟩
 |night W=>exact ⟨fl,S,O⟩
 |take n a=>exact ⟨fl,S,O⟩
 |rain n a=>exact ⟨fl,S,O⟩
theorem T5 (h:0<=B.d):0<=ZY B e:=by
 cases e
 case night W=>show 0<=B.d+1;lia
 all_goals exact h
inductive BRun (R:List RC) (L:List LC) (N:List (List (Int×Int))):List (Ent×Addr)->BkS->Prop
 |nil {B:BkS}:gK R L B->BRun R L N [] B
 |snoc {es:List (Ent×Addr)} {B B':BkS} {e:Ent} {t:Addr}:BRun R L N es B->qI R L N B e=0->vV R L N B e=""->DoE R L N B e t B'->BRun R L N (es++[(e,t)]) B'
structure BAl (B B':BkS):Prop where
 zs:B'.zs=B.zs
 ys:B'.ys=B.ys
 d:B'.d=B.d
 ms:B'.ms=B.ms
 pl:B'.pl=B.pl
 pd:B'.pd=B.pd
 qd:B'.qd=B.qd
 es:B'.es=B.es
section
variable {R:List RC} {L:List LC} {N:List (List (Int×Int))} {B B' B1 B1':BkS} {e:Ent} {t:Addr} {es:List (Ent×Addr)}
theorem BAl.told (h:BAl B B'):qI R L N B' e=qI R L N B e/\vV R L N B' e=vV R L N B e/\∀qs,PourE R L N B' e qs->PourE R L N B e qs:=by
 obtain ⟨G,E,O,F,J,I,l,S⟩:=h;cases B;cases B';simp only at G E O F J I l S;subst G E O F J I l S;cases e<;>exact ⟨rfl,rfl,fun _ z=>z⟩
theorem BAl.behind (h:BAl B B1):JY B1 e=JY B e/\QH R L B1 e=QH R L B e/\ZY B1 e=ZY B e/\JA R L B1 e=JA R L B e/\bF R L B1 e=bF R L B e:=by
 obtain ⟨G,E,O,F,J,I,l,S⟩:=h;cases B;cases B1;simp only at G E O F J I l S;subst G E O F J I l S;cases e<;>exact ⟨rfl,rfl,rfl,rfl,rfl⟩
theorem BAl.go (S:Drawn R L N) (h:BAl B B1) (a:DoE R L N B e t B') (b:DoE R L N B1 e t B1'):BAl B' B1':=by
 obtain ⟨f1,G,J,V,l⟩:=h.behind (R:=R) (L:=L) (e:=e);obtain ⟨qs,Y,O,p3⟩:=a.po;obtain ⟨Z,E,I,F⟩:=b.po;obtain rfl:=PourE.unique S Y ((h.told (R:=R) (L:=L) (N:=N) (e:=e)).2.2 _ E);exact ⟨by rw [b.zs,a.zs,f1],by rw [b.ys,a.ys,G],by rw [b.d,a.d,J],by rw [I,O,h.ms],by rw [b.pl,a.pl,V],by rw [F,p3,h.pd],by rw [b.qd,a.qd,l,h.qd],by rw [b.es,a.es,h.es]⟩
theorem V8 (V:Drawn R L N) (a:gK R L B) (b:gK R L B1):BAl B B1:=by
 obtain ⟨a1,h,a3,Z,_,_,a7,O,E,gs,s,m⟩:=a;obtain ⟨b1,b2,l,S,_,_,F,Y,J,G,I,m'⟩:=b;have:=Spl.unique (lM (fK (m:=L.length) (bZ V))) I s;exact ⟨by rw [a1,b1],by rw [h,b2],by rw [a3,l],by rw [m,m',this],by rw [Z,S],by rw [a7,F],by rw [O,Y],by rw [E,J]⟩
theorem BRun.inv (h:BRun R L N es B):(es=[]/\gK R L B)\/∃l E e t,es=l++[(e,t)]/\BRun R L N l E/\qI R L N E e=0/\vV R L N E e=""/\DoE R L N E e t B:=by
 cases h with
 |nil h=>exact .inl ⟨rfl,h⟩
 |snoc I F J G=>exact .inr ⟨_,_,_,_,rfl,I,F,J,G⟩
theorem BRun.al (F:Drawn R L N) (h:BRun R L N es B):∀{B1:BkS},BRun R L N es B1->BAl B B1:=by
 induction h with
 |nil h =>
  intro B1 l
  rcases l.inv with ⟨_,l⟩|⟨E,_,_,_,e,_⟩
  ·exact V8 F h l
  ·exact absurd e (by simp)
 |snoc h1 Z h3 O I =>
  intro B1 l
  rcases l.inv with ⟨e,_⟩|⟨E,B0,e',Y,G,V,g2,g3,S⟩
  ·exact absurd e (by simp)
  ·obtain ⟨rfl,J⟩:=append_inj' G rfl;cases J;exact (I V).go F O S
theorem BRun.at (h:BRun R L N es B):∀{i:Nat} {e:Ent} {t:Addr},es[i]?=some (e,t)->∃E,BRun R L N (es.take i) E/\qI R L N E e=0/\vV R L N E e="":=by
 induction h with
 |nil h=>intro i e t l;cases l
 |@snoc F E _ e0 Z J G S Y I =>
  intro i e t l
  by_cases O:i<F.length
  ·rw [aG O] at l;rw [bp (by lia)];exact I l
  ·rw [aA (by lia)] at l;have V:i=F.length:=by
    have:=(ae.mp l).1;rw [ax] at this
    lia
   subst V;rw [io] at l;cases l;rw [bp (ak _),aZ];exact ⟨E,J,G,S⟩
theorem BRun.esq (h:BRun R L N es B):B.es=es.map fun p=>V.ref p.2:=by
 induction h with
 |nil h=>exact h.2.2.2.2.2.2.2.2.1
 |snoc G F I E l=>rw [E.es,l,aK];rfl
def dC (R:List RC) (L:List LC) (N:List (List (Int×Int))) (B:BkS) (e:Ent):Prop:=qI R L N B e≠0\/vV R L N B e≠""
theorem BRun.no_bad (S:Drawn R L N) {i:Nat} (h:BRun R L N es B) (E:es[i]?=some (e,t)) (I:BRun R L N (es.take i) B1) (J:dC R L N B1 e):False:=by
 obtain ⟨Y,l,G,O⟩:=h.at E;obtain ⟨V,F,_⟩:=(BRun.al S I l).told (R:=R) (L:=L) (N:=N) (e:=e)
 rcases J with z|z
 ·exact z (V.symm.trans G)
 ·exact z (F.symm.trans O)
end
def EnsAt (H:Hp) (h:List (Ent×Addr)):Prop:=∀p∈h,EnAt H p.2 p.1/\Z1 p.1
variable {es:List (Ent×Addr)}
theorem EnsAt.same (s:Same H H') (h:EnsAt H es):EnsAt H' es:=fun p l=>⟨(h p l).1.same s,(h p l).2⟩
section
variable {cs:Kd->Addr} {cR cN cO:Addr} {A:List Addr} {H H':Hp} {b x g:Addr} {R:List RC} {L:List LC} {N:List (List (Int×Int))} {B:BkS} {xs:List V}
theorem BkAt.out (h:BkAt cs cR cN cO A H b x R L N B) (l:H g=none):g∉A:=fun z=>by
 obtain ⟨o,e,_⟩:=h.tr g z;rw [l] at e;cases e
theorem BkAt.core (h:BkAt cs cR cN cO A H b x R L N B):5<=A.length:=by
 obtain ⟨I,E,J,pl,G,F,fs,l,_⟩:=h.ob;have:=cf List.length l;rw [aW] at this
 change min 5 A.length=5 at this
 lia
theorem BkAt.more (h:BkAt cs cR cN cO A H b x R L N B) (E:H g=none):BkAt cs cR cN cO (A++[g]) (upd H g (.lst xs)) b x R L N B:=by
 have e:kB (upd H g (.lst xs)) (A++[g])=kB H A:=by
  funext a
  by_cases l:a∈A
  ·rw [zJ l,zJ (da _ l)]
  ·by_cases F:a=g
   ·rw [F,zJ (bb _ (aO.mpr rfl)),vB (h.out E),E]
   ·rw [vB l,vB (fun z=>by rcases ba.mp z with z|z;exact l z;exact F (aO.mp z)),jQ F]
 have u:=jL E (.lst xs);obtain ⟨S,G,V,pl,ql,el,fs,Z,h1,Y,h3,J,O,h6,I,h8,h9⟩:=h.ob;refine ⟨⟨S,G,V,pl,ql,el,fs,by rw [bp h.core];exact Z,u _ _ h1,Y,h3,u _ _ J,u _ _ O,u _ _ h6,u _ _ I,h8,by rw [e];exact h9⟩,by rw [e];exact h.cn,by rw [e];exact h.wy,by rw [e];exact h.sts,by rw [e];exact h.wd,by rw [e];exact h.pp,h.ok,fun a l=>?_⟩
 rcases ba.mp l with l|l
 ·obtain ⟨o,z,n⟩:=h.tr a l;exact ⟨o,u _ _ z,n⟩
 ·rw [aO.mp l];exact ⟨_,jF,fun _ z=>nomatch z⟩
theorem BkAt.put (h:BkAt cs cR cN cO A H b x R L N B) (hg:g∈A) (E:g∉A.take 5):BkAt cs cR cN cO A (upd H g (.lst xs)) b x R L N B:=by
 have e:kB (upd H g (.lst xs)) A=kB H A:=mC fun a l=>jQ fun z=>l (z▸hg)
 obtain ⟨V,I,wl,pl,ql,el,fs,F,h1,h2,h3,O,S,h6,J,h8,h9⟩:=h.ob;rw [F] at E;simp only [aj,au,bv,not_or] at E;obtain ⟨Z,Y,n3,n4,n5⟩:=E;refine ⟨⟨V,I,wl,pl,ql,el,fs,F,by rw [jQ (Ne.symm Z)];exact h1,h2,h3,by rw [jQ (Ne.symm Y)];exact O,by rw [jQ (Ne.symm n3)];exact S,by rw [jQ (Ne.symm n4)];exact h6,by rw [jQ (Ne.symm n5)];exact J,h8,by rw [e];exact h9⟩,by rw [e];exact h.cn,by rw [e];exact h.wy,by rw [e];exact h.sts,by rw [e];exact h.wd,by rw [e];exact h.pp,h.ok,fun a l=>?_⟩
 by_cases G:a=g
 ·rw [G];exact ⟨_,jF,fun _ z=>nomatch z⟩
 ·obtain ⟨o,z,n⟩:=h.tr a l;exact ⟨o,by rw [jQ G];exact z,n⟩
end
theorem PK (f w:Bool):(cT f w).length<=50:=by cases f<;>cases w<;>decide
theorem OD:∀{e:Ent},∀p∈bF R L B e,p.2.length<=50
 |.lt n,p,h=>by rw [aO.mp h];exact aX rfl
 |.pas n,p,h=>by
  have h:p∈(cY R L B n).toList:=h;cases r:cY R L B n with
  |none=>rw [r] at h;cases h
  |some q =>
   rw [r] at h;rw [aO.mp h];unfold cY at r;cases l:kK B.zs n with
   |none=>rw [l] at r;cases r
   |some i =>
    rw [l] at r
    change ((B.ys.getD i (0,[])).2[B.pl.getD i 0]?).bind _=_ at r
    cases E:(B.ys.getD i (0,[])).2[B.pl.getD i 0]? with
    |none=>rw [E] at r;cases r
    |some s =>
     rw [E] at r
     change (L[s.1]?).map _=_ at r
     obtain ⟨F,_,rfl⟩:=aT.mp r;exact PK _ _
 |.come _,_,h=>by cases h
 |.night _,_,h=>by cases h
 |.take _ _,_,h=>by cases h
 |.rain _ _,_,h=>by cases h
theorem BRun.words (h:BRun R L N es B):∀p∈B.qd,p.2.length<=50:=by
 induction h with
 |nil h=>rw [h.2.2.2.2.2.2.2.1];exact fun p l=>by cases l
 |snoc I G J F E =>
  rw [F.qd];intro p l
  rcases ba.mp l with l|l
  ·exact E p l
  ·exact OD p l
theorem BRun.led (h:BRun R L N es B):∃gs,Spl (qK R L.length) (yJ R L.length) gs/\B.ms=k7 (QL (yJ R L.length) (qK R L.length) gs) B.pd:=by
 induction h with
 |nil h =>
  obtain ⟨_,_,_,_,_,_,G,_,_,gs,s,m⟩:=h;exact ⟨gs,s,by rw [G,m];rfl⟩
 |snoc O J S E l =>
  obtain ⟨gs,s,m⟩:=l;obtain ⟨qs,_,F,I⟩:=E.po;refine ⟨gs,s,?_⟩;rw [F,I,m];unfold k7;rw [foldl_append]
def wN (K:W.Frag) (cs:Kd->Addr) (cR cN h F:Addr):Sp:=fun vs H Q E=>∃(x l:Addr) (R:List RC) (L:List LC) (N:List (List (Int×Int))) (es:List (Ent×Addr)),vs=[.ref x,.ref l]/\CnAt cs cR cN [] H x R L N/\Drawn R L N/\H l=some (.lst (es.map fun p=>V.ref p.2))/\EnsAt H es/\es.length<=57/\
 (∀b A B H',BkAt cs cR cN h A H' b x R L N B->BRun R L N es B->Same H (kB H' A)->(∀a∈A,H a=none)->Q (.ref b) H')/\
 (∀(i:Nat) e t B,es[i]?=some (e,t)->BRun R L N (es.take i) B->dC R L N B e->∀H',Same H H'->E (.ref F) none H')
def uK (K:W.Frag) (cs:Kd->Addr) (cR cN h:Addr):Sp:=fun vs H Q _=>∃(x l:Addr) (R:List RC) (L:List LC) (N:List (List (Int×Int))) (es:List (Ent×Addr)) (E:BkS),vs=[.ref x,.ref l]/\CnAt cs cR cN [] H x R L N/\Drawn R L N/\H l=some (.lst (es.map fun p=>V.ref p.2))/\EnsAt H es/\es.length<=57/\BRun R L N es E/\
 ∀b A B H',BkAt cs cR cN h A H' b x R L N B->BRun R L N es B->Same H (kB H' A)->(∀a∈A,H a=none)->Q (.ref b) H'
theorem SX {F Z:Addr}:∀vs H Q E,uK K cs cR cN F vs H Q E->wN K cs cR cN F Z vs H Q (fun _ _ _=>False):=by
 rintro vs H Q E ⟨x,l,R,L,N,es,B0,e,O,h,h3,I,Y,V,q⟩;exact ⟨x,l,R,L,N,es,e,O,h,h3,I,Y,q,fun i e t B G J S _ _=>V.no_bad h G J S⟩
theorem ES {K:W.Frag} {l G F I E h:Addr} {P:Addr->Prop} (V:P l) (O:P G) (h3:P F) (S:P I) (Z:P eL) (Y:P E) (J:P h) (c:Nat):P (ZX l G F I eL E h c):=by
 unfold ZX gO
 repeat' split
 all_goals assumption
def dX (K:W.Frag):Sp:=fun vs H Q _=>∃s,∃(h:List Int) (k:Nat),vs=[.ref s,.int (k:Int)]/\SqL K H s (h.map V.int)/\Q (.int (h.getD k 0)) H
structure Txt (P:Program) (w:World) (base:Heap) (K:W.Frag) (mg:Str->Option Value) (cP cB cU:Addr) (cR:Addr) (cN:Addr) (tkS:Tok) (eC eR eB eT eM eU eL eW eN eD:Addr) (tkH:Tok) (cO:Addr) (dM:Tok) (dO:Tok) (dN:Tok) (aU aD:Addr):Prop where
 xt:mg "list"=none
 xy:mg "tuple"=none
 jo:mg "max"=none
 xz:mg "range"=none
 xq:mg "len"=none
 jp:mg "sum"=none
 jq:mg "zip"=none
 xv:mg "enumerate"=none
 xaG:mg "min"=none
 jr:mg "all"=none
 xi:mg "isinstance"=none
 jt:mg "str"=none
 uo:mg "bool"=none
 ju:mg "int"=none
 cl:∀kd,Cls K ((jG cP cB cU) kd)
 xaK:∀kd,NoAttr K ((jG cP cB cU) kd) "name"
 jv:∀kd,NoAttr K ((jG cP cB cU) kd) "high"
 xa4:∀kd,NoAttr K ((jG cP cB cU) kd) "low"
 wz:∀kd,NoAttr K ((jG cP cB cU) kd) "room"
 xbd:NoAttr K cB "side"
 xaL:NoAttr K cU "lift"
 vx:mg "PlainLock"=some (.ref cP)
 ja:mg "BasinLock"=some (.ref cB)
 jw:mg "PumpLock"=some (.ref cU)
 clR:Cls K cR
 vi:NoAttr K cR "name"
 zp:NoAttr K cR "least"
 zv:NoAttr K cR "crest"
 zm:NoAttr K cR "berths"
 zw:NoAttr K cR "water"
 zj:NoAttr K cR "target"
 xbk:mg "Reach"=some (.ref cR)
 clN:Cls K cN
 xl:NoAttr K cN "reaches"
 xw:NoAttr K cN "locks"
 zc:NoAttr K cN "nights"
 xbl:mg "Canal"=some (.ref cN)
 xbN:mg "SEA"=some (.int (-1) tkS)
 zu:mg "CanalError"=some (.ref eC)
 xbe:mg "Torn"=some (.ref eR)
 jx:mg "BadRow"=some (.ref eB)
 xbm:mg "Twice"=some (.ref eT)
 xaH:mg "TooMany"=some (.ref eM)
 wj:mg "Unknown"=some (.ref eU)
 jc:mg "NotLinked"=some (.ref eL)
 uh:mg "NotNow"=some (.ref eW)
 je:mg "BadNumber"=some (.ref eN)
 jy:mg "TooDry"=some (.ref eD)
 jz:zD K eB
 xaM:zD K eT
 uq:zD K eM
 wk:zD K eU
 vy:zD K eL
 ui:zD K eW
 vz:zD K eN
 xaa:zD K eD
 xbt:zD K eR
 xaN:mg "HOME"=some (.int (-1) tkH)
 clO:Cls K cO
 nO_kept_canal:NoAttr K cO "kept_canal"
 nO_kept_names:NoAttr K cO "kept_names"
 nO_kept_ways:NoAttr K cO "kept_ways"
 nO_kept_state:NoAttr K cO "kept_state"
 nO_kept_pours:NoAttr K cO "kept_pours"
 nO_kept_words:NoAttr K cO "kept_words"
 nO_kept_entries:NoAttr K cO "kept_entries"
 xbu:mg "Book"=some (.ref cO)
 xaI:mg "LETTERS"=some (.str ZE dM)
 uj:mg "MOST_SIGNS"=some (.int 12 dO)
 uk:mg "MOST_BOATS"=some (.int 9 dN)
 xcp:mg "UP"=some (.ref aU)
 xbv:mg "DOWN"=some (.ref aD)
 up:∀H:Hp,SqT K H aU (upT.map V.str)
 down:∀H:Hp,SqT K H aD (downT.map V.str)
 exm_BadRow:W.exmOne K (.ref eB) (.ref eC)=some true
 exm_Twice:W.exmOne K (.ref eT) (.ref eC)=some true
 exm_TooMany:W.exmOne K (.ref eM) (.ref eC)=some true
 exm_Unknown:W.exmOne K (.ref eU) (.ref eC)=some true
 exm_NotLinked:W.exmOne K (.ref eL) (.ref eC)=some true
 exm_NotNow:W.exmOne K (.ref eW) (.ref eC)=some true
 exm_BadNumber:W.exmOne K (.ref eN) (.ref eC)=some true
 exm_TooDry:W.exmOne K (.ref eD) (.ref eC)=some true
 at_Torn:ExcAttr K eR
 wm:(W.clsIn K eR).isSome=true
 exm_Torn:W.exmOne K (.ref eR) (.ref eC)=some true
 k_Torn_NotNow:W.kitOne K (.ref eR) (.ref eW)=some false
 k_Torn_Unknown:W.kitOne K (.ref eR) (.ref eU)=some false
 k_Torn_BadRow:W.kitOne K (.ref eR) (.ref eB)=some false
 k_Torn_TooDry:W.kitOne K (.ref eR) (.ref eD)=some false
 k_Torn_CanalError:W.kitOne K (.ref eR) (.ref eC)=some true
 exs_Torn:W.exmOne K (.ref eR) (.ref eR)=some true
set_option maxHeartbeats 4000000
seal PE PS PSs PT PA PG PI
section
variable {P:Program} {w:World} {K:W.Frag} {mg:Str->Option Value} {base:Heap} {cP cB cU:Addr} {cR:Addr} {cN:Addr} {tkS:Tok} {eC eR eB eT eM eU eL eW eN eD:Addr} {tkH:Tok} {cO:Addr} {dM:Tok} {dO:Tok} {dN:Tok} {aU aD:Addr} {f:Addr} {fd:FuncData}
variable (T:Txt P w base K mg cP cB cU cR cN tkS eC eR eB eT eM eU eL eW eN eD tkH cO dM dO dN aU aD)
theorem fJ:jV 2 ["waters","pours","held","source","target","amount"] rH:=jU
include T in
theorem LI (F:kC K "poured_all" rH f fd) : FnOk P w K mg base jT 1 f fd ["waters","pours"] (gJ K):=by
 refine F.ok2 fJ fun vs H Q E h=>?_
 refine Q6 h fun w p ws rs qs h=>?_
 refine z3 h fun e_ hW hP hA hn q=>?_
 subst e_;refine ⟨rfl,fun _ _ _ _ Z=>?_⟩;refine tk fun x0=>?_
 let u0:=ru x0 [1] (jH (zL ci rfl (yN (jA 1)) (mI rfl (qO (kT (i:=3) fJ.nd rfl (.inl rfl)) (qO (kT (i:=4) fJ.nd rfl (.inl rfl)) (qO (kT (i:=5) fJ.nd rfl (.inl rfl)) zH))))
    (jH (wB (jA 2) (jA 3) uR (jA 5) WH bB)
   (kM (wB (jA 2) (jA 4) uR (jA 5) FP bB))))
   (jN (vP (bY K) (by rfl) T.xy bh (jC (jA 2) jE))))
 refine ⟨_,(jH (jY 2 fJ.nd (vP (zN K) (by rfl) T.xt aL (jC (jA 0) jE)))
   u0.h),?_⟩
 try dsimp only [jX,jW]
 refine (⟨w,jB rfl (⟨hW,fun l hl=>?_⟩)⟩);have s0:Same H (upd H l (.lst (ws.map V.int))):=jL hl _;refine ⟨p,rfl,⟨rs,s0.seq hP⟩,dY (K:=K) (a:=p) (xs:=rs) (fun i J I=>∃c3 Y c5,J=[some (.ref w),some (.ref p),some (.ref l),c3,Y,c5]/\I l=some (.lst ((k7 ws (qs.take i)).map V.int))/\Same H I)
  (j3 none none none (kG rfl jF s0)) (fun i J I _ ⟨_,_,_,_,_,s⟩=>s.seq hP) ?_ ?_⟩
 ·rintro i x J I hx ⟨c3,Y,c5,rfl,O,G⟩;obtain ⟨a,s,t,m,rfl,hq,hT,hs,ht⟩:=hA.2 i x hx;have S:(k7 ws (qs.take i)).length=ws.length:=QA _ _;refine ⟨a,jB rfl (⟨wX G hT,rfl,_,jB rfl (⟨_,jB rfl (⟨_,_,rfl,rfl,?_⟩)⟩)⟩)⟩;refine (j5 _ _ _ _ (jP rfl rfl (so O) (yU (by rw [S];exact hs)) (qS (j5 _ _ _ _ (jP rfl rfl O (bD (by rw [ac,S];exact hs)) ?_)))))
  try dsimp only
  rw [dQ];refine (j5 _ _ _ _ (jP rfl rfl (so jF) (yU (by rw [bf,S];exact ht)) (qS (j5 _ _ _ _ (jP rfl rfl jF (bD (by rw [ac,bf,S];exact ht)) ?_)))))
  try dsimp only
  rw [dQ];refine ⟨_,_,jB rfl (⟨?_,qJ hl (qJ hl G)⟩)⟩;rw [jF,i4 ws qs i _ hq];rfl
 ·rintro J I ⟨c3,Y,c5,rfl,O,G⟩;refine (⟨_,jB rfl (.inl ⟨so O,fun r Z=>?_⟩)⟩);refine q r _ (qJ (G.free Z) G) (G.free Z) ?_;rw [jF,hA.1,aZ]
theorem AI:jV 3 ["weirs","waters","at","crest"] rB:=jU
include T in
theorem LA (F:kC K "over" rB f fd) : FnOk P w K mg base jT 1 f fd ["weirs","waters","at"] (FD K):=by
 refine F.ok2 AI fun vs H Q E h=>?_
 refine yL h fun O wa rs ws n ms G h=>?_
 refine ZZ h fun e_ Y V Z S I q=>?_
 subst e_;refine ⟨rfl,fun _ _ _ _ hr=>?_⟩;refine ⟨_,(jH (jY 3 AI.nd (jJ (jO K) (jJ (qD K) (jA 0) (jA 2)) jD))
   (jN (vK (CV rfl) (by rfl) T.jo PyProof.Rows.boot_max (jC jD (jC (jI yB (jJ (wD K) (jA 1) (jA 2)) (jA 3)) jE))))),?_⟩
 try dsimp only [jX,jW]
 obtain ⟨J,l,hT,_⟩:=lF V S;refine (j5 O _ _ _ (jP rfl rfl Y l (j5 J _ _ _ (jP rfl rfl hT rfl ?_))));refine (SZ Z I ?_);exact (qS (⟨_,jB rfl (q)⟩))
theorem ND:jV 1 ["weirs"] pW:=jU
include T in
theorem K0 (F:kC K "last_first" pW f fd) : FnOk P w K mg base jT 1 f fd ["weirs"] (wP K):=by
 refine F.ok2 ND fun vs H Q E h=>?_
 obtain ⟨S,rs,rfl,O,I,q⟩:=h;refine ⟨rfl,fun _ _ _ _ V=>?_⟩;refine ⟨_,(jN (vP (N5 rfl) (by rfl) T.xt aL (jC (vP OY (by rfl) T.xz PyProof.Rows.boot_range (qQ (jI yB (vF K T.xq (jA 0)) jD) (wY wK jD) (wY wK jD))) jE))),?_⟩
 try dsimp only [jX,jW]
 refine (⟨S,jB rfl (⟨.inl O,_,_,rfl,rfl,jB rfl (jB rfl (⟨_,_,jB rfl (⟨(by decide),(by decide),fun p J=>?_⟩)⟩))⟩)⟩);refine kS p _ _ _ rs.length (j7 rfl jF (P9 I) (CS _) I (fun l G=>?_));refine q l _ ((jL J _).trans (jL G _)) ((jL J _).free G) ?_;rw [jF];exact cf (fun x=>some (HO.lst x)) (P8 rs.length)
theorem i3:jV 2 ["weirs","waters","held","given","at"] rR:=jU
include T in
theorem LS (F:kC K "spills" rR f fd) (vj:Def P w K mg base 1 "last_first" ["weirs"] [] (wP K)) (a5:Def P w K mg base 1 "over" ["weirs","waters","at"] [] (FD K)):FnOk P w K mg base jT 2 f fd ["weirs","waters"] (DC K):=by
 refine F.ok2 i3 fun vs H Q E h=>?_
 refine Q6 h fun wq wa rs ws ms h=>?_
 refine vC h fun e_ bt q=>?_
 subst e_;refine ⟨rfl,fun _ _ _ _ hr=>?_⟩;refine tk fun x0=>?_
 let u0:=ru x0 [2,0,0] (jH (gE (jR a5 hr rfl (qQ (jA 0) (jA 2) (jA 4))) (gG (jA 3) (jA 4) bB))
   (kM (wB (jA 2) (jJ (jO K) (jJ (qD K) (jA 0) (jA 4)) jD) uR (jJ (qD K) (jA 3) (jA 4)) FP bB)))
 let u1:=ru x0 [2] (jH (zL ci rfl (yN (jR vj hr rfl (jC (jA 0) jE))) (kT (i:=4) i3.nd rfl (.inl rfl))
    u0.h)
   (jN (jA 3)))
 let u2:=ru x0 [1] (jH (jY 3 i3.nd (jI FK (qC (jC jD jE)) (vF K T.xq (jA 0))))
   u1.h)
 refine ⟨_,(jH (jY 2 i3.nd (vP (zN K) (by rfl) T.xt aL (jC (jA 1) jE)))
   u2.h),?_⟩
 try dsimp only [jX,jW]
 obtain ⟨hW,Y,hM,b3,a9,hn⟩:=id bt;have b0:=lM b3;refine (⟨wa,jB rfl (⟨hM,fun S ap=>?_⟩)⟩);have t1:=jL ap (.lst (ms.map V.int));refine ⟨zz1,fun lp be=>?_⟩;have t2:=jL be (.lst [V.int 0]);refine (⟨wq,jB rfl (⟨.inl ((t1.trans t2).seq hW),(j3 lp _ _ (vS rfl rfl jF (by lia) (by rw [Y.1];lia) ?_ (fun G am=>?_)))⟩)⟩)
 ·rw [bd,ax,Nat.one_mul,Y.1];exact small (by lia)
 rw [bd,DK,Y.1];have t3:=jL am (.lst ((List.replicate ws.length (0:Int)).map V.int));have u3:=(t1.trans t2).trans t3;have Z:S≠G:=qE (t2 _ _ jF) am;refine (⟨wq,rs,(jM rfl (u3.seq hW) (by rw [Y.1];lia) (fun df H1 s1 ah an=>?_))⟩);have b2:=s1 _ _ (t3 _ _ (t2 _ _ (jF:upd H S (.lst (ms.map V.int)) S=_)));have a8:=s1 _ _ (jF:upd _ G (.lst ((List.replicate ws.length (0:Int)).map V.int)) G=_);have a7:S≠df:=qE (t3 _ _ (t2 _ _ jF)) ah;have b1:G≠df:=qE jF ah;have gf:H G=none:=(t1.trans t2).free am;refine ⟨df,rfl,⟨_,so an⟩,dY (K:=K) (a:=df) (xs:=(zW rs.length).map fun (i:Nat)=>V.int (i:Int)) (fun k σ l=>∃(hs gs:List Int) (c:Option V),σ=[some (.ref wq),some (.ref wa),some (.ref S),some (.ref G),c]/\l S=some (.lst (hs.map V.int))/\l G=some (.lst (gs.map V.int))/\
   l df=some (.lst ((zW rs.length).map fun (i:Nat)=>V.int (i:Int)))/\SplInv ws ms hs gs k/\Same H l)
  (j3 ms (List.replicate ws.length 0) none (j7 rfl b2 a8 an (SplInv.start ws ms) (u3.trans s1))) (fun i σ l _ ⟨_,_,_,_,_,_,hd,_⟩=>so hd) ?_ ?_⟩
 ·rintro k x σ l hx ⟨hs,gs,c,rfl,hH,hG,hD,O,sm⟩;obtain ⟨hk,rfl⟩:=DX hx;rw [Y.1] at hk ⊢;obtain ⟨J,I⟩:∃i,i=ws.length - 1 - k:=⟨_,rfl⟩;have hi:J<ws.length:=by lia
  have a3:=O.step b0 a9 hk (by rw [<- I];exact BV Y J hi);rw [<- I] at a3 ⊢;obtain ⟨ta,a6,hT,ht⟩:=lF (Y.same sm) hi;have bl:WeirsAt K l rs ws hs.length:=by rw [O.lh];exact Y.same sm
  refine (kI wq S rs ws _ hs J (vS rfl (sm.seq hW) bl (.inl (so hH)) hi (by rw [O.lh];lia) ?_));refine (j5 G _ _ _ (jP rfl rfl hG (bD (by rw [ac,O.lg];exact hi)) ?_));rw [dQ];have k1:∀o,Keep G l (upd l G o):=fun o=>(Keep.refl G l).upd o
  have sG:∀o,Same H (upd l G o):=fun o=>qJ gf sm
  have a4:∀o,upd l G o S=some (.lst (hs.map V.int)):=fun o=>(k1 o) S _ Z hH
  refine (j5 wq _ _ _ (jP rfl rfl ((sG _).seq hW) a6 (j5 ta _ _ _ (jP rfl rfl ((k1 _).sqt hG hT) rfl (qM (so (a4 _)) (yU (by rw [O.lh];exact ht)) (qM (so jF) (yU (by rw [bf,O.lg];exact hi)) (qS (j5 S _ _ _ (jP rfl rfl (a4 _) (bD (by rw [ac,O.lh];exact ht)) ?_)))))))));rw [dQ];refine ⟨_,_,jB rfl (jP jF ?_ ?_ a3 (qJ ap (sG _)))⟩
  ·rw [jQ (Ne.symm Z),jF]
  ·rw [jQ (Ne.symm a7),jQ (Ne.symm b1),hD,Y.1]
 ·rintro σ l ⟨hs,gs,c,rfl,hH,hG,hD,O,sm⟩;rw [ac,dP,Y.1] at O;refine (?_);exact q G l gs sm gf hG O.spl
theorem AL:jV 2 ["weirs","waters","given"] iQ:=jU
include T in
theorem LR (F:kC K "spill_pours" iQ f fd) (an:Def P w K mg base 2 "spills" ["weirs","waters"] [] (DC K)) (vj:Def P w K mg base 1 "last_first" ["weirs"] [] (wP K)):FnOk P w K mg base jT 3 f fd ["weirs","waters"] (uJ K):=by
 refine F.ok2 AL fun vs H Q E h=>?_
 refine Q6 h fun wq wa rs ws ms h=>?_
 refine vC h fun e_ Z q=>?_
 subst e_;refine ⟨rfl,fun _ _ _ _ hr=>?_⟩;refine tk fun x0=>?_
 let u0:=ru x0 [1] (jN (xU ["at","given","weirs"] [2,0] (yF (kF iQ)) (yN (jR vj hr rfl (jC (jA 0) jE))) (fun _ _ _ _ _=>(d9 (j6 JG (jJ (qD K) (jA 1) (jA 0)) jD))) (fun _ _ _ _ _=>(kX (qQ (jA 0) (jJ (jO K) (jJ (qD K) (jA 2) (jA 0)) jD) (jJ (qD K) (jA 1) (jA 0)))))))
 refine ⟨_,(jH (jY 2 AL.nd (jR an hr rfl (jC (jA 0) (jC (jA 1) jE))))
   u0.h),?_⟩
 try dsimp only [jX,jW]
 refine (kS wq wa rs ws ms (kG rfl Z (fun gp H1 gs s1 a3 ah hS=>?_)));obtain ⟨hW,hA,hM,a6,a5,hn⟩:=Z.same s1;refine (⟨wq,rs,(jM rfl hW (by rw [hA.1];lia) (fun df H2 s2 a4 Y=>?_))⟩);refine ⟨df,rfl,⟨_,so Y⟩,fun D hD=>?_⟩;refine dI (K:=K) (a:=df) (xs:=(zW rs.length).map fun (i:Nat)=>V.int (i:Int)) (caps:=[some (.ref gp),some (.ref wq)]) (fun i ys Hi=>PoursH Hi ys (((yV (qL ws) (fun a=>gs.getD a 0) ws.length).take i).filter vA) ms.length) hD (so Y) (PoursH.nil _ _) ?_ ?_
 ·rintro i x ys Hi hx hi O sm S hR;obtain ⟨hk,rfl⟩:=DX hx;rw [hA.1] at hk ⊢;obtain ⟨l,I⟩:∃i',i'=ws.length - 1 - i:=⟨_,rfl⟩;have J:l<ws.length:=by lia
  rw [<- I];have G:=s2.trans sm;obtain ⟨ta,am,hT,ht⟩:=lF (hA.same G) J;have ef:((yV (qL ws) (fun a=>gs.getD a 0) ws.length).take (i+1)).filter vA=((yV (qL ws) (fun a=>gs.getD a 0) ws.length).take i).filter vA++[(l,qL ws l,gs.getD l 0)].filter vA:=by
   rw [aV,OH hk,<- I,ii];rfl
  refine (qM (so (G _ _ ah)) (yU (by rw [hS.1];exact J)) (⟨rfl,jB rfl (?_)⟩))
  by_cases hz:gs.getD l 0=0
  ·refine zU (cf V.int hz) (lJ sm S O (Same.refl _) ?_);rw [ef,fq,if_neg (by unfold vA;rw [bi (show gs.getD l 0=0 from hz)];decide)];show PoursH Hi ys (_++[]) _;rw [di];exact hR
  refine bI (fun e=>hz (V.int.inj e)) ?_;refine (j5 wq _ _ _ (jP rfl rfl (G.seq hW) am (j5 ta _ _ _ (jP rfl rfl hT rfl (qM (so (G _ _ ah)) (yU (by rw [hS.1];exact J)) (⟨zz3,fun tp ap=>?_⟩))))));have st:=jL ap (.tup [.int (l:Int),.int (qL ws l:Int),.int (gs.getD l 0)]);refine Q7 hD sm S O (by lia) st ?_;rw [ef,fq,if_pos (by unfold vA;rw [aN (show ¬gs.getD l 0=0 from hz)];rfl)];exact ((hR.same st).snoc jF (by lia) ht).put (st _ _ S)
 ·intro ys Hf sm S O hR;rw [ac,dP,hA.1,bj (by unfold yV;rw [ac,dP];exact ak _)] at hR;have G:=s2.trans sm;exact q D Hf gs ys (s1.trans G) ((s1.trans s2).free hD) S hR hS
theorem NN:jV 2 ["weirs","waters"] rP:=jU
include T in
theorem LP (F:kC K "settled" rP f fd) (za:Def P w K mg base 1 "poured_all" ["waters","pours"] [] (gJ K)) (V:Def P w K mg base 3 "spill_pours" ["weirs","waters"] [] (uJ K)):FnOk P w K mg base jT 4 f fd ["weirs","waters"] (B7 K):=by
 refine F.ok2 NN fun vs H Q E h=>?_
 refine Q6 h fun wq S rs ws ms h=>?_
 refine vC h fun e_ l q=>?_
 subst e_;refine ⟨rfl,fun _ _ _ _ G=>?_⟩;refine ⟨_,(jN (jR za G rfl (jC (jA 1) (jC (jR V G rfl (jC (jA 0) (jC (jA 1) jE))) jE)))),?_⟩
 try dsimp only [jX,jW]
 obtain ⟨hW,hA,hM,am,J,hn⟩:=id l;refine (kS wq S rs ws ms (kG rfl l (fun p H1 gs ys I ah hp Y hS=>?_)));refine j5 S p ms ys (jB rfl (jP (hM.same I) (so hp) Y.pa hn (fun r H' Z O G=>?_)));rw [PJ (PB J (BV hA))] at G;exact q r H' gs (I.trans Z) (I.free O) G hS
theorem NU:jV 3 ["weirs","waters","pours"] sE:=jU
include T in
theorem L7 (F:kC K "with_spills" sE f fd) (vc:Def P w K mg base 3 "spill_pours" ["weirs","waters"] [] (uJ K)) (za:Def P w K mg base 1 "poured_all" ["waters","pours"] [] (gJ K)):FnOk P w K mg base jT 4 f fd ["weirs","waters","pours"] (lW K):=by
 refine F.ok2 NU fun vs H Q E h=>?_
 refine ZW h fun wq wa p rs ps ws ms qs h=>?_
 refine z3 h fun e_ Y hp hP ap q=>?_
 subst e_;refine ⟨rfl,fun _ _ _ _ hr=>?_⟩;refine ⟨_,(jN (jI QF (jA 2) (jR vc hr rfl (jC (jA 0) (jC (jR za hr rfl (jC (jA 1) (jC (jA 2) jE))) jE))))),?_⟩
 try dsimp only [jX,jW]
 obtain ⟨hW,hA,hM,ah,V,hn⟩:=id Y;refine (kS wa p ms ps qs (j7 rfl hM (so hp) hP.pa hn (fun wt H1 J am S=>?_)));have O:(k7 ms qs).length=ms.length:=QA _ _;refine kS wq wt rs ws (k7 ms qs) ⟨rfl,⟨J.seq hW,by rw [O];exact hA.same J,.inr (SqT.of S),ah,by rw [O];exact V,by rw [O];exact hn⟩,fun sp H2 gs ys s2 an Z G hS=>?_⟩;rw [O] at G;have hl:=OI ws (fun a=>gs.getD a 0);refine (j5 p sp _ _ (j7 rfl rfl (s2 _ _ (J _ _ hp)) Z (aI (show ps.length+ys.length<=1500 by rw [G.1];lia) (by decide)) (fun al I=>?_)));have s3:=jL I (.lst (ps++ys));have l:=J.trans s2;exact q al _ gs _ (l.trans s3) (l.free I) jF ((hP.same (l.trans s3)).append (G.same s3)) hS
theorem NK:jV 1 ["parts"] iP:=jU
include T in
theorem LB (F:kC K "parts_not_nought" iP f fd) : FnOk P w K mg base jT 1 f fd ["parts"] (eH K):=by
  refine F.ok2 NK fun vs H Q E h=>?_
  refine bR h fun p rs ps h=>?_
  refine Z0 h fun e_ hP hA hn q=>?_
  subst e_;refine ⟨rfl,fun _ _ _ _ hr=>?_⟩;refine ⟨_,(jN (xU ["part"] [] (yF (kF iP)) (yN (jA 0)) (fun _ _ _ _ _=>(d9 (j6 JG (jJ (jO K) (jA 0) jD) jD))) (fun _ _ _ _ _=>(jA 0)))),?_⟩
  try dsimp only [jX,jW]
  refine (⟨p,rfl,⟨rs,hP⟩,fun l hl=>?_⟩);refine dI (K:=K) (a:=p) (xs:=rs) (caps:=[]) (fun i ys Hi=>PartsAt Hi ys ((ps.take i).filter zF)) hl hP PartsAt.nil ?_ ?_
  . rintro i x ys Hi hx hi G J O Y
    obtain ⟨t,S,I,rfl,ah,hT⟩:=hA.2 i x hx;have et:(ps.take (i+1)).filter zF=(ps.take i).filter zF++[(S,I)].filter zF:=by
      rw [aV,ah,ii];rfl
    refine (jK (SqT.of (J _ _ hT)) rfl (⟨rfl,jB rfl (?_)⟩))
    by_cases Z:I=0
    . refine zU (by rw [Z]) ?_
      refine lJ J O G (Same.refl _) ?_;have e2:[(S,I)].filter zF=[]:=by rw [Z];rfl
      rw [et,e2,di];exact Y
    . refine bI (fun e=>Z (V.int.inj e)) ?_
      refine (Q7 hl J O G (by lia) (Same.refl _) ?_);have e2:[(S,I)].filter zF=[(S,I)]:=by
        rw [fq,if_pos (show zF (S,I)=true by unfold zF;rw [aN Z];rfl)];rfl
      rw [et,e2];exact (Y.snoc (J _ _ hT)).keep ((Keep.refl l Hi).upd _) O
  . intro ys Hf J O G Y
    rw [hA.1,aZ] at Y;exact q l Hf ys J hl O Y
theorem MV:jV 5 ["self","name","high","low","room"] o3:=jU
include T in
theorem IM (F:Fun K "__init__" "PlainLock.__init__" o3 f fd) : FnOk P w K mg base jT 1 f fd ["self","name","high","low","room"] (d6 (jG cP cB cU)):=by
 refine F.ok2 MV fun vs H Q E h=>?_
 refine yL h fun I x J n G l r h=>?_
 refine vC h fun Z O q=>?_
 subst Z;refine ⟨rfl,fun _ _ _ _ hr=>?_⟩;refine tk fun V=>?_
 let Y:=ru V [1] (jH (vR (jA 0) (jA 2) rfl)
   (jH (vR (jA 0) (jA 3) rfl)
   (kM (vR (jA 0) (jA 4) rfl))))
 refine ⟨_,(jH (vR (jA 0) (jA 1) rfl)
   Y.h),?_⟩
 try dsimp only [jX,jW]
 refine (j3 x _ J (jB rfl (jP O (T.cl I) (T.xaK I) (by show 0<1000;decide) ?_)));refine (j3 x _ J (jB rfl (jP jF (T.cl I) (T.jv I) (by show 1<1000;decide) ?_)));refine (j3 x _ J (jB rfl (jP jF (T.cl I) (T.xa4 I) ?_ ?_)))
 ·have:=zO "high" G (jS "name" n []);have S:(jS ("name":Str) n []).length=1:=rfl
  lia
 refine (j3 x _ J (jB rfl (jP jF (T.cl I) (T.wz I) ?_ ?_)))
 ·have:=zO "low" l (jS "high" G (jS "name" n []));have h1:=zO "high" G (jS "name" n []);have S:(jS ("name":Str) n []).length=1:=rfl
  lia
 exact q _ (((((Keep.refl x H).upd _).upd _).upd _).upd _) jF
theorem MA:jV 6 ["self","name","high","low","room","side"] oB:=jU
include T in
theorem HL (F:Fun K "__init__" "BasinLock.__init__" oB f fd) (Y:CmD P w K mg base 1 "PlainLock" cP "__init__" ["self","name","high","low","room"] (d6 (jG cP cB cU))):FnOk P w K mg base jT 2 f fd ["self","name","high","low","room","side"] (dZ (jG cP cB cU) .basin):=by
 refine F.ok2 MA fun vs H Q E h=>?_
 refine yL h fun x J n G l r v h=>?_
 refine vC h fun Z O q=>?_
 subst Z;refine ⟨rfl,fun _ _ _ _ V=>?_⟩;refine ⟨_,(jH (vL (EL Y V rfl (nS (jA 0) (jA 1) (jA 2) (jA 3) (jA 4))))
   (kM (vR (jA 0) (jA 5) rfl))),?_⟩
 try dsimp only [jX,jW]
 refine (kI (.basin) x J n G l r ⟨rfl,O,fun H' S I=>?_⟩);refine (j3 x _ J (jB rfl (jP I (T.cl .basin) T.xbd (BO _ _ _ _) ?_)));exact q _ (S.upd _) jF
theorem MY:jV 6 ["self","name","high","low","room","lift"] o6:=jU
include T in
theorem IP (F:Fun K "__init__" "PumpLock.__init__" o6 f fd) (Y:CmD P w K mg base 1 "PlainLock" cP "__init__" ["self","name","high","low","room"] (d6 (jG cP cB cU))):FnOk P w K mg base jT 2 f fd ["self","name","high","low","room","lift"] (dZ (jG cP cB cU) .pump):=by
 refine F.ok2 MY fun vs H Q E h=>?_
 refine yL h fun x J n G l r v h=>?_
 refine vC h fun Z O q=>?_
 subst Z;refine ⟨rfl,fun _ _ _ _ V=>?_⟩;refine ⟨_,(jH (vL (EL Y V rfl (nS (jA 0) (jA 1) (jA 2) (jA 3) (jA 4))))
   (kM (vR (jA 0) (jA 5) rfl))),?_⟩
 try dsimp only [jX,jW]
 refine (kI (.pump) x J n G l r ⟨rfl,O,fun H' S I=>?_⟩);refine (j3 x _ J (jB rfl (jP I (T.cl .pump) T.xaL (BO _ _ _ _) ?_)));exact q _ (S.upd _) jF
theorem M0:jV 7 ["self","name","least","crest","berths","water","target"] o8:=jU
include T in
theorem IR (F:Fun K "__init__" "Reach.__init__" o8 f fd) : FnOk P w K mg base jT 1 f fd ["self","name","least","crest","berths","water","target"] (tK cR):=by
 refine F.ok2 M0 fun vs H Q E h=>?_
 refine ZW h fun x Z S I J l O G h=>?_
 refine vC h fun e_ hx q=>?_
 subst e_;refine ⟨rfl,fun _ _ _ _ hr=>?_⟩;refine tk fun x0=>?_
 let u0:=ru x0 [3] (jH (vR (jA 0) (jA 4) rfl)
   (jH (vR (jA 0) (jA 5) rfl)
   (kM (vR (jA 0) (jA 6) rfl))))
 let u1:=ru x0 [2] (jH (vR (jA 0) (jA 3) rfl)
   u0.h)
 let u2:=ru x0 [1] (jH (vR (jA 0) (jA 2) rfl)
   u1.h)
 refine ⟨_,(jH (vR (jA 0) (jA 1) rfl)
   u2.h),?_⟩
 try dsimp only [jX,jW]
 have Y:∀(f:Str) (z:V) (fs:List (Str×V)) (m:Nat),fs.length<=m->(jS f z fs).length<=m+1:=fun f z fs m h=>aI (zO f z fs) (by lia)
 have l0:([]:List (Str×V)).length<=0:=ak _;refine (j3 x cR Z (jB rfl (jP hx T.clR T.vi (by lia) ?_)));have l1:=Y "name" S _ _ l0;refine (j3 x cR Z (jB rfl (jP jF T.clR T.zp (by lia) ?_)));have l2:=Y "least" I _ _ l1;refine (j3 x cR Z (jB rfl (jP jF T.clR T.zv (by lia) ?_)));have l3:=Y "crest" J _ _ l2;refine (j3 x cR Z (jB rfl (jP jF T.clR T.zm (by lia) ?_)));have l4:=Y "berths" l _ _ l3;refine (j3 x cR Z (jB rfl (jP jF T.clR T.zw (by lia) ?_)));have l5:=Y "water" O _ _ l4;refine (j3 x cR Z (jB rfl (jP jF T.clR T.zj (by lia) ?_)));have l6:=Y "target" G _ _ l5;exact q _ _ (((((((Keep.refl x H).upd _).upd _).upd _).upd _).upd _).upd _) jF (RD _ _ _ _ _ _)
theorem MW:jV 2 ["self","basin"] o4:=jU
include T in
theorem IN (F:Fun K "fill_parts" "PlainLock.fill_parts" o4 f fd) (xk:Def P w K mg base 1 "parts_not_nought" ["parts"] [] (eH K)):FnOk P w K mg base jT 2 f fd ["self","basin"] (JO (jG cP cB cU) bK .plain):=by
 refine F.ok2 MW fun vs H Q E h=>?_
 refine yL h fun x n am l G v b h=>?_
 refine vC h fun e_ Y q=>?_
 subst e_;obtain ⟨dx,hx⟩:=Y;refine ⟨rfl,fun _ _ _ _ hr=>?_⟩;refine ⟨_,(jN (jR xk hr rfl (jC (qC (jC (kX (jC j4 (jC (kN K (jA 0) rfl) jE))) jE)) jE))),?_⟩
 try dsimp only [jX,jW]
 refine (kR hx (T.cl .plain) (T.wz .plain) (gA .plain _ _ _ _ _) (⟨zz2,fun tp ah=>⟨zz1,fun lp S=>?_⟩⟩));have s1:=jL ah (.tup [.str "high",.int G]);have O:=jL S (.lst [V.ref tp]);refine j3 lp ([.ref tp]) ([("high",G)]) (jP rfl (so jF) (PartsAt.nil.snoc (O _ _ jF)) (by show 1<=10;decide) (fun rr H' J sm I Z hP=>?_));exact q rr H' J ((s1.trans O).trans sm) ((s1.trans O).free I) Z hP
theorem MB:jV 2 ["self","basin"] oE:=jU
include T in
theorem HM (F:Fun K "fill_parts" "BasinLock.fill_parts" oE f fd) (xk:Def P w K mg base 1 "parts_not_nought" ["parts"] [] (eH K)):FnOk P w K mg base jT 2 f fd ["self","basin"] (JO (jG cP cB cU) bK .basin):=by
 refine F.ok2 MB fun vs H Q E h=>?_
 refine yL h fun x n a4 l G v b h=>?_
 refine vC h fun e_ ah q=>?_
 subst e_;obtain ⟨dx,ap⟩:=ah;refine ⟨rfl,fun _ _ _ _ hr=>?_⟩;refine ⟨_,(jN (jR xk hr rfl (jC (qC (jC (kX (jC j4 (jC (jA 1) jE))) (jC (kX (jC j4 (jC (jI yB (kN K (jA 0) rfl) (jA 1)) jE))) jE))) jE))),?_⟩
 try dsimp only [jX,jW]
 refine (⟨zz2,fun tp an=>?_⟩);have S:=jL an (.tup [.str "basin",.int b]);have hx:=S _ _ ap;refine (kR hx (T.cl .basin) (T.wz .basin) (gA .basin _ _ _ _ _) (qS (⟨zz2,fun tq a3=>⟨zz2,fun lp Z=>?_⟩⟩)));have Y:=jL a3 (.tup [.str "high",.int (G - b)]);have J:=jL Z (.lst [V.ref tp,V.ref tq]);refine j3 lp ([.ref tp,.ref tq]) ([("basin",b),("high",G - b)]) (jP rfl (so jF) ((PartsAt.nil.snoc (J _ _ (Y _ _ jF))).snoc (J _ _ jF)) (by show 2<=10;decide) (fun rr H' O sm I am hP=>?_));exact q rr H' O (((S.trans Y).trans J).trans sm) (((S.trans Y).trans J).free I) am hP
theorem MZ:jV 2 ["self","basin"] o7:=jU
include T in
theorem IQ (F:Fun K "fill_parts" "PumpLock.fill_parts" o7 f fd) (xk:Def P w K mg base 1 "parts_not_nought" ["parts"] [] (eH K)):FnOk P w K mg base jT 2 f fd ["self","basin"] (JO (jG cP cB cU) bK .pump):=by
 refine F.ok2 MZ fun vs H Q E h=>?_
 refine yL h fun x n a4 l G v b h=>?_
 refine vC h fun e_ am q=>?_
 subst e_;obtain ⟨dx,J⟩:=am;refine ⟨rfl,fun _ _ _ _ hr=>?_⟩;refine ⟨_,(jN (jR xk hr rfl (jC (qC (jC (kX (jC j4 (jC (kN K (jA 0) rfl) jE))) (jC (kX (jC j4 (jC (jI yB (kN K (jA 0) rfl) (kN K (jA 0) rfl)) jE))) jE))) jE))),?_⟩
 try dsimp only [jX,jW]
 refine (kR J (T.cl .pump) (T.xaL) (uW _ _ _ _ _ _) (⟨zz2,fun tp ap=>?_⟩));have Y:=jL ap (.tup [.str "low",.int v]);have hx:=Y _ _ J;refine (kR hx (T.cl .pump) (T.wz .pump) (gA .pump _ _ _ _ _) (kR hx (T.cl .pump) (T.xaL) (uW _ _ _ _ _ _) (qS (⟨zz2,fun tq a3=>⟨zz2,fun lp ah=>?_⟩⟩))));have Z:=jL a3 (.tup [.str "high",.int (G - v)]);have O:=jL ah (.lst [V.ref tp,V.ref tq]);refine j3 lp ([.ref tp,.ref tq]) ([("low",v),("high",G - v)]) (jP rfl (so jF) ((PartsAt.nil.snoc (O _ _ (Z _ _ jF))).snoc (O _ _ jF)) (by show 2<=10;decide) (fun rr H' S sm I an hP=>?_));exact q rr H' S (((Y.trans Z).trans O).trans sm) (((Y.trans Z).trans O).free I) an hP
theorem MX:jV 2 ["self","basin"] o5:=jU
include T in
theorem IO (F:Fun K "let_parts" "PlainLock.let_parts" o5 f fd) (xk:Def P w K mg base 1 "parts_not_nought" ["parts"] [] (eH K)):FnOk P w K mg base jT 2 f fd ["self","basin"] (UI (jG cP cB cU)):=by
 refine F.ok2 MX fun vs H Q E h=>?_
 refine ZW h fun J x n an l G v b h=>?_
 refine vC h fun e_ Z q=>?_
 subst e_;obtain ⟨dx,hx⟩:=Z;refine ⟨rfl,fun _ _ _ _ hr=>?_⟩;refine ⟨_,(jN (jR xk hr rfl (jC (qC (jC (kX (jC j4 (jC (kN K (jA 0) rfl) jE))) jE)) jE))),?_⟩
 try dsimp only [jX,jW]
 refine (kR hx (T.cl J) (T.wz J) (gA J _ _ _ _ _) (⟨zz2,fun tp am=>⟨zz1,fun lp Y=>?_⟩⟩));have s1:=jL am (.tup [.str "low",.int G]);have S:=jL Y (.lst [V.ref tp]);refine j3 lp ([.ref tp]) ([("low",G)]) (jP rfl (so jF) (PartsAt.nil.snoc (S _ _ jF)) (by show 1<=10;decide) (fun rr H' O sm I ah hP=>?_));exact q rr H' O ((s1.trans S).trans sm) ((s1.trans S).free I) ah hP
theorem AC:jV 2 ["self","basin","saved"] oF:=jU
include T in
theorem HN (F:Fun K "let_parts" "BasinLock.let_parts" oF f fd) (xk:Def P w K mg base 1 "parts_not_nought" ["parts"] [] (eH K)):FnOk P w K mg base jT 2 f fd ["self","basin"] (JO (jG cP cB cU) Q5 .basin):=by
 refine F.ok2 AC fun vs H Q E h=>?_
 refine yL h fun x n a4 l G v b h=>?_
 refine vC h fun e_ am q=>?_
 subst e_;obtain ⟨dx,J⟩:=am;refine ⟨rfl,fun _ _ _ _ hr=>?_⟩;refine tk fun x0=>?_
 let u0:=ru x0 [1] (jN (jR xk hr rfl (jC (qC (jC (kX (jC j4 (jC (jA 2) jE))) (jC (kX (jC j4 (jC (jI yB (kN K (jA 0) rfl) (jA 2)) jE))) jE))) jE)))
 refine ⟨_,(jH (jY 2 AC.nd (jI yB (kN K (jA 0) rfl) (jA 1)))
   u0.h),?_⟩
 try dsimp only [jX,jW]
 have Y:=J;refine (kR Y (T.cl .basin) (T.xbd) (uW _ _ _ _ _ _) (qS (?_)));refine (⟨zz2,fun tp ap=>?_⟩);have Z:=jL ap (.tup [.str "basin",.int (v - b)]);have Y:=Z _ _ J;refine (kR Y (T.cl .basin) (T.wz .basin) (gA .basin _ _ _ _ _) (qS (⟨zz2,fun tq a3=>⟨zz2,fun lp ah=>?_⟩⟩)));have s2:=jL a3 (.tup [.str "low",.int (G - (v - b))]);have O:=jL ah (.lst [V.ref tp,V.ref tq]);refine j3 lp ([.ref tp,.ref tq]) ([("basin",v - b),("low",G - (v - b))]) (jP rfl (so jF) ((PartsAt.nil.snoc (O _ _ (s2 _ _ jF))).snoc (O _ _ jF)) (by show 2<=10;decide) (fun rr H' S sm I an hP=>?_));exact q rr H' S (((Z.trans s2).trans O).trans sm) (((Z.trans s2).trans O).free I) an hP
theorem ML:jV 4 ["self","reaches","locks","nights"] bX:=jU
include T in
theorem IB {ds:List Value} (F:FunD K "__init__" "Canal.__init__" bX f fd ds) : FnOk P w K mg base jT 1 f fd ["self","reaches","locks","nights"] (tL (jG cP cB cU) cR cN):=by
 refine F.ok2 ML fun vs H Q E h=>?_
 obtain ⟨x,O,rl,ll,nv,rs,ls,R,L,N,rfl,hx,a7,bl,hR,hL,hN,q⟩:=h;refine ⟨rfl,fun _ _ _ _ hr=>?_⟩;refine tk fun x0=>?_
 let u0:=ru x0 [2] (kM (vR (jA 0) (zQ (j6 V5 (jA 3) V3) (qC jE) (xJ ["night"] [] (yF (kF bX)) (yN (jA 3)) (fun _ _ _ _ _=>(vP (zN K) (by rfl) T.xt aL (jC (jA 0) jE))))) rfl))
 let u1:=ru x0 [1] (jH (vR (jA 0) (vP (zN K) (by rfl) T.xt aL (jC (jA 2) jE)) rfl)
   u0.h)
 refine ⟨_,(jH (vR (jA 0) (vP (zN K) (by rfl) T.xt aL (jC (jA 1) jE)) rfl)
   u1.h),?_⟩
 try dsimp only [jX,jW]
 have ln:∀(f:Str) (z:V) (fs:List (Str×V)) (m:Nat),fs.length<=m->(jS f z fs).length<=m+1:=fun f z fs m h=>aI (zO f z fs) (by lia)
 have cn:rl≠x:=yC a7 hx (fun z=>nomatch z);have cd:ll≠x:=yC bl hx (fun z=>nomatch z);refine (⟨rl,jB rfl (⟨.inl (so a7),fun I ah=>?_⟩)⟩);have s1:=jL ah (.lst rs);have ap:I≠x:=(qE hx ah).symm;refine (j3 x cN O (jB rfl (jP (s1 _ _ hx) T.clN T.xl (by show 0<1000;decide) ?_)));have k1:Keep x H (upd (upd H I (.lst rs)) x (.ins cN O (jS "reaches" (.ref I) []))):=(Keep.of s1).upd _;have bt:upd (upd H I (.lst rs)) x (.ins cN O (jS "reaches" (.ref I) [])) I=some (.lst rs):=by rw [jQ ap];exact jF
 have a5:upd (upd H I (.lst rs)) x (.ins cN O (jS "reaches" (.ref I) [])) x=some (.ins cN O (jS "reaches" (.ref I) [])):=jF;generalize upd (upd H I (.lst rs)) x (.ins cN O (jS "reaches" (.ref I) []))=H1 at k1 bt a5 ⊢;have l1:=ln "reaches" (.ref I) [] 0 (ak _);refine (⟨ll,jB rfl (⟨.inl (so (k1 _ _ cd bl)),fun J Z=>?_⟩)⟩);have s2:=jL Z (.lst ls);have an:J≠x:=(qE a5 Z).symm;refine (j3 x cN O (jB rfl (jP (s2 _ _ a5) T.clN T.xw (by lia) ?_)));have cj:=ln "locks" (.ref J) _ _ l1;have k2:Keep x H (upd (upd H1 J (.lst ls)) x (.ins cN O (jS "locks" (.ref J) (jS "reaches" (.ref I) [])))):=(k1.trans (Keep.of s2)).upd _;have a3:upd (upd H1 J (.lst ls)) x (.ins cN O (jS "locks" (.ref J) (jS "reaches" (.ref I) []))) I=some (.lst rs):=by rw [jQ ap];exact s2 _ _ bt
 have b1:upd (upd H1 J (.lst ls)) x (.ins cN O (jS "locks" (.ref J) (jS "reaches" (.ref I) []))) J=some (.lst ls):=by rw [jQ an];exact jF
 have Y:upd (upd H1 J (.lst ls)) x (.ins cN O (jS "locks" (.ref J) (jS "reaches" (.ref I) []))) x=some (.ins cN O (jS "locks" (.ref J) (jS "reaches" (.ref I) []))):=jF;generalize upd (upd H1 J (.lst ls)) x (.ins cN O (jS "locks" (.ref J) (jS "reaches" (.ref I) [])))=H2 at k2 a3 b1 Y ⊢;have b4:∀D:List Addr,(∀d∈D,H d≠none)->I∉D:=fun D hD z=>hD _ z ah
 have ce:∀D:List Addr,(∀d∈D,H d≠none)->J∉D:=fun D hD z=>by
  by_cases e:J=x
  ·exact an e
  ·cases hh:H J with
   |none=>exact hD _ z hh
   |some o=>rw [k1 _ _ e hh] at Z;cases Z
 have done:∀(S:Addr) (ns:List V) (H3:Hp),Keep x H2 H3->H2 S=none->H3 x=some (.ins cN O (jS "locks" (.ref J) (jS "reaches" (.ref I) [])))->H3 S=some (.lst ns)->(∀D:List Addr,(∀d∈D,H2 d≠none)->AllAt (NAt D H3) ns N)->Q .non (upd H3 x (.ins cN O (jS "nights" (.ref S) (jS "locks" (.ref J) (jS "reaches" (.ref I) []))))):=by
  intro S ns H3 k3 G a9 b9 ca;have kf:Keep x H (upd H3 x (.ins cN O (jS "nights" (.ref S) (jS "locks" (.ref J) (jS "reaches" (.ref I) []))))):=(k2.trans k3).upd _;have kl:Keep x H3 (upd H3 x (.ins cN O (jS "nights" (.ref S) (jS "locks" (.ref J) (jS "reaches" (.ref I) []))))):=(Keep.refl x H3).upd _;have b8:S≠x:=fun z=>by rw [z,Y] at G;cases G
  have b0:∀d,H d≠none->H2 d≠none:=fun d hd=>by
   by_cases e:d=x
   ·rw [e,Y];exact fun z=>nomatch z
   ·cases hh:H d with
    |none=>exact absurd hh hd
    |some o=>rw [k2 _ _ e hh];exact fun z=>nomatch z
  refine q _ kf fun D hD=>(Z4 O I J S _ rs ls ns (GS jF (RE _ _ _) ?_ ?_ ?_ (hR.mono (RcO.keepI kf hx)) (hL.mono (LkO.keepI kf hx)) ?_ (b4 D hD) (ce D hD) (fun z=>b0 _ (hD _ z) G)))
  ·rw [jQ ap];exact k3 _ _ ap a3
  ·rw [jQ an];exact k3 _ _ an b1
  ·rw [jQ b8];exact b9
  ·refine (ca D (fun d hd=>b0 d (hD d hd))).mono ?_;rintro v p ⟨l,qs,e1,e2,e3,e4⟩;exact ⟨l,qs,(jM e1 (kl _ _ (fun z=>by rw [z,a9] at e2;cases e2) e2) (e3.mono (QAt.keep kl a9 (fun _ z=>nomatch z))) e4)⟩
 refine ⟨rfl,jB rfl (?_)⟩
 rcases hN with ⟨rfl,rfl⟩|⟨nl,ns,rfl,b2,hN,b3⟩
 ·refine kY rfl ⟨zz0,fun S G=>?_⟩;have s3:=jL G (.lst []);refine (j3 x cN O (jB rfl (jP (s3 _ _ Y) T.clN T.zc (by lia) ?_)));exact done S [] _ (Keep.of s3) G (s3 _ _ Y) jF (fun D _=>AllAt.nil)
 ·have b7:nl≠x:=yC b2 hx (fun z=>nomatch z);have a4:=k2 _ _ b7 b2;have a8:AllAt (NAt [] H2) ns N:=hN.mono fun v p=>by
   rintro ⟨l,qs,e1,e2,e3,e4⟩;exact ⟨l,qs,(jM e1 (k2 _ _ (yC e2 hx (fun z=>nomatch z)) e2) (e3.mono (QAt.keep k2 hx (fun _ z=>nomatch z))) e4)⟩
  refine kE (fun z=>nomatch z) (⟨nl,rfl,⟨_,so a4⟩,fun S G=>?_⟩);refine dI (K:=K) (a:=nl) (xs:=ns) (caps:=[]) (fun i ys Hi=>(∀D:List Addr,S∈D->(∀d∈D,d≠S->H2 d≠none)->AllAt (NAt D Hi) ys (N.take i))) G (so a4) (fun D _ _=>AllAt.nil) ?_ ?_
  ·rintro i v ys Hi hv hi a6 sm hY hI;obtain ⟨p,hp,l,qs,rfl,hl,hq,_⟩:=a8.2 i v hv;refine zK (qA ?_);refine (⟨l,qs,rfl,.inl (so (sm _ _ hl)),fun c am=>?_⟩);have u:=jL am (.lst qs);refine Q7 G sm hY a6 (by lia) u ?_;intro D be hD;rw [aV,hp];refine (((hI D be hD).mono (NAt.same u)).snoc (v:=.ref c) (x:=p) ⟨c,qs,(jM rfl jF ((hq.mono (QAt.same sm)).mono (QAt.same u)) (fun z=>?_))⟩).mono (NAt.put (u _ _ hY) be)
   by_cases e:c=S
   ·rw [e,hY] at am;cases am
   ·cases hh:H2 c with
    |none=>exact hD _ z e hh
    |some o=>rw [sm _ _ hh] at am;cases am
  rintro ys H3 s3 hY a6 hI;rw [a8.1,aZ] at hI;refine (j3 x cN O (jB rfl (jP (s3 _ _ Y) T.clN T.zc (by lia) ?_)));exact done S ys H3 (Keep.of s3) G (s3 _ _ Y) hY (fun D hD=>(hI (S::D) bq (fun d hd ne=>(aj.mp hd).elim (fun z=>absurd z ne) (hD d))).mono (NAt.less (fun d hd=>aF _ hd)))
theorem MS:jV 1 ["self"] oZ:=jU
include T in
theorem II (F:Fun K "sea" "Canal.sea" oZ f fd) : FnOk P w K mg base jT 1 f fd ["self"] (ZR (jG cP cB cU) cR cN JH):=by
 refine F.ok2 MS fun vs H Q E h=>?_
 refine Q6 h fun x D R L N h=>?_
 refine vC h fun V G q=>?_
 subst V;obtain ⟨dx,rl,ll,nl,fs,rs,ls,ns,J,O,l,I,Y,Z,S,hN,d1,d2,d3⟩:=G;refine ⟨rfl,fun _ _ _ _ hr=>?_⟩;refine ⟨_,(jN (jI kU (vF K T.xq (kN K (jA 0) rfl)) (jI y9 jD (vF K T.xq (kN K (jA 0) rfl))))),?_⟩
 try dsimp only [jX,jW]
 refine (kR J (T.clN) (T.xl) (O.1) (⟨_,jB rfl (⟨.inl (so l),(kR J (T.clN) (T.xw) (O.2.1) (⟨_,jB rfl (⟨.inl (so I),⟨_,_,(jM rfl rfl (.inl ⟨by decide,by decide⟩) ⟨_,_,⟨rfl,rfl,?_⟩⟩)⟩⟩)⟩))⟩)⟩));rw [Z.1,S.1];exact q
theorem MT:jV 1 ["self"] o0:=jU
include T in
theorem IJ (F:Fun K "sky" "Canal.sky" o0 f fd) (I:MeD P w K mg base 1 cN "sea" ["self"] (ZR (jG cP cB cU) cR cN JH)):FnOk P w K mg base jT 2 f fd ["self"] (ZR (jG cP cB cU) cR cN bO):=by
 refine F.ok2 MT fun vs H Q E h=>?_
 refine Q6 h fun x D R L N h=>?_
 refine vC h fun J G q=>?_
 subst J;refine ⟨rfl,fun _ _ _ _ Y=>?_⟩;refine ⟨_,(jN (jI kU (kL I Y (jA 0)) jD)),?_⟩
 try dsimp only [jX,jW]
 have l:=G;obtain ⟨S,rl,ll,nl,fs,rs,ls,ns,O,Z,V,am,ah,hR,hL,hN,d1,d2,d3⟩:=G;exact (⟨x,S,jB rfl (⟨O,Z.no (by trivial) (by trivial) (by trivial),(kS x D R L N ⟨rfl,l,⟨_,_,⟨rfl,rfl,q⟩⟩⟩)⟩)⟩)
theorem MQ:jV 1 ["self"] oX:=jU
include T in
theorem IG (F:Fun K "many" "Canal.many" oX f fd) (Z:MeD P w K mg base 2 cN "sky" ["self"] (ZR (jG cP cB cU) cR cN bO)):FnOk P w K mg base jT 3 f fd ["self"] (ZR (jG cP cB cU) cR cN mW):=by
 refine F.ok2 MQ fun vs H Q E h=>?_
 refine Q6 h fun x D R L N h=>?_
 refine vC h fun I G q=>?_
 subst I;refine ⟨rfl,fun _ _ _ _ V=>?_⟩;refine ⟨_,(jN (jI kU (kL Z V (jA 0)) jD)),?_⟩
 try dsimp only [jX,jW]
 have l:=G;obtain ⟨O,rl,ll,nl,fs,rs,ls,ns,J,Y,S,am,ah,hR,hL,hN,d1,d2,d3⟩:=G;exact (⟨x,O,jB rfl (⟨J,Y.no (by trivial) (by trivial) (by trivial),(kS x D R L N ⟨rfl,l,⟨_,_,⟨rfl,rfl,q⟩⟩⟩)⟩)⟩)
theorem MN:jV 2 ["self","k"] oS:=jU
include T in
theorem ID (F:Fun K "chamber" "Canal.chamber" oS f fd) : FnOk P w K mg base jT 1 f fd ["self","k"] (cM (jG cP cB cU) cR cN JV):=by
 refine F.ok2 MN fun vs H Q E h=>?_
 refine bQ h fun x D R L N k h=>?_
 refine vC h fun I G q=>?_
 subst I;obtain ⟨dx,rl,ll,Z,fs,rs,ls,ns,J,O,l,Y,S,V,hL,hN,d1,d2,d3⟩:=G;refine ⟨rfl,fun _ _ _ _ hr=>?_⟩;refine ⟨_,(jN (jI kU (vF K T.xq (kN K (jA 0) rfl)) (jA 1))),?_⟩
 try dsimp only [jX,jW]
 refine (kR J (T.clN) (T.xl) (O.1) (⟨_,jB rfl (⟨.inl (so l),(qS (?_))⟩)⟩));rw [V.1];exact q
theorem MM:jV 2 ["self","k"] oR:=jU
include T in
theorem IC (F:Fun K "basin" "Canal.basin" oR f fd) : FnOk P w K mg base jT 1 f fd ["self","k"] (cM (jG cP cB cU) cR cN zC):=by
 refine F.ok2 MM fun vs H Q E h=>?_
 refine bQ h fun x D R L N k h=>?_
 refine vC h fun V G q=>?_
 subst V;obtain ⟨dx,rl,ll,nl,fs,rs,ls,ns,J,O,l,I,Y,Z,S,hN,d1,d2,d3⟩:=G;refine ⟨rfl,fun _ _ _ _ hr=>?_⟩;refine ⟨_,(jN (jI kU (jI kU (vF K T.xq (kN K (jA 0) rfl)) (vF K T.xq (kN K (jA 0) rfl))) (jA 1))),?_⟩
 try dsimp only [jX,jW]
 refine (kR J (T.clN) (T.xl) (O.1) (⟨_,jB rfl (⟨.inl (so l),(kR J (T.clN) (T.xw) (O.2.1) (⟨_,jB rfl (⟨.inl (so I),_,_,rfl,rfl,(qS (?_))⟩)⟩))⟩)⟩));rw [Z.1,S.1];exact q
theorem MU:jV 1 ["self"] iF:=jU
include T in
theorem IL (F:Fun K "weirs" "Canal.weirs" iF f fd) (vk:MeD P w K mg base 1 cN "sea" ["self"] (ZR (jG cP cB cU) cR cN JH)):FnOk P w K mg base jT 2 f fd ["self"] (fS (jG cP cB cU) cR cN):=by
 refine F.ok2 MU fun vs H Q E h=>?_
 refine Q6 h fun x D R L N h=>?_
 refine bS h fun e_ hc ap q=>?_
 subst e_;refine ⟨rfl,fun _ _ _ _ hr=>?_⟩;refine ⟨_,(jN (xJ ["reach","self"] [0] (yF (kF iF)) (yN (kN K (jA 0) rfl)) (fun _ _ _ _ _=>(kX (jC (kN K (jA 0) rfl) (jC (zQ (j6 kP (kN K (jA 0) rfl) (zI (v:=.int (-1)) rfl T.xbN ⟨_,rfl⟩)) (kL vk hr (jA 1)) (kN K (jA 0) rfl)) jE)))))),?_⟩
 try dsimp only [jX,jW]
 have an:=hc;obtain ⟨dx,rl,ll,nl,fs,rs,ls,ns,hx,hf,Z,a4,a3,hR,hL,hN,d1,d2,d3⟩:=hc;refine (kR hx (T.clN) (T.xl) (hf.1) (⟨rl,rfl,⟨_,so Z⟩,fun wl G=>?_⟩));refine dI (K:=K) (a:=rl) (xs:=rs) (caps:=[some (.ref x)]) (fun i ys J=>AllAt (QAt J) ys ((R.take i).map (JQ (JH R.length L.length)))) G (so Z) AllAt.nil ?_ ?_
 ·rintro i v ys J hv hi Y S hY hW;obtain ⟨r,hr,y,rfl,dy,gs,hy,hg⟩:=hR.2 i v hv;have hy:=S _ _ hy;have am:i<100:=by rw [hR.1] at hi;lia
  refine zK (qA ?_);refine (kR hy (T.clR) (T.zv) (hg.2.2.1) (kR hy (T.clR) (T.zj) (hg.2.2.2.2.2) (⟨rfl,jB rfl (?_)⟩)));have ah:∀z:Int,z=(JQ (JH R.length L.length) r).2->∀l,J l=none->∃O,upd J l (.tup [.int r.crest,.int z]) wl=some (.lst O)/\O.length<sizeLine/\JT H wl [some (.ref x)] (fun i ys J=>AllAt (QAt J) ys ((R.take i).map (JQ (JH R.length L.length)))) (i+1) [some (.ref y),some (.ref x)] (upd (upd J l (.tup [.int r.crest,.int z])) wl (.lst (O++[.ref l]))):=by
   intro z hz l I;have u:=jL I (.tup [V.int r.crest,V.int z]);exact Q7 (R:=fun i ys J=>AllAt (QAt J) ys ((R.take i).map (JQ (JH R.length L.length)))) (c:=some (.ref y)) (caps:=[some (.ref x)]) (v:=.ref l) G S hY Y (by lia) u (by
    rw [aV,hr,aK];exact ((hW.mono (QAt.same u)).snoc (v:=.ref l) (x:=JQ (JH R.length L.length) r) ⟨l,rfl,by rw [<- hz];exact jF⟩).mono (QAt.put (u _ _ hY)))
  by_cases ht:r.target = -1
  ·refine kY (cf V.int ht) (⟨x,dx,jB rfl (⟨(S _ _ hx),hf.no (by trivial) (by trivial) (by trivial),kS x D R L N (jM rfl (an.same S) zz2 (fun l I=>?_))⟩)⟩);exact ah _ (by unfold JQ;rw [if_pos ht]) l I
  ·refine kE (fun z=>ht (V.int.inj z)) (kR hy (T.clR) (T.zj) (hg.2.2.2.2.2) (⟨zz2,fun l I=>?_⟩));exact ah _ (by unfold JQ;rw [if_neg ht]) l I
 rintro ys Hf S hY Y hW;rw [hR.1,aZ] at hW;exact q wl ys Hf S G hY hW
theorem MO:jV 3 ["self","waters","k"] oV:=jU
include T in
theorem IE (F:Fun K "full" "Canal.full" oV f fd) (zn:MeD P w K mg base 1 cN "chamber" ["self","k"] (cM (jG cP cB cU) cR cN JV)):FnOk P w K mg base jT 2 f fd ["self","waters","k"] (lX (jG cP cB cU) cR cN):=by
 refine F.ok2 MO fun vs H Q E h=>?_
 refine ZW h fun x wa D R L N ms k h=>?_
 refine Z0 h fun S J I O q=>?_
 subst S;refine ⟨rfl,fun _ _ _ _ hr=>?_⟩;refine ⟨_,(jN (JB w6 (jJ (jO K) (jA 1) (bP zn hr (jA 0) (jC (jA 2) jE))) jD)),?_⟩
 try dsimp only [jX,jW]
 have G:=J;obtain ⟨Z,rl,ll,nl,fs,rs,ls,ns,Y,hf,ah,an,am,hR,hL,hN,d1,d2,d3⟩:=J;have l:vO (ms.map V.int) (JV R.length L.length (k:Int))=some (.int (ms.getD (R.length+k) 0)):=by
  rw [show JV R.length L.length (k:Int)=((R.length+k:Nat):Int) by unfold JV;lia];exact yU O
 exact (⟨x,Z,jB rfl (⟨Y,hf.no (by trivial) (by trivial) (by trivial),(kS x D R L N (jB rfl (⟨G,jK (SqT.of I) l (qS (q))⟩)))⟩)⟩)
theorem sI:jV 1 ["self","waters","others"] iE:=jU
include T in
theorem IK (F:Fun K "start" "Canal.start" iE f fd) (bt:MeD P w K mg base 3 cN "many" ["self"] (ZR (jG cP cB cU) cR cN mW)) (bl:Def P w K mg base 4 "settled" ["weirs","waters"] [] (B7 K)) (xu:MeD P w K mg base 2 cN "weirs" ["self"] (fS (jG cP cB cU) cR cN)):FnOk P w K mg base jT 5 f fd ["self"] (uI (jG cP cB cU) cR cN):=by
 refine F.ok2 sI fun vs H Q E h=>?_
 refine Q6 h fun x D R L N h=>?_
 refine z3 h fun e_ hc Z a9 hT q=>?_
 subst e_;refine ⟨rfl,fun _ _ _ _ Y=>?_⟩;refine tk fun x0=>?_
 let u0:=ru x0 [1] (jH (jY 2 sI.nd (jI FK (qC (jC jD jE)) (jI yB (kL bt Y (jA 0)) (vF K T.xq (jA 1)))))
   (jN (jR bl Y rfl (jC (kL xu Y (jA 0)) (jC (jI QF (jA 1) (jA 2)) jE)))))
 refine ⟨_,(jH (fM (i:=1) ["reach"] (vM 1 []) sI.nd rfl (.inl rfl) rfl (yF (kF iE)) (cps 1 []) (yN (kN K (jA 0) rfl)) (fun _ _ _ _ _=>(kT (i:=0) (show List.Nodup (["reach"]:List Str) from by trivial) rfl (.inl rfl))) (fun _ _ _ _ _=>JD) (fun _ _ _ _ _=>(kN K (jA 0) rfl)))
   u0.h),?_⟩
 try dsimp only [jX,jW]
 have ap:=hc;obtain ⟨dx,rl,ll,nl,fs,rs,ls,ns,hx,hf,an,b2,b1,hR,hL,hN,d1,d2,d3⟩:=hc;refine (kR hx (T.clN) (T.xl) (hf.1) (⟨rl,rfl,⟨_,so an⟩,fun wl J=>?_⟩));refine dI (K:=K) (a:=rl) (xs:=rs) (caps:=[]) (fun i ys Hi=>ys=((R.take i).map (·.water)).map V.int) J (so an) rfl ?_ ?_
 ·rintro i v ys Hi hv hi am sm hY rfl;obtain ⟨r,Y,y,rfl,dy,gs,hy,hg⟩:=hR.2 i v hv;have hy:=sm _ _ hy;have a7:i<100:=by rw [hR.1] at hi;lia
  refine zK (qA (kR hy (T.clR) (T.zw) (hg.2.2.2.2.1) (Q7 J sm hY am (by lia) (Same.refl _) ?_)));rw [aV,Y,aK,aK];rfl
 rintro ys H1 s1 S am rfl;rw [hR.1,aZ] at S;refine ⟨zz1,fun lp a6=>?_⟩;have s2:=jL a6 (.lst [V.int 0]);have O:=s1.trans s2;refine (⟨x,dx,jB rfl (⟨(O _ _ hx),hf.no (by trivial) (by trivial) (by trivial),kS x D R L N (kG rfl (ap.same O) (⟨wl,jB rfl (⟨.inl (so (s2 _ _ S)),_,_,rfl,rfl,?_⟩)⟩))⟩)⟩);have e1:mW R.length L.length - ((((R.map (·.water)).map V.int).length:Nat):Int)=((2*L.length+2:Nat):Int):=by
  rw [ac,ac];unfold mW;lia
 try dsimp only
 rw [e1];refine j3 lp _ _ (vS rfl rfl jF (by lia) (by lia) ?_ (fun gp be=>?_))
 ·rw [bd,ax,Nat.one_mul];exact small (by lia)
 rw [bd,DK];have s3:=jL be (.lst ((List.replicate (2*L.length+2) (0:Int)).map V.int));have l:=O.trans s3;have I:upd (upd H1 lp (.lst [V.int 0])) gp (.lst ((List.replicate (2*L.length+2) (0:Int)).map V.int)) gp=_:=jF;have G:=s3 _ _ (s2 _ _ S);generalize upd (upd H1 lp (.lst [V.int 0])) gp (.lst ((List.replicate (2*L.length+2) (0:Int)).map V.int))=H3 at s3 l I G ⊢;refine (⟨x,dx,jB rfl (⟨(l _ _ hx),hf.no (by trivial) (by trivial) (by trivial),kS x D R L N (jM rfl (ap.same l) Z (fun wq ws H4 s4 b0 a5 hW=>?_))⟩)⟩);refine (j5 wl gp _ _ (j7 rfl rfl (s4 _ _ G) (s4 _ _ I) ?_ (fun al a3=>?_)))
 ·rw [ac,ac,ac,cq];exact small (by lia)
 have e2:(R.map (·.water)).map V.int++(List.replicate (2*L.length+2) (0:Int)).map V.int=(yJ R L.length).map V.int:=by unfold yJ;rw [aK]
 rw [e2];have s5:=jL a3 (.lst ((yJ R L.length).map V.int));have ah:=(l.trans s4).trans s5;refine kS wq al ws (qK R L.length) (yJ R L.length) ⟨rfl,⟨so (s5 _ _ a5),C6 hT (hW.mono (QAt.same s5)),.inl (so jF),fK hT,by rw [fN,fO];lia,by rw [fO];lia⟩,fun r H' gs s' a8 Y a4=>?_⟩;exact q r H' gs (ah.trans s') (ah.free a8) Y a4
theorem M8:jV 2 ["lock","basin"] iK:=jU
include T in
theorem KS (F:kC K "filling" iK f fd) (vd:MeK P w K mg base 2 (jG cP cB cU) "fill_parts" ["self","basin"] (JO (jG cP cB cU) bK)):FnOk P w K mg base jT 3 f fd ["lock","basin"] (fT (jG cP cB cU) zV):=by
 refine F.ok2 M8 fun vs H Q E h=>?_
 refine ZW h fun x Y n J l G v b h=>?_
 refine vC h fun e_ am q=>?_
 subst e_;obtain ⟨dx,hx⟩:=am;refine ⟨rfl,fun _ _ _ _ hr=>?_⟩;refine ⟨_,(jN (QC ["giver","amount"] (vM 2 []) rfl (yF (kF iK)) (cps 2 []) (yN (FZ vd hr (jA 0) (jC (jA 1) jE))) (fun _ _ _ _ _=>(JP (n:=2) K rfl (qO (kT (i:=0) (show List.Nodup (["giver","amount"]:List Str) from by trivial) rfl (.inl rfl)) (qO (kT (i:=1) (show List.Nodup (["giver","amount"]:List Str) from by trivial) rfl (.inl rfl)) zH)))) (fun _ _ _ _ _=>JD) (fun _ _ _ _ _=>(kX (qQ (jA 0) j4 (jA 1)))))),?_⟩
 try dsimp only [jX,jW]
 refine (j3 Y x dx (jB rfl (⟨hx,VD Y _ _ _ _ _,(j3 x n J (j5 l G v b (kG rfl ⟨dx,hx⟩ (fun pl H1 rs s1 a3 O hP=>?_))))⟩)));have ap:=CO Y G v b;refine ⟨pl,rfl,⟨_,so O⟩,fun D hD=>?_⟩;have u0:=jL hD (.lst []);refine b5 (K:=K) (a:=pl) (xs:=rs) (fun i σ I=>∃(c1 c2:Option V) (ys:List V),σ=[c1,c2]/\I D=some (.lst ys)/\PoursS I ys ((bK Y G v b).take i |>.map (fun p=>(p.1,"chamber",p.2)))/\Same H1 I)
  (j3 none none ([]) (jM rfl jF PoursS.nil u0)) (fun i σ I _ ⟨_,_,_,_,_,_,s⟩=>so (s _ _ O)) ?_ ?_
 ·rintro i y σ I hy ⟨c1,c2,ys,rfl,Z,S,sm⟩;have hi:i<rs.length:=(ae.mp hy).1;obtain ⟨t,sN,nN,rfl,ah,hT⟩:=hP.2 i y hy;have hl:ys.length<=i:=by rw [S.1,ac];exact hJ _ _
  refine ⟨t,jB rfl (⟨SqT.of (sm _ _ hT),rfl,_,jB rfl (⟨_,_,rfl,rfl,?_⟩)⟩)⟩;refine zK (qA ?_);refine (⟨zz3,fun tp an=>?_⟩);have v1:∀o,Same I (upd I tp o):=fun o=>jL an o
  refine ⟨ys,⟨v1 _ _ _ Z,qX (by rw [hP.1] at hi;lia),(j3 _ _ (ys++[.ref tp]) (jM rfl jF ?_ (qJ hD (sm.trans (v1 _)))))⟩⟩;rw [AR ah];exact PoursS.keep ((Keep.refl D _).upd _) (v1 _ _ _ Z) ((S.same (v1 _)).append (PoursS.one jF))
 ·rintro σ I ⟨c1,c2,ys,rfl,Z,S,sm⟩;rw [hP.1,aZ] at S;exact q D I ys (s1.trans sm) (s1.free hD) Z S
theorem NF:jV 2 ["lock","basin"] iM:=jU
include T in
theorem K3 (F:kC K "letting" iM f fd) (vm:MeK P w K mg base 2 (jG cP cB cU) "let_parts" ["self","basin"] (JO (jG cP cB cU) Q5)):FnOk P w K mg base jT 3 f fd ["lock","basin"] (fT (jG cP cB cU) zB):=by
 refine F.ok2 NF fun vs H Q E h=>?_
 refine ZW h fun x Y n J l G v b h=>?_
 refine vC h fun e_ am q=>?_
 subst e_;obtain ⟨dx,hx⟩:=am;refine ⟨rfl,fun _ _ _ _ hr=>?_⟩;refine ⟨_,(jN (QC ["taker","amount"] (vM 2 []) rfl (yF (kF iM)) (cps 2 []) (yN (FZ vm hr (jA 0) (jC (jA 1) jE))) (fun _ _ _ _ _=>(JP (n:=2) K rfl (qO (kT (i:=0) (show List.Nodup (["taker","amount"]:List Str) from by trivial) rfl (.inl rfl)) (qO (kT (i:=1) (show List.Nodup (["taker","amount"]:List Str) from by trivial) rfl (.inl rfl)) zH)))) (fun _ _ _ _ _=>JD) (fun _ _ _ _ _=>(kX (qQ j4 (jA 0) (jA 1)))))),?_⟩
 try dsimp only [jX,jW]
 refine (j3 Y x dx (jB rfl (⟨hx,WJ Y _ _ _ _ _,(j3 x n J (j5 l G v b (kG rfl ⟨dx,hx⟩ (fun pl H1 rs s1 a3 O hP=>?_))))⟩)));have ap:=DR Y G v b;refine ⟨pl,rfl,⟨_,so O⟩,fun D hD=>?_⟩;have u0:=jL hD (.lst []);refine b5 (K:=K) (a:=pl) (xs:=rs) (fun i σ I=>∃(c1 c2:Option V) (ys:List V),σ=[c1,c2]/\I D=some (.lst ys)/\PoursS I ys ((Q5 Y G v b).take i |>.map (fun p=>("chamber",p.1,p.2)))/\Same H1 I)
  (j3 none none ([]) (jM rfl jF PoursS.nil u0)) (fun i σ I _ ⟨_,_,_,_,_,_,s⟩=>so (s _ _ O)) ?_ ?_
 ·rintro i y σ I hy ⟨c1,c2,ys,rfl,Z,S,sm⟩;have hi:i<rs.length:=(ae.mp hy).1;obtain ⟨t,sN,nN,rfl,ah,hT⟩:=hP.2 i y hy;have hl:ys.length<=i:=by rw [S.1,ac];exact hJ _ _
  refine ⟨t,jB rfl (⟨SqT.of (sm _ _ hT),rfl,_,jB rfl (⟨_,_,rfl,rfl,?_⟩)⟩)⟩;refine zK (qA ?_);refine (⟨zz3,fun tp an=>?_⟩);have v1:∀o,Same I (upd I tp o):=fun o=>jL an o
  refine ⟨ys,⟨v1 _ _ _ Z,qX (by rw [hP.1] at hi;lia),(j3 _ _ (ys++[.ref tp]) (jM rfl jF ?_ (qJ hD (sm.trans (v1 _)))))⟩⟩;rw [AR ah];exact PoursS.keep ((Keep.refl D _).upd _) (v1 _ _ _ Z) ((S.same (v1 _)).append (PoursS.one jF))
 ·rintro σ I ⟨c1,c2,ys,rfl,Z,S,sm⟩;rw [hP.1,aZ] at S;exact q D I ys (s1.trans sm) (s1.free hD) Z S
theorem M9:jV 2 ["vessel","pours"] iL:=jU
include T in
theorem KU (F:kC K "given_by" iL f fd) : FnOk P w K mg base jT 1 f fd ["vessel","pours"] (EE):=by
 refine F.ok2 M9 fun vs H Q E h=>?_
 refine dA h fun l p rs qs h=>?_
 refine Z0 h fun e_ hP hA hn q=>?_
 subst e_;refine ⟨rfl,fun _ _ _ _ hr=>?_⟩;refine ⟨_,(jN (vK (CU rfl) (by rfl) T.jp PyProof.Rows.boot_sum (jC (QC ["source","target","amount","vessel"] (vM 3 [0]) rfl (yF (kF iL)) (cps 3 [0]) (yN (jA 1)) (fun _ _ _ _ _=>(JP (n:=3) K rfl (qO (kT (i:=0) (show List.Nodup (["source","target","amount","vessel"]:List Str) from by trivial) rfl (.inl rfl)) (qO (kT (i:=1) (show List.Nodup (["source","target","amount","vessel"]:List Str) from by trivial) rfl (.inl rfl)) (qO (kT (i:=2) (show List.Nodup (["source","target","amount","vessel"]:List Str) from by trivial) rfl (.inl rfl)) zH))))) (fun _ _ _ _ _=>(d9 (j6 kP (jA 0) (jA 3)))) (fun _ _ _ _ _=>(jA 2))) jE))),?_⟩
 try dsimp only [jX,jW]
 refine (⟨p,rfl,⟨_,so hP⟩,fun D hD=>?_⟩);have u0:=jL hD (.lst []);refine b5 (K:=K) (a:=p) (xs:=rs) (fun i S I=>∃(Z c2 c3:Option V),S=[Z,c2,c3,some (.str l)]/\I D=some (.lst ((ZQ (gU l) (qs.take i)).map V.int))/\Same H I)
  (j3 none none none (kG rfl jF u0)) (fun i S I _ ⟨_,_,_,_,_,s⟩=>so (s _ _ hP)) ?_ ?_
 ·rintro i y S I hy ⟨Z,c2,c3,rfl,J,O⟩;have hi:i<rs.length:=(ae.mp hy).1;obtain ⟨t,sS,sT,nN,rfl,hq,hT⟩:=hA.2 i y hy;have G:=BT (gU l) qs i _ hq;have ah:=C5 (gU l) qs i;refine ⟨t,jB rfl (⟨SqT.of (O _ _ hT),rfl,_,jB rfl (⟨_,jB rfl (⟨_,_,rfl,rfl,?_⟩)⟩)⟩)⟩;refine (⟨rfl,jB rfl (?_)⟩);rw [DY]
  by_cases c:(gU l) (sS,sT,nN)=true
  ·rw [if_pos c] at G
   have Y:=of_decide_eq_true c;refine kY Y (⟨_,J,qX (by rw [ac];lia),_,_,jB rfl (⟨?_,qJ hD O⟩)⟩);rw [jF,G,aK];rfl
  ·rw [if_neg c,di] at G
   have Y:¬_:=of_decide_eq_false (dw.mpr c);refine kE Y ⟨_,_,jB rfl (⟨?_,O⟩)⟩;rw [J,G]
 ·rintro S I ⟨Z,c2,c3,rfl,J,O⟩;rw [hA.1,aZ] at J;exact ⟨D,jB rfl (⟨so J,q I O⟩)⟩
theorem AH:jV 2 ["basin","pours","got"] iI:=jU
include T in
theorem KK (F:kC K "basin_after" iI f fd) (ah:Def P w K mg base 1 "given_by" ["vessel","pours"] [] (EE)):FnOk P w K mg base jT 2 f fd ["basin","pours"] (EG):=by
 refine F.ok2 AH fun vs H Q E h=>?_
 refine dA h fun b p rs qs h=>?_
 refine Z0 h fun e_ S hA hn q=>?_
 subst e_;refine ⟨rfl,fun _ _ _ _ hr=>?_⟩;refine ⟨_,(jH (jY 2 AH.nd (vK (CU rfl) (by rfl) T.jp PyProof.Rows.boot_sum (jC (QC ["source","target","amount"] (vM 3 []) rfl (yF (kF iI)) (cps 3 []) (yN (jA 1)) (fun _ _ _ _ _=>(JP (n:=3) K rfl (qO (kT (i:=0) (show List.Nodup (["source","target","amount"]:List Str) from by trivial) rfl (.inl rfl)) (qO (kT (i:=1) (show List.Nodup (["source","target","amount"]:List Str) from by trivial) rfl (.inl rfl)) (qO (kT (i:=2) (show List.Nodup (["source","target","amount"]:List Str) from by trivial) rfl (.inl rfl)) zH))))) (fun _ _ _ _ _=>(d9 (j6 kP (jA 1) j4))) (fun _ _ _ _ _=>(jA 2))) jE)))
   (jN (jI yB (jI kU (jA 0) (jA 2)) (jR ah hr rfl (jC j4 (jC (jA 1) jE)))))),?_⟩
 try dsimp only [jX,jW]
 refine (⟨p,rfl,⟨_,so S⟩,fun D hD=>?_⟩);have u0:=jL hD (.lst []);refine b5 (K:=K) (a:=p) (xs:=rs) (fun i O J=>∃(Z c2 c3:Option V),O=[Z,c2,c3]/\J D=some (.lst ((ZQ (toS "basin") (qs.take i)).map V.int))/\Same H J)
  (j3 none none none (kG rfl jF u0)) (fun i O J _ ⟨_,_,_,_,_,s⟩=>so (s _ _ S)) ?_ ?_
 ·rintro i y O J hy ⟨Z,c2,c3,rfl,I,G⟩;have hi:i<rs.length:=(ae.mp hy).1;obtain ⟨t,sS,sT,nN,rfl,hq,hT⟩:=hA.2 i y hy;have l:=BT (toS "basin") qs i _ hq;have am:=C5 (toS "basin") qs i;refine ⟨t,jB rfl (⟨SqT.of (G _ _ hT),rfl,_,jB rfl (⟨_,jB rfl (⟨_,_,rfl,rfl,?_⟩)⟩)⟩)⟩;refine ⟨rfl,jB rfl (?_)⟩;rw [DY]
  by_cases c:(toS "basin") (sS,sT,nN)=true
  ·rw [if_pos c] at l
   have Y:=of_decide_eq_true c;refine kY Y (⟨_,I,qX (by rw [ac];lia),_,_,jB rfl (⟨?_,qJ hD G⟩)⟩);rw [jF,l,aK];rfl
  ·rw [if_neg c,di] at l
   have Y:¬_:=of_decide_eq_false (dw.mpr c);refine kE Y ⟨_,_,jB rfl (⟨?_,G⟩)⟩;rw [I,l]
 ·rintro O J ⟨Z,c2,c3,rfl,I,G⟩;rw [hA.1,aZ] at I;refine ⟨D,jB rfl (⟨so I,?_⟩)⟩;refine (qS (⟨"basin",j3 p rs qs (jP rfl (G _ _ S) (hA.same G) hn (fun H' s2=>⟨_,_,rfl,rfl,q H' (G.trans s2)⟩))⟩))
theorem sQ:jV 4 ["lock","full","basin","way","made_ready"] rE:=jU
include T in
theorem LF (F:kC K "passage" rE f fd) (wr:Def P w K mg base 3 "letting" ["lock","basin"] [] (fT (jG cP cB cU) zB)) (an:Def P w K mg base 3 "filling" ["lock","basin"] [] (fT (jG cP cB cU) zV)) (wu:Def P w K mg base 2 "basin_after" ["basin","pours"] [] (EG)):FnOk P w K mg base jT 4 f fd ["lock","full","basin","way"] (CA (jG cP cB cU)):=by
 refine F.ok2 sQ fun vs H Q E h=>?_
 obtain ⟨x,kd,n,V,l,G,v,b,f,w,rfl,hx,q⟩:=h;refine ⟨rfl,fun _ _ _ _ hr=>?_⟩;refine tk fun x0=>?_
 let u0:=ru x0 [0,0,0] (jH (jY 4 sQ.nd (zQ (q9 (jA 1)) (jR wr hr rfl (jC (jA 0) (jC (jA 2) jE))) (qC jE)))
   (jN (jI QF (jA 4) (jR an hr rfl (jC (jA 0) (jC (jR wu hr rfl (jC (jA 2) (jC (jA 4) jE))) jE))))))
 let u1:=ru x0 [1] (jH (jY 4 sQ.nd (zQ (q9 (jA 1)) (qC jE) (jR an hr rfl (jC (jA 0) (jC (jA 2) jE)))))
   (jN (jI QF (jA 4) (jR wr hr rfl (jC (jA 0) (jC (jR wu hr rfl (jC (jA 2) (jC (jA 4) jE))) jE))))))
 refine ⟨_,(jH (j9 (j6 kP (jA 3) j4) u0.h kA)
   u1.h),?_⟩
 try dsimp only [jX,jW]
 cases w with
 |true =>
  refine ⟨rfl,jB rfl (kY rfl ?_)⟩;cases f with
  |true =>
   refine (jB rfl (qA (j5 x kd n V (j5 l G v b (kG rfl hx (fun m H1 rs Y ah hm hA=>?_))))));have hl:=cE kd G v b;have ap:=fQ kd G v (QX b (zB kd G v b));refine (j3 b m rs (jB rfl (jM hm hA (by rw [hA.1];lia) (fun H2 S=>?_))));refine kI x kd n V l G v (jB rfl (⟨(hx.same Y).same S,fun z H3 J Z am hz O=>?_⟩));refine j5 m z _ _ (j7 rfl rfl (Z _ _ (S _ _ hm)) hz (small (by rw [hA.1,O.1];lia)) (fun y I=>?_));have s4:=jL I (.lst (rs++J));exact q y _ (rs++J) (((Y.trans S).trans Z).trans s4) (((Y.trans S).trans Z).free I) jF ((((hA.same S).same Z).append O).same s4)
  |false =>
   refine (jB rfl (qB ⟨zz0,fun m ah=>?_⟩));have Y:=jL ah (.lst []);have hm:upd H m (.lst []) m=some (.lst []):=jF;generalize upd H m (.lst [])=H1 at Y hm ⊢;refine (j5 b m ([]) ([]) (jP rfl hm PoursS.nil (by decide) (fun H2 S=>?_)));rw [BU];refine j5 x kd n V (j5 l G v b (kG rfl ((hx.same Y).same S) (fun z H3 J Z am hz O=>?_)));refine j5 m z _ _ (j7 rfl rfl (Z _ _ (S _ _ hm)) hz (small (by rw [O.1];have:=fQ kd G v b;have:=cE kd G v b;show 0+_<=1000;lia)) (fun y I=>?_));have s4:=jL I (.lst ([]++J));exact q y _ J (((Y.trans S).trans Z).trans s4) (((Y.trans S).trans Z).free I) jF (O.same s4)
 |false =>
  refine ⟨rfl,jB rfl (kE WP ?_)⟩;cases f with
  |false =>
   refine (jB rfl (qB (j5 x kd n V (j5 l G v b (kG rfl hx (fun m H1 rs Y ah hm hA=>?_))))));have hl:=fQ kd G v b;have ap:=cE kd G v (QX b (zV kd G v b));refine (j3 b m rs (jB rfl (jM hm hA (by rw [hA.1];lia) (fun H2 S=>?_))));refine kI x kd n V l G v (jB rfl (⟨(hx.same Y).same S,fun z H3 J Z am hz O=>?_⟩));refine j5 m z _ _ (j7 rfl rfl (Z _ _ (S _ _ hm)) hz (small (by rw [hA.1,O.1];lia)) (fun y I=>?_));have s4:=jL I (.lst (rs++J));exact q y _ (rs++J) (((Y.trans S).trans Z).trans s4) (((Y.trans S).trans Z).free I) jF ((((hA.same S).same Z).append O).same s4)
  |true =>
   refine (jB rfl (qA ⟨zz0,fun m ah=>?_⟩));have Y:=jL ah (.lst []);have hm:upd H m (.lst []) m=some (.lst []):=jF;generalize upd H m (.lst [])=H1 at Y hm ⊢;refine (j5 b m ([]) ([]) (jP rfl hm PoursS.nil (by decide) (fun H2 S=>?_)));rw [BU];refine j5 x kd n V (j5 l G v b (kG rfl ((hx.same Y).same S) (fun z H3 J Z am hz O=>?_)));refine j5 m z _ _ (j7 rfl rfl (Z _ _ (S _ _ hm)) hz (small (by rw [O.1];have:=fQ kd G v b;have:=cE kd G v b;show 0+_<=1000;lia)) (fun y I=>?_));have s4:=jL I (.lst ([]++J));exact q y _ J (((Y.trans S).trans Z).trans s4) (((Y.trans S).trans Z).free I) jF (O.same s4)
theorem NP:jV 2 ["lock","side"] rT:=jU
include T in
theorem LV (F:kC K "step_ends" rT f fd) : FnOk P w K mg base jT 1 f fd ["lock","side"] (FE (jG cP cB cU)):=by
 refine F.ok2 NP fun vs H Q E h=>?_
 refine bR h fun y l b h=>?_
 refine vC h fun S J q=>?_
 subst S;obtain ⟨O,e,V,I⟩:=J;refine ⟨rfl,fun _ _ _ _ Y=>?_⟩;refine ⟨_,(jN (zQ (j6 kP (jA 1) j4) (kX (jC (kN K (jA 0) rfl) (jC (kN K (jA 0) rfl) jE))) (kX (jC (kN K (jA 0) rfl) (jC (kN K (jA 0) rfl) jE))))),?_⟩
 try dsimp only [jX,jW]
 cases e;refine ⟨rfl,jB rfl (?_)⟩;rw [WM];cases b with
 |true=>exact qA (kR I (T.cl l.kd) (T.xa4 l.kd) (wT l.kd _ _ _ _ _) (kR I (T.cl l.kd) (T.jv l.kd) (wH l.kd _ _ _ _ _) (⟨zz2,fun t G=>q t _ (jL G _) G jF⟩)))
 |false=>exact qB (kR I (T.cl l.kd) (T.jv l.kd) (wH l.kd _ _ _ _ _) (kR I (T.cl l.kd) (T.xa4 l.kd) (wT l.kd _ _ _ _ _) (⟨zz2,fun t G=>q t _ (jL G _) G jF⟩)))
theorem fH:jV 3 ["canal","start","steps","along","k","side","ends"] pY:=jU
include T in
theorem K4 (F:kC K "linked" pY f fd) (a8:Def P w K mg base 1 "step_ends" ["lock","side"] [] (FE (jG cP cB cU))):FnOk P w K mg base (kJ P w) 2 f fd ["canal","start","steps"] (uL K (jG cP cB cU) cR cN eL):=by
 refine F.okX2 fH fun vs H Q E h=>?_
 refine zZ h fun x st G us ps D R L N h=>?_
 refine eV h fun e_ a7 a4 hP be bl qv qe=>?_
 subst e_;obtain ⟨dx,rl,ll,nl,fs,rs,ls,ns,hx,hf,b0,a6,b1,hR,hL,hN,d1,d2,d3⟩:=a7;refine ⟨rfl,fun _ _ _ _ hr=>?_⟩;refine tk fun x0=>?_
 let u0:=ru x0 [1,0,1] (jH (j9 (j6 JG (jJ (jO K) (jA 6) jD) (jJ (qD K) (jA 3) (wY wK jD))) (kM (QR QP rfl rfl T.jc T.vy (jC j4 jE))) kA)
   (kM (vL (yY aM aR aS zP (jA 3) (jC (jJ (jO K) (jA 6) jD) jE)))))
 let u1:=ru x0 [1,0,0] (jH (jY 6 fH.nd (jR a8 hr rfl (jC (jJ (qD K) (kN K (jA 0) rfl) (jA 4)) (jC (jA 5) jE))))
   u0.h)
 let u2:=ru x0 [1] (jH (zL mJ rfl (FJ (jA 2)) (mI rfl (qO (kT (i:=4) fH.nd rfl (.inl rfl)) (qO (kT (i:=5) fH.nd rfl (.inl rfl)) zH)))
    u1.h)
   (jN (jA 3)))
 refine ⟨_,(jH (jY 3 fH.nd (qC (jC (jA 1) jE)))
   u2.h),?_⟩
 try dsimp only [jX,jW]
 refine (⟨zz1,fun al I=>?_⟩);have s1:=jL I (.lst [V.int G]);refine ⟨st,rfl,⟨_,SqT.of (s1 _ _ a4)⟩,VC (K:=K) (a:=st) (xs:=us) (fun i σ Hi=>∃c4 c5 c6:Option V,σ=[some (.ref x),some (.int G),some (.ref st),some (.ref al),c4,c5,c6]/\Hi al=some (.lst ((vW L G (ps.take i)).map V.int))/\(∀(j:Nat) (p:Nat×Bool),j<i->ps[j]?=some p->(vW L G ps)[j]?=some (JR L p).1)/\Same H Hi)
  (j3 none none none (jM rfl jF (fun j p hj=>absurd hj (gb j)) s1)) (fun i σ Hi _ ⟨_,_,_,_,_,_,s⟩=>SqT.of (s _ _ a4)) ?_ ?_⟩
 ·rintro i v σ Hi hv ⟨c4,c5,c6,rfl,O,Z,sm⟩;obtain ⟨⟨pk,pb⟩,Y,t,rfl,ht⟩:=hP.2 i v hv;have a9:pk<L.length:=be _ (az Y);have hi:i<ps.length:=(ae.mp Y).1;obtain ⟨l,am⟩:∃l,L[pk]?=some l:=⟨_,aa a9⟩;obtain ⟨w,hw,y,rfl,dl,hl⟩:=hL.get am;have a3:(vW L G (ps.take i)).length=i+1:=by rw [DW,aW];lia
  obtain ⟨z,hz⟩:∃z,(vW L G (ps.take i))[i]?=some z:=⟨_,aa (by lia)⟩;have an:vO ((vW L G (ps.take i)).map V.int) (-1)=some (.int z):=atI_last (n:=i) (by rw [ac,a3]) (by rw [ar,hz];rfl);refine ⟨t,jB rfl (⟨SqT.of (sm _ _ ht),rfl,_,jB rfl (⟨_,_,rfl,rfl,?_⟩)⟩)⟩;refine (kR (sm _ _ hx) (T.clN) (T.xw) (hf.2.1) (qM (so (sm _ _ a6)) (qH hw) (j3 y l pb (kG rfl ⟨y,rfl,dl,sm _ _ hl⟩ (fun te He se bt a5=>?_)))));have ap:=sm.trans se;have J:=se _ _ O;have ee:JR L (pk,pb)=(if pb then l.low else l.high,if pb then l.high else l.low):=by cases pb;exact CP am;exact EV am
  have S:(vW L G ps)[i]?=some z:=by rw [VF (by lia)];exact hz
  refine (jK (SqT.of a5) rfl (jB rfl (qM (so J) an (⟨rfl,jB rfl (?_)⟩))))
  by_cases h:(if pb then l.low else l.high)=z
  ·refine zU (cf V.int h) ?_;refine (⟨.inl ⟨rfl,_,so J⟩,(jK (SqT.of a5) rfl (j3 al _ _ (jP rfl rfl J (qX (by rw [ac,a3];lia)) ?_)))⟩);refine ⟨_,_,jB rfl (⟨?_,fun j p hj ah=>?_,qJ I ap⟩)⟩
   ·rw [jF,aV,Y];show _=some (HO.lst ((vW L G (ps.take i++[(pk,pb)])).map V.int));rw [SI,aK,ee];rfl
   ·by_cases c:j=i
    ·subst c;rw [Y] at ah;cases ah;rw [S,ee,h]
    ·exact Z j p (by lia) ah
  ·refine bI (fun e=>h (V.int.inj e)) ⟨by show 1<=sizeLine;decide,qe (fun ok=>h ?_) _ ap⟩;have:=ok i _ Y;rw [S,ee] at this;exact (ay this).symm
 rintro σ Hi ⟨c4,c5,c6,rfl,O,Z,sm⟩;rw [hP.1,aZ] at O;exact (qv (fun j p Y=>Z j p (by rw [hP.1];exact (ae.mp Y).1) Y) al Hi sm I O)
theorem NQ:jV 2 ["way","place"] rV:=jU
include T in
theorem LW (F:kC K "steps_to_do" rV f fd) : FnOk P w K mg base jT 1 f fd ["way","place"] (FC):=by
 refine F.ok2 NQ fun vs H Q E h=>?_
 refine bR h fun t y p h=>?_
 refine vC h fun V l q=>?_
 subst V;obtain ⟨G,S,Y,e,J,I,O⟩:=l;refine ⟨rfl,fun _ _ _ _ Z=>?_⟩;refine ⟨_,(jN (jI yB (vF K T.xq (jJ (jO K) (jA 0) jD)) (jA 1))),?_⟩
 try dsimp only [jX,jW]
 cases e;refine (jK (SqT.of J) rfl (⟨S,jB rfl (⟨.inr (SqT.of I),(qS (?_))⟩)⟩));rw [O.1];exact q
theorem NL:jV 3 ["canal","way","place"] rK:=jU
include T in
theorem LK (F:kC K "reach_of" rK f fd) (J:Def P w K mg base 1 "steps_to_do" ["way","place"] [] (FC)) (O:Def P w K mg base 2 "linked" ["canal","start","steps"] [] (t4 K (jG cP cB cU) cR cN)):FnOk P w K mg base jT 3 f fd ["canal","way","place"] (tY (jG cP cB cU) cR cN):=by
 refine F.ok2 NL fun vs H Q E h=>?_
 refine ZW h fun x t y p D R L N h=>?_
 refine z3 h fun e_ hc l I hp q=>?_
 subst e_;refine ⟨rfl,fun _ _ _ _ G=>?_⟩;refine tk fun x0=>?_
 let u0:=ru x0 [1] (jN (jJ (qD K) (jR O G rfl (qQ (jA 0) (jJ (jO K) (jA 1) jD) (jJ (jO K) (jA 1) jD))) (jA 2)))
 refine ⟨_,(jH (j9 (j6 kP (jR J G rfl (jC (jA 1) (jC (jA 2) jE))) jD) (jN (zI (v:=.int (-1)) rfl T.xaN ⟨_,rfl⟩)) kA)
   u0.h),?_⟩
 try dsimp only [jX,jW]
 obtain ⟨S,st,us,e,Y,h2,h3⟩:=id l;cases e;refine (⟨t,y,jB rfl (⟨l,rfl,jB rfl (?_)⟩)⟩)
 by_cases h:p=y.2.length
 ·refine kY (cf V.int (by lia)) ?_;have:=q H (Same.refl _);rw [show vU L y p = -1 from if_pos h] at this;exact this
 ·refine kE (fun z=>h (by have:=V.int.inj z;lia)) ?_;have ah:=I.le;refine (jK (SqT.of Y) rfl (jK (SqT.of Y) rfl (vG x st y.1 us y.2 D R L N (y6 rfl hc h2 h3 I.lt (by lia) I.ok (fun r H' Z am G=>?_)))));have hl:p<(vW L y.1 y.2).length:=by rw [DW];lia
  refine (qM (so G) (yU hl) (?_));have:=q H' Z;rw [show vU L y p=(vW L y.1 y.2).getD p 0 from if_neg h] at this;exact this
theorem NG:jV 4 ["canal","ways","state","reach"] iN:=jU
include T in
theorem K5 (F:kC K "lying" iN f fd) (vn:Def P w K mg base 3 "reach_of" ["canal","way","place"] [] (tY (jG cP cB cU) cR cN)):FnOk P w K mg base jT 4 f fd ["canal","ways","state","reach"] (EC (jG cP cB cU) cR cN):=by
 refine F.ok2 NG fun vs H Q E h=>?_
 obtain ⟨x,wl,st,r,us,ys,d,ms,pl,D,R,L,N,rfl,hc,am,hA,a5,l,q⟩:=h;obtain ⟨wt,pt,a8,a9,ap⟩:=a5;refine ⟨rfl,fun _ _ _ _ hr=>?_⟩;refine ⟨_,(jN (yY aM PySem.F.slot_list_count PySem.F.type_list_count TH (QC ["way","place","canal"] (vM 2 [0]) rfl (yF (kF iN)) (cps 2 [0]) (UR (by rfl) T.jq (jC (jA 1) (jC (jJ (jO K) (jA 2) jD) jE))) (fun _ _ _ _ _=>(JP (n:=2) K rfl (qO (kT (i:=0) (show List.Nodup (["way","place","canal"]:List Str) from by trivial) rfl (.inl rfl)) (qO (kT (i:=1) (show List.Nodup (["way","place","canal"]:List Str) from by trivial) rfl (.inl rfl)) zH)))) (fun _ _ _ _ _=>JD) (fun _ _ _ _ _=>(jR vn hr rfl (qQ (jA 2) (jA 0) (jA 1))))) (jC (jA 3) jE))),?_⟩
 try dsimp only [jX,jW]
 refine (jK (SqT.of a8) rfl (⟨wl,pt,(jM rfl ⟨_,so am⟩ ⟨_,SqT.of ap⟩ (fun O G=>?_))⟩));refine BE (K:=K) (a1:=wl) (a2:=pt) (xs:=us) (ys:=pl.map fun (p:Nat)=>V.int (p:Int)) (fun i σ Hi=>∃c1 c2:Option V,σ=[c1,c2,some (.ref x)]/\Hi O=some (.lst (((zA L ys pl).take i).map V.int))/\Same H Hi)
  ⟨none,none,rfl,by rw [jF,take_zero];rfl,jL G _⟩ (fun i σ Hi _ ⟨_,_,_,_,s⟩=>⟨so (s _ _ am),SqT.of (s _ _ ap)⟩) (by rw [hA.1,ac,l.len]) ?_ ?_
 ·rintro i v z σ Hi J hv hz ⟨c1,c2,rfl,Z,sm⟩ hT;obtain ⟨y,hy,ah⟩:=hA.2 i v hv;have hi:i<ys.length:=(ae.mp hy).1;obtain ⟨t,a7,a4,rfl,b0,bt,bl⟩:=id ah;have Y:i<pl.length:=by rw [l.len];exact hi
  rw [ar,aa Y] at hz;cases hz;have u:=jL hT (.tup [V.ref t,V.int ((pl[i]:Nat):Int)]);have I:=sm.trans u;have S:=WyAt.same I _ _ ah;have hp:=l.le i y pl[i] hy (aa Y);have a6:ys.getD i (0,[])=y:=by rw [af,hy];rfl
  have a3:pl.getD i 0=pl[i]:=by rw [af,aa Y];rfl
  have be:=l.n10;have an:=u _ _ Z;refine ⟨J,jB rfl (⟨SqT.of jF,rfl,_,jB rfl (⟨_,_,rfl,rfl,?_⟩)⟩)⟩;generalize upd Hi J (.tup [V.ref t,V.int ((pl[i]:Nat):Int)])=Hj at u I S an ⊢;refine zK (qA ?_);refine (j5 x t y (pl[i]) (j5 D R L N (j7 rfl (hc.same I) S (l.ok y (az hy)) hp (fun H' s'=>?_))));refine ⟨_,s' _ _ an,qX (by rw [ac,aW];unfold zA;rw [ac,bw];lia),_,jB rfl (⟨?_,qJ G (I.trans s')⟩)⟩;rw [jF,aV,show (zA L ys pl)[i]?=some (vU L y pl[i]) by unfold zA;rw [ar,cp hi,<- a6,<- a3];rfl,aK];rfl
 rintro σ Hf ⟨c1,c2,rfl,Z,sm⟩;rw [hA.1,bj (by unfold zA;rw [ac,bw];exact ak _)] at Z;refine ⟨.inl ⟨rfl,_,so Z⟩,(j3 O _ _ (j7 rfl rfl Z rfl (P0 _) ?_))⟩;have e:((zA L ys pl).map V.int).countP (fun z=>vX z (.int r))=(zA L ys pl).countP fun z=>decide (z=r):=by rw [countP_map];rfl
 rw [e];exact q Hf sm
theorem M4:jV 2 ["canal","ways"] pN:=jU
include T in
theorem KL (F:kC K "begun" pN f fd) (zx:MeD P w K mg base 5 cN "start" ["self"] (uI (jG cP cB cU) cR cN)):FnOk P w K mg base jT 6 f fd ["canal","ways"] (EF (jG cP cB cU) cR cN):=by
 refine F.ok2 M4 fun vs H Q E h=>?_
 refine yL h fun x wl us D R L N h=>?_
 refine eV h fun e_ hc Y an b1 b2 hT q=>?_
 subst e_;refine ⟨rfl,fun _ _ _ _ hr=>?_⟩;refine ⟨_,(jN (kX (qQ jD (kL zx hr (jA 0)) (jI UZ (kX (jC jD jE)) (vF K T.xq (jA 1)))))),?_⟩
 try dsimp only [jX,jW]
 have ah:=hc;obtain ⟨dx,rl,ll,nl,fs,rs,ls,nv,hx,hf,ap,a4,a3,hR,hL,hN,d1,d2,d3⟩:=hc;refine (⟨x,dx,jB rfl (⟨hx,hf.no (by trivial) (by trivial) (by trivial),kS x D R L N (j7 rfl ah b1 b2 hT (fun wt H1 gs s1 am O Z=>?_))⟩)⟩);refine ⟨zz1,fun p hp=>?_⟩;have s2:=jL hp (.tup [V.int 0]);refine (⟨wl,jB rfl (⟨.inl (so (s2 _ _ (s1 _ _ Y))),?_⟩)⟩);have S:=s1.trans s2;have J:∀(G:Addr) (I:Hp),Same (upd H1 p (.tup [V.int 0])) I->I G=some (.tup (List.replicate us.length (.int 0)))->(3<=sizeLine/\∀t,I t=none->Q (.ref t) (upd I t (.tup [.int 0,.ref wt,.ref G]))):=fun G I s3 l=>⟨by decide,fun t ht=>by
  have s4:=jL ht (.tup [V.int 0,V.ref wt,V.ref G]);exact q t wt G _ gs ((S.trans s3).trans s4) jF (s4 _ _ (s3 _ _ (s2 _ _ O))) Z (s4 _ _ l)⟩
 refine j3 p (.int 0) us.length (j7 rfl rfl jF (by lia) (fun h1=>?_) (fun h1 G l=>?_))
 ·exact J p _ (Same.refl _) (by rw [h1];exact jF)
 ·exact J G _ (jL l _) jF
theorem fI:jV 3 ["canal","state","weather","waters","sky","sun","rain"] dJ:=jU
include T in
theorem K7 (F:kC K "night_pours" dJ f fd) (zf:MeD P w K mg base 2 cN "sky" ["self"] (ZR (jG cP cB cU) cR cN bO)) (zg:Def P w K mg base 4 "with_spills" ["weirs","waters","pours"] [] (lW K)) (xu:MeD P w K mg base 2 cN "weirs" ["self"] (fS (jG cP cB cU) cR cN)):FnOk P w K mg base jT 5 f fd ["canal","state","weather"] (DH K (jG cP cB cU) cR cN):=by
 refine F.ok2 fI fun vs H Q E h=>?_
 obtain ⟨x,t,wl,d,ms,ps,us,W,D,R,L,N,rfl,hc,cz,a5,hA,ca,cn,a4,be,cC,q⟩:=h;obtain ⟨wt,pt,h1,h2,h3⟩:=cz;refine ⟨rfl,fun _ _ _ _ hr=>?_⟩;refine tk fun x0=>?_
 let u0:=ru x0 [4] (jN (jR zg hr rfl (qQ (kL xu hr (jA 0)) (jA 3) (xU ["pour"] [] (yF (kF dJ)) (yN (jI QF (jA 5) (jA 6))) (fun _ _ _ _ _=>(d9 (j6 JG (jJ (jO K) (jA 0) jD) jD))) (fun _ _ _ _ _=>(jA 0))))))
 let u1:=ru x0 [3] (jH (fM (i:=6) ["at","pair","sky"] (vM 2 [4]) fI.nd rfl (.inl rfl) rfl (yF (kF dJ)) (cps 2 [4]) (uP (by rfl) T.xv (jC (jA 2) jE)) (fun _ _ _ _ _=>(JP (n:=2) K rfl (qO (kT (i:=0) (show List.Nodup (["at","pair","sky"]:List Str) from by trivial) rfl (.inl rfl)) (qO (kT (i:=1) (show List.Nodup (["at","pair","sky"]:List Str) from by trivial) rfl (.inl rfl)) zH)))) (fun _ _ _ _ _=>JD) (fun _ _ _ _ _=>(kX (qQ (jA 2) (jA 0) (jJ (jO K) (jA 1) jD)))))
   u0.h)
 let u2:=ru x0 [2] (jH (fM (i:=5) ["at","pair","sky","waters"] (vM 2 [4,3]) fI.nd rfl (.inl rfl) rfl (yF (kF dJ)) (cps 2 [4,3]) (uP (by rfl) T.xv (jC (jA 2) jE)) (fun _ _ _ _ _=>(JP (n:=2) K rfl (qO (kT (i:=0) (show List.Nodup (["at","pair","sky","waters"]:List Str) from by trivial) rfl (.inl rfl)) (qO (kT (i:=1) (show List.Nodup (["at","pair","sky","waters"]:List Str) from by trivial) rfl (.inl rfl)) zH)))) (fun _ _ _ _ _=>JD) (fun _ _ _ _ _=>(kX (qQ (jA 0) (jA 2) (vK (SO rfl) (by rfl) T.xaG PyProof.Rows.boot_min (jC (jJ (jO K) (jA 1) jD) (jC (jJ (jO K) (jA 3) (jA 0)) jE)))))))
   u1.h)
 let u3:=ru x0 [1] (jH (jY 4 fI.nd (kL zf hr (jA 0)))
   u2.h)
 refine ⟨_,(jH (jY 3 fI.nd (jJ (jO K) (jA 1) jD))
   u3.h),?_⟩
 try dsimp only [jX,jW]
 have ce:=hc;obtain ⟨dx,rl,ll,nl,fs,rs,ls,nv,hx,hf,dj,dn,dr,hR,hL,hN,d1,d2,d3⟩:=hc;obtain ⟨O,c9⟩:∃O,O=R.length+2*L.length+1:=⟨_,rfl⟩;have db:bO R.length L.length=(O:Int):=by unfold bO;lia
 refine (jK (SqT.of h1) rfl (?_));refine (⟨x,dx,jB rfl (⟨hx,hf.no (by trivial) (by trivial) (by trivial),kS x D R L N (kG rfl ce (?_))⟩)⟩);rw [db];refine (⟨wl,rfl,⟨_,SqT.of a5⟩,fun a8 an=>?_⟩);refine tJ (K:=K) (a:=wl) (xs:=us) (fun i σ I=>∃c1 c2:Option V,σ=[c1,c2,some (.int (O:Int)),some (.ref wt)]/\∃ys:List V,I a8=some (.lst ys)/\PoursH I ys ((cX O ms W R.length).take i) ms.length/\Same H I) ⟨none,none,rfl,[],jF,PoursH.nil _ _,jL an _⟩ (fun i σ I _ ⟨_,_,_,_,_,_,s⟩=>SqT.of (s _ _ a5)) ?_ ?_
 ·rintro i v σ I l hv ⟨c1,c2,rfl,ys,hY,hP,sm⟩ hT;have hi:i<us.length:=(ae.mp hv).1;rw [hA.1] at hi;obtain ⟨y,hy,t1,rfl,ah⟩:=hA.2 i v hv;have u:=jL hT (.tup [V.int (i:Int),V.ref t1]);have G:=sm.trans u;have Z:=u _ _ hY;refine ⟨l,jB rfl (⟨SqT.of jF,rfl,_,jB rfl (⟨_,_,rfl,rfl,?_⟩)⟩)⟩;generalize upd I l (.tup [V.int (i:Int),V.ref t1])=Hj at u G Z ⊢;refine zK (qA ?_);refine (jK (SqT.of (G _ _ ah)) rfl (jK (SqT.of (G _ _ h2)) (yU (by lia)) (⟨_,jB rfl (?_)⟩)))
  try dsimp only
  first|rw [<- D9 hy]|rw [<- SV hy]
  refine ⟨zz3,fun tp b1=>?_⟩;have u2:=jL b1 (.tup [V.int (i:Int),V.int (O:Int),V.int (eP ms W i)]);have J:=u2 _ _ Z;have a3:=hP.1;rw [aW,lN] at a3;refine ⟨ys,J,qX (by lia),_,jB rfl (⟨ys++[.ref tp],jF,?_,qJ an (G.trans u2)⟩)⟩;rw [RO (by lia)];exact (((hP.same u).same u2).snoc jF (by lia) (by lia)).put J
 rintro σ H1 ⟨c1,c2,rfl,S,c6,b0,s1⟩;rw [hA.1,ca,bj (by rw [lN];exact ak _)] at b0;refine (⟨wl,rfl,⟨_,SqT.of (s1 _ _ a5)⟩,fun a7 ap=>?_⟩);refine tJ (K:=K) (a:=wl) (xs:=us) (fun i σ I=>∃c1 c2:Option V,σ=[c1,c2,some (.int (O:Int))]/\∃ys:List V,I a7=some (.lst ys)/\PoursH I ys ((cQ O W R.length).take i) ms.length/\Same H1 I) ⟨none,none,rfl,[],jF,PoursH.nil _ _,jL ap _⟩ (fun i σ I _ ⟨_,_,_,_,_,_,s⟩=>SqT.of (s _ _ (s1 _ _ a5))) ?_ ?_
 ·rintro i v σ I l hv ⟨c1,c2,rfl,ys,hY,hP,sm⟩ hT;have hi:i<us.length:=(ae.mp hv).1;rw [hA.1] at hi;obtain ⟨y,hy,t1,rfl,ah⟩:=hA.2 i v hv;have ah:=s1 _ _ ah;have u:=jL hT (.tup [V.int (i:Int),V.ref t1]);have G:=sm.trans u;have Z:=u _ _ hY;refine ⟨l,jB rfl (⟨SqT.of jF,rfl,_,jB rfl (⟨_,_,rfl,rfl,?_⟩)⟩)⟩;generalize upd I l (.tup [V.int (i:Int),V.ref t1])=Hj at u G Z ⊢;refine zK (qA ?_);refine (jK (SqT.of (G _ _ ah)) rfl (?_));rw [show y.1=(W.getD i (0,0)).1 by rw [GW hy]];refine ⟨zz3,fun tp b1=>?_⟩;have u2:=jL b1 (.tup [V.int (O:Int),V.int (i:Int),V.int (W.getD i (0,0)).1]);have J:=u2 _ _ Z;have a3:=hP.1;rw [aW,lH] at a3;refine ⟨ys,J,qX (by lia),_,jB rfl (⟨ys++[.ref tp],jF,?_,qJ ap (G.trans u2)⟩)⟩;rw [PF (by lia)];exact (((hP.same u).same u2).snoc jF (by lia) (by lia)).put J
 rintro σ H2 ⟨dp,dl,rfl,Y,J,a9,s2⟩;rw [hA.1,ca,bj (by rw [lH];exact ak _)] at a9;have b2:=s1.trans s2;have co:=b0.1;have c4:=a9.1;rw [lN] at co;rw [lH] at c4;refine (⟨x,dx,jB rfl (⟨(b2 _ _ hx),hf.no (by trivial) (by trivial) (by trivial),kS x D R L N (jM rfl (ce.same b2) a4 (fun wq ws H3 s3 df cj hW=>?_))⟩)⟩);have c3:=b2.trans s3;refine (j5 a8 a7 _ _ (j7 rfl rfl (s3 _ _ (s2 _ _ c6)) (s3 _ _ J) (small (by lia)) (fun al c5=>?_)));have s4:=jL c5 (.lst (S++Y));have am:upd H3 al (.lst (S++Y)) al=_:=jF;have bl:PoursH (upd H3 al (.lst (S++Y))) (S++Y) (QG O ms W R.length) ms.length:=(((b0.same s2).same s3).same s4).append ((a9.same s3).same s4);have cd:=c3.trans s4;have a6:=s4 _ _ cj;have b7:=hW.mono (QAt.same s4);generalize upd H3 al (.lst (S++Y))=H4 at s4 am bl cd a6 b7 ⊢;refine ⟨al,rfl,⟨_,so am⟩,fun Df b4=>?_⟩;refine dI (K:=K) (a:=al) (xs:=S++Y) (caps:=[]) (fun i ys I=>PoursH I ys (((QG O ms W R.length).take i).filter vA) ms.length) b4 (so am) (PoursH.nil _ _) ?_ ?_
 ·rintro i v ys I hv hi b3 sm hY hP;rw [ag] at hi;obtain ⟨a,s,tt,m,rfl,hq,hT,hs,ht⟩:=bl.2 i v hv;have ef:((QG O ms W R.length).take (i+1)).filter vA=((QG O ms W R.length).take i).filter vA++[(s,tt,m)].filter vA:=by
   rw [aV,hq,ii];rfl
  refine (jK (SqT.of (sm _ _ hT)) rfl (⟨rfl,jB rfl (?_)⟩))
  by_cases hz:m=0
  ·refine zU (cf V.int hz) (lJ sm hY b3 (Same.refl _) ?_);rw [ef,fq,if_neg (by unfold vA;rw [bi (show m=0 from hz)];decide)];show PoursH I ys (_++[]) _;rw [di];exact hP
  refine bI (fun e=>hz (V.int.inj e)) (Q7 b4 sm hY b3 (by lia) (Same.refl _) ?_);rw [ef,fq,if_pos (by unfold vA;rw [aN (show ¬m=0 from hz)];rfl)];exact (hP.snoc (sm _ _ hT) hs ht).put hY
 rintro ys H5 s5 c0 b9 b8;rw [bl.1,bj (ak _)] at b8;have bt:=cd.trans s5;refine kI wq wt Df ws ys (qK R L.length) ms (jB rfl (jP (i5 cC (b7.mono (QAt.same s5)) (s5 _ _ a6) (.inr (SqT.of (bt _ _ h2))) cn a4 be) c0 b8 ?_ (fun r H' gs zs s' c7 hr cv hS=>?_)))
 ·rw [ag] at b9
  lia
 subst c9;exact q r H' gs zs (bt.trans s') (bt.free c7) hr cv hS
theorem NS:jV 2 ["weather","other"] iS:=jU
include T in
theorem L3 (F:kC K "wet_enough" iS f fd) : FnOk P w K mg base jT 1 f fd ["weather","other"] (FB):=by
 refine F.ok2 NS fun vs H Q E h=>?_
 refine bQ h fun a b us ws p p' h=>?_
 refine eV h fun e_ ha hb hA hB am ap q=>?_
 subst e_;refine ⟨rfl,fun _ _ _ _ hr=>?_⟩;refine ⟨_,(jN (vK (CW rfl) (by rfl) T.jr PyProof.Rows.boot_all (jC (QC ["pair","wanted"] (vM 2 []) rfl (yF (kF iS)) (cps 2 []) (UQ (by rfl) T.jq (jC (jA 0) (jC (jA 1) jE))) (fun _ _ _ _ _=>(JP (n:=2) K rfl (qO (kT (i:=0) (show List.Nodup (["pair","wanted"]:List Str) from by trivial) rfl (.inl rfl)) (qO (kT (i:=1) (show List.Nodup (["pair","wanted"]:List Str) from by trivial) rfl (.inl rfl)) zH)))) (fun _ _ _ _ _=>JD) (fun _ _ _ _ _=>(cH (JB w9 (jJ (jO K) (jA 0) jD) (jJ (jO K) (jA 1) jD)) (cG (JB wZ (jJ (jO K) (jA 0) jD) (jJ (jO K) (jA 1) jD)))))) jE))),?_⟩
 try dsimp only [jX,jW]
 refine (⟨a,b,(jM rfl ⟨_,SqT.of ha⟩ ⟨_,so hb⟩ (fun J G=>?_))⟩);refine BE (K:=K) (a1:=a) (a2:=b) (xs:=us) (ys:=ws) (fun i σ Y=>∃c1 c2:Option V,σ=[c1,c2]/\Y J=some (.lst (((List.range i).map (eO p p')).map V.bl))/\Same H Y) ⟨none,none,rfl,jF,jL G _⟩ (fun i σ Y _ ⟨_,_,_,_,s⟩=>⟨SqT.of (s _ _ ha),so (s _ _ hb)⟩) (by rw [hA.1,hB.1,am]) ?_ ?_
 ·rintro i v z σ Y I hv hz ⟨c1,c2,rfl,hY,sm⟩ hT;have hi:i<us.length:=(ae.mp hv).1;rw [hA.1] at hi;obtain ⟨y1,an,t1,rfl,S⟩:=hA.2 i v hv;obtain ⟨y2,ah,t2,rfl,Z⟩:=hB.2 i z hz;have hw:=UD an ah;have u:=jL hT (.tup [V.ref t1,V.ref t2]);have l:=sm.trans u;have O:=u _ _ hY;refine ⟨I,jB rfl (⟨SqT.of jF,rfl,_,jB rfl (⟨_,_,rfl,rfl,?_⟩)⟩)⟩;generalize upd Y I (.tup [V.ref t1,V.ref t2])=Hj at u l O ⊢;refine zK (qA ?_);refine (jK (SqT.of (l _ _ S)) rfl (jK (SqT.of (l _ _ Z)) rfl (qS (jB rfl (?_)))))
  by_cases h:y2.1<=y1.1
  ·refine kY h (jK (SqT.of (l _ _ S)) rfl (jK (SqT.of (l _ _ Z)) rfl (qS (?_))));exact ⟨_,O,qX (by rw [ac,ac,bw];lia),_,_,rfl,(by
    rw [jF,iz,aK,aK];show some (HO.lst (_++[V.bl _]))=some (HO.lst (_++[V.bl (eO p p' i)]));rw [hw]
    first|rw [bi h]|rw [aN h]
    rfl),qJ G l⟩
  ·refine kE h ?_;exact ⟨_,O,qX (by rw [ac,ac,bw];lia),_,_,rfl,(by
    rw [jF,iz,aK,aK];show some (HO.lst (_++[V.bl _]))=some (HO.lst (_++[V.bl (eO p p' i)]));rw [hw]
    first|rw [bi h]|rw [aN h]
    rfl),qJ G l⟩
 rintro σ Hf ⟨c1,c2,rfl,hY,sm⟩;rw [hA.1] at hY;refine ⟨J,jB rfl (⟨so hY,?_⟩)⟩;rw [all_map];exact q Hf sm
theorem NA:jV 4 ["canal","ways","state","reach"] pT:=jU
include T in
theorem KW (F:kC K "has_no_berth" pT f fd) (I:Def P w K mg base 4 "lying" ["canal","ways","state","reach"] [] (EC (jG cP cB cU) cR cN)):FnOk P w K mg base jT 5 f fd ["canal","ways","state","reach"] (tZ (jG cP cB cU) cR cN):=by
 refine F.ok2 NA fun vs H Q E h=>?_
 obtain ⟨x,wl,st,b,r,us,ys,d,ms,pl,D,R,L,N,rfl,hG,O,q⟩:=h;refine ⟨rfl,fun _ _ _ _ hr=>?_⟩;refine ⟨_,(jN (JB w9 (jR I hr rfl (yS (jA 0) (jA 1) (jA 2) (jA 3))) (kN K (jJ (qD K) (kN K (jA 0) rfl) (jA 3)) rfl))),?_⟩
 try dsimp only [jX,jW]
 obtain ⟨hc,an,G,hA,Y,S,ah⟩:=id hG;have V:=hc;obtain ⟨dx,rl,ll,nl,fs,rs,ls,nv,hx,hf,J,ap,am,hR,hL,hN,d1,d2,d3⟩:=hc;obtain ⟨z,hz,yr,rfl,dy,gs,Z,hg⟩:=hR.get O;refine (xL x wl st _ us ys d ms pl D R L N (vS rfl V G hA Y S (fun H3 l=>?_)));exact (kR (l _ _ hx) (T.clN) (T.xl) (hf.1) (qM (so (l _ _ J)) (qH hz) (kR (l _ _ Z) (T.clR) (T.zm) (hg.2.2.2.1) (qS (q H3 l)))))
theorem NH:jV 2 ["way","place"] pZ:=jU
include T in
theorem K6 (F:kC K "next_step" pZ f fd) : FnOk P w K mg base jT 1 f fd ["way","place"] (wO):=by
 refine F.ok2 NH fun vs H Q E h=>?_
 refine dA h fun t y p ah h=>?_
 refine bS h fun e_ l hs q=>?_
 subst e_;obtain ⟨Z,O,S,e,Y,V,I⟩:=l;refine ⟨rfl,fun _ _ _ _ hr=>?_⟩;refine ⟨_,(jN (jJ (jO K) (jJ (jO K) (jA 0) jD) (jA 1))),?_⟩
 try dsimp only [jX,jW]
 cases e;obtain ⟨v3,G,J⟩:=I.get hs;exact (jK (SqT.of Y) rfl (jK (SqT.of V) (qH G) (q _ J)))
theorem NJ:jV 2 ["places","boat"] iO:=jU
include T in
theorem K9 (F:kC K "one_step_on" iO f fd) : FnOk P w K mg base jT 1 f fd ["places","boat"] (DB):=by
 refine F.ok2 NJ fun vs H Q E h=>?_
 refine bR h fun pt pl b h=>?_
 refine bS h fun e_ Y ah q=>?_
 subst e_;refine ⟨rfl,fun _ _ _ _ hr=>?_⟩;refine ⟨_,(jN (vP (bY K) (by rfl) T.xy bh (jC (QC ["at","place","boat"] (vM 2 [1]) rfl (yF (kF iO)) (cps 2 [1]) (uP (by rfl) T.xv (jC (jA 0) jE)) (fun _ _ _ _ _=>(JP (n:=2) K rfl (qO (kT (i:=0) (show List.Nodup (["at","place","boat"]:List Str) from by trivial) rfl (.inl rfl)) (qO (kT (i:=1) (show List.Nodup (["at","place","boat"]:List Str) from by trivial) rfl (.inl rfl)) zH)))) (fun _ _ _ _ _=>JD) (fun _ _ _ _ _=>(zQ (j6 kP (jA 0) (jA 2)) (jI kU (jA 1) jD) (jA 1)))) jE))),?_⟩
 try dsimp only [jX,jW]
 refine (⟨pt,rfl,⟨_,SqT.of Y⟩,fun I l=>?_⟩);refine tJ (K:=K) (a:=pt) (xs:=pl.map fun (p:Nat)=>V.int (p:Int)) (fun i σ S=>∃c1 c2:Option V,σ=[c1,c2,some (.int (b:Int))]/\S I=some (.lst (((QD pl b).take i).map fun (p:Nat)=>V.int (p:Int)))/\Same H S) ⟨none,none,rfl,jF,jL l _⟩ (fun i σ S _ ⟨_,_,_,_,s⟩=>SqT.of (s _ _ Y)) ?_ ?_
 ·rintro i v σ S G hv ⟨c1,c2,rfl,hY,sm⟩ hT;have hi:i<pl.length:=by have:=(ae.mp hv).1;rw [ac] at this;exact this
  rw [ar,aa hi] at hv;cases hv;have u:=jL hT (.tup [V.int (i:Int),V.int ((pl[i]:Nat):Int)]);have O:=sm.trans u;have J:=u _ _ hY;refine ⟨G,jB rfl (⟨SqT.of jF,rfl,_,jB rfl (⟨_,_,rfl,rfl,?_⟩)⟩)⟩;generalize upd S G (.tup [V.int (i:Int),V.int ((pl[i]:Nat):Int)])=Hj at u O J ⊢;have eg:pl.getD i 0=pl[i]:=by rw [af,aa hi];rfl
  refine zK (qA ?_);refine (⟨rfl,jB rfl (?_)⟩)
  by_cases h:i=b
  ·refine kY (by rw [h]) (qS (⟨_,J,qX (by rw [ac,aW,i7];lia),_,jB rfl (⟨?_,qJ l O⟩)⟩));rw [jF,AW hi,if_pos h,eg,aK];rfl
  ·refine kE (fun e=>h (by have:=V.int.inj e;lia)) (⟨_,J,qX (by rw [ac,aW,i7];lia),_,jB rfl (⟨?_,qJ l O⟩)⟩);rw [jF,AW hi,if_neg h,eg,aK];rfl
 rintro σ Hf ⟨c1,c2,rfl,hY,sm⟩;rw [ac,bj (by rw [i7];exact ak _)] at hY;refine ⟨I,jB rfl (.inl ⟨so hY,fun r Z=>?_⟩)⟩;exact q r _ (sm.trans (jL Z _)) (sm.free Z) jF
theorem M6:jV 3 ["state","deed","waters"] pP:=jU
include T in
theorem KO (F:kC K "counted_on" pP f fd) (an:Def P w K mg base 1 "one_step_on" ["places","boat"] [] (DB)):FnOk P w K mg base jT 2 f fd ["state","deed","waters"] (CC):=by
 refine F.ok2 M6 fun vs H Q E h=>?_
 refine ZW h fun st dd Y de d ms mo pl h=>?_
 refine z3 h fun e_ ap I S ah q=>?_
 subst e_;refine ⟨rfl,fun _ _ _ _ hr=>?_⟩;refine tk fun x0=>?_
 let u0:=ru x0 [1,0,0] (jN (kX (qQ (jJ (jO K) (jA 0) jD) (jA 2) (jR an hr rfl (jC (jJ (jO K) (jA 0) jD) (jC (jJ (jO K) (jA 1) jD) jE))))))
 let u1:=ru x0 [1] (jH (j9 (j6 kP (jJ (jO K) (jA 1) jD) j4) u0.h kA)
   (jN (kX (qQ (jJ (jO K) (jA 0) jD) (jA 2) (jJ (jO K) (jA 0) jD)))))
 refine ⟨_,(jH (j9 (j6 kP (jJ (jO K) (jA 1) jD) j4) (jN (kX (qQ (jI kU (jJ (jO K) (jA 0) jD) jD) (jA 2) (jJ (jO K) (jA 0) jD)))) kA)
   u1.h),?_⟩
 try dsimp only [jX,jW]
 obtain ⟨wt,pt,l,a4,O⟩:=id ap;cases de with
 |night =>
  refine (jK (SqT.of I) rfl (⟨rfl,jB rfl (kY rfl ?_)⟩));refine (jK (SqT.of l) rfl (qS (jK (SqT.of l) rfl (⟨zz3,fun Z G=>?_⟩))));have J:=jL G (.tup [V.int (d+1),V.ref Y,V.ref pt]);exact q Z _ J G ⟨Y,pt,jF,J _ _ S,J _ _ O⟩
 |pass b =>
  refine (jK (SqT.of I) rfl (⟨rfl,jB rfl (kE (fun e=>absurd (V.str.inj e) (by trivial)) ?_)⟩));refine (jK (SqT.of I) rfl (⟨rfl,jB rfl (kY rfl ?_)⟩));refine (jK (SqT.of l) rfl (jK (SqT.of l) rfl (jK (SqT.of I) rfl (j3 pt pl b (jM rfl O ah (fun po H3 J a3 am=>?_))))));refine ⟨zz3,fun Z G=>?_⟩;have s4:=jL G (.tup [V.int d,V.ref Y,V.ref po]);exact q Z _ (J.trans s4) (J.free G) ⟨Y,po,jF,s4 _ _ (J _ _ S),s4 _ _ am⟩
 |«let» k =>
  refine (jK (SqT.of I) rfl (⟨rfl,jB rfl (kE (fun e=>absurd (V.str.inj e) (by trivial)) ?_)⟩));refine (jK (SqT.of I) rfl (⟨rfl,jB rfl (kE (fun e=>absurd (V.str.inj e) (by trivial)) ?_)⟩));refine (jK (SqT.of l) rfl (jK (SqT.of l) rfl (⟨zz3,fun Z G=>?_⟩)));have J:=jL G (.tup [V.int d,V.ref Y,V.ref pt]);exact q Z _ J G ⟨Y,pt,jF,J _ _ S,J _ _ O⟩
theorem sO:jV 3 ["canal","k","named","lock","vessel"] iJ:=jU
include T in
theorem KN (F:kC K "by_number" iJ f fd) (ze:MeD P w K mg base 1 cN "basin" ["self","k"] (cM (jG cP cB cU) cR cN zC)) (zn:MeD P w K mg base 1 cN "chamber" ["self","k"] (cM (jG cP cB cU) cR cN JV)):FnOk P w K mg base jT 2 f fd ["canal","k","named"] (wA (jG cP cB cU) cR cN):=by
 refine F.ok2 sO fun vs H Q E h=>?_
 obtain ⟨x,p,k,l,rp,ps,D,R,L,N,rfl,hc,a4,hg,hp,hP,a5,be,q⟩:=h;refine ⟨rfl,fun _ _ _ _ hr=>?_⟩;have ap:=mY hr;refine tk fun x0=>?_
 let u0:=ru x0 [2] (jN (QC ["source","target","amount","vessel"] (vM 3 [4]) rfl (yF (kF iJ)) (cps 3 [4]) (yN (jA 2)) (fun _ _ _ _ _=>(JP (n:=3) K rfl (qO (kT (i:=0) (show List.Nodup (["source","target","amount","vessel"]:List Str) from by trivial) rfl (.inl rfl)) (qO (kT (i:=1) (show List.Nodup (["source","target","amount","vessel"]:List Str) from by trivial) rfl (.inl rfl)) (qO (kT (i:=2) (show List.Nodup (["source","target","amount","vessel"]:List Str) from by trivial) rfl (.inl rfl)) zH))))) (fun _ _ _ _ _=>JD) (fun _ _ _ _ _=>(kX (qQ (EK ap (jA 3) (jA 0) (fun _ _=>rfl)) (EK ap (jA 3) (jA 1) (fun _ _=>rfl)) (jA 2))))))
 let u1:=ru x0 [1] (jH (jY 4 sO.nd (UV (lS j4 (kN K (jA 3) rfl) (lS j4 (kN K (jA 3) rfl) (lS j4 (bP zn hr (jA 0) (jC (jA 1) jE)) (lS j4 (bP ze hr (jA 0) (jC (jA 1) jE)) UO)))) rfl rfl (cons_ne_nil _ _) (by decide)))
   u0.h)
 refine ⟨_,(jH (jY 3 sO.nd (jJ (qD K) (kN K (jA 0) rfl) (jA 1)))
   u1.h),?_⟩
 try dsimp only [jX,jW]
 have a3:=hc;obtain ⟨dx,rl,ll,nl,fs,rs,ls,nv,hx,hf,a8,a6,bl,hR,hL,hN,d1,d2,d3⟩:=hc;obtain ⟨v,hv,y,rfl,dl,hl⟩:=hL.get a4;have Z:k<L.length:=(ae.mp a4).1;refine (kR hx (T.clN) (T.xw) (hf.2.1) (qM (so a6) (qH hv) (?_)));refine fun w ah=>?_
 have S:=jL ah (.dK []);refine (kR (S _ _ hl) (T.cl l.kd) (T.jv l.kd) (wH l.kd _ _ _ _ _) (kR (S _ _ hl) (T.cl l.kd) (T.xa4 l.kd) (wT l.kd _ _ _ _ _) (⟨x,dx,jB rfl (⟨(S _ _ hx),hf.no (by trivial) (by trivial) (by trivial),(kS x D R L N (jB rfl (⟨a3.same S,(⟨x,dx,jB rfl (⟨(S _ _ hx),hf.no (by trivial) (by trivial) (by trivial),(kS x D R L N (jB rfl (⟨a3.same S,?_⟩)))⟩)⟩)⟩)))⟩)⟩)));refine ⟨jF,[(.inr "high",.int l.high),(.inr "low",.int l.low),(.inr "chamber",.int (JV R.length L.length (k:Int))),(.inr "basin",.int (zC R.length L.length (k:Int)))],rfl,(by show 4<=15;decide),?_⟩;rw [WA];have Y:Same H (upd (upd H w (.dK [])) w (.dK (d4 (.int l.high) (.int l.low) (.int (JV R.length L.length (k:Int))) (.int (zC R.length L.length (k:Int)))))):=qJ ah S;have hw:upd (upd H w (.dK [])) w (.dK (d4 (.int l.high) (.int l.low) (.int (JV R.length L.length (k:Int))) (.int (zC R.length L.length (k:Int))))) w=_:=jF;generalize upd (upd H w (.dK [])) w (.dK (d4 (.int l.high) (.int l.low) (.int (JV R.length L.length (k:Int))) (.int (zC R.length L.length (k:Int)))))=H1 at Y hw ⊢;have an:∀(I:Hp) (s:Str),Same H1 I->okW s->DGet I w (.str s) (some (.int ((JF R.length L.length k l s:Nat):Int))):=fun I s J hs=>by
  obtain ⟨e1,e2,e3,e4⟩:=XI (J _ _ hw);obtain ⟨g1,g2,g3,g4,_⟩:=hg;cases hs
  ·rw [C7,show ((l.high.toNat:Nat):Int)=l.high by lia];exact e1
  ·rw [D8,show ((l.low.toNat:Nat):Int)=l.low by lia];exact e2
  ·rw [BW,show ((R.length+k:Nat):Int)=JV R.length L.length (k:Int) by unfold JV;lia];exact e3
  ·rw [BX,show ((R.length+L.length+k:Nat):Int)=zC R.length L.length (k:Int) by unfold zC;lia];exact e4
 refine (⟨p,rfl,⟨_,so (Y _ _ hp)⟩,fun O G=>?_⟩);refine b5 (K:=K) (a:=p) (xs:=rp) (fun i σ I=>∃(c1 c2 c3:Option V) (zs:List V),σ=[c1,c2,c3,some (.ref w)]/\I O=some (.lst zs)/\PoursH I zs ((ps.take i).map (nJ R.length L.length k l)) (R.length+2*L.length+2)/\Same H1 I)
  (j5 none none none ([]) (jM rfl jF (PoursH.nil _ _) (jL G _))) (fun i σ I _ ⟨_,_,_,_,_,_,_,s⟩=>so (s _ _ (Y _ _ hp))) ?_ ?_
 ·rintro i v σ I hv ⟨c1,c2,c3,zs,rfl,hY,hA,J⟩;have hi:i<rp.length:=(ae.mp hv).1;rw [hP.1] at hi;obtain ⟨t,sS,sT,nN,rfl,am,hT⟩:=hP.2 i v hv;obtain ⟨o1,o2⟩:=a5 _ (az am);have a9:zs.length<=i:=by rw [hA.1,ac];exact hJ _ _
  refine ⟨t,jB rfl (⟨SqT.of (J _ _ (Y _ _ hT)),rfl,_,jB rfl (⟨_,jB rfl (⟨_,_,rfl,rfl,?_⟩)⟩)⟩)⟩;refine zK (qA ?_);refine (⟨w,jB rfl (⟨an I _ J o1,(⟨w,jB rfl (⟨an I _ J o2,(⟨zz3,fun tp a7=>?_⟩)⟩)⟩)⟩)⟩);have u:=jL a7 (.tup [V.int ((JF R.length L.length k l sS:Nat):Int),V.int ((JF R.length L.length k l sT:Nat):Int),V.int nN]);refine ⟨zs,⟨u _ _ hY,qX (by lia),(j5 _ _ _ (zs++[.ref tp]) (jM rfl jF ?_ (qJ G (J.trans u))))⟩⟩;rw [aV,am,aK];exact ((hA.same u).snoc jF (E5 o1 hg Z) (E5 o2 hg Z)).put (u _ _ hY)
 rintro σ Hf ⟨c1,c2,c3,zs,rfl,hY,hA,J⟩;rw [hP.1,aZ] at hA;exact q O Hf zs (Y.trans J) (Y.free G) hY hA
theorem iX:jV 4 ["canal","ways","state","boat","step","k","basin"] rC:=jU
include T in
theorem LD (F:kC K "pass_pours" rC f fd) (wb:Def P w K mg base 1 "next_step" ["way","place"] [] (wO)) (ze:MeD P w K mg base 1 cN "basin" ["self","k"] (cM (jG cP cB cU) cR cN zC)) (wc:Def P w K mg base 2 "by_number" ["canal","k","named"] [] (wA (jG cP cB cU) cR cN)) (be:Def P w K mg base 4 "passage" ["lock","full","basin","way"] [] (CA (jG cP cB cU))) (zh:MeD P w K mg base 2 cN "full" ["self","waters","k"] (lX (jG cP cB cU) cR cN)):FnOk P w K mg base jT 6 f fd ["canal","ways","state","boat"] (uZ (jG cP cB cU) cR cN):=by
 refine F.ok2 iX fun vs H Q E h=>?_
 obtain ⟨x,wl,st,b,us,ys,y,p,G,d,ms,pl,D,R,L,N,rfl,hG,hy,b8,hs,q⟩:=h;refine ⟨rfl,fun _ _ _ _ O=>?_⟩;refine tk fun x0=>?_
 let u0:=ru x0 [3] (jN (jR wc O rfl (qQ (jA 0) (jA 5) (jR be O rfl (yS (jJ (qD K) (kN K (jA 0) rfl) (jA 5)) (bP zh O (jA 0) (jC (jJ (jO K) (jA 2) jD) (jC (jA 5) jE))) (jA 6) (jJ (jO K) (jA 4) jD))))))
 let u1:=ru x0 [2] (jH (jY 6 iX.nd (jJ (jO K) (jJ (jO K) (jA 2) jD) (bP ze O (jA 0) (jC (jA 5) jE))))
   u0.h)
 let u2:=ru x0 [1] (jH (jY 5 iX.nd (jJ (jO K) (jA 4) jD))
   u1.h)
 refine ⟨_,(jH (jY 4 iX.nd (jR wb O rfl (jC (jJ (qD K) (jA 1) (jA 3)) (jC (jJ (jO K) (jJ (jO K) (jA 2) jD) (jA 3)) jE))))
   u2.h),?_⟩
 try dsimp only [jX,jW]
 obtain ⟨hc,b0,b1,hA,⟨wt,pt,I,am,b2⟩,ca,a6⟩:=id hG;have Y:=hc;obtain ⟨dx,rl,ll,nl,fs,rs,ls,nv,hx,hf,cd,a8,cj,hR,hL,hN,d1,d2,d3⟩:=hc;obtain ⟨v,b4,t,Z,S,rfl,a9,b9,a7⟩:=hA.get hy;have ah:=ca.ok y (az hy);have bt:=ah.lt G (az hs);obtain ⟨l,J⟩:∃l,L[G.1]?=some l:=⟨_,aa bt⟩;obtain ⟨v4,bl,y4,rfl,dl,hl⟩:=hL.get J;have b7:=b0.lock _ _ J;have a3:zC R.length L.length (G.1:Int)=((R.length+L.length+G.1:Nat):Int):=by unfold zC;lia
 have a4:vO (ms.map V.int) (zC R.length L.length (G.1:Int))=some (.int (ms.getD (R.length+L.length+G.1) 0)):=by rw [a3];exact yU (by lia)
 refine (j5 wl _ _ _ (jP rfl rfl (so b1) (qH b4) (j5 st _ _ _ (jP rfl rfl (SqT.of I) rfl (j5 pt _ _ _ (jP rfl rfl (SqT.of b2) (qH (v:=.int (p:Int)) (by rw [ar,b8];rfl)) (j5 t y p G (jM rfl (j3 t Z S (jM rfl a9 b9 a7)) hs (fun v3 ⟨t3,e3,ap⟩=>?_)))))))));subst e3;refine (j5 t3 _ _ _ (jP rfl rfl (SqT.of ap) rfl ?_));refine (j5 st _ _ _ (jP rfl rfl (SqT.of I) rfl (⟨x,dx,jB rfl (⟨hx,hf.no (by trivial) (by trivial) (by trivial),(kS x D R L N (jB rfl (⟨Y,(j5 wt _ _ _ (jP rfl rfl (SqT.of am) a4 ?_))⟩)))⟩)⟩)));refine (j5 x cN dx _ (jB rfl (jP hx T.clN T.xw hf.2.1 (j5 ll _ _ _ (jP rfl rfl (so a8) (qH bl) (⟨x,dx,jB rfl (⟨hx,hf.no (by trivial) (by trivial) (by trivial),(j5 st _ _ _ (jP rfl rfl (SqT.of I) rfl (Z4 x wt D R L N ms G.1 (jP rfl Y am (by lia) (j5 t3 _ _ _ (jP rfl rfl (SqT.of ap) rfl (eS y4 l.kd _ _ _ l.room l.extra _ _ G.2 ⟨(by rw [WO];rfl),⟨dl,hl⟩,fun r H1 rs s1 ce O hP=>?_⟩)))))))⟩)⟩))))));refine eS x r G.1 l rs _ D R L N (fB rfl (Y.same s1) J b7 O hP (S6 _ _ _ _ _ _) (aI (CH _ _ _ _ _ _) (by decide)) (fun r2 H2 zs s2 an b3 a5=>?_));refine q r2 H2 zs (s1.trans s2) (s1.free an) b3 ?_;unfold QZ QK;rw [J,a6];exact a5
theorem NE:jV 3 ["canal","state","k"] pX:=jU
include T in
theorem K2 (F:kC K "let_pours" pX f fd) (wc:Def P w K mg base 2 "by_number" ["canal","k","named"] [] (wA (jG cP cB cU) cR cN)) (wr:Def P w K mg base 3 "letting" ["lock","basin"] [] (fT (jG cP cB cU) zB)) (ze:MeD P w K mg base 1 cN "basin" ["self","k"] (cM (jG cP cB cU) cR cN zC)):FnOk P w K mg base jT 4 f fd ["canal","state","k"] (ED (jG cP cB cU) cR cN):=by
 refine F.ok2 NE fun vs H Q E h=>?_
 obtain ⟨x,wl,st,k,us,ys,d,ms,pl,D,R,L,N,rfl,hG,ap,q⟩:=h;refine ⟨rfl,fun _ _ _ _ O=>?_⟩;refine ⟨_,(jN (jR wc O rfl (qQ (jA 0) (jA 2) (jR wr O rfl (jC (jJ (qD K) (kN K (jA 0) rfl) (jA 2)) (jC (jJ (jO K) (jJ (jO K) (jA 1) jD) (bP ze O (jA 0) (jC (jA 2) jE))) jE)))))),?_⟩
 try dsimp only [jX,jW]
 obtain ⟨hc,a4,a7,hA,⟨wt,pt,J,Y,a8⟩,bt,an⟩:=id hG;have S:=hc;obtain ⟨dx,rl,ll,nl,fs,rs,ls,nv,hx,hf,a9,a5,bl,hR,hL,hN,d1,d2,d3⟩:=hc;obtain ⟨l,G⟩:∃l,L[k]?=some l:=⟨_,aa ap⟩;obtain ⟨v4,am,y4,rfl,dl,hl⟩:=hL.get G;have a6:=a4.lock _ _ G;have Z:vO (ms.map V.int) (zC R.length L.length (k:Int))=some (.int (ms.getD (R.length+L.length+k) 0)):=by
  rw [show zC R.length L.length (k:Int)=((R.length+L.length+k:Nat):Int) by unfold zC;lia];exact yU (by lia)
 refine (kR hx (T.clN) (T.xw) (hf.2.1) (qM (so a5) (qH am) (jK (SqT.of J) rfl (⟨x,dx,jB rfl (⟨hx,hf.no (by trivial) (by trivial) (by trivial),(kS x D R L N (jB rfl (⟨S,jK (SqT.of Y) Z (kI y4 l.kd _ _ _ l.room l.extra (jB rfl (⟨⟨dl,hl⟩,fun r H1 rs s1 be O hP=>?_⟩)))⟩)))⟩)⟩))));refine eS x r k l rs _ D R L N (fB rfl (S.same s1) G a6 O hP (lZ _ _ _ _) (aI (cE _ _ _ _) (by decide)) (fun r2 H2 zs s2 I a3 ah=>?_));refine q r2 H2 zs (s1.trans s2) (s1.free I) a3 ?_;unfold gM;rw [G,an];exact ah
theorem NB:jV 3 ["canal","waters","vessel"] pU:=jU
include T in
theorem KY (F:kC K "is_below_least" pU f fd) : FnOk P w K mg base jT 1 f fd ["canal","waters","vessel"] (FX (jG cP cB cU) cR cN):=by
 refine F.ok2 NB fun vs H Q E h=>?_
 refine ZW h fun x w v ms D R L N h=>?_
 refine Z0 h fun S Z hw hv q=>?_
 subst S;refine ⟨rfl,fun _ _ _ _ G=>?_⟩;refine ⟨_,(jN (cH (JB ZO (jA 2) (vF K T.xq (kN K (jA 0) rfl))) (cG (JB ZO (jJ (jO K) (jA 1) (jA 2)) (kN K (jJ (qD K) (kN K (jA 0) rfl) (jA 2)) rfl))))),?_⟩
 try dsimp only [jX,jW]
 obtain ⟨dx,V,ll,nl,fs,rs,ls,nv,I,J,l,ah,Y,O,hL,hN,d1,d2,d3⟩:=Z;refine (kR I (T.clN) (T.xl) (J.1) (⟨V,jB rfl (⟨.inl (so l),_,_,rfl,rfl,jB rfl (?_)⟩)⟩));rw [O.1]
 by_cases h:v<R.length
 ·obtain ⟨r,G⟩:∃r,R[v]?=some r:=⟨_,aa h⟩;obtain ⟨z,hz,y,rfl,dy,gs,hy,hg⟩:=O.get G;refine kY (by lia) (jK (SqT.of hw) (yU hv) (kR I (T.clN) (T.xl) (J.1) (qM (so l) (qH hz) (kR hy (T.clR) (T.zp) (hg.2.1) (qS (?_))))));rw [show ZT R ms v=decide (ms.getD v 0<r.least) by unfold ZT;rw [G]] at q;exact q
 ·refine kE (by lia) ?_;rw [show ZT R ms v=false by unfold ZT;rw [cr (by lia)]] at q;exact q
theorem iW:jV 3 ["canal","waters","moved","held","pour"] pS:=jU
include T in
theorem KR (F:kC K "falls_short" pS f fd) (za:Def P w K mg base 1 "poured_all" ["waters","pours"] [] (gJ K)) (ur:Def P w K mg base 1 "is_below_least" ["canal","waters","vessel"] [] (FX (jG cP cB cU) cR cN)):FnOk P w K mg base jT 2 f fd ["canal","waters","moved"] (DE (jG cP cB cU) cR cN):=by
 refine F.ok2 iW fun vs H Q E h=>?_
 obtain ⟨x,w,p,ms,zs,qs,D,R,L,N,rfl,hc,hw,hp,hP,G,q⟩:=h;refine ⟨rfl,fun _ _ _ _ J=>?_⟩;refine tk fun x0=>?_
 let u0:=ru x0 [1,0,0] (jH (jY 3 iW.nd (jR za J rfl (jC (jA 3) (jC (qC (jC (jA 4) jE)) jE))))
   (kM (j9 (q9 (jR ur J rfl (qQ (jA 0) (jA 3) (jJ (jO K) (jA 4) jD)))) (jN zT) kA)))
 let u1:=ru x0 [1] (jH (zL ci rfl (yN (jA 2)) (kT (i:=4) iW.nd rfl (.inl rfl))
    u0.h)
   (jN zT))
 refine ⟨_,(jH (jY 3 iW.nd (jA 1))
   u1.h),?_⟩
 try dsimp only [jX,jW]
 refine (?_);refine ⟨p,rfl,⟨_,so hp⟩,dY (K:=K) (a:=p) (xs:=zs) (fun i Y I=>∃(h:Addr) (c:Option V),Y=[some (.ref x),some (.ref w),some (.ref p),some (.ref h),c]/\I h=some (.tup ((k7 ms (qs.take i)).map V.int))/\QW R ms qs=QW R (k7 ms (qs.take i)) (qs.drop i)/\Same H I)
  ⟨w,none,(jM rfl hw rfl (Same.refl _))⟩ (fun i Y I _ ⟨_,_,_,_,_,s⟩=>so (s _ _ hp)) ?_ ?_⟩
 ·rintro i v Y I hv ⟨h,c,rfl,hh,S,sm⟩;obtain ⟨a,s,t,m,rfl,Z,hT,hs,ht⟩:=hP.2 i v hv;have el:(k7 ms (qs.take i)).length=ms.length:=QA _ _;refine (⟨zz1,fun lp am=>?_⟩);have u:=jL am (.lst [V.ref a]);refine ⟨h,j5 lp _ ([.ref a]) ([(s,t,m)]) (j7 rfl (.inr (SqT.of (u _ _ hh))) (so jF) ((PoursH.nil _ _ |>.snoc (u _ _ (sm _ _ hT)) (by rw [el];exact hs) (by rw [el];exact ht)).pa) (by rw [el];exact G) (fun r H' s' an J=>?_))⟩;have l:=(sm.trans u).trans s';have ep:k7 (k7 ms (qs.take i)) [(s,t,m)]=k7 ms (qs.take (i+1)):=by rw [i4 ms qs i _ Z];rfl
  rw [ep] at J;have ed:qs.drop i=(s,t,m)::qs.drop (i+1):=(drop_eq_getElem_cons (ae.mp Z).1).trans (by rw [(ae.mp Z).2]);have O:QW R ms qs=(ZT R (k7 ms (qs.take (i+1))) s||QW R (k7 ms (qs.take (i+1))) (qs.drop (i+1))):=by
   rw [S,ed];show (ZT R (pour (k7 ms (qs.take i)) (s,t,m)) s||QW R (pour (k7 ms (qs.take i)) (s,t,m)) (qs.drop (i+1)))=_;rw [i4 ms qs i _ Z]
  have ah:(k7 ms (qs.take (i+1))).length=ms.length:=QA _ _;refine (jK (SqT.of (l _ _ hT)) rfl (Z4 x r s _ D R L N (jP rfl (hc.same l) J (by rw [ah];exact hs) (jB rfl (?_)))));cases hb:ZT R (k7 ms (qs.take (i+1))) s with
  |true =>
   refine qA ?_;have:=q H' l;rw [O,hb] at this;exact this
  |false =>
   refine qB ⟨r,jB rfl (⟨J,?_,l⟩)⟩;rw [O,hb];rfl
 rintro Y I ⟨h,c,rfl,hh,S,sm⟩;rw [hP.1,drop_length] at S;have:=q I sm;rw [S] at this;exact this
theorem tE:jV 4 ["canal","ways","state","boat","place","target"] rZ:=jU
include T in
theorem L5 (F:kC K "why_no_pass" rZ f fd) (vn:Def P w K mg base 3 "reach_of" ["canal","way","place"] [] (tY (jG cP cB cU) cR cN)) (zy:Def P w K mg base 5 "has_no_berth" ["canal","ways","state","reach"] [] (tZ (jG cP cB cU) cR cN)) (b7:Def P w K mg base 2 "falls_short" ["canal","waters","moved"] [] (DE (jG cP cB cU) cR cN)) (vo:Def P w K mg base 6 "pass_pours" ["canal","ways","state","boat"] [] (uZ (jG cP cB cU) cR cN)):FnOk P w K mg base jT 7 f fd ["canal","ways","state","boat"] (FA (jG cP cB cU) cR cN):=by
  refine F.ok2 tE fun vs H Q E h=>?_
  obtain ⟨x,wl,st,b,us,ys,d,ms,pl,D,R,L,N,rfl,hG,hb,q⟩:=h;refine ⟨rfl,fun _ _ _ _ J=>?_⟩;refine tk fun x0=>?_
  let u0:=ru x0 [4] (jH (j9 (q9 (jR b7 J rfl (qQ (jA 0) (jJ (jO K) (jA 2) jD) (jR vo J rfl (yS (jA 0) (jA 1) (jA 2) (jA 3)))))) (jN j4) kA)
      (jN j4))
  let u1:=ru x0 [3] (ZH (j9 (PW.pt (mH (j6 JG (jA 5) (zI (v:=.int (-1)) rfl T.xaN ⟨_,rfl⟩)) (lY (q9 (jR zy J rfl (yS (jA 0) (jA 1) (jA 2) (jA 5))))))) (jN j4) kA)
      u0.h)
  let u2:=ru x0 [2] (jH (jY 5 tE.nd (jR vn J rfl (qQ (jA 0) (jJ (qD K) (jA 1) (jA 3)) (jI kU (jA 4) jD))))
      u1.h)
  let u3:=ru x0 [1] (jH (j9 (j6 kP (jR vn J rfl (qQ (jA 0) (jJ (qD K) (jA 1) (jA 3)) (jA 4))) (zI (v:=.int (-1)) rfl T.xaN ⟨_,rfl⟩)) (jN j4) kA)
      u2.h)
  refine ⟨_,(jH (jY 4 tE.nd (jJ (jO K) (jJ (jO K) (jA 2) jD) (jA 3)))
      u3.h),?_⟩
  try dsimp only [jX,jW]
  obtain ⟨hc,O,a4,hA,b3,an,ce⟩:=id hG;obtain ⟨wt,pt,Y,bl,bt⟩:=id b3;have ap:=hc;obtain ⟨dx,rl,ll,nl,fs,rs,ls,nv,hx,hf,cd,cn,cC,hR,hL,hN,d1,d2,d3⟩:=hc;have b1:=O.r8;have b2:=O.l8;obtain ⟨y,hy⟩:∃y,ys[b]?=some y:=⟨_,aa hb⟩;obtain ⟨p,hp⟩:∃p,pl[b]?=some p:=⟨_,aa (by rw [an.len];exact hb)⟩;obtain ⟨v,a7,Z⟩:=hA.get hy;obtain ⟨t,b8,b4,rfl,co,c0,cj⟩:=id Z;have a5:=an.le b y p hy hp;have l:=an.ok y (az hy);have ey:ys.getD b (0,[])=y:=by rw [af,hy];rfl
  have ep:pl.getD b 0=p:=by rw [af,hp];rfl
  unfold cW at q;rw [ey,ep] at q;refine (jK (SqT.of Y) rfl (jK (SqT.of bt) (qH (v:=.int (p:Int)) (by rw [ar,hp];rfl)) (?_)));refine (qM (so a4) (qH a7) (Z4 x t y p D R L N (j7 rfl ap Z l a5 (fun H1 s1=>⟨rfl,jB rfl (?_)⟩))))
  by_cases h0:p=y.2.length
  . refine kY (by rw [h0,EI]) ?_
    have:=q H1 s1;rw [if_pos h0] at this;exact this
  have be:p<y.2.length:=by lia
  have ca:=FI O l be;refine kE (fun e=>by have:=V.int.inj e;lia) ?_;have q:∀H',Same H H'->Q (.str (if ¬vU L y (p+1) = -1/\fX R (vU L y (p+1))<=(((zA L ys pl).countP fun z=>decide (z=vU L y (p+1)):Nat):Int) then "berth" else if QW R ms (QZ R.length L ms (y.2.getD p (0,true)))=true then "water" else "")) H':=fun H' s'=>by
    have:=q H' s';rw [if_neg h0] at this;exact this
  have cz:=s1;refine (qM (so (s1 _ _ a4)) (qH a7) (qS (Z4 x t y (p+1) D R L N (j7 rfl (ap.same s1) (WyAt.same s1 _ _ Z) l (by lia) (fun H2 s2=>?_)))));have am:=s1.trans s2;refine ⟨fun a3 Ha=>a3=[some (.ref x),some (.ref wl),some (.ref st),some (.int (b:Int)),some (.int (p:Int)),some (.int (vU L y (p+1)))]/\Same H Ha/\¬(¬vU L y (p+1) = -1/\fX R (vU L y (p+1))<=(((zA L ys pl).countP fun z=>decide (z=vU L y (p+1)):Nat):Int)),?_,?_⟩
  . refine ⟨rfl,jB rfl (?_)⟩
    by_cases h1:vU L y (p+1) = -1
    . exact zU (cf V.int h1) (qB ⟨rfl,am,fun z=>z.1 h1⟩)
    refine bI (fun e=>h1 (V.int.inj e)) ?_;have a9:p+1<y.2.length:=by
      by_cases e:p+1=y.2.length
      . rw [e,EI] at h1;exact absurd rfl h1
      . lia
    have b0:=FI O l a9;obtain ⟨S,a6⟩:∃S:Nat,vU L y (p+1)=(S:Int):=⟨(vU L y (p+1)).toNat,by lia⟩;rw [a6] at h1 ⊢;obtain ⟨r,J⟩:∃r,R[S]?=some r:=⟨_,aa (by lia)⟩;have eb:fX R (S:Int)=r.berths:=by unfold fX;rw [show ((S:Nat):Int).toNat=S from rfl,J]
    refine (gN x wl st S r us ys d ms pl D R L N (jM rfl (hG.same am) J (fun H3 s3=>(jB rfl (?_)))));have G:=am.trans s3
    by_cases h2:r.berths<=(((zA L ys pl).countP fun z=>decide (z=(S:Int)):Nat):Int)
    . rw [bi h2]
      refine qA ?_;have:=q H3 G;rw [a6,eb,if_pos ⟨h1,h2⟩] at this;exact this
    . rw [aN h2]
      exact qB ⟨rfl,G,fun z=>h2 (by rw [eb] at z;exact z.2)⟩
  rintro a3 H3 ⟨rfl,G,b9⟩;obtain ⟨I,hs⟩:∃s,y.2[p]?=some s:=⟨_,aa be⟩;have es:y.2.getD p (0,true)=I:=by rw [af,hs];rfl
  refine (jK (SqT.of (G _ _ Y)) rfl (xK x wl st b us ys y p I d ms pl D R L N (j7 rfl (hG.same G) hy hp hs (fun r H4 zs s4 cv J hP=>?_))));have ah:=G.trans s4;refine eS x wt r ms zs _ D R L N (vS rfl (ap.same ah) (ah _ _ bl) J hP (by lia) (fun H5 s5=>(jB rfl (?_))));have:=q H5 (ah.trans s5);rw [if_neg b9,es] at this;cases a8:QW R ms (QZ R.length L ms I) with
  |true =>
    refine qA ?_;rw [a8,if_pos rfl] at this;exact this
  |false =>
    refine qB ?_;rw [a8,if_neg (by decide)] at this;exact this
theorem NT:jV 4 ["canal","ways","state","deed"] r9:=jU
include T in
theorem L6 (F:kC K "why_not" r9 f fd) (ah:Def P w K mg base 7 "why_no_pass" ["canal","ways","state","boat"] [] (FA (jG cP cB cU) cR cN)) (zh:MeD P w K mg base 2 cN "full" ["self","waters","k"] (lX (jG cP cB cU) cR cN)):FnOk P w K mg base jT 8 f fd ["canal","ways","state","deed"] (wM (jG cP cB cU) cR cN):=by
 refine F.ok2 NT fun vs H Q E h=>?_
 obtain ⟨x,wl,st,dd,de,us,ys,d,ms,pl,D,R,L,N,rfl,hG,l,I,q⟩:=h;refine ⟨rfl,fun _ _ _ _ hr=>?_⟩;refine tk fun O=>?_
 let u0:=ru O [1,0,0] (jN (zQ (q9 (bP zh hr (jA 0) (jC (jJ (jO K) (jA 2) jD) (jC (jJ (jO K) (jA 3) jD) jE)))) j4 j4))
 let u1:=ru O [2] (jN (zQ (j6 ZO (jJ (jO K) (jA 2) jD) (vF K T.xq (kN K (jA 0) rfl))) j4 j4))
 let u2:=ru O [1] (jH (j9 (j6 kP (jJ (jO K) (jA 3) jD) j4) u0.h kA)
   u1.h)
 refine ⟨_,(jH (j9 (j6 kP (jJ (jO K) (jA 3) jD) j4) (jN (jR ah hr rfl (yS (jA 0) (jA 1) (jA 2) (jJ (jO K) (jA 3) jD)))) kA)
   u2.h),?_⟩
 try dsimp only [jX,jW]
 obtain ⟨hc,a5,am,hA,Z,a4,a3⟩:=id hG;obtain ⟨wt,pt,G,J,an⟩:=id Z;have Y:=hc;obtain ⟨dx,rl,ll,nl,fs,rs,ls,nv,hx,hf,ap,a6,S,hR,hL,hN,d1,d2,d3⟩:=hc;cases de with
 |pass b =>
  refine (jK (SqT.of l) rfl (⟨rfl,jB rfl (kY rfl ?_)⟩));exact (jK (SqT.of l) rfl (xL x wl st b us ys d ms pl D R L N (jM rfl hG I q)))
 |«let» k =>
  have hk:k<L.length:=I;refine (jK (SqT.of l) rfl (⟨rfl,jB rfl (kE (fun e=>absurd (V.str.inj e) (by trivial)) ?_)⟩));refine (jK (SqT.of l) rfl (⟨rfl,jB rfl (kY rfl ?_)⟩));refine (⟨x,dx,jB rfl (⟨hx,hf.no (by trivial) (by trivial) (by trivial),(jK (SqT.of G) rfl (jK (SqT.of l) rfl (Z4 x wt D R L N ms k (jP rfl Y J (by lia) (jB rfl (?_))))))⟩)⟩);have:=q H (Same.refl _)
  change Q (.str (if QK R.length ms k=true then "" else "empty")) H at this
  unfold QK at this
  by_cases h:0<ms.getD (R.length+k) 0
  ·rw [if_pos (bi h)] at this;exact kY h this
  ·rw [if_neg (by rw [fm];exact h)] at this;exact kE h this
 |night =>
  refine (jK (SqT.of l) rfl (⟨rfl,jB rfl (kE (fun e=>absurd (V.str.inj e) (by trivial)) ?_)⟩));refine (jK (SqT.of l) rfl (⟨rfl,jB rfl (kE (fun e=>absurd (V.str.inj e) (by trivial)) ?_)⟩));refine (jK (SqT.of G) rfl (kR hx (T.clN) (T.zc) (hf.2.2.1) (⟨nl,jB rfl (⟨.inl (so S),_,_,rfl,rfl,jB rfl (?_)⟩)⟩)));rw [hN.1];have:=q H (Same.refl _)
  change Q (.str (if d<(N.length:Int) then "" else "over")) H at this
  by_cases h:d<(N.length:Int)
  ·rw [if_pos h] at this;exact kY h this
  ·rw [if_neg h] at this;exact kE h this
theorem iY:jV 4 ["canal","ways","state","deed","word","passes","moved"] rJ:=jU
include T in
theorem LJ (F:kC K "pours" rJ f fd) (ut:Def P w K mg base 8 "why_not" ["canal","ways","state","deed"] [] (wM (jG cP cB cU) cR cN)) (vo:Def P w K mg base 6 "pass_pours" ["canal","ways","state","boat"] [] (uZ (jG cP cB cU) cR cN)) (b0:Def P w K mg base 4 "let_pours" ["canal","state","k"] [] (ED (jG cP cB cU) cR cN)) (zg:Def P w K mg base 4 "with_spills" ["weirs","waters","pours"] [] (lW K)) (xu:MeD P w K mg base 2 cN "weirs" ["self"] (fS (jG cP cB cU) cR cN)):FnOk P w K mg base (kJ P w) 9 f fd ["canal","ways","state","deed"] (DF (jG cP cB cU) cR cN eW):=by
 refine F.okX2 iY fun vs H Q E h=>?_
 obtain ⟨x,wl,st,dd,de,us,ys,d,ms,pl,D,R,L,N,rfl,hG,a4,am,ce,be,qv,qe⟩:=h;refine ⟨rfl,fun _ _ _ _ S=>?_⟩;refine tk fun x0=>?_
 let u0:=ru x0 [4] (jH (jY 6 iY.nd (zQ (q9 (jA 5)) (jR vo S rfl (yS (jA 0) (jA 1) (jA 2) (jJ (jO K) (jA 3) jD))) (jR b0 S rfl (qQ (jA 0) (jA 2) (jJ (jO K) (jA 3) jD)))))
   (jN (jR zg S rfl (qQ (kL xu S (jA 0)) (jJ (jO K) (jA 2) jD) (jA 6)))))
 let u1:=ru x0 [3] (jH (jY 5 iY.nd (JB kP (jJ (jO K) (jA 3) jD) j4))
   u0.h)
 let u2:=ru x0 [2] (jH (j9 (j6 kP (jJ (jO K) (jA 3) jD) j4) FH kA)
   u1.h)
 let u3:=ru x0 [1] (jH (j9 (j6 JG (jA 4) j4) (kM (QR QP rfl rfl T.uh T.ui (jC (jA 4) jE))) kA)
   u2.h)
 refine ⟨_,(jH (jY 4 iY.nd (jR ut S rfl (yS (jA 0) (jA 1) (jA 2) (jA 3))))
   u3.h),?_⟩
 try dsimp only [jX,jW]
 obtain ⟨hc,ah,ca,hA,b3,a8,a3⟩:=id hG;obtain ⟨wt,pt,O,a7,cd⟩:=id b3;have a9:=hc;obtain ⟨dx,rl,ll,nl,fs,rs,ls,nv,hx,hf,b8,b9,cj,hR,hL,hN,d1,d2,d3⟩:=hc;have b1:=ah.r8;have b2:=ah.l8;have a6:=bZ ah;refine (gN x wl st dd de us ys d ms pl D R L N (jP rfl hG a4 am (fun H1 s1=>?_)));refine ⟨rfl,jB rfl (?_)⟩
 by_cases hw:Q4 R L N.length ys d ms pl de=""
 rotate_left
 ·exact bI (fun e=>hw (V.str.inj e)) (⟨by show 1<=sizeLine;decide,qe hw _ s1⟩)
 refine zU (cf V.str hw) ?_;have qv:=qv hw;have l:=s1 _ _ a4;have bt:=s1 _ _ O;cases de with
 |night =>
  exact absurd rfl be
 |pass b =>
  have hb:b<ys.length:=am;obtain ⟨y,hy⟩:∃y,ys[b]?=some y:=⟨_,aa hb⟩;obtain ⟨p,hp⟩:∃p,pl[b]?=some p:=⟨_,aa (by rw [a8.len];exact hb)⟩;have b7:=a8.le b y p hy hp;have ey:ys.getD b (0,[])=y:=by rw [af,hy];rfl
  have ep:pl.getD b 0=p:=by rw [af,hp];rfl
  have bl:=uG hw;rw [ey,ep] at bl;obtain ⟨J,hs⟩:∃s,y.2[p]?=some s:=⟨_,aa (by lia)⟩;have es:y.2.getD p (0,true)=J:=by rw [af,hs];rfl
  refine (jK (SqT.of l) rfl (⟨rfl,jB rfl (kE (fun e=>absurd (V.str.inj e) (by trivial)) ?_)⟩));refine (jK (SqT.of l) rfl (⟨rfl,?_⟩));rw [bi rfl];refine (jB rfl (qA ?_));refine (jK (SqT.of l) rfl (xK x wl st b us ys y p J d ms pl D R L N (j7 rfl (hG.same s1) hy hp hs (fun m H2 zs s2 b4 hm hP=>?_))));have I:=s1.trans s2;refine (⟨x,dx,jB rfl (⟨(I _ _ hx),hf.no (by trivial) (by trivial) (by trivial),kS x D R L N (jM rfl (a9.same I) (by lia) (fun wq ws H3 s3 a5 Y hW=>?_))⟩)⟩);have G:=I.trans s3;have hl:=hP.1;refine (jK (SqT.of (G _ _ O)) rfl (kI wq wt m ws zs (qK R L.length) ms (jB rfl (jP (i5 a6 hW Y (.inr (SqT.of (G _ _ a7))) a3 (by lia) (by lia)) (s3 _ _ hm) (hP.same s3) ?_ (fun r H4 gs an s4 ap S Z hS=>?_)))))
  ·rw [hl];exact aI (CG _ _ _ _) (by decide)
  have e:Q0 R L N ys d ms pl (.pass b)=QZ R.length L ms J:=by show QZ R.length L ms _=_;rw [ey,ep,es]
  refine qv r H4 gs an (G.trans s4) (G.free ap) S ?_ ?_
  ·unfold mD;rw [e];exact Z
  ·rw [e];exact hS
 |«let» k =>
  have hk:k<L.length:=am;refine (jK (SqT.of l) rfl (⟨rfl,jB rfl (kE (fun e=>absurd (V.str.inj e) (by trivial)) ?_)⟩));refine (jK (SqT.of l) rfl (⟨rfl,?_⟩));rw [aN (fun e=>absurd (V.str.inj e) (show ¬("let":Str)="pass" by trivial))];refine (jB rfl (qB ?_));refine (jK (SqT.of l) rfl (xL x wl st k us ys d ms pl D R L N (jM rfl (hG.same s1) hk (fun m H2 zs s2 b4 hm hP=>?_))));have I:=s1.trans s2;refine (⟨x,dx,jB rfl (⟨(I _ _ hx),hf.no (by trivial) (by trivial) (by trivial),kS x D R L N (jM rfl (a9.same I) (by lia) (fun wq ws H3 s3 a5 Y hW=>?_))⟩)⟩);have G:=I.trans s3;have hl:=hP.1;refine (jK (SqT.of (G _ _ O)) rfl (kI wq wt m ws zs (qK R L.length) ms (jB rfl (jP (i5 a6 hW Y (.inr (SqT.of (G _ _ a7))) a3 (by lia) (by lia)) (s3 _ _ hm) (hP.same s3) ?_ (fun r H4 gs an s4 ap S Z hS=>?_)))))
  ·rw [hl];exact aI (DQ _ _ _ _) (by decide)
  exact qv r H4 gs an (G.trans s4) (G.free ap) S Z hS
theorem sU:jV 2 ["name","things","place","thing"] rG:=jU
include T in
theorem LH (F:kC K "place_called" rG f fd) : FnOk P w K mg base (kJ P w) 1 f fd ["name","things"] (uY K eU):=by
 refine F.okX2 sU fun vs H Q E h=>?_
 refine dA h fun nm l us zs h=>?_
 refine z3 h fun e_ hl hA ah qv qe=>?_
 subst e_;refine ⟨rfl,fun _ _ _ _ hr=>?_⟩;refine ⟨_,(jH (zL mJ rfl (US (by rfl) T.xv (jC (jA 1) jE)) (mI rfl (qO (kT (i:=2) sU.nd rfl (.inl rfl)) (qO (kT (i:=3) sU.nd rfl (.inl rfl)) zH)))
    (kM (j9 (j6 kP (kN K (jA 3) rfl) (jA 0)) (jN (jA 2)) kA)))
   (kM (QR QP rfl rfl T.wj T.wk (jC j4 jE)))),?_⟩
 try dsimp only [jX,jW]
 refine (⟨l,rfl,⟨_,so hl⟩,TQ (K:=K) (a:=l) (xs:=us) (fun i O S=>∃Y c3:Option V,O=[some (.str nm),some (.ref l),Y,c3]/\(∀j:Nat,j<i->zs[j]?≠some nm)/\Same H S) ⟨none,none,rfl,fun j hj=>absurd hj (gb j),Same.refl _⟩ (fun i O S _ ⟨_,_,_,_,s⟩=>so (s _ _ hl)) ?_ ?_⟩)
 ·rintro i v O S J hv ⟨Y,c3,rfl,G,sm⟩ hT;obtain ⟨z,hz,x,C,dx,fs,rfl,hx,cC,nC,lk⟩:=hA.2 i v hv;have u:=jL hT (.tup [V.int (i:Int),V.ref x]);have I:=sm.trans u;refine ⟨J,jB rfl (⟨SqT.of jF,rfl,_,jB rfl (⟨_,_,rfl,rfl,?_⟩)⟩)⟩;refine (j5 x C dx _ (jB rfl (j7 (I _ _ hx) cC nC lk rfl (jB rfl (?_)))))
  by_cases h:z=nm
  ·exact kY (cf V.str h) (qv i ⟨by rw [<- h];exact hz,G⟩ _ I)
  ·refine kE (fun e=>h (V.str.inj e)) ⟨_,jB rfl (⟨fun j hj=>?_,I⟩)⟩
   by_cases c:j=i
   ·rw [c,hz];exact fun e=>h (ay e)
   ·exact G j (by lia)
 rintro O S ⟨Y,c3,rfl,G,sm⟩;refine ⟨by show 1<=sizeLine;decide,qe (fun i hi=>?_) _ sm⟩;have Z:i<zs.length:=(ae.mp hi).1;exact G i (by rw [hA.1];exact Z) hi
theorem MR:jV 2 ["self","name"] oY:=jU
include T in
theorem IH (F:Fun K "reach_at" "Canal.reach_at" oY f fd) (zr:DefX P w K mg base 1 "place_called" ["name","things"] [] (uY K eU)):FnOk P w K mg base (kJ P w) 2 f fd ["self","name"] (ZM (jG cP cB cU) cR cN eU 0):=by
 refine F.okX2 MR fun vs H Q E h=>?_
 refine bQ h fun x D R L N nm h=>?_
 refine z3 h fun J G b1 b2 Z qe=>?_
 subst J;obtain ⟨dx,V,ll,nl,fs,rs,ls,ns,O,Y,l,am,ah,I,hL,hN,d1,d2,d3⟩:=G;refine ⟨rfl,fun _ _ _ _ S=>?_⟩;refine ⟨_,(jN (vH zr qR S rfl (jC (jA 1) (jC (kN K (jA 0) rfl) jE)))),?_⟩
 try dsimp only [jX,jW]
 exact (kR O (T.clN) (T.xl) (Y.1) (j5 nm V rs (mK 0 R L) (j7 rfl l (OM T.clR T.vi I) (by rw [I.1];lia) Z qe)))
theorem MP:jV 2 ["self","name"] oW:=jU
include T in
theorem IF (F:Fun K "lock_at" "Canal.lock_at" oW f fd) (zr:DefX P w K mg base 1 "place_called" ["name","things"] [] (uY K eU)):FnOk P w K mg base (kJ P w) 2 f fd ["self","name"] (ZM (jG cP cB cU) cR cN eU 1):=by
 refine F.okX2 MP fun vs H Q E h=>?_
 refine bQ h fun x D R L N nm h=>?_
 refine z3 h fun J l b1 b2 Z qe=>?_
 subst J;obtain ⟨dx,rl,ll,nl,fs,rs,ls,ns,O,Y,S,G,ah,hR,I,hN,d1,d2,d3⟩:=l;refine ⟨rfl,fun _ _ _ _ V=>?_⟩;refine ⟨_,(jN (vH zr qR V rfl (jC (jA 1) (jC (kN K (jA 0) rfl) jE)))),?_⟩
 try dsimp only [jX,jW]
 exact (kR O (T.clN) (T.xw) (Y.2.1) (j5 nm ll ls (mK 1 R L) (j7 rfl G (PN T.cl T.xaK I) (by rw [I.1];lia) Z qe)))
theorem AN:jV 2 ["canal","entry","start"] iR:=jU
include T in
theorem LY (F:kC K "way_told" iR f fd) (xx:MeX P w K mg base 2 cN "reach_at" ["self","name"] (ZM (jG cP cB cU) cR cN eU 0)) (zo:MeX P w K mg base 2 cN "lock_at" ["self","name"] (ZM (jG cP cB cU) cR cN eU 1)):FnOk P w K mg base (kJ P w) 3 f fd ["canal","entry"] (tX (jG cP cB cU) cR cN eU):=by
 refine F.okX2 AN fun vs H Q E h=>?_
 refine yL h fun x t e D R L N h=>?_
 refine eV h fun e_ hc b1 b2 ap a6 qv qe=>?_
 subst e_;obtain ⟨st,us,h1,h2,h3⟩:=ap;refine ⟨rfl,fun _ _ _ _ hr=>?_⟩;refine tk fun x0=>?_
 let u0:=ru x0 [1] (jN (kX (jC (jA 2) (jC (vP (bY K) (by rfl) T.xy bh (jC (S4 ["name","side","canal"] (vM 2 [0]) (yF (kF iR)) (cps 2 [0]) (FJ (jJ (jO K) (jA 1) jD)) (fun _ _ _ _ _=>(JP (n:=2) K rfl (qO (kT (i:=0) (show List.Nodup (["name","side","canal"]:List Str) from by trivial) rfl (.inl rfl)) (qO (kT (i:=1) (show List.Nodup (["name","side","canal"]:List Str) from by trivial) rfl (.inl rfl)) zH)))) (fun _ _ _ _ _=>JD) (fun _ _ _ _ _=>(kX (jC (QY zo P4 hr (jA 2) (jC (jA 0) jE)) (jC (jA 1) jE))))) jE)) jE))))
 refine ⟨_,(jH (jY 2 AN.nd (QY xx qR hr (jA 0) (jC (jJ (jO K) (jA 1) jD) jE)))
   u0.h),?_⟩
 try dsimp only [jX,jW]
 have am:=hc;obtain ⟨dx,rl,ll,nl,fs,rs,ls,nv,hx,hf,a7,a9,a8,hR,hL,hN,d1,d2,d3⟩:=hc;refine (⟨x,dx,jB rfl (⟨hx,hf.no (by trivial) (by trivial) (by trivial),(jK (SqT.of h1) rfl (yE x D R L N e.start (j7 rfl am b1 b2 (fun a ha H1 J=>?_) (fun I H1 J=>qe ?_ H1 J))))⟩)⟩)
 case refine_2 =>
  unfold zX;rw [dW (show QV (R.map (·.name)) e.start from I)]
 have ha:kK (R.map (·.name)) e.start=some a:=dS ha;have a4:=h3.1;refine (jK (SqT.of (J _ _ h1)) rfl (⟨st,rfl,⟨_,SqT.of (J _ _ h2)⟩,fun bt O=>?_⟩));refine RJ (K:=K) (a:=st) (xs:=us) (fun i σ Y=>∃(c1 c2:Option V) (zs:List V) (ps:List (Nat×Bool)),σ=[c1,c2,some (.ref x)]/\y8 (L.map (·.name)) (e.steps.take i)=some ps/\Y bt=some (.lst zs)/\AllAt (PAt Y) zs ps/\Same H Y) (j5 none none ([]) ([]) (jP rfl rfl jF AllAt.nil (J.trans (jL O _)))) (fun i σ Y _ ⟨_,_,_,_,_,_,_,_,s⟩=>SqT.of (s _ _ h2)) ?_ ?_
 ·rintro i v σ Y hv ⟨c1,c2,zs,ps,rfl,l,hY,hA,G⟩;obtain ⟨p,hp,tp,rfl,a3⟩:=h3.2 i v hv;have hi:i<e.steps.length:=(ae.mp hp).1;have ht:e.steps.take (i+1)=e.steps.take i++[p]:=by rw [aV,hp];rfl
  have hpl:=(tW l).1;rw [aW] at hpl;refine ⟨tp,jB rfl (⟨SqT.of (G _ _ a3),rfl,_,jB rfl (⟨_,_,rfl,rfl,?_⟩)⟩)⟩;refine zK (qA (⟨x,dx,jB rfl (⟨(G _ _ hx),hf.no (by trivial) (by trivial) (by trivial),(yE x D R L N p.1 (j7 rfl (am.same G) b1 b2 (fun k hk H2 Z=>?_) (fun I H2 Z=>qe ?_ H2 (G.trans Z))))⟩)⟩))
  case refine_2 =>
   unfold zX;rw [ha];show (y8 (L.map (·.name)) e.steps).map _=none;rw [BH (dW (show QV (L.map (·.name)) p.1 from I)) (az hp)];rfl
  have hk:kK (L.map (·.name)) p.1=some k:=dS hk;refine (⟨zz2,fun t2 an=>?_⟩);have u:=jL an (.tup [V.int (k:Int),V.str (Z3 p.2)]);have S:=u _ _ (Z _ _ hY);refine ⟨zs,⟨S,qX (by rw [hA.1];lia),(j5 _ _ (zs++[.ref t2]) (ps++[(k,p.2)]) (jP rfl (by rw [ht];exact AV hk l) jF ?_ (qJ (J.free O) ((G.trans Z).trans u))))⟩⟩;exact ((hA.mono (PAt.same (Z.trans u))).snoc (v:=.ref t2) (x:=(k,p.2)) ⟨t2,rfl,jF⟩).mono (PAt.put S)
 rintro σ Hf ⟨c1,c2,zs,ps,rfl,l,hY,hA,G⟩;rw [a4,aZ] at l;refine ⟨bt,zs,rfl,.inl ⟨so hY,fun w1 a5=>?_⟩⟩;have v1:=jL a5 (.tup zs);refine ⟨zz2,fun w2 ah=>?_⟩;have v2:=jL ah (.tup [V.int (a:Int),V.ref w1]);refine qv ((a:Int),ps) ?_ w2 _ ((G.trans v1).trans v2) ((G.trans v1).free ah) (j3 w2 w1 zs (jM rfl jF (v2 _ _ jF) (hA.mono (PAt.same (v1.trans v2)))));unfold zX;rw [ha];show (y8 (L.map (·.name)) e.steps).map _=_;rw [l];rfl
theorem MD:jV 1 ["self"] oI:=jU
include T in
theorem HR (F:Fun K "canal" "Book.canal" oI f fd) : FnOk P w K mg base jT 1 f fd ["self"] (ZL (jG cP cB cU) cR cN cO):=by
 refine F.ok2 MD fun vs H Q E h=>?_
 refine yL h fun b x A R L N B h=>?_
 refine vC h fun G I q=>?_
 subst G;refine ⟨rfl,fun _ _ _ _ hr=>?_⟩;refine ⟨_,(jN (kN K (jA 0) rfl)),?_⟩
 try dsimp only [jX,jW]
 obtain ⟨db,nl,wl,pl,ql,el,fs,hA,S,ah,J,Y,V,am,O,Z,l⟩:=I.ob;exact (kR S (T.clO) (T.nO_kept_canal) (J.1) (q))
theorem MJ:jV 1 ["self"] oP:=jU
include T in
theorem HZ (F:Fun K "state" "Book.state" oP f fd) : FnOk P w K mg base jT 1 f fd ["self"] (vE (jG cP cB cU) cR cN cO ZJ):=by
 refine F.ok2 MJ fun vs H Q E h=>?_
 refine yL h fun b x A R L N B h=>?_
 refine vC h fun G I q=>?_
 subst G;refine ⟨rfl,fun _ _ _ _ hr=>?_⟩;refine ⟨_,(jN (kN K (jA 0) rfl)),?_⟩
 try dsimp only [jX,jW]
 obtain ⟨db,nl,wl,pl,ql,el,fs,hA,S,ah,J,Y,V,am,O,Z,l⟩:=I.ob;exact (kR S (T.clO) (T.nO_kept_state) (J.2.2.2.1) (q))
theorem MI:jV 1 ["self"] oO:=jU
include T in
theorem HY (F:Fun K "names" "Book.names" oO f fd) : FnOk P w K mg base jT 1 f fd ["self"] (vE (jG cP cB cU) cR cN cO (yZ fun B=>B.zs.map V.str)):=by
 refine F.ok2 MI fun vs H Q E h=>?_
 refine yL h fun b x A R L N B h=>?_
 refine vC h fun S Y q=>?_
 subst S;refine ⟨rfl,fun _ _ _ _ hr=>?_⟩;refine ⟨_,(jN (vP (zN K) (by rfl) T.xt aL (jC (kN K (jA 0) rfl) jE))),?_⟩
 try dsimp only [jX,jW]
 obtain ⟨db,J,wl,pl,ql,el,fs,hA,hb,ap,Z,G,am,a3,ah,an,O⟩:=Y.ob;exact (kR hb (T.clO) (T.nO_kept_names) (Z.2.1) (⟨J,jB rfl (⟨.inl (so G),fun l I=>q l _ (jL I _) I jF⟩)⟩))
theorem MK:jV 1 ["self"] oQ:=jU
include T in
theorem IA (F:Fun K "ways" "Book.ways" oQ f fd) : FnOk P w K mg base jT 1 f fd ["self"] (vE (jG cP cB cU) cR cN cO (yZ BkS.us)):=by
 refine F.ok2 MK fun vs H Q E h=>?_
 refine yL h fun b x A R L N B h=>?_
 refine vC h fun J S q=>?_
 subst J;refine ⟨rfl,fun _ _ _ _ hr=>?_⟩;refine ⟨_,(jN (vP (zN K) (by rfl) T.xt aL (jC (kN K (jA 0) rfl) jE))),?_⟩
 try dsimp only [jX,jW]
 obtain ⟨db,nl,O,pl,ql,el,fs,hA,Z,ap,V,am,ah,a3,Y,an,G⟩:=S.ob;exact (kR Z (T.clO) (T.nO_kept_ways) (V.2.2.1) (⟨O,jB rfl (⟨.inl (so (vY _ _ _ _ G)),fun l I=>q l _ (jL I _) I jF⟩)⟩))
theorem MH:jV 1 ["self"] oN:=jU
include T in
theorem HX (F:Fun K "ledger" "Book.ledger" oN f fd) : FnOk P w K mg base jT 1 f fd ["self"] (vE (jG cP cB cU) cR cN cO (yZ BkS.ps)):=by
 refine F.ok2 MH fun vs H Q E h=>?_
 refine yL h fun b x A R L N B h=>?_
 refine vC h fun O S q=>?_
 subst O;refine ⟨rfl,fun _ _ _ _ hr=>?_⟩;refine ⟨_,(jN (vP (zN K) (by rfl) T.xt aL (jC (kN K (jA 0) rfl) jE))),?_⟩
 try dsimp only [jX,jW]
 obtain ⟨db,nl,wl,pl,ql,el,fs,hA,Z,an,V,ah,G,ap,Y,am,J⟩:=S.ob;exact (kR Z (T.clO) (T.nO_kept_pours) (V.2.2.2.2.1) (⟨pl,jB rfl (⟨.inl (so G),fun l I=>q l _ (jL I _) I jF⟩)⟩))
theorem ME:jV 1 ["self"] oK:=jU
include T in
theorem HU (F:Fun K "entries" "Book.entries" oK f fd) : FnOk P w K mg base jT 1 f fd ["self"] (vE (jG cP cB cU) cR cN cO (yZ BkS.es)):=by
 refine F.ok2 ME fun vs H Q E h=>?_
 refine yL h fun b x A R L N B h=>?_
 refine vC h fun O S q=>?_
 subst O;refine ⟨rfl,fun _ _ _ _ hr=>?_⟩;refine ⟨_,(jN (vP (zN K) (by rfl) T.xt aL (jC (kN K (jA 0) rfl) jE))),?_⟩
 try dsimp only [jX,jW]
 obtain ⟨db,nl,wl,pl,ql,Y,fs,hA,Z,ap,V,am,ah,a3,G,an,J⟩:=S.ob;exact (kR Z (T.clO) (T.nO_kept_entries) (V.2.2.2.2.2.2.1) (⟨Y,jB rfl (⟨.inl (so G),fun l I=>q l _ (jL I _) I jF⟩)⟩))
theorem MG:jV 1 ["self"] iD:=jU
include T in
theorem HW (F:Fun K "gatework" "Book.gatework" iD f fd) : FnOk P w K mg base jT 1 f fd ["self"] (vE (jG cP cB cU) cR cN cO FN):=by
 refine F.ok2 MG fun vs H Q E h=>?_
 refine yL h fun b x A R L N B h=>?_
 refine vC h fun e_ hq q=>?_
 subst e_;refine ⟨rfl,fun _ _ _ _ hr=>?_⟩;refine ⟨_,(jN (QC ["name","words"] (vM 2 []) rfl (yF (kF iD)) (cps 2 []) (yN (kN K (jA 0) rfl)) (fun _ _ _ _ _=>(JP (n:=2) K rfl (qO (kT (i:=0) (show List.Nodup (["name","words"]:List Str) from by trivial) rfl (.inl rfl)) (qO (kT (i:=1) (show List.Nodup (["name","words"]:List Str) from by trivial) rfl (.inl rfl)) zH)))) (fun _ _ _ _ _=>JD) (fun _ _ _ _ _=>(kX (jC (jA 0) (jC (vP (zN K) (by rfl) T.xt aL (jC (jA 1) jE)) jE)))))),?_⟩
 try dsimp only [jX,jW]
 obtain ⟨db,nl,wl,pl,ql,el,fs,O,hb,a8,hf,a6,a5,am,a4,a7,a3⟩:=hq.ob;refine (kR hb (T.clO) (T.nO_kept_words) (hf.2.2.2.2.2.1) (⟨ql,rfl,⟨_,so am⟩,fun l hl=>?_⟩));have Z:=hq.wd.mono (WdAt.same (vY H A));have o1:=hq.ok.e15;have o2:=hq.ok.qn;refine b5 (K:=K) (a:=ql) (xs:=B.qs) (fun i σ J=>∃(c1 c2:Option V) (vs:List V),σ=[c1,c2]/\J l=some (.lst vs)/\AllAt (WdNew H l J) vs (B.qd.take i)/\Same H J) (j3 none none ([]) (jM rfl jF AllAt.nil (jL hl _))) (fun i σ J _ ⟨_,_,_,_,_,_,s⟩=>so (s _ _ am)) ?_ ?_
 ·rintro i v σ J hv ⟨c1,c2,vs,rfl,hY,O,I⟩;have hi:=(ae.mp hv).1;obtain ⟨p,hp,t,lw,rfl,ht,ap⟩:=Z.2 i v hv;refine ⟨t,jB rfl (⟨SqT.of (I _ _ ht),rfl,_,jB rfl (⟨_,_,rfl,rfl,?_⟩)⟩)⟩;refine zK (qA (⟨lw,jB rfl (⟨.inl (so (I _ _ ap)),fun l2 G=>⟨zz2,fun t2 Y=>?_⟩⟩)⟩));have u:=jL G (.lst (p.2.map V.str));have u2:=jL Y (.tup [V.str p.1,V.ref l2]);have ah:=u2 _ _ (jF (H:=J) (a:=l2) (o:=.lst (p.2.map V.str)));have S:=u2 _ _ (u _ _ hY);have an:=O.1;rw [aW] at an;refine ⟨vs,⟨S,qX (by lia),(j3 _ _ (vs++[.ref t2]) (jM rfl jF ?_ (qJ hl ((I.trans u).trans u2))))⟩⟩;rw [aV,hp];exact ((O.mono (WdNew.same (u.trans u2))).snoc (v:=.ref t2) (x:=p) ⟨t2,l2,(j7 rfl ((I.trans u).free Y) (I.free G) ((qE hY G).symm) jF ah)⟩).mono (WdNew.put S)
 rintro σ Hf ⟨c1,c2,vs,rfl,hY,O,I⟩;rw [Z.1,aZ] at O;exact q l vs Hf I hl hY O
theorem MC:jV 2 ["self","canal"] oG:=jU
include T in
theorem HP (F:Fun K "__init__" "Book.__init__" oG f fd) (a7:Def P w K mg base 6 "begun" ["canal","ways"] [] (EF (jG cP cB cU) cR cN)):FnOk P w K mg base jT 7 f fd ["self","canal"] (lB (jG cP cB cU) cR cN cO):=by
  refine F.ok2 MC fun vs H Q E h=>?_
  refine bQ h fun b O x R L N h=>?_
  refine Z0 h fun e_ hb a5 S q=>?_
  subst e_;refine ⟨rfl,fun _ _ _ _ hr=>?_⟩;refine tk fun x0=>?_
  let u0:=ru x0 [4] (jH (vR (jA 0) (qC jE) rfl)
      (jH (vR (jA 0) (qC jE) rfl)
      (kM (vR (jA 0) (qC jE) rfl))))
  let u1:=ru x0 [3] (jH (vR (jA 0) (jR a7 hr rfl (jC (jA 1) (jC (qC jE) jE))) rfl)
      u0.h)
  let u2:=ru x0 [2] (jH (vR (jA 0) (qC jE) rfl)
      u1.h)
  let u3:=ru x0 [1] (jH (vR (jA 0) (qC jE) rfl)
      u2.h)
  refine ⟨_,(jH (vR (jA 0) (jA 1) rfl)
      u3.h),?_⟩
  try dsimp only [jX,jW]
  have hT:=bZ S;have r1:R.length<=100:=by have:=S.r8;lia
  have an:L.length<=100:=by have:=S.l8;lia
  have J:IniJ H H b O cO [] 0 []:=⟨hb,ak _,(fun c hc=>by cases hc),nodup_nil,Same.refl _⟩;refine (j3 b cO O (jB rfl (jP hb T.clO T.nO_kept_canal (by show 0<1000;decide) ?_)));obtain ⟨G0,e0,J,k0⟩:=J.set "kept_canal" (.ref x);rw [e0];refine ⟨aH _,fun nl am=>(j3 b cO O (jB rfl (jP ((jL am _) _ _ J.jb) T.clO T.nO_kept_names (cy J.jn (by decide)) ?_)))⟩;obtain ⟨G1,e1,J,k1⟩:=J.step am "kept_names";rw [e1];refine ⟨aH _,fun wl Z=>(j3 b cO O (jB rfl (jP ((jL Z _) _ _ J.jb) T.clO T.nO_kept_ways (cy J.jn (by decide)) ?_)))⟩;obtain ⟨G2,e2,J,k2⟩:=J.step Z "kept_ways";rw [e2];refine (⟨aH _,fun ex a9=>?_⟩);have u1:=jL a9 (.lst []);have be:CnAt (jG cP cB cU) cR cN [] (upd G2 ex (.lst [])) x R L N:=(a5.same J.jd).same ((vY _ _).trans u1);refine kI x ex ([]) ([]) R L N (y6 rfl be jF (aH _) r1 an hT (fun st wt zt Hs gs s4 g1 g2 a6 g3=>?_));have G:StAt Hs st 0 (QL (yJ R L.length) (qK R L.length) gs) (List.replicate 0 0):=⟨wt,zt,g1,g2,g3⟩
  replace J:=J.same (u1.trans s4)
  refine (j3 b cO O (jB rfl (jP J.jb T.clO T.nO_kept_state (cy J.jn (by decide)) ?_)));have a8:=J.jb;obtain ⟨G3,e3,J,k3⟩:=J.set "kept_state" (.ref st);rw [e3]
  replace G:=G.tup fun t l ht=>k3 _ _ (yC ht a8 (fun z=>nomatch z)) ht
  refine ⟨aH _,fun pl V=>(j3 b cO O (jB rfl (jP ((jL V _) _ _ J.jb) T.clO T.nO_kept_pours (cy J.jn (by decide)) ?_)))⟩;obtain ⟨G4,e4,J,k4⟩:=J.step V "kept_pours";rw [e4]
  replace G:=G.tup k4
  refine ⟨aH _,fun ql Y=>(j3 b cO O (jB rfl (jP ((jL Y _) _ _ J.jb) T.clO T.nO_kept_words (cy J.jn (by decide)) ?_)))⟩;obtain ⟨G5,e5,J,k5⟩:=J.step Y "kept_words";rw [e5]
  replace G:=G.tup k5
  refine ⟨aH _,fun el ah=>(j3 b cO O (jB rfl (jP ((jL ah _) _ _ J.jb) T.clO T.nO_kept_entries (cy J.jn (by decide)) ?_)))⟩;obtain ⟨G6,e6,J,k6⟩:=J.step ah "kept_entries";rw [e6]
  replace G:=G.tup k6
  have nd:=J.jnd;simp only [ec,aj,au,bv,not_or,not_false_eq_true,nodup_nil,and_true] at nd;obtain ⟨⟨a1,a2,a3,a4⟩,⟨b1,b2,b3⟩,⟨c1,c2⟩,c3⟩:=nd;have nd:[nl,pl,ql,el].Nodup:=by
    simp only [ec,aj,au,bv,not_or,not_false_eq_true,nodup_nil,and_true];exact ⟨⟨Ne.symm c2,Ne.symm b3,Ne.symm a4⟩,⟨Ne.symm b1,Ne.symm a2⟩,Ne.symm a1⟩
  have d8:Same (kB H [b]) (kB G6 [b,nl,pl,ql,el]):=J.jd.trans (T3 fun a h=>by simp only [aj,au,bv] at h ⊢;rcases h with h|h|h|h|h<;>simp [h]);have I:=fun c hc=>J.jl c hc
  have nT:∀a∈[b,nl,pl,ql,el],∀l,G6 a≠some (.tup l):=fun a h l e=>by
    rcases aj.mp h with rfl|h
    . rw [J.jb] at e;cases e
    . rw [I a (by simp only [aj,au,bv] at h ⊢;rcases h with h|h|h|h<;>simp [h])] at e;cases e
  have ap:kB G6 [b,nl,pl,ql,el] wl=some (.lst []):=by
    rw [vB]
    . exact I wl (by simp)
    . simp only [aj,au,bv,not_or]
      exact jP (yC (I wl (by simp)) J.jb (fun z=>nomatch z)) c3 (Ne.symm c1) (Ne.symm b2) (Ne.symm a3)
  refine q [b,nl,pl,ql,el] ⟨[],[],0,QL (yJ R L.length) (qK R L.length) gs,[],[],st,[],[],[],[],[]⟩ G6 ⟨(yE O nl wl pl ql el (jB rfl (fB J.jb J.jn (VO _ _ _ _ _ _ _) (I nl (by simp)) (I pl (by simp)) (I ql (by simp)) (I el (by simp)) nd ap))),a5.same d8,AllAt.nil,StAt.del nT G,AllAt.nil,PoursH.nil _ _,?_,fun a h=>by
      rcases aj.mp h with rfl|h
      . exact ⟨_,J.jb,fun _ z=>nomatch z⟩
      . exact ⟨_,I a (by simp only [aj,au,bv] at h ⊢;rcases h with h|h|h|h<;>simp [h]),fun _ z=>nomatch z⟩⟩ (dE rfl rfl rfl rfl rfl rfl rfl rfl rfl ⟨gs,⟨a6,rfl⟩⟩) d8
  exact ⟨S,⟨rfl,aH _,(fun y hy=>by cases hy),fun i y p hy=>by cases hy⟩,by show (QL _ _ _).length=_;unfold QL;rw [QA,fO],Int.le_refl _,rfl,aH _,aH _,aH _,aH _,(fun z hz=>by cases hz),fun z hz=>by cases hz⟩
theorem NW:jV 2 ["word","signs"] iT:=jU
include T in
theorem L9 (F:kC K "written_with" iT f fd) : FnOk P w K mg base jT 1 f fd ["word","signs"] (E9):=by
 refine F.ok2 NW fun vs H Q E h=>?_
 obtain ⟨w,S,rfl,hw,q⟩:=h;refine ⟨rfl,fun _ _ _ _ hr=>?_⟩;refine ⟨_,(jN (cH (S5 wZ wZ jD (vK AT (by rfl) T.xq PySem.boot_len (jC (jA 0) jE)) (zI (v:=.int 12) rfl T.uj ⟨_,rfl⟩)) (cG (vK (CW rfl) (by rfl) T.jr PyProof.Rows.boot_all (jC (xJ ["sign","signs"] [1] (yF (kF iT)) (V0 (jA 0)) (fun _ _ _ _ _=>(JB RW (jA 0) (jA 1)))) jE))))),?_⟩
 try dsimp only [jX,jW]
 have Z:w.length<=sizeLine:=small (by lia);refine (⟨w,rfl,Z,_,_,rfl,rfl,jB rfl (?_)⟩);have J:∀H':Hp,Same H H'->QJ S w=false->Q (.bl false) H':=fun H' s e=>by
  have:=q H' s;rw [e] at this;exact this
 by_cases h1:(1:Int)<=((w.length:Nat):Int)
 ·refine kY h1 ⟨_,_,rfl,rfl,jB rfl (?_)⟩
  by_cases h2:((w.length:Nat):Int)<=12
  ·refine kY h2 (⟨w,rfl,fun D hD=>?_⟩);refine SL (z:=w) (caps:=[some (.str S)]) (fun i ys Hi=>∃l:List Bool,ys=l.map V.bl/\l.length=i/\l.all id=gP S w i) hD ⟨[],rfl,rfl,rfl⟩ ?_ ?_
   ·rintro i c ys Hi hc I sm Y ⟨l,rfl,O,G⟩;have hi:i<w.length:=(bo.mp hc).1;refine zK (qA (⟨(⟨#[c]⟩:Str),S,rfl,rfl,?_⟩));refine Q7 hD sm Y I (by lia) (Same.refl _) ⟨l++[xC S c],by rw [aK];rfl,by rw [ag,O];rfl,?_⟩;rw [SR hc,all_append,G];simp
   ·rintro ys Hf sm Y I ⟨l,rfl,O,G⟩;refine ⟨D,l,rfl,so Y,?_⟩;have e:l.all id=QJ S w:=by
     unfold QJ;rw [G,bi (show 0<w.length by lia),bi (show w.length<13 by lia)];rfl
    rw [e];exact q Hf sm
  ·refine kE h2 (J H (Same.refl _) ?_);unfold QJ;rw [aN (show ¬w.length<13 by lia),Bool.and_false];rfl
 ·refine kE h1 (jB rfl (qB (J H (Same.refl _) ?_)));unfold QJ;rw [aN (show ¬0<w.length by lia)];rfl
theorem NC:jV 1 ["word"] pV:=jU
include T in
theorem KZ (F:kC K "is_name" pV f fd) (l:Def P w K mg base 1 "written_with" ["word","signs"] [] (E9)):FnOk P w K mg base jT 2 f fd ["word"] (DJ):=by
 refine F.ok2 NC fun vs H Q E h=>?_
 obtain ⟨w,rfl,I,q⟩:=h;refine ⟨rfl,fun _ _ _ _ G=>?_⟩;refine ⟨_,(jN (jR l G rfl (jC (jA 0) (jC (zI (v:=.str ZE) rfl T.xaI ⟨_,rfl⟩) jE)))),?_⟩
 try dsimp only [jX,jW]
 exact (⟨w,ZE,rfl,I,q⟩)
theorem M5:jV 2 ["name","names"] pO:=jU
include T in
theorem KM (F:kC K "boat_called" pO f fd) : FnOk P w K mg base (kJ P w) 1 f fd ["name","names"] (FF eU):=by
 refine F.okX2 M5 fun vs H Q E h=>?_
 refine bR h fun nm l zs h=>?_
 refine Z0 h fun e_ I O qv Z=>?_
 subst e_;refine ⟨rfl,fun _ _ _ _ hr=>?_⟩;refine ⟨_,(jH (j9 (j6 (N2 K) (jA 0) (jA 1)) (kM (QR QP rfl rfl T.wj T.wk (jC j4 jE))) kA)
   (jN (yY aM PySem.F.slot_list_index PySem.F.type_list_index TF (jA 1) (jC (jA 0) jE)))),?_⟩
 try dsimp only [jX,jW]
 refine (⟨l,jB rfl (jM (.inl (so I)) rfl (tU zs) (jB rfl (?_)))⟩);show if (!zE (V.str nm) (zs.map V.str))=true then _ else _
 cases G:kK zs nm with
 |none =>
  rw [dw.mpr fun h=>absurd (in_iff.mp h) (fun z=>z (tO G))];exact qA ⟨by show 1<=sizeLine;decide,Z G⟩
 |some i =>
  rw [mem_inV.mpr (az (dR G).1)];obtain ⟨J,S,Y⟩:=SA (dR G);exact qB (⟨.inl ⟨rfl,_,so I⟩,(j5 l _ _ i (dE rfl rfl I rfl (tU _) J (by rw [ac] at J;lia) S Y (qv i G)))⟩)
theorem NI:jV 2 ["book","entry"] rA:=jU
include T in
theorem K8 (F:kC K "number_named" rA f fd) (a4:DefX P w K mg base 1 "boat_called" ["name","names"] [] (FF eU)) (xp:MeD P w K mg base 1 cO "names" ["self"] (vE (jG cP cB cU) cR cN cO (yZ fun B=>B.zs.map V.str))) (zo:MeX P w K mg base 2 cN "lock_at" ["self","name"] (ZM (jG cP cB cU) cR cN eU 1)) (xf:MeD P w K mg base 1 cO "canal" ["self"] (ZL (jG cP cB cU) cR cN cO)) (xx:MeX P w K mg base 2 cN "reach_at" ["self","name"] (ZM (jG cP cB cU) cR cN eU 0)):FnOk P w K mg base (kJ P w) 3 f fd ["book","entry"] (qW (jG cP cB cU) cR cN cO (cZ eU)):=by
 refine F.okX2 NI fun vs H Q E h=>?_
 refine zZ h fun b t x A R L N B e h=>?_
 refine ZZ h fun e_ Z G a5 am qv qe=>?_
 subst e_;refine ⟨rfl,fun _ _ _ _ hr=>?_⟩;refine tk fun x0=>?_
 let u0:=ru x0 [1] (jH (j9 (j6 kP (jJ (jO K) (jA 1) jD) j4) (jN (QY zo qR hr (kL xf hr (jA 0)) (jC (jJ (jO K) (jA 1) jD) jE))) kA)
   (jN (QY xx qR hr (kL xf hr (jA 0)) (jC (jJ (jO K) (jA 1) jD) jE))))
 refine ⟨_,(jH (j9 (j6 kP (jJ (jO K) (jA 1) jD) j4) (jN (vH a4 qR hr rfl (jC (jJ (jO K) (jA 1) jD) (jC (kL xp hr (jA 0)) jE)))) kA)
   u0.h),?_⟩
 try dsimp only [jX,jW]
 obtain ⟨db,fs,hb,ah⟩:=Z.ins;have Y:=Z.cnH;have S:=Y;have r8:=Z.ok.dr.r8;have l8:=Z.ok.dr.l8;have z9:=Z.ok.z9;cases e with
 |come e=>cases am
 |night W=>cases am
 |pas n =>
  refine (jK (SqT.of G) rfl (⟨rfl,jB rfl (kY rfl (jK (SqT.of G) rfl (⟨b,db,jB rfl (⟨hb,ah _ (by trivial),kI b x A R L N B (kG rfl Z (fun l J O a6 hl=>?_))⟩)⟩)))⟩));exact j3 n l B.zs (jP rfl hl (by lia) (fun i I=>qv i I J O) (fun I=>qe I J O))
 |lt n =>
  refine (jK (SqT.of G) rfl (⟨rfl,jB rfl (kE (fun e=>absurd (V.str.inj e) (by trivial)) (jK (SqT.of G) rfl (⟨rfl,jB rfl (kY rfl ?_)⟩)))⟩));refine (⟨b,db,jB rfl (⟨hb,ah _ (by trivial),kI b x A R L N B (kG rfl Z (?_))⟩)⟩);obtain ⟨dx,rl,ll,nl,gs,rs,ls,nv,hx,hf,an,a3,ap,hR,hL,hN,d1,d2,d3⟩:=Y;exact ⟨x,dx,jB rfl (⟨hx,hf.no (by trivial) (by trivial) (by trivial),(jK (SqT.of G) rfl (yE x ([]) R L N n (j7 rfl S (c8 r8) (c8 l8) (fun i I J O=>qv i (dS I) J O) (fun I J O=>qe (dW I) J O))))⟩)⟩
 |take n a =>
  refine (jK (SqT.of G) rfl (⟨rfl,jB rfl (kE (fun e=>absurd (V.str.inj e) (by trivial)) (jK (SqT.of G) rfl (⟨rfl,jB rfl (kE (fun e=>absurd (V.str.inj e) (by trivial)) ?_)⟩)))⟩));refine (⟨b,db,jB rfl (⟨hb,ah _ (by trivial),kI b x A R L N B (kG rfl Z (?_))⟩)⟩);obtain ⟨dx,rl,ll,nl,gs,rs,ls,nv,hx,hf,an,a3,ap,hR,hL,hN,d1,d2,d3⟩:=Y;exact ⟨x,dx,jB rfl (⟨hx,hf.no (by trivial) (by trivial) (by trivial),(jK (SqT.of G) rfl (yE x ([]) R L N n (j7 rfl S (c8 r8) (c8 l8) (fun i I J O=>qv i (dS I) J O) (fun I J O=>qe (dW I) J O))))⟩)⟩
 |rain n a =>
  refine (jK (SqT.of G) rfl (⟨rfl,jB rfl (kE (fun e=>absurd (V.str.inj e) (by trivial)) (jK (SqT.of G) rfl (⟨rfl,jB rfl (kE (fun e=>absurd (V.str.inj e) (by trivial)) ?_)⟩)))⟩));refine (⟨b,db,jB rfl (⟨hb,ah _ (by trivial),kI b x A R L N B (kG rfl Z (?_))⟩)⟩);obtain ⟨dx,rl,ll,nl,gs,rs,ls,nv,hx,hf,an,a3,ap,hR,hL,hN,d1,d2,d3⟩:=Y;exact ⟨x,dx,jB rfl (⟨hx,hf.no (by trivial) (by trivial) (by trivial),(jK (SqT.of G) rfl (yE x ([]) R L N n (j7 rfl S (c8 r8) (c8 l8) (fun i I J O=>qv i (dS I) J O) (fun I J O=>qe (dW I) J O))))⟩)⟩
theorem AK:jV 2 ["book","entry","way"] rM:=jU
include T in
theorem LM (F:kC K "refuse_wrong_come" rM f fd) (a5:Def P w K mg base 2 "is_name" ["word"] [] (DJ)) (xp:MeD P w K mg base 1 cO "names" ["self"] (vE (jG cP cB cU) cR cN cO (yZ fun B=>B.zs.map V.str))) (we:DefX P w K mg base 3 "way_told" ["canal","entry"] [] (tX (jG cP cB cU) cR cN eU)) (xf:MeD P w K mg base 1 cO "canal" ["self"] (ZL (jG cP cB cU) cR cN cO)) (a9:DefX P w K mg base 2 "linked" ["canal","start","steps"] [] (uL K (jG cP cB cU) cR cN eL)):FnOk P w K mg base (kJ P w) 4 f fd ["book","entry"] (B8 (jG cP cB cU) cR cN cO eB eT eM eU eL):=by
 refine F.okX2 AK fun vs H Q E h=>?_
 refine zZ h fun b t x A R L N B e h=>?_
 refine z3 h fun e_ Z an a3 qv qe=>?_
 subst e_;obtain ⟨a8,bl,b0⟩:=a3;refine ⟨rfl,fun _ _ _ _ hr=>?_⟩;refine tk fun x0=>?_
 let u0:=ru x0 [4] (kM (vL (vH a9 qR hr rfl (qQ (kL xf hr (jA 0)) (jJ (jO K) (jA 2) jD) (jJ (jO K) (jA 2) jD)))))
 let u1:=ru x0 [3] (jH (jY 2 AK.nd (vH we qR hr rfl (jC (kL xf hr (jA 0)) (jC (jA 1) jE))))
   u0.h)
 let u2:=ru x0 [2] (jH (j9 (j6 w9 (vF K T.xq (kL xp hr (jA 0))) (zI (v:=.int 9) rfl T.uk ⟨_,rfl⟩)) (kM (QR QP rfl rfl T.xaH T.uq (jC j4 jE))) kA)
   u1.h)
 let u3:=ru x0 [1] (jH (j9 (j6 (BL K) (jJ (jO K) (jA 1) jD) (kL xp hr (jA 0))) (kM (QR QP rfl rfl T.xbm T.xaM (jC j4 jE))) kA)
   u2.h)
 refine ⟨_,(jH (j9 (QE (q9 (jR a5 hr rfl (jC (jJ (jO K) (jA 1) jD) jE)))) (kM (QR QP rfl rfl T.jx T.jz (jC j4 jE))) kA)
   u3.h),?_⟩
 try dsimp only [jX,jW]
 obtain ⟨db,fs,hb,ah⟩:=Z.ins;obtain ⟨st,us,h1,h2,h3⟩:=id an;have r8:=Z.ok.dr.r8;have l8:=Z.ok.dr.l8;have O:∀(n:Nat) (H':Hp),Same H H'->vI R L B.zs e=n->n≠0->E (.ref (gO eB eT eM eU eL n)) none H':=fun n H' s h1 h2=>by
  rw [<- h1];exact qe (by rw [h1];exact h2) H' s
 refine (jK (SqT.of h1) rfl (⟨e.name,rfl,a8,fun H1 s1=>(jB rfl (?_))⟩));cases hg:QJ ZE e.name with
 |false =>
  have S:vI R L B.zs e=1:=by unfold vI;rw [if_pos hg]
  exact qA ⟨by show 1<=sizeLine;decide,O 1 H1 s1 S (by decide)⟩
 |true =>
  have I:¬QJ ZE e.name=false:=by rw [hg];decide
  refine qB (jK (SqT.of (s1 _ _ h1)) rfl (⟨b,db,jB rfl (⟨(s1 _ _ hb),ah _ (by trivial),kI b x A R L N B (kG rfl (Z.same s1) (fun l H2 s2 b2 hl=>?_))⟩)⟩));have Y:=s1.trans s2;refine ⟨l,jB rfl (jM (.inl (so hl)) rfl (tU B.zs) (jB rfl (?_)))⟩;show if zE (V.str e.name) (B.zs.map V.str)=true then _ else _
  by_cases hz:e.name∈B.zs
  ·have S:vI R L B.zs e=2:=by unfold vI;rw [if_neg I,if_pos hz]
   rw [mem_inV.mpr hz];exact qA ⟨by show 1<=sizeLine;decide,O 2 H2 Y S (by decide)⟩
  rw [dw.mpr fun h=>hz (mem_inV.mp h)];refine qB (⟨b,db,jB rfl (⟨(Y _ _ hb),ah _ (by trivial),kI b x A R L N B (kG rfl (Z.same Y) (fun l2 H3 s3 be ap=>?_))⟩)⟩);have G:=Y.trans s3;refine ⟨l2,jB rfl (⟨.inl (so ap),_,_,rfl,rfl,jB rfl (?_)⟩)⟩;rw [ac]
  by_cases h9:9<=B.zs.length
  ·have S:vI R L B.zs e=3:=by unfold vI;rw [if_neg I,if_neg hz,if_pos h9]
   exact kY (by lia) ⟨by show 1<=sizeLine;decide,O 3 H3 G S (by decide)⟩
  refine kE (by lia) (⟨b,db,jB rfl (⟨(G _ _ hb),ah _ (by trivial),kI b x A R L N B (kG rfl (Z.same G) (kI x t e ([]) R L N (y6 rfl ((Z.same G).cnH) (c8 r8) (c8 l8) (an.same G) (by lia) (fun y hy w1 H4 s4 bt a4=>?_) (fun hn H4 s4=>?_))))⟩)⟩)
  case refine_2 =>
   have S:vI R L B.zs e=4:=by unfold vI;rw [if_neg I,if_neg hz,if_neg h9,hn]
   exact O 4 H4 (G.trans s4) S (by decide)
  have J:=G.trans s4;obtain ⟨tw,sw,vs,ew,g1,g2,g3⟩:=id a4;cases ew;obtain ⟨a,_,_,_,b3,a7⟩:=tS hy;refine (⟨b,db,jB rfl (⟨(J _ _ hb),ah _ (by trivial),kI b x A R L N B (kG rfl (Z.same J) (jK (SqT.of g1) rfl (jK (SqT.of g1) rfl (vG x sw y.1 vs y.2 ([]) R L N (y6 rfl ((Z.same J).cnH) g2 g3 a7 (by lia) (fun a6 r H5 s5 b1 hr=>?_) (fun am H5 s5=>?_))))))⟩)⟩)
  ·have S:vI R L B.zs e=0:=by unfold vI;rw [if_neg I,if_neg hz,if_neg h9,hy];exact if_pos a6
   exact qv S H5 (J.trans s5)
  ·have S:vI R L B.zs e=5:=by unfold vI;rw [if_neg I,if_neg hz,if_neg h9,hy];exact if_neg am
   exact O 5 H5 (J.trans s5) S (by decide)
theorem sV:jV 2 ["book","weather","canal","day"] rN:=jU
include T in
theorem LN (F:kC K "refuse_wrong_night" rN f fd) (xf:MeD P w K mg base 1 cO "canal" ["self"] (ZL (jG cP cB cU) cR cN cO)) (xh:MeD P w K mg base 1 cO "state" ["self"] (vE (jG cP cB cU) cR cN cO ZJ)) (ap:Def P w K mg base 1 "wet_enough" ["weather","other"] [] (FB)):FnOk P w K mg base (kJ P w) 3 f fd ["book","weather"] (BJ (jG cP cB cU) cR cN cO eN eD):=by
 refine F.okX2 sV fun vs H Q E h=>?_
 obtain ⟨b,wt,x,A,R,L,N,B,us,W,rfl,G,O,hA,ah,q0,q7,q8⟩:=h;refine ⟨rfl,fun _ _ _ _ hr=>?_⟩;refine tk fun x0=>?_
 let u0:=ru x0 [3] (kM (j9 (PW.pt (mH (j6 ZO (jA 3) (vF K T.xq (kN K (jA 2) rfl))) (lY (QE (q9 (jR ap hr rfl (jC (jA 1) (jC (jJ (qD K) (kN K (jA 2) rfl) (jA 3)) jE)))))))) (kM (QR QP rfl rfl T.jy T.xaa (jC j4 jE))) kA))
 let u1:=ru x0 [2] (jH (j9 (j6 JG (vF K T.xq (jA 1)) (vF K T.xq (kN K (jA 2) rfl))) (kM (QR QP rfl rfl T.je T.vz (jC j4 jE))) kA)
   u0.h)
 let u2:=ru x0 [1] (jH (jY 3 sV.nd (jJ (jO K) (kL xh hr (jA 0)) jD))
   u1.h)
 refine ⟨_,(jH (jY 2 sV.nd (kL xf hr (jA 0)))
   u2.h),?_⟩
 try dsimp only [jX,jW]
 obtain ⟨db,fs,hb,am⟩:=G.ins;have an:=G.cnH;obtain ⟨dx,rl,ll,nl,gs,rs,ls,nv,hx,hf,a3,bl,Z,hR,hL,hN,d1,d2,d3⟩:=id an;have a6:=G.stH;obtain ⟨ww,pt,g1,g2,g3⟩:=a6;have r8:=G.ok.dr.r8;have d0:=G.ok.d0;refine (⟨b,db,jB rfl (⟨hb,am _ (by trivial),kI b x A R L N B (kG rfl G (?_))⟩)⟩);refine (⟨b,db,jB rfl (⟨hb,am _ (by trivial),kI b x A R L N B (kG rfl G (jK (SqT.of g1) rfl (?_)))⟩)⟩);refine (⟨wt,jB rfl (⟨.inr (SqT.of O),(kR hx (T.clN) (T.xl) (hf.1) (⟨rl,jB rfl (⟨.inl (so a3),rfl,jB rfl (?_)⟩)⟩))⟩)⟩);have a9:=hA.1;have a8:=hR.1;have l:qI R L N B (.night W)=if W.length=R.length then (if B.d<(N.length:Int)/\gL W (N.getD B.d.toNat [])=false then 8 else 0) else 7:=rfl
 by_cases hw:W.length=R.length
 case neg =>
  rw [if_neg hw] at l;exact bI (fun z=>hw (by have:=V.int.inj z;lia)) ⟨by show 1<=sizeLine;decide,q7 l H (Same.refl _)⟩
 rw [if_pos hw] at l;refine zU (cf V.int (by lia)) ?_;have a7:=hN.1;refine (kR hx (T.clN) (T.zc) (hf.2.2.1) (⟨nl,jB rfl (⟨.inl (so Z),_,_,rfl,rfl,jB rfl (?_)⟩)⟩))
 by_cases hd:B.d<(N.length:Int)
 case neg =>
  rw [if_neg (fun z=>hd z.1)] at l;exact kE (by lia) (q0 l H (Same.refl _))
 obtain ⟨dn,S⟩:∃dn:Nat,B.d=(dn:Int):=⟨B.d.toNat,by lia⟩;obtain ⟨J,I⟩:∃J,N[dn]?=some J:=⟨_,aa (by lia)⟩;obtain ⟨v,hv,wn,qs,rfl,a4,a5,_⟩:=hN.get I;have eW:N.getD B.d.toNat []=J:=by rw [S,bd,af,I];rfl
 rw [eW] at l;have be:=G.ok.dr.night J (az I);refine kY (by lia) (kR hx (T.clN) (T.zc) (hf.2.2.1) (j3 nl _ _ (jB rfl (jM (by rw [S]) (so Z) (qH hv) (yE wt wn us qs W J (y6 rfl O a4 hA a5 (by lia) ah (fun H1 s1=>(jB rfl (?_)))))))));cases Y:gL W J with
 |true =>
  rw [Y,if_neg (fun z=>nomatch z.2)] at l;exact qB (q0 l H1 s1)
 |false =>
  rw [Y,if_pos ⟨hd,rfl⟩] at l;exact qA ⟨by show 1<=sizeLine;decide,q8 l H1 s1⟩
theorem NM:jV 2 ["book","entry"] rL:=jU
include T in
theorem LL (F:kC K "refuse_wrong" rL f fd) (wf:DefX P w K mg base 4 "refuse_wrong_come" ["book","entry"] [] (B8 (jG cP cB cU) cR cN cO eB eT eM eU eL)) (vw:DefX P w K mg base 3 "refuse_wrong_night" ["book","weather"] [] (BJ (jG cP cB cU) cR cN cO eN eD)) (xm:DefX P w K mg base 3 "number_named" ["book","entry"] [] (qW (jG cP cB cU) cR cN cO (cZ eU))):FnOk P w K mg base (kJ P w) 5 f fd ["book","entry"] (qW (jG cP cB cU) cR cN cO (GP eB eT eM eU eL eN eD)):=by
 refine F.okX2 NM fun vs H Q E h=>?_
 refine zZ h fun b t x A R L N B e h=>?_
 refine z3 h fun e_ Y I J qv S=>?_
 subst e_;refine ⟨rfl,fun _ _ _ _ Z=>?_⟩;refine tk fun x0=>?_
 let u0:=ru x0 [0,1,0] (kM (j9 (j6 kP (jJ (jO K) (jA 1) jD) j4) (kM (vL (vH vw qR Z rfl (jC (jA 0) (jC (jJ (jO K) (jA 1) jD) jE))))) (kM (vL (vH xm qR Z rfl (jC (jA 0) (jC (jA 1) jE)))))))
 refine ⟨_,(kM (j9 (j6 kP (jJ (jO K) (jA 1) jD) j4) (kM (vL (vH wf qR Z rfl (jC (jA 0) (jC (jA 1) jE))))) u0.h)),?_⟩
 try dsimp only [jX,jW]
 have ah:ZP e=true->cZ eU R L N B t e H (fun _ H'=>Q .non H') E:=fun h=>by
  have G:qI R L N B e=if ZS R L B.zs e=none then 4 else 0:=by cases e<;>first|rfl|cases h
  refine ⟨h,fun i hi H' s=>qv (by rw [G,if_neg (by rw [hi];simp)]) H' s,fun hi H' s=>?_⟩;rw [if_pos hi] at G;have:=S (by rw [G];decide) H' s;rw [G] at this;exact this
 by_cases l:ZP e=true
 ·obtain ⟨tl,hh⟩:=I.head;obtain ⟨k1,k2⟩:=DT l;exact (jK (SqT.of hh) yO (⟨rfl,jB rfl (kE (fun z=>k1 (V.str.inj z)) (jK (SqT.of hh) yO (⟨rfl,jB rfl (kE (fun z=>k2 (V.str.inj z)) (vG b t x A R L N B e (jP rfl Y I J (ah l))))⟩)))⟩))
 cases e with
 |pas n=>exact absurd rfl l
 |lt n=>exact absurd rfl l
 |take n a=>exact absurd rfl l
 |rain n a=>exact absurd rfl l
 |come e =>
  obtain ⟨st,us,O,h2,h3⟩:=id I;refine (jK (SqT.of O) rfl (⟨rfl,jB rfl (kY rfl (vG b t x A R L N B e (j7 rfl Y I J qv (fun G H' s=>?_))))⟩));have:=S G H' s;have hE:ZX eB eT eM eU eL eN eD (qI R L N B (.come e))=gO eB eT eM eU eL (vI R L B.zs e):=by
   show ZX eB eT eM eU eL eN eD (vI R L B.zs e)=_;have:=T8 R L B.zs e;unfold ZX;rw [if_neg (by lia),if_neg (by lia)]
  rw [hE] at this;exact this
 |night W =>
  obtain ⟨wt,us,O,h2,h3⟩:=id I;refine (jK (SqT.of O) rfl (⟨rfl,jB rfl (kE (fun e=>absurd (V.str.inj e) (by trivial)) (jK (SqT.of O) rfl (⟨rfl,jB rfl (kY rfl (jK (SqT.of O) rfl (eS b wt x A R L N B us W (y6 rfl Y h2 h3 J qv (fun G H' s=>?_) (fun G H' s=>?_)))))⟩)))⟩))
  ·have:=S (by rw [G];decide) H' s;rw [G] at this;exact this
  ·have:=S (by rw [G];decide) H' s;rw [G] at this;exact this
theorem M7:jV 2 ["book","entry"] pQ:=jU
include T in
theorem KP (F:kC K "deed_of" pQ f fd) (xm:DefX P w K mg base 3 "number_named" ["book","entry"] [] (qW (jG cP cB cU) cR cN cO (cZ eU))):FnOk P w K mg base (kJ P w) 4 f fd ["book","entry"] (qW (jG cP cB cU) cR cN cO mX):=by
 refine F.okX2 M7 fun vs H Q E h=>?_
 refine zZ h fun b t x A R L N B e h=>?_
 refine Z0 h fun e_ hq l O Z=>?_
 subst e_;obtain ⟨de,G,q⟩:=Z;refine ⟨rfl,fun _ _ _ _ hr=>?_⟩;refine tk fun x0=>?_
 let u0:=ru x0 [1] (jH (j9 (PW.pt (QI (j6 kP (jJ (jO K) (jA 1) jD) j4) (bG (j6 kP (jJ (jO K) (jA 1) jD) j4)))) (jN (kX (jC (jJ (jO K) (jA 1) jD) (jC (vH xm qR hr rfl (jC (jA 0) (jC (jA 1) jE))) jE)))) kA)
   FH)
 refine ⟨_,(jH (j9 (j6 kP (jJ (jO K) (jA 1) jD) j4) (jN (kX (jC j4 jE))) kA)
   u0.h),?_⟩
 try dsimp only [jX,jW]
 cases e with
 |come e=>cases G
 |take n a=>cases G
 |rain n a=>cases G
 |night W =>
  cases G;obtain ⟨wt,us,h1,h2,h3⟩:=id l;exact (jK (SqT.of h1) rfl (⟨rfl,jB rfl (kY rfl ⟨zz1,fun J I=>q J _ (jL I _) jF⟩)⟩))
 |pas n =>
  obtain ⟨i,S,rfl⟩:=aT.mp G;refine (jK (SqT.of l) rfl (⟨rfl,jB rfl (kE (fun e=>absurd (V.str.inj e) (by trivial)) (jK (SqT.of l) rfl (⟨rfl,jB rfl (kY rfl (jK (SqT.of l) rfl (vG b t x A R L N B (.pas n) (vS rfl hq l O rfl (fun j hj H1 Y=>⟨zz2,fun J I=>?_⟩) (fun hn=>absurd (S.symm.trans hn) (by simp))))))⟩)))⟩));cases S.symm.trans hj;exact q J _ (Y.trans (jL I _)) jF
 |lt n =>
  obtain ⟨i,S,rfl⟩:=aT.mp G;refine (jK (SqT.of l) rfl (⟨rfl,jB rfl (kE (fun e=>absurd (V.str.inj e) (by trivial)) (jK (SqT.of l) rfl (⟨rfl,jB rfl (kE (fun e=>absurd (V.str.inj e) (by trivial)) (jK (SqT.of l) rfl (⟨rfl,jB rfl (kY rfl (jK (SqT.of l) rfl (vG b t x A R L N B (.lt n) (vS rfl hq l O rfl (fun j hj H1 Y=>⟨zz2,fun J I=>?_⟩) (fun hn=>absurd (S.symm.trans hn) (by simp))))))⟩)))⟩)))⟩));cases S.symm.trans hj;exact q J _ (Y.trans (jL I _)) jF
theorem AM:jV 2 ["book","entry","at"] rW:=jU
include T in
theorem LX (F:kC K "takes_too_much" rW f fd) (xm:DefX P w K mg base 3 "number_named" ["book","entry"] [] (qW (jG cP cB cU) cR cN cO (cZ eU))) (xh:MeD P w K mg base 1 cO "state" ["self"] (vE (jG cP cB cU) cR cN cO ZJ)) (xf:MeD P w K mg base 1 cO "canal" ["self"] (ZL (jG cP cB cU) cR cN cO)):FnOk P w K mg base (kJ P w) 4 f fd ["book","entry"] (qW (jG cP cB cU) cR cN cO GC):=by
 refine F.okX2 AM fun vs H Q E h=>?_
 obtain ⟨b,t,x,A,R,L,N,B,e,rfl,G,O,ah,n,a,i,rfl,hi,q⟩:=h;refine ⟨rfl,fun _ _ _ _ I=>?_⟩;refine tk fun x0=>?_
 let u0:=ru x0 [1] (jN (JB ZO (jI yB (jJ (jO K) (jJ (jO K) (kL xh I (jA 0)) jD) (jA 2)) (jJ (jO K) (jA 1) jD)) (kN K (jJ (qD K) (kN K (kL xf I (jA 0)) rfl) (jA 2)) rfl)))
 refine ⟨_,(jH (jY 2 AM.nd (vH xm qR I rfl (jC (jA 0) (jC (jA 1) jE))))
   u0.h),?_⟩
 try dsimp only [jX,jW]
 obtain ⟨db,fs,hb,V⟩:=G.ins;refine (vG b t x A R L N B (.take n a) (vS rfl G O ah rfl (fun j hj H1 l=>?_) (fun hn=>absurd (hi.symm.trans hn) (by simp))));cases hi.symm.trans hj;have Y:=(G.same l).cnH;obtain ⟨dx,rl,ll,nl,gs,rs,ls,nv,hx,hf,Z,ap,an,hR,hL,hN,d1,d2,d3⟩:=id Y;obtain ⟨ww,pt,g1,g2,g3⟩:=(G.same l).stH;have ml:=G.ok.ml;have J:=bA hi;rw [ac] at J;obtain ⟨r,I⟩:∃r,R[i]?=some r:=⟨_,aa J⟩;obtain ⟨z,hz,yr,rfl,dy,hs,am,hg⟩:=hR.get I;have S:=l _ _ O;refine (⟨b,db,jB rfl (⟨(l _ _ hb),V _ (by trivial),kI b x A R L N B (kG rfl (G.same l) (jK (SqT.of g1) rfl (jK (SqT.of g2) (yU (by lia)) (jK (SqT.of S) rfl (qS (?_))))))⟩)⟩);refine (⟨b,db,jB rfl (⟨(l _ _ hb),V _ (by trivial),kI b x A R L N B (kG rfl (G.same l) (kR hx (T.clN) (T.xl) (hf.1) (qM (so Z) (qH hz) (kR am (T.clR) (T.zp) (hg.2.1) (qS (?_))))))⟩)⟩);have q:=q H1 l;rw [I] at q;exact q
theorem AO:jV 2 ["book","entry","start"] rY:=jU
include T in
theorem L4 (F:kC K "why_no_entry" rY f fd) (xx:MeX P w K mg base 2 cN "reach_at" ["self","name"] (ZM (jG cP cB cU) cR cN eU 0)) (xf:MeD P w K mg base 1 cO "canal" ["self"] (ZL (jG cP cB cU) cR cN cO)) (zy:Def P w K mg base 5 "has_no_berth" ["canal","ways","state","reach"] [] (tZ (jG cP cB cU) cR cN)) (xn:MeD P w K mg base 1 cO "ways" ["self"] (vE (jG cP cB cU) cR cN cO (yZ BkS.us))) (xh:MeD P w K mg base 1 cO "state" ["self"] (vE (jG cP cB cU) cR cN cO ZJ)) (ul:DefX P w K mg base 4 "takes_too_much" ["book","entry"] [] (qW (jG cP cB cU) cR cN cO GC)) (ut:Def P w K mg base 8 "why_not" ["canal","ways","state","deed"] [] (wM (jG cP cB cU) cR cN)) (zz:DefX P w K mg base 4 "deed_of" ["book","entry"] [] (qW (jG cP cB cU) cR cN cO mX)):FnOk P w K mg base (kJ P w) 9 f fd ["book","entry"] (qW (jG cP cB cU) cR cN cO GO):=by
 refine F.okX2 AO fun vs H Q E h=>?_
 refine zZ h fun b t x A R L N B e h=>?_
 refine z3 h fun e_ G l an hc q=>?_
 subst e_;refine ⟨rfl,fun _ _ _ _ J=>?_⟩;refine tk fun x0=>?_
 let u0:=ru x0 [0,0,1] (jN (zQ (q9 (jR zy J rfl (yS (kL xf J (jA 0)) (kL xn J (jA 0)) (kL xh J (jA 0)) (jA 2)))) j4 j4))
 let u1:=ru x0 [0,0,0] (jH (jY 2 AO.nd (QY xx qR J (kL xf J (jA 0)) (jC (jJ (jO K) (jA 1) jD) jE)))
   u0.h)
 let u2:=ru x0 [3] (jN (jR ut J rfl (yS (kL xf J (jA 0)) (kL xn J (jA 0)) (kL xh J (jA 0)) (vH zz qR J rfl (jC (jA 0) (jC (jA 1) jE))))))
 let u3:=ru x0 [2] (jH (j9 (j6 kP (jJ (jO K) (jA 1) jD) j4) (jN j4) kA)
   u2.h)
 let u4:=ru x0 [1] (jH (j9 (j6 kP (jJ (jO K) (jA 1) jD) j4) (jN (zQ (q9 (vH ul qR J rfl (jC (jA 0) (jC (jA 1) jE)))) j4 j4)) kA)
   u3.h)
 refine ⟨_,(jH (j9 (j6 kP (jJ (jO K) (jA 1) jD) j4) u1.h kA)
   u4.h),?_⟩
 try dsimp only [jX,jW]
 obtain ⟨Z,fs,hb,O⟩:=G.ins;have r8:=G.ok.dr.r8;have l8:=G.ok.dr.l8
 by_cases I:bH e=true
 ·obtain ⟨tl,hh⟩:=l.head;obtain ⟨k1,k2,k3⟩:=t7 I;obtain ⟨de,a9,a8,a5,_⟩:=wJ G.ok.zl I hc;rw [a5] at q;refine (jK (SqT.of hh) yO (⟨rfl,jB rfl (kE (fun z=>k1 (V.str.inj z)) (jK (SqT.of hh) yO (⟨rfl,jB rfl (kE (fun z=>k2 (V.str.inj z)) (jK (SqT.of hh) yO (⟨rfl,jB rfl (kE (fun z=>k3 (V.str.inj z)) ?_)⟩)))⟩)))⟩));refine (⟨b,Z,jB rfl (⟨hb,O _ (by trivial),kI b x A R L N B (kG rfl G (⟨b,Z,jB rfl (⟨hb,O _ (by trivial),kI b x A R L N B (kG rfl G (fun wl H2 s2 a3 ah=>?_))⟩)⟩))⟩)⟩);refine (⟨b,Z,jB rfl (⟨(s2 _ _ hb),O _ (by trivial),kI b x A R L N B (kG rfl (G.same s2) (vG b t x A R L N B e (jP rfl (G.same s2) (l.same s2) an ⟨de,a9,fun dd H3 s3 I=>?_⟩)))⟩)⟩);have ap:=s2.trans s3;exact gN x wl B.st dd de B.us B.ys B.d B.ms B.pl ([]) R L N (jP rfl ((G.same ap).stage (s3 _ _ ah)) I a8 (fun H4 s4=>q H4 (ap.trans s4)))
 cases e with
 |pas n=>exact absurd rfl I
 |lt n=>exact absurd rfl I
 |night W=>exact absurd rfl I
 |come e =>
  obtain ⟨b2,eZ,h1,h2,h3⟩:=id l;obtain ⟨y,hy,bt,be,h9⟩:=uU (show vI R L B.zs e=0 from hc);obtain ⟨a,ha,a4,a7,b1,b4⟩:=tS hy;obtain ⟨r,J⟩:∃r,R[a]?=some r:=⟨_,aa a7⟩;have am:=G.cnH;refine (jK (SqT.of h1) rfl (⟨rfl,jB rfl (kY rfl (⟨b,Z,jB rfl (⟨hb,O _ (by trivial),kI b x A R L N B (kG rfl G (?_))⟩)⟩))⟩));obtain ⟨dx,rl,ll,nl,gs,rs,ls,nv,hx,hf,bl,b0,b3,hR,hL,hN,d1,d2,d3⟩:=id am;refine ⟨x,dx,jB rfl (⟨hx,hf.no (by trivial) (by trivial) (by trivial),(jK (SqT.of h1) rfl (yE x ([]) R L N e.start (j7 rfl am (c8 r8) (c8 l8) (fun i Y H1 s1=>?_) (fun hn=>absurd (dW (show QV (R.map (·.name)) e.start from hn)) (by rw [a4];simp)))))⟩)⟩;have Y:kK (R.map (·.name)) e.start=some i:=dS Y;rw [a4] at Y;cases Y;refine (⟨b,Z,jB rfl (⟨(s1 _ _ hb),O _ (by trivial),kI b x A R L N B (kG rfl (G.same s1) (⟨b,Z,jB rfl (⟨(s1 _ _ hb),O _ (by trivial),kI b x A R L N B (kG rfl (G.same s1) (fun wl H2 s2 a3 ah=>?_))⟩)⟩))⟩)⟩);have S:=s1.trans s2;refine (⟨b,Z,jB rfl (⟨(S _ _ hb),O _ (by trivial),kI b x A R L N B (kG rfl (G.same S) (gN x wl B.st a r B.us B.ys B.d B.ms B.pl ([]) R L N (jM rfl ((G.same S).stage ah) J (fun H3 s3=>(jB rfl (?_))))))⟩)⟩);have a6:mP R L B e=decide (r.berths<=(((zA L B.ys B.pl).countP fun z=>decide (z=(a:Int)):Nat):Int)):=by
   unfold mP;rw [hy];show decide (((R[y.1.toNat]?).map (·.berths)).getD 0<=_)=_;rw [ha,bd,J];rfl
  have q:=q H3 (S.trans s3);have q:Q (.str (if mP R L B e=true then "berth" else "")) H3:=q;rw [a6] at q;cases hd:decide (r.berths<=(((zA L B.ys B.pl).countP fun z=>decide (z=(a:Int)):Nat):Int)) with
  |true=>rw [hd] at q;exact qA q
  |false=>rw [hd] at q;exact qB q
 |take n a =>
  obtain ⟨i,Y⟩:=bC (e:=.take n a) rfl hc;have Y:kK (R.map (·.name)) n=some i:=Y;refine (jK (SqT.of l) rfl (⟨rfl,jB rfl (kE (fun e=>absurd (V.str.inj e) (by trivial)) (jK (SqT.of l) rfl (⟨rfl,jB rfl (kY rfl (vG b t x A R L N B (.take n a) (jP rfl G l an (j3 n a i (kG rfl Y (fun H1 s1=>(jB rfl (?_))))))))⟩)))⟩));have q:=q H1 s1;have q:Q (.str (match kK (R.map (·.name)) n with|some i=>if B.ms.getD i 0 - a<((R[i]?).map (·.least)).getD 0 then "water" else ""|none=>"")) H1:=q;rw [Y] at q
  by_cases hw:B.ms.getD i 0 - a<((R[i]?).map (·.least)).getD 0
  ·rw [bi hw];have q:Q (.str (if B.ms.getD i 0 - a<((R[i]?).map (·.least)).getD 0 then "water" else "")) H1:=q;rw [if_pos hw] at q;exact qA q
  ·rw [aN hw];have q:Q (.str (if B.ms.getD i 0 - a<((R[i]?).map (·.least)).getD 0 then "water" else "")) H1:=q;rw [if_neg hw] at q;exact qB q
 |rain n a =>
  exact (jK (SqT.of l) rfl (⟨rfl,jB rfl (kE (fun e=>absurd (V.str.inj e) (by trivial)) (jK (SqT.of l) rfl (⟨rfl,jB rfl (kE (fun e=>absurd (V.str.inj e) (by trivial)) (jK (SqT.of l) rfl (⟨rfl,jB rfl (kY rfl (q H (Same.refl _)))⟩)))⟩)))⟩))
theorem NO:jV 3 ["source","target","amount"] rQ:=jU
include T in
theorem LQ (F:kC K "single_pour" rQ f fd) : FnOk P w K mg base jT 1 f fd ["source","target","amount"] (DD):=by
 refine F.ok2 NO fun vs H Q E h=>?_
 refine dA h fun s t m a h=>?_
 refine bS h fun O S J q=>?_
 subst O;refine ⟨rfl,fun _ _ _ _ l=>?_⟩;refine ⟨_,(jN (zQ (j6 kP (jA 2) jD) (qC jE) (qC (jC (kX (qQ (jA 0) (jA 1) (jA 2))) jE)))),?_⟩
 try dsimp only [jX,jW]
 refine ⟨rfl,jB rfl (?_)⟩
 by_cases h:a=0
 ·exact kY (cf V.int h) ⟨aH _,fun r l=>q r [] _ (jL l _) l jF (by rw [h];exact PoursH.nil _ _) (aH _)⟩
 refine kE (fun z=>h (V.int.inj z)) (⟨zz3,fun p Y=>⟨zz1,fun r l=>?_⟩⟩);have G:=jL Y (.tup [V.int (s:Int),V.int (t:Int),V.int a]);have I:=jL l (.lst [V.ref p]);exact q r [.ref p] _ (G.trans I) (G.free l) jF (by unfold ZG;rw [if_neg h];exact (PoursH.nil _ _).snoc (I _ _ jF) S J) (ak _)
theorem sP:jV 2 ["book","entry","canal","fallen"] pR:=jU
include T in
theorem KQ (F:kC K "entry_pours" pR f fd) (xf:MeD P w K mg base 1 cO "canal" ["self"] (ZL (jG cP cB cU) cR cN cO)) (wx:Def P w K mg base 1 "single_pour" ["source","target","amount"] [] (DD)) (xm:DefX P w K mg base 3 "number_named" ["book","entry"] [] (qW (jG cP cB cU) cR cN cO (cZ eU))) (zf:MeD P w K mg base 2 cN "sky" ["self"] (ZR (jG cP cB cU) cR cN bO)) (zg:Def P w K mg base 4 "with_spills" ["weirs","waters","pours"] [] (lW K)) (xu:MeD P w K mg base 2 cN "weirs" ["self"] (fS (jG cP cB cU) cR cN)) (xh:MeD P w K mg base 1 cO "state" ["self"] (vE (jG cP cB cU) cR cN cO ZJ)) (b9:Def P w K mg base 5 "night_pours" ["canal","state","weather"] [] (DH K (jG cP cB cU) cR cN)) (b2:DefX P w K mg base 9 "pours" ["canal","ways","state","deed"] [] (DF (jG cP cB cU) cR cN eW)) (xn:MeD P w K mg base 1 cO "ways" ["self"] (vE (jG cP cB cU) cR cN cO (yZ BkS.us))) (zz:DefX P w K mg base 4 "deed_of" ["book","entry"] [] (qW (jG cP cB cU) cR cN cO mX)):FnOk P w K mg base (kJ P w) 10 f fd ["book","entry"] (qW (jG cP cB cU) cR cN cO wR):=by
 refine F.okX2 sP fun vs H Q E h=>?_
 refine zZ h fun b t x A R L N B e h=>?_
 refine ZZ h fun e_ J G ap hc hw q=>?_
 subst e_;refine ⟨rfl,fun _ _ _ _ l=>?_⟩;refine tk fun x0=>?_
 let u0:=ru x0 [2,0,0] (jN (jR wx l rfl (qQ (vH xm qR l rfl (jC (jA 0) (jC (jA 1) jE))) (kL zf l (jA 2)) (jJ (jO K) (jA 1) jD))))
 let u1:=ru x0 [3,0,1] (jN (jR zg l rfl (qQ (kL xu l (jA 2)) (jJ (jO K) (kL xh l (jA 0)) jD) (jA 3))))
 let u2:=ru x0 [3,0,0] (jH (jY 3 sP.nd (jR wx l rfl (qQ (kL zf l (jA 2)) (vH xm qR l rfl (jC (jA 0) (jC (jA 1) jE))) (jJ (jO K) (jA 1) jD))))
   u1.h)
 let u3:=ru x0 [5] (jN (vH b2 qR l rfl (yS (jA 2) (kL xn l (jA 0)) (kL xh l (jA 0)) (vH zz qR l rfl (jC (jA 0) (jC (jA 1) jE))))))
 let u4:=ru x0 [4] (jH (j9 (j6 kP (jJ (jO K) (jA 1) jD) j4) (jN (jR b9 l rfl (qQ (jA 2) (kL xh l (jA 0)) (jJ (jO K) (jA 1) jD)))) kA)
   u3.h)
 let u5:=ru x0 [3] (jH (j9 (j6 kP (jJ (jO K) (jA 1) jD) j4) u2.h kA)
   u4.h)
 let u6:=ru x0 [2] (jH (j9 (j6 kP (jJ (jO K) (jA 1) jD) j4) u0.h kA)
   u5.h)
 let u7:=ru x0 [1] (jH (j9 (j6 kP (jJ (jO K) (jA 1) jD) j4) (jN (qC jE)) kA)
   u6.h)
 refine ⟨_,(jH (jY 2 sP.nd (kL xf l (jA 0)))
   u7.h),?_⟩
 try dsimp only [jX,jW]
 obtain ⟨db,fs,hb,am⟩:=J.ins;have ah:=J.cnH;have dr:=J.ok.dr;have r8:=dr.r8;have l8:=dr.l8;have ml:=J.ok.ml;have a7:=bZ dr;obtain ⟨ww,pt,g1,g2,g3⟩:=J.stH;obtain ⟨dx,rl,ll,nl,gs,rs,ls,nv,hx,hf,cj,cn,cv,hR,hL,hN,d1,d2,d3⟩:=id ah;have be:bO R.length L.length=((R.length+2*L.length+1:Nat):Int):=by unfold bO;lia
 refine (⟨b,db,jB rfl (⟨hb,am _ (by trivial),kI b x A R L N B (kG rfl J (?_))⟩)⟩)
 by_cases I:bH e=true/\ZP e=true
 ·have a6:=I;obtain ⟨tl,hh⟩:=G.head;obtain ⟨k1,k2,k3⟩:=t7 I.1;obtain ⟨_,k4⟩:=DT I.2;obtain ⟨de,a9,b3,bl,b1⟩:=wJ J.ok.zl I.1 hc;obtain ⟨b0,h4⟩:=b1 I.2;rw [bl] at hw;refine (jK (SqT.of hh) yO (⟨rfl,jB rfl (kE (fun z=>k1 (V.str.inj z)) (jK (SqT.of hh) yO (⟨rfl,jB rfl (kE (fun z=>k2 (V.str.inj z)) (jK (SqT.of hh) yO (⟨rfl,jB rfl (kE (fun z=>k3 (V.str.inj z)) (jK (SqT.of hh) yO (⟨rfl,jB rfl (kE (fun z=>k4 (V.str.inj z)) ?_)⟩)))⟩)))⟩)))⟩));refine (⟨b,db,jB rfl (⟨hb,am _ (by trivial),kI b x A R L N B (kG rfl J (fun wl H2 s2 ce b4=>?_))⟩)⟩);refine (⟨b,db,jB rfl (⟨(s2 _ _ hb),am _ (by trivial),kI b x A R L N B (kG rfl (J.same s2) (vG b t x A R L N B e (jP rfl (J.same s2) (G.same s2) ap ⟨de,a9,fun dd H3 s3 I=>?_⟩)))⟩)⟩);have a3:=s2.trans s3;refine gN x wl B.st dd de B.us B.ys B.d B.ms B.pl ([]) R L N (y6 rfl ((J.same a3).stage (s3 _ _ b4)) I b3 J.ok.d0 b0 (fun _ r H4 O zs s4 Y l hP hS=>?_) (fun h=>absurd hw h));refine q r zs _ H4 (a3.trans s4) (a3.free Y) l hP ?_ (RU a6.1 a6.2 a9 hS);rw [hP.1];unfold mD;rw [ag];have h1:=@uH R L.length fun a=>O.getD a 0
  lia
 cases e with
 |pas n=>exact absurd ⟨rfl,rfl⟩ I
 |lt n=>exact absurd ⟨rfl,rfl⟩ I
 |come e =>
  obtain ⟨co,eZ,h1,h2,h3⟩:=id G;exact (jK (SqT.of h1) rfl (⟨rfl,jB rfl (kY rfl ⟨aH _,fun r l=>q r [] [] _ (jL l _) l jF (PoursH.nil _ _) (aH _) (.inl ⟨rfl,rfl⟩)⟩)⟩))
 |take n a =>
  obtain ⟨i,hi⟩:=bC (e:=.take n a) rfl hc;have an:=bA (show kK (R.map (·.name)) n=some i from hi);rw [ac] at an;refine (jK (SqT.of G) rfl (⟨rfl,jB rfl (kE (fun e=>absurd (V.str.inj e) (by trivial)) (jK (SqT.of G) rfl (⟨rfl,jB rfl (kY rfl (vG b t x A R L N B (.take n a) (vS rfl J G ap rfl (fun j hj H1 s1=>?_) (fun hn=>absurd (hi.symm.trans hn) (by simp)))))⟩)))⟩));cases hi.symm.trans hj;have Z:=s1 _ _ G;refine (⟨x,dx,jB rfl (⟨(s1 _ _ hx),hf.no (by trivial) (by trivial) (by trivial),kS x ([]) R L N (kG rfl (ah.same s1) (?_))⟩)⟩);rw [be];exact (jK (SqT.of Z) rfl (j5 i (R.length+2*L.length+1) B.ms.length a (jM rfl (by lia) (by lia) (fun r zs H2 s2 Y l hP hl=>q r zs _ H2 (s1.trans s2) (s1.free Y) l hP (by lia) (.inl ⟨rfl,S7 hi⟩)))))
 |rain n a =>
  obtain ⟨i,hi⟩:=bC (e:=.rain n a) rfl hc;have an:=bA (show kK (R.map (·.name)) n=some i from hi);rw [ac] at an;refine (jK (SqT.of G) rfl (⟨rfl,jB rfl (kE (fun e=>absurd (V.str.inj e) (by trivial)) (jK (SqT.of G) rfl (⟨rfl,jB rfl (kE (fun e=>absurd (V.str.inj e) (by trivial)) (jK (SqT.of G) rfl (⟨rfl,jB rfl (kY rfl ?_)⟩)))⟩)))⟩));refine (⟨x,dx,jB rfl (⟨hx,hf.no (by trivial) (by trivial) (by trivial),kS x ([]) R L N (kG rfl ah (?_))⟩)⟩);rw [be];refine (vG b t x A R L N B (.rain n a) (vS rfl J G ap rfl (fun j hj H1 s1=>?_) (fun hn=>absurd (hi.symm.trans hn) (by simp))));cases hi.symm.trans hj;have Z:=s1 _ _ G;refine (jK (SqT.of Z) rfl (⟨R.length+2*L.length+1,j3 i B.ms.length a (jM rfl (by lia) (by lia) (fun fl zs H2 s2 Y l hP hl=>?_))⟩));have a4:=s1.trans s2;refine (⟨x,dx,jB rfl (⟨(a4 _ _ hx),hf.no (by trivial) (by trivial) (by trivial),kS x ([]) R L N (jM rfl (ah.same a4) (by lia) (fun wq ws H3 s3 cd bt hW=>?_))⟩)⟩);have S:=a4.trans s3;refine (⟨b,db,jB rfl (⟨(S _ _ hb),am _ (by trivial),kI b x A R L N B (kG rfl (J.same S) (jK (SqT.of (S _ _ g1)) rfl (Z4 wq ww fl ws zs (qK R L.length) B.ms (ZG (R.length+2*L.length+1) i a) (j7 rfl (i5 a7 hW bt (.inr (SqT.of (S _ _ g2))) ml (by lia) (by lia)) (s3 _ _ l) (hP.same s3) (by lia) (fun r H4 O b8 s4 a8 ca a5 hS=>?_)))))⟩)⟩);refine q r b8 _ H4 (S.trans s4) (S.free a8) ca a5 ?_ (.inr ⟨rfl,O,by rw [DN hi];exact hS,by rw [DN hi];rfl⟩);rw [a5.1,ag,<- hP.1];have:=@uH R L.length fun a=>O.getD a 0
  lia
 |night W =>
  obtain ⟨wt,us,h1,h2,h3⟩:=id G;have b7:=TC hc;refine (jK (SqT.of h1) rfl (⟨rfl,jB rfl (kE (fun e=>absurd (V.str.inj e) (by trivial)) (jK (SqT.of h1) rfl (⟨rfl,jB rfl (kE (fun e=>absurd (V.str.inj e) (by trivial)) (jK (SqT.of h1) rfl (⟨rfl,jB rfl (kE (fun e=>absurd (V.str.inj e) (by trivial)) (jK (SqT.of h1) rfl (⟨rfl,jB rfl (kY rfl ?_)⟩)))⟩)))⟩)))⟩));refine (⟨b,db,jB rfl (⟨hb,am _ (by trivial),kI b x A R L N B (kG rfl J (jK (SqT.of h1) rfl (X8 x B.st wt _ B.ms _ us W ([]) R L N (GS rfl ah J.stH.toI h2 h3 b7 ml (by lia) (by lia) a7 (fun r H2 O zs s2 Y l hP hS=>?_)))))⟩)⟩);refine q r zs _ H2 s2 Y l hP ?_ (.inr ⟨rfl,O,hS,rfl⟩);rw [hP.1];unfold DP;rw [ag];have h1:=@uH R L.length fun a=>O.getD a 0
  have h2:=br vA (QG (R.length+2*L.length+1) B.ms W R.length);rw [PM] at h2
  lia
theorem sR:jV 2 ["full","way","made_ready"] rF:=jU
include T in
theorem LG (F:kC K "passing" rF f fd) : FnOk P w K mg base jT 1 f fd ["full","way"] (DG):=by
 refine F.ok2 sR fun vs H Q E h=>?_
 obtain ⟨f,S,rfl,q⟩:=h;refine ⟨rfl,fun _ _ _ _ I=>?_⟩;refine tk fun Y=>?_
 let u0:=ru Y [0,0,0] (jH (jY 2 sR.nd (zQ (q9 (jA 0)) (qC (jC j4 jE)) (qC jE)))
   (jN (jI QF (jA 2) (vP (zN K) (by rfl) T.xt aL (jC (zI (v:=.ref aU) rfl T.xcp rfl) jE)))))
 let Z:=ru Y [1] (jH (jY 2 sR.nd (zQ (q9 (jA 0)) (qC jE) (qC (jC j4 jE))))
   (jN (jI QF (jA 2) (vP (zN K) (by rfl) T.xt aL (jC (zI (v:=.ref aD) rfl T.xbv rfl) jE)))))
 refine ⟨_,(jH (j9 (j6 kP (jA 1) j4) u0.h kA)
   Z.h),?_⟩
 try dsimp only [jX,jW]
 cases S with
 |true =>
  refine ⟨rfl,jB rfl (kY rfl ?_)⟩;cases f with
  |true =>
   refine (jB rfl (qA ?_));refine ⟨(by show _<=sizeLine;decide),fun m G=>?_⟩;have J:=jL G (.lst ((["let"]:List Str).map V.str));refine (⟨aU,jB rfl (⟨.inr (T.up _),fun c O=>?_⟩)⟩);have l:=jL O (.lst (upT.map V.str));refine j5 m c _ _ (j7 rfl rfl (l _ _ jF) jF (by show _<=sizeLine;decide) (fun r I=>?_));exact q r _ ((J.trans l).trans (jL I _)) ((J.trans l).free I) jF
  |false =>
   refine (jB rfl (qB ?_));refine ⟨(by show _<=sizeLine;decide),fun m G=>?_⟩;have J:=jL G (.lst (([]:List Str).map V.str));refine (⟨aU,jB rfl (⟨.inr (T.up _),fun c O=>?_⟩)⟩);have l:=jL O (.lst (upT.map V.str));refine j5 m c _ _ (j7 rfl rfl (l _ _ jF) jF (by show _<=sizeLine;decide) (fun r I=>?_));exact q r _ ((J.trans l).trans (jL I _)) ((J.trans l).free I) jF
 |false =>
  refine ⟨rfl,jB rfl (kE (fun e=>absurd (V.str.inj e) (by trivial)) ?_)⟩;cases f with
  |true =>
   refine (jB rfl (qA ?_));refine ⟨(by show _<=sizeLine;decide),fun m G=>?_⟩;have J:=jL G (.lst (([]:List Str).map V.str));refine (⟨aD,jB rfl (⟨.inr (T.down _),fun c O=>?_⟩)⟩);have l:=jL O (.lst (downT.map V.str));refine j5 m c _ _ (j7 rfl rfl (l _ _ jF) jF (by show _<=sizeLine;decide) (fun r I=>?_));exact q r _ ((J.trans l).trans (jL I _)) ((J.trans l).free I) jF
  |false =>
   refine (jB rfl (qB ?_));refine ⟨(by show _<=sizeLine;decide),fun m G=>?_⟩;have J:=jL G (.lst ((["fill"]:List Str).map V.str));refine (⟨aD,jB rfl (⟨.inr (T.down _),fun c O=>?_⟩)⟩);have l:=jL O (.lst (downT.map V.str));refine j5 m c _ _ (j7 rfl rfl (l _ _ jF) jF (by show _<=sizeLine;decide) (fun r I=>?_));exact q r _ ((J.trans l).trans (jL I _)) ((J.trans l).free I) jF
theorem AJ:jV 4 ["canal","ways","state","boat","step"] rD:=jU
include T in
theorem LE (F:kC K "pass_worked" rD f fd) (wb:Def P w K mg base 1 "next_step" ["way","place"] [] (wO)) (a8:Def P w K mg base 1 "passing" ["full","way"] [] (DG)) (zh:MeD P w K mg base 2 cN "full" ["self","waters","k"] (lX (jG cP cB cU) cR cN)):FnOk P w K mg base jT 3 f fd ["canal","ways","state","boat"] (C9 (jG cP cB cU) cR cN):=by
 refine F.ok2 AJ fun vs H Q E h=>?_
 obtain ⟨x,wl,st,b,us,ys,y,p,G,d,ms,pl,D,R,L,N,rfl,hG,hy,be,hs,q⟩:=h;refine ⟨rfl,fun _ _ _ _ hr=>?_⟩;refine tk fun x0=>?_
 let u0:=ru x0 [1] (jN (kX (jC (kN K (jJ (qD K) (kN K (jA 0) rfl) (jJ (jO K) (jA 4) jD)) rfl) (jC (jR a8 hr rfl (jC (bP zh hr (jA 0) (jC (jJ (jO K) (jA 2) jD) (jC (jJ (jO K) (jA 4) jD) jE))) (jC (jJ (jO K) (jA 4) jD) jE))) jE))))
 refine ⟨_,(jH (jY 4 AJ.nd (jR wb hr rfl (jC (jJ (qD K) (jA 1) (jA 3)) (jC (jJ (jO K) (jJ (jO K) (jA 2) jD) (jA 3)) jE))))
   u0.h),?_⟩
 try dsimp only [jX,jW]
 obtain ⟨hc,b8,a5,hA,b1,bl,b4⟩:=id hG;obtain ⟨wt,pt,I,a3,a6⟩:=id b1;have bt:=hc;obtain ⟨dx,rl,ll,nl,fs,rs,ls,nv,hx,hf,b3,b0,b7,hR,hL,hN,d1,d2,d3⟩:=hc;obtain ⟨v,hv,S⟩:=hA.get hy;obtain ⟨O,ap,am,rfl,g1,g2,g3⟩:=id S;have a9:G.1<L.length:=(bl.ok y (az hy)).lt G (az hs);obtain ⟨l,Z⟩:∃l,L[G.1]?=some l:=⟨_,aa a9⟩;obtain ⟨vl,an,yl,rfl,dl,hl⟩:=hL.get Z;refine (qM (so a5) (qH hv) (jK (SqT.of I) rfl (jK (SqT.of a6) (qH (v:=.int (p:Int)) (by rw [ar,be];rfl)) (j5 O y p G (jM rfl S hs (fun b2 a4=>?_))))));obtain ⟨ts,rfl,J⟩:=a4;refine (kR hx (T.clN) (T.xw) (hf.2.1) (jK (SqT.of J) rfl (qM (so b0) (qH an) (kR hl (T.cl l.kd) (T.xaK l.kd) (wG l.kd _ _ _ _ _) (?_)))));refine (⟨x,dx,jB rfl (⟨hx,hf.no (by trivial) (by trivial) (by trivial),(jK (SqT.of I) rfl (jK (SqT.of J) rfl (Z4 x wt D R L N ms G.1 (jP rfl bt a3 (by lia) (jK (SqT.of J) rfl (⟨QK R.length ms G.1,G.2,rfl,fun lw H1 s1 ah a7=>⟨zz2,fun tt Y=>?_⟩⟩))))))⟩)⟩);have u:=jL Y (.tup [V.str l.name,V.ref lw]);exact q tt lw l _ Z (s1.trans u) (s1.free Y) ah jF (u _ _ a7)
theorem NR:jV 2 ["book","entry"] rX:=jU
include T in
theorem LZ (F:kC K "ways_behind" rX f fd) (xn:MeD P w K mg base 1 cO "ways" ["self"] (vE (jG cP cB cU) cR cN cO (yZ BkS.us))) (we:DefX P w K mg base 3 "way_told" ["canal","entry"] [] (tX (jG cP cB cU) cR cN eU)) (xf:MeD P w K mg base 1 cO "canal" ["self"] (ZL (jG cP cB cU) cR cN cO)):FnOk P w K mg base (kJ P w) 4 f fd ["book","entry"] (qW (jG cP cB cU) cR cN cO FO):=by
 refine F.okX2 NR fun vs H Q E h=>?_
 refine zZ h fun b t x A R L N B e h=>?_
 refine z3 h fun e_ G J ap hc q=>?_
 subst e_;refine ⟨rfl,fun _ _ _ _ hr=>?_⟩;refine tk fun x0=>?_
 let u0:=ru x0 [0,0,0] (jN (jI QF (kL xn hr (jA 0)) (qC (jC (vH we qR hr rfl (jC (kL xf hr (jA 0)) (jC (jA 1) jE))) jE))))
 refine ⟨_,(jH (j9 (j6 kP (jJ (jO K) (jA 1) jD) j4) u0.h kA)
   (jN (kL xn hr (jA 0)))),?_⟩
 try dsimp only [jX,jW]
 obtain ⟨db,fs,hb,O⟩:=G.ins;have r8:=G.ok.dr.r8;have l8:=G.ok.dr.l8;have z9:=G.ok.z9;have zl:=G.ok.zl
 rcases uA e with hk|⟨e,rfl⟩
 ·obtain ⟨tl,hh⟩:=J.head;refine (jK (SqT.of hh) yO (⟨rfl,jB rfl (kE (fun z=>hk (V.str.inj z)) (⟨b,db,jB rfl (⟨hb,O _ (by trivial),kI b x A R L N B (kG rfl G (fun l H1 I a3 hl=>q l _ H1 I a3 hl ?_))⟩)⟩))⟩));have he:QH R L B e=B.ys:=by cases e<;>first|rfl|exact absurd rfl hk
  rw [he];exact (G.same I).wyH
 obtain ⟨a5,eZ,h1,h2,h3⟩:=id J;obtain ⟨y,hy,a9,a8,h9⟩:=uU (show vI R L B.zs e=0 from hc);have be:=ap.2.1;have ah:QH R L B (.come e)=B.ys++[y]:=by show B.ys++(zX R L e).toList=_;rw [hy];rfl
 refine (jK (SqT.of h1) rfl (⟨rfl,jB rfl (kY rfl (⟨b,db,jB rfl (⟨hb,O _ (by trivial),kI b x A R L N B (kG rfl G (fun wl H1 I a4 an=>?_))⟩)⟩))⟩));have hA:=(G.same I).wyH;refine (⟨b,db,jB rfl (⟨(I _ _ hb),O _ (by trivial),kI b x A R L N B (kG rfl (G.same I) (kI x t e ([]) R L N (y6 rfl ((G.same I).cnH) (c8 r8) (c8 l8) (CoAt.same I J) (by lia) (fun y' S w1 H2 Z a7 am=>?_) (fun hn=>absurd hn (by rw [hy];simp)))))⟩)⟩);rw [hy] at S;cases S;refine ⟨zz1,fun l2 Y=>?_⟩;have u:=jL Y (.lst [V.ref w1]);have a6:=hA.1;refine j5 wl l2 _ _ (j7 rfl rfl (u _ _ (Z _ _ an)) jF (QB (by rw [ax];lia)) (fun p hp=>?_));have v:=jL hp (.lst (B.us++[V.ref w1]));have w2:=(Z.trans u).trans v;refine q p _ _ ((I.trans Z).trans (u.trans v)) (((I.trans Z).trans u).free hp) jF ?_;rw [ah];exact (hA.mono (WyAt.same w2)).snoc (WyAt.same (u.trans v) _ _ am)
theorem tD:jV 2 ["book","entry","state","waters"] rS:=jU
include T in
theorem LU (F:kC K "state_behind" rS f fd) (xh:MeD P w K mg base 1 cO "state" ["self"] (vE (jG cP cB cU) cR cN cO ZJ)) (za:Def P w K mg base 1 "poured_all" ["waters","pours"] [] (gJ K)) (vb:DefX P w K mg base 10 "entry_pours" ["book","entry"] [] (qW (jG cP cB cU) cR cN cO wR)) (a5:Def P w K mg base 2 "counted_on" ["state","deed","waters"] [] (CC)) (zz:DefX P w K mg base 4 "deed_of" ["book","entry"] [] (qW (jG cP cB cU) cR cN cO mX)):FnOk P w K mg base (kJ P w) 11 f fd ["book","entry"] (qW (jG cP cB cU) cR cN cO EO):=by
 refine F.okX2 tD fun vs H Q E h=>?_
 refine zZ h fun b t x A R L N B e h=>?_
 refine ZZ h fun e_ S I an hc hw q=>?_
 subst e_;refine ⟨rfl,fun _ _ _ _ hr=>?_⟩;refine tk fun x0=>?_
 let u0:=ru x0 [2,0,0] (jN (kX (qQ (jJ (jO K) (jA 2) jD) (jA 3) (jI S9 (jJ (jO K) (jA 2) jD) (kX (jC jD jE))))))
 let u1:=ru x0 [3] (jH (j9 (PW.pt (QI (j6 kP (jJ (jO K) (jA 1) jD) j4) (bG (j6 kP (jJ (jO K) (jA 1) jD) j4)))) (jN (kX (qQ (jJ (jO K) (jA 2) jD) (jA 3) (jJ (jO K) (jA 2) jD)))) kA)
   (jN (jR a5 hr rfl (qQ (jA 2) (vH zz qR hr rfl (jC (jA 0) (jC (jA 1) jE))) (jA 3)))))
 let u2:=ru x0 [2] (jH (j9 (j6 kP (jJ (jO K) (jA 1) jD) j4) u0.h kA)
   u1.h)
 let u3:=ru x0 [1] (jH (jY 3 tD.nd (jR za hr rfl (jC (jJ (jO K) (jA 2) jD) (jC (vH vb qR hr rfl (jC (jA 0) (jC (jA 1) jE))) jE))))
   u2.h)
 refine ⟨_,(jH (jY 2 tD.nd (kL xh hr (jA 0)))
   u3.h),?_⟩
 try dsimp only [jX,jW]
 obtain ⟨db,fs,hb,a8⟩:=S.ins;obtain ⟨wt,pt,g1,g2,g3⟩:=S.stH;have ml:=S.ok.ml;have r8:=S.ok.dr.r8;have l8:=S.ok.dr.l8;have hpl:=S.ok.fl.len;have be:=S.ok.fl.n10;refine (⟨b,db,jB rfl (⟨hb,a8 _ (by trivial),kI b x A R L N B (kG rfl S (?_))⟩)⟩);refine (jK (SqT.of g1) rfl (vG b t x A R L N B e (vS rfl S I an hc hw (fun l zs qs H1 s1 bt hl hP bl ah=>?_))));refine kS wt l B.ms zs qs (j7 rfl (.inr (SqT.of (s1 _ _ g2))) (so hl) hP.pa (by lia) (fun r H2 s2 b1 hr=>?_));have G:=s1.trans s2;obtain ⟨tl,hh⟩:=(EnAt.same G I).head;have O:=G _ _ g1
 by_cases J:bH e=true
 ·obtain ⟨k1,k2,k3⟩:=t7 J;obtain ⟨de,a3,_⟩:=wJ S.ok.zl J hc;refine (jK (SqT.of hh) yO (⟨rfl,jB rfl (kE (fun z=>k1 (V.str.inj z)) (jK (SqT.of hh) yO (⟨rfl,jB rfl (kE (fun z=>k2 (V.str.inj z)) (jK (SqT.of hh) yO (⟨rfl,jB rfl (kE (fun z=>k3 (V.str.inj z)) ?_)⟩)))⟩)))⟩));refine (vG b t x A R L N B e (jP rfl (S.same G) (I.same G) an ⟨de,a3,fun dd H3 s3 J=>?_⟩));have a4:=G.trans s3;refine (Z4 B.st dd r de B.d B.ms _ B.pl (j7 rfl ((S.same a4).stH) J (s3 _ _ hr) (by lia) (fun st H4 s4 a9 a6=>?_)));have e1:=WN (e:=e) ‹_› a3;rw [e1.1,e1.2] at q;exact q st qs H4 (a4.trans s4) a6 ah
 have tr:(e=e/\JA R L B e=B.pl/\ZY B e=B.d)->(3<=sizeLine/\∀Z,H2 Z=none->Q (.ref Z) (upd H2 Z (.tup [.int B.d,.ref r,.ref pt]))):=fun ⟨_,p1,p2⟩=>⟨by decide,fun Z am=>by
  have v:=jL am (.tup [V.int B.d,V.ref r,V.ref pt]);rw [p1,p2] at q;exact q Z qs _ (G.trans v) ⟨r,pt,jF,v _ _ hr,v _ _ (G _ _ g3)⟩ ah⟩
 cases e with
 |pas n=>exact absurd rfl J
 |lt n=>exact absurd rfl J
 |night W=>exact absurd rfl J
 |take n a=>exact (jK (SqT.of (G _ _ I)) rfl (⟨rfl,jB rfl (kE (fun e=>absurd (V.str.inj e) (by trivial)) (jK (SqT.of (G _ _ I)) rfl (⟨rfl,jB rfl (kY rfl (jK (SqT.of O) rfl (jK (SqT.of O) rfl (tr ⟨rfl,rfl,rfl⟩))))⟩)))⟩))
 |rain n a=>exact (jK (SqT.of (G _ _ I)) rfl (⟨rfl,jB rfl (kE (fun e=>absurd (V.str.inj e) (by trivial)) (jK (SqT.of (G _ _ I)) rfl (⟨rfl,jB rfl (kE (fun e=>absurd (V.str.inj e) (by trivial)) (jK (SqT.of (G _ _ I)) rfl (⟨rfl,jB rfl (kY rfl (jK (SqT.of O) rfl (jK (SqT.of O) rfl (tr ⟨rfl,rfl,rfl⟩))))⟩)))⟩)))⟩))
 |come e =>
  obtain ⟨b0,eZ,h1,h2,h3⟩:=id I;refine (jK (SqT.of (G _ _ h1)) rfl (⟨rfl,jB rfl (kY rfl ?_)⟩));refine (jK (SqT.of O) rfl (jK (SqT.of O) rfl (⟨zz1,fun p hp=>?_⟩)));have u:=jL hp (.tup [V.int 0]);have ap:∀(Y:Addr) (H3:Hp),Same (upd H2 p (.tup [V.int 0])) H3->H3 Y=some (.tup ((B.pl++[0]).map fun (p:Nat)=>V.int (p:Int)))->(3<=sizeLine/\∀Z,H3 Z=none->Q (.ref Z) (upd H3 Z (.tup [.int B.d,.ref r,.ref Y]))):=fun Y H3 s3 h=>⟨by decide,fun Z am=>by
   have v:=jL am (.tup [V.int B.d,V.ref r,V.ref Y]);exact q Z qs _ ((G.trans u).trans (s3.trans v)) ⟨r,Y,jF,v _ _ (s3 _ _ (u _ _ hr)),v _ _ h⟩ ah⟩
  refine j5 pt p _ _ (y6 rfl rfl (SqT.of (u _ _ (G _ _ g3))) (SqT.of jF) (by simp) (QB (by rw [ac];show B.pl.length+1<=1000;lia)) (fun hn=>?_) (fun hn p2 a7=>?_))
  ·have h0:B.pl=[]:=map_eq_nil_iff.mp hn;exact ap p _ (Same.refl _) (by rw [h0];exact jF)
  ·have v:=jL a7 (.tup ((B.pl.map fun (p:Nat)=>V.int (p:Int))++[V.int 0]));exact ap p2 _ v (by rw [jF,aK];rfl)
theorem NV:jV 2 ["book","entry"] sF:=jU
include T in
theorem L8 (F:kC K "words_worked" sF f fd) (a5:Def P w K mg base 3 "pass_worked" ["canal","ways","state","boat"] [] (C9 (jG cP cB cU) cR cN)) (xf:MeD P w K mg base 1 cO "canal" ["self"] (ZL (jG cP cB cU) cR cN cO)) (xn:MeD P w K mg base 1 cO "ways" ["self"] (vE (jG cP cB cU) cR cN cO (yZ BkS.us))) (xh:MeD P w K mg base 1 cO "state" ["self"] (vE (jG cP cB cU) cR cN cO ZJ)) (xm:DefX P w K mg base 3 "number_named" ["book","entry"] [] (qW (jG cP cB cU) cR cN cO (cZ eU))):FnOk P w K mg base (kJ P w) 4 f fd ["book","entry"] (qW (jG cP cB cU) cR cN cO GB):=by
 refine F.okX2 NV fun vs H Q E h=>?_
 refine zZ h fun b t x A R L N B e h=>?_
 refine ZZ h fun e_ hq Y a7 hc hw q=>?_
 subst e_;refine ⟨rfl,fun _ _ _ _ hr=>?_⟩;refine tk fun x0=>?_
 let u0:=ru x0 [1,0,0] (jN (qC (jC (jR a5 hr rfl (yS (kL xf hr (jA 0)) (kL xn hr (jA 0)) (kL xh hr (jA 0)) (vH xm qR hr rfl (jC (jA 0) (jC (jA 1) jE))))) jE)))
 let u1:=ru x0 [1] (jH (j9 (j6 kP (jJ (jO K) (jA 1) jD) j4) u0.h kA)
   (jN (qC jE)))
 refine ⟨_,(jH (j9 (j6 kP (jJ (jO K) (jA 1) jD) j4) (jN (qC (jC (kX (jC (jJ (jO K) (jA 1) jD) (jC (qC (jC j4 jE)) jE))) jE))) kA)
   u1.h),?_⟩
 try dsimp only [jX,jW]
 obtain ⟨db,fs,hb,am⟩:=hq.ins
 rcases R5 e with hk|⟨n,rfl⟩|⟨n,rfl⟩
 ·obtain ⟨tl,hh⟩:=Y.head;exact (jK (SqT.of hh) yO (⟨rfl,jB rfl (kE (fun z=>hk.1 (V.str.inj z)) (jK (SqT.of hh) yO (⟨rfl,jB rfl (kE (fun z=>hk.2 (V.str.inj z)) ⟨aH _,fun l J=>q l [] _ (jL J _) J jF (by rw [O3 hk];exact AllAt.nil) (aH _)⟩)⟩)))⟩))
 ·have h1:=id Y;obtain ⟨i,hi⟩:=bC (e:=.pas n) rfl hc;have hi:kK B.zs n=some i:=hi;have bt:=bA hi;have zl:=hq.ok.zl;have fl:=hq.ok.fl;have a6:cW R L B.ys B.ms B.pl i="":=by
   have e1:vV R L N B (.pas n)=match yA R L B.zs (.pas n) with|some de=>Q4 R L N.length B.ys B.d B.ms B.pl de|none=>"":=rfl
   rw [e1,(show yA R L B.zs (.pas n)=some (.pass i) from by show (kK B.zs n).map Deed.pass=_;rw [hi];rfl)] at hw;exact hw
  obtain ⟨y,hy⟩:∃y,B.ys[i]?=some y:=⟨_,aa (by lia)⟩;obtain ⟨p,hp⟩:∃p,B.pl[i]?=some p:=⟨_,aa (by rw [fl.len];lia)⟩;have be:=fl.le i y p hy hp;have a8:=uG a6;rw [show B.ys.getD i (0,[])=y by rw [af,hy];rfl,show B.pl.getD i 0=p by rw [af,hp];rfl] at a8;obtain ⟨I,hs⟩:∃s,y.2[p]?=some s:=⟨_,aa (by lia)⟩;refine (jK (SqT.of h1) rfl (⟨rfl,jB rfl (kE (fun e=>absurd (V.str.inj e) (by trivial)) (jK (SqT.of h1) rfl (⟨rfl,jB rfl (kY rfl (⟨b,db,jB rfl (⟨hb,am _ (by trivial),kI b x A R L N B (kG rfl hq (⟨b,db,jB rfl (⟨hb,am _ (by trivial),kI b x A R L N B (kG rfl hq (fun wl H2 s2 bl a4=>?_))⟩)⟩))⟩)⟩))⟩)))⟩));refine (⟨b,db,jB rfl (⟨(s2 _ _ hb),am _ (by trivial),kI b x A R L N B (kG rfl (hq.same s2) (vG b t x A R L N B (.pas n) (vS rfl (hq.same s2) (EnAt.same s2 Y) a7 rfl (fun j hj H3 s3=>?_) (fun hn=>absurd (hi.symm.trans hn) (by simp)))))⟩)⟩);cases hi.symm.trans hj;have O:=s2.trans s3;refine xK x wl B.st i B.us B.ys y p I B.d B.ms B.pl ([]) R L N (j7 rfl ((hq.same O).stage (s3 _ _ a4)) hy hp hs (fun Z lw lc H4 a9 s4 an ap S G=>⟨zz1,fun l J=>?_⟩));have v:=jL J (.lst [V.ref Z]);have a3:=O.trans s4;exact q l [.ref Z] _ (a3.trans v) (a3.free J) jF (by rw [RG hi hy hp hs a9];exact AllAt.nil.snoc (v:=.ref Z) (x:=(lc.name,cT (QK R.length B.ms I.1) I.2)) ⟨Z,lw,(j7 rfl (O.free an) (O.free ap) (qE G J) (v _ _ S) (v _ _ G))⟩) (ak _)
 ·have h1:=id Y;refine (jK (SqT.of h1) rfl (⟨rfl,jB rfl (kY rfl (jK (SqT.of h1) rfl (⟨zz1,fun lw G=>⟨zz2,fun Z S=>⟨zz1,fun l J=>?_⟩⟩⟩)))⟩));have u1:=jL G (.lst [V.str "let"]);have u2:=jL S (.tup [V.str n,V.ref lw]);have u3:=jL J (.lst [V.ref Z]);have ah:=u2 _ _ (jF (H:=H) (a:=lw) (o:=.lst [V.str "let"]));exact q l [.ref Z] _ ((u1.trans u2).trans u3) ((u1.trans u2).free J) jF (AllAt.nil.snoc (v:=.ref Z) (x:=(n,[("let":Str)])) ⟨Z,lw,(j7 rfl (u1.free S) G (qE ah J) (u3 _ _ jF) (u3 _ _ ah))⟩) (ak _)
theorem MF:jV 2 ["self","entry"] oM:=jU
include T in
theorem HV (F:Fun K "fault" "Book.fault" oM f fd) (Z:DefX P w K mg base 5 "refuse_wrong" ["book","entry"] [] (qW (jG cP cB cU) cR cN cO (GP eB eT eM eU eL eN eD))) (V:DefX P w K mg base 9 "why_no_entry" ["book","entry"] [] (qW (jG cP cB cU) cR cN cO GO)):FnOk P w K mg base (kJ P w) 10 f fd ["self","entry"] (qW (jG cP cB cU) cR cN cO (mM eB eT eM eU eL eN eD)):=by
 refine F.okX2 MF fun vs H Q E h=>?_
 refine zZ h fun b t x A R L N B e h=>?_
 refine z3 h fun e_ O l G qv qe=>?_
 subst e_;refine ⟨rfl,fun _ _ _ _ S=>?_⟩;refine ⟨_,(jH (vL (vH Z qR S rfl (jC (jA 0) (jC (jA 1) jE))))
   (jN (vH V qR S rfl (jC (jA 0) (jC (jA 1) jE))))),?_⟩
 try dsimp only [jX,jW]
 refine (vG b t x A R L N B e (j7 rfl O l G (fun J H1 I=>?_) qe));exact (vG b t x A R L N B e (j7 rfl (O.same I) (l.same I) G J (fun H2 Y=>qv J H2 (I.trans Y))))
theorem AD:jV 2 ["self","entry","word"] oH:=jU
include T in
theorem HQ (F:Fun K "behind" "Book.behind" oH f fd) (ve:MeX P w K mg base 10 cO "fault" ["self","entry"] (qW (jG cP cB cU) cR cN cO (mM eB eT eM eU eL eN eD))) (jh:DefX P w K mg base 11 "state_behind" ["book","entry"] [] (qW (jG cP cB cU) cR cN cO EO)) (an:DefX P w K mg base 4 "ways_behind" ["book","entry"] [] (qW (jG cP cB cU) cR cN cO FO)):FnOk P w K mg base (kJ P w) 12 f fd ["self","entry"] (qW (jG cP cB cU) cR cN cO (wC eB eT eM eU eL eN eD eW)):=by
 refine F.okX2 AD fun vs H Q E h=>?_
 refine zZ h fun b t x A R L N B e h=>?_
 refine ZZ h fun e_ hq O J qv qn qe=>?_
 subst e_;refine ⟨rfl,fun _ _ _ _ hr=>?_⟩;refine tk fun x0=>?_
 let u0:=ru x0 [1] (jH (j9 (j6 JG (jA 2) j4) (kM (QR QP rfl rfl T.uh T.ui (jC (jA 2) jE))) kA)
   (jN (kX (jC (vH an qR hr rfl (jC (jA 0) (jC (jA 1) jE))) (jC (vH jh qR hr rfl (jC (jA 0) (jC (jA 1) jE))) jE)))))
 refine ⟨_,(jH (jY 2 AD.nd (QY ve qR hr (jA 0) (jC (jA 1) jE)))
   u0.h),?_⟩
 try dsimp only [jX,jW]
 obtain ⟨db,fs,hb,ap⟩:=hq.ins;refine (⟨b,db,jB rfl (⟨hb,ap _ (by trivial),(vG b t x A R L N B e (j7 rfl hq O J (fun Z H1 S=>?_) qe))⟩)⟩)
 by_cases Y:vV R L N B e=""
 case neg=>exact ⟨rfl,jB rfl (bI (fun z=>Y (V.str.inj z)) (⟨by show 1<=sizeLine;decide,qn Z Y H1 S⟩))⟩
 refine ⟨rfl,jB rfl (zU (cf V.str Y) ?_)⟩;refine (vG b t x A R L N B e (j7 rfl (hq.same S) (O.same S) J Z (fun l us H2 s2 ah hl hA=>?_)));have G:=S.trans s2;refine (vG b t x A R L N B e (vS rfl (hq.same G) (O.same G) J Z Y (fun st qs H3 s3 a3 am=>?_)));refine ⟨zz2,fun p hp=>?_⟩;have u:=jL hp (.tup [V.ref l,V.ref st]);have I:=s3.trans u;exact qv Z Y p l st us qs _ (G.trans I) jF (S.free ah) (I _ _ hl) (hA.mono (WyAt.same I)) (a3.same u) am
theorem iU:jV 2 ["self","entry","come_to","poured","worked"] oJ:=jU
include T in
theorem HS (F:Fun K "do" "Book.do" oJ f fd) (dp:MeX P w K mg base 12 cO "behind" ["self","entry"] (qW (jG cP cB cU) cR cN cO (wC eB eT eM eU eL eN eD eW))) (vb:DefX P w K mg base 10 "entry_pours" ["book","entry"] [] (qW (jG cP cB cU) cR cN cO wR)) (ji:DefX P w K mg base 4 "words_worked" ["book","entry"] [] (qW (jG cP cB cU) cR cN cO GB)):FnOk P w K mg base (kJ P w) 13 f fd ["self","entry"] (nG (jG cP cB cU) cR cN cO eB eT eM eU eL eN eD eW):=by
 refine F.okX2 iU fun vs H Q E h=>?_
 refine zZ h fun b t x A R L N B e h=>?_
 refine ZZ h fun e_ O a8 a5 qv qn qe=>?_
 subst e_;refine ⟨rfl,fun _ _ _ _ hr=>?_⟩;refine tk fun x0=>?_
 let u0:=ru x0 [7] (jH (vL (yY aM PySem.F.slot_list_extend PySem.F.type_list_extend CI (kN K (jA 0) rfl) (jC (jA 4) jE)))
   (kM (vL (yY aM aR aS zP (kN K (jA 0) rfl) (jC (jA 1) jE)))))
 let u1:=ru x0 [6] (jH (vL (yY aM PySem.F.slot_list_extend PySem.F.type_list_extend CI (kN K (jA 0) rfl) (jC (jA 3) jE)))
   u0.h)
 let u2:=ru x0 [5] (jH (vR (jA 0) (jJ (jO K) (jA 2) jD) rfl)
   u1.h)
 let u3:=ru x0 [4] (jH (vR (jA 0) (jJ (jO K) (jA 2) jD) rfl)
   u2.h)
 let u4:=ru x0 [3] (ZH (j9 (j6 kP (jJ (jO K) (jA 1) jD) j4) (kM (vL (yY aM aR aS zP (kN K (jA 0) rfl) (jC (jJ (jO K) (jA 1) jD) jE)))) kA)
   u3.h)
 let u5:=ru x0 [2] (jH (jY 4 iU.nd (vH ji qR hr rfl (jC (jA 0) (jC (jA 1) jE))))
   u4.h)
 let u6:=ru x0 [1] (jH (jY 3 iU.nd (vH vb qR hr rfl (jC (jA 0) (jC (jA 1) jE))))
   u5.h)
 refine ⟨_,(jH (jY 2 iU.nd (QY dp qR hr (jA 0) (jC (jA 1) jE)))
   u6.h),?_⟩
 try dsimp only [jX,jW]
 obtain ⟨Y,fs,hb,d3⟩:=O.ins;obtain ⟨dl,nl,wl,pl,ql,el,d2,hA,cd,ed,hf,a9,ce,c1,c9,c5,dy⟩:=O.ob;obtain ⟨rfl,rfl⟩:Y=dl/\fs=d2:=by rw [hb] at cd;cases cd;exact ⟨rfl,rfl⟩
 clear cd dy;have z9:=O.ok.z9;have o1:=O.ok.pn;have o2:=O.ok.qn;refine (⟨b,Y,jB rfl (⟨hb,d3 _ (by trivial),(vG b t x A R L N B e (vS rfl O a8 a5 (fun hc hw p l st us eb H1 s1 hp dt hl b3 co dx=>?_) qn qe))⟩)⟩);obtain ⟨dj,qv⟩:=qv hc hw;refine (vG b t x A R L N B e (vS rfl (O.same s1) (a8.same s1) a5 hc hw (fun l1 J ap H2 s2 be b4 hP d7 bt=>?_)));obtain rfl:=PourE.unique O.ok.dr dx bt;have S:=s1.trans s2;refine (vG b t x A R L N B e (vS rfl (O.same S) (a8.same S) a5 hc hw (fun l2 vs H3 s3 an dV hW ee=>?_)));have I:=S.trans s3;have a7:=s2.trans s3
 replace b4:=s3 _ _ b4
 replace hp:=a7 _ _ hp
 replace hl:=a7 _ _ hl
 replace b3:=b3.mono (WyAt.same a7)
 replace co:=co.same a7
 replace hP:=hP.same s3
 have cj:=I _ _ hb;have am:=I _ _ a9;have c2:=I _ _ ce;have c6:=I _ _ c1;have c7:=I _ _ c9;have a3:∀(a c:Addr) (o:HO) (G:Hp),H a=some o->Same H G->G c=none->c≠a:=fun a c o G h s hc=>(qE (s _ _ h) hc).symm
 have nn:=c5;simp only [ec,aj,au,bv,not_or,not_false_eq_true,nodup_nil,and_true] at nn;obtain ⟨⟨cC,cv,b2⟩,⟨b1,ca⟩,b8⟩:=nn;have b7:nl≠b:=yC a9 hb (fun z=>nomatch z);have a4:pl≠b:=yC ce hb (fun z=>nomatch z);have a6:ql≠b:=yC c1 hb (fun z=>nomatch z);have b9:el≠b:=yC c9 hb (fun z=>nomatch z);have np:p≠nl:=yC hp am (fun z=>nomatch z);have dK:p≠b:=yC hp cj (fun z=>nomatch z);refine ⟨fun σ Hj=>σ=[some (.ref b),some (.ref t),some (.ref p),some (.ref l1),some (.ref l2)]/\Hj nl=some (.lst ((JY B e).map V.str))/\∀a,a≠nl->Hj a=H3 a,?_,?_⟩
 ·have bl:=EnAt.same I a8
  rcases uA e with hk|⟨e,rfl⟩
  ·obtain ⟨tl,hh⟩:=bl.head;have he:JY B e=B.zs:=by cases e<;>first|rfl|exact absurd rfl hk
   exact (jK (SqT.of hh) yO (⟨rfl,jB rfl (kE (fun z=>hk (V.str.inj z)) ⟨rfl,by rw [he];exact am,fun _ _=>rfl⟩)⟩))
  obtain ⟨ea,eZ,h1,h2,h3⟩:=id bl;refine (jK (SqT.of h1) rfl (⟨rfl,jB rfl (kY rfl (kR cj (T.clO) (T.nO_kept_names) (hf.2.1) (⟨.inl ⟨rfl,_,so am⟩,(jK (SqT.of h1) rfl (j3 nl _ _ (vS rfl rfl am (qX (by rw [ac];lia)) rfl ?_ (fun a ha=>jQ ha))))⟩)))⟩));rw [jF];show some (HO.lst _)=some (HO.lst ((B.zs++[e.name]).map V.str));rw [aK];rfl
 rintro σ H4 ⟨rfl,c4,g4⟩;refine (jK (SqT.of (show H4 p=_ by rw [g4 p np];exact hp)) rfl (j5 b cO Y fs (j7 rfl (by rw [g4 b b7.symm];exact cj) T.clO T.nO_kept_ways (by lia) (?_))));refine (jK (SqT.of (show upd H4 b _ p=_ by rw [jQ dK,g4 p np];exact hp)) rfl (j5 b cO Y (jS "kept_ways" (.ref l) fs) (j7 rfl jF T.clO T.nO_kept_state (by have:=zO "kept_ways" (.ref l) fs;lia) ?_)));have F:=(hf.put2 (.ref l)).put3 (.ref st);have Z:upd (upd H4 b (.ins cO Y (jS "kept_ways" (.ref l) fs))) b (.ins cO Y (jS "kept_state" (.ref st) (jS "kept_ways" (.ref l) fs))) b=some (.ins cO Y (jS "kept_state" (.ref st) (jS "kept_ways" (.ref l) fs))):=jF;have g6:∀a,a≠nl->a≠b->upd (upd H4 b (.ins cO Y (jS "kept_ways" (.ref l) fs))) b (.ins cO Y (jS "kept_state" (.ref st) (jS "kept_ways" (.ref l) fs))) a=H3 a:=fun a h1 h2=>by rw [jQ h2,jQ h2,g4 a h1]
 have n6:upd (upd H4 b (.ins cO Y (jS "kept_ways" (.ref l) fs))) b (.ins cO Y (jS "kept_state" (.ref st) (jS "kept_ways" (.ref l) fs))) nl=some (.lst ((JY B e).map V.str)):=by rw [jQ b7,jQ b7];exact c4
 generalize upd (upd H4 b (.ins cO Y (jS "kept_ways" (.ref l) fs))) b (.ins cO Y (jS "kept_state" (.ref st) (jS "kept_ways" (.ref l) fs)))=H6 at Z g6 n6 ⊢;have lf:(jS "kept_state" (.ref st) (jS "kept_ways" (.ref l) fs)).length<=7+2*(B.es.length+1):=by
  have h1:=zO "kept_ways" (.ref l) fs;have h2:=zO "kept_state" (.ref st) (jS "kept_ways" (.ref l) fs)
  lia
 generalize jS "kept_state" (.ref st) (jS "kept_ways" (.ref l) fs)=cz at Z F lf;have p6:H6 pl=some (.lst B.ps):=by rw [g6 pl (Ne.symm cC) a4];exact c2
 have dU:H6 l1=some (.lst J):=by rw [g6 l1 (a3 _ _ _ _ a9 s1 be) (a3 _ _ _ _ hb s1 be)];exact b4
 refine (kR Z (T.clO) (T.nO_kept_pours) (F.2.2.2.2.1) (⟨.inl ⟨rfl,_,so p6⟩,(j5 pl l1 B.ps J (j7 rfl rfl p6 dU (OJ (by lia)) ?_))⟩));have q7:upd H6 pl (.lst (B.ps++J)) ql=some (.lst B.qs):=by rw [jQ (Ne.symm b1),g6 ql (Ne.symm cv) a6];exact c6
 have dT:upd H6 pl (.lst (B.ps++J)) l2=some (.lst vs):=by rw [jQ (a3 _ _ _ _ ce S an),g6 l2 (a3 _ _ _ _ a9 S an) (a3 _ _ _ _ hb S an)];exact dV
 refine (kR (by rw [jQ (Ne.symm a4)];exact Z) (T.clO) (T.nO_kept_words) (F.2.2.2.2.2.1) (⟨.inl ⟨rfl,_,so q7⟩,(j5 ql l2 B.qs vs (j7 rfl rfl q7 dT (QB (by lia)) ?_))⟩));have e8:upd (upd H6 pl (.lst (B.ps++J))) ql (.lst (B.qs++vs)) el=some (.lst B.es):=by rw [jQ (Ne.symm b8),jQ (Ne.symm ca),g6 el (Ne.symm b2) b9];exact c7
 refine (kR (by rw [jQ (Ne.symm a6),jQ (Ne.symm a4)];exact Z) (T.clO) (T.nO_kept_entries) (F.2.2.2.2.2.2.1) (⟨.inl ⟨rfl,_,so e8⟩,(j3 el _ _ (jP rfl rfl e8 (qX (by lia)) ?_))⟩));have b0:∀a,a∉A.take 5->a≠b/\a≠nl/\a≠pl/\a≠ql/\a≠el:=fun a h=>by
  rw [hA] at h;simp only [aj,au,bv,not_or] at h;exact h
 have c0:=fun a (h:a∉A)=>b0 a fun z=>h (gu z)
 have ah:kB (upd (upd (upd H6 pl (.lst (B.ps++J))) ql (.lst (B.qs++vs))) el (.lst (B.es++[.ref t]))) A=kB H3 A:=mC fun a ha=>by
  obtain ⟨m1,m2,m3,m4,m5⟩:=c0 a ha;rw [jQ m5,jQ m4,jQ m3,g6 a m2 m1]
 have c3:=O.tr;have nT:∀a∈A,∀l',H3 a≠some (.tup l'):=fun a h l' e=>by
  obtain ⟨o,ho,hn⟩:=c3 a h;rw [I _ _ ho] at e;exact hn l' (ay e)
 have nF:∀(a:Addr) (G:Hp),Same H G->G a=none->a∉A:=fun a G s h z=>by
  obtain ⟨o,ho,_⟩:=c3 a z;rw [s _ _ ho] at h;cases h
 obtain ⟨d5,dD,d1⟩:=TR O.ok a5 hc hw;have df:∀a o,a∉A.take 5->H a=some o->(upd (upd (upd H6 pl (.lst (B.ps++J))) ql (.lst (B.qs++vs))) el (.lst (B.es++[.ref t]))) a=some o:=fun a o na ha=>by
  obtain ⟨m1,m2,m3,m4,m5⟩:=b0 a na;rw [jQ m5,jQ m4,jQ m3,g6 a m2 m1];exact I _ _ ha
 have dn:∀a∈A,∃o,(upd (upd (upd H6 pl (.lst (B.ps++J))) ql (.lst (B.qs++vs))) el (.lst (B.es++[.ref t]))) a=some o/\∀l,o≠.tup l:=fun a ha=>by
  by_cases h5:a∈A.take 5
  ·rw [hA] at h5;simp only [aj,au,bv] at h5
   rcases h5 with z|z|z|z|z<;>rw [z]
   ·exact ⟨.ins cO Y cz,by rw [jQ (Ne.symm b9),jQ (Ne.symm a6),jQ (Ne.symm a4)];exact Z,fun _ z=>nomatch z⟩
   ·exact ⟨.lst ((JY B e).map V.str),by rw [jQ b2,jQ cv,jQ cC];exact n6,fun _ z=>nomatch z⟩
   ·exact ⟨.lst (B.ps++J),by rw [jQ ca,jQ b1];exact jF,fun _ z=>nomatch z⟩
   ·exact ⟨.lst (B.qs++vs),by rw [jQ b8];exact jF,fun _ z=>nomatch z⟩
   ·exact ⟨_,jF,fun _ z=>nomatch z⟩
  ·obtain ⟨o,ho,hn⟩:=O.tr a ha;exact ⟨o,df a o h5 ho,hn⟩
 refine qv ⟨JY B e,QH R L B e,ZY B e,k7 B.ms ap,JA R L B e,us,st,B.ps++J,B.pd++ap,B.qs++vs,B.qd++bF R L B e,B.es++[.ref t]⟩ _ ⟨(kI Y nl l pl ql el cz (dE hA ?_ ?_ F ?_ ?_ ?_ jF c5 ?_)),?_,?_,?_,?_,?_,?_,dn⟩ ⟨rfl,rfl,rfl,rfl,⟨ap,bt,rfl,rfl⟩,rfl,rfl⟩ ?_ df
 ·rw [jQ (Ne.symm b9),jQ (Ne.symm a6),jQ (Ne.symm a4)];exact Z
 ·show cz.length<=7+2*(B.es++[V.ref t]).length;rw [ag];exact lf
 ·rw [jQ b2,jQ cv,jQ cC];exact n6
 ·rw [jQ ca,jQ b1];exact jF
 ·rw [jQ b8];exact jF
 ·rw [ah,vB (nF l H (Same.refl _) dt)];exact hl
 ·rw [ah];exact O.cn.same (y7 I)
 ·rw [ah];exact b3.mono (WyAt.del nT)
 ·rw [ah];exact StAt.del nT co
 ·rw [ah];refine (O.wd.mono (WdAt.same (y7 I))).app (hW.mono fun v d ⟨t',l',e1,w1,w2,w3,w4,w5⟩=>⟨t',l',e1,?_,?_⟩)
  ·rw [vB (nF t' H2 S w1)];exact w4
  ·rw [vB (nF l' H2 S w2)];exact w5
 ·rw [ah];show PoursH _ _ _ (k7 B.ms ap).length;rw [QA];exact (O.pp.same (y7 I)).append (hP.delT nT)
 ·refine ⟨O.ok.dr,d5,by show (k7 B.ms ap).length=_;rw [QA];exact O.ok.ml,T5 O.ok.d0,dD,d1,by show (B.es++[_]).length<=57;rw [ag];exact dj,?_,?_,?_,?_⟩
  ·show (B.ps++J).length<=24*(B.es++[_]).length;rw [ag,ag,ax]
   lia
  ·show (B.qs++vs).length<=(B.es++[_]).length;rw [ag,ag,ax]
   lia
  ·intro z hz
   rcases ba.mp hz with h|h
   ·exact O.ok.pr z h
   ·obtain ⟨i,hi⟩:=gd.mp h;obtain ⟨a,s',t',m',ez,d8⟩:=hP.2 i z hi;exact ⟨a,ez⟩
  ·intro z hz
   rcases ba.mp hz with h|h
   ·exact O.ok.er z h
   ·exact ⟨t,aO.mp h⟩
 ·rw [ah];exact y7 I
theorem iZ:jV 2 ["canal","entries","book","entry","refusal"] rO:=jU
include T in
theorem LO (F:kC K "replayed" rO f fd) (a9:MkD P w K mg base 7 "Book" cO ["self","canal"] (lB (jG cP cB cU) cR cN cO)) (ua:MeX P w K mg base 13 cO "do" ["self","entry"] (nG (jG cP cB cU) cR cN cO eB eT eM eU eL eN eD eW)):FnOk P w K mg base (QN P w) 15 f fd ["canal","entries"] (wN K (jG cP cB cU) cR cN cO eR):=by
 refine F.okC2 iZ fun vs H Q E h=>?_
 refine bQ h fun x l R L N es h=>?_
 refine eV h fun e_ hc be hl am b2 qv qe=>?_
 subst e_;refine ⟨rfl,fun _ _ _ _ hr=>?_⟩;refine tk fun x0=>?_
 let u0:=ru x0 [1,0,0] (kM (PH (i:=4) UE rfl rfl rfl iZ.nd rfl rfl rfl T.zu rfl T.xbe T.xbt (fun _ _ hx=>(kM (vL (QY ua hx hr (jA 2) (jC (jA 3) jE))))) (fun _=>(jC j4 jE))))
 let u1:=ru x0 [1] (jH (zL mJ rfl (yN (jA 1)) (kT (i:=3) iZ.nd rfl (.inl rfl))
    u0.h)
   (jN (jA 2)))
 refine ⟨_,(jH (jY 2 iZ.nd (cS a9 hr rfl (jC (jA 0) jE)))
   u1.h),?_⟩
 try dsimp only [jX,jW]
 intro b S nb a5 bt;have m1:Same H (kB (upd (upd H S (.own b)) b (.ins cO S [])) [b]):=fun a o e=>by
  rw [vB (fun z=>qE e nb (aO.mp z)),jQ (qE e nb),jQ (qE e a5)];exact e
 refine yE b S x R L N (jP rfl jF (hc.same m1) be (fun A B H2 hB ah hd=>⟨rfl,?_⟩));have s2:=m1.trans hd;have hA:∀a∈A,H a=none:=fun a ha=>by
  cases r:H a with
  |none=>rfl
  |some o=>have:=s2 _ _ r;rw [zJ ha] at this;cases this
 have Y:∀I,Same H (kB I A)->I l=some (.lst (es.map fun p=>V.ref p.2)):=fun I s=>(s.trans (vY _ _)) _ _ hl
 refine ⟨l,rfl,⟨_,so (Y _ s2)⟩,dY (K:=K) (a:=l) (xs:=es.map fun p=>V.ref p.2) (fun i σ I=>∃(B:BkS) (c3:Option V),σ=[some (.ref x),some (.ref l),some (.ref b),c3,none]/\BkAt (jG cP cB cU) cR cN cO A I b x R L N B/\BRun R L N (es.take i) B/\Same H (kB I A)) ⟨B,none,(jM rfl hB (.nil ah) s2)⟩ (fun i σ I _ ⟨_,_,_,_,_,s⟩=>so (Y I s)) ?_ ?_⟩
 ·rintro i v σ I hv ⟨B,c3,rfl,hq,G,sH⟩;rw [ar] at hv;obtain ⟨⟨e,t⟩,hi,rfl⟩:=aT.mp hv;obtain ⟨a7,a3⟩:=am _ (az hi);have J:=sH.trans (vY _ _);have a6:=G.esq;have b0:=(ae.mp hi).1;have b1:(es.take i).length=i:=by rw [aW];lia
  obtain ⟨S,fs,hb,bl⟩:=hq.ins;refine ⟨fun a4 c H'=>dC R L N B e/\Same H H'/\∃C,c=.ref C/\zD K C/\W.exmOne K (.ref C) (.ref eC)=some true,?_,?_⟩
  ·refine ⟨b,S,jB rfl (⟨hb,bl _ (by trivial),vG b t x A R L N B e (vS rfl hq (a7.same J) a3 (fun h0 hw=>⟨by rw [a6,ac];lia,fun B' H' an a8 ap _=>?_⟩) (fun h0 hw H' O=>⟨.inr hw,J.trans O,eW,rfl,T.ui,T.exm_NotNow⟩) (fun h0 H' O=>⟨.inl h0,J.trans O,jB rfl (?_)⟩))⟩)⟩
   ·refine ⟨B',jB rfl (⟨an,?_,sH.trans ap⟩)⟩;rw [aV,hi];exact G.snoc h0 hw a8
   ·exact ES (K:=K) (P:=fun C=>zD K C/\W.exmOne K (.ref C) (.ref eC)=some true) ⟨T.jz,T.exm_BadRow⟩ ⟨T.xaM,T.exm_Twice⟩ ⟨T.uq,T.exm_TooMany⟩ ⟨T.wk,T.exm_Unknown⟩ ⟨T.vy,T.exm_NotLinked⟩ ⟨T.vz,T.exm_BadNumber⟩ ⟨T.xaa,T.exm_TooDry⟩ _
  ·rintro a4 c H' ⟨Z,O,C,rfl,hx,hm⟩;exact ⟨C,(jM rfl hx hm (fun a ha=>⟨zz1,jF,qe i e t B hi G Z _ (O.trans (jL ha _))⟩))⟩
 rintro σ Hf ⟨B,c3,rfl,hq,G,sH⟩;rw [ac,aZ] at G;exact qv b A B Hf hq G sH hA
theorem M2:jV 2 ["script","k"] pC:=jU
include T in
theorem IV (F:kC K "_law_cell_at" pC f fd) : FnOk P w K mg base jT 1 f fd ["script","k"] (dX K):=by
 refine F.ok2 M2 fun vs H Q E h=>?_
 refine bR h fun s G k h=>?_
 refine vC h fun I l q=>?_
 subst I;refine ⟨rfl,fun _ _ _ _ J=>?_⟩;refine ⟨_,(jH (j9 (j6 ZO (jA 1) (vF K T.xq (jA 0))) (jN (jJ (qD K) (jA 0) (jA 1))) kA)
   (jN jD)),?_⟩
 try dsimp only [jX,jW]
 refine ⟨s,jB rfl (⟨.inl l,_,_,rfl,rfl,jB rfl (?_)⟩)⟩;rw [ac]
 by_cases h:k<G.length
 ·refine kY (by lia) (j5 s _ _ _ (jP rfl rfl l (qH (v:=.int G[k]) (by rw [ar,aa h];rfl)) ?_));rw [af,aa h] at q;exact q
 refine kE (by lia) ?_;rw [af,cr (by lia)] at q;exact q
def lQ:Sp:=fun vs H Q _=>∃c k:Int,vs=[.int c,.int k]/\∀z:Str,z.length<=50->Q (.str z) H
def lP (K:W.Frag):Sp:=fun vs H Q _=>∃s,∃(h:List Int),vs=[.ref s]/\SqL K H s (h.map V.int)/\∀u:Int,1<=u->u<=100000000000->Q (.int u) H
def gH (m:Int) (es:List (Int×Int)):Prop:=1<=es.length/\es.length<=3/\(∀p∈es,0<=p.2/\p.2<p.1/\p.1<m)/\∀a,0<=a->a<m->∃p∈es,p.1=a\/p.2=a
def kW (h:List Int):Int:=2+h.getD 0 0%2
theorem cF (h:List Int):kW h=2\/kW h=3:=by unfold kW;lia
def dB (r:Nat):Int×Int:=((r:Int)+1,(r:Int))
theorem XG (l:List Int):gH (kW l) ((List.range (kW l - 1).toNat).map dB)/\((List.range (kW l - 1).toNat).map dB).length<=2:=by
 rcases cF l with h|h<;>rw [h]
 ·refine ⟨⟨by decide,by decide,by decide,fun a E F=>⟨dB 0,by decide,?_⟩⟩,by decide⟩;show ((0:Nat):Int)+1=a\/((0:Nat):Int)=a
  lia
 ·refine ⟨⟨by decide,by decide,by decide,fun a E F=>?_⟩,by decide⟩
  by_cases h:a=2
  ·exact ⟨dB 1,by decide,.inl h.symm⟩
  ·refine ⟨dB 0,by decide,?_⟩;show ((0:Nat):Int)+1=a\/((0:Nat):Int)=a
   lia
theorem XF {E:List Int} {es:List (Int×Int)} (h:gH (kW E) es) (I:es.length<=2):gH (kW E) (es++[(kW E - 1,0)]):=by
 obtain ⟨a,b,c,d⟩:=h;have:=cF E;refine ⟨by rw [ag];lia,by rw [ag,ax];lia,fun p l=>?_,fun a G F=>?_⟩
 ·rcases ba.mp l with l|l
  ·exact c p l
  ·rw [aO.mp l];show (0:Int)<=0/\(0:Int)<kW E - 1/\kW E - 1<kW E
   lia
 ·obtain ⟨p,l,e⟩:=d a G F;exact ⟨p,da _ l,e⟩
def uM (K:W.Frag):Sp:=fun vs H Q _=>∃s E,vs=[.ref s]/\SqL K H s (E.map V.int)/\∀l h es H',Same H H'->H l=none->H' l=some (.lst h)->AllAt (QAt H') h es->gH (kW E) es->Q (.ref l) H'
theorem EZ {i:Int} (l:0<=i) (E:i<26):∃c,vO ("abcdefghijklmnopqrstuvwxyz":Str).cps.toList i=some c:=by
 have h:i.toNat<("abcdefghijklmnopqrstuvwxyz":Str).cps.toList.length:=by rw [show ("abcdefghijklmnopqrstuvwxyz":Str).cps.toList.length=26 by trivial];lia
 have:=qH (xs:=("abcdefghijklmnopqrstuvwxyz":Str).cps.toList) (j:=i.toNat) (aa h);rw [show ((i.toNat:Nat):Int)=i by lia] at this;exact ⟨_,this⟩
theorem BG (a b:Str):(a++b).length=a.length+b.length:=by
 show (a.cps++b.cps).size=a.cps.size+b.cps.size;exact Array.size_append
theorem vT (a:Int) {b:Int} (h:0<b):0<=a%b/\a%b<b:=⟨Int.emod_nonneg _ (by lia),Int.emod_lt_of_pos _ h⟩
def tQ (K:W.Frag):Sp:=fun vs H Q _=>∃s F,∃(h:Nat),vs=[.ref s,.int (h:Int)]/\SqL K H s (F.map V.int)/\h<=3/\∀l E N H',Same H H'->H l=none->H' l=some (.lst E)->AllAt (NAt [l] H') E N->N.length<=h->(∀p∈N,p.length=(kW F).toNat)->Q (.ref l) H'
def B9 (cR:Addr):Sp:=fun vs H Q _=>∃(c:Int) (r:Nat),∃nm,∃(u:Int),vs=[.int c,.int (r:Int),.str nm,.int u]/\1<=u/\u<=100000000000/\∀x h H',h.good r->Same H H'->H x=none->RcAt cR H' x h->Q (.ref x) H'
def DI (cs:Kd->Addr):Sp:=fun vs H Q _=>∃(c:Int),∃nm t,∃(h E u:Int) (n:Nat),vs=[.int c,.str nm,.ref t,.int u]/\H t=some (.tup [.int h,.int E])/\0<=E/\E<h/\h<(n:Int)/\1<=u/\u<=100000000000/\∀x l H',l.good n->Same H H'->H x=none->LkO cs H' (.ref x) l->Q (.ref x) H'
def CD (K:W.Frag) (cs:Kd->Addr) (cR cN:Addr):Sp:=fun vs H Q _=>∃s,∃(l:List Int) (h:Nat),vs=[.ref s,.int (h:Int)]/\SqL K H s (l.map V.int)/\h<=3/\∀x R L N H',Drawn R L N->Same H H'->H x=none->CnAt cs cR cN [] H' x R L N->Q (.ref x) H'
def B6:Sp:=fun vs H Q _=>∃(c E a m:Int),∃l h es,vs=[.int c,.ref l,.int E,.int a]/\H l=some (.lst h)/\AllAt (QAt H) h es/\gH m es/\0<=a/\a<m/\∀t vs ps H',Same H H'->H' t=some (.tup vs)->AllAt (SAt H') vs ps->1<=ps.length->ps.length<=8->Q (.ref t) H'
def AX (K:W.Frag):Sp:=fun vs H Q _=>∃s l,∃(c d:Int),vs=[.int c,.ref s,.int (kW l),.int d]/\SqL K H s (l.map V.int)/\0<=d/\∀t h W H',Same H H'->H' t=some (.tup h)->AllAt (QAt H') h W->W.length<=100->Q (.ref t) H'
def CB (K:W.Frag):Sp:=fun vs H Q _=>∃(s:Addr) (l:List Int) (c d:Int) (h:Addr) (zs:List Str),vs=[.int c,.ref s,.ref h,.int d]/\SqL K H s (l.map V.int)/\0<=d/\H h=some (.lst (zs.map V.str))/\∀(t:Addr) (e:Ent) (H':Hp),Same H H'->EnAt H' t e->Z1 e->Q (.ref t) H'
def B5 (cs:Kd->Addr) (cR cN cO:Addr):Sp:=fun vs H Q _=>∃b t x A R L N B e,vs=[.ref b,.ref t]/\BkAt cs cR cN cO A H b x R L N B/\EnAt H t e/\Z1 e/\(dC R L N B e->∀H',Same H H'->Q (.bl true) H')/\(qI R L N B e=0->vV R L N B e=""->∀H',Same H H'->Q (.bl false) H')
def CF (cs:Kd->Addr) (cR cN cO:Addr):Sp:=fun vs H Q _=>∃(b h x:Addr) (A E:List Addr) (R:List RC) (L:List LC) (N:List (List (Int×Int))) (B l:BkS) (es:List (Ent×Addr)),vs=[.ref b,.ref h]/\BkAt cs cR cN cO A H b x R L N B/\BkAt cs cR cN cO E H h x R L N l/\BAl l B/\(∀p∈B.qd,p.2.length<=50)/\B.es=(es.map fun p=>V.ref p.2)/\EnsAt H es/\∀H',Same H H'->Q (.bl true) H'
def DA (cs:Kd->Addr) (cR cN:Addr):Sp:=fun vs H Q _=>∃(x l:Addr) (R:List RC) (L:List LC) (N:List (List (Int×Int))) (es:List (Ent×Addr)) (i:Nat) (e:Ent) (t:Addr) (B:BkS),vs=[.ref x,.ref l]/\CnAt cs cR cN [] H x R L N/\Drawn R L N/\H l=some (.lst (es.map fun p=>V.ref p.2))/\EnsAt H es/\es.length<=57/\es[i]?=some (e,t)/\BRun R L N (es.take i) B/\dC R L N B e/\∀H',Q (.bl true) H'
def BK (K:W.Frag):Sp:=fun vs H Q _=>∃h l ms zs qs,vs=[.ref h,.ref l]/\H h=some (.tup (ms.map V.int))/\H l=some (.lst zs)/\PoursH H zs qs ms.length/\zs.length<=2000/\ms.length<=1000/\∀t H',Same H H'->H' t=some (.tup ((k7 ms qs).map V.int))->Q (.ref t) H'
theorem SD {P:Program} {w:World} {K:W.Frag} {mg:Str->Option Value} {base:Heap} {CX:yI} {k:Nat} {f:Addr} {fd:FuncData} {ps:List Str} {sp:Sp} (h:∀vs H Q E,sp vs H Q E->False):FnOk P w K mg base CX k f fd ps sp:=⟨fun vs H Q E q=>(h _ _ _ _ q).elim,fun _ _ _ _ _ _ _ _ _ _ _ _ _ q=>(h _ _ _ _ q).elim⟩
def Alike:Nat->Hp->V->V->Prop
 |0,_,f,d=>(∃z:Str,f=.str z/\d=.str z)\/∃i:Int,f=.int i/\d=.int i
 |n+1,H,f,d=>((∃z:Str,f=.str z/\d=.str z)\/∃i:Int,f=.int i/\d=.int i)\/∃(a b:Addr) (xs ys:List V) (l:Bool),f=.ref a/\d=.ref b/\H a=some (if l=true then .lst xs else .tup xs)/\H b=some (if l=true then .lst ys else .tup ys)/\xs.length=ys.length/\xs.length<=2000/\∀(i:Nat) (x y:V),xs[i]?=some x->ys[i]?=some y->Alike n H x y
theorem Alike.atom {n:Nat} {H:Hp} {f d:V} (h:(∃z:Str,f=.str z/\d=.str z)\/∃i:Int,f=.int i/\d=.int i):Alike n H f d:=by
 cases n with
 |zero=>exact h
 |succ n=>exact .inl h
theorem OZ {n:Nat} {H:Hp} {f d:V} (h:Alike n H f d):((∃z:Str,f=.str z/\d=.str z)\/∃i:Int,f=.int i/\d=.int i)\/∃m,n=m+1/\∃(a b:Addr) (xs ys:List V) (l:Bool),f=.ref a/\d=.ref b/\H a=some (if l=true then .lst xs else .tup xs)/\H b=some (if l=true then .lst ys else .tup ys)/\xs.length=ys.length/\xs.length<=2000/\∀(i:Nat) (x y:V),xs[i]?=some x->ys[i]?=some y->Alike m H x y:=by
 cases n with
 |zero=>exact .inl h
 |succ n =>
  rcases h with h|h
  ·exact .inl h
  ·exact .inr ⟨n,rfl,h⟩
def QS:Nat->Sp
 |0=>fun _ _ _ _=>False
 |n+1=>fun vs H Q _=>∃f d:V,vs=[f,d]/\Alike n H f d/\Q (.bl true) H
theorem OS {K:W.Frag}:W.kitOne K (.type "str") (.type "list")=some false:=by kernel_rfl
theorem OV {K:W.Frag}:W.kitOne K (.type "int") (.type "list")=some false:=by kernel_rfl
theorem OU {K:W.Frag}:W.kitOne K (.type "int") (.type "str")=some false:=by kernel_rfl
theorem tN {K:W.Frag}:W.kitOne K (.type "list") (.type "tuple")=some false:=by kernel_rfl
theorem AZ {K:W.Frag}:W.kitOne K (.type "tuple") (.type "list")=some false:=by kernel_rfl
theorem mF {K:W.Frag} {H:Hp} {a:Addr} {xs:List V} (l:Bool) (h:H a=some (if l=true then .lst xs else .tup xs)):SqL K H a xs\/SqT K H a xs:=by
 cases l with
 |true=>exact .inl (so h)
 |false=>exact .inr (SqT.of h)
theorem mG {K:W.Frag} {H:Hp} {a:Addr} {xs:List V} {i:Nat} {x:V} {Q:VK} (h:SqL K H a xs\/SqT K H a xs) (l:xs[i]?=some x) (q:Q x H):nQ K (.ref a) (.int (i:Int)) H Q:=by
 rcases h with h|h
 ·exact .inl ⟨a,_,(i:Int),_,rfl,rfl,h,qH l,q⟩
 ·exact .inr (.inl ⟨a,_,(i:Int),_,rfl,rfl,h,qH l,q⟩)
theorem OR {K:W.Frag}:W.kitOne K (.type "str") (.type "tuple")=some false:=by kernel_rfl
theorem OT {K:W.Frag}:W.kitOne K (.type "int") (.type "tuple")=some false:=by kernel_rfl
theorem mU {a u m:Int} (h:0<=a) (l:a<=m) (F:1<=u) (E:u<=100000000000):0<=u*a/\u*a<=100000000000*m:=⟨Int.mul_nonneg (by lia) h,Int.mul_le_mul E l h (by decide)⟩
def gT (es:List (Int×Int)) (a:Int) (j:Nat):Prop:=∃p,es[j]?=some p/\(p.1=a\/p.2=a)
theorem VL (h:List Nat) {i:Int} (F:0<=i) (E:i<(((h.map fun j:Nat=>V.int (j:Int)).length:Nat):Int)):∃j∈h,vO (h.map fun j:Nat=>V.int (j:Int)) i=some (.int (j:Int)):=by
 rw [ac] at E;have l:i.toNat<h.length:=by lia
 have:=qH (xs:=h.map fun j:Nat=>V.int (j:Int)) (j:=i.toNat) (v:=.int ((h[i.toNat]:Nat):Int)) (by rw [ar,aa l];rfl);rw [show ((i.toNat:Nat):Int)=i by lia] at this;exact ⟨_,gv l,this⟩
theorem GF (vs:List V):JJ vs none (some 1)=vs.take 1:=by
 unfold JJ;rw [HT.sIx_none,show (some (1:Int))=some ((1:Nat):Int) from rfl,HT.sIx_nat,drop_zero,Nat.sub_zero]
 by_cases h:1<=vs.length
 ·rw [Nat.min_eq_left h]
 ·rw [Nat.min_eq_right (by lia),bj (ak _),bj (by lia)]
theorem AllAt.take {α:Type} {P:V->α->Prop} {vs:List V} {xs:List α} (h:AllAt P vs xs) (n:Nat):AllAt P (vs.take n) (xs.take n):=by
 refine ⟨by rw [aW,aW,h.1],fun i v l=>?_⟩
 by_cases E:i<n
 ·rw [List.getElem?_take_of_lt E] at l ⊢;exact h.2 i v l
 ·rw [cr (by rw [aW];lia)] at l;cases l
theorem AllAt.set {α:Type} {P:V->α->Prop} {vs:List V} {xs:List α} {n:Nat} {v:V} {x:α} (h:AllAt P vs xs) (F:P v x):AllAt P (vs.set n v) (xs.set n x):=by
 refine ⟨by rw [bf,bf,h.1],fun i u l=>?_⟩
 by_cases e:n=i
 ·subst e;have E:n<vs.length:=by have:=(ae.mp l).1;rwa [bf] at this
  rw [cg E] at l;cases l;exact ⟨x,cg (by rw [<- h.1];exact E),F⟩
 ·rw [fj e] at l ⊢;exact h.2 i u l
theorem VJ (zs:List Str) {i:Int} (E:0<=i) (l:i<(((zs.map V.str).length:Nat):Int)):∃z∈zs,vO (zs.map V.str) i=some (.str z):=by
 rw [ac] at l;have h:i.toNat<zs.length:=by lia
 have:=qH (xs:=zs.map V.str) (j:=i.toNat) (v:=.str zs[i.toNat]) (by rw [ar,aa h];rfl);rw [show ((i.toNat:Nat):Int)=i by lia] at this;exact ⟨_,gv h,this⟩
theorem ET (x y:Int):vX (V.int x) (V.int y)=decide (x=y):=by
 unfold vX
 by_cases h:x=y
 ·subst h;simp
 ·simp [h]
theorem ER (a x y:Int):zE (V.int a) [V.int x,V.int y]=decide (x=a\/y=a):=by
 unfold zE;rw [gk,gk,any_nil,ET,ET,Bool.or_false,Bool.decide_or]
theorem V6 {es:List (Int×Int)} {a:Int} {j:Nat} {p:Int×Int} (F:es[j]?=some p) (h:gT es a j):zE (V.int a) [V.int p.1,V.int p.2]=true:=by
 obtain ⟨G,l,E⟩:=h;rw [F] at l;cases l
 rw [ER,bi E]
theorem U2 {es:List (Int×Int)} {a:Int} {j:Nat} {p:Int×Int} (l:es[j]?=some p) (h:¬gT es a j):zE (V.int a) [V.int p.1,V.int p.2]=false:=by
 rw [ER,aN fun z=>h ⟨p,l,z⟩]
section
variable {n:Nat} {H:Hp} {a b:Addr} {xs ys:List V}
theorem ZC (l:Bool) (I:H a=some (if l=true then .lst xs else .tup xs)) (F:H b=some (if l=true then .lst ys else .tup ys)) (G:xs.length=ys.length) (h:xs.length<=2000) (E:∀(i:Nat) (x y:V),xs[i]?=some x->ys[i]?=some y->Alike n H x y):Alike (n+1) H (.ref a) (.ref b):=.inr ⟨a,b,xs,ys,l,rfl,rfl,I,F,G,h,E⟩
def nB (x:V):Prop:=(∃z:Str,x=.str z)\/∃i:Int,x=.int i
theorem Z8 {x:V} (h:nB x):Alike n H x x:=by
 rcases h with ⟨z,rfl⟩|⟨i,rfl⟩
 ·exact Alike.atom (.inl ⟨z,rfl,rfl⟩)
 ·exact Alike.atom (.inr ⟨i,rfl,rfl⟩)
theorem JN (l:Bool) (J:H a=some (if l=true then .lst xs else .tup xs)) (I:H b=some (if l=true then .lst xs else .tup xs)) (h:xs.length<=2000) (G:∀x∈xs,nB x):Alike (n+1) H (.ref a) (.ref b) :=
 ZC l J I rfl h fun i x y F E=>by
  rw [F] at E;cases E
  exact Z8 (G x (az F))
theorem fR {α:Type} {P P':V->α->Prop} {zs:List α} (l:Bool) (Z:H a=some (if l=true then .lst xs else .tup xs)) (S:H b=some (if l=true then .lst ys else .tup ys)) (F:AllAt P xs zs) (G:AllAt P' ys zs) (Y:zs.length<=2000) (h:∀v u z,z∈zs->P v z->P' u z->Alike n H v u):Alike (n+1) H (.ref a) (.ref b) :=
 ZC l Z S (by rw [F.1,G.1]) (by rw [F.1];exact Y) fun i x y J O=>by
  obtain ⟨z,I,p⟩:=F.2 i x J;obtain ⟨z',E,p'⟩:=G.2 i y O;rw [I] at E;cases E
  exact h x y z (az I) p p'
end
theorem lL (zs:List Str):∀x∈zs.map V.str,nB x:=fun x h=>by
 obtain ⟨z,_,rfl⟩:=gc.mp h;exact .inl ⟨z,rfl⟩
theorem C4 (zs:List Int):∀x∈zs.map V.int,nB x:=fun x h=>by
 obtain ⟨z,_,rfl⟩:=gc.mp h;exact .inr ⟨z,rfl⟩
theorem RH {H:Hp} {v u:V} {y:vD} (hy:y.2.length<=8) (h:WyAt H v y) (h':WyAt H u y):Alike 3 H v u:=by
 obtain ⟨t,st,us,rfl,J,G,Z⟩:=h;obtain ⟨F,ah,am,rfl,g1,O,S⟩:=h';refine ZC false J g1 rfl (aX rfl) fun i x z l E=>?_
 match i,l,E with
 |0,l,E=>cases l;cases E;exact Z8 (.inr ⟨_,rfl⟩)
 |1,l,E =>
  cases l;cases E
  refine fR false G O Z S (by lia) fun v u p _ ⟨t,e,f⟩ ⟨F,I,Y⟩=>?_
  rw [e,I];refine JN false f Y (aX rfl) fun x l=>?_
  simp only [aj,au,bv] at l
  rcases l with rfl|rfl
  ·exact .inr ⟨_,rfl⟩
  ·exact .inl ⟨_,rfl⟩
theorem OG {H:Hp} {st F:Addr} {d:Int} {ms:List Int} {pl:List Nat} (G:ms.length<=2000) (hp:pl.length<=2000) (h:StAt H st d ms pl) (h':StAt H F d ms pl):Alike 4 H (.ref st) (.ref F):=by
 obtain ⟨wt,pt,O,I,Z⟩:=h;obtain ⟨Y,J,g1,S,V⟩:=h';refine ZC false O g1 rfl (aX rfl) fun i x z l E=>?_
 match i,l,E with
 |0,l,E=>cases l;cases E;exact Z8 (.inr ⟨_,rfl⟩)
 |1,l,E=>cases l;cases E;exact JN false I S (by rw [ac];exact G) (C4 ms)
 |2,l,E =>
  cases l;cases E
  refine JN false Z V (by rw [ac];exact hp) fun x l=>?_
  obtain ⟨z,_,rfl⟩:=gc.mp l;exact .inr ⟨_,rfl⟩
theorem OL {H:Hp} {l J:Addr} {zs E:List V} {qs:List (Nat×Nat×Int)} {n Y:Nat} (hl:H l=some (.lst zs)) (G:H J=some (.lst E)) (h:PoursH H zs qs n) (h':PoursH H E qs Y) (S:zs.length<=2000):Alike 4 H (.ref l) (.ref J):=by
 refine ZC true hl G (by rw [h.1,h'.1]) S fun i x y F O=>?_
 obtain ⟨a,s,t,m,rfl,e,g,_⟩:=h.2 i x F;obtain ⟨a',s',t',m',rfl,I,Z,_⟩:=h'.2 i y O;rw [e] at I;cases I
 refine JN false g Z (aX rfl) fun x F=>?_
 simp only [aj,au,bv] at F
 rcases F with rfl|rfl|rfl
 ·exact .inr ⟨_,rfl⟩
 ·exact .inr ⟨_,rfl⟩
 ·exact .inr ⟨_,rfl⟩
theorem O4 {H:Hp} {v u:V} {p:Str×List Str} (Z:p.2.length<=50) (h:WdAt H v p) (h':WdAt H u p):Alike 3 H v u:=by
 obtain ⟨t,l,rfl,J,G⟩:=h;obtain ⟨S,Y,rfl,O,I⟩:=h';refine ZC false J O rfl (aX rfl) fun i x z E F=>?_
 match i,E,F with
 |0,E,F=>cases E;cases F;exact Z8 (.inl ⟨_,rfl⟩)
 |1,E,F=>cases E;cases F;exact JN true G I (by rw [ac];lia) (lL p.2)
theorem WdNew.at {h H:Hp} {D:Addr} {v:V} {p:Str×List Str}:WdNew h D H v p->WdAt H v p:=fun ⟨t,l,e,_,_,_,E,F⟩=>⟨t,l,e,E,F⟩
theorem SG {H:Hp} {t:Addr}:∀{e:Ent},Z1 e->EnAt H t e->Alike 3 H (.ref t) (.ref t)
 |.come e,⟨_,Y,_⟩,⟨st,us,G,F,I⟩=>by
  refine ZC false G G rfl (aX rfl) fun i x z l E=>?_
  match i,l,E with
  |0,l,E=>cases l;cases E;exact Z8 (.inl ⟨_,rfl⟩)
  |1,l,E=>cases l;cases E;exact Z8 (.inl ⟨_,rfl⟩)
  |2,l,E=>cases l;cases E;exact Z8 (.inl ⟨_,rfl⟩)
  |3,l,E =>
   cases l;cases E
   refine fR false F F I I (by lia) fun v u p _ ⟨t,e,f⟩ ⟨t',J,O⟩=>?_
   rw [e,J];refine JN false f O (aX rfl) fun x l=>?_
   simp only [aj,au,bv] at l
   rcases l with rfl|rfl<;>exact .inl ⟨_,rfl⟩
 |.pas n,_,h=>JN false h h (aX rfl) (lL ["pass",n])
 |.lt n,_,h=>JN false h h (aX rfl) (lL ["let",n])
 |.night W,S,⟨V,us,G,F,I⟩=>by
  have S:W.length<=100:=S;refine ZC false G G rfl (aX rfl) fun i x z l E=>?_
  match i,l,E with
  |0,l,E=>cases l;cases E;exact Z8 (.inl ⟨_,rfl⟩)
  |1,l,E =>
   cases l;cases E
   refine fR false F F I I (by lia) fun v u p _ ⟨t,e,f⟩ ⟨t',J,O⟩=>?_
   rw [e,J];exact JN false f O (aX rfl) (C4 [p.1,p.2])
 |.take n a,_,h=>JN false h h (aX rfl) fun x l=>by
  simp only [aj,au,bv] at l
  rcases l with rfl|rfl|rfl
  ·exact .inl ⟨_,rfl⟩
  ·exact .inl ⟨_,rfl⟩
  ·exact .inr ⟨_,rfl⟩
 |.rain n a,_,h=>JN false h h (aX rfl) fun x l=>by
  simp only [aj,au,bv] at l
  rcases l with rfl|rfl|rfl
  ·exact .inl ⟨_,rfl⟩
  ·exact .inl ⟨_,rfl⟩
  ·exact .inr ⟨_,rfl⟩
theorem tR {H:Hp} {l I:Addr} {es:List (Ent×Addr)} (S:H l=some (.lst (es.map fun p=>V.ref p.2))) (F:H I=some (.lst (es.map fun p=>V.ref p.2))) (h:EnsAt H es) (J:es.length<=2000):Alike 4 H (.ref l) (.ref I) :=
 ZC true S F rfl (by rw [ac];exact J) fun i x y E G=>by
  rw [E] at G;cases G
  rw [ar] at E;obtain ⟨p,Z,rfl⟩:=aT.mp E;obtain ⟨Y,O⟩:=h p (az Z);exact SG O Y
theorem BF {H:Hp} {l F:Addr} {zs:List Str} (G:H l=some (.lst (zs.map V.str))) (E:H F=some (.lst (zs.map V.str))) (h:zs.length<=2000):Alike 4 H (.ref l) (.ref F):=JN true G E (by rw [ac];exact h) (lL zs)
theorem U9 {K:W.Frag}:∀vs H Q E,cL K vs H Q E->cL K vs H Q (fun _ _ _=>False):=fun vs H Q E h=>h
theorem CT {H:Hp} {A:List Addr} {g:Addr} {o:HO} (E:H g=none):kB (upd H g o) (A++[g])=kB H A:=by
 funext a
 by_cases h:a∈A
 ·rw [zJ h,zJ (da _ h)]
 ·by_cases l:a=g
  ·rw [l,zJ (bb _ (aO.mpr rfl)),vB (fun z=>h (l▸z)),E]
  ·rw [vB h,vB (fun z=>by rcases ba.mp z with z|z;exact h z;exact l (aO.mp z)),jQ l]
theorem EnAt.del {H:Hp} {A:List Addr} {t:Addr} (O:∀a∈A,∃o,H a=some o/\∀l,o≠.tup l):∀{e:Ent},EnAt H t e->EnAt (kB H A) t e:=by
 have k:∀{a:Addr} {l:List V},H a=some (.tup l)->kB H A a=some (.tup l):=fun {a l} h=>by
  rw [vB fun z=>?_]
  ·exact h
  ·obtain ⟨o,e,n⟩:=O a z;rw [h] at e;exact n l (ay e).symm
 intro e h;cases e with
 |come e=>obtain ⟨S,I,F,E,G⟩:=h;exact ⟨S,I,k F,k E,G.mono fun v p ⟨t,e,f⟩=>⟨t,e,k f⟩⟩
 |pas n=>exact k h
 |lt n=>exact k h
 |night W=>obtain ⟨J,I,F,E,G⟩:=h;exact ⟨J,I,k F,k E,G.mono fun v p ⟨t,e,f⟩=>⟨t,e,k f⟩⟩
 |take n a=>exact k h
 |rain n a=>exact k h
def SpAt (R:List RC) (L:List LC) (N:List (List (Int×Int))) (G:Hp) (i:Nat) (sp:Addr) (es:List (Ent×Addr)):Prop:=G sp=some (.lst [])\/∃(k:Nat),∃e t h,k<=es.length/\G sp=some (.lst ((es.take k).map (fun p=>V.ref p.2)++[.ref t]))/\EnAt G t e/\Z1 e/\BRun R L N (es.take k) h/\dC R L N h e/\es.length+1<=i
theorem SpAt.on {R:List RC} {L:List LC} {N:List (List (Int×Int))} {G l:Hp} {i:Nat} {sp:Addr} {es:List (Ent×Addr)} (s:Same G l) (h:SpAt R L N G i sp es):SpAt R L N l (i+1) sp es:=by
 rcases h with h|⟨k,e,t,V,I,E,S,F,O,J,Y⟩
 ·exact .inl (s _ _ h)
 ·exact .inr ⟨k,e,t,V,I,s _ _ E,S.same s,F,O,J,by lia⟩
theorem SpAt.more {R:List RC} {L:List LC} {N:List (List (Int×Int))} {G E:Hp} {i:Nat} {sp:Addr} {es:List (Ent×Addr)} {p:Ent×Addr} (s:Same G E) (h:SpAt R L N G i sp es):SpAt R L N E (i+1) sp (es++[p]):=by
 rcases h with h|⟨k,e,t,V,l,F,S,I,O,J,Y⟩
 ·exact .inl (s _ _ h)
 ·refine .inr ⟨k,e,t,V,by rw [ag];lia,?_,S.same s,I,?_,J,by rw [ag,ax];lia⟩
  ·rw [bp l];exact s _ _ F
  ·rw [bp l];exact O
theorem YA {es:List (Ent×Addr)} {k:Nat} {t:Addr} (h:k<=es.length):JJ (es.map fun p=>V.ref p.2) (some ((((es.take k).map (fun p=>V.ref p.2)++[V.ref t]).length:Nat) - 1:Int)) none=(es.map fun p=>V.ref p.2).drop k:=by
 have e:((((es.take k).map (fun p=>V.ref p.2)++[V.ref t]).length:Nat):Int) - 1=((k:Nat):Int):=by rw [ag,ac,aW,ax];lia
 rw [e];unfold JJ;rw [HT.sIx_none,HT.sIx_nat,ac,Nat.min_eq_left h,bj (by rw [dk,ac];exact ak _)]
theorem YB (l:List Int):JJ (l.map V.int) (some 6) none=(l.drop 6).map V.int:=by
 unfold JJ;rw [HT.sIx_none,show (some (6:Int))=some ((6:Nat):Int) from rfl,HT.sIx_nat,ac]
 by_cases h:6<=l.length
 ·rw [Nat.min_eq_left h,map_drop,bj (by rw [dk,ac];lia)]
 ·rw [Nat.min_eq_right (by lia),drop_eq_nil_of_le (show l.length<=6 by lia),io,take_zero];rfl
theorem sM:jV 2 ["cell","k","body","at"] pF:=jU
include T in
theorem IZ (F:kC K "_law_name" pF f fd) : FnOk P w K mg base jT 1 f fd ["cell","k"] (lQ):=by
 refine F.ok2 sM fun vs H Q E h=>?_
 obtain ⟨c,k,rfl,q⟩:=h;refine ⟨rfl,fun _ _ _ _ hr=>?_⟩;refine tk fun O=>?_
 let u0:=ru O [2] (jN (jI BM (jI BM (fU FG (jA 2) fY (fF (jA 3))) (jJ wS j4 (jI kO (jI kU (jI qP (jA 0) jD) (jA 1)) jD))) (fU FG (jA 2) (fF (jA 3)) fY)))
 let Y:=ru O [1] (jH (jY 3 sM.nd (jI kO (jI qP (jA 0) jD) (jI kU (vK AT (by rfl) T.xq PySem.boot_len (jC (jA 2) jE)) jD)))
   u0.h)
 refine ⟨_,(jH (jY 2 sM.nd (jI U0 (jJ wS j4 (jI kO (jI qP (jA 0) jD) jD)) (jI kO (jA 0) jD)))
   Y.h),?_⟩
 try dsimp only [jX,jW]
 obtain ⟨a0,a1⟩:=vT (c / 12) (show (0:Int)<26 by decide);obtain ⟨l,I⟩:=EZ a0 a1;obtain ⟨b0,b1⟩:=vT c (show (0:Int)<12 by decide);have S:(⟨#[l]⟩:Str).length=1:=rfl;refine ⟨_,_,(jM rfl rfl ⟨by decide,by decide⟩ ⟨_,_,(jM rfl rfl (by show (0:Int)<26;decide) (j3 _ _ l (jP rfl rfl (by trivial) I ⟨_,_,(jM rfl rfl (by show (0:Int)<12;decide) ⟨(⟨#[l]⟩:Str),_,(j7 rfl rfl (by lia) (by lia) (by rw [S];decide) ?_)⟩)⟩)))⟩)⟩;have hb:(JI ⟨#[l]⟩ (c%12).toNat).length<=11:=by rw [DL,S,Nat.mul_one];lia
 generalize JI ⟨#[l]⟩ (c%12).toNat=z at hb ⊢;refine ⟨_,_,(jM rfl rfl ⟨by decide,by decide⟩ ⟨z,⟨rfl,QB (by lia),⟨_,_,⟨rfl,rfl,⟨_,_,(jM rfl rfl (by lia) ?_)⟩⟩⟩⟩⟩)⟩;obtain ⟨Z,e1⟩:=vT (c / 3744+k) (show (0:Int)<26 by decide);obtain ⟨J,G⟩:=EZ Z e1;have V:(⟨#[J]⟩:Str).length=1:=rfl;have w:=fun a b=>Txt.slice_le z a b
 refine jB rfl (⟨z,⟨rfl,QB (by lia),⟨_,_,(jM rfl rfl ⟨by decide,by decide⟩ ⟨_,_,⟨rfl,rfl,⟨_,_,(jM rfl rfl (by show (0:Int)<26;decide) (j3 _ _ J (jP rfl rfl (by trivial) G ⟨_,_,(jM rfl rfl (QB (by have:=w none (some (c / 312%((z.length:Int)+1)));rw [V];lia)) ?_)⟩)))⟩⟩⟩)⟩⟩⟩);have w1:=w none (some (c / 312%((z.length:Int)+1)));have w2:=w (some (c / 312%((z.length:Int)+1))) none;have l3:(Txt.slice z none (some (c / 312%((z.length:Int)+1)))++(⟨#[J]⟩:Str)).length<=12:=by rw [BG,V];lia
 refine jB rfl (⟨z,⟨rfl,QB (by lia),⟨_,_,(jM rfl rfl (QB (by lia)) (q _ ?_))⟩⟩⟩);rw [BG]
 lia
theorem AG:jV 1 ["script","cell"] pK:=jU
include T in
theorem KG (F:kC K "_law_unit" pK f fd) (O:Def P w K mg base 1 "_law_cell_at" ["script","k"] [] (dX K)):FnOk P w K mg base jT 2 f fd ["script"] (lP K):=by
 refine F.ok2 AG fun vs H Q E h=>?_
 obtain ⟨s,l,rfl,I,q⟩:=h;refine ⟨rfl,fun _ _ _ _ S=>?_⟩;refine tk fun G=>?_
 let J:=ru G [1] (jH (j9 (j6 kP (jI kO (jA 1) jD) jD) (jN (jI kU jD (jI kO (jI qP (jA 1) jD) jD))) kA)
   (jN (jI kU jD (jI kO (jA 1) jD))))
 refine ⟨_,(jH (jY 1 AG.nd (jR O S rfl (jC (jA 0) (jC jD jE))))
   J.h),?_⟩
 try dsimp only [jX,jW]
 refine j3 s l 1 (kG rfl I (?_));generalize l.getD 1 0=c;obtain ⟨Y,a1⟩:=vT (c / 3) (show (0:Int)<5 by decide);obtain ⟨V,Z⟩:=vT c (show (0:Int)<100000000000 by decide);refine ⟨_,_,(jP rfl rfl (by show (0:Int)<3;decide) rfl (jB rfl (yQ (fun _=>?_) (fun _=>?_))))⟩
 ·exact ⟨_,_,(jM rfl rfl ⟨by decide,by decide⟩ ⟨_,_,(jM rfl rfl (by show (0:Int)<5;decide) ⟨_,_,⟨rfl,rfl,q _ (by lia) (by lia)⟩⟩)⟩)⟩
 exact ⟨_,_,(jM rfl rfl (by show (0:Int)<100000000000;decide) ⟨_,_,⟨rfl,rfl,q _ (by lia) (by lia)⟩⟩)⟩
theorem sK:jV 1 ["script","many","ends"] iG:=jU
include T in
theorem IW (F:kC K "_law_ends" iG f fd) (xj:Def P w K mg base 1 "_law_cell_at" ["script","k"] [] (dX K)):FnOk P w K mg base jT 2 f fd ["script"] (uM K):=by
 refine F.ok2 sK fun vs H Q E h=>?_
 obtain ⟨s,G,rfl,hS,q⟩:=h;refine ⟨rfl,fun _ _ _ _ hr=>?_⟩;refine tk fun x0=>?_
 let u0:=ru x0 [2] (jH (j9 (j6 kP (jI kO (jI qP (jR xj hr rfl (jC (jA 0) (jC jD jE))) jD) jD) jD) (kM (vL (yY aM aR aS zP (jA 2) (jC (kX (jC (jI yB (jA 1) jD) (jC jD jE))) jE)))) kA)
   (jN (jA 2)))
 let u1:=ru x0 [1] (jH (fM (i:=2) ["r"] (vM 1 []) sK.nd rfl (.inl rfl) rfl (yF (kF iG)) (cps 1 []) (ZB (by rfl) T.xz (jC (jI yB (jA 1) jD) jE)) (fun _ _ _ _ _=>(kT (i:=0) (show List.Nodup (["r"]:List Str) from by trivial) rfl (.inl rfl))) (fun _ _ _ _ _=>JD) (fun _ _ _ _ _=>(kX (jC (jI kU (jA 0) jD) (jC (jA 0) jE)))))
   u0.h)
 refine ⟨_,(jH (jY 1 sK.nd (jI kU jD (jI kO (jR xj hr rfl (jC (jA 0) (jC jD jE))) jD)))
   u1.h),?_⟩
 try dsimp only [jX,jW]
 have hm:=cF G;obtain ⟨g1,g2⟩:=XG G;have g3:=fun h=>XF g1 h
 refine j3 s G 0 ⟨rfl,hS,⟨_,_,(jM rfl rfl (by show (0:Int)<2;decide) ⟨_,_,⟨rfl,rfl,⟨_,_,⟨rfl,rfl,jB rfl (?_)⟩⟩⟩⟩)⟩⟩
 change -2 ^ 62<=kW G - 1/\kW G - 1<2 ^ 62/\_
 refine ⟨by lia,by lia,fun D l=>?_⟩;refine BD (n:=(kW G - 1).toNat) (caps:=[]) (fun i ys Hi=>AllAt (QAt Hi) ys ((List.range i).map dB)) l AllAt.nil ?_ ?_
 ·rintro i ys Hi hi I sm Z O;rw [fe];refine zK (qA ⟨_,_,(jM rfl rfl zz2 (fun t Y=>?_))⟩);have u:=jL Y (.tup [V.int ((i:Int)+1),V.int (i:Int)]);refine Q7 l sm Z I (by lia) u ?_;rw [iz,aK];exact ((O.mono (QAt.same u)).snoc (v:=.ref t) (x:=dB i) ⟨t,rfl,jF⟩).mono (QAt.put (u _ _ Z))
 rintro ys H1 S J I O;refine j3 s G 0 ⟨rfl,(S.seq hS),⟨_,_,(jM rfl rfl ⟨by decide,by decide⟩ ⟨_,_,(jP rfl rfl (by show (0:Int)<3;decide) rfl (jB rfl (yQ (fun _=>?_) (fun _=>q D ys _ H1 S l J O g1))))⟩)⟩⟩;refine ⟨.inl ⟨rfl,_,so J⟩,⟨_,_,(jM rfl rfl zz2 (fun t Y=>?_))⟩⟩;have u:=jL Y (.tup [V.int (kW G - 1),V.int 0]);refine j3 D _ _ (jP rfl rfl (u _ _ J) (qX (by lia)) ?_);exact q D _ _ _ (qJ l (S.trans u)) l jF (((O.mono (QAt.same u)).snoc (v:=.ref t) (x:=(kW G - 1,0)) ⟨t,rfl,jF⟩).mono (QAt.put (u _ _ J))) (g3 g2)
theorem Z6:jV 2 ["script","most","unit","seed","nights","n","night","r","mixed"] pG:=jU
include T in
theorem KA (F:kC K "_law_nights" pG f fd) (zq:Def P w K mg base 2 "_law_unit" ["script"] [] (lP K)) (xj:Def P w K mg base 1 "_law_cell_at" ["script","k"] [] (dX K)):FnOk P w K mg base jT 3 f fd ["script","most"] (tQ K):=by
 refine F.ok2 Z6 fun vs H Q E h=>?_
 refine bR h fun s G mo h=>?_
 refine bS h fun e_ hS a7 q=>?_
 subst e_;refine ⟨rfl,fun _ _ _ _ hr=>?_⟩;have a3:=mY hr;refine tk fun x0=>?_
 let u0:=ru x0 [3,0,1,0,1] (kM (vL (yY aM aR aS zP (jA 6) (jC (kX (jC (jI kU (jI y9 (jA 2) (jI kO (jA 8) jD)) (jI kO (jI qP (jA 8) jD) jD)) (jC (jI y9 (jA 2) (jI kO (jI qP (jA 8) jD) jD)) jE))) jE))))
 let u1:=ru x0 [3,0,1,0,0] (jH (jY 8 Z6.nd (jI kO (jI y9 (jA 3) (jI kU (jI kU jD (jI y9 (jI y9 jD (jA 5)) (jA 5))) (jI y9 jD (jA 7)))) jD))
   u0.h)
 let u2:=ru x0 [3,0,1] (jH (zL ci rfl (ZB (by rfl) T.xz (jC (jI kU jD (jI kO (jR xj hr rfl (jC (jA 0) (jC jD jE))) jD)) jE)) (kT (i:=7) Z6.nd rfl (.inl rfl))
    u1.h)
   (kM (vL (yY aM aR aS zP (jA 4) (jC (jA 6) jE)))))
 let u3:=ru x0 [3,0,0] (jH (jY 6 Z6.nd (qC jE))
   u2.h)
 let u4:=ru x0 [3] (jH (zL ci rfl (ZB (by rfl) T.xz (jC (jI kO (jI qP (jR xj hr rfl (jC (jA 0) (jC jD jE))) jD) (jI kU (jA 1) jD)) jE)) (kT (i:=5) Z6.nd rfl (.inl rfl))
    u3.h)
   (jN (jA 4)))
 let u5:=ru x0 [2] (jH (jY 4 Z6.nd (qC jE))
   u4.h)
 let u6:=ru x0 [1] (jH (jY 3 Z6.nd (jI kU (jI kO (jR xj hr rfl (jC (jA 0) (jC jD jE))) jD) jD))
   u5.h)
 refine ⟨_,(jH (jY 2 Z6.nd (jR zq hr rfl (jC (jA 0) jE)))
   u6.h),?_⟩
 try dsimp only [jX,jW]
 have hm:=cF G;refine ⟨s,G,rfl,hS,fun u a5 a3=>?_⟩;obtain ⟨a6,a8⟩:=vT (G.getD 0 0) (show (0:Int)<1000003 by decide);refine j3 s G 0 ⟨rfl,hS,⟨_,_,(jM rfl rfl (by show (0:Int)<1000003;decide) ⟨_,_,⟨rfl,rfl,?_⟩⟩)⟩⟩;refine ⟨aH _,fun l am=>?_⟩;have u0:=jL am (.lst []);obtain ⟨m0,m1⟩:=vT (G.getD 0 0 / 6) (show (0:Int)<(mo:Int)+1 by lia);refine j3 s G 0 ⟨rfl,(u0.seq hS),⟨_,_,(jM rfl rfl ⟨by decide,by decide⟩ ⟨_,_,⟨rfl,rfl,⟨_,_,(jM rfl rfl (by lia) (jB rfl (?_)))⟩⟩⟩)⟩⟩;refine ⟨by lia,by lia,Z9 (n:=(G.getD 0 0 / 6%((mo:Int)+1)).toNat) (fun i Y Z=>∃(us:List V) (N:List (List (Int×Int))) (c5 c6 O J:Option V),Y=[some (.ref s),some (.int (mo:Int)),some (.int u),some (.int (G.getD 0 0%1000003+1)),some (.ref l),c5,c6,O,J]/\Z l=some (.lst us)/\AllAt (NAt [l] Z) us N/\N.length=i/\(∀p∈N,p.length=(kW G).toNat)/\Same H Z) (yE ([]) ([]) none none none none (j7 rfl jF AllAt.nil rfl (fun p hp=>by cases hp) u0)) ?_ ?_⟩
 ·rintro i Y Z hi ⟨us,N,c5,c6,O,J,rfl,hl,hA,ap,ah,sm⟩;rw [fe];refine ⟨aH _,fun S an=>?_⟩;have v0:=jL an (.lst []);refine j3 s G 0 ⟨rfl,((sm.trans v0).seq hS),⟨_,_,(jM rfl rfl (by show (0:Int)<2;decide) ⟨_,_,⟨rfl,rfl,jB rfl (?_)⟩⟩)⟩⟩
  change -2 ^ 62<=kW G/\kW G<2 ^ 62/\_
  refine ⟨by lia,by lia,Z9 (n:=(kW G).toNat) (fun j Y Hj=>∃(vs:List V) (p:List (Int×Int)) (O J:Option V),Y=[some (.ref s),some (.int (mo:Int)),some (.int u),some (.int (G.getD 0 0%1000003+1)),some (.ref l),some (.int (i:Int)),some (.ref S),O,J]/\Hj S=some (.lst vs)/\AllAt (QAt Hj) vs p/\p.length=j/\Same Z Hj) (j5 ([]) ([]) O J (jP rfl jF AllAt.nil rfl v0)) ?_ ?_⟩
  ·rintro j Y Hj hj ⟨vs,p,O,J,rfl,hn,hB,hp,sj⟩;rw [fe];refine ⟨_,_,(jM rfl rfl (.inl ⟨by decide,by decide⟩) ⟨_,_,(jM rfl rfl (.inr ⟨by lia,by lia⟩) ⟨_,_,⟨rfl,rfl,⟨_,_,(jM rfl rfl (.inl ⟨by decide,by decide⟩) ⟨_,_,⟨rfl,rfl,⟨_,_,(jM rfl rfl (.inl ⟨by lia,by lia⟩) ⟨_,_,(jM rfl rfl (by show (0:Int)<2147483647;decide) ?_)⟩)⟩⟩⟩)⟩⟩⟩)⟩)⟩
   try dsimp only
   generalize (G.getD 0 0%1000003+1)*(48271+7919*(i:Int)*(i:Int)+104729*(j:Int))%2147483647=mx;refine ⟨.inl ⟨rfl,_,so hn⟩,⟨_,_,(jM rfl rfl (by show (0:Int)<3;decide) ⟨_,_,(jM rfl rfl (.inl ⟨by lia,by lia⟩) ⟨_,_,(jM rfl rfl ⟨by decide,by decide⟩ ⟨_,_,(jM rfl rfl (by show (0:Int)<2;decide) ⟨_,_,⟨rfl,rfl,⟨_,_,(jM rfl rfl ⟨by decide,by decide⟩ ⟨_,_,(jM rfl rfl (by show (0:Int)<3;decide) ⟨_,_,(jP rfl rfl (.inl ⟨by lia,by lia⟩) zz2 (fun t ht=>?_))⟩)⟩)⟩⟩⟩)⟩)⟩)⟩)⟩⟩
   try dsimp only
   generalize u*(mx%3)+mx / 3%2=xa;generalize u*(mx / 6%3)=xb;have w:=jL ht (.tup [V.int xa,V.int xb]);refine j3 S _ _ (jP rfl rfl (w _ _ hn) (qX (by rw [hB.1];lia)) (j3 (vs++[.ref t]) (p++[(xa,xb)]) _ (jB rfl (jM jF ?_ (by rw [ag,hp];rfl) (qJ an (sj.trans w))))));exact ((hB.mono (QAt.same w)).snoc (v:=.ref t) (x:=(xa,xb)) ⟨t,rfl,jF⟩).mono (QAt.put (w _ _ hn))
  rintro Y Hj ⟨vs,p,O,J,rfl,hn,hB,hp,sj⟩;have a4:l≠S:=qE hl an;refine ⟨.inl ⟨rfl,_,so (sj _ _ hl)⟩,(j3 l _ _ (jP rfl rfl (sj _ _ hl) (qX (by rw [hA.1];lia)) (kS (us++[.ref S]) (N++[p]) _ _ _ (jB rfl (jP jF ?_ (by rw [ag,ap];rfl) (fun p' I=>?_) (qJ am (sm.trans sj)))))))⟩
  ·exact ((hA.mono (NAt.same sj)).snoc (v:=.ref S) (x:=p) ⟨S,vs,(jM rfl hn hB (by simp [Ne.symm a4]))⟩).mono (NAt.put (sj _ _ hl) (by simp))
  ·rcases ba.mp I with I|I
   ·exact ah p' I
   ·rw [aO.mp I];exact hp
 rintro Y Z ⟨us,N,c5,c6,O,J,rfl,hl,hA,ap,ah,sm⟩;exact q l us N Z sm am hl hA (by lia) ah
theorem dL:jV 4 ["cell","r","name","unit","least","crest","water","berths"] pH:=jU
include T in
theorem KB (F:kC K "_law_reach" pH f fd) (O:MkD P w K mg base 1 "Reach" cR ["self","name","least","crest","berths","water","target"] (tK cR)):FnOk P w K mg base jT 3 f fd ["cell","r","name","unit"] (B9 cR):=by
 refine F.ok2 dL fun vs H Q E h=>?_
 refine dA h fun c r nm u h=>?_
 refine bS h fun e_ G I q=>?_
 subst e_;refine ⟨rfl,fun _ _ _ _ hr=>?_⟩;refine tk fun l=>?_
 let u0:=ru l [5] (jN (cS O hr rfl (YR (jA 2) (jA 4) (jA 5) (jA 7) (jA 6) (jI yB (jI kO (jI qP (jA 0) jD) (jI kU (jA 1) jD)) jD))))
 let u1:=ru l [4] (ZH (j9 (j6 kP (jI kO (jA 0) jD) jD) (kM (jY 7 dL.nd (jI kU jD (jI kO (jI qP (jA 0) jD) jD)))) kA)
   u0.h)
 let u2:=ru l [3] (jH (jY 7 dL.nd (jI kU jD (jI kO (jI qP (jA 0) jD) jD)))
   u1.h)
 let u3:=ru l [2] (jH (jY 6 dL.nd (jI kU (jI y9 (jA 3) (jI kO (jI qP (jA 0) jD) jD)) (jI kO (jI qP (jA 0) jD) (jA 3))))
   u2.h)
 let u4:=ru l [1] (jH (jY 5 dL.nd (jI kU (jI kU (jA 4) (jI y9 (jA 3) (jI kO (jI qP (jA 0) jD) jD))) (jI kO (jI qP (jA 0) jD) jD)))
   u3.h)
 refine ⟨_,(jH (jY 4 dL.nd (jI y9 (jA 3) (jI kO (jA 0) jD)))
   u4.h),?_⟩
 try dsimp only [jX,jW]
 obtain ⟨a0,a1⟩:=vT c (show (0:Int)<3 by decide);obtain ⟨b0,b1⟩:=vT (c / 3) (show (0:Int)<6 by decide);obtain ⟨d0,d1⟩:=vT (c / 18) (show (0:Int)<3 by decide);obtain ⟨e0,e1⟩:=vT (c / 54) (show (0:Int)<9 by decide);obtain ⟨f0,f1⟩:=vT (c / 486) (show (0:Int)<u by lia);obtain ⟨g0,g1⟩:=vT (c / 7) (show (0:Int)<2 by decide);obtain ⟨h0,h1⟩:=vT (c / 5) (show (0:Int)<9 by decide);obtain ⟨i0,i1⟩:=vT (c / 11) (show (0:Int)<(r:Int)+1 by lia);obtain ⟨l,x1⟩:=mU a0 (show c%3<=2 by lia) G I;obtain ⟨y0,y1⟩:=mU b0 (show c / 3%6<=5 by lia) G I;obtain ⟨z0,z1⟩:=mU e0 (show c / 54%9<=8 by lia) G I;refine ⟨_,_,(jM rfl rfl (by show (0:Int)<3;decide) ⟨_,_,(jM rfl rfl (.inl ⟨by lia,by lia⟩) ⟨_,_,(jM rfl rfl ⟨by decide,by decide⟩ ⟨_,_,(jM rfl rfl (by show (0:Int)<6;decide) ⟨_,_,(jM rfl rfl (.inl ⟨by lia,by lia⟩) ⟨_,_,⟨rfl,rfl,⟨_,_,(jM rfl rfl ⟨by decide,by decide⟩ ⟨_,_,(jM rfl rfl (by show (0:Int)<3;decide) ⟨_,_,⟨rfl,rfl,⟨_,_,(jM rfl rfl ⟨by decide,by decide⟩ ⟨_,_,(jM rfl rfl (by show (0:Int)<9;decide) ⟨_,_,(jM rfl rfl (.inl ⟨by lia,by lia⟩) ⟨_,_,(jM rfl rfl ⟨by decide,by decide⟩ ⟨_,_,(jM rfl rfl (by lia) ⟨_,_,⟨rfl,rfl,⟨_,_,(jM rfl rfl ⟨by decide,by decide⟩ ⟨_,_,(jM rfl rfl (by show (0:Int)<2;decide) ⟨_,_,⟨rfl,rfl,?_⟩⟩)⟩)⟩⟩⟩)⟩)⟩)⟩)⟩)⟩⟩⟩)⟩)⟩⟩⟩)⟩)⟩)⟩)⟩)⟩;refine ⟨fun Z Hj=>∃J:Int,1<=J/\J<=9/\Z=[some (.int c),some (.int (r:Int)),some (.str nm),some (.int u),some (.int (u*(c%3))),some (.int (u*(c%3)+u*(c / 3%6)+c / 18%3)),some (.int (u*(c / 54%9)+c / 486%u)),some (.int J)]/\H=Hj,?_,?_⟩
 ·exact ⟨_,_,(jP rfl rfl (by show (0:Int)<5;decide) rfl (jB rfl (yQ (fun _=>⟨_,_,(jM rfl rfl ⟨by decide,by decide⟩ ⟨_,_,(jM rfl rfl (by show (0:Int)<9;decide) ⟨_,_,⟨rfl,rfl,⟨1+c / 5%9,(jM (by lia) (by lia) rfl rfl)⟩⟩⟩)⟩)⟩) (fun _=>⟨1+c / 7%2,(jM (by lia) (by lia) rfl rfl)⟩))))⟩
 rintro Z Hj ⟨J,j0,j1,rfl,rfl⟩;refine ⟨_,_,(jM rfl rfl ⟨by decide,by decide⟩ ⟨_,_,⟨rfl,rfl,⟨_,_,(jM rfl rfl (by lia) ⟨_,_,⟨rfl,rfl,?_⟩⟩)⟩⟩⟩)⟩;intro x dx V S ah;refine kI x dx _ _ _ _ _ (jB rfl (⟨jF,fun H' fs kp hx Y=>⟨rfl,?_⟩⟩));exact q x ⟨nm,u*(c%3),u*(c%3)+u*(c / 3%6)+c / 18%3,J,u*(c / 54%9)+c / 486%u,c / 11%((r:Int)+1) - 1⟩ H' (fB l (by show u*(c%3)<=u*(c%3)+u*(c / 3%6)+c / 18%3;lia) (by show u*(c%3)+u*(c / 3%6)+c / 18%3<=999999999999;lia) j0 j1 (by show 0<=u*(c / 54%9)+c / 486%u;lia) (by show u*(c / 54%9)+c / 486%u<=999999999999;lia) (by show -1<=c / 11%((r:Int)+1) - 1;lia) (by show c / 11%((r:Int)+1) - 1<(r:Int);lia)) (fV V (fZ V S) kp) V ⟨dx,fs,hx,Y⟩
theorem iV:jV 4 ["cell","name","ends","unit","room","extra"] pE:=jU
include T in
theorem IY (F:kC K "_law_lock" pE f fd) (a3:MkD P w K mg base 1 "PlainLock" cP ["self","name","high","low","room"] (d6 (jG cP cB cU))) (a4:MkD P w K mg base 2 "BasinLock" cB ["self","name","high","low","room","side"] (dZ (jG cP cB cU) .basin)) (ap:MkD P w K mg base 2 "PumpLock" cU ["self","name","high","low","room","lift"] (dZ (jG cP cB cU) .pump)):FnOk P w K mg base jT 4 f fd ["cell","name","ends","unit"] (DI (jG cP cB cU)):=by
 refine F.ok2 iV fun vs H Q E h=>?_
 refine yL h fun c nm t hi lo u n h=>?_
 refine eV h fun e_ Z V S Y am a5 q=>?_
 subst e_;refine ⟨rfl,fun _ _ _ _ hr=>?_⟩;refine tk fun O=>?_
 let u0:=ru O [4,0,0] (jN (cS a4 hr rfl (nS (jA 1) (jJ (jO K) (jA 2) jD) (jJ (jO K) (jA 2) jD) (jA 4) (jA 5))))
 let u1:=ru O [5] (jN (cS ap hr rfl (nS (jA 1) (jJ (jO K) (jA 2) jD) (jJ (jO K) (jA 2) jD) (jA 4) (jA 5))))
 let u2:=ru O [4] (jH (j9 (j6 kP (jI kO (jI qP (jA 0) jD) jD) jD) u0.h kA)
   u1.h)
 let u3:=ru O [3] (jH (j9 (j6 kP (jI kO (jI qP (jA 0) jD) jD) jD) (jN (cS a3 hr rfl (yS (jA 1) (jJ (jO K) (jA 2) jD) (jJ (jO K) (jA 2) jD) (jA 4)))) kA)
   u2.h)
 let u4:=ru O [2] (ZH (j9 (j6 kP (jI kO (jI qP (jA 0) jD) jD) jD) (kM (jY 5 iV.nd (jA 4))) kA)
   u3.h)
 let u5:=ru O [1] (jH (jY 5 iV.nd (jI kU jD (jI kO (jI qP (jA 0) jD) (jA 4))))
   u4.h)
 refine ⟨_,(jH (jY 4 iV.nd (jI kU (jI y9 (jA 3) (jI kU jD (jI kO (jA 0) jD))) (jI kO (jI qP (jA 0) jD) jD)))
   u5.h),?_⟩
 try dsimp only [jX,jW]
 obtain ⟨a0,a1⟩:=vT c (show (0:Int)<2 by decide);obtain ⟨b0,b1⟩:=vT (c / 2) (show (0:Int)<2 by decide);obtain ⟨O,x1⟩:=mU (show 0<=1+c%2 by lia) (show 1+c%2<=2 by lia) am a5;have x2:1<=u*(1+c%2):=by
  have:=Int.mul_le_mul am (show (1:Int)<=1+c%2 by lia) (by decide) (by lia)
  lia
 refine ⟨_,_,(jM rfl rfl (by show (0:Int)<2;decide) ⟨_,_,⟨rfl,rfl,⟨_,_,(jM rfl rfl (.inl ⟨by lia,by lia⟩) ⟨_,_,(jM rfl rfl ⟨by decide,by decide⟩ ⟨_,_,(jM rfl rfl (by show (0:Int)<2;decide) ⟨_,_,⟨rfl,rfl,?_⟩⟩)⟩)⟩)⟩⟩⟩)⟩;have r0:1<=u*(1+c%2)+c / 2%2:=by lia
 have r1:u*(1+c%2)+c / 2%2<=999999999999:=by lia
 try dsimp only
 generalize u*(1+c%2)+c / 2%2=I at r0 r1 ⊢;obtain ⟨d0,d1⟩:=vT (c / 12) (show (0:Int)<I by lia);refine ⟨_,_,(jM rfl rfl ⟨by decide,by decide⟩ ⟨_,_,(jM rfl rfl (by lia) ⟨_,_,⟨rfl,rfl,?_⟩⟩)⟩)⟩;refine ⟨fun σ Hj=>∃ex:Int,(1<=ex/\ex<=I)/\σ=[some (.int c),some (.str nm),some (.ref t),some (.int u),some (.int I),some (.int ex)]/\H=Hj,?_,?_⟩
 ·exact ⟨_,_,(jM rfl rfl ⟨by decide,by decide⟩ ⟨_,_,(jP rfl rfl (by show (0:Int)<5;decide) rfl (jB rfl (yQ (fun _=>⟨I,⟨by lia,by lia⟩,rfl,rfl⟩) (fun _=>⟨1+c / 12%I,⟨by lia,by lia⟩,rfl,rfl⟩))))⟩)⟩
 rintro σ Hj ⟨ex,an,rfl,rfl⟩;refine ⟨_,_,(jM rfl rfl ⟨by decide,by decide⟩ ⟨_,_,(jP rfl rfl (by show (0:Int)<3;decide) rfl (jB rfl (yQ (fun _=>?_) (fun _=>?_))))⟩)⟩
 ·refine jK (SqT.of Z) rfl (jK (SqT.of Z) rfl (?_));intro x J G l ah;refine yE (.plain) x J _ _ _ (jB rfl (⟨jF,fun H' kp hx=>⟨rfl,?_⟩⟩));refine q x ⟨nm,hi,lo,I,.plain,0⟩ H' (y6 (by show 1<=hi;lia) Y V S r0 r1 (fun _=>rfl) (fun z=>absurd rfl z)) (fV G (fZ G l) kp) G ⟨x,rfl,J,hx⟩
 refine ⟨_,_,(jM rfl rfl ⟨by decide,by decide⟩ ⟨_,_,(jP rfl rfl (by show (0:Int)<3;decide) rfl (jB rfl (yQ (fun _=>?_) (fun _=>?_))))⟩)⟩
 ·refine jK (SqT.of Z) rfl (jK (SqT.of Z) rfl (?_));intro x J G l ah;refine yE x J _ _ _ _ (jB rfl (⟨jF,fun H' kp hx=>⟨rfl,?_⟩⟩));refine q x ⟨nm,hi,lo,I,.basin,ex⟩ H' (y6 (by show 1<=hi;lia) Y V S r0 r1 (fun z=>nomatch z) (fun _=>an)) (fV G (fZ G l) kp) G ⟨x,rfl,J,hx⟩
 refine jK (SqT.of Z) rfl (jK (SqT.of Z) rfl (?_));intro x J G l ah;refine yE x J _ _ _ _ (jB rfl (⟨jF,fun H' kp hx=>⟨rfl,?_⟩⟩));refine q x ⟨nm,hi,lo,I,.pump,ex⟩ H' (y6 (by show 1<=hi;lia) Y V S r0 r1 (fun z=>nomatch z) (fun _=>an)) (fV G (fZ G l) kp) G ⟨x,rfl,J,hx⟩
theorem QO:jV 2 ["script","most","unit","named","ends","nights","reaches","r","locks","k","cell"] pB:=jU
include T in
theorem IU (F:kC K "_law_canal" pB f fd) (zq:Def P w K mg base 2 "_law_unit" ["script"] [] (lP K)) (xj:Def P w K mg base 1 "_law_cell_at" ["script","k"] [] (dX K)) (wg:Def P w K mg base 2 "_law_ends" ["script"] [] (uM K)) (vf:Def P w K mg base 3 "_law_nights" ["script","most"] [] (tQ K)) (b8:Def P w K mg base 3 "_law_reach" ["cell","r","name","unit"] [] (B9 cR)) (xr:Def P w K mg base 1 "_law_name" ["cell","k"] [] (lQ)) (bt:Def P w K mg base 4 "_law_lock" ["cell","name","ends","unit"] [] (DI (jG cP cB cU))) (b7:MkD P w K mg base 1 "Canal" cN ["self","reaches","locks","nights"] (tL (jG cP cB cU) cR cN)):FnOk P w K mg base jT 6 f fd ["script","most"] (CD K (jG cP cB cU) cR cN):=by
 refine F.ok2 QO fun vs H Q E h=>?_
 refine bR h fun s G mo h=>?_
 refine bS h fun e_ hS b2 q=>?_
 subst e_;refine ⟨rfl,fun _ _ _ _ I=>?_⟩;have a6:=mY I;refine tk fun x0=>?_
 let u0:=ru x0 [5,0,0] (kM (vL (yY aM aR aS zP (jA 6) (jC (jR b8 I rfl (yS (jR xj I rfl (jC (jA 0) (jC (jI kU jD (jA 7)) jE))) (jA 7) (jR xr I rfl (jC (jA 3) (jC (jA 7) jE))) (jA 2))) jE))))
 let u1:=ru x0 [7,0,1] (kM (vL (yY aM aR aS zP (jA 8) (jC (jR bt I rfl (yS (jA 10) (jR xr I rfl (jC (jA 3) (jC (jI kU jD (jA 9)) jE))) (jJ (qD K) (jA 4) (jA 9)) (jA 2))) jE))))
 let u2:=ru x0 [7,0,0] (jH (jY 10 QO.nd (jI qP (jR xj I rfl (jC (jA 0) (jC (jI kU jD (jA 9)) jE))) jD))
   u1.h)
 let u3:=ru x0 [7] (jH (zL ci rfl (ZB (by rfl) T.xz (jC (vF K T.xq (jA 4)) jE)) (kT (i:=9) QO.nd rfl (.inl rfl))
    u2.h)
   (jN (cS b7 I rfl (qQ (jA 6) (jA 8) (jA 5)))))
 let u4:=ru x0 [6] (jH (jY 8 QO.nd (qC jE))
   u3.h)
 let u5:=ru x0 [5] (jH (zL ci rfl (ZB (by rfl) T.xz (jC (jI kU jD (jI kO (jR xj I rfl (jC (jA 0) (jC jD jE))) jD)) jE)) (kT (i:=7) QO.nd rfl (.inl rfl))
    u0.h)
   u4.h)
 let u6:=ru x0 [4] (jH (jY 6 QO.nd (qC jE))
   u5.h)
 let u7:=ru x0 [3] (jH (jY 5 QO.nd (jR vf I rfl (jC (jA 0) (jC (jA 1) jE))))
   u6.h)
 let u8:=ru x0 [2] (jH (jY 4 QO.nd (jR wg I rfl (jC (jA 0) jE)))
   u7.h)
 let u9:=ru x0 [1] (jH (jY 3 QO.nd (jR xj I rfl (jC (jA 0) (jC jD jE))))
   u8.h)
 refine ⟨_,(jH (jY 2 QO.nd (jR zq I rfl (jC (jA 0) jE)))
   u9.h),?_⟩
 try dsimp only [jX,jW]
 have hm:=cF G;obtain ⟨n,hn⟩:∃n:Nat,kW G=(n:Int):=⟨(kW G).toNat,by lia⟩;refine ⟨s,G,rfl,hS,fun u a9 a6=>?_⟩;refine j3 s G 2 (kG rfl hS (?_));refine ⟨s,G,rfl,hS,fun el us es H1 s1 cd bl hE J=>?_⟩;refine j3 s G mo (jM rfl (s1.seq hS) b2 (fun nl nv N H2 s2 ce b9 hN cn b3=>?_));have a3:=s1.trans s2;refine ⟨aH _,fun rl Y=>?_⟩;have s3:=a3.trans (jL Y (.lst []));refine j3 s G 0 ⟨rfl,(s3.seq hS),⟨_,_,(jM rfl rfl (by show (0:Int)<2;decide) ⟨_,_,⟨rfl,rfl,jB rfl (?_)⟩⟩)⟩⟩
 change -2 ^ 62<=kW G/\kW G<2 ^ 62/\_
 refine ⟨by lia,by lia,Z9 (n:=(kW G).toNat) (fun i σ Hi=>∃(rs:List V) (R:List RC) (c7:Option V),σ=[some (.ref s),some (.int (mo:Int)),some (.int u),some (.int (G.getD 2 0)),some (.ref el),some (.ref nl),some (.ref rl),c7,none,none,none]/\Hi rl=some (.lst rs)/\AllAt (RcO cR Hi) rs R/\R.length=i/\(∀(j:Nat) (r:RC),R[j]?=some r->r.good j)/\Same H2 Hi) (j3 ([]) ([]) none (j7 rfl jF AllAt.nil rfl (fun j r hj=>by cases hj) (jL Y _))) ?_ ?_⟩
 ·rintro i σ Hi hi ⟨rs,R,c7,rfl,O,hR,am,a4,sm⟩;rw [fe];refine ⟨.inl ⟨rfl,_,so O⟩,⟨_,_,⟨rfl,rfl,(j3 s G (3+i) ⟨rfl,((a3.trans sm).seq hS),⟨_,jB rfl (fun z hz=>?_)⟩⟩)⟩⟩⟩;refine j5 _ i z u (jM rfl a9 a6 (fun x rc H' hg s' ca hx=>?_));refine j3 rl _ _ (jP rfl rfl (s' _ _ O) (qX (by rw [hR.1];lia)) ⟨rs++[.ref x],R++[rc],jB rfl (jP jF ?_ (by rw [ag,am];rfl) (fun j r' hj=>?_) (qJ Y (sm.trans s')))⟩)
  ·exact ((hR.mono (RcO.same s')).snoc (v:=.ref x) (x:=rc) ⟨x,rfl,hx⟩).mono (RcO.keep ((Keep.refl rl H').upd _) (s' _ _ O))
  by_cases hl:j<R.length
  ·rw [aG hl] at hj;exact a4 j r' hj
  ·rw [aA (by lia)] at hj;have hz:j - R.length=0:=by
    have:=(ae.mp hj).1;rw [ax] at this
    lia
   rw [hz] at hj;cases hj;rw [show j=i by lia];exact hg
 rintro σ H3 ⟨rs,R,c7,rfl,O,hR,am,a4,s3⟩;refine ⟨aH _,fun ll ah=>?_⟩;have v0:=jL ah (.lst []);have be:=a3.trans s3;refine ⟨el,jB rfl (⟨.inl (so (v0 _ _ (s3 _ _ (s2 _ _ bl)))),jB rfl (⟨by have:=J.2.1;have:=hE.1;lia,by have:=J.2.1;have:=hE.1;lia,Z9 (n:=((us.length:Nat):Int).toNat) (fun i σ Hi=>∃(ls:List V) (L:List LC) (c9 ap:Option V),σ=[some (.ref s),some (.int (mo:Int)),some (.int u),some (.int (G.getD 2 0)),some (.ref el),some (.ref nl),some (.ref rl),c7,some (.ref ll),c9,ap]/\Hi ll=some (.lst ls)/\AllAt (LkO (jG cP cB cU) Hi) ls L/\L.length=i/\(∀l∈L,l.good n)/\Same H3 Hi) (j5 ([]) ([]) none none (j7 rfl jF AllAt.nil rfl (fun l hl=>by cases hl) v0)) ?_ ?_⟩)⟩)⟩
 ·rintro i σ Hi hi ⟨ls,L,c9,ap,rfl,S,hL,a5,an,sm⟩;rw [bd] at hi;rw [fe];have h3:=J.2.1;have b4:=hE.1;have b0:=be.trans sm;obtain ⟨v,hv⟩:∃v,us[i]?=some v:=⟨_,aa hi⟩;obtain ⟨p,hp,t,rfl,ht⟩:=hE.2 i v hv;obtain ⟨p0,p1,p2⟩:=J.2.2.1 p (az hp);have a8:=s2.trans (s3.trans sm);refine ⟨_,_,⟨rfl,rfl,(j3 s G (3+i) ⟨rfl,(b0.seq hS),⟨_,_,(jP rfl rfl ⟨by decide,by decide⟩ (.inl ⟨rfl,_,so S⟩) ⟨_,_,⟨rfl,rfl,⟨_,jB rfl (fun z hz=>?_)⟩⟩⟩)⟩⟩)⟩⟩;refine qM (so (a8 _ _ bl)) (qH hv) (kI _ z t p.1 p.2 u n (y6 rfl (a8 _ _ ht) p0 p1 (by lia) a9 a6 (fun x l H' hg s' ca hx=>?_)));refine j3 ll _ _ (jP rfl rfl (s' _ _ S) (qX (by rw [hL.1];lia)) (j3 (ls++[.ref x]) (L++[l]) _ (jB rfl (jP jF ?_ (by rw [ag,a5];rfl) (fun l' Z=>?_) (qJ ah (sm.trans s'))))))
  ·exact ((hL.mono (LkO.same s')).snoc (v:=.ref x) (x:=l) hx).mono (LkO.keep ((Keep.refl ll H').upd _) (s' _ _ S))
  rcases ba.mp Z with Z|Z
  ·exact an l' Z
  ·rw [aO.mp Z];exact hg
 rintro σ H4 ⟨ls,L,c9,ap,rfl,S,hL,a5,an,s4⟩;rw [bd] at a5;have h3:=J.2.1;have b4:=hE.1;intro x dx nx b1 cj;have v:=fun o o'=>fZ (o:=o) (o':=o') nx b1
 have a7:=s3.trans s4;refine eS x dx rl ll _ rs ls R L N (y6 rfl jF (v _ _ _ _ (s4 _ _ O)) (v _ _ _ _ S) ((hR.mono (RcO.same s4)).mono (RcO.same (v _ _))) (hL.mono (LkO.same (v _ _))) (.inr ⟨nl,nv,(jM rfl (v _ _ _ _ (a7 _ _ b9)) ((hN.mono (NAt.same (a7.trans (v _ _)))).mono (NAt.less (by simp))) (by rw [hN.1];lia))⟩) (fun H' kp hC=>⟨rfl,?_⟩));have w:=be.trans s4;exact q x R L N H' ⟨by lia,by lia,by lia,by lia,a4,fun i l hl=>by rw [show R.length=n by lia];exact an l (az hl),fun p hp=>by rw [b3 p hp,am]⟩ (w.trans (fV nx (v _ _) kp)) (w.free nx) (hC [] (fun d hd=>nomatch hd))
theorem Z7:jV 4 ["cell","ends","named","at","steps","k","doors","lock","way"] iH:=jU
include T in
theorem KC (F:kC K "_law_steps" iH f fd) (xr:Def P w K mg base 1 "_law_name" ["cell","k"] [] (lQ)):FnOk P w K mg base jT 2 f fd ["cell","ends","named","at"] (B6):=by
 refine F.ok2 Z7 fun vs H Q E h=>?_
 refine yL h fun c nd a m l us es h=>?_
 refine ZZ h fun e_ hl hA hE ah am q=>?_
 subst e_;refine ⟨rfl,fun _ _ _ _ hr=>?_⟩;refine tk fun Y=>?_
 let u0:=ru Y [1,0,5] (kM (vL (yY aM aR aS zP (jA 4) (jC (kX (jC (jR xr hr rfl (jC (jA 2) (jC (jI kU jD (jA 7)) jE))) (jC (jA 8) jE))) jE))))
 let u1:=ru Y [1,0,4] (jH (jY 3 Z7.nd (jI yB (jI kU (jJ (jO K) (jJ (qD K) (jA 1) (jA 7)) jD) (jJ (jO K) (jJ (qD K) (jA 1) (jA 7)) jD)) (jA 3)))
   u0.h)
 let u2:=ru Y [1,0,3] (ZH (j9 (j6 kP (jJ (jO K) (jJ (qD K) (jA 1) (jA 7)) jD) (jA 3)) (kM (jY 8 Z7.nd j4)) kA)
   u1.h)
 let u3:=ru Y [1,0,2] (jH (jY 8 Z7.nd j4)
   u2.h)
 let u4:=ru Y [1,0,1] (jH (jY 7 Z7.nd (jJ (qD K) (jA 6) (jI kO (jI qP (jA 0) (jI kU jD (jI y9 jD (jA 5)))) (vF K T.xq (jA 6)))))
   u3.h)
 let u5:=ru Y [1,0,0] (jH (fM (i:=6) ["j","at","ends"] (vM 1 [3,1]) Z7.nd rfl (.inl rfl) rfl (yF (kF iH)) (cps 1 [3,1]) (ZB (by rfl) T.xz (jC (vF K T.xq (jA 1)) jE)) (fun _ _ _ _ _=>(kT (i:=0) (show List.Nodup (["j","at","ends"]:List Str) from by trivial) rfl (.inl rfl))) (fun _ _ _ _ _=>(d9 (j6 (BL K) (jA 1) (jJ (qD K) (jA 2) (jA 0))))) (fun _ _ _ _ _=>(jA 0)))
   u4.h)
 let u6:=ru Y [2] (jH (j9 (j6 kP (jI kO (jI qP (jA 0) jD) jD) jD) (jN (vP (bY K) (by rfl) T.xy bh (jC (jI QF (jA 4) (fU (uN K) (jA 4) fY (fF jD))) jE))) kA)
   (jN (vP (bY K) (by rfl) T.xy bh (jC (jA 4) jE))))
 let u7:=ru Y [1] (jH (zL ci rfl (ZB (by rfl) T.xz (jC (jI kU jD (jI kO (jA 0) jD)) jE)) (kT (i:=5) Z7.nd rfl (.inl rfl))
    u5.h)
   u6.h)
 refine ⟨_,(jH (jY 4 Z7.nd (qC jE))
   u7.h),?_⟩
 try dsimp only [jX,jW]
 obtain ⟨m0,m1⟩:=vT c (show (0:Int)<2 by decide);have h3:=hE.2.1;have b2:=hA.1;refine ⟨aH _,fun st an=>?_⟩;refine ⟨_,_,(jM rfl rfl (by show (0:Int)<2;decide) ⟨_,_,⟨rfl,rfl,jB rfl (⟨by lia,by lia,Z9 (n:=(1+c%2).toNat) (fun i σ Hi=>∃(a:Int) (vs:List V) (ps:List (Str×Bool)) (c5 c6 c7 c8:Option V),σ=[some (.int c),some (.ref l),some (.int nd),some (.int a),some (.ref st),c5,c6,c7,c8]/\0<=a/\a<m/\Hi st=some (.lst vs)/\AllAt (SAt Hi) vs ps/\ps.length=i/\Same H Hi) (kI a ([]) ([]) none none none none (vS rfl ah am jF AllAt.nil rfl (jL an _))) ?_ ?_⟩)⟩⟩)⟩
 ·clear ah am;rintro i σ Hi hi ⟨a,vs,ps,c5,c6,c7,c8,rfl,ah,am,I,hP,a8,sm⟩;rw [fe];refine ⟨l,jB rfl (⟨.inl (so (sm _ _ hl)),jB rfl (⟨by lia,by lia,fun D a7=>?_⟩)⟩)⟩;refine BD (n:=((us.length:Nat):Int).toNat) (caps:=[some (.int a),some (.ref l)]) (fun i ys Hi=>∃S:List Nat,ys=S.map (fun j:Nat=>V.int (j:Int))/\(∀j∈S,j<us.length/\gT es a j)/\∀j,j<i->gT es a j->j∈S) a7 ⟨[],rfl,(fun j J=>by cases J),fun j J=>absurd J (gb _)⟩ ?_ ?_
  ·rintro j ys Hj J Z sj hY ⟨S,rfl,h1,h2⟩;rw [bd] at J;rw [fe];obtain ⟨v,hv⟩:∃v,us[j]?=some v:=⟨_,aa J⟩;obtain ⟨p,hp,t,rfl,ht⟩:=hA.2 j v hv;have s2:=sm.trans sj;refine qM (so (s2 _ _ hl)) (qH hv) (⟨t,jB rfl (jM (.inr (SqT.of (s2 _ _ ht))) rfl rfl (jB rfl (?_)))⟩)
   by_cases ho:gT es a j
   ·rw [show zE (V.int a) [V.int p.1,V.int p.2]=true from V6 hp ho];refine qA (Q7 a7 sj hY Z (by lia) (Same.refl _) ⟨S++[j],by rw [aK];rfl,fun j' G=>?_,fun j' G O=>?_⟩)
    ·rcases ba.mp G with G|G
     ·exact h1 j' G
     ·rw [aO.mp G];exact ⟨J,ho⟩
    ·by_cases e:j'=j
     ·rw [e];exact bb _ (aO.mpr rfl)
     ·exact da _ (h2 j' (by lia) O)
   ·rw [show zE (V.int a) [V.int p.1,V.int p.2]=false from U2 hp ho];refine qB (lJ sj hY Z (Same.refl _) ⟨S,rfl,h1,fun j' G O=>?_⟩)
    by_cases e:j'=j
    ·rw [e] at O;exact absurd O ho
    ·exact h2 j' (by lia) O
  rintro ys H2 s2 hD Z ⟨S,rfl,h1,h2⟩;rw [bd,ac] at Z;rw [bd] at h2;have b4:0<S.length:=by
   obtain ⟨p,hp,e⟩:=hE.2.2.2 a ah am;obtain ⟨j,J⟩:=gd.mp hp;have b3:=(ae.mp J).1;exact length_pos_of_mem (h2 j (by lia) ⟨p,J,e⟩)
  obtain ⟨Y,x1⟩:=vT (c / (2+3*(i:Int))) (show (0:Int)<(((S.map fun j:Nat=>V.int (j:Int)).length:Nat):Int) by rw [ac];lia);refine ⟨_,_,(jM rfl rfl (.inl ⟨by decide,by decide⟩) ⟨_,_,⟨rfl,rfl,⟨_,_,(jM rfl rfl ⟨by lia,by lia⟩ ⟨D,jB rfl (⟨.inl (so hD),⟨_,_,(jM rfl rfl (by rw [ac];lia) ?_)⟩⟩)⟩)⟩⟩⟩)⟩;obtain ⟨j,J,be⟩:=VL S Y x1;obtain ⟨b0,p,hp,b7⟩:=h1 j J;obtain ⟨v,hv⟩:∃v,us[j]?=some v:=⟨_,aa b0⟩;obtain ⟨p',a6,t,rfl,ht⟩:=hA.2 j v hv;rw [hp] at a6;cases a6;obtain ⟨q0,q1,q2⟩:=hE.2.2.1 p (az hp);have sH:=sm.trans s2;have a5:=sH _ _ hl;have a3:=sH _ _ ht;refine qM (so hD) be (?_);refine ⟨fun σ Hj=>∃w:Bool,σ=[some (.int c),some (.ref l),some (.int nd),some (.int a),some (.ref st),some (.int (i:Int)),some (.ref D),some (.int (j:Int)),some (.str (Z3 w))]/\H2=Hj,?_,?_⟩
  ·exact qM (so a5) (qH hv) (jK (SqT.of a3) rfl (⟨rfl,jB rfl (yQ (fun _=>⟨false,rfl,rfl⟩) (fun _=>⟨true,rfl,rfl⟩))⟩))
  rintro σ Hj ⟨w,rfl,rfl⟩;refine qM (so a5) (qH hv) (jK (SqT.of a3) rfl (qM (so a5) (qH hv) (jK (SqT.of a3) rfl (qS (qS (?_))))));refine ⟨.inl ⟨rfl,_,so (s2 _ _ I)⟩,_,_,rfl,rfl,_,jB rfl (fun z hz=>⟨zz2,fun t2 a9=>?_⟩)⟩;have u:=jL a9 (.tup [V.str z,V.str (Z3 w)]);have ap:=u _ _ (s2 _ _ I);refine j3 st _ _ (jP rfl rfl ap (qX (by rw [hP.1];lia)) (yE (p.1+p.2 - a) (vs++[.ref t2]) (ps++[(z,w)]) _ _ _ (jB rfl (j7 (by lia) (by lia) jF ?_ (by rw [ag,a8];rfl) (qJ an (sH.trans u))))));exact ((hP.mono (SAt.same (s2.trans u))).snoc (v:=.ref t2) (x:=(z,w)) ⟨t2,rfl,jF⟩).mono (SAt.put ap)
 rintro σ Hi ⟨a,vs,ps,c5,c6,c7,c8,rfl,_,_,I,hP,a8,sm⟩;have b1:=hP.1;refine ⟨_,_,(jM rfl rfl ⟨by decide,by decide⟩ ⟨_,_,(jP rfl rfl (by show (0:Int)<9;decide) rfl (jB rfl (yQ (fun _=>?_) (fun _=>?_))))⟩)⟩
 ·refine jB rfl (⟨st,jB rfl (⟨so I,fun p1 bl=>?_⟩)⟩);have u1:=jL bl (.lst (JJ vs none (some 1)));refine j5 st p1 vs _ (j7 rfl rfl (u1 _ _ I) jF (QB ?_) (fun p2 bt=>?_))
  ·rw [GF];rw [aW];lia
  have u2:=jL bt (.lst (vs++JJ vs none (some 1)));refine ⟨p2,jB rfl (.inl ⟨so jF,fun t ht=>?_⟩)⟩;have u3:=jL ht (.tup (vs++JJ vs none (some 1)));have u:=u1.trans (u2.trans u3);have a4:=hP.mono (SAt.same u);refine q t _ (ps++ps.take 1) _ (sm.trans u) jF ?_ (by rw [ag];lia) (by rw [ag,aW];lia);rw [GF] at a4 ⊢;exact a4.app (a4.take 1)
 refine ⟨st,jB rfl (.inl ⟨so I,fun t ht=>?_⟩)⟩;have u:=jL ht (.tup vs);exact q t _ ps _ (sm.trans u) jF (hP.mono (SAt.same u)) (by lia) (by lia)
theorem Q9:jV 4 ["rest","script","many","day","nights","weather","r","comes","goes"] pL:=jU
include T in
theorem KH (F:kC K "_law_weather" pL f fd) (vf:Def P w K mg base 3 "_law_nights" ["script","most"] [] (tQ K)):FnOk P w K mg base jT 4 f fd ["rest","script","many","day"] (AX K):=by
 refine F.ok2 Q9 fun vs H Q E h=>?_
 refine dA h fun s O c d h=>?_
 refine bS h fun e_ hS bt q=>?_
 subst e_;refine ⟨rfl,fun _ _ _ _ hr=>?_⟩;refine tk fun x0=>?_
 let u0:=ru x0 [2,0,2,0,0] (jH (jY 7 Q9.nd (jJ (jO K) (jJ (qD K) (jJ (qD K) (jA 4) (jA 3)) (jA 6)) jD))
   (kM (jY 8 Q9.nd (jJ (jO K) (jJ (qD K) (jJ (qD K) (jA 4) (jA 3)) (jA 6)) jD))))
 let u1:=ru x0 [2,0,4] (kM (vL (yY aM aR aS zP (jA 5) (jC (kX (jC (jA 7) (jC (vK (CV rfl) (by rfl) T.jo PyProof.Rows.boot_max (jC jD (jC (jI yB (jA 8) (jI kO (jI qP (jA 0) (jI kU jD (jI y9 jD (jA 6)))) jD)) jE))) jE))) jE))))
 let u2:=ru x0 [2,0,3] (jH (jY 7 Q9.nd (jI kU (jA 7) (jI y9 (jI kO (jI qP (jA 0) jD) jD) (jI kO (jI qP (jA 0) (jI kU jD (jI y9 jD (jA 6)))) jD))))
   u1.h)
 let u3:=ru x0 [2,0,2] (ZH (j9 (j6 ZO (jA 3) (vF K T.xq (jA 4))) u0.h kA)
   u2.h)
 let u4:=ru x0 [2,0,1] (jH (jY 8 Q9.nd jD)
   u3.h)
 let u5:=ru x0 [2,0,0] (jH (jY 7 Q9.nd jD)
   u4.h)
 let u6:=ru x0 [4,0,0] (kM (gE (kX (jC (jI yB (jJ (jO K) (jJ (qD K) (jA 5) jD) jD) jD) (jC (jJ (jO K) (jJ (qD K) (jA 5) jD) jD) jE))) (gG (jA 5) jD bB)))
 let u7:=ru x0 [5,0,0] (kM (gE (kX (jC (jJ (jO K) (jJ (qD K) (jA 5) (jI yB (jA 2) jD)) jD) (jC (jI kU (jJ (jO K) (jJ (qD K) (jA 5) (jI yB (jA 2) jD)) jD) jD) jE))) (gG (jA 5) (jI yB (jA 2) jD) bB)))
 let u8:=ru x0 [5] (ZH (j9 (j6 kP (jI kO (jA 0) jD) jD) u7.h kA)
   (jN (vP (bY K) (by rfl) T.xy bh (jC (jA 5) jE))))
 let u9:=ru x0 [4] (ZH (j9 (PW.pt (mH (j6 kP (jI kO (jA 0) jD) jD) (lY (j6 w6 (jJ (jO K) (jJ (qD K) (jA 5) jD) jD) jD)))) u6.h kA)
   u8.h)
 let a6:=ru x0 [3] (ZH (j9 (j6 kP (jI kO (jA 0) jD) jD) (kM (vL (yY aM aR aS zP (jA 5) (jC (kX (jC jD (jC jD jE))) jE)))) kA)
   u9.h)
 let a7:=ru x0 [2] (jH (zL ci rfl (ZB (by rfl) T.xz (jC (jA 2) jE)) (kT (i:=6) Q9.nd rfl (.inl rfl))
    u5.h)
   a6.h)
 let a8:=ru x0 [1] (jH (jY 5 Q9.nd (qC jE))
   a7.h)
 refine ⟨_,(jH (jY 4 Q9.nd (jR vf hr rfl (jC (jA 1) (jC jD jE))))
   a8.h),?_⟩
 try dsimp only [jX,jW]
 have hm:=cF O;refine j3 s O 3 (jM rfl hS (by decide) (fun nl nv N H1 s1 be a4 hN b0 a9=>?_));refine ⟨aH _,fun wl S=>?_⟩;have u0:=jL S (.lst []);refine jB rfl (⟨by lia,by lia,Z9 (n:=(kW O).toNat) (fun i Y Hi=>∃(G:List V) (W:List (Int×Int)) (c6 c7 c8:Option V),Y=[some (.int c),some (.ref s),some (.int (kW O)),some (.int d),some (.ref nl),some (.ref wl),c6,c7,c8]/\Hi wl=some (.lst G)/\AllAt (QAt Hi) G W/\W.length=i/\Same H1 Hi) (kS ([]) ([]) none none none (jP rfl jF AllAt.nil rfl u0)) ?_ ?_⟩)
 ·rintro i Y Hi hi ⟨G,W,c6,c7,c8,rfl,l,J,a3,I⟩;rw [fe];refine ⟨fun Y Hj=>∃(xc xg:Int),Y=[some (.int c),some (.ref s),some (.int (kW O)),some (.int d),some (.ref nl),some (.ref wl),some (.int (i:Int)),some (.int xc),some (.int xg)]/\Hi=Hj,?_,?_⟩
  ·refine ⟨nl,jB rfl (⟨.inl (so (I _ _ a4)),_,_,rfl,rfl,jB rfl (?_)⟩)⟩
   by_cases hd:d<(nv.length:Int)
   ·obtain ⟨v,hv⟩:∃v,nv[d.toNat]?=some v:=⟨_,aa (by lia)⟩;obtain ⟨p,hp,l2,qs,rfl,h1,h2,_⟩:=hN.2 _ v hv;have hpl:=a9 p (az hp);obtain ⟨v2,a5⟩:∃v,qs[i]?=some v:=⟨_,aa (by have:=h2.1;lia)⟩;obtain ⟨p2,bl,t,rfl,ht⟩:=h2.2 i v2 a5;have Z:=qH hv;rw [show ((d.toNat:Nat):Int)=d by lia] at Z
    refine kY hd (qM (so (I _ _ a4)) Z (qM (so (I _ _ h1)) (qH a5) (jK (SqT.of (I _ _ ht)) rfl (qM (so (I _ _ a4)) Z (qM (so (I _ _ h1)) (qH a5) (jK (SqT.of (I _ _ ht)) rfl (?_)))))));exact ⟨p2.1,p2.2,rfl,rfl⟩
   ·exact kE hd ⟨0,0,rfl,rfl⟩
  rintro Y Hj ⟨xc,xg,rfl,rfl⟩;refine ⟨_,_,(jM rfl rfl ⟨by decide,by decide⟩ ⟨_,_,(jM rfl rfl (by show (0:Int)<3;decide) ⟨_,_,(jM rfl rfl (.inl ⟨by decide,by decide⟩) ⟨_,_,⟨rfl,rfl,⟨_,_,(jM rfl rfl ⟨by lia,by lia⟩ ⟨_,_,(jM rfl rfl (by show (0:Int)<1000;decide) ⟨_,_,(jM rfl rfl (.inl ⟨by lia,by lia⟩) ⟨_,_,⟨rfl,rfl,?_⟩⟩)⟩)⟩)⟩⟩⟩)⟩)⟩)⟩
  try dsimp only
  generalize xc+c / 8%3*(c / (24+5*(i:Int))%1000)=ya;refine ⟨.inl ⟨rfl,_,so l⟩,⟨_,_,(jM rfl rfl (.inl ⟨by decide,by decide⟩) ⟨_,_,⟨rfl,rfl,⟨_,_,(jM rfl rfl ⟨by lia,by lia⟩ ⟨_,_,(jM rfl rfl (by show (0:Int)<2;decide) ⟨_,_,⟨rfl,rfl,⟨_,jB rfl (⟨zz2,fun t ht=>?_⟩)⟩⟩⟩)⟩)⟩⟩⟩)⟩⟩
  try dsimp only
  generalize (if xg - c / (48+7*(i:Int))%2>0 then xg - c / (48+7*(i:Int))%2 else 0)=yb;have w:=jL ht (.tup [V.int ya,V.int yb]);refine j3 wl _ _ (jP rfl rfl (w _ _ l) (qX (by rw [J.1];lia)) (j5 (G++[.ref t]) (W++[(ya,yb)]) _ _ (jB rfl (jM jF ?_ (by rw [ag,a3];rfl) (qJ S (I.trans w))))));exact ((J.mono (QAt.same w)).snoc (v:=.ref t) (x:=(ya,yb)) ⟨t,rfl,jF⟩).mono (QAt.put (w _ _ l))
 rintro Y Hi ⟨G,W,c6,c7,c8,rfl,l,J,a3,I⟩;refine ⟨fun Y Hj=>∃(G:List V) (W:List (Int×Int)),Y=[some (.int c),some (.ref s),some (.int (kW O)),some (.int d),some (.ref nl),some (.ref wl),c6,c7,c8]/\Hj wl=some (.lst G)/\AllAt (QAt Hj) G W/\(kW O).toNat<=W.length/\W.length<=50/\Same H1 Hj,?_,?_⟩
 ·refine ⟨_,_,(jP rfl rfl (by show (0:Int)<8;decide) rfl (jB rfl (yQ (fun _=>?_) (fun _=>⟨G,W,(j7 rfl l J (by lia) (by lia) I)⟩))))⟩;refine ⟨.inl ⟨rfl,_,so l⟩,zz2,fun t ht=>?_⟩;have u:=jL ht (.tup [V.int 0,V.int 0]);refine j3 wl _ _ (jP rfl rfl (u _ _ l) (qX (by rw [J.1];lia)) ⟨G++[.ref t],W++[(0,0)],(j7 rfl jF ?_ (by rw [ag];lia) (by rw [ag,ax];lia) (qJ S (I.trans u)))⟩);exact ((J.mono (QAt.same u)).snoc (v:=.ref t) (x:=(0,0)) ⟨t,rfl,jF⟩).mono (QAt.put (u _ _ l))
 clear l J a3 I G W;rintro Y Hi ⟨G,W,rfl,l,J,ah,am,I⟩;have an:=J.1;refine ⟨fun Y Hj=>∃(G:List V) (W:List (Int×Int)),Y=[some (.int c),some (.ref s),some (.int (kW O)),some (.int d),some (.ref nl),some (.ref wl),c6,c7,c8]/\Hj wl=some (.lst G)/\AllAt (QAt Hj) G W/\(kW O).toNat<=W.length/\W.length<=50/\Same H1 Hj,?_,?_⟩
 ·obtain ⟨v,hv⟩:∃v,G[0]?=some v:=⟨_,aa (by lia)⟩;obtain ⟨p,hp,t,rfl,ht⟩:=J.2 0 v hv;refine ⟨_,_,(jP rfl rfl (by show (0:Int)<8;decide) rfl (jB rfl (yQ (fun _=>?_) (fun _=>⟨G,W,(j7 rfl l J ah am I)⟩))))⟩;refine qM (so l) (qH (j:=0) hv) (jK (SqT.of ht) rfl (qS (jB rfl (yQ (fun _=>?_) (fun _=>⟨G,W,(j7 rfl l J ah am I)⟩)))));refine qM (so l) (qH (j:=0) hv) (jK (SqT.of ht) rfl (qS (qM (so l) (qH (j:=0) hv) (jK (SqT.of ht) rfl (⟨zz2,fun t2 ap=>?_⟩)))));have u:=jL ap (.tup [V.int (p.1 - 1),V.int p.2]);refine j5 wl G _ 0 (jP rfl rfl (u _ _ l) (bD (s:=0) (by lia)) ⟨G.set 0 (.ref t2),W.set 0 (p.1 - 1,p.2),(j7 rfl jF ?_ (by rw [bf];lia) (by rw [bf];lia) (qJ S (I.trans u)))⟩);exact ((J.mono (QAt.same u)).set (v:=.ref t2) (x:=(p.1 - 1,p.2)) ⟨t2,rfl,jF⟩).mono (QAt.put (u _ _ l))
 clear l J ah am I an G W;rintro Y Hi ⟨G,W,rfl,l,J,ah,am,I⟩;have an:=J.1;refine ⟨fun Y Hj=>∃(G:List V) (W:List (Int×Int)),Y=[some (.int c),some (.ref s),some (.int (kW O)),some (.int d),some (.ref nl),some (.ref wl),c6,c7,c8]/\Hj wl=some (.lst G)/\AllAt (QAt Hj) G W/\(kW O).toNat<=W.length/\W.length<=50/\Same H1 Hj,?_,?_⟩
 ·obtain ⟨v,hv⟩:∃v,G[(kW O - 1).toNat]?=some v:=⟨_,aa (by lia)⟩;obtain ⟨p,hp,t,rfl,ht⟩:=J.2 _ v hv;have Z:=qH hv;rw [show (((kW O - 1).toNat:Nat):Int)=kW O - 1 by lia] at Z
  refine ⟨_,_,(jP rfl rfl (by show (0:Int)<8;decide) rfl (jB rfl (yQ (fun _=>?_) (fun _=>⟨G,W,(j7 rfl l J ah am I)⟩))))⟩;refine ⟨_,_,rfl,rfl,qM (so l) Z (jK (SqT.of ht) rfl (qS (qM (so l) Z (jK (SqT.of ht) rfl (qS (⟨zz2,fun t2 ap=>?_⟩))))))⟩;have u:=jL ap (.tup [V.int p.1,V.int (p.2+1)]);refine ⟨_,_,⟨rfl,rfl,(j5 wl G _ ((kW O - 1).toNat) (jP rfl rfl (u _ _ l) ?_ ⟨G.set (kW O - 1).toNat (.ref t2),W.set (kW O - 1).toNat (p.1,p.2+1),(j7 rfl jF ?_ (by rw [bf];lia) (by rw [bf];lia) (qJ S (I.trans u)))⟩))⟩⟩
  ·have:=bD (n:=G.length) (s:=(kW O - 1).toNat) (by lia);rw [show (((kW O - 1).toNat:Nat):Int)=kW O - 1 by lia] at this;exact this
  ·exact ((J.mono (QAt.same u)).set (v:=.ref t2) (x:=(p.1,p.2+1)) ⟨t2,rfl,jF⟩).mono (QAt.put (u _ _ l))
 clear l J ah am I an G W;rintro Y Hi ⟨G,W,rfl,l,J,ah,am,I⟩;refine ⟨wl,jB rfl (.inl ⟨so l,fun t ht=>?_⟩)⟩;have u:=jL ht (.tup G);exact q t G W _ (s1.trans (I.trans u)) jF (J.mono (QAt.same u)) (by lia)
theorem Z5:jV 4 ["cell","script","came","day","named","ends","many","rest","at","steps","amount"] pD:=jU
include T in
theorem IX (F:kC K "_law_entry" pD f fd) (xj:Def P w K mg base 1 "_law_cell_at" ["script","k"] [] (dX K)) (wg:Def P w K mg base 2 "_law_ends" ["script"] [] (uM K)) (a3:Def P w K mg base 2 "_law_steps" ["cell","ends","named","at"] [] (B6)) (xr:Def P w K mg base 1 "_law_name" ["cell","k"] [] (lQ)) (ap:Def P w K mg base 4 "_law_weather" ["rest","script","many","day"] [] (AX K)) (zq:Def P w K mg base 2 "_law_unit" ["script"] [] (lP K)):FnOk P w K mg base jT 5 f fd ["cell","script","came","day"] (CB K):=by
 refine F.ok2 Z5 fun vs H Q E h=>?_
 refine bQ h fun s O c d cl zs h=>?_
 refine Z0 h fun e_ hS a7 be q=>?_
 subst e_;refine ⟨rfl,fun _ _ _ _ I=>?_⟩;have bt:=mY I;refine tk fun l=>?_
 let u0:=ru l [4,0,2] (jN (kX (yS j4 (jR xr I rfl (jC (jA 4) (jC (jI kU jD (jI kO (jI qP (jA 7) jD) jD)) jE))) (jR xr I rfl (jC (jA 4) (jC (jA 8) jE))) (jA 9))))
 let u1:=ru l [4,0,1] (jH (jY 9 Z5.nd (jR a3 I rfl (yS (jI qP (jA 7) jD) (jA 5) (jA 4) (jA 8))))
   u0.h)
 let u2:=ru l [4,0,0] (jH (jY 8 Z5.nd (jI kO (jA 7) (jA 6)))
   u1.h)
 let u3:=ru l [5,0,0,0,0] (jN (kX (jC j4 (jC (jJ (qD K) (jA 2) (jI kO (jI qP (jA 7) jD) (vF K T.xq (jA 2)))) jE))))
 let u4:=ru l [5,0,1] (jN (kX (jC j4 (jC (jR xr I rfl (jC (jA 4) (jC (jI kU jD (jI kO (jI qP (jA 7) jD) jD)) jE))) jE))))
 let u5:=ru l [5,0,0] (jH (j9 (PW.pt (mH (j6 w6 (vF K T.xq (jA 2)) jD) (lY (j6 JG (jI kO (jA 7) jD) jD)))) u3.h kA)
   u4.h)
 let u6:=ru l [9] (jN (kX (qQ (jJ (qD K) (qC (jC j4 (jC j4 jE))) (jI kO (jA 7) jD)) (jR xr I rfl (jC (jA 4) (jC (jI kO (jI qP (jA 7) jD) jD) jE))) (jA 10))))
 let u7:=ru l [8] (jH (jY 10 Z5.nd (jI kU (jI y9 (jR zq I rfl (jC (jA 1) jE)) (jI kO (jI qP (jA 7) jD) jD)) (jI kO (jI qP (jA 7) jD) jD)))
   u6.h)
 let u8:=ru l [7] (jH (j9 (j6 kP (jI kO (jA 0) jD) jD) (jN (kX (jC j4 (jC (jR ap I rfl (yS (jA 7) (jA 1) (jA 6) (jA 3))) jE)))) kA)
   u7.h)
 let u9:=ru l [6] (jH (j9 (j6 kP (jI kO (jA 0) jD) jD) (jN (kX (jC j4 (jC (jR xr I rfl (jC (jA 4) (jC (jI kU jD (jI kO (jA 7) jD)) jE))) jE)))) kA)
   u8.h)
 let a6:=ru l [5] (jH (j9 (j6 ZO (jI kO (jA 0) jD) jD) u5.h kA)
   u9.h)
 let a9:=ru l [4] (jH (j9 (j6 ZO (jI kO (jA 0) jD) jD) u2.h kA)
   a6.h)
 let b4:=ru l [3] (jH (jY 7 Z5.nd (jI qP (jA 0) jD))
   a9.h)
 let a5:=ru l [2] (jH (jY 6 Z5.nd (jI kU jD (jI kO (jR xj I rfl (jC (jA 1) (jC jD jE))) jD)))
   b4.h)
 let b3:=ru l [1] (jH (jY 5 Z5.nd (jR wg I rfl (jC (jA 1) jE)))
   a5.h)
 refine ⟨_,(jH (jY 4 Z5.nd (jR xj I rfl (jC (jA 1) (jC jD jE))))
   b3.h),?_⟩
 try dsimp only [jX,jW]
 have hm:=cF O;refine j3 s O 2 (kG rfl hS (?_));refine ⟨s,O,rfl,hS,fun el us es H1 S b8 a8 hE ah=>?_⟩;have Y:=S.seq hS;refine j3 s O 0 ⟨rfl,Y,⟨_,_,(jM rfl rfl (by show (0:Int)<2;decide) ⟨_,_,⟨rfl,rfl,⟨_,_,(jM rfl rfl ⟨by decide,by decide⟩ ?_)⟩⟩⟩)⟩⟩;refine ⟨_,_,(jM rfl rfl (by show (0:Int)<8;decide) ⟨_,_,⟨rfl,rfl,jB rfl (yQ (fun _=>?_) (fun _=>?_))⟩⟩)⟩
 ·obtain ⟨a0,a1⟩:=vT (c / 8) (show (0:Int)<kW O by lia);refine ⟨_,_,(jM rfl rfl (by show 0<kW O;lia) ⟨_,_,(jM rfl rfl ⟨by decide,by decide⟩ (j5 _ _ _ (kW O) (j3 el us es (vS rfl a8 hE ah a0 a1 (fun st vs ps H2 s2 b7 hP bl b2=>?_)))))⟩)⟩;refine ⟨_,_,(jM rfl rfl ⟨by decide,by decide⟩ ⟨_,_,(jM rfl rfl (by show (0:Int)<12;decide) ⟨_,_,⟨rfl,rfl,⟨_,jB rfl (fun z hz=>⟨_,jB rfl (fun z2 ca=>⟨zz4,fun t G=>?_⟩)⟩)⟩⟩⟩)⟩)⟩;have u:=jL G (.tup [V.str "come",V.str z,V.str z2,V.ref st]);exact q t (.come ⟨z,z2,ps⟩) _ (S.trans (s2.trans u)) ⟨st,vs,jF,u _ _ b7,hP.mono (SAt.same u)⟩ ⟨by show z.length<=100;lia,b2,bl⟩
 refine ⟨_,_,(jM rfl rfl (by show (0:Int)<8;decide) ⟨_,_,⟨rfl,rfl,jB rfl (yQ (fun _=>?_) (fun _=>?_))⟩⟩)⟩
 ·have Z:∀(z:Str) (t:Addr),H1 t=none->Q (.ref t) (upd H1 t (.tup [V.str "pass",V.str z])):=fun z t G=>q t (.pas z) _ (S.trans (jL G _)) jF trivial
  have J:=S _ _ be;refine ⟨cl,jB rfl (⟨.inl (so J),_,_,rfl,rfl,jB rfl (yQ (fun h=>?_) (fun _=>?_))⟩)⟩
  ·refine ⟨_,_,(jP rfl rfl (by show (0:Int)<8;decide) rfl (jB rfl (yQ (fun _=>?_) (fun _=>?_))))⟩
   ·have hl:(0:Int)<(((zs.map V.str).length:Nat):Int):=of_decide_eq_true h;obtain ⟨l,x1⟩:=vT (c / 8 / 8) hl;obtain ⟨z,_,a4⟩:=VJ zs l x1;exact ⟨_,_,(jM rfl rfl ⟨by decide,by decide⟩ ⟨cl,jB rfl (⟨.inl (so J),⟨_,_,(jM rfl rfl hl (qM (so J) a4 (⟨zz2,fun t G=>Z z t G⟩)))⟩⟩)⟩)⟩
   ·exact ⟨_,_,(jM rfl rfl ⟨by decide,by decide⟩ ⟨_,_,(jM rfl rfl (by show (0:Int)<12;decide) ⟨_,_,⟨rfl,rfl,⟨_,jB rfl (fun z hz=>⟨zz2,fun t G=>Z z t G⟩)⟩⟩⟩)⟩)⟩
  ·exact ⟨_,_,(jM rfl rfl ⟨by decide,by decide⟩ ⟨_,_,(jM rfl rfl (by show (0:Int)<12;decide) ⟨_,_,⟨rfl,rfl,⟨_,jB rfl (fun z hz=>⟨zz2,fun t G=>Z z t G⟩)⟩⟩⟩)⟩)⟩
 refine ⟨_,_,(jP rfl rfl (by show (0:Int)<8;decide) rfl (jB rfl (yQ (fun _=>?_) (fun _=>?_))))⟩
 ·refine ⟨_,_,(jM rfl rfl (by show (0:Int)<4;decide) ⟨_,_,⟨rfl,rfl,⟨_,jB rfl (fun z hz=>⟨zz2,fun t G=>?_⟩)⟩⟩⟩)⟩;exact q t (.lt z) _ (S.trans (jL G _)) jF trivial
 refine ⟨_,_,(jP rfl rfl (by show (0:Int)<8;decide) rfl (jB rfl (yQ (fun _=>?_) (fun _=>?_))))⟩
 ·refine j5 s O _ d (jM rfl Y a7 (fun wt us W H2 s2 an hA hW=>⟨zz2,fun t G=>?_⟩));have u:=jL G (.tup [V.str "night",V.ref wt]);exact q t (.night W) _ (S.trans (s2.trans u)) ⟨wt,us,jF,u _ _ an,hA.mono (QAt.same u)⟩ hW
 refine ⟨s,O,rfl,Y,fun u b9 bt=>?_⟩;refine ⟨_,_,(jM rfl rfl ⟨by decide,by decide⟩ ⟨_,_,(jM rfl rfl (by show (0:Int)<4;decide) ⟨_,_,(jM rfl rfl (.inl ⟨by lia,by lia⟩) ⟨_,_,(jM rfl rfl ⟨by decide,by decide⟩ ⟨_,_,(jM rfl rfl (by show (0:Int)<3;decide) ⟨_,_,(jM rfl rfl zz2 (fun p hp=>?_))⟩)⟩)⟩)⟩)⟩)⟩;have u1:=jL hp (.lst [V.str "take",V.str "rain"]);obtain ⟨b0,b1⟩:=vT (c / 8) (show (0:Int)<2 by decide)
 try dsimp only
 generalize u*(c / 8 / 2%4)+c / 8 / 8%3=am
 rcases (show c / 8%2=0\/c / 8%2=1 by lia) with h|h
 ·refine ⟨_,_,(jM rfl rfl (by show (0:Int)<2;decide) (qM (so jF) (by rw [h];rfl) (qS (⟨⟨by decide,by decide⟩,⟨_,_,(jM rfl rfl (by show (0:Int)<4;decide) ⟨_,jB rfl (fun z hz=>⟨zz3,fun t G=>?_⟩)⟩)⟩⟩))))⟩;exact q t (.take z am) _ (S.trans (u1.trans (jL G _))) jF trivial
 ·refine ⟨_,_,(jM rfl rfl (by show (0:Int)<2;decide) (qM (so jF) (by rw [h];rfl) (qS (⟨⟨by decide,by decide⟩,⟨_,_,(jM rfl rfl (by show (0:Int)<4;decide) ⟨_,jB rfl (fun z hz=>⟨zz3,fun t G=>?_⟩)⟩)⟩⟩))))⟩;exact q t (.rain z am) _ (S.trans (u1.trans (jL G _))) jF trivial
theorem M3:jV 2 ["book","entry"] pM:=jU
include T in
theorem KJ (F:kC K "_law_wrong" pM f fd) (ve:MeX P w K mg base 10 cO "fault" ["self","entry"] (qW (jG cP cB cU) cR cN cO (mM eB eT eM eU eL eN eD))):FnOk P w K mg base jT 11 f fd ["book","entry"] (B5 (jG cP cB cU) cR cN cO):=by
 refine F.ok2 M3 fun vs H Q E h=>?_
 refine zZ h fun b t x A R L N B e h=>?_
 refine z3 h fun e_ hq Y O qt qf=>?_
 subst e_;refine ⟨rfl,fun _ _ _ _ hr=>?_⟩;refine ⟨_,(kM (RS rfl rfl rfl rfl T.zu (fun _ _ hx=>(kM (AA (JB JG (QY ve hx hr (jA 0) (jC (jA 1) jE)) j4)))) (fun _=>(jN zT)))),?_⟩
 try dsimp only [jX,jW]
 obtain ⟨db,fs,hb,Z⟩:=hq.ins;refine ⟨fun S c H'=>dC R L N B e/\Same H H'/\∃C,c=.ref C/\W.exmOne K (.ref C) (.ref eC)=some true,?_,?_⟩
 ·refine ⟨b,db,jB rfl (⟨hb,Z _ (by trivial),vG b t x A R L N B e (j7 rfl hq Y O (fun J H' l=>?_) (fun J H' l=>⟨.inl J,l,jB rfl (?_)⟩))⟩)⟩
  ·refine ⟨rfl,?_⟩
   by_cases I:vV R L N B e=""
   ·have:=qf J I H' l;rw [I];exact this
   ·have:=qt (.inr I) H' l;rw [show (decide (V.str (vV R L N B e)=V.str ""))=false from aN fun z=>I (V.str.inj z)];exact this
  ·exact ES (K:=K) (P:=fun C=>W.exmOne K (.ref C) (.ref eC)=some true) T.exm_BadRow T.exm_Twice T.exm_TooMany T.exm_Unknown T.exm_NotLinked T.exm_BadNumber T.exm_TooDry _
 rintro S c H' ⟨G,l,C,rfl,hm⟩;exact ⟨C,rfl,hm,qt G H' l⟩
theorem AE:jV 2 ["found","due","k"] pI:=jU
include T in
theorem fG {k0 n0:Nat} (F:kC K "_law_same" pI f fd) (xo:Def P w K mg base k0 "_law_same" ["found","due"] [] (QS n0)):FnOk P w K mg base jT (k0+1) f fd ["found","due"] (QS (n0+1)):=by
 refine F.ok2 AE fun vs H Q E h=>?_
 obtain ⟨f1,d1,rfl,am,q⟩:=h;refine ⟨rfl,fun _ _ _ _ hr=>?_⟩;refine tk fun x0=>?_
 let u0:=ru x0 [0,0,2,0,0] (kM (j9 (QE (q9 (jR xo hr rfl (jC (jJ (wD K) (jA 0) (jA 2)) (jC (jJ (wD K) (jA 1) (jA 2)) jE)) (hk:=ak _)))) (jN zT) kA))
 let u1:=ru x0 [0,0,2] (jH (zL ci rfl (ZB (by rfl) T.xz (jC (vF K T.xq (jA 1)) jE)) (kT (i:=2) AE.nd rfl (.inl rfl))
    u0.h)
   (jN zT))
 let u2:=ru x0 [0,0,1] (jH (j9 (j6 JG (vF K T.xq (jA 0)) (vF K T.xq (jA 1))) (jN zT) kA)
   u1.h)
 let u3:=ru x0 [0,0,0] (jH (j9 (PW.pt (QI (j6 JG (vK (QQ (K:=K)) (by rfl) T.xi aE (jC (jA 0) (jC (QT (v:=.ty "tuple") rfl T.xy bh rfl) jE))) (vK (QQ (K:=K)) (by rfl) T.xi aE (jC (jA 1) (jC (QT (v:=.ty "tuple") rfl T.xy bh rfl) jE)))) (bG (j6 JG (vK (QQ (K:=K)) (by rfl) T.xi aE (jC (jA 0) (jC (QT (v:=.ty "list") rfl T.xt aL rfl) jE))) (vK (QQ (K:=K)) (by rfl) T.xi aE (jC (jA 1) (jC (QT (v:=.ty "list") rfl T.xt aL rfl) jE))))))) (jN zT) kA)
   u2.h)
 let u4:=ru x0 [2] (jN (cH (vK (QQ (K:=K)) (by rfl) T.xi aE (jC (jA 0) (jC (QT (v:=.ty "int") rfl T.ju PyProof.Rows.boot_int rfl) jE))) (cH (V2 (vK (QQ (K:=K)) (by rfl) T.xi aE (jC (jA 0) (jC (QT (v:=.ty "bool") rfl T.uo PyProof.Rows.boot_bool rfl) jE)))) (cG (JB kP (jA 0) (jA 1))))))
 let u5:=ru x0 [1] (jH (j9 (q9 (vK (QQ (K:=K)) (by rfl) T.xi aE (jC (jA 1) (jC (QT (v:=.ty "str") rfl T.jt PyProof.Rows.boot_str rfl) jE)))) (jN (cH (vK (QQ (K:=K)) (by rfl) T.xi aE (jC (jA 0) (jC (QT (v:=.ty "str") rfl T.jt PyProof.Rows.boot_str rfl) jE))) (cG (JB kP (jA 0) (jA 1))))) kA)
   u4.h)
 refine ⟨_,(jH (j9 (PW.pt (QI (q9 (vK (QQ (K:=K)) (by rfl) T.xi aE (jC (jA 1) (jC (QT (v:=.ty "tuple") rfl T.xy bh rfl) jE)))) (bG (q9 (vK (QQ (K:=K)) (by rfl) T.xi aE (jC (jA 1) (jC (QT (v:=.ty "list") rfl T.xt aL rfl) jE))))))) u3.h kA)
   u5.h),?_⟩
 try dsimp only [jX,jW]
 rcases OZ am with (⟨z,rfl,rfl⟩|⟨n,rfl,rfl⟩)|⟨m,rfl,a,b,xs,ys,l,rfl,rfl,I,G,O,ah,J⟩
 ·refine (kS _ _ _ _ _ (jP rfl rfl (TyOf.str _) OR (jB rfl (qB (kS _ _ _ _ _ (jP rfl rfl (TyOf.str _) OS (jB rfl (qB ?_))))))));refine (kS _ _ _ _ _ (jP rfl rfl (TyOf.str _) (ZF "str") (jB rfl (qA (kS _ _ _ _ _ (jP rfl rfl (TyOf.str _) (ZF "str") (jB rfl (qA (⟨rfl,?_⟩)))))))));rw [bi rfl];exact q
 ·refine (kS _ _ _ _ _ (jP rfl rfl (TyOf.int _) OT (jB rfl (qB (kS _ _ _ _ _ (jP rfl rfl (TyOf.int _) OV (jB rfl (qB ?_))))))));refine (kS _ _ _ _ _ (jP rfl rfl (TyOf.int _) OU (jB rfl (qB (kS _ _ _ _ _ (jP rfl rfl (TyOf.int _) (ZF "int") (jB rfl (qA (kS _ _ _ _ _ (jP rfl rfl (TyOf.int _) OB (jB rfl (jB rfl (qA (⟨rfl,?_⟩))))))))))))));rw [bi rfl];exact q
 cases l with
 |true =>
  have hA:SqL K H a xs\/SqT K H a xs:=mF true I;have S:SqL K H b ys\/SqT K H b ys:=mF true G;have I:H a=some (.lst xs):=I;have G:H b=some (.lst ys):=G;refine (kS _ _ _ _ _ (jP rfl rfl (TyOf.lst G) tN (jB rfl (qB (kS _ _ _ _ _ (jP rfl rfl (TyOf.lst G) (ZF "list") (jB rfl (qA ?_))))))));refine (kS _ _ _ _ _ (jP rfl rfl (TyOf.lst I) tN (kS _ _ _ _ _ (j7 rfl rfl (TyOf.lst G) tN rfl (jB rfl (zU rfl ?_))))));refine (kS _ _ _ _ _ (jP rfl rfl (TyOf.lst I) (ZF "list") (kS _ _ _ _ _ (j7 rfl rfl (TyOf.lst G) (ZF "list") rfl (jB rfl (zU rfl ?_))))));refine (⟨a,jB rfl (⟨hA,(⟨b,jB rfl (⟨S,rfl,jB rfl (zU (by rw [O]) ?_)⟩)⟩)⟩)⟩);refine (⟨b,jB rfl (⟨S,jB rfl (⟨by lia,by lia,Z9 (n:=((ys.length:Nat):Int).toNat) (fun i Y Z=>∃c:Option V,Y=[some (.ref a),some (.ref b),c]/\H=Z) ⟨none,rfl,rfl⟩ ?_ ?_⟩)⟩)⟩)
  ·rintro i Y Z hi ⟨c,rfl,rfl⟩;rw [bd] at hi;rw [fe];have hx:xs[i]?=some xs[i]:=aa (by lia);have hy:ys[i]?=some ys[i]:=aa hi;exact (mG hA hx (mG S hy ⟨_,jB rfl (⟨J i _ _ hx hy,jB rfl (qB ⟨_,rfl,rfl⟩)⟩)⟩))
  ·rintro Y Z ⟨c,rfl,rfl⟩;exact q
 |false =>
  have hA:SqL K H a xs\/SqT K H a xs:=mF false I;have S:SqL K H b ys\/SqT K H b ys:=mF false G;have I:H a=some (.tup xs):=I;have G:H b=some (.tup ys):=G;refine (kS _ _ _ _ _ (jP rfl rfl (TyOf.tup G) (ZF "tuple") (jB rfl (qA (qA ?_)))));refine (kS _ _ _ _ _ (jP rfl rfl (TyOf.tup I) (ZF "tuple") (kS _ _ _ _ _ (j7 rfl rfl (TyOf.tup G) (ZF "tuple") rfl (jB rfl (zU rfl ?_))))));refine (kS _ _ _ _ _ (jP rfl rfl (TyOf.tup I) AZ (kS _ _ _ _ _ (j7 rfl rfl (TyOf.tup G) AZ rfl (jB rfl (zU rfl ?_))))));refine (⟨a,jB rfl (⟨hA,(⟨b,jB rfl (⟨S,rfl,jB rfl (zU (by rw [O]) ?_)⟩)⟩)⟩)⟩);refine (⟨b,jB rfl (⟨S,jB rfl (⟨by lia,by lia,Z9 (n:=((ys.length:Nat):Int).toNat) (fun i Y Z=>∃c:Option V,Y=[some (.ref a),some (.ref b),c]/\H=Z) ⟨none,rfl,rfl⟩ ?_ ?_⟩)⟩)⟩)
  ·rintro i Y Z hi ⟨c,rfl,rfl⟩;rw [bd] at hi;rw [fe];have hx:xs[i]?=some xs[i]:=aa (by lia);have hy:ys[i]?=some ys[i]:=aa hi;exact (mG hA hx (mG S hy ⟨_,jB rfl (⟨J i _ _ hx hy,jB rfl (qB ⟨_,rfl,rfl⟩)⟩)⟩))
  ·rintro Y Z ⟨c,rfl,rfl⟩;exact q
theorem M1:jV 2 ["one","two"] o9:=jU
include T in
theorem IS (F:kC K "_law_alike" o9 f fd) (xo:Def P w K mg base 5 "_law_same" ["found","due"] [] (QS 5)) (xn:MeD P w K mg base 1 cO "ways" ["self"] (vE (jG cP cB cU) cR cN cO (yZ BkS.us))) (xp:MeD P w K mg base 1 cO "names" ["self"] (vE (jG cP cB cU) cR cN cO (yZ fun B=>B.zs.map V.str))) (zk:MeD P w K mg base 1 cO "ledger" ["self"] (vE (jG cP cB cU) cR cN cO (yZ BkS.ps))) (xh:MeD P w K mg base 1 cO "state" ["self"] (vE (jG cP cB cU) cR cN cO ZJ)) (zi:MeD P w K mg base 1 cO "entries" ["self"] (vE (jG cP cB cU) cR cN cO (yZ BkS.es))) (vh:MeD P w K mg base 1 cO "gatework" ["self"] (vE (jG cP cB cU) cR cN cO FN)):FnOk P w K mg base jT 6 f fd ["one","two"] (CF (jG cP cB cU) cR cN cO):=by
 refine F.ok2 M1 fun vs H Q E h=>?_
 obtain ⟨b,b',x,A,A',R,L,N,B,B',es,rfl,J,G,S,hw,a6,bt,q⟩:=h;refine ⟨rfl,fun _ _ _ _ O=>?_⟩;refine tk fun x0=>?_
 let u0:=ru x0 [2] (jN (cH (jR xo O rfl (jC (kL vh O (jA 0)) (jC (kL vh O (jA 1)) jE))) (cG (jR xo O rfl (jC (kL zi O (jA 0)) (jC (kL zi O (jA 1)) jE))))))
 let u1:=ru x0 [1] (jH (j9 (PW.pt (QI (QE (q9 (jR xo O rfl (jC (kL xh O (jA 0)) (jC (kL xh O (jA 1)) jE))))) (bG (QE (q9 (jR xo O rfl (jC (kL zk O (jA 0)) (jC (kL zk O (jA 1)) jE)))))))) (jN zT) kA)
   u0.h)
 refine ⟨_,(jH (j9 (PW.pt (QI (QE (q9 (jR xo O rfl (jC (kL xp O (jA 0)) (jC (kL xp O (jA 1)) jE))))) (bG (QE (q9 (jR xo O rfl (jC (kL xn O (jA 0)) (jC (kL xn O (jA 1)) jE)))))))) (jN zT) kA)
   u1.h),?_⟩
 try dsimp only [jX,jW]
 obtain ⟨db,fs,hb,ah⟩:=J.ins;obtain ⟨Y,b4,Z,I⟩:=G.ins;refine ⟨b,db,jB rfl (⟨hb,ah _ (by trivial),kI b x A R L N B (kG rfl J (fun l1 H1 s1 n1 h1=>?_))⟩)⟩;refine ⟨b',Y,jB rfl (⟨(s1 _ _ Z),I _ (by trivial),kI b' x A' R L N B' (kG rfl (G.same s1) (fun l2 H2 s2 n2 h2=>?_))⟩)⟩;have z9:=J.ok.z9;have a1:Alike 4 H2 (.ref l1) (.ref l2):=BF (s2 _ _ h1) (by rw [S.zs];exact h2) (by lia);refine ⟨_,jB rfl (⟨a1,jB rfl (qB ?_)⟩)⟩;have a8:=s1.trans s2;refine ⟨b,db,jB rfl (⟨(a8 _ _ hb),ah _ (by trivial),kI b x A R L N B (kG rfl (J.same a8) (fun l3 H3 s3 n3 h3=>?_))⟩)⟩;have a9:=a8.trans s3;refine ⟨b',Y,jB rfl (⟨(a9 _ _ Z),I _ (by trivial),kI b' x A' R L N B' (kG rfl (G.same a9) (fun l4 H4 s4 n4 h4=>?_))⟩)⟩;have l:=a9.trans s4;have bl:=J.ok.fl;have b3:=bl.n10;have a2:Alike 4 H4 (.ref l3) (.ref l4):=fR true (s4 _ _ h3) h4 (J.same l).wyH (by rw [S.ys];exact (G.same l).wyH) (by lia) fun v u y hy p p'=>RH (bl.ok y hy).le p p'
 refine ⟨_,jB rfl (⟨a2,jB rfl (qB ?_)⟩)⟩;refine ⟨b,db,jB rfl (⟨(l _ _ hb),ah _ (by trivial),kI b x A R L N B (kG rfl (J.same l) (?_))⟩)⟩;refine ⟨b',Y,jB rfl (⟨(l _ _ Z),I _ (by trivial),kI b' x A' R L N B' (kG rfl (G.same l) (?_))⟩)⟩;have b0:=J.ok.ml;have r8:=J.ok.dr.r8;have l8:=J.ok.dr.l8;have hpl:=bl.len;have a3:Alike 4 H4 (.ref B.st) (.ref B'.st):=OG (by lia) (by lia) (J.same l).stH (by rw [S.d,S.ms,S.pl];exact (G.same l).stH);refine ⟨_,jB rfl (⟨a3,jB rfl (qB ?_)⟩)⟩;refine ⟨b,db,jB rfl (⟨(l _ _ hb),ah _ (by trivial),kI b x A R L N B (kG rfl (J.same l) (fun l5 H5 s5 n5 h5=>?_))⟩)⟩;have a7:=l.trans s5;refine ⟨b',Y,jB rfl (⟨(a7 _ _ Z),I _ (by trivial),kI b' x A' R L N B' (kG rfl (G.same a7) (fun l6 H6 s6 n6 h6=>?_))⟩)⟩;have am:=a7.trans s6;have pn:=J.ok.pn;have b1:=J.ok.e15;have a4:Alike 4 H6 (.ref l5) (.ref l6):=OL (s6 _ _ h5) h6 ((J.pp.same (vY _ _)).same am) (by rw [S.pd];exact (G.pp.same (vY _ _)).same am) (by lia);refine ⟨_,jB rfl (⟨a4,jB rfl (qB ?_)⟩)⟩;refine ⟨b,db,jB rfl (⟨(am _ _ hb),ah _ (by trivial),kI b x A R L N B (kG rfl (J.same am) (fun l7 v7 H7 s7 n7 h7 w7=>?_))⟩)⟩;have be:=am.trans s7;refine ⟨b',Y,jB rfl (⟨(be _ _ Z),I _ (by trivial),kI b' x A' R L N B' (kG rfl (G.same be) (fun l8 v8 H8 s8 n8 h8 w8=>?_))⟩)⟩;have ap:=be.trans s8;have b2:=J.wd.1;have qn:=J.ok.qn;have a5:Alike 4 H8 (.ref l7) (.ref l8):=fR (P:=WdNew H6 l7 H7) (P':=WdNew H7 l8 H8) true (s8 _ _ h7) h8 w7 (by rw [S.qd];exact w8) (by lia) fun v u p hp g g'=>O4 (hw p hp) (WdAt.same s8 _ _ g.at) g'.at
 refine ⟨_,jB rfl (⟨a5,jB rfl (qA ?_)⟩)⟩;refine ⟨b,db,jB rfl (⟨(ap _ _ hb),ah _ (by trivial),kI b x A R L N B (kG rfl (J.same ap) (fun l9 H9 s9 n9 h9=>?_))⟩)⟩;have an:=ap.trans s9;refine ⟨b',Y,jB rfl (⟨(an _ _ Z),I _ (by trivial),kI b' x A' R L N B' (kG rfl (G.same an) (fun lA HA sA nA hA=>?_))⟩)⟩;rw [a6] at h9;rw [<- S.es,a6] at hA;have b7:es.length<=57:=by have:=cf List.length a6;rw [ac] at this;lia
 exact ⟨_,jB rfl (⟨tR (sA _ _ h9) hA (bt.same (an.trans sA)) (by lia),q _ (an.trans sA)⟩)⟩
theorem AF:jV 2 ["canal","entries","e"] pJ:=jU
include T in
theorem KD (F:kC K "_law_torn" pJ f fd) (G:DefC P w K mg base 15 "replayed" ["canal","entries"] [] (wN K (jG cP cB cU) cR cN cO eR)):FnOk P w K mg base jT 16 f fd ["canal","entries"] (DA (jG cP cB cU) cR cN):=by
 refine F.ok2 AF fun vs H Q E h=>?_
 obtain ⟨x,l,R,L,N,es,i,e,t,B,rfl,hc,S,hl,V,Z,hi,I,J,q⟩:=h;refine ⟨rfl,fun _ _ _ _ Y=>?_⟩;refine ⟨_,(jH (S0 (i:=2) rfl rfl rfl AF.nd rfl rfl rfl T.xbe (fun _ _ hx=>(kM (vL (UW G (P5 rfl) Y rfl (jC (jA 0) (jC (jA 1) jE)))))) (fun _=>(jH (j9 (PW.pt (QI (q9 (vK (fW (K:=K)) (by rfl) T.xi aE (jC (jA 2) (jC (zI (v:=.ref eW) rfl T.uh rfl) jE)))) (QI (q9 (vK (fW (K:=K)) (by rfl) T.xi aE (jC (jA 2) (jC (zI (v:=.ref eU) rfl T.wj rfl) jE)))) (QI (q9 (vK (fW (K:=K)) (by rfl) T.xi aE (jC (jA 2) (jC (zI (v:=.ref eB) rfl T.jx rfl) jE)))) (bG (q9 (vK (fW (K:=K)) (by rfl) T.xi aE (jC (jA 2) (jC (zI (v:=.ref eD) rfl T.jy rfl) jE))))))))) (jN zT) kA)
   (jN (vK (fW (K:=K)) (by rfl) T.xi aE (jC (jA 2) (jC (zI (v:=.ref eC) rfl T.zu rfl) jE)))))))
   (jN zT)),?_⟩
 try dsimp only [jX,jW]
 refine ⟨fun O c H'=>c=.ref eR/\O=[some (.ref x),some (.ref l),none],?_,?_⟩
 ·exact yE x l R L N es (y6 rfl hc S hl V Z (fun b A B' H' _ Y _ _=>(Y.no_bad S hi I J).elim) (fun _ _ _ _ _ _ _ H' _=>⟨rfl,rfl⟩))
 rintro O c H' ⟨rfl,rfl⟩;refine ⟨eR,rfl,T.exs_Torn,fun a ha=>?_⟩;refine j5 a eR (.ref eW) false (j7 rfl jF T.at_Torn T.wm (.inl (jB rfl (T.k_Torn_NotNow))) (jB rfl (qB (j5 a eR (.ref eU) false (j7 rfl jF T.at_Torn T.wm (.inl (jB rfl (T.k_Torn_Unknown))) (jB rfl (qB (j5 a eR (.ref eB) false (j7 rfl jF T.at_Torn T.wm (.inl (jB rfl (T.k_Torn_BadRow))) (jB rfl (qB (j5 a eR (.ref eD) false (j7 rfl jF T.at_Torn T.wm (.inl (jB rfl (T.k_Torn_TooDry))) (jB rfl (qB ?_)))))))))))))));exact j5 a eR (.ref eC) true (j7 rfl jF T.at_Torn T.wm (.inl (jB rfl (T.k_Torn_CanalError))) (q _))
theorem sJ:jV 2 ["waters","ledger","held","pour"] pA:=jU
include T in
theorem IT (F:kC K "_law_behind" pA f fd) : FnOk P w K mg base jT 2 f fd ["waters","ledger"] (BK K):=by
 refine F.ok2 sJ fun vs H Q E h=>?_
 refine Q6 h fun wt tl ms zs qs h=>?_
 refine ZZ h fun e_ ah S hP ap an q=>?_
 subst e_;refine ⟨rfl,fun _ _ _ _ hr=>?_⟩;refine tk fun x0=>?_
 let u0:=ru x0 [1,0,1] (kM (gE (jI kU (jJ (qD K) (jA 2) (jJ (jO K) (jA 3) jD)) (jJ (jO K) (jA 3) jD)) (gG (jA 2) (jJ (jO K) (jA 3) jD) bB)))
 let u1:=ru x0 [1,0,0] (jH (gE (jI yB (jJ (qD K) (jA 2) (jJ (jO K) (jA 3) jD)) (jJ (jO K) (jA 3) jD)) (gG (jA 2) (jJ (jO K) (jA 3) jD) bB))
   u0.h)
 let u2:=ru x0 [1] (jH (zL ci rfl (yN (jA 1)) (kT (i:=3) sJ.nd rfl (.inl rfl))
    u1.h)
   (jN (vP (bY K) (by rfl) T.xy bh (jC (jA 2) jE))))
 refine ⟨_,(jH (jY 2 sJ.nd (vP (zN K) (by rfl) T.xt aL (jC (jA 0) jE)))
   u2.h),?_⟩
 try dsimp only [jX,jW]
 refine ⟨wt,jB rfl (⟨.inr (SqT.of ah),fun J Z=>?_⟩)⟩;have u0:=jL Z (.lst (ms.map V.int));refine ⟨tl,rfl,⟨_,so (u0 _ _ S)⟩,dY (K:=K) (a:=tl) (xs:=zs) (fun i Y O=>∃c:Option V,Y=[some (.ref wt),some (.ref tl),some (.ref J),c]/\O J=some (.lst ((k7 ms (qs.take i)).map V.int))/\Same H O) ⟨none,rfl,jF,u0⟩ (fun i Y O _ ⟨_,_,_,s⟩=>so (s _ _ S)) ?_ ?_⟩
 ·rintro i v Y O hv ⟨c,rfl,l,sm⟩;obtain ⟨a,s,tt,m,rfl,hq,hT,a4,a5⟩:=hP.2 i v hv;have am:a≠J:=qE hT Z;have el:(k7 ms (qs.take i)).length=ms.length:=QA _ _;have G:=sm _ _ hT;generalize a3:k7 ms (qs.take i)=m1 at l el;refine jK (SqT.of G) rfl (qM (so l) (yU (by lia)) (jK (SqT.of G) rfl (qS (jK (SqT.of G) rfl (j5 J _ _ _ (jP rfl rfl l (bD (by rw [ac];lia)) ?_))))))
  try dsimp only
  rw [dQ];have I:∀o,upd O J o a=some (.tup [V.int (s:Int),V.int (tt:Int),V.int m]):=fun o=>by rw [jQ am];exact G
  refine jK (SqT.of (I _)) rfl (qM (so jF) (yU (by rw [bf];lia)) (jK (SqT.of (I _)) rfl (qS (jK (SqT.of (I _)) rfl (j5 J _ _ _ (jP rfl rfl jF (bD (by rw [ac,bf];lia)) ?_))))))
  try dsimp only
  rw [dQ];refine jB rfl (⟨?_,qJ Z (qJ Z sm)⟩);rw [jF,i4 ms qs i _ hq,a3];rfl
 rintro Y H1 ⟨c,rfl,l,sm⟩;rw [hP.1,aZ] at l;refine ⟨J,jB rfl (.inl ⟨so l,fun t ht=>?_⟩)⟩;exact q t _ (sm.trans (jL ht _)) jF
theorem JE:jV 1 ["script","canal","book","good","came","spoiled","day","cell","entry","handed","twin"] Q8:=jU
include T in
theorem K1 (F:kC K "law" Q8 f fd) (fv:Def P w K mg base 6 "_law_canal" ["script","most"] [] (CD K (jG cP cB cU) cR cN)) (f9:MkD P w K mg base 7 "Book" cO ["self","canal"] (lB (jG cP cB cU) cR cN cO)) (gV:Def P w K mg base 5 "_law_entry" ["cell","script","came","day"] [] (CB K)) (f7:Def P w K mg base 11 "_law_wrong" ["book","entry"] [] (B5 (jG cP cB cU) cR cN cO)) (ua:MeX P w K mg base 13 cO "do" ["self","entry"] (nG (jG cP cB cU) cR cN cO eB eT eM eU eL eN eD eW)) (f3:Def P w K mg base 15 "replayed" ["canal","entries"] [] (uK K (jG cP cB cU) cR cN cO)) (xo:Def P w K mg base 5 "_law_same" ["found","due"] [] (QS 5)) (xp:MeD P w K mg base 1 cO "names" ["self"] (vE (jG cP cB cU) cR cN cO (yZ fun B=>B.zs.map V.str))) (zi:MeD P w K mg base 1 cO "entries" ["self"] (vE (jG cP cB cU) cR cN cO (yZ BkS.es))) (f0:Def P w K mg base 6 "_law_alike" ["one","two"] [] (CF (jG cP cB cU) cR cN cO)) (ga:Def P w K mg base 2 "_law_behind" ["waters","ledger"] [] (BK K)) (zk:MeD P w K mg base 1 cO "ledger" ["self"] (vE (jG cP cB cU) cR cN cO (yZ BkS.ps))) (zx:MeD P w K mg base 5 cN "start" ["self"] (uI (jG cP cB cU) cR cN)) (xh:MeD P w K mg base 1 cO "state" ["self"] (vE (jG cP cB cU) cR cN cO ZJ)) (g9:Def P w K mg base 16 "_law_torn" ["canal","entries"] [] (DA (jG cP cB cU) cR cN)):FnOk P w K mg base (kJ P w) 17 f fd ["script"] (cL K):=by
  refine F.okX2 JE fun vs H Q E h=>?_
  obtain ⟨s,ns,rfl,hS,hC,q⟩:=h;refine ⟨rfl,fun _ _ _ _ hr=>?_⟩;have hu:_<cLine:=hr.units0;refine tk fun x0=>?_
  let u0:=ru x0 [6,0,1,1,3] (kM (j9 (j6 kP (jJ (jO K) (jA 8) jD) j4) (kM (vL (yY aM aR aS zP (jA 4) (jC (jJ (jO K) (jA 8) jD) jE)))) kA))
  let u1:=ru x0 [6,0,1,1,2] (jH (jY 6 JE.nd (jI kU (jA 6) (vP SQ (by rfl) T.ju PyProof.Rows.boot_int (jC (JB kP (jJ (jO K) (jA 8) jD) j4) jE))))
      u0.h)
  let u2:=ru x0 [6,0,1,1,1] (jH (vL (yY aM aR aS zP (jA 3) (jC (jA 8) jE)))
      u1.h)
  let u3:=ru x0 [6,0,1,1,0] (jH (vL (QY ua qR hr (jA 2) (jC (jA 8) jE)))
      u2.h)
  let u4:=ru x0 [6,0,1] (kM (j9 (q9 (jR f7 hr rfl (jC (jA 2) (jC (jA 8) jE)))) (kM (j9 (j6 (FL hu) (jA 5) (qC jE)) (kM (jY 5 JE.nd (jI QF (jA 3) (qC (jC (jA 8) jE))))) kA)) u3.h))
  let u5:=ru x0 [6,0,0] (jH (jY 8 JE.nd (jR gV hr rfl (yS (jA 7) (jA 0) (jA 4) (jA 6))))
      u4.h)
  let u6:=ru x0 [12] (jN (W4 (JB (FL hu) (jA 5) (qC jE)) (cG (jR g9 hr rfl (jC (jA 1) (jC (jI QF (jA 5) (fU (uN K) (jA 3) (fF (jI yB (vF K T.xq (jA 5)) jD)) fY)) jE))))))
  let u7:=ru x0 [11] (jH (j9 (j6 (V4 hu) (jR ga hr rfl (jC (kL zx hr (jA 1)) (jC (kL zk hr (jA 10)) jE))) (jJ (jO K) (kL xh hr (jA 10)) jD)) (jN zT) kA)
      u6.h)
  let u8:=ru x0 [10] (jH (j9 (QE (q9 (jR f0 hr rfl (jC (jA 10) (jC (jA 2) jE))))) (jN zT) kA)
      u7.h)
  let u9:=ru x0 [9] (jH (j9 (PW.pt (QI (QE (q9 (jR xo hr rfl (jC (jA 9) (jC (jA 3) jE))))) (QI (QE (q9 (jR xo hr rfl (jC (kL zi hr (jA 10)) (jC (jA 3) jE))))) (bG (QE (q9 (jR xo hr rfl (jC (kL xp hr (jA 10)) (jC (jA 4) jE))))))))) (jN zT) kA)
      u8.h)
  let e7:=ru x0 [8] (jH (jY 10 JE.nd (jR f3 hr rfl (jC (jA 1) (jC (jA 9) jE))))
      u9.h)
  let fr:=ru x0 [7] (jH (jY 9 JE.nd (vP (zN K) (by rfl) T.xt aL (jC (jA 3) jE)))
      e7.h)
  let c1:=ru x0 [6] (jH (zL mJ rfl (yN (fU (uN K) (jA 0) (fF jD) fY)) (kT (i:=7) JE.nd rfl (.inl rfl))
        u5.h)
      fr.h)
  let gp:=ru x0 [5] (jH (jY 6 JE.nd jD)
      c1.h)
  let fc:=ru x0 [4] (jH (jY 5 JE.nd (qC jE))
      gp.h)
  let g6:=ru x0 [3] (jH (jY 4 JE.nd (qC jE))
      fc.h)
  let fx:=ru x0 [2] (jH (jY 3 JE.nd (qC jE))
      g6.h)
  let g5:=ru x0 [1] (jH (jY 2 JE.nd (cS f9 hr rfl (jC (jA 1) jE)))
      fx.h)
  refine ⟨_,(jH (jY 1 JE.nd (jR fv hr rfl (jC (jA 0) (jC jD jE))))
      g5.h),?_⟩
  try dsimp only [jX,jW]
  refine j3 s ns 3 (jM rfl hS (by decide) (fun x R L N H1 a4 s1 g7 ef=>?_));intro b db nb ex f4;have m1:Same H1 (kB (upd (upd H1 db (.own b)) b (.ins cO db [])) [b]):=fun a o e=>by
    rw [vB (fun z=>qE e nb (aO.mp z)),jQ (qE e nb),jQ (qE e ex)];exact e
  refine yE b db x R L N (jP rfl jF (ef.same m1) a4 (fun A0 B H2 bl dr hd=>⟨rfl,?_⟩));have s2:=m1.trans hd;refine ⟨aH _,fun l a5=>⟨aH _,fun O G=>⟨aH _,fun sp an=>?_⟩⟩⟩;have hB:=((bl.more (xs:=[]) a5).more (xs:=[]) G).same (jL an (.lst []));have cj:l∈A0++[l]++[O]:=by simp
  have b3:O∈A0++[l]++[O]:=by simp
  have c2:l≠O:=fun z=>by rw [<- z,jF] at G;cases G
  have t5:(A0++[l]++[O]).take 5=A0.take 5:=by rw [gm,bp bl.core]
  have ce:l∉(A0++[l]++[O]).take 5:=by rw [t5];exact fun z=>bl.out a5 (gu z)
  have b8:O∉(A0++[l]++[O]).take 5:=by
    rw [t5];refine fun z=>bl.out ?_ (gu z)
    rw [jQ (Ne.symm c2)] at G;exact G
  have sA:Same H1 (kB (upd (upd (upd H2 l (.lst [])) O (.lst [])) sp (.lst [])) (A0++[l]++[O])):=by
    refine Same.trans ?_ (y7 (jL an _));rw [CT G,CT a5];exact s2
  have J:upd (upd (upd H2 l (.lst [])) O (.lst [])) sp (.lst []) l=some (.lst []):=jL an _ _ _ (by rw [jQ c2];exact jF);have am:upd (upd (upd H2 l (.lst [])) O (.lst [])) sp (.lst []) O=some (.lst []):=jL an _ _ _ jF;have ah:kB (upd (upd (upd H2 l (.lst [])) O (.lst [])) sp (.lst [])) (A0++[l]++[O]) sp=some (.lst []):=by
    rw [vB fun z=>?_]
    . exact jF
    . obtain ⟨o,e,_⟩:=((bl.more (xs:=[]) a5).more (xs:=[]) G).tr sp z
      rw [an] at e;cases e
  generalize upd (upd (upd H2 l (.lst [])) O (.lst [])) sp (.lst [])=H5 at hB sA J am ah ⊢;generalize A0++[l]++[O]=A at hB cj b3 ce b8 sA ah;clear bl a5 G an t5 s2 hd m1 nb ex f4 ef g7;have sB:=s1.trans sA;have e1:∀S,Same H1 (kB S A)->SqL K S s (ns.map V.int):=fun S z=>((s1.trans z).trans (vY _ _)).seq hS
  refine jB rfl (⟨s,jB rfl (⟨e1 _ sA,fun p hp=>?_⟩)⟩);rw [YB];have u5:=jL hp (.lst ((ns.drop 6).map V.int));have f8:=hB.out hp;have sC:=sA.trans (y7 u5);have ew:kB (upd H5 p (.lst ((ns.drop 6).map V.int))) A p=some (.lst ((ns.drop 6).map V.int)):=by rw [vB f8];exact jF
  have ee:=hB.same u5;have dn:=u5 _ _ J;have df:=u5 _ _ am;have dy:=y7 (A:=A) u5 _ _ ah;have el:upd H5 p (.lst ((ns.drop 6).map V.int)) p=some (.lst ((ns.drop 6).map V.int)):=jF;generalize upd H5 p (.lst ((ns.drop 6).map V.int))=H6 at sC ew ee dn df dy el ⊢;clear J am ah hB u5 hp sB sA;have fa:∀S,Same (kB H6 A) (kB S A)->S p=some (.lst ((ns.drop 6).map V.int)):=fun S z=>(z.trans (vY _ _)) _ _ ew
  refine ⟨p,rfl,⟨_,so el⟩,dY (K:=K) (a:=p) (xs:=(ns.drop 6).map V.int) (fun i σ S=>∃(B:BkS) (es:List (Ent×Addr)) (sp:Addr) (d:Int) (c7 c8:Option V),σ=[some (.ref s),some (.ref x),some (.ref b),some (.ref l),some (.ref O),some (.ref sp),some (.int d),c7,c8,none,none]/\BkAt (jG cP cB cU) cR cN cO A S b x R L N B/\BRun R L N es B/\S l=some (.lst (es.map fun p=>V.ref p.2))/\S O=some (.lst (B.zs.map V.str))/\EnsAt (kB S A) es/\es.length<=i/\0<=d/\SpAt R L N (kB S A) i sp es/\Same (kB H6 A) (kB S A)) (yE B ([]) sp 0 none none (dE rfl ee (.nil dr) dn (by rw [dr.1];exact df) (fun p hp=>by cases hp) (ak _) (Int.le_refl _) (.inl dy) (Same.refl _))) (fun i σ S _ ⟨_,_,_,_,_,_,_,_,_,_,_,_,_,_,_,z⟩=>so (fa S z)) ?_ ?_⟩
  . rintro i v σ S hv ⟨B,es,sp,d,c7,c8,rfl,hq,I,J,am,a9,ez,c5,ah,sm⟩
    have hi:=(ae.mp hv).1;rw [ac,dk] at hi;obtain ⟨c,rfl⟩:∃c:Int,v=.int c:=by
      rw [ar] at hv;obtain ⟨c,_,rfl⟩:=aT.mp hv;exact ⟨c,rfl⟩
    refine yE s ns c d O B.zs (jP rfl (e1 _ (sC.trans sm)) c5 am (fun t e H7 s7 bt be=>?_));refine vG b t x A R L N B e (j7 rfl (hq.same s7) bt be (fun cz H8 s8=>(jB rfl (qA ?_))) (fun h0 hw H8 s8=>(jB rfl (qB ?_))))
    . have a6:=s7.trans s8
      have cC:=hq.same a6;have b4:EnAt (kB H8 A) t e:=(bt.same s8).del cC.tr;refine ⟨aH _,fun e0 dV=>?_⟩;have u0:=jL dV (.lst []);have s0:=a6.trans u0;have eg:=ah.on (y7 (A:=A) s0)
      rcases ah with hz|⟨k,e',t',B0,_,hz,_⟩
      . refine j3 sp e0 ([]) (jP rfl rfl (so ((vY _ _).trans s0 _ _ hz)) (so jF) (jB rfl (qA ?_)))
        refine ⟨zz1,fun l1 fn=>?_⟩;have u1:=jL fn (.lst [V.ref t]);refine j5 l l1 _ _ (j7 rfl rfl (u1 _ _ (s0 _ _ J)) jF (QB (by rw [ac,ax];lia)) (fun p2 c4=>?_));have u2:=jL c4 (.lst (es.map (fun p=>V.ref p.2)++[V.ref t]));have c1:=u1.trans u2;have s2:=s0.trans c1;have f1:=hq.same s2;refine kS B es p2 d _ (jB rfl (fB f1 I (s2 _ _ J) (s2 _ _ am) (a9.same (y7 s2)) (by lia) c5 (.inr (j5 es.length e t B (vS (ak _) ?_ (b4.same (y7 (u0.trans c1))) be (by rw [aZ];exact I) cz (by lia)))) (sm.trans (y7 s2))));rw [aZ,vB ((hq.same (s0.trans u1)).out c4)];exact jF
      . have dK:((es.take k).map (fun p=>V.ref p.2)++[V.ref t']).isEmpty=false:=by simp
        refine j3 sp e0 _ (jP rfl rfl (so ((vY _ _).trans s0 _ _ hz)) (so jF) (jB rfl (?_)));rw [dK];exact qB (kS B es sp d _ (jB rfl (fB (hq.same s0) I (s0 _ _ J) (s0 _ _ am) (a9.same (y7 s0)) (by lia) c5 eg (sm.trans (y7 s0)))))
    have a6:=s7.trans s8;have cC:=hq.same a6;have b4:EnAt (kB H8 A) t e:=(bt.same s8).del cC.tr;obtain ⟨gi,hn,e5,en⟩:=cC.ins;refine ⟨b,gi,jB rfl (⟨e5,en _ (by trivial),vG b t x A R L N B e (vS rfl cC (bt.same s8) be (fun _ _=>⟨by rw [I.esq,ac];lia,fun B' H9 f5 dU b1 ey=>?_⟩) (fun _ h=>absurd hw h) (fun h=>absurd h0 h))⟩)⟩;have dl:=ey l _ ce (a6 _ _ J);have d5:=ey O _ b8 (a6 _ _ am);refine ⟨.inl ⟨rfl,_,so dl⟩,(j3 l _ _ (jP rfl rfl dl (qX (by rw [ac];lia)) ?_))⟩;have eD:kB (upd H9 l (.lst (es.map (fun p=>V.ref p.2)++[V.ref t]))) A=kB H9 A:=mC fun a ha=>jQ fun z=>ha (z▸cj)
    have cn:=f5.put (xs:=es.map (fun p=>V.ref p.2)++[V.ref t]) cj ce;have ap:upd H9 l (.lst (es.map (fun p=>V.ref p.2)++[V.ref t])) O=some (.lst (B.zs.map V.str)):=by rw [jQ (Ne.symm c2)];exact d5
    have cv:upd H9 l (.lst (es.map (fun p=>V.ref p.2)++[V.ref t])) l=some (.lst (es.map (fun p=>V.ref p.2)++[V.ref t])):=jF;have sD:Same (kB S A) (kB (upd H9 l (.lst (es.map (fun p=>V.ref p.2)++[V.ref t]))) A):=by rw [eD];exact (y7 a6).trans b1
    have a3:EnAt (kB (upd H9 l (.lst (es.map (fun p=>V.ref p.2)++[V.ref t]))) A) t e:=by rw [eD];exact b4.same b1
    generalize upd H9 l (.lst (es.map (fun p=>V.ref p.2)++[V.ref t]))=b0 at cn ap cv sD a3 ⊢;obtain ⟨tl,hh⟩:=(a3.same (vY _ _)).head;refine jK (SqT.of hh) yO (⟨rfl,.inr (jB rfl (qS (?_)))⟩);obtain ⟨d',b1,ed⟩:∃d':Int,0<=d'/\d+(if decide (V.str (JU e)=V.str "night")=true then 1 else 0)=d':=⟨_,by split<;>lia,rfl⟩;have dD:EnsAt (kB b0 A) (es++[(e,t)]):=fun p hp=>by
      rcases ba.mp hp with hp|hp
      . exact a9.same sD p hp
      . rw [aO.mp hp];exact ⟨a3,be⟩
    have ca:b0 l=some (.lst ((es++[(e,t)]).map fun p=>V.ref p.2)):=by rw [aK];exact cv
    have dj:(es++[(e,t)]).length<=i+1:=by rw [ag,ax];lia
    have cd:=I.snoc h0 hw dU;have c6:=ah.more (p:=(e,t)) sD;refine jK (SqT.of hh) yO (⟨rfl,jB rfl (?_)⟩)
    rcases uA e with hk|⟨e,rfl⟩
    . have he:JY B e=B.zs:=by cases e<;>first|rfl|exact absurd rfl hk
      exact kE (fun z=>hk (V.str.inj z)) (yE B' (es++[(e,t)]) sp d' _ _ (dE (by rw [<- ed];rfl) cn cd ca (by rw [dU.zs,he];exact ap) dD dj b1 c6 (sm.trans sD)))
    obtain ⟨st,us,g1,g2,g3⟩:=a3.same (vY _ _);refine kY rfl ⟨.inl ⟨rfl,_,so ap⟩,jK (SqT.of g1) rfl (j3 O _ _ (jP rfl rfl ap (qX (by rw [ac];have:=hq.ok.z9;lia)) ?_))⟩;have dT:kB (upd b0 O (.lst (B.zs.map V.str++[V.str e.name]))) A=kB b0 A:=mC fun a ha=>jQ fun z=>ha (z▸b3)
    refine yE B' (es++[(.come e,t)]) sp d' _ _ (dE (by rw [<- ed];rfl) (cn.put b3 b8) cd (by rw [jQ c2];exact ca) ?_ (by rw [dT];exact dD) dj b1 (by rw [dT];exact c6) (by rw [dT];exact sm.trans sD));rw [jF,dU.zs];show some (HO.lst _)=some (HO.lst ((B.zs++[e.name]).map V.str));rw [aK];rfl
  rintro σ S ⟨B,es,sp,d,c7,c8,rfl,hq,I,J,am,a9,ez,c5,ah,sm⟩;rw [ac,dk] at ez;have fy:es.length<=57:=by lia
  refine ⟨l,jB rfl (⟨.inl (so J),fun hd d8=>?_⟩)⟩;have u1:=jL d8 (.lst (es.map fun p=>V.ref p.2));have et:=hq.same u1;have dt:EnsAt (upd S hd (.lst (es.map fun p=>V.ref p.2))) es:=a9.same ((vY _ _).trans u1);refine ⟨x,hd,kS R L N es B (y6 rfl et.cnH a4 jF dt fy I (fun b2 A2 B2 H7 Z Y s7 hA=>?_))⟩;have sH:=s7.trans (vY _ _);have d0:=BRun.al a4 I Y;have c9:=sH _ _ (u1 _ _ J);have eb:=sH _ _ (jF (H:=S) (a:=hd) (o:=.lst (es.map fun p=>V.ref p.2)));have ea:=sH _ _ (u1 _ _ am);have co:=dt.same sH;have e3:=et.same sH;have z9:=hq.ok.z9;obtain ⟨c3,hy,c0,a8⟩:=Z.ins;refine ⟨_,jB rfl (⟨tR eb c9 co (by lia),jB rfl (qB ?_)⟩)⟩;refine ⟨b2,c3,jB rfl (⟨c0,a8 _ (by trivial),kI b2 x A2 R L N B2 (kG rfl Z (fun l8 H8 s8 n8 h8=>?_))⟩)⟩;rw [Y.esq] at h8;refine ⟨_,jB rfl (⟨tR h8 (s8 _ _ c9) (co.same s8) (by lia),jB rfl (qB ?_)⟩)⟩;refine ⟨b2,c3,jB rfl (⟨(s8 _ _ c0),a8 _ (by trivial),kI b2 x A2 R L N B2 (kG rfl (Z.same s8) (fun l9 H9 s9 n9 h9=>?_))⟩)⟩;have b7:=s8.trans s9;refine ⟨_,jB rfl (⟨BF h9 (by rw [d0.zs];exact b7 _ _ ea) (by rw [d0.zs];lia),jB rfl (qB ?_)⟩)⟩;refine X9 b2 b x A2 A R L N B2 B es (y6 rfl (Z.same b7) (e3.same b7) d0 Y.words Y.esq (co.same b7) (fun b0 e6=>(jB rfl (qB ?_))));have sX:=b7.trans e6;have dp:=(e3.same sX).cnH;have g8:=dp;obtain ⟨dx,rl,ll,nl,fs,rs,ls,nv,hx,hf,hc,hm,hE,hR,hL,hN,d1,d2,d3⟩:=dp;obtain ⟨gs,ej,d7⟩:=Y.led;have r8:=a4.r8;have l8:=a4.l8;refine ⟨x,dx,jB rfl (⟨hx,hf.no (by trivial) (by trivial) (by trivial),kS x ([]) R L N (j7 rfl g8 (by lia) (by lia) (bZ a4) (fun rt ho eq f6 hb gn e2=>?_))⟩)⟩;obtain rfl:=Spl.unique (lM (fK (m:=L.length) (bZ a4))) e2 ej;have sY:=sX.trans f6;refine ⟨b2,c3,jB rfl (⟨(sY _ _ c0),a8 _ (by trivial),kI b2 x A2 R L N B2 (kG rfl (Z.same sY) (fun f2 hs ev hD e4=>?_))⟩)⟩;have sZ:=sY.trans ev;have hg:=Z.ok.ml;have pn:=Z.ok.pn;have hj:=Z.ok.e15;have er:(QL (yJ R L.length) (qK R L.length) eq).length=B2.ms.length:=by rw [d7,QA]
  refine kS rt f2 (QL (yJ R L.length) (qK R L.length) eq) B2.ps B2.pd (vS rfl (ev _ _ gn) e4 (by rw [er];exact (Z.pp.same (vY _ _)).same sZ) (by lia) (by lia) (fun g4 ht gf ep=>?_));rw [<- d7] at ep;have sW:=sZ.trans gf;obtain ⟨wt,pt,g1,g2,g3⟩:=(Z.same sW).stH;refine ⟨b2,c3,jB rfl (⟨(sW _ _ c0),a8 _ (by trivial),kI b2 x A2 R L N B2 (kG rfl (Z.same sW) (?_))⟩)⟩;refine jK (SqT.of g1) rfl (j5 g4 wt _ _ (vS rfl rfl (SqT.of ep) (SqT.of g2) (tH _) (tH _) (jB rfl (?_))));rw [TX (tH _)];refine qB ?_;refine ⟨aH _,fun e0 dV=>?_⟩;have u0:=jL dV (.lst []);have b9:=u1.trans (sH.trans (sW.trans u0));have a7:=(vY S A).trans b9
  rcases ah with hz|⟨k,e,t,B0,hk,hz,bt,be,g0,cz,hl⟩
  . exact j3 sp e0 ([]) (jP rfl rfl (so (a7 _ _ hz)) (so jF) (jB rfl (qA (q _))))
  have dK:((es.take k).map (fun p=>V.ref p.2)++[V.ref t]).isEmpty=false:=by simp
  refine j3 sp e0 _ (jP rfl rfl (so (a7 _ _ hz)) (so jF) (jB rfl (?_)));rw [dK];refine qB ?_;refine ⟨sp,jB rfl (⟨.inl (so (a7 _ _ hz)),_,_,rfl,rfl,jB rfl (⟨l,jB rfl (⟨so (b9 _ _ J),fun p1 e8=>?_⟩)⟩)⟩)⟩;rw [YA hk];have u2:=jL e8 (.lst ((es.map fun p=>V.ref p.2).drop k));refine j5 sp p1 _ _ (j7 rfl rfl (u2 _ _ (a7 _ _ hz)) jF (QB (by rw [ag,ac,aW,ax,dk,ac];lia)) (fun p2 c4=>?_));have u3:=jL c4 (.lst ((es.take k).map (fun p=>V.ref p.2)++[V.ref t]++(es.map fun p=>V.ref p.2).drop k));have sL:=b9.trans (u2.trans u3);have eu:(es.take k).length=k:=by rw [aW];lia
  rw [ac,dk] at hl;refine yE x p2 R L N (es.take k++[(e,t)]++es.drop k) (j5 k e t B0 (dE rfl ((hq.same sL).cnH) a4 (?_) (fun p hp=>?_) (?_) (?_) (?_) cz (fun H'=>q _)))
  . rw [jF,aK,aK,map_drop]
    rfl
  . have hh:=a9.same ((vY S A).trans sL)
    rcases ba.mp hp with hp|hp
    . rcases ba.mp hp with hp|hp
      . exact hh p (gu hp)
      . rw [aO.mp hp];exact ⟨bt.same ((vY S A).trans sL),be⟩
    . exact hh p (mem_of_mem_drop hp)
  . rw [ag,ag,eu,ax,dk];lia
  . rw [gm,aA (by lia),eu,io];rfl
  . rw [gm,bp (by lia),take_take,Nat.min_self];exact g0
end
theorem all_mk {l:W.OpenLaw} {w:World} {h:Heap} {mg:Str->Option Value} {fa f8 f9 f2 e2 d0 dV k4 dT:Addr} {O V S:Addr} {l5:Nat} {h1:Tok} {eC eR eB eT eM eU eW eN eD:Addr} {kv:Tok} {Y:Addr} {dM:Tok} {dO:Tok} {dN:Tok} {aU aD:Addr} {oU oD:Obj} {nU nD:Nat} {lx lT kn jl hs lb hb h9 jb lr ki mn l9 hx:Tok} {f0:ClassData} (X:K.In h) (G:h.Ns mainGlobals mg) (ya:mg "law"=some (.ref fa))
 {la hr f3 c4:Option Addr} {hY e8:Array (Option Value)} {ga kj ls g5 ed hD f5 cC dK c7 b3 dl:Value} {l2:Addr} {ea:Obj}
  (qe:qG K "PlainLock" (some (.ref O)))
  (xm:qG K "BasinLock" (some (.ref V)))
  (xn:qG K "PumpLock" (some (.ref S)))
  (tn:qG K "Reach" (some (.ref cR)))
  (t1:qG K "Canal" (some (.ref cN)))
  (vg:qG K "CanalError" (some (.ref eC)))
  (pf:qG K "Torn" (some (.ref eR)))
  (uu:qG K "BadRow" (some (.ref eB)))
  (ta:qG K "Twice" (some (.ref eT)))
  (ud:qG K "TooMany" (some (.ref eM)))
  (ue:qG K "Unknown" (some (.ref eU)))
  (vp:qG K "NotLinked" (some (.ref eL)))
  (uv:qG K "NotNow" (some (.ref eW)))
  (vq:qG K "BadNumber" (some (.ref eN)))
  (uw:qG K "TooDry" (some (.ref eD)))
  (m0:qG K "Book" (some (.ref Y)))
  (p0:kD K "poured_all" rH)
  (p1:kD K "over" rB)
  (p2:kD K "last_first" pW)
  (p3:kD K "spills" rR)
  (p4:kD K "spill_pours" iQ)
  (p5:kD K "settled" rP)
  (p6:kD K "with_spills" sE)
  (p7:kD K "parts_not_nought" iP)
  (a8:kZ K O "__init__" (some (.ref f8)))
  (i8:W.isFn K (.ref f8)=true)
  (m3:W.findCls K (.ref O) (.type "type") "__init__"=some (.val (.ref f8)))
  (p8:fE K "__init__" "PlainLock.__init__" o3 f8)
  (a9:kZ K V "__init__" (some (.ref f9)))
  (i9:W.isFn K (.ref f9)=true)
  (p9:fE K "__init__" "BasinLock.__init__" oB f9)
  (rk:kZ K S "__init__" (some (.ref f2)))
  (m5:W.isFn K (.ref f2)=true)
  (n1:fE K "__init__" "PumpLock.__init__" o6 f2)
  (yi:kZ K cR "__init__" (some (.ref e2)))
  (td:W.isFn K (.ref e2)=true)
  (r5:fE K "__init__" "Reach.__init__" o8 e2)
  (y4:vJ K O "fill_parts" "PlainLock.fill_parts" o4)
  (yt:vJ K V "fill_parts" "BasinLock.fill_parts" oE)
  (sD:vJ K S "fill_parts" "PumpLock.fill_parts" o7)
  (re:kZ K O "let_parts" (some (.ref d0)))
  (e5:kZ K S "let_parts" (some (.ref d0)))
  (jg:W.isFn K (.ref d0)=true)
  (u8:fE K "let_parts" "PlainLock.let_parts" o5 d0)
  (tl:vJ K V "let_parts" "BasinLock.let_parts" oF)
  (vw:kZ K cN "__init__" (some (.ref dV)))
  (qo:W.isFn K (.ref dV)=true)
  (su:K.lookup dV=some ⟨ga,la,.func (W.fnOf "__init__" "Canal.__init__" (vQ bX) (qZ bX) (kF bX) (.ref l2) kj ls g5 hr ed hD),hY⟩)
  (yo:W.codeIn K ed "Canal.__init__"=true)
  (pw:W.keepIn K (.ref dV)=true)
  (ly:K.lookup l2=some ea)
  (ka:ea.data=.seq ([.none]:List Value).toArray l5)
  (r7:vJ K cN "sea" "Canal.sea" oZ)
  (sB:vJ K cN "sky" "Canal.sky" o0)
  (y5:vJ K cN "many" "Canal.many" oX)
  (yu:vJ K cN "chamber" "Canal.chamber" oS)
  (sa:vJ K cN "basin" "Canal.basin" oR)
  (nb:vJ K cN "weirs" "Canal.weirs" iF)
  (sg:vJ K cN "full" "Canal.full" oV)
  (y0:vJ K cN "start" "Canal.start" iE)
  (wo:kD K "filling" iK)
  (qq:kD K "letting" iM)
  (r8:kD K "given_by" iL)
  (my:kD K "basin_after" iI)
  (tr:kD K "passage" rE)
  (yy:kD K "step_ends" rT)
  (m8:kD K "linked" pY)
  (vh:kD K "steps_to_do" rV)
  (oy:kD K "reach_of" rK)
  (yn:kD K "lying" iN)
  (na:kD K "begun" pN)
  (nr:kD K "night_pours" dJ)
  (wh:kD K "wet_enough" iS)
  (mr:kD K "has_no_berth" pT)
  (ra:kD K "next_step" pZ)
  (sG:kD K "one_step_on" iO)
  (pi:kD K "counted_on" pP)
  (u9:kD K "by_number" iJ)
  (tp:kD K "pass_pours" rC)
  (wg:kD K "let_pours" pX)
  (q4:kD K "is_below_least" pU)
  (u4:kD K "falls_short" pS)
  (qk:kD K "why_no_pass" rZ)
  (vo:kD K "why_not" r9)
  (tw:kD K "pours" rJ)
  (ri:kD K "place_called" rG)
  (qc:vJ K cN "reach_at" "Canal.reach_at" oY)
  (sY:vJ K cN "lock_at" "Canal.lock_at" oW)
  (u6:kD K "way_told" iR)
  (wt:vJ K Y "canal" "Book.canal" oI)
  (tz:vJ K Y "state" "Book.state" oP)
  (m7:vJ K Y "names" "Book.names" oO)
  (oo:vJ K Y "ways" "Book.ways" oQ)
  (s6:vJ K Y "ledger" "Book.ledger" oN)
  (wa:vJ K Y "entries" "Book.entries" oK)
  (yv:vJ K Y "gatework" "Book.gatework" iD)
  (sS:vJ K Y "__init__" "Book.__init__" oG)
  (mA:kD K "written_with" iT)
  (sX:kD K "is_name" pV)
  (qa:kD K "boat_called" pO)
  (ni:kD K "number_named" rA)
  (nC:kD K "refuse_wrong_come" rM)
  (pu:kD K "refuse_wrong_night" rN)
  (vc:kD K "refuse_wrong" rL)
  (ut:kD K "deed_of" pQ)
  (yw:kD K "takes_too_much" rW)
  (ts:kD K "why_no_entry" rY)
  (s2:kD K "single_pour" rQ)
  (mu:kD K "entry_pours" pR)
  (sC:kD K "passing" rF)
  (yd:kD K "pass_worked" rD)
  (py:kD K "ways_behind" rX)
  (ry:kD K "state_behind" rS)
  (n8:kD K "words_worked" sF)
  (rg:vJ K Y "fault" "Book.fault" oM)
  (ss:vJ K Y "behind" "Book.behind" oH)
  (tg:vJ K Y "do" "Book.do" oJ)
  (yr:kD K "replayed" rO)
  (ti:kD K "_law_cell_at" pC)
  (rq:kD K "_law_name" pF)
  (s5:kD K "_law_unit" pK)
  (pj:kD K "_law_ends" iG)
  (nN:kD K "_law_nights" pG)
  (xg:kD K "_law_reach" pH)
  (mx:kD K "_law_lock" pE)
  (rj:kD K "_law_canal" pB)
  (nu:kD K "_law_steps" iH)
  (pg:kD K "_law_weather" pL)
  (qr:kD K "_law_entry" pD)
  (sZ:kD K "_law_wrong" pM)
  (cj:qG K "_law_same" (some (.ref k4)))
  (oC:fE K "_law_same" "_law_same" pI k4)
  (ua:kD K "_law_alike" o9)
  (yk:kD K "_law_torn" pJ)
  (w7:kD K "_law_behind" pA)
  (d3:qG K "law" (some (.ref dT)))
  (j1:K.lookup dT=some ⟨f5,f3,.func (W.fnOf "law" "law" (vQ Q8) (qZ Q8) (kF Q8) .none cC dK c7 c4 b3 dl),e8⟩)
  (mm:W.codeIn K b3 "law"=true)
  (ee:W.keepIn K (.ref dT)=true)
  (xt:qG K "list" none)
  (xy:qG K "tuple" none)
  (jo:qG K "max" none)
  (xz:qG K "range" none)
  (xq:qG K "len" none)
  (jp:qG K "sum" none)
  (jq:qG K "zip" none)
  (xv:qG K "enumerate" none)
  (xaG:qG K "min" none)
  (jr:qG K "all" none)
  (xi:qG K "isinstance" none)
  (jt:qG K "str" none)
  (uo:qG K "bool" none)
  (ju:qG K "int" none)
  (wu:W.plainGet K O Str.empty=true)
  (rz:W.hasDictIn K O=true)
  (mv:W.plainOver K O=true)
  (wb:kZ K O "__setattr__" (some (.builtin "object.__setattr__")))
  (wy:W.makesIn K O=true)
  (nh:W.keepIn K (.ref O)=true)
  (w5:kZ K O "name" none)
  (pc:kZ K O "high" none)
  (xa:kZ K O "low" none)
  (mq:kZ K O "room" none)
  (xb:W.plainGet K V Str.empty=true)
  (yl:W.hasDictIn K V=true)
  (nk:W.plainOver K V=true)
  (qh:kZ K V "__setattr__" (some (.builtin "object.__setattr__")))
  (r0:W.makesIn K V=true)
  (ov:W.keepIn K (.ref V)=true)
  (tj:kZ K V "name" none)
  (v9:kZ K V "high" none)
  (sT:kZ K V "low" none)
  (n4:kZ K V "room" none)
  (n0:kZ K V "side" none)
  (po:W.plainGet K S Str.empty=true)
  (zd:W.hasDictIn K S=true)
  (ns:W.plainOver K S=true)
  (vb:kZ K S "__setattr__" (some (.builtin "object.__setattr__")))
  (wf:W.makesIn K S=true)
  (x3:W.keepIn K (.ref S)=true)
  (rl:kZ K S "name" none)
  (rv:kZ K S "high" none)
  (q7:kZ K S "low" none)
  (q8:kZ K S "room" none)
  (x0:kZ K S "lift" none)
  (g1:W.specialIn K (.ref O) "__getattribute__"=some (some (.builtin "type.__getattribute__")))
  (g2:W.readsIn K O (.type "type")=true)
  (xk:W.plainGet K cR Str.empty=true)
  (o2:W.hasDictIn K cR=true)
  (vl:W.plainOver K cR=true)
  (qy:kZ K cR "__setattr__" (some (.builtin "object.__setattr__")))
  (uc:W.makesIn K cR=true)
  (q1:W.keepIn K (.ref cR)=true)
  (vi:kZ K cR "name" none)
  (zp:kZ K cR "least" none)
  (zv:kZ K cR "crest" none)
  (zm:kZ K cR "berths" none)
  (zw:kZ K cR "water" none)
  (zj:kZ K cR "target" none)
  (yp:W.plainGet K cN Str.empty=true)
  (y3:W.hasDictIn K cN=true)
  (sH:W.plainOver K cN=true)
  (x1:kZ K cN "__setattr__" (some (.builtin "object.__setattr__")))
  (pz:W.makesIn K cN=true)
  (w4:W.keepIn K (.ref cN)=true)
  (xl:kZ K cN "reaches" none)
  (xw:kZ K cN "locks" none)
  (zc:kZ K cN "nights" none)
  (hA:qG K "SEA" (some (.int (-1) h1)))
  (ux:W.excIn K eB [.type "ValueError",.type "Exception",.type "BaseException",.type "object"] "ValueError.__new__"=true)
  (sr:W.excIn K eT [.type "ValueError",.type "Exception",.type "BaseException",.type "object"] "ValueError.__new__"=true)
  (uf:W.excIn K eM [.type "ValueError",.type "Exception",.type "BaseException",.type "object"] "ValueError.__new__"=true)
  (ug:W.excIn K eU [.type "ValueError",.type "Exception",.type "BaseException",.type "object"] "ValueError.__new__"=true)
  (vt:W.excIn K eL [.type "ValueError",.type "Exception",.type "BaseException",.type "object"] "ValueError.__new__"=true)
  (uy:W.excIn K eW [.type "ValueError",.type "Exception",.type "BaseException",.type "object"] "ValueError.__new__"=true)
  (vv:W.excIn K eN [.type "ValueError",.type "Exception",.type "BaseException",.type "object"] "ValueError.__new__"=true)
  (uz:W.excIn K eD [.type "ValueError",.type "Exception",.type "BaseException",.type "object"] "ValueError.__new__"=true)
  (pd:W.excIn K eR [.type "ValueError",.type "Exception",.type "BaseException",.type "object"] "ValueError.__new__"=true)
  (en:qG K "HOME" (some (.int (-1) kv)))
  (y1:W.plainGet K Y Str.empty=true)
  (qm:W.hasDictIn K Y=true)
  (ww:W.plainOver K Y=true)
  (tt:kZ K Y "__setattr__" (some (.builtin "object.__setattr__")))
  (ul:W.makesIn K Y=true)
  (yj:W.keepIn K (.ref Y)=true)
  (nO_kept_canal:kZ K Y "kept_canal" none)
  (nO_kept_names:kZ K Y "kept_names" none)
  (nO_kept_ways:kZ K Y "kept_ways" none)
  (nO_kept_state:kZ K Y "kept_state" none)
  (nO_kept_pours:kZ K Y "kept_pours" none)
  (nO_kept_words:kZ K Y "kept_words" none)
  (nO_kept_entries:kZ K Y "kept_entries" none)
  (cd:qG K "LETTERS" (some (.str ZE dM)))
  (bl:qG K "MOST_SIGNS" (some (.int 12 dO)))
  (b0:qG K "MOST_BOATS" (some (.int 9 dN)))
  (ob:qG K "UP" (some (.ref aU)))
  (sN:qG K "DOWN" (some (.ref aD)))
  (lU:K.lookup aU=some oU)
  (lD:K.lookup aD=some oD)
  (rp:oU.cls=.type "tuple")
  (ty:oD.cls=.type "tuple")
  (dU:oU.data=.seq ([.str "open low" lx,.str "in low" kn,.str "shut low" hs,.str "fill" hb,.str "open high" jb,.str "out high" ki,.str "shut high" l9]:List Value).toArray nU)
  (dD:oD.data=.seq ([.str "open high" lT,.str "in high" jl,.str "shut high" lb,.str "let" h9,.str "open low" lr,.str "out low" mn,.str "shut low" hx]:List Value).toArray nD)
  (df:W.exmOne K (.ref eB) (.ref eC)=some true)
  (c3:W.exmOne K (.ref eT) (.ref eC)=some true)
  (dr:W.exmOne K (.ref eM) (.ref eC)=some true)
  (dn:W.exmOne K (.ref eU) (.ref eC)=some true)
  (db:W.exmOne K (.ref eL) (.ref eC)=some true)
  (dj:W.exmOne K (.ref eW) (.ref eC)=some true)
  (dy:W.exmOne K (.ref eN) (.ref eC)=some true)
  (dp:W.exmOne K (.ref eD) (.ref eC)=some true)
  (fv:kZ K eR "__getattribute__" (some (.builtin "BaseException.__getattribute__")))
  (e0:kZ K eR "__getattr__" none)
  (ej:kZ K eR "__class__" (some (.builtin "object.__class__")))
  (f1:W.mroIn K eR (.type "object")=some true)
  (ex:W.subIn K (.ref eR) (.type "BaseException")=some true)
  (f4:W.clsIn K eR=some f0)
  (c1:W.exmOne K (.ref eR) (.ref eC)=some true)
  (c9:W.kitOne K (.ref eR) (.ref eW)=some false)
  (dt:W.kitOne K (.ref eR) (.ref eU)=some false)
  (co:W.kitOne K (.ref eR) (.ref eB)=some false)
  (c0:W.kitOne K (.ref eR) (.ref eD)=some false)
  (cz:W.kitOne K (.ref eR) (.ref eC)=some true)
  (c5:W.exmOne K (.ref eR) (.ref eR)=some true) :
  ∃fd:FuncData,(∀(s:Shared) (v:Value),BindsTo s fd ⟨[v],[]⟩ [("script",v)])/\∀base:Heap,K.In base->base.Ns mainGlobals mg->FnOk l.prog w K mg base jT 17 fa fd ["script"] (cL K):=by
 have e:=ya.symm.trans (aC X G d3);cases e;obtain ⟨_,_,a0,F0⟩:=p0;obtain ⟨_,_,a1,F1⟩:=p1;obtain ⟨_,_,a2,F2⟩:=p2;obtain ⟨_,_,a3,F3⟩:=p3;obtain ⟨_,_,a4,F4⟩:=p4;obtain ⟨_,_,a5,F5⟩:=p5;obtain ⟨_,_,a6,F6⟩:=p6;obtain ⟨_,_,a7,F7⟩:=p7;obtain ⟨_,F8⟩:=p8;have k8:=F8.kp;have b8:=F8.binds (ps:=["self","name","high","low","room"]) fun _ _ _ _ _ _=>GX fun _ _ _ _ _=>rfl
 obtain ⟨_,F9⟩:=p9;have k9:=F9.kp;have b9:=F9.binds (ps:=["self","name","high","low","room","side"]) fun _ _ _ _ _ _=>xS fun _ _ _ _ _ _=>rfl
 obtain ⟨_,e3⟩:=n1;have zf:=e3.kp;have oq:=e3.binds (ps:=["self","name","high","low","room","lift"]) fun _ _ _ _ _ _=>xS fun _ _ _ _ _ _=>rfl
 obtain ⟨_,ev⟩:=r5;have ze:=ev.kp;have t9:=ev.binds (ps:=["self","name","least","crest","berths","water","target"]) fun _ _ _ _ _ _=>YG fun _ _ _ _ _ _ _=>rfl
 obtain ⟨_,_,ot,we,hz⟩:=y4;obtain ⟨_,_,tc,n3,gV⟩:=yt;obtain ⟨_,_,oL,rf,kz⟩:=sD;obtain ⟨_,fc⟩:=u8;have hQ:=fc.kp;have ln:=fc.binds (ps:=["self","basin"]) fun _ _ _ _ _ _=>JL fun _ _=>rfl
 obtain ⟨_,_,qi,t3,md⟩:=tl;have fy:=VB (st:=bX) (ds:=[.none]) (n:=l5) su yo pw ly (by first|exact ka|rfl);have s7:Binds K _ ["self","reaches","locks","nights"] []:=fy.binds [] 4 rfl fun _ _ _ _ _ _ _=>nO fun _ _ _ _=>⟨_,rfl,rfl⟩
 have tm:Binds K _ ["self","reaches","locks","nights"] [.none]:=fy.binds [.none] 3 rfl fun _ _ _ _ _ _ _=>gS fun _ _ _=>⟨_,rfl,rfl⟩
 obtain ⟨_,_,qp,t5,kg⟩:=r7;obtain ⟨_,_,tx,r2,lz⟩:=sB;obtain ⟨_,_,ve,px,ks⟩:=y5;obtain ⟨_,_,tA,sk,ha⟩:=yu;obtain ⟨_,_,nl,sw,hR⟩:=sa;obtain ⟨_,_,si,wq,lA⟩:=nb;obtain ⟨_,_,rm,ny,hi⟩:=sg;obtain ⟨_,_,xd,ub,kw⟩:=y0;obtain ⟨_,_,s0,hE⟩:=wo;obtain ⟨_,_,vk,ll⟩:=qq;obtain ⟨_,_,nq,hT⟩:=r8;obtain ⟨_,_,sh,i2⟩:=my;obtain ⟨_,_,te,hh⟩:=tr;obtain ⟨_,_,op,g8⟩:=yy;obtain ⟨_,_,lg,eg⟩:=m8;obtain ⟨_,_,sj,f7⟩:=vh;obtain ⟨_,_,rn,l0⟩:=oy;obtain ⟨_,_,q2,hf⟩:=yn;obtain ⟨_,_,rd,hC⟩:=na;obtain ⟨_,_,s1,i0⟩:=nr;obtain ⟨_,_,ym,km⟩:=wh;obtain ⟨_,_,q0,hH⟩:=mr;obtain ⟨_,_,tu,lp⟩:=ra;obtain ⟨_,_,nv,h2⟩:=sG;obtain ⟨_,_,x7,mp⟩:=pi;obtain ⟨_,_,s8,hn⟩:=u9;obtain ⟨_,_,ur,j0⟩:=tp;obtain ⟨_,_,v7,jd⟩:=wg;obtain ⟨_,_,pq,lw⟩:=q4;obtain ⟨_,_,wi,jh⟩:=u4;obtain ⟨_,_,ng,hF⟩:=qk;obtain ⟨_,_,w8,h0⟩:=vo;obtain ⟨_,_,xo,ml⟩:=tw;obtain ⟨_,_,u5,hv⟩:=ri;obtain ⟨_,_,s3,nw,e6⟩:=qc;have np:=e6.kp;have nA:=e6.binds (ps:=["self","name"]) fun _ _ _ _ _ _=>JL fun _ _=>rfl
 obtain ⟨_,_,r4,o1,et⟩:=sY;have xh:=et.kp;have ql:=et.binds (ps:=["self","name"]) fun _ _ _ _ _ _=>JL fun _ _=>rfl
 obtain ⟨_,_,t2,mh⟩:=u6;obtain ⟨_,_,x4,qd,jf⟩:=wt;obtain ⟨_,_,vu,sd,kr⟩:=tz;obtain ⟨_,_,w2,n5,ji⟩:=m7;obtain ⟨_,_,rr,rh,h8⟩:=oo;obtain ⟨_,_,za,mw,kh⟩:=s6;obtain ⟨_,_,x2,qf,mi⟩:=wa;obtain ⟨_,_,pr,oh,lq⟩:=yv;obtain ⟨_,_,om,s9,hq⟩:=sS;have u0:=hq.binds (ps:=["self","canal"]) fun _ _ _ _ _ _=>JL fun _ _=>rfl
 obtain ⟨_,_,u3,hg⟩:=mA;obtain ⟨_,_,wr,lh⟩:=sX;obtain ⟨_,_,oc,lk⟩:=qa;obtain ⟨_,_,u1,gl⟩:=ni;obtain ⟨_,_,nT,hj⟩:=nC;obtain ⟨_,_,u7,mb⟩:=pu;obtain ⟨_,_,wp,g0⟩:=vc;obtain ⟨_,_,nd,kf⟩:=ut;obtain ⟨_,_,xp,hB⟩:=yw;obtain ⟨_,_,sc,kk⟩:=ts;obtain ⟨_,_,vj,hM⟩:=s2;obtain ⟨_,_,v8,ke⟩:=mu;obtain ⟨_,_,sm,hO⟩:=sC;obtain ⟨_,_,ox,g7⟩:=yd;obtain ⟨_,_,rc,j2⟩:=py;obtain ⟨_,_,y2,l7⟩:=ry;obtain ⟨_,_,nz,hu⟩:=n8;obtain ⟨_,_,rx,qj,fn⟩:=rg;have x5:=fn.kp;have sl:=fn.binds (ps:=["self","entry"]) fun _ _ _ _ _ _=>JL fun _ _=>rfl
 obtain ⟨_,_,yx,nc,er⟩:=ss;have pp:=er.kp;have n7:=er.binds (ps:=["self","entry"]) fun _ _ _ _ _ _=>JL fun _ _=>rfl
 obtain ⟨_,_,u2,oj,eu⟩:=tg;have qz:=eu.kp;have og:=eu.binds (ps:=["self","entry"]) fun _ _ _ _ _ _=>JL fun _ _=>rfl
 obtain ⟨_,_,lf,el⟩:=yr;obtain ⟨_,_,qb,h3⟩:=ti;obtain ⟨_,_,m1,gi⟩:=rq;obtain ⟨_,_,wn,hL⟩:=s5;obtain ⟨_,_,pb,gp⟩:=pj;obtain ⟨_,_,ye,hS⟩:=nN;obtain ⟨_,_,nt,mc⟩:=xg;obtain ⟨_,_,r1,hy⟩:=mx;obtain ⟨_,_,yq,hl⟩:=rj;obtain ⟨_,_,qn,mk⟩:=nu;obtain ⟨_,_,nj,ih⟩:=pg;obtain ⟨_,_,ou,jn⟩:=qr;obtain ⟨_,_,m2,hm⟩:=sZ;obtain ⟨_,b4⟩:=oC;have ce:=b4.kp;have ca:=b4.binds (ps:=["found","due"]) fun _ _ _ _ _ _=>JL fun _ _=>rfl
 obtain ⟨_,_,ol,me⟩:=ua;obtain ⟨_,_,yg,ku⟩:=yk;obtain ⟨_,_,sy,h4⟩:=w7;have d1:=iC (st:=Q8) j1 mm ee;have l4:=d1.binds (ps:=["script"]) fun _ _ _ _ _ _=>nP fun _=>rfl
 refine ⟨W.fnOf "law" "law" (vQ Q8) (qZ Q8) (kF Q8) .none cC dK c7 c4 b3 dl,fun s v=>.of_eq rfl,fun base _ _=>?_⟩;have T:Txt l.prog w base K mg O V S cR cN h1 eC eR eB eT eM eU eL eW eN eD kv Y dM dO dN aU aD:={xt:=bg X G xt,xy:=bg X G xy,jo:=bg X G jo,xz:=bg X G xz,xq:=bg X G xq,jp:=bg X G jp,jq:=bg X G jq,xv:=bg X G xv,xaG:=bg X G xaG,jr:=bg X G jr,xi:=bg X G xi,jt:=bg X G jt,uo:=bg X G uo,ju:=bg X G ju,cl:=fun kd=>match kd with|.plain=>⟨wu,rz,mv,wb⟩|.basin=>⟨xb,yl,nk,qh⟩|.pump=>⟨po,zd,ns,vb⟩,xaK:=fun kd=>match kd with|.plain=>w5|.basin=>tj|.pump=>rl,jv:=fun kd=>match kd with|.plain=>pc|.basin=>v9|.pump=>rv,xa4:=fun kd=>match kd with|.plain=>xa|.basin=>sT|.pump=>q7,wz:=fun kd=>match kd with|.plain=>mq|.basin=>n4|.pump=>q8,xbd:=n0,xaL:=x0,vx:=aC X G qe,ja:=aC X G xm,jw:=aC X G xn,clR:=⟨xk,o2,vl,qy⟩,vi:=vi,zp:=zp,zv:=zv,zm:=zm,zw:=zw,zj:=zj,xbk:=aC X G tn,clN:=⟨yp,y3,sH,x1⟩,xl:=xl,xw:=xw,zc:=zc,xbl:=aC X G t1,xbN:=aC X G hA,zu:=aC X G vg,xbe:=aC X G pf,jx:=aC X G uu,xbm:=aC X G ta,xaH:=aC X G ud,wj:=aC X G ue,jc:=aC X G vp,uh:=aC X G uv,je:=aC X G vq,jy:=aC X G uw,jz:=ux,xaM:=sr,uq:=uf,wk:=ug,vy:=vt,ui:=uy,vz:=vv,xaa:=uz,xbt:=pd,xaN:=aC X G en,clO:=⟨y1,qm,ww,tt⟩,nO_kept_canal:=nO_kept_canal,nO_kept_names:=nO_kept_names,nO_kept_ways:=nO_kept_ways,nO_kept_state:=nO_kept_state,nO_kept_pours:=nO_kept_pours,nO_kept_words:=nO_kept_words,nO_kept_entries:=nO_kept_entries,xbu:=aC X G m0,xaI:=aC X G cd,uj:=aC X G bl,uk:=aC X G b0,xcp:=aC X G ob,xbv:=aC X G sN,up:=fun H=>EB (its:=[.str "open low" lx,.str "in low" kn,.str "shut low" hs,.str "fill" hb,.str "open high" jb,.str "out high" ki,.str "shut high" l9]) lU rp dU zz7 (.cons ⟨_,rfl⟩ (.cons ⟨_,rfl⟩ (.cons ⟨_,rfl⟩ (.cons ⟨_,rfl⟩ (.cons ⟨_,rfl⟩ (.cons ⟨_,rfl⟩ (.cons ⟨_,rfl⟩ .nil))))))),down:=fun H=>EB (its:=[.str "open high" lT,.str "in high" jl,.str "shut high" lb,.str "let" h9,.str "open low" lr,.str "out low" mn,.str "shut low" hx]) lD ty dD zz7 (.cons ⟨_,rfl⟩ (.cons ⟨_,rfl⟩ (.cons ⟨_,rfl⟩ (.cons ⟨_,rfl⟩ (.cons ⟨_,rfl⟩ (.cons ⟨_,rfl⟩ (.cons ⟨_,rfl⟩ .nil))))))),exm_BadRow:=df,exm_Twice:=c3,exm_TooMany:=dr,exm_Unknown:=dn,exm_NotLinked:=db,exm_NotNow:=dj,exm_BadNumber:=dy,exm_TooDry:=dp,at_Torn:=⟨fv,e0,ej,f1,ex⟩,wm:=by rw [f4];rfl,exm_Torn:=c1,k_Torn_NotNow:=c9,k_Torn_Unknown:=dt,k_Torn_BadRow:=co,k_Torn_TooDry:=c0,k_Torn_CanalError:=cz,exs_Torn:=c5};have D0:=vN X G a0 F0 (LI T F0);have D1:=QM X G a1 F1 (LA T F1);have D2:=gW X G a2 F2 (K0 T F2);have D3:=vN X G a3 F3 (LS T F3 D2 D1);have D4:=vN X G a4 F4 (LR T F4 D3 D2);have D5:=vN X G a5 F5 (LP T F5 D0 D4);have D6:=QM X G a6 F6 (L7 T F6 D4 D0);have D7:=gW X G a7 F7 (LB T F7);have G8:=IM T F8;have sf:MkD l.prog w K mg base 1 "PlainLock" O ["self","name","high","low","room"] (d6 (jG O V S)):=⟨T.vx,_,_,⟨wy,a8,i8,nh⟩,G8,b8⟩;have hG:CmD l.prog w K mg base 1 "PlainLock" O "__init__" ["self","name","high","low","room"] (d6 (jG O V S)):=⟨T.vx,_,_,⟨g1,g2,m3,k8⟩,G8,b8⟩
 have G9:=HL T F9 hG;have sW:MkD l.prog w K mg base 2 "BasinLock" V ["self","name","high","low","room","side"] (dZ (jG O V S) .basin):=⟨T.ja,_,_,⟨r0,a9,i9,ov⟩,G9,b9⟩;have tf:=IP T e3 hG;have n9:MkD l.prog w K mg base 2 "PumpLock" S ["self","name","high","low","room","lift"] (dZ (jG O V S) .pump):=⟨T.jw,_,_,⟨wf,rk,m5,x3⟩,tf,oq⟩;have ro:=IR T ev;have r3:MkD l.prog w K mg base 1 "Reach" cR ["self","name","least","crest","berths","water","target"] (tK cR):=⟨T.xbk,_,_,⟨uc,yi,td,q1⟩,ro,t9⟩;have s4:=IN T hz D7;have jj:=e9 (T.cl .plain) ot we hz s4;have oz:=HM T gV D7;have jk:=e9 (T.cl .basin) tc n3 gV oz;have n2:=IQ T kz D7;have jm:=e9 (T.cl .pump) oL rf kz n2;have vd:MeK l.prog w K mg base 2 (jG O V S) "fill_parts" ["self","basin"] (JO (jG O V S) bK):=⟨fun kd=>by cases kd;exact jj;exact jk;exact jm⟩;have hK:=IO T fc D7;have yf:MeD l.prog w K mg base 2 O "let_parts" ["self","basin"] (JO (jG O V S) Q5 .plain):=⟨T.cl .plain,_,_,⟨re,jg,hQ⟩,(hK.imp (sp':=JO (jG O V S) Q5 .plain) (fun vs H Q E ⟨x,n,h,l,c6,v,b,e,a,q⟩=>⟨.plain,x,n,h,l,c6,v,b,e,a,q⟩)),ln⟩;have xx:MeD l.prog w K mg base 2 S "let_parts" ["self","basin"] (JO (jG O V S) Q5 .pump):=⟨T.cl .pump,_,_,⟨e5,jg,hQ⟩,(hK.imp (sp':=JO (jG O V S) Q5 .pump) (fun vs H Q E ⟨x,n,h,l,c6,v,b,e,a,q⟩=>⟨.pump,x,n,h,l,c6,v,b,e,a,q⟩)),ln⟩;have ow:=HN T md D7;have oa:=e9 (T.cl .basin) qi t3 md ow;have vm:MeK l.prog w K mg base 2 (jG O V S) "let_parts" ["self","basin"] (JO (jG O V S) Q5):=⟨fun kd=>by cases kd;exact yf;exact oa;exact xx⟩;have oT:=IB T fy;have va:MkD l.prog w K mg base 1 "Canal" cN ["self","reaches","locks","nights"] (tL (jG O V S) cR cN):=⟨T.xbl,_,_,⟨pz,vw,qo,w4⟩,oT,s7⟩;have q6:=II T kg;have ko:=JZ T.clN qp t5 kg q6;have qx:=IJ T lz ko;have ef:=JZ T.clN tx r2 lz qx;have mz:=IG T ks ef;have xf:=JZ T.clN ve px ks mz;have oi:=ID T ha;have hW:=e9 T.clN tA sk ha oi;have nF:=IC T hR;have e7:=e9 T.clN nl sw hR nF;have m4:=IL T lA ko;have um:=JZ T.clN si wq lA m4;have yz:=IE T hi hW;have ew:=YS T.clN rm ny hi yz;have yb:=IK T kw xf D5 um;have ho:=JZ T.clN xd ub kw yb;have th:=vN X G s0 hE (KS T hE vd);have l8:=vN X G vk ll (K3 T ll vm);have vf:=vN X G nq hT (KU T hT);have wd:=vN X G sh i2 (KK T i2 vf);have rb:=J4 X G te hh (LF T hh l8 th wd);have r6:=vN X G op g8 (LV T g8);have d8:=(K4 T eg r6);have l1:=YU X G lg eg d8;have w3:=QM X G lg eg (d8.noX (sp':=t4 K (jG O V S) cR cN) PY);have q3:=vN X G sj f7 (LW T f7);have le:=QM X G rn l0 (LK T l0 q3 w3);have wc:=J4 X G q2 hf (K5 T hf le);have se:=vN X G rd hC (KL T hC ho);have od:=QM X G s1 i0 (K7 T i0 ef D6 um);have pe:=vN X G ym km (L3 T km);have hp:=J4 X G q0 hH (KW T hH wc);have kx:=vN X G tu lp (K6 T lp);have xr:=vN X G nv h2 (K9 T h2);have vn:=QM X G x7 mp (KO T mp xr);have hc:=QM X G s8 hn (KN T hn e7 hW)
 have lm:=J4 X G ur j0 (LD T j0 kx e7 hc rb ew);have qg:=QM X G v7 jd (K2 T jd hc l8 e7);have pk:=QM X G pq lw (KY T lw);have sv:=QM X G wi jh (KR T jh D0 pk);have q5:=J4 X G ng hF (L5 T hF le hp sv lm);have g6:=J4 X G w8 h0 (L6 T h0 q5 ew);have h5:=(LJ T ml g6 lm qg D6 um);have ht:=YT X G xo ml h5;have ld:=(LH T hv);have d2:=JC X G u5 hv ld;have sA:=IH T e6 d2;have gn:=sA;have J:MeX l.prog w K mg base 2 cN "reach_at" ["self","name"] (ZM (jG O V S) cR cN eU 0):=⟨T.clN,_,_,⟨s3,nw,np⟩,gn,nA⟩;have nn:=IF T et d2;have mf:=nn;have am:MeX l.prog w K mg base 2 cN "lock_at" ["self","name"] (ZM (jG O V S) cR cN eU 1):=⟨T.clN,_,_,⟨r4,o1,xh⟩,mf,ql⟩;have gf:=(LY T mh J am);have eb:=JC X G t2 mh gf;have wl:=HR T jf;have I:=JZ T.clO x4 qd jf wl;have nf:=HZ T kr;have F:=JZ T.clO vu sd kr nf;have tq:=HY T ji;have ah:=JZ T.clO w2 n5 ji tq;have yh:=IA T h8;have Z:=JZ T.clO rr rh h8 yh;have ph:=HX T kh;have be:=JZ T.clO za mw kh ph;have sx:=HU T mi;have an:=JZ T.clO x2 qf mi sx;have zb:=HW T lq;have bt:=JZ T.clO pr oh lq zb;have xj:=HP T hq se;have g3:MkD l.prog w K mg base 7 "Book" Y ["self","canal"] (lB (jG O V S) cR cN Y):=⟨T.xbu,_,_,⟨ul,om,s9,yj⟩,xj,u0⟩;have vr:=vN X G u3 hg (L9 T hg);have mt:=gW X G wr lh (KZ T lh vr);have f6:=(KM T lk);have mj:=JC X G oc lk f6;have lv:=(K8 T gl mj ah am I J);have b1:=JC X G u1 gl lv;have l6:=(LM T hj mt ah eb I l1);have iv:=JC X G nT hj l6;have ky:=(LN T mb I F pe);have l3:=JC X G u7 mb ky;have hN:=(LL T g0 iv l3 b1);have mo:=JC X G wp g0 hN;have k6:=(KP T kf b1);have dx:=JC X G nd kf k6;have i1:=(LX T hB b1 F I);have h6:=JC X G xp hB i1;have g9:=(L4 T kk J I hp Z F h6 g6 dx);have hI:=JC X G sc kk g9;have wx:=QM X G vj hM (LQ T hM);have kl:=(KQ T ke I wx b1 ef D6 um F od ht Z dx);have d7:=JC X G v8 ke kl;have xu:=vN X G sm hO (LG T hO);have sq:=J4 X G ox g7 (LE T g7 kx xu ew);have lj:=(LZ T j2 Z eb I);have lc:=JC X G rc j2 lj;have kt:=(LU T l7 F D0 d7 vn dx);have h7:=JC X G y2 l7 kt;have js:=(L8 T hu sq I Z F b1);have ma:=JC X G nz hu js;have yc:=HV T fn mo hI;have lu:=yc;have ap:MeX l.prog w K mg base 10 Y "fault" ["self","entry"] (qW (jG O V S) cR cN Y (mM eB eT eM eU eL eN eD)):=⟨T.clO,_,_,⟨rx,qj,x5⟩,lu,sl⟩;have sL:=HQ T er ap h7 lc;have hd:=sL;have b2:MeX l.prog w K mg base 12 Y "behind" ["self","entry"] (qW (jG O V S) cR cN Y (wC eB eT eM eU eL eN eD eW)):=⟨T.clO,_,_,⟨yx,nc,pp⟩,hd,n7⟩
 have pm:=HS T eu b2 d7 ma;have li:=pm;have b7:MeX l.prog w K mg base 13 Y "do" ["self","entry"] (nG (jG O V S) cR cN Y eB eT eM eU eL eN eD eW):=⟨T.clO,_,_,⟨u2,oj,qz⟩,li,og⟩;have d5:=(LO T el g3 b7);have hP:=YV X G lf el d5;have qt:=vN X G lf el (d5.noC (sp':=uK K (jG O V S) cR cN Y) SX);have cn:=vN X G qb h3 (IV T h3);have eq:=vN X G m1 gi (IZ T gi);have ep:=gW X G wn hL (KG T hL cn);have g4:=gW X G pb gp (IW T gp cn);have lo:=vN X G ye hS (KA T hS ep cn);have n6:=J4 X G nt mc (KB T mc r3);have xc:=J4 X G r1 hy (IY T hy sf sW n9);have oe:=vN X G yq hl (IU T hl ep cn g4 lo n6 eq xc va);have t8:=J4 X G qn mk (KC T mk eq);have qv:=J4 X G nj ih (KH T ih lo);have tv:=J4 X G ou jn (IX T jn cn g4 t8 eq qv ep);have qu:=vN X G m2 hm (KJ T hm ap);have e1:Def l.prog w K mg base 0 "_law_same" ["found","due"] [] (QS 0):=⟨_,_,[],SD (fun _ _ _ _ h=>h),aC X G cj,ce,.nil,ca⟩;have ey:Def l.prog w K mg base 1 "_law_same" ["found","due"] [] (QS 1):=⟨_,_,[],fG T b4 e1,aC X G cj,ce,.nil,ca⟩;have fr:Def l.prog w K mg base 2 "_law_same" ["found","due"] [] (QS 2):=⟨_,_,[],fG T b4 ey,aC X G cj,ce,.nil,ca⟩;have fx:Def l.prog w K mg base 3 "_law_same" ["found","due"] [] (QS 3):=⟨_,_,[],fG T b4 fr,aC X G cj,ce,.nil,ca⟩;have e4:Def l.prog w K mg base 4 "_law_same" ["found","due"] [] (QS 4):=⟨_,_,[],fG T b4 fx,aC X G cj,ce,.nil,ca⟩;have ez:Def l.prog w K mg base 5 "_law_same" ["found","due"] [] (QS 5):=⟨_,_,[],fG T b4 e4,aC X G cj,ce,.nil,ca⟩;have hw:=ez;have qw:=vN X G ol me (IS T me hw Z ah be F an bt);have w0:=vN X G yg ku (KD T ku hP);have t0:=vN X G sy h4 (IT T h4);have cv:=K1 T d1 oe g3 tv qu b7 qt hw ah an qw t0 be ho F w0;have c2:=cv;have w1:=mL c2 (aC X G d3) ee l4;have cv:=c2.noX (sp':=cL K) U9;exact cv
theorem walk {l:W.OpenLaw} {q:Program} {E:List Str} {XP:(Str->Option Value)->Heap->Prop} {S:World->Heap->Prop} {d:DefRec} {K:Params->W.Frag} (hn:l.most=some 63) (I:d.params.defaults=[])
  (V:∀(w:World) (h:Heap),S w h->(K w.params).In h)
  (F:∀(w:World) (G:Str->Option Value) (O:Addr) (h:Heap),(K w.params).In h->h.Ns mainGlobals G->G d.name=some (.ref O)->
   ∃J:FuncData,(∀(s:Shared) (u:Value),BindsTo s J ⟨[u],[]⟩ [("script",u)])/\∀base:Heap,(K w.params).In base->base.Ns mainGlobals G->FnOk l.prog w (K w.params) G base jT 17 O J ["script"] (cL (K w.params))) :
  W.WalkO q E XP S l.row.toRowW d [] (fun f vs=>PySem.call f vs) :=
 L2.walk_of (n:=63) (k:=17) (x:="script") (CX:=fun _=>jT) (sp:=fun w=>cL (K w.params)) hn (by decide) I ⟨rfl,by decide,by decide⟩ V F (fun _ _ a ns Z _ Y=>⟨a,ns,rfl,Y,Z,fun _=>rfl⟩) fun _ _ _ _ _ z=>z
end My
/- names taken so that the head below leaves out its twins of whole states (they are not needed, and make the compiled file larger than a hand-in may be) -/
namespace PySem.W.Fast
def tw5282459307186605087:=0
def tw14023056519970957255:=0
def tw8078874787182383268:=0
def tw15999336156972295739:=0
def tw8400474720495600022:=0
def tw2513324782219646004:=0
def tw873436998920820727:=0
def tw11483925560066092212:=0
def tw6913758179956089917:=0
def tw4502186546262100979:=0
def tw17478157436286406118:=0
def tw452545238351067826:=0
def tw5131300963724209803:=0
def tw2435861867354893794:=0
def tw13796915716053271719:=0
def tw8945796108227557479:=0
def tw9081028544624828595:=0
def tw7812095852185103870:=0
def tw14913743703746627221:=0
def tw1186570939892451083:=0
def tw16921637992881411219:=0
def tw2608920107820876612:=0
def tw2706466768491317218:=0
def tw11731449877097935810:=0
def tw2423482298407353044:=0
def tw5656326208878696189:=0
def tw1474732940911824019:=0
def tw15805286240884097462:=0
def tw9353550981406844641:=0
def tw14876522604628112513:=0
def tw10995290772923659956:=0
def tw18090594454086615748:=0
def tw13652434128257549026:=0
def tw170882671264349353:=0
def tw8352211001359144424:=0
def tw16589707231281002533:=0
def tw10581478690801032613:=0
def tw5547101608409249434:=0
def tw2886748535735681296:=0
def tw2639807592510333887:=0
def tw13085809032680122139:=0
def tw7704283201831491604:=0
def tw4729940194370718199:=0
def tw2925791010611381930:=0
def tw15170285347180542550:=0
def tw4756015477739432433:=0
def tw18358966394037834525:=0
def tw4776739307420245310:=0
def tw10403717184815805140:=0
def tw11982347276061758797:=0
def tw2799112229823943256:=0
def tw540237583998780053:=0
def tw13591228823530031183:=0
def tw8135913252295969582:=0
def tw6116381838529524030:=0
def tw16742195461732292232:=0
def tw128937268558488549:=0
def tw18441543952637598809:=0
def tw603666398912848429:=0
def tw2206911992535897168:=0
def tw15696953129013709250:=0
def tw16841365631330891052:=0
def tw579600197124909858:=0
def tw17229858554577646999:=0
def tw7841511649638123432:=0
def tw6585666087402031955:=0
def tw11086793908451877992:=0
def tw8258432362394474698:=0
def tw5763044858730542969:=0
def tw17562238945964508006:=0
def tw10873456238586426587:=0
def tw3755816536736346073:=0
def tw16601506656480853849:=0
def tw12291611648649264049:=0
def tw8712403318541881012:=0
def tw5488233498106617361:=0
def tw17375989401157482504:=0
def tw14817083356918215926:=0
def tw9093165546830760575:=0
def tw5184538174995970210:=0
def tw10044974829362966429:=0
def tw14955287634438645754:=0
def tw9554134287856261675:=0
def tw403898704252132790:=0
def tw10559853227804872604:=0
def tw9867923193245366211:=0
def tw6135266205059342333:=0
def tw11740159394146801707:=0
def tw18311702376171334122:=0
def tw4774279290580918475:=0
def tw16358781116566736122:=0
def tw14711930489834304327:=0
def tw9031771259698456865:=0
def tw2824495590056259586:=0
def tw10627185885390263183:=0
def tw1263195708183005737:=0
def tw7502156161309133195:=0
def tw17434129693728577965:=0
def tw1349704921936802540:=0
def tw17575313162452914327:=0
def tw4900706899556400460:=0
def tw3472446809792157171:=0
def tw16930953903227617057:=0
def tw4213088839525533819:=0
def tw7640639532744721133:=0
def tw11772801188061267130:=0
def tw2724463716906326383:=0
def tw11800708175259795249:=0
def tw6718104276661400388:=0
def tw9831686860693435890:=0
def tw2875576072853919460:=0
def tw8409031510284473957:=0
def tw1744541860199860235:=0
def tw12452327978116135459:=0
def tw12732071370088779244:=0
def tw15614442941393007934:=0
def tw10395973352075444795:=0
def tw1186963174278848915:=0
def tw416782106662710059:=0
def tw13366846259783189955:=0
def tw18260290492240883821:=0
def tw16619515632030929382:=0
def tw6776646687017246832:=0
def tw16038292609919527299:=0
def tw8422451259782997308:=0
def tw3478158748982779704:=0
def tw14240279876383089090:=0
def tw3947946135392610794:=0
def tw10688327227161543779:=0
def tw11999868696676669282:=0
def tw12112567737551895072:=0
def tw11167300414468377783:=0
def tw8367168384919890812:=0
def tw3612916027428518979:=0
def tw9109899330904962617:=0
def tw3477792053944035899:=0
def tw9996327520807599561:=0
def tw3882431260763773664:=0
def tw9051326000429298990:=0
def tw661210970688810177:=0
def tw13635361149857056780:=0
def tw3034243108889582758:=0
def tw10898675576720533912:=0
def tw1765941345428956584:=0
def tw9100217219687729946:=0
def tw8299631239724974956:=0
def tw11048619466886964140:=0
def tw18101054125178004484:=0
def tw15283261893059671572:=0
def tw15780222990941619426:=0
def tw3029417677274577527:=0
def tw16090133093107143481:=0
def tw930552901237926998:=0
def tw5477021763165115710:=0
def tw9106377758652512999:=0
def tw14197568023568302348:=0
def tw858621743837434608:=0
def tw6166615113881636324:=0
def tw5781370231266869077:=0
def tw10341625939064140918:=0
def tw10154965565601766224:=0
def tw15217755277147002190:=0
def tw12534822211810926341:=0
def tw11159072806269563872:=0
def tw10507870235187436015:=0
def tw16982485307243333381:=0
def tw9333632500199885431:=0
def tw11846373692129325229:=0
def tw54324951184877685:=0
def tw5948453499494292896:=0
def tw18425724360754696918:=0
def tw2064509318884737624:=0
def tw9829940144190091755:=0
def tw2879533584621413982:=0
def tw13994119826581744670:=0
def tw16201309434397558755:=0
def tw12306395041488491145:=0
def tw4151002005155374040:=0
def tw7061375646246280695:=0
def tw12303249406555111730:=0
def tw11256545827695957034:=0
def tw12900642184456052243:=0
def tw12681931898183501584:=0
def tw10119941262574649102:=0
def tw14307215149425402360:=0
def tw7028169432458620073:=0
def tw16272932231145821276:=0
def tw13490010478680254366:=0
def tw16746969754651965846:=0
def tw6897122690357425479:=0
def tw11559174957994989117:=0
def tw8066535719759126529:=0
def tw4319139149268237592:=0
def tw11811141746767284758:=0
def tw10167990683739171896:=0
def tw3488541395008602464:=0
def tw4883648104636230277:=0
def tw12451198994889694497:=0
def tw18308448554704940293:=0
def tw1119284772092533691:=0
def tw1484019626935183009:=0
def tw7005916717912046186:=0
def tw17060430363790236966:=0
def tw3553858752447643723:=0
def tw16547134496842214427:=0
def tw6810459659332168220:=0
def tw9860427108932684639:=0
def tw16893809442300233906:=0
def tw2406419038368121994:=0
def tw977698993253569292:=0
def tw3224573463575978248:=0
def tw9382864747645610016:=0
def tw8403241890856780999:=0
def tw4528213838860823937:=0
def tw15596688406331706256:=0
def tw6683187634441731984:=0
def tw15954854170166931179:=0
def tw16122689287941174485:=0
def tw12751351216344700965:=0
def tw2323836782201634685:=0
def tw18006884482773129435:=0
def tw9256052978267689434:=0
def tw3857912699224738687:=0
def tw15386348154589681312:=0
def tw13908085163173131895:=0
def tw12495264310354909522:=0
def tw16178184106410543734:=0
def tw11875500304555817693:=0
def tw3748134576308497224:=0
def tw14965178834510710109:=0
def tw5728917193008939365:=0
def tw6966923969084443604:=0
def tw51014695744752212:=0
def tw12922624934273360197:=0
def tw11093087847232636273:=0
def tw12073103976196435707:=0
def tw10397852499879205735:=0
def tw556836720890884986:=0
def tw10878160361628079306:=0
def tw15043331926850901885:=0
def tw14990615546314923326:=0
def tw735790889102989942:=0
def tw14032952031975163295:=0
def tw5991035391640958434:=0
def tw15023444771836546599:=0
def tw8253074457836751379:=0
def tw9494956371712189097:=0
def tw1340484308945952338:=0
def tw11378074279738740405:=0
def tw13395840347781720104:=0
end PySem.W.Fast
open PySem PySem.W PyProof.Rows
set_option maxRecDepth 100000 in
set_option maxHeartbeats 0 in
theorem PySem.Challenge.cw_lockhouse_k74_replayed_alike_holds : PySem.Challenge.rw_lockhouse_k74_replayed_alike.Holds := by
 w_on;o_law;k_head;(case hw=>w_witness2)
 k_fill
 refine My.walk (l:=PySem.Challenge.rw_lockhouse_k74_replayed_alike) rfl rfl (fun w h Y=>PySem.W.kIn_of Y) ?F
 case F =>
  intro w mg fa h KX G hmg
  refine' My.all_mk KX G hmg ?xbP ?xbQ ?xbR ?xbS ?xbT ?vg ?xaW ?uu ?xag ?ud ?ue ?vp ?uv ?vq ?uw ?xbU ?p0 ?p1 ?p2 ?p3 ?p4 ?p5 ?p6 ?p7 ?a8 ?i8 ?ac8 ?p8 ?a9 ?i9 ?p9 ?a10 ?i10 ?p10 ?a11 ?i11 ?p11 ?p12 ?p13 ?p14 ?a15 ?a15_U ?i15 ?p15 ?p16 ?a17 ?i17 ?l17 ?c17 ?k17 ?lT17 ?dT17 ?p18 ?p19 ?p20 ?p21 ?p22 ?p23 ?p24 ?p25 ?p26 ?p27 ?p28 ?p29 ?p30 ?p31 ?p32 ?p33 ?p34 ?p35 ?p36 ?p37 ?p38 ?p39 ?p40 ?p41 ?p42 ?p43 ?p44 ?p45 ?p46 ?p47 ?p48 ?p49 ?p50 ?p51 ?p52 ?p53 ?p54 ?p55 ?p56 ?p57 ?p58 ?p59 ?p60 ?p61 ?p62 ?p63 ?p64 ?p65 ?p66 ?p67 ?p68 ?p69 ?p70 ?p71 ?p72 ?p73 ?p74 ?p75 ?p76 ?p77 ?p78 ?p79 ?p80 ?p81 ?p82 ?p83 ?p84 ?p85 ?p86 ?p87 ?p88 ?p89 ?p90 ?p91 ?p92 ?p93 ?p94 ?p95 ?a96 ?p96 ?p97 ?p98 ?p99 ?a100 ?l100 ?c100 ?k100 ?xt ?xy ?jo ?xz ?xq ?jp ?jq ?xv ?xaG ?jr ?xi ?jt ?uo ?ju ?xbV ?xbz ?xbW ?xbX ?xbY ?xbZ ?xah ?xai ?xaX ?xaj ?xb0 ?xbA ?xb1 ?xb2 ?xb3 ?xb4 ?xak ?xal ?xaY ?xam ?xan ?xb5 ?xbB ?xb6 ?xb7 ?xb8 ?xb9 ?xao ?xap ?xaZ ?xaq ?xar ?g1 ?g2 ?xca ?xbC ?xcb ?xcc ?xcd ?xce ?vi ?zp ?zv ?zm ?zw ?zj ?xcf ?xbD ?xcg ?xch ?xci ?xcj ?xl ?xw ?zc ?gSEA ?ux ?xas ?uf ?ug ?vt ?uy ?vv ?uz ?xa0 ?gHOME ?xck ?xbE ?xcl ?xcm ?xcn ?xco ?nO_kept_canal ?nO_kept_names ?nO_kept_ways ?nO_kept_state ?nO_kept_pours ?nO_kept_words ?nO_kept_entries ?gLETTERS ?gMOST_SIGNS ?gMOST_BOATS ?agU ?agD ?lU ?lD ?cU_ ?cD_ ?dU ?dD ?exmX_eB ?exmX_eT ?exmX_eM ?exmX_eU ?exmX_eL ?exmX_eW ?exmX_eN ?exmX_eD ?eg_eR ?en_eR ?ec_eR ?eo_eR ?eb_eR ?cX_eR ?exmX_eR ?kX_eR_0 ?kX_eR_1 ?kX_eR_2 ?kX_eR_3 ?kX_eR_4 ?exsX_eR
  (case xbP|xbQ|xbR|xbS|xbT|vg|xaW|uu|xag|ud|ue|vp|uv|vq|uw|xbU|a96|a100|xt|xy|jo|xz|xq|jp|jq|xv|xaG|jr|xi|jt|uo|ju|gSEA|gHOME|gLETTERS|gMOST_SIGNS|gMOST_BOATS|agU|agD=>refine' L2.nsP_mk ?_;first|k_is|k_exc|kit_is|kts_exm|rfl)
  (case a8|a9|a10|a11|a15|a15_U|a17|xbX|xah|xai|xaX|xaj|xb2|xak|xal|xaY|xam|xan|xb7|xao|xap|xaZ|xaq|xar|xcc|vi|zp|zv|zm|zw|zj|xch|xl|xw|zc|xcm|nO_kept_canal|nO_kept_names|nO_kept_ways|nO_kept_state=>refine' L2.fnP_mk ?_;first|k_is|k_exc|kit_is|kts_exm|rfl)
  (case nO_kept_pours|nO_kept_words|nO_kept_entries|eg_eR|en_eR|ec_eR=>refine' L2.fnP_mk ?_;first|k_is|k_exc|kit_is|kts_exm|rfl)
  (case i8|ac8|i9|i10|i11|i15|i17|l17|c17|k17|lT17|dT17|l100|c100|k100|xbV|xbz|xbW|xbY|xbZ|xb0|xbA|xb1|xb3|xb4|xb5|xbB|xb6|xb8|xb9|g1|g2|xca|xbC|xcb|xcd|xce|xcf|xbD|xcg=>first|k_is|k_exc|kit_is|kts_exm|rfl)
  (case xci|xcj|ux|xas|uf|ug|vt|uy|vv|uz|xa0|xck|xbE|xcl|xcn|xco|lU|lD|cU_|cD_|dU|dD|exmX_eB|exmX_eT|exmX_eM|exmX_eU|exmX_eL|exmX_eW|exmX_eN|exmX_eD|eo_eR|eb_eR|cX_eR|exmX_eR|kX_eR_0|kX_eR_1|kX_eR_2|kX_eR_3|kX_eR_4|exsX_eR=>first|k_is|k_exc|kit_is|kts_exm|rfl)
  (case p8|p9|p10|p11|p15|p96=>refine' ⟨_,L2.iC ?l ?c ?k⟩;(case l=>k_is);(case c=>k_is);(case k=>k_is))
  (case p0|p1|p2|p3|p4|p5|p6|p7|p26|p27|p28|p29|p30|p31|p32|p33|p34|p35|p36|p37|p38|p39|p40|p41|p42|p43|p44|p45|p46|p47|p48|p49|p50|p51|p54|p63|p64|p65|p66|p67=>refine' L2.fnT_mk ?a ?l ?c ?k;(case a=>k_is);(case l=>k_is);(case c=>k_is);(case k=>k_is))
  (case p68|p69|p70|p71|p72|p73|p74|p75|p76|p77|p78|p79|p83|p84|p85|p86|p87|p88|p89|p90|p91|p92|p93|p94|p95|p97|p98|p99=>refine' L2.fnT_mk ?a ?l ?c ?k;(case a=>k_is);(case l=>k_is);(case c=>k_is);(case k=>k_is))
  (case p12|p13|p14|p16|p18|p19|p20|p21|p22|p23|p24|p25|p52|p53|p55|p56|p57|p58|p59|p60|p61|p62|p80|p81|p82=>refine' L2.fnC_mk ?a ?i ?l ?c ?k;(case a=>k_is);(case i=>first|k_is|rfl);(case l=>k_is);(case c=>k_is);(case k=>k_is))
