import PyProof.Rows.All
import Wide.All
import OpenK.AllK
import Wide.FinOn
import Lean
import PyProof.EqAt
import PyProof.EqKinds
import PyProof.TupleCall
import PyProof.NeKinds
import OpenK.KOwn
import KE.KTryMore
import KE.RegKTryMore
import PyProof.NsDelKeeps
import KE.KIntText
import PySem.Challenge.RW_lockhouse_k65_advice
set_option Elab.async false
set_option linter.all false
set_option maxRecDepth 100000
namespace L2
abbrev aa:=@List.getElem?_eq_getElem
abbrev ac:=@List.length_map
abbrev ad:=@List.getD_eq_getElem?_getD
abbrev ae:=@PySem.wpAny_bind
abbrev af:=@List.getElem?_eq_some_iff
abbrev ag:=@List.length_append
abbrev ai:=@PySem.Heap.get?_push_of_some
abbrev aj:=@Nat.le_refl
abbrev ak:=@List.getElem?_map
abbrev ao:=@List.mem_cons
abbrev aq:=@PySem.Heap.get?_push_size
abbrev ar:=@PySem.Heap.lt_size
abbrev au:=@List.size_toArray
abbrev av:=@List.mem_of_getElem?
abbrev aw:=@List.map_append
abbrev ax:=@Int.toNat_natCast
abbrev ay:=@List.mem_nil_iff
abbrev az:=@Option.some.inj
abbrev aA:=@Nat.lt_of_lt_of_le
abbrev aB:=@Bool.false_ne_true
abbrev aC:=@List.getElem?_append_left
abbrev aE:=@List.getElem?_append_right
abbrev aF:=@PySem.F.plainAttrs_list
abbrev aG:=@List.take_add_one
abbrev aH:=@decide_eq_false
abbrev aI:=@List.mem_cons_of_mem
abbrev aJ:=@PySem.wpAny_pure
abbrev aK:=@Nat.le_trans
abbrev aL:=@Nat.zero_le
abbrev aM:=@Nat.ne_of_lt
abbrev aN:=@PySem.W.mg_of
abbrev aO:=@List.length_singleton
abbrev aP:=@Option.map_eq_some_iff
abbrev aQ:=@PySem.F.slot_list_append
abbrev aR:=@PySem.F.type_list_append
abbrev aS:=@List.mem_singleton
abbrev aT:=@List.length_range
abbrev aV:=@decide_eq_true
abbrev aW:=@List.take_length
abbrev aX:=@PyProof.Rows.boot_list
abbrev aY:=@List.mem_cons_self
abbrev aZ:=@List.length_cons
abbrev ba:=@List.mem_append
abbrev bb:=@List.append_nil
abbrev bc:=@PySem.wpAny_field
abbrev bd:=@List.mem_append_right
abbrev bf:=@List.length_filter_le
abbrev bg:=@List.length_take
abbrev bh:=@List.getElem?_eq_none
abbrev bi:=@Int.emod_lt_of_pos
abbrev bj:=@PySem.W.mg_none_of
abbrev bn:=@List.replicate_succ
abbrev bo:=@or_false
abbrev bp:=@List.mem_filter
abbrev bq:=@PyProof.Rows.callWith_type1
abbrev bu:=@List.eq_of_mem_replicate
abbrev bv:=@PySem.wpAny_setField_rec
abbrev bw:=@List.length_replicate
abbrev bx:=@List.filter_cons
abbrev bz:=@congrArg
abbrev cb:=@PySem.Heap.size_push
abbrev cc:=@PySem.wpAny_seqItems
abbrev cf:=@List.take_of_length_le
abbrev cg:=@PySem.wpAny_mono
abbrev ci:=@PySem.W.kia_one
abbrev ck:=@List.getElem?_range
abbrev cm:=@Int.emod_nonneg
abbrev cp:=@Nat.lt_irrefl
abbrev cq:=@PySem.wpAny_callSpecial?_slot
abbrev cu:=@List.nodup_cons
abbrev cv:=@List.lookup_cons
abbrev cw:=@List.all_eq_true
abbrev cx:=@Nat.lt_of_le_of_lt
abbrev cy:=@PyProof.Rows.boot_tuple
abbrev da:=@beq_eq_false_iff_ne
abbrev dc:=@Bool.eq_false_iff
abbrev dg:=@Nat.ne_of_gt
abbrev dh:=@List.length_set
abbrev di:=@PySem.PassesOwn.never
abbrev dk:=@PySem.W.callWith_K
abbrev dm:=@PyProof.Rows.boot_isinstance
abbrev dq:=@List.mem_range
abbrev du:=@List.nodup_nil
abbrev dv:=@Int.zero_add
abbrev dw:=@PySem.wpAny_pyIter_list
abbrev dz:=@PySem.F.slot_zip_next
abbrev ec:=@PySem.F.slot_tuple_iterator_next
abbrev eh:=@Array.getElem?_eq_some_iff
abbrev ei:=@PySem.wpAny_call_entry
abbrev em:=@PySem.wpAny_pyIter_tuple
abbrev eo:=@List.mem_filterMap
abbrev er:=@PySem.W.methodCall_KW
abbrev fb:=@PySem.wpAny_onRaise
abbrev fe:=@PySem.wpAny_truthy_bool
abbrev ff:=@PySem.wpAny_passesOwn
abbrev fg:=@List.flatten_cons
abbrev fh:=@List.append_assoc
abbrev fi:=@decide_eq_true_eq
abbrev fj:=@List.map_cons
abbrev fk:=@PySem.mem_of_lookup
abbrev fm:=@List.cons.inj
abbrev fq:=@Bool.and_eq_true
abbrev ft:=@beq_self_eq_true
abbrev fu:=@List.getElem_mem
abbrev fw:=@PySem.call_meets
abbrev fz:=@List.getElem?_set_self
abbrev gb:=@PySem.Heap.get?_update_other
abbrev gc:=@PySem.wpAny_Call_Name_kw
abbrev gd:=@List.filter_append
abbrev ge:=@PySem.wpAny_execs_nil
abbrev gg:=@PySem.Heap.get?_update_self
abbrev gh:=@List.range_succ
abbrev gj:=@List.find?_cons
abbrev gk:=@List.mem_iff_getElem?
abbrev gl:=@List.mem_append_left
abbrev gm:=@List.getElem?_set_ne
abbrev gq:=@PySem.W.looks_findIn
abbrev gr:=@List.filterMap_cons
abbrev gt:=@Array.length_toList
abbrev gu:=@List.length_take_le
abbrev gv:=@beq_iff_eq
abbrev gw:=@PySem.AutoSeq1.wpAny_loadPart'
abbrev gx:=@PySem.wpAny_comprehension_free
abbrev gy:=@Nat.succ.inj
abbrev gz:=@List.mem_map
abbrev hJ:=@Bool.eq_iff_iff
abbrev hU:=@List.getElem?_replicate
abbrev hV:=@List.forIn_cons
abbrev hX:=@Bool.false_eq_true
abbrev hZ:=@PySem.Obj.data_mapFields
abbrev ia:=@PyProof.noPylong_small
abbrev ib:=@PySem.wpAny_pyIter_enum
abbrev ic:=@PySem.wpAny_newObj_type
abbrev ie:=@PySem.F.args_zip_next_1
abbrev ig:=@of_decide_eq_true
abbrev ii:=@Nat.le_of_lt
abbrev ij:=@Nat.sub_self
abbrev ik:=@Nat.lt_succ_self
abbrev il:=@List.zipIdx_cons
abbrev im:=@PySem.F.entry_zip_next
abbrev io:=@PySem.wpAny_pyIter_zip
abbrev ip:=@PySem.wpAny_updateSeq_pair
abbrev iq:=@List.mem_of_mem_take
abbrev ir:=@List.any_cons
abbrev iu:=@PySem.wpAny_attempt
abbrev iw:=@PySem.F.slot_int_rmul
abbrev ix:=@List.zipIdx_nil
abbrev iy:=@PySem.wpAny_letGo
abbrev iz:=@Nat.not_lt_zero
abbrev ka:=@PySem.codeAny_mono
open PySem PySem.Spec PyProof.Rows
abbrev kC:=Sum Int Str
def eS:kC->Value->Bool
 |.inl k,v=>Value.isInt k v
 |.inr x,v=>Value.isStrOf x v
def X6 (w:World):kC->Int
 |.inl k=>hashInt k
 |.inr x=>hashStr w x
theorem Q3:∀{k:kC} {v:Value},eS k v=true->(∃i t,k=Sum.inl i/\v=Value.int i t)\/(∃x t,k=Sum.inr x/\v=Value.str x t)
 |.inl i,v,h=>by
  obtain ⟨t,e⟩:=Value.isInt_shape (k:=i) (v:=v) h;exact .inl ⟨i,t,rfl,e⟩
 |.inr x,v,h=>by
  obtain ⟨t,e⟩:=Value.isStrOf_shape (x:=x) (v:=v) h;exact .inr ⟨x,t,rfl,e⟩
theorem RP (i:Int) (t:Tok):eS (.inl i) (.int i t)=true:=by simp [eS,Value.isInt]
theorem RO (x:Str) (t:Tok):eS (.inr x) (.str x t)=true:=by simp [eS,Value.isStrOf]
theorem WF (a b:Int):decide ((Sum.inl a:kC)=Sum.inl b)=(a == b):=by
 by_cases e:a=b
 ·subst e;simp
 ·have h:¬(Sum.inl a:kC)=Sum.inl b:=fun q=>e (Sum.inl.inj q)
  rw [aH h];exact (da.mpr e).symm
theorem WC (a b:Str):decide ((Sum.inr a:kC)=Sum.inr b)=decide (a=b):=by
 by_cases e:a=b
 ·subst e;simp
 ·have h:¬(Sum.inr a:kC)=Sum.inr b:=fun q=>e (Sum.inr.inj q)
  rw [aH h,aH e]
theorem WE (a:Int) (b:Str):decide ((Sum.inl a:kC)=Sum.inr b)=false:=aH (fun q=>nomatch q)
theorem WD (a:Str) (b:Int):decide ((Sum.inr a:kC)=Sum.inl b)=false:=aH (fun q=>nomatch q)
def zF (prog:Program) (w:World):PySem.KeyKind prog w kC where
 is:=eS
 hash:=X6 w
 inj:=fun v a b ha hb=>by
  rcases Q3 ha with ⟨i,t,rfl,rfl⟩|⟨x,t,rfl,rfl⟩
  ·rcases Q3 hb with ⟨j,u,rfl,e⟩|⟨y,u,rfl,e⟩
   ·injection e with e1 _;rw [e1]
   ·exact nomatch e
  ·rcases Q3 hb with ⟨j,u,rfl,e⟩|⟨y,u,rfl,e⟩
   ·exact nomatch e
   ·injection e with e1 _;rw [e1]
 byValue:=fun k v h=>by
  rcases Q3 h with ⟨i,t,rfl,rfl⟩|⟨x,t,rfl,rfl⟩<;>rfl
 pyHash:=fun hv h=>by
  rcases Q3 hv with ⟨i,t,rfl,rfl⟩|⟨x,t,rfl,rfl⟩
  ·exact wpAny_pyHash_int h
  ·exact wpAny_pyHash_str h
 eqBool:=fun hu hv h=>by
  rcases Q3 hu with ⟨i,t,rfl,rfl⟩|⟨x,t,rfl,rfl⟩
  ·rcases Q3 hv with ⟨j,u,rfl,rfl⟩|⟨y,u,rfl,rfl⟩
   ·rw [WF] at h;exact wpAny_eqBool_int h
   ·rw [WE] at h;exact SeqAt.EqAt.int_str i t y u _ _ _ _ h
  ·rcases Q3 hv with ⟨j,u,rfl,rfl⟩|⟨y,u,rfl,rfl⟩
   ·rw [WD] at h;exact SeqAt.EqAt.str_int x t j u _ _ _ _ h
   ·rw [WC] at h;exact wpAny_eqBool_str h
 «strs»:=fun k x t v h=>by
  rcases Q3 h with ⟨i,u,rfl,e⟩|⟨y,u,rfl,e⟩
  ·exact nomatch e
  ·injection e with e1 _
   subst e1;cases v<;>rfl
theorem OE (prog:Program) (w:World) (i:Int) (t:Tok):(zF prog w).is (.inl i) (.int i t)=true:=RP i t
theorem OD (prog:Program) (w:World) (x:Str) (t:Tok):(zF prog w).is (.inr x) (.str x t)=true:=RO x t
inductive V where
 |non|bl (b:Bool)|int (i:Int)|str (x:Str)|byt (b:Array UInt8)|flt (b:UInt64)|ref (a:Addr)|ty (n:String)
 deriving DecidableEq
def RelV:V->Value->Prop
 |.non,u=>u=Value.none
 |.bl b,u=>u=Value.bool b
 |.int i,u=>∃t,u=Value.int i t
 |.str x,u=>∃t,u=Value.str x t
 |.byt b,u=>∃t,u=Value.bytes b t
 |.flt b,u=>∃t,u=Value.float b t
 |.ref a,u=>u=Value.ref a
 |.ty n,u=>u=Value.type n
abbrev Vals:List V->List Value->Prop:=Paired RelV
theorem Vals.length {xs:List V} {us:List Value} (r:Vals xs us):xs.length=us.length:=Paired.length r
theorem Vals.get:∀{xs:List V} {us:List Value} {i:Nat} {x:V},Vals xs us->xs[i]?=some x->∃u,us[i]?=some u/\RelV x u
 |_,_,_,_,.nil,e=>by simp at e
 |_,_,0,_,.cons r _,e=>by simp at e;subst e;exact ⟨_,rfl,r⟩
 |_,_,i+1,x,.cons _ t,e=>by
  obtain ⟨u,h1,h2⟩:=Vals.get (i:=i) (x:=x) t (by simpa using e);exact ⟨u,by simpa using h1,h2⟩
theorem Vals.set {x:V} {u:Value} (r:RelV x u):∀{xs:List V} {us:List Value} (i:Nat),Vals xs us->Vals (xs.set i x) (us.set i u)
 |_,_,_,.nil=>.nil
 |_,_,0,.cons _ t=>.cons r t
 |_,_,i+1,.cons q t=>.cons q (Vals.set r i t)
theorem Vals.append:∀{xs ys:List V} {us ws:List Value},Vals xs us->Vals ys ws->Vals (xs++ys) (us++ws)
 |_,_,_,_,.nil,s=>s
 |_,_,_,_,.cons r t,s=>.cons r (Vals.append t s)
theorem Vals.take:∀{xs:List V} {us:List Value} (n:Nat),Vals xs us->Vals (xs.take n) (us.take n)
 |_,_,0,_=>.nil
 |_,_,_+1,.nil=>.nil
 |_,_,n+1,.cons r t=>.cons r (Vals.take n t)
theorem Vals.drop:∀{xs:List V} {us:List Value} (n:Nat),Vals xs us->Vals (xs.drop n) (us.drop n)
 |_,_,0,r=>r
 |_,_,_+1,.nil=>.nil
 |_,_,n+1,.cons _ t=>Vals.drop n t
def RelO:Option V->Option Value->Prop
 |some v,some u=>RelV v u
 |none,none=>True
 |_,_=>False
def KV {κ:Type}:List (κ×V)->List (κ×Value)->Prop:=Paired fun (p:κ×V) (q:κ×Value)=>p.1=q.1/\RelV p.2 q.2
def kV:kC->V
 |.inl i=>.int i
 |.inr x=>.str x
inductive HO where
 /-- a list -/
 |lst (xs:List V)
 /-- a tuple (never changes) -/
 |tup (xs:List V)
 /-- a dict whose keys are ints and texts;one whose keys are tuples of ints and texts (the empty one is both) -/
 |dK (kvs:List (kC×V))|dT (kvs:List (List kC×V))
 /-- a set of ints: its members,its size -/
 |set (S:Int->Bool) (n:Nat)
 /-- an instance of the class at C,its dict at dx,its attributes -/
 |ins (C dx:Addr) (fs:List (Str×V))
 /-- the dict of the instance at x -/
 |own (x:Addr)
 /-- the dict of an exception -/
 |xd (fs:List (Str×V))
 /-- a bound method,f of x -/
 |met (f x:Addr)
 /-- a range object lo,lo+1,.. below hi -/
 |rng (lo hi:Int)
 /-- a thing that is known to the object (the script;a dict while a loop walks it): read,never written while it is so -/
 |frz (o:Obj) (u:HO)
 /-- a code object's table -/
 |tbl (ps:Array Value)
 /-- any other thing,by what is true of its one object (a def of one's own: SetO a S n:=HO.ext fun h=>..) -/
 |ext (φ:Heap->Prop)
abbrev Hp:=Addr->Option HO
def upd (H:Hp) (a:Addr) (o:HO):Hp:=fun b=>if b=a then some o else H b
variable {H:Hp} {a:Addr} {o:HO}
theorem jF:upd H a o a=some o:=by unfold upd;rw [if_pos rfl]
variable {b:Addr}
theorem jP (h:b≠a):upd H a o b=H b:=by unfold upd;rw [if_neg h]
theorem vL {u:HO} (h:H a=some o) (h':H b=some u) (d:o≠u):a≠b:=by
 intro e;subst e;rw [h] at h';exact d (az h')
theorem kZ (h:H a=some o) (h':H b=none):a≠b:=by
 intro e;subst e;rw [h] at h';cases h'
section
variable (P:Program) (w:World)
def ObjOk (H:Hp) (h:Heap) (a:Addr):HO->Prop
 |.lst xs=>xs.length<=sizeLine/\∃(its:List Value) (n:Nat),Vals xs its/\h.get? a=some {cls:=.type "list",data:=.seq its.toArray n}
 |.tup xs=>xs.length<=sizeLine/\∃its:List Value,Vals xs its/\IsTup h a its.toArray
 |.dK kvs=>kvs.length<=sizeLine/\(a == sysModules)=false/\∃vs,KV kvs vs/\h.DictOf (zF P w) a vs
 |.dT kvs=>kvs.length<=sizeLine/\(a == sysModules)=false/\∃xs:List (List kC×Addr×Value),
   Paired (fun (p:List kC×V) (q:List kC×Addr×Value)=>p.1=q.1/\H q.2.1=some (.tup (p.1.map kV))/\RelV p.2 q.2.2) kvs xs/\
   ∃o es ep,h.get? a=some o/\o.ExactDict/\o.data=.dict es ep/\es.toList=xs.map (entryOfKey (tupleKind (zF P w)))/\(xs.map (·.1)).Nodup
 |.set S n=>h.SetOf (intKind P w) a S n
 |.ins C dx fs=>H dx=some (.own a)/\fs.length<=1000/\dx≠a/\h.get? a=some (PySem.W.instObj C dx)/\
   ∃mA,h.Ns1 dx mA/\(∀f,RelO (fs.lookup f) (mA f))/\PySem.Within mA (fs.map (·.1))
 |.own _=>∃o,h.get? a=some o
 |.xd fs=>∃mA,h.Ns1 a mA/\∀f,RelO (fs.lookup f) (mA f)
 |.rng lo hi=>∃t u v,h.get? a=some {cls:=.type "range",data:=.fields #[.int lo t,.int hi u,.int 1 v]}
 |.frz o u=>h.get? a=some o/\ObjOk H h a u
 |.tbl ps=>h.get? a=some {cls:=.none,data:=.fields ps}
 |.met f x=>h.get? a=some (PySem.W.methodObj (.ref f) (.ref x))
 |.ext φ=>φ h/\(∃o,h.get? a=some o)/\∀h1 h2:Heap,φ h1->(∀o,h1.get? a=some o->h2.get? a=some o)->φ h2
def HOk (H:Hp) (h:Heap):Prop:=∀a o,H a=some o->ObjOk P w H h a o
end
section
variable {P:Program} {w:World} {H H':Hp} {h h':Heap} {a:Addr} {o:HO}
theorem ObjOk.lt (x:ObjOk P w H h a o):a<h.objs.size:=by
 cases o with
 |lst xs=>obtain ⟨_,_,_,_,e⟩:=x;exact ar e
 |tup xs=>obtain ⟨_,_,_,p⟩:=x;exact p.lt
 |dK kvs=>obtain ⟨_,_,_,_,o,_,_,e,_⟩:=x;exact ar e
 |dT kvs=>obtain ⟨_,_,_,_,o,_,_,e,_⟩:=x;exact ar e
 |set S n=>obtain ⟨o,_,_,_,e,_⟩:=x;exact ar e
 |ins C dx fs=>obtain ⟨_,_,_,e,_⟩:=x;exact ar e
 |own y=>obtain ⟨_,e⟩:=x;exact ar e
 |xd fs=>obtain ⟨_,⟨_,_,_,e,_⟩,_⟩:=x;exact ar e
 |rng lo hi=>obtain ⟨_,_,_,e⟩:=x;exact ar e
 |frz ob u=>obtain ⟨e,_⟩:=x;exact ar e
 |tbl ps=>exact ar (show h.get? a=some _ from x)
 |met f y=>exact ar (show h.get? a=some _ from x)
 |ext φ=>obtain ⟨_,⟨_,e⟩,_⟩:=x;exact ar e
theorem Paired.mapP {α β:Type} {F G:α->β->Prop}:∀{l₁:List α} {l₂:List β},Paired F l₁ l₂->(∀a b,F a b->G a b)->Paired G l₁ l₂
 |_,_,.nil,_=>.nil
 |_,_,.cons r t,f=>.cons (f _ _ r) (Paired.mapP t f)
theorem ObjOk.stay (x:ObjOk P w H h a o) (k:∀b u,(b=a\/H b=some (.own a))->h.get? b=some u->h'.get? b=some u)
  (ho:∀b,H b=some (.own a)->H' b=some (.own a)) (ht:∀b xs,H b=some (.tup xs)->H' b=some (.tup xs)):ObjOk P w H' h' a o:=by
 induction o with
 |lst xs=>obtain ⟨z,its,n,r,e⟩:=x;exact ⟨z,its,n,r,k _ _ (.inl rfl) e⟩
 |tup xs=>obtain ⟨z,its,r,ob,e,c⟩:=x;exact ⟨z,its,r,ob,k _ _ (.inl rfl) e,c⟩
 |dK kvs=>obtain ⟨z,y,vs,r,ob,es,ep,e,c⟩:=x;exact ⟨z,y,vs,r,ob,es,ep,k _ _ (.inl rfl) e,c⟩
 |dT kvs =>
  obtain ⟨z,y,xs,r,ob,es,ep,e,c⟩:=x;exact ⟨z,y,xs,Paired.mapP r fun p q z=>⟨z.1,ht _ _ z.2.1,z.2.2⟩,ob,es,ep,k _ _ (.inl rfl) e,c⟩
 |set S n=>obtain ⟨ob,es,ep,t,e,c⟩:=x;exact ⟨ob,es,ep,t,k _ _ (.inl rfl) e,c⟩
 |ins C dx fs =>
  obtain ⟨d,z,ne,e,mA,⟨od,es,ep,e2,c⟩,r⟩:=x;exact ⟨ho _ d,z,ne,k _ _ (.inl rfl) e,mA,⟨od,es,ep,k _ _ (.inr d) e2,c⟩,r⟩
 |own y=>obtain ⟨ob,e⟩:=x;exact ⟨ob,k _ _ (.inl rfl) e⟩
 |xd fs=>obtain ⟨mA,⟨od,es,ep,e,c⟩,r⟩:=x;exact ⟨mA,⟨od,es,ep,k _ _ (.inl rfl) e,c⟩,r⟩
 |rng lo hi=>obtain ⟨t,u,v,e⟩:=x;exact ⟨t,u,v,k _ _ (.inl rfl) e⟩
 |frz ob u ih=>obtain ⟨e,q⟩:=x;exact ⟨k _ _ (.inl rfl) e,ih q⟩
 |tbl ps =>
  have e:h.get? a=some {cls:=.none,data:=.fields ps}:=x;show h'.get? a=some {cls:=.none,data:=.fields ps};exact k a _ (.inl rfl) e
 |met f y =>
  have e:h.get? a=some (PySem.W.methodObj (.ref f) (.ref y)):=x;show h'.get? a=some (PySem.W.methodObj (.ref f) (.ref y));exact k a _ (.inl rfl) e
 |ext φ=>obtain ⟨p,⟨o,e⟩,st⟩:=x;exact ⟨st _ _ p fun o q=>k _ _ (.inl rfl) q,⟨o,k _ _ (.inl rfl) e⟩,st⟩
theorem HOk.lt (x:HOk P w H h) (e:H a=some o):a<h.objs.size:=(x a o e).lt
theorem HOk.fresh (x:HOk P w H h) (e:h.objs.size<=a):H a=none:=by
 cases q:H a with
 |none=>rfl
 |some u=>exact absurd (aA (x.lt q) e) (cp _)
theorem HOk.kept (x:HOk P w H h) (k:∀b u,h.get? b=some u->h'.get? b=some u):HOk P w H h':=fun a o e =>
 (x a o e).stay (fun b u _ q=>k b u q) (fun _ q=>q) fun _ _ q=>q
theorem HOk.laid (x:HOk P w H h) (k:∀b u,h.get? b=some u->h'.get? b=some u) (hp:h.objs.size<=a) (new:ObjOk P w (upd H a o) h' a o):HOk P w (upd H a o) h':=fun b u e=>by
 have hn:=x.fresh hp
 by_cases hb:b=a
 ·subst hb;rw [jF] at e;cases e;exact new
 ·rw [jP hb] at e;exact (x b u e).stay (fun c v _ q=>k c v q) (fun c q=>by rw [jP (kZ q hn)];exact q) fun c xs q=>by rw [jP (kZ q hn)];exact q
end
def Rd (H:Hp) (a:Addr) (u:HO):Prop:=H a=some u\/∃o,H a=some (.frz o u)
variable {h:Heap}
theorem Rd.ok {P:Program} {w:World} {u:HO} (r:Rd H a u) (x:HOk P w H h):ObjOk P w H h a u:=by
 rcases r with r|⟨o,r⟩
 ·exact x a u r
 ·obtain ⟨_,q⟩:=x a _ r;exact q
def iB:Option HO->Prop
 |some (.lst _)=>True
 |some (.dK _)=>True
 |some (.dT _)=>True
 |some (.set _ _)=>True
 |some (.ins _ _ _)=>True
 |some (.ext _)=>True
 |_=>False
section
variable {P:Program} {w:World} {H:Hp} {h h':Heap} {x e:Addr} {o':HO}
theorem HOk.write (ok:HOk P w H h) (mu:iB (H x)) (he:e=x\/H e=some (.own x)) (k:∀b u,b≠e->h.get? b=some u->h'.get? b=some u) (heo:∃u,h'.get? e=some u)
  (new:ObjOk P w (upd H x o') h' x o'):HOk P w (upd H x o') h':=fun b u q=>by
 have nown:∀c y,H c=some (.own y)->c≠x:=fun c y r z=>by subst z;rw [r] at mu;exact mu
 have ntup:∀c xs,H c=some (.tup xs)->c≠x:=fun c xs r z=>by subst z;rw [r] at mu;exact mu
 by_cases hb:b=x
 ·subst hb;rw [jF] at q;cases q;exact new
 ·rw [jP hb] at q
  by_cases hbe:b=e
  ·have q':H b=some (.own x):=by
    rcases he with z|z
    ·exact absurd (hbe.trans z) hb
    ·rw [hbe];exact z
   rw [q] at q';cases q'
   obtain ⟨v,hv⟩:=heo;exact ⟨v,by rw [hbe];exact hv⟩
  ·refine (ok b u q).stay (fun c v hc r=>k c v ?_ r) (fun c r=>by rw [jP (nown c b r)];exact r) fun c xs r=>by rw [jP (ntup c xs r)];exact r
   rcases hc with rfl|hc
   ·exact hbe
   ·rintro rfl
    rcases he with z|z
    ·exact nown c b hc z
    ·rw [hc] at z;cases z;exact hb rfl
end
structure Un (fs ex:List Addr) (H H':Hp) (h h':Heap):Prop where
 keep:∀b o,h.get? b=some o->H b=none->b∉fs->b∉ex->h'.get? b=some o
 slot:∀b o,h.get? b=some o->H b=none->b∈fs->b∉ex->∃sl,h'.get? b=some {o with slots:=sl}
 free:∀b o,h.get? b=some o->H b=none->b∉ex->H' b=none
 there:∀b o,h.get? b=some o->b∉ex->∃o',h'.get? b=some o'
 tups:∀b xs,H b=some (.tup xs)->H' b=some (.tup xs)
 frzs:∀b o u,H b=some (.frz o u)->H' b=some (.frz o u)
 tbls:∀b ps,H b=some (.tbl ps)->∃more,H' b=some (.tbl (ps++more))
section
variable {fs fs' ex ex':List Addr} {H H1 H2:Hp} {h h1 h2 h':Heap} {a x e:Addr} {o:HO}
theorem Un.any (u:Un fs ex H H1 h h1) {b:Addr} {ob:Obj} (q:h.get? b=some ob) (n:H b=none) (hx:b∉ex):∃sl,h1.get? b=some {ob with slots:=sl}:=by
 by_cases hb:b∈fs
 ·exact u.slot b ob q n hb hx
 ·exact ⟨ob.slots,u.keep b ob q n hb hx⟩
theorem Un.kept (k:∀b u,h.get? b=some u->h'.get? b=some u):Un fs ex H H h h' :=
 ⟨fun b ob q _ _ _=>k b ob q,fun b ob q _ _ _=>⟨ob.slots,k b ob q⟩,fun _ _ _ n _=>n,fun b ob q _=>⟨ob,k b ob q⟩,fun _ _ q=>q,fun _ _ _ q=>q,fun _ ps q=>⟨#[],by rw [q];simp⟩⟩
theorem Un.refl:Un fs ex H H h h:=Un.kept fun _ _ q=>q
theorem Un.laid (k:∀b u,h.get? b=some u->h'.get? b=some u) (hp:h.objs.size<=a) (hn:H a=none):Un fs ex H (upd H a o) h h' where
 keep:=fun b u q _ _ _=>k b u q
 slot:=fun b u q _ _ _=>⟨u.slots,k b u q⟩
 free:=fun b u q n _=>by rw [jP (aM (aA (ar q) hp))];exact n
 there:=fun b u q _=>⟨u,k b u q⟩
 tups:=fun b xs q=>by rw [jP (kZ q hn)];exact q
 frzs:=fun b u xs q=>by rw [jP (kZ q hn)];exact q
 tbls:=fun b ps q=>⟨#[],by rw [jP (kZ q hn),q];simp⟩
theorem Un.write (mu:iB (H x)) (he:e=x\/H e=some (.own x)) (k:∀b u,b≠e->h.get? b=some u->h'.get? b=some u) (heo:∃u,h'.get? e=some u):Un fs ex H (upd H x o) h h':=by
 have hx:∀b,H b=none->b≠x:=fun b n z=>by subst z;rw [n] at mu;exact mu
 have hb:∀b,H b=none->b≠e:=fun b n z=>by
  subst z
  rcases he with r|r
  ·exact hx b n r
  ·rw [n] at r;cases r
 have hm:∀b u,H b=some u->¬iB (some u)->b≠x:=fun b u q nm z=>by subst z;rw [q] at mu;exact nm mu
 refine ⟨fun b u q n _ _=>k b u (hb b n) q,fun b u q n _ _=>⟨u.slots,k b u (hb b n) q⟩,fun b u q n _=>by rw [jP (hx b n)];exact n,fun b u q _=>?_,
  fun b xs q=>by rw [jP (hm b _ q fun z=>z)];exact q,fun b u xs q=>by rw [jP (hm b _ q fun z=>z)];exact q,fun b ps q=>⟨#[],by rw [jP (hm b _ q fun z=>z),q];simp⟩⟩
 by_cases hbe:b=e
 ·subst hbe;exact heo
 ·exact ⟨u,k b u hbe q⟩
end
def zL (h:Heap) (H:Hp):List Addr:=(List.range h.objs.size).filter fun a=>(H a).isSome
def ZQ (h:Heap) (H:Hp):Heap:=PySem.W.hideAll h (zL h H)
theorem RU (h:Heap) (H:Hp):(ZQ h H).objs.size=h.objs.size:=PySem.W.hideAll_size _ _
theorem S8 {o:Obj} (e:h.get? b=some o) (n:H b=none):(ZQ h H).get? b=some o :=
 PySem.W.hideAll_get _ e fun hm=>by
  have q:(H b).isSome=true:=(bp.mp hm).2;rw [n] at q;simp at q
theorem US {o:Obj} (e:(ZQ h H).get? b=some o):h.get? b=some o/\H b=none:=by
 have e':h.get? b=some o:=PySem.W.of_hideAll (zL h H) e;refine ⟨e',?_⟩;cases q:H b with
 |none=>rfl
 |some x =>
  have hm:b∈zL h H:=bp.mpr ⟨dq.mpr (ar e'),by simp [q]⟩;have z:(ZQ h H).get? b=none:=PySem.W.hideAll_none (zL h H) hm;rw [z] at e;cases e
def VG (g h:Heap) (L:Addr):List (Addr×Obj):=(List.range h.objs.size).filterMap fun a=>if a=L\/(g.get? a).isSome=true then none else (h.get? a).map fun o=>(a,o)
def rest (g h:Heap) (L d:Addr):List (Addr×Obj):=(VG g h L).filter fun p=>decide (p.1≠d)
end L2
namespace L2
open PySem PySem.Spec PyProof.Rows
structure Mod (K:PySem.W.Frag) (mg:Str->Option Value) (base:Heap):Prop where
 kin:K.In base
 glob:base.Ns mainGlobals mg
 blt:∃mb,base.Ns builtinsNs mb/\∀x:Str,x≠"__name__"->mb x=bootBuiltins x
 nolimit:base.NoLimit
structure Cx where
 prog:Program
 w:World
 K:PySem.W.Frag
 mg:Str->Option Value
 base:Heap
 A:Around
 N:List Str
 s₀:Shared
 H₀:Hp
 env:Env
 outer:List Env
 stack:List Env
 ex:List Addr
 fn:Str->Bool
 calm:Bool
 pn:List (Addr×Obj)
 xe:Value->Shared->Prop
def kM (l:List Env):List Addr:=l.filterMap (·.frame)
abbrev Cx.fs (X:Cx):List Addr:=kM X.outer
def oB (sc:Scope) (x:Str):Prop:=sc.names.lookup x=some .local\/sc.names.lookup x=some .cell\/sc.names.lookup x=some .free
def fE (sc:Scope) (x:Str):Prop:=sc.names.lookup x=some .local\/sc.names.lookup x=some .cell
def YH (env:Env) (h:Heap) (m:Str->Option Value) (x:Str) (u:Value):Prop :=
 (env.kindOf x=some .local/\m x=some u)\/((env.kindOf x=some .cell\/env.kindOf x=some .free)/\∃c,env.cells.lookup x=some c/\h.IsCell c (some u))
structure Cx.Ok (X:Cx):Prop where
 mod:Mod X.K X.mg X.base
 kind:X.env.scope.kind=.function
 glob:X.env.globals=mainGlobals
 blt:X.env.builtins=builtinsNs
 above:X.s₀.heap.objs.size<=X.env.locals
 inj:∀x y c,X.env.cells.lookup x=some c->X.env.cells.lookup y=some c->x=y
 has:∀x,(X.env.kindOf x=some .cell\/X.env.kindOf x=some .free)->∃c,X.env.cells.lookup x=some c
 cab:∀x c,X.fn x=true->X.env.cells.lookup x=some c->X.s₀.heap.objs.size<=c
 hd:X.calm=true->X.A.handled=none
 frames:X.A.frames=some X.stack
 stk:X.stack=X.outer\/(X.stack=X.env::X.outer/\X.env.frame=some X.env.locals)
 exf:∀b∈X.ex,b≠X.env.locals/\∀x c,X.env.cells.lookup x=some c->c≠b
 bs:∀b o,X.base.get? b=some o->X.s₀.heap.get? b=some o/\X.H₀ b=none
 bsz:X.base.objs.size<=X.s₀.heap.objs.size
 noex:∀b o,X.base.get? b=some o->b∉X.ex
 exfs:∀b∈X.ex,b∉X.fs
 funs:X.s₀.heap.FunFrames X.base X.outer
 frf:∀b∈X.fs,X.H₀ b=none
structure Inv (X:Cx) (pins:List (Addr×Obj)) (σ:List (Option V)) (H:Hp) (s:Shared):Prop where
 ok:X.Ok
 os:s.os=X.s₀.os
 bare:AllBare s.gens
 base:Un X.fs X.ex X.H₀ H X.s₀.heap s.heap
 loc:∃m,s.heap.Ns X.env.locals m/\∀(i:Nat) (x:Str) (v:V),X.N[i]?=some x->σ[i]?=some (some v)->oB X.env.scope x->∃u,RelV v u/\YH X.env s.heap m x u
 cell:∀x c,X.env.cells.lookup x=some c->∃v,s.heap.IsCell c v
 free:H X.env.locals=none
 freeC:∀x c,X.env.cells.lookup x=some c->H c=none
 pin:∀p∈X.pn++pins,s.heap.get? p.1=some p.2/\H p.1=none/\p.1≠X.env.locals/\p.1∉X.fs/\∀v,p.2.data≠.cell v
 hok:HOk X.prog X.w H s.heap
 len:σ.length=X.N.length
section
variable {X:Cx} {pins:List (Addr×Obj)} {σ:List (Option V)} {H H':Hp} {s:Shared} {h':Heap}
theorem Cx.Ok.nofr (ok:X.Ok) {b:Addr} {o:Obj} (e:X.base.get? b=some o):b∉X.fs:=fun hb=>by
 have:=(ok.funs.mem hb).1;rw [e] at this;cases this
theorem Inv.bs (I:Inv X pins σ H s):∀b o,X.base.get? b=some o->s.heap.get? b=some o/\H b=none:=fun b o e =>
 ⟨I.base.keep b o (I.ok.bs b o e).1 (I.ok.bs b o e).2 (I.ok.nofr e) (I.ok.noex b o e),I.base.free b o (I.ok.bs b o e).1 (I.ok.bs b o e).2 (I.ok.noex b o e)⟩
theorem Inv.bk (I:Inv X pins σ H s):∀b o,X.base.get? b=some o->s.heap.get? b=some o:=fun b o e=>(I.bs b o e).1
theorem Inv.mod (I:Inv X pins σ H s):Mod X.K X.mg X.base:=I.ok.mod
theorem Inv.kIn (I:Inv X pins σ H s):X.K.In s.heap:=I.ok.mod.kin.keeps I.bk
theorem Inv.lt (I:Inv X pins σ H s):X.env.locals<s.heap.objs.size:=let ⟨_,hn,_⟩:=I.loc;hn.lt
theorem Inv.sz (I:Inv X pins σ H s):X.s₀.heap.objs.size<=s.heap.objs.size:=aK I.ok.above (ii I.lt)
theorem Inv.nofs (I:Inv X pins σ H s) {a:Addr} (h:s.heap.objs.size<=a):a∉X.fs:=fun hb=>by
 obtain ⟨_,o,ho,_⟩:=I.ok.funs.mem hb;exact absurd (aA (ar ho) (aK I.sz h)) (cp _)
theorem Inv.cne (I:Inv X pins σ H s):∀x c,X.env.cells.lookup x=some c->c≠X.env.locals:=fun x c e z=>by
 obtain ⟨v,o,ho,hd⟩:=I.cell x c e;obtain ⟨m,⟨o',es,ep,ho',hd',_⟩,_⟩:=I.loc;rw [z,ho'] at ho;cases ho;rw [hd'] at hd;cases hd
theorem Inv.funs (I:Inv X pins σ H s):s.heap.FunFrames X.base X.outer:=by
 have all:∀(l:List Env),(∀b∈kM l,b∈X.fs)->X.s₀.heap.FunFrames X.base l->s.heap.FunFrames X.base l:=by
  intro l
  induction l with
  |nil=>intro _ _;trivial
  |cons env r ih =>
   intro hs hl;obtain ⟨hk,⟨L,o,hf,hn,ho,hd⟩,hr⟩:=hl;have hL:L∈X.fs:=hs L (by unfold kM;rw [gr,hf];exact aY);obtain ⟨sl,e⟩:=I.base.slot L o ho (I.ok.frf L hL) hL fun z=>I.ok.exfs L z hL
   exact ⟨hk,⟨L,_,hf,hn,e,hd⟩,ih (fun b hb=>hs b (by unfold kM;rw [gr,hf];exact aI _ hb)) hr⟩
 exact all X.outer (fun _ hb=>hb) I.ok.funs
theorem Inv.stack (I:Inv X pins σ H s):s.heap.FunFrames X.base X.stack:=by
 rcases I.ok.stk with e|⟨e,hf⟩
 ·rw [e];exact I.funs
 ·rw [e];obtain ⟨m,hn,_⟩:=I.loc;refine .cons (by rw [I.ok.kind];decide) hf hn ?_ I.funs;exact Heap.get?_none_of_le (aK I.ok.bsz I.ok.above)
theorem Inv.stkSub (I:Inv X pins σ H s):∀b∈kM X.stack,b∈X.env.locals::X.fs:=fun b hb=>by
 rcases I.ok.stk with e|⟨e,hf⟩
 ·rw [e] at hb;exact aI _ hb
 ·rw [e] at hb;unfold kM at hb;rw [gr,hf] at hb;exact hb
theorem Inv.stkFree (I:Inv X pins σ H s):∀b∈kM X.stack,H b=none:=fun b hb=>by
 rcases ao.mp (I.stkSub b hb) with e|hb
 ·rw [e];exact I.free
 ·obtain ⟨_,o,ho,_⟩:=I.ok.funs.mem hb;exact I.base.free b o ho (I.ok.frf b hb) fun z=>I.ok.exfs b z hb
theorem Inv.step {g':Array GenState} {t':Nat} {d':Drawn} {ch:List Addr} (I:Inv X pins σ H s)
  (hch:∀b∈ch,(b∈X.ex\/X.s₀.heap.objs.size<=b)/\b≠X.env.locals/\(∀x c,X.env.cells.lookup x=some c->c≠b)/\∀p∈X.pn++pins,p.1≠b)
  (keep:∀b o,b≠X.env.locals->b∉X.fs->b∉ch->s.heap.get? b=some o->H b=none->h'.get? b=some o)
  (slot:∀b o,b≠X.env.locals->b∈X.fs->b∉ch->s.heap.get? b=some o->H b=none->∃sl,h'.get? b=some {o with slots:=sl}) (free:∀b o,b∉ch->s.heap.get? b=some o->H b=none->H' b=none)
  (there:∀b o,b∉ch->s.heap.get? b=some o->∃o',h'.get? b=some o')
  (tups:∀b xs,H b=some (.tup xs)->H' b=some (.tup xs)) (frzs:∀b o u,H b=some (.frz o u)->H' b=some (.frz o u)) (tbls:∀b ps,H b=some (.tbl ps)->∃more,H' b=some (.tbl (ps++more)))
  (ns:∀m,s.heap.Ns X.env.locals m->h'.Ns X.env.locals m) (hok:HOk X.prog X.w H' h') (hg:AllBare g') :
  Inv X pins σ H' {s with heap:=h',gens:=g',drawn:=d',toks:=t'}:=by
 have neL:∀b o,X.s₀.heap.get? b=some o->b≠X.env.locals:=fun b o e=>aM (aA (ar e) I.ok.above)
 have neC:∀b o,X.s₀.heap.get? b=some o->b∉X.ex->b∉ch:=fun b o e hx hb=>by
  rcases (hch b hb).1 with z|z
  ·exact hx z
  ·exact absurd (aA (ar e) z) (cp _)
 have cellK:∀x c,X.env.cells.lookup x=some c->∀v,s.heap.IsCell c v->h'.IsCell c v:=fun x c e v ⟨o,ho,hd⟩=>by
  have nch:c∉ch:=fun z=>(hch c z).2.2.1 x c e rfl
  by_cases hc:c∈X.fs
  ·obtain ⟨sl,q⟩:=slot c o (I.cne x c e) hc nch ho (I.freeC x c e);exact ⟨_,q,hd⟩
  ·exact ⟨o,keep c o (I.cne x c e) hc nch ho (I.freeC x c e),hd⟩
 refine ⟨I.ok,I.os,hg,⟨fun b o e n hb hx=>?_,fun b o e n hb hx=>?_,fun b o e n hx=>?_,fun b o e hx=>?_,fun b xs e=>tups b xs (I.base.tups b xs e),fun b o xs e=>frzs b o xs (I.base.frzs b o xs e),fun b ps e=>?_⟩,?_,fun x c e=>?_,?_,fun x c e=>?_,fun p hp=>?_,hok,I.len⟩
 ·exact keep b o (neL b o e) hb (neC b o e hx) (I.base.keep b o e n hb hx) (I.base.free b o e n hx)
 ·obtain ⟨sl,e1⟩:=I.base.slot b o e n hb hx;obtain ⟨sl',e2⟩:=slot b _ (neL b o e) hb (neC b o e hx) e1 (I.base.free b o e n hx);exact ⟨sl',e2⟩
 ·obtain ⟨o',e1⟩:=I.base.there b o e hx;exact free b o' (neC b o e hx) e1 (I.base.free b o e n hx)
 ·obtain ⟨o',e1⟩:=I.base.there b o e hx;exact there b o' (neC b o e hx) e1
 ·obtain ⟨m1,e1⟩:=I.base.tbls b ps e;obtain ⟨m2,e2⟩:=tbls b _ e1;exact ⟨m1++m2,by rw [e2,Array.append_assoc]⟩
 ·obtain ⟨m,hn,hl⟩:=I.loc;refine ⟨m,ns m hn,fun i x v e1 e2 e3=>?_⟩;obtain ⟨u,r,l⟩:=hl i x v e1 e2 e3;refine ⟨u,r,?_⟩
  rcases l with l|⟨k,c,e,z⟩
  ·exact .inl l
  ·exact .inr ⟨k,c,e,cellK x c e _ z⟩
 ·obtain ⟨v,z⟩:=I.cell x c e;exact ⟨v,cellK x c e v z⟩
 ·obtain ⟨m,⟨o,_,_,ho,_⟩,_⟩:=I.loc;exact free _ o (fun z=>(hch _ z).2.1 rfl) ho I.free
 ·obtain ⟨v,o,ho,hd⟩:=I.cell x c e;exact free c o (fun z=>(hch c z).2.2.1 x c e rfl) ho (I.freeC x c e)
 ·obtain ⟨e,n,ne,nf,d⟩:=I.pin p hp;have nch:p.1∉ch:=fun z=>(hch p.1 z).2.2.2 p hp rfl
  exact ⟨keep p.1 p.2 ne nf nch e n,free p.1 p.2 nch e n,ne,nf,d⟩
theorem Inv.un {t':Nat} (I:Inv X pins σ H s) (u:Un X.fs [] H H' s.heap h') (hok:HOk X.prog X.w H' h'):Inv X pins σ H' {s with heap:=h',toks:=t'}:=by
  obtain ⟨m,⟨o,es,ep,ho,r⟩,_⟩:=id I.loc;obtain ⟨sl,hL⟩:=u.any ho I.free (by simp);exact I.step (g':=s.gens) (d':=s.drawn) (ch:=[]) (fun _ z=>nomatch z) (fun b o _ hb _ e n=>u.keep b o e n hb (by simp)) (fun b o _ hb _ e n=>u.slot b o e n hb (by simp)) (fun b o _ e n=>u.free b o e n (by simp)) (fun b o _ e=>u.there b o e (by simp)) u.tups u.frzs u.tbls (fun m' hm=>by
    obtain ⟨o',es',ep',ho',r'⟩:=hm;rw [ho] at ho';cases ho'
    exact ⟨_,es',ep',hL,r'⟩) hok I.bare
theorem Inv.call {g':Array GenState} {t':Nat} {d':Drawn} {ch:List Addr} (I:Inv X pins σ H s) (u:Un (kM X.stack) ch H H' s.heap h') (hok:HOk X.prog X.w H' h') (hg:AllBare g')
  (hch:∀b∈ch,(b∈X.ex\/X.s₀.heap.objs.size<=b)/\b≠X.env.locals/\(∀x c,X.env.cells.lookup x=some c->c≠b)/\∀p∈X.pn++pins,p.1≠b) :
  Inv X pins σ H' {s with heap:=h',gens:=g',drawn:=d',toks:=t'}:=by
 obtain ⟨m,⟨o,es,ep,ho,r⟩,_⟩:=id I.loc;obtain ⟨sl,hL⟩:=u.any ho I.free fun z=>(hch _ z).2.1 rfl
 exact I.step (ch:=ch) hch (fun b o hL hb hc e n=>u.keep b o e n (fun z=>(ao.mp (I.stkSub b z)).elim hL hb) hc) (fun b o _ _ hc e n=>u.any e n hc) (fun b o hc e n=>u.free b o e n hc) (fun b o hc e=>u.there b o e hc) u.tups u.frzs u.tbls (fun m' hm=>by
  obtain ⟨o',es',ep',ho',r'⟩:=hm;rw [ho] at ho';cases ho'
  exact ⟨_,es',ep',hL,r'⟩) hok hg
theorem Inv.turned {t':Nat} {it:Addr} (I:Inv X pins σ H s) (k:∀b o,b≠it->s.heap.get? b=some o->h'.get? b=some o) (hn:H it=none) (hL:it≠X.env.locals)
    (h1:it∈X.ex\/X.s₀.heap.objs.size<=it) (h2:∀x c,X.env.cells.lookup x=some c->c≠it) (h3:∀p∈X.pn++pins,p.1≠it):Inv X pins σ H {s with heap:=h',toks:=t'}:=by
  have nit:∀b u,H b=some u->b≠it:=fun b u e z=>by rw [z,hn] at e;cases e
  refine I.step (g':=s.gens) (d':=s.drawn) (ch:=[it]) (fun b hb=>?_) (fun b o _ _ hc e _=>k b o (fun z=>hc (by simp [z])) e) (fun b o _ _ hc e _=>⟨o.slots,k b o (fun z=>hc (by simp [z])) e⟩) (fun _ _ _ _ n=>n)
    (fun b o hc e=>⟨o,k b o (fun z=>hc (by simp [z])) e⟩) (fun _ _ e=>e) (fun _ _ _ e=>e) (fun b ps e=>⟨#[],by rw [e];simp⟩) (fun m hm=>?_) (fun b u e=>?_) I.bare
  . have e:b=it:=by simpa using hb
    subst e;exact ⟨h1,hL,h2,h3⟩
  . obtain ⟨o,es,ep,ho,r⟩:=hm
    exact ⟨o,es,ep,k _ o (Ne.symm hL) ho,r⟩
  . refine (I.hok b u e).stay (fun c v hc q=>k c v ?_ q) (fun _ q=>q) fun _ _ q=>q
    rcases hc with z|z
    . rw [z];exact nit b u e
    . exact nit c _ z
theorem Inv.tok (I:Inv X pins σ H s) (t:Nat):Inv X pins σ H {s with toks:=t}:=I.un (h':=s.heap) (t':=t) Un.refl I.hok
theorem Inv.kept {t':Nat} (I:Inv X pins σ H s) (k:∀b u,s.heap.get? b=some u->h'.get? b=some u):Inv X pins σ H {s with heap:=h',toks:=t'}:=I.un (Un.kept k) (I.hok.kept k)
theorem Inv.laid {a:Addr} {o:HO} {t':Nat} (I:Inv X pins σ H s) (k:∀b u,s.heap.get? b=some u->h'.get? b=some u) (hp:s.heap.objs.size<=a) (new:ObjOk X.prog X.w (upd H a o) h' a o) :
  Inv X pins σ (upd H a o) {s with heap:=h',toks:=t'}:=I.un (Un.laid k hp (I.hok.fresh hp)) (I.hok.laid k hp new)
theorem Inv.write {x e:Addr} {o:HO} {t':Nat} (I:Inv X pins σ H s) (mu:iB (H x)) (he:e=x\/H e=some (.own x)) (k:∀b u,b≠e->s.heap.get? b=some u->h'.get? b=some u) (heo:∃u,h'.get? e=some u)
  (new:ObjOk X.prog X.w (upd H x o) h' x o):Inv X pins σ (upd H x o) {s with heap:=h',toks:=t'}:=I.un (Un.write mu he k heo) (I.hok.write mu he k heo new)
theorem Inv.pins_of {pins':List (Addr×Obj)} (I:Inv X pins σ H s) (h:∀p∈pins',s.heap.get? p.1=some p.2/\H p.1=none/\p.1≠X.env.locals/\p.1∉X.fs/\∀v,p.2.data≠.cell v):Inv X pins' σ H s :=
 ⟨I.ok,I.os,I.bare,I.base,I.loc,I.cell,I.free,I.freeC,fun p hp=>(ba.mp hp).elim (fun z=>I.pin p (gl _ z)) (h p),I.hok,I.len⟩
theorem uI {N:List Str} (hN:N.Nodup) {i j:Nat} {x:Str} (a:N[i]?=some x) (b:N[j]?=some x):i=j:=by
 obtain ⟨h1,e1⟩:=af.mp a;obtain ⟨h2,e2⟩:=af.mp b;exact (List.getElem_inj hN).mp (e1.trans e2.symm)
theorem BV {M:Model} {A:Around} {E:Value->Shared->Prop} {i:Nat} {x:Str} {v:V} {u:Value} {Q:Unit->Shared->Prop} (I:Inv X pins σ H s) (hN:X.N.Nodup) (hi:X.N[i]?=some x) (hx:fE X.env.scope x) (r:RelV v u)
  (h:∀s',Inv X pins (σ.set i (some v)) H s'->(∃a,Heap.SameBut a s.heap s'.heap/\(a=X.env.locals\/X.env.cells.lookup x=some a))->Q () s') (hf:X.fn x=true\/X.env.scope.names.lookup x=some .local:=by first|exact .inl rfl|exact .inr rfl|assumption):wpAny M A (storeName X.env x u) Q E s:=by
 obtain ⟨m,hn,hl⟩:=id I.loc;have hcls:(X.env.scope.kind == .class||(X.env.scope.kind == .module&&X.env.locals != X.env.globals))=false:=by rw [I.ok.kind];rfl
 have hiσ:i<σ.length:=by rw [I.len];exact (af.mp hi).1
 have cne:=I.cne;have tracked:∀{a:Addr} {h':Heap},(∃o,s.heap.get? a=some o/\H a=none)->Heap.SameBut a s.heap h'->HOk X.prog X.w H h':=fun {a h'} ha hs b ob e=>by
  obtain ⟨_,_,hfree⟩:=ha;refine (I.hok b ob e).stay (fun c w' hc q=>(hs.2 c ?_).trans q) (fun _ q=>q) fun _ _ q=>q
  rintro rfl
  rcases hc with rfl|hc
  ·rw [hfree] at e;cases e
  ·rw [hfree] at hc;cases hc
 rcases hx with hk|hk
 ·refine wpAny_storeName_local hk hn (fun h' hn' hs=>?_) hcls;obtain ⟨oL,_,_,hoL,_⟩:=id hn;refine h _ ⟨I.ok,I.os,I.bare,⟨fun b o e n hb hx=>?_,fun b o e n hb hx=>?_,I.base.free,fun b o e hx=>?_,I.base.tups,I.base.frzs,I.base.tbls⟩,⟨_,hn',fun j y v' e1 e2 e3=>?_⟩,fun y c e=>?_,I.free,I.freeC,fun p hp=>?_,tracked ⟨oL,hoL,I.free⟩ hs,by simpa using I.len⟩ ⟨_,hs,.inl rfl⟩
  ·exact (hs.2 b (aM (aA (ar e) I.ok.above))).trans (I.base.keep b o e n hb hx)
  ·obtain ⟨sl,e1⟩:=I.base.slot b o e n hb hx;exact ⟨sl,(hs.2 b (aM (aA (ar e) I.ok.above))).trans e1⟩
  ·obtain ⟨o',e1⟩:=I.base.there b o e hx;exact ⟨o',(hs.2 b (aM (aA (ar e) I.ok.above))).trans e1⟩
  ·by_cases hj:j=i
   ·subst hj;rw [hi] at e1;cases e1
    rw [fz hiσ] at e2;cases e2;exact ⟨u,r,.inl ⟨hk,by simp⟩⟩
   ·rw [gm (Ne.symm hj)] at e2;obtain ⟨u',r',q⟩:=hl j y v' e1 e2 e3;refine ⟨u',r',?_⟩
    rcases q with ⟨k,e⟩|⟨k,c,e,z⟩
    ·refine .inl ⟨k,?_⟩;have:y≠x:=fun e=>hj (uI hN e1 (e▸hi))
     simp [this,e]
    ·exact .inr ⟨k,c,e,z.sameBut hs (cne y c e)⟩
  ·obtain ⟨w',z⟩:=I.cell y c e;exact ⟨w',z.sameBut hs (cne y c e)⟩
  ·obtain ⟨e,n,ne,nf,d⟩:=I.pin p hp;exact ⟨(hs.2 p.1 ne).trans e,n,ne,nf,d⟩
 ·have hfn:X.fn x=true:=by
   rcases hf with z|z
   ·exact z
   ·rw [z] at hk;cases hk
  obtain ⟨c,hc⟩:=I.ok.has x (.inl hk);obtain ⟨w',z⟩:=I.cell x c hc;refine wpAny_storeName_cell I.ok.kind hk hc z (fun h' hc' hs=>?_);obtain ⟨oc,hoc,hocd⟩:=id z;refine h {s with heap:=h'} ⟨I.ok,I.os,I.bare,⟨fun b o e n hb hx=>?_,fun b o e n hb hx=>?_,I.base.free,fun b o e hx=>?_,I.base.tups,I.base.frzs,I.base.tbls⟩,⟨m,hn.sameBut hs (Ne.symm (cne x c hc)),fun j y v' e1 e2 e3=>?_⟩,fun y c' e=>?_,I.free,I.freeC,fun p hp=>?_,tracked ⟨oc,hoc,I.freeC x c hc⟩ hs,by simpa using I.len⟩ ⟨c,hs,.inr hc⟩
  ·exact (hs.2 b (aM (aA (ar e) (I.ok.cab x c hfn hc)))).trans (I.base.keep b o e n hb hx)
  ·obtain ⟨sl,e1⟩:=I.base.slot b o e n hb hx;exact ⟨sl,(hs.2 b (aM (aA (ar e) (I.ok.cab x c hfn hc)))).trans e1⟩
  ·obtain ⟨o',e1⟩:=I.base.there b o e hx;exact ⟨o',(hs.2 b (aM (aA (ar e) (I.ok.cab x c hfn hc)))).trans e1⟩
  ·by_cases hj:j=i
   ·subst hj;rw [hi] at e1;cases e1
    rw [fz hiσ] at e2;cases e2;exact ⟨u,r,.inr ⟨.inl hk,c,hc,hc'⟩⟩
   ·rw [gm (Ne.symm hj)] at e2;obtain ⟨u',r',q⟩:=hl j y v' e1 e2 e3;refine ⟨u',r',?_⟩
    rcases q with q|⟨k,c',e,z'⟩
    ·exact .inl q
    ·refine .inr ⟨k,c',e,z'.sameBut hs ?_⟩;rintro rfl;exact hj (uI hN e1 (I.ok.inj _ _ _ e hc▸hi))
  ·by_cases hcc:c'=c
   ·subst hcc;exact ⟨_,hc'⟩
   ·obtain ⟨w2,z2⟩:=I.cell y c' e;exact ⟨w2,z2.sameBut hs hcc⟩
  ·obtain ⟨e,n,ne,nf,d⟩:=I.pin p hp;refine ⟨(hs.2 p.1 ?_).trans e,n,ne,nf,d⟩;intro q;rw [q,hoc] at e;have q':oc=p.2:=az e;exact d w' (by rw [<- q'];exact hocd)
theorem uC {M:Model} {A:Around} {E:Value->Shared->Prop} {i:Nat} {x:Str} {v:V} {u:Value} {Q:Unit->Shared->Prop} (I:Inv X pins σ H s) (hN:X.N.Nodup) (hi:X.N[i]?=some x) (hx:fE X.env.scope x) (r:RelV v u)
  (h:∀s',Inv X pins (σ.set i (some v)) H s'->Q () s') (hf:X.fn x=true\/X.env.scope.names.lookup x=some .local:=by first|exact .inl rfl|exact .inr rfl|assumption):wpAny M A (storeName X.env x u) Q E s :=
 BV I hN hi hx r (fun s' I' _=>h s' I') hf
theorem Inv.call' {s':Shared} {ch:List Addr} (I:Inv X pins σ H s) (ho:s'.os=s.os) (u:Un (kM X.stack) ch H H' s.heap s'.heap) (hok:HOk X.prog X.w H' s'.heap) (hg:AllBare s'.gens)
  (hch:∀b∈ch,(b∈X.ex\/X.s₀.heap.objs.size<=b)/\b≠X.env.locals/\(∀x c,X.env.cells.lookup x=some c->c≠b)/\∀p∈X.pn++pins,p.1≠b):Inv X pins σ H' s':=by
 obtain ⟨h',g',d',t',o'⟩:=s';have e:o'=s.os:=ho;subst e;exact I.call (g':=g') (t':=t') (d':=d') u hok hg hch
end
abbrev XK:=Value->Option Addr->Hp->Prop
abbrev St:=List (Option V)
abbrev VK:=V->Hp->Prop
abbrev TE:=St->Hp->VK->Prop
abbrev TT:=St->Hp->(Bool->Hp->Prop)->Prop
abbrev TA:=St->Hp->(List V->Hp->Prop)->Prop
structure Ends where
 nx:St->Hp->Prop
 rt:VK
 bk:St->Hp->Prop:=fun _ _=>False
 ct:St->Hp->Prop:=fun _ _=>False
abbrev TS:=Ends->St->Hp->Prop
def EP (X:Cx) (pins:List (Addr×Obj)) (σ:St) (Q:VK) (u:Value) (s':Shared):Prop:=∃v H',Inv X pins σ H' s'/\RelV v u/\Q v H'
def TP (X:Cx) (pins:List (Addr×Obj)) (σ:St) (Q:Bool->Hp->Prop) (b:Bool) (s':Shared):Prop:=∃H',Inv X pins σ H' s'/\Q b H'
def AP (X:Cx) (pins:List (Addr×Obj)) (σ:St) (Q:List V->Hp->Prop) (us:List Value) (s':Shared):Prop:=∃vs H',Inv X pins σ H' s'/\Vals vs us/\Q vs H'
def SP (X:Cx) (pins:List (Addr×Obj)) (D:Ends) (f:Flow) (s':Shared):Prop :=
 match f with
 |.next=>∃σ' H',Inv X pins σ' H' s'/\D.nx σ' H'
 |.brk=>∃σ' H',Inv X pins σ' H' s'/\D.bk σ' H'
 |.cont=>∃σ' H',Inv X pins σ' H' s'/\D.ct σ' H'
 |.ret u=>∃v σ' H',Inv X pins σ' H' s'/\RelV v u/\D.rt v H'
def PE (X:Cx) (e:Expr) (t:TE):Prop :=
 ∀(pins:List (Addr×Obj)) (s:Shared) (σ:St) (H:Hp) (Q:VK),Inv X pins σ H s->t σ H Q->wpAny (model X.prog X.w) X.A (eval e X.env) (EP X pins σ Q) X.xe s
def PT (X:Cx) (e:Expr) (t:TT):Prop :=
 ∀(pins:List (Addr×Obj)) (s:Shared) (σ:St) (H:Hp) (Q:Bool->Hp->Prop),Inv X pins σ H s->t σ H Q->wpAny (model X.prog X.w) X.A (isTrue e X.env (eval e X.env)) (TP X pins σ Q) X.xe s
def PW (X:Cx) (e:Expr) (t:TT):Prop :=
 ∀(whole:Sem Value) (pins:List (Addr×Obj)) (s:Shared) (σ:St) (H:Hp) (Q:Bool->Hp->Prop),Inv X pins σ H s->t σ H Q->wpAny (model X.prog X.w) X.A (isTrue e X.env whole) (TP X pins σ Q) X.xe s
theorem PW.pt {X:Cx} {e:Expr} {t:TT} (h:PW X e t):PT X e t:=h _
def PA (X:Cx) (es:List Expr) (t:TA):Prop :=
 ∀(pos:Pos) (pins:List (Addr×Obj)) (s:Shared) (σ:St) (H:Hp) (Q:List V->Hp->Prop),Inv X pins σ H s->t σ H Q->wpAny (model X.prog X.w) X.A (spliced (backTo pos (starEach es X.env))) (AP X pins σ Q) X.xe s
def PS (X:Cx) (st:Stmt) (t:TS):Prop :=
 ∀(pins:List (Addr×Obj)) (s:Shared) (σ:St) (H:Hp) (D:Ends),Inv X pins σ H s->t D σ H->wpAny (model X.prog X.w) X.A (exec st X.env) (SP X pins D) X.xe s
def PSs (X:Cx) (st:List Stmt) (t:TS):Prop :=
 ∀(pins:List (Addr×Obj)) (s:Shared) (σ:St) (H:Hp) (D:Ends),Inv X pins σ H s->t D σ H->wpAny (model X.prog X.w) X.A (execs st X.env) (SP X pins D) X.xe s
theorem jW {α:Type} {t:Sem α} {Q Q':α->Shared->Prop} {M:Model} {A:Around} {E:Value->Shared->Prop} {s:Shared} (h:wpAny M A t Q E s) (hQ:∀a s,Q a s->Q' a s):wpAny M A t Q' E s:=cg h hQ fun _ _ x=>x
section
variable {X:Cx}
def GB (i:Nat):TE:=fun σ H Q=>∃v,σ[i]?=some (some v)/\Q v H
def tC (v:V):TE:=fun _ H Q=>Q v H
theorem V3 {i:Nat} {x:Str} {pos:Pos} (hN:X.N[i]?=some x) (hv:oB X.env.scope x) (hd:(x == ("__debug__":Str))=false:=by decide) (hcd:(x == ("__classdict__":Str))=false:=by decide):PE X (.Name x pos) (GB i):=by
 intro pins s σ H Q I h;obtain ⟨v,e,h⟩:=h;obtain ⟨m,hn,hl⟩:=I.loc;obtain ⟨u,r,l⟩:=hl i x v hN e hv;have fin:EP X pins σ Q u s:=⟨v,H,I,r,h⟩
 rcases l with ⟨hk,hm⟩|⟨hk,c,hc,hcell⟩
 ·exact wpAny_Name (wpAny_loadName_local I.ok.kind hk hn hm fin) hd
 ·rcases hk with hk|hk
  ·exact wpAny_Name (wpAny_loadName_cell I.ok.kind hk hc hcell fin) hd
  ·exact wpAny_Name (wpAny_loadName_free I.ok.kind hk hc hcell fin hcd) hd
theorem jC {i j pos}:PE X (.Constant (.int i) j pos) (tC (.int i)):=fun _ _ _ H _ I h=>wpAny_Constant_int ⟨.int i,H,I.tok _,⟨_,rfl⟩,h⟩
theorem cF {b j pos}:PE X (.Constant (.bool b) j pos) (tC (.bl b)):=fun _ _ _ H _ I h=>Constant_bool ⟨.bl b,H,I,rfl,h⟩
theorem V4 {j pos}:PE X (.Constant .none j pos) (tC .non):=fun _ _ _ H _ I h=>Constant_none ⟨.non,H,I,rfl,h⟩
theorem jV {x j pos}:PE X (.Constant (.str x) j pos) (tC (.str x)):=fun _ _ _ H _ I h=>Calls.Constant_str ⟨.str x,H,I.tok _,⟨_,rfl⟩,h⟩
def Gl (X:Cx) (x:Str):Prop:=X.env.kindOf x=some .globalImplicit
theorem bX {E:Value->Shared->Prop} {pins:List (Addr×Obj)} {s:Shared} {σ:St} {H:Hp} {x:Str} {u:Value} {pos:Pos} {Q:Value->Shared->Prop} (I:Inv X pins σ H s) (hg:Gl X x) (hm:X.mg x=some u) (h:Q u s)
  (hd:(x == ("__debug__":Str))=false:=by decide):wpAny (model X.prog X.w) X.A (eval (.Name x pos) X.env) Q E s :=
 Calls.Name_function_global I.ok.kind hg (Calls.loadGlobal_global (by rw [I.ok.glob];exact I.mod.glob.keeps I.bk) hm h) hd
theorem ZD {E:Value->Shared->Prop} {pins:List (Addr×Obj)} {s:Shared} {σ:St} {H:Hp} {x:Str} {u:Value} {pos:Pos} {Q:Value->Shared->Prop} (I:Inv X pins σ H s) (hg:Gl X x) (hm:X.mg x=none) (hv:bootBuiltins x=some u) (h:Q u s)
  (hn:x≠"__name__":=by decide) (hd:(x == ("__debug__":Str))=false:=by decide):wpAny (model X.prog X.w) X.A (eval (.Name x pos) X.env) Q E s:=by
 obtain ⟨mb,h1,h2⟩:=I.mod.blt;exact Calls.Name_function_global I.ok.kind hg (Calls.loadGlobal_builtin (by rw [I.ok.glob];exact I.mod.glob.keeps I.bk) hm (by rw [I.ok.blt];exact h1.keeps I.bk) ((h2 x hn).trans hv) h) hd
theorem JN {x:Str} {v:V} {u:Value} {pos:Pos} (hg:Gl X x) (hm:X.mg x=some u) (r:RelV v u) (hd:(x == ("__debug__":Str))=false:=by decide):PE X (.Name x pos) (tC v) :=
 fun _ _ _ H _ I h=>bX I hg hm ⟨v,H,I,r,h⟩ hd
theorem EM {x:Str} {v:V} {u:Value} {pos:Pos} (hg:Gl X x) (hm:X.mg x=none) (hv:bootBuiltins x=some u) (r:RelV v u) (hn:x≠"__name__":=by decide) (hd:(x == ("__debug__":Str))=false:=by decide):PE X (.Name x pos) (tC v) :=
 fun _ _ _ H _ I h=>ZD I hg hm hv ⟨v,H,I,r,h⟩ hn hd
variable {a b:Expr} {ta tb:TE} {pos:Pos}
def tB (t:TE):TT:=fun σ H Q=>t σ H fun x H1=>∃c,x=.bl c/\Q c H1
theorem vV {e:Expr} {t:TE} (h:PE X e t) (he:∀whole,isTrue e X.env whole=(do let v <- whole;standAt e.pos;holding [v] (truthy v)):=by intro _;rfl):PT X e (tB t):=by
 intro pins s σ H Q I hw;refine isTrue_plain (jW (h pins s σ H _ I hw) fun v s1 ⟨x,H1,I1,r1,q1⟩=>?_) (he _);obtain ⟨d,rfl,q⟩:=q1;cases r1;exact fe ⟨H1,I1,q⟩
variable {tA tB':TT} {rest:List Expr}
def XZ (t u:TT):TT:=fun σ H Q=>t σ H fun c H1=>if c=true then u σ H1 Q else Q false H1
def YO (t u:TT):TT:=fun σ H Q=>t σ H fun c H1=>if c=true then Q true H1 else u σ H1 Q
def XT (t:TT):TT:=fun σ H Q=>t σ H fun c H1=>Q (!c) H1
theorem dZ (ha:PT X a tA):PW X (.BoolOp .And [a] pos) tA:=by
 intro wh pins s σ H Q I h;refine isTrue_and (jW (ha pins s σ H Q I h) fun c s1 e=>?_);cases c with
 |true=>exact isTrue_and_nil e
 |false=>exact e
theorem mJ (ha:PT X a tA):PW X (.BoolOp .Or [a] pos) tA:=by
 intro wh pins s σ H Q I h;refine isTrue_or (jW (ha pins s σ H Q I h) fun c s1 e=>?_);cases c with
 |false=>exact isTrue_or_nil e
 |true=>exact e
theorem eE (ha:PT X a tA) (hb:PW X (.BoolOp .And (b::rest) pos) tB'):PW X (.BoolOp .And (a::b::rest) pos) (XZ tA tB'):=by
 intro wh pins s σ H Q I h;refine isTrue_and (jW (ha pins s σ H _ I h) fun c s1 ⟨H1,I1,q1⟩=>?_);cases c with
 |true=>exact hb wh pins s1 σ H1 Q I1 q1
 |false=>exact ⟨H1,I1,q1⟩
theorem mT (ha:PT X a tA) (hb:PW X (.BoolOp .Or (b::rest) pos) tB'):PW X (.BoolOp .Or (a::b::rest) pos) (YO tA tB'):=by
 intro wh pins s σ H Q I h;refine isTrue_or (jW (ha pins s σ H _ I h) fun c s1 ⟨H1,I1,q1⟩=>?_);cases c with
 |true=>exact ⟨H1,I1,q1⟩
 |false=>exact hb wh pins s1 σ H1 Q I1 q1
theorem b4 (ha:PT X a tA):PT X (.UnaryOp .Not a pos) (XT tA):=by
 intro pins s σ H Q I h;exact isTrue_not (ha pins s σ H (fun c H1=>Q (!c) H1) I h)
def WV (ta tb:TE):TE:=fun σ H Q=>ta σ H fun x H1=>∃c,x=.bl c/\if c=true then tb σ H1 Q else Q (.bl false) H1
theorem wE {op} {t:TE} (h:PE X a t):PE X (.BoolOp op [a] pos) t:=fun pins s σ H Q I hw=>BoolOp_one (h pins s σ H Q I hw)
theorem wF (ha:PE X a ta) (hb:PE X (.BoolOp .And (b::rest) pos) tb):PE X (.BoolOp .And (a::b::rest) pos) (WV ta tb):=by
 intro pins s σ H Q I h;refine BoolOp_and (jW (ha pins s σ H _ I h) fun v s1 ⟨x,H1,I1,r1,q1⟩=>?_);obtain ⟨c,rfl,q1⟩:=q1;cases r1;refine fe ?_;cases c with
 |true=>exact hb pins s1 σ H1 Q I1 q1
 |false=>exact ⟨.bl false,H1,I1,rfl,q1⟩
def YQ (t:TT) (ta tb:TE):TE:=fun σ H Q=>t σ H fun c H1=>if c=true then ta σ H1 Q else tb σ H1 Q
theorem yU {c:Expr} (hc:PT X c tA) (ha:PE X a ta) (hb:PE X b tb):PE X (.IfExp c a b pos) (YQ tA ta tb):=by
 intro pins s σ H Q I h;refine wpAny_IfExp (jW (hc pins s σ H _ I h) fun d s1 ⟨H1,I1,q1⟩=>?_);cases d with
 |true=>exact ha pins s1 σ H1 Q I1 q1
 |false=>exact hb pins s1 σ H1 Q I1 q1
end
def SqL (K:PySem.W.Frag) (H:Hp) (a:Addr) (xs:List V):Prop :=
 Rd H a (.lst xs)\/
  ∃(o:Obj) (its:Array Value) (n:Nat),K.lookup a=some o/\o.cls=.type "list"/\o.dict=none/\o.data=.seq its n/\its.size<=sizeLine/\Vals xs its.toList
def SqT (K:PySem.W.Frag) (H:Hp) (a:Addr) (xs:List V):Prop :=
 Rd H a (.tup xs)\/
  ∃(o:Obj) (its:Array Value) (n:Nat),K.lookup a=some o/\o.cls=.type "tuple"/\o.data=.seq its n/\its.size<=sizeLine/\Vals xs its.toList
def YF:Value->Option V
 |.none=>some .non
 |.bool b=>some (.bl b)
 |.int i _=>some (.int i)
 |.str x _=>some (.str x)
 |.bytes b _=>some (.byt b)
 |.float b _=>some (.flt b)
 |.ref a=>some (.ref a)
 |.type n=>some (.ty n)
 |_=>none
variable {u:Value}
theorem RelV.abs {x:V} (r:RelV x u):YF u=some x:=by
 cases x with
 |non=>cases r;rfl
 |bl _=>cases r;rfl
 |int _=>obtain ⟨t,rfl⟩:=r;rfl
 |str _=>obtain ⟨t,rfl⟩:=r;rfl
 |byt _=>obtain ⟨t,rfl⟩:=r;rfl
 |flt _=>obtain ⟨t,rfl⟩:=r;rfl
 |ref _=>cases r;rfl
 |ty _=>cases r;rfl
theorem RelV.inj {x y:V} (r:RelV x u) (q:RelV y u):x=y:=az (r.abs.symm.trans q.abs)
theorem Vals.inj:∀{xs ys:List V} {us:List Value},Vals xs us->Vals ys us->xs=ys
 |_,_,_,.nil,.nil=>rfl
 |_,_,_,.cons r t,.cons r' t'=>by rw [r.inj r',Vals.inj t t']
section
variable {X:Cx} {pins:List (Addr×Obj)} {σ:St} {H:Hp} {s:Shared} {a:Addr} {xs ys:List V}
theorem SqL.of {K:PySem.W.Frag} (h:H a=some (.lst xs)):SqL K H a xs:=.inl (.inl h)
theorem SqT.of {K:PySem.W.Frag} (h:H a=some (.tup xs)):SqT K H a xs:=.inl (.inl h)
theorem Inv.list (I:Inv X pins σ H s) (h:SqL X.K H a xs):∃its:List Value,Vals xs its/\PlainL s.heap a its.toArray/\xs.length<=sizeLine:=by
 rcases h with h|⟨o,its,n,hk,hc,hd,hs,hz,r⟩
 ·obtain ⟨z,its,n,r,e⟩:=h.ok I.hok;exact ⟨its,r,⟨_,n,e,rfl,rfl,rfl⟩,z⟩
 ·refine ⟨its.toList,r,⟨o,n,I.kIn a o hk,hc,hd,by simpa using hs⟩,?_⟩;have e:=r.length;simp only [gt] at e
  lia
theorem Inv.tuple (I:Inv X pins σ H s) (h:SqT X.K H a xs):∃its:List Value,Vals xs its/\IsTup s.heap a its.toArray/\xs.length<=sizeLine:=by
 rcases h with h|⟨o,its,n,hk,hc,hs,hz,r⟩
 ·obtain ⟨z,its,r,p⟩:=h.ok I.hok;exact ⟨its,r,p,z⟩
 ·refine ⟨its.toList,r,⟨o,I.kIn a o hk,hc,n,by simpa using hs⟩,?_⟩;have e:=r.length;simp only [gt] at e
  lia
theorem Inv.list_inj (I:Inv X pins σ H s) (h:SqL X.K H a xs) (h':SqL X.K H a ys):xs=ys:=by
 obtain ⟨its,r,⟨o,n,e,_,_,d⟩,_⟩:=I.list h;obtain ⟨its',r',⟨o',n',e',_,_,d'⟩,_⟩:=I.list h';rw [e] at e';cases e'
 rw [d] at d';injection d' with d1 _
 have:its=its':=by simpa using bz Array.toList d1
 subst this;exact r.inj r'
theorem Inv.tuple_inj (I:Inv X pins σ H s) (h:SqT X.K H a xs) (h':SqT X.K H a ys):xs=ys:=by
 obtain ⟨its,r,⟨o,e,_,n,d⟩,_⟩:=I.tuple h;obtain ⟨its',r',⟨o',e',_,n',d'⟩,_⟩:=I.tuple h';rw [e] at e';cases e'
 rw [d] at d';injection d' with d1 _
 have:its=its':=by simpa using bz Array.toList d1
 subst this;exact r.inj r'
end
abbrev Cx.wish (X:Cx) (E:Value->Shared->Prop):Cx:={X with xe:=E}
abbrev Cx.nox (X:Cx):Cx:=X.wish fun _ _=>False
variable {X:Cx}
theorem Cx.Ok.wish (ok:X.Ok) (E:Value->Shared->Prop):(X.wish E).Ok :=
 ⟨ok.mod,ok.kind,ok.glob,ok.blt,ok.above,ok.inj,ok.has,ok.cab,ok.hd,ok.frames,ok.stk,ok.exf,ok.bs,ok.bsz,ok.noex,ok.exfs,ok.funs,ok.frf⟩
theorem Cx.Ok.unwish {E:Value->Shared->Prop} (ok:(X.wish E).Ok):X.Ok :=
 ⟨ok.mod,ok.kind,ok.glob,ok.blt,ok.above,ok.inj,ok.has,ok.cab,ok.hd,ok.frames,ok.stk,ok.exf,ok.bs,ok.bsz,ok.noex,ok.exfs,ok.funs,ok.frf⟩
section
variable {X:Cx} {pins:List (Addr×Obj)} {σ:St} {H:Hp} {s:Shared} {E:Value->Shared->Prop}
theorem Inv.wish (I:Inv X pins σ H s) (E:Value->Shared->Prop):Inv (X.wish E) pins σ H s:=⟨I.ok.wish E,I.os,I.bare,I.base,I.loc,I.cell,I.free,I.freeC,I.pin,I.hok,I.len⟩
theorem Inv.unwish (I:Inv (X.wish E) pins σ H s):Inv X pins σ H s:=⟨I.ok.unwish,I.os,I.bare,I.base,I.loc,I.cell,I.free,I.freeC,I.pin,I.hok,I.len⟩
theorem SP.unwish {D:Ends} {f:Flow} {s':Shared} (h:SP (X.wish E) pins D f s'):SP X pins D f s':=by
 cases f with
 |next=>obtain ⟨σ',H',I,q⟩:=h;exact ⟨σ',H',I.unwish,q⟩
 |brk=>obtain ⟨σ',H',I,q⟩:=h;exact ⟨σ',H',I.unwish,q⟩
 |cont=>obtain ⟨σ',H',I,q⟩:=h;exact ⟨σ',H',I.unwish,q⟩
 |ret u=>obtain ⟨v,σ',H',I,r,q⟩:=h;exact ⟨v,σ',H',I.unwish,r,q⟩
theorem PE.nox {e:Expr} {t:TE} (h:PE X.nox e t):PE X e t:=fun pins s σ H Q I hw =>
 cg (h pins s σ H Q (I.wish _) hw) (fun _ _ ⟨v,H',I',r,q⟩=>⟨v,H',I'.unwish,r,q⟩) fun _ _ z=>False.elim z
theorem PSs.nox {st:List Stmt} {t:TS} (h:PSs X.nox st t):PSs X st t:=fun pins s σ H D I hw =>
 cg (h pins s σ H D (I.wish _) hw) (fun _ _ q=>q.unwish) fun _ _ z=>False.elim z
end
section
variable {X:Cx} {st:Stmt} {rest:List Stmt} {t u:TS} {e:Expr} {te:TE} {pos:Pos}
def WQ:TS:=fun D σ H=>D.nx σ H
def XS (t u:TS):TS:=fun D σ H=>t {D with nx:=u D} σ H
theorem kD:PSs X [] WQ:=fun _ _ σ H _ I h=>ge ⟨σ,H,I,h⟩
theorem jG (h1:PS X st t) (h2:PSs X rest u):PSs X (st::rest) (XS t u):=by
 intro pins s σ H D I h;refine wpAny_execs_cons (jW (h1 pins s σ H {D with nx:=u D} I h) fun f s1 q=>?_);cases f with
 |next =>
  obtain ⟨σ',H',I',q⟩:=q;exact h2 pins s1 σ' H' D I' q
 |ret v=>exact q
 |brk=>exact q
 |cont=>exact q
theorem kF (h1:PS X st t):PSs X [st] t:=by
 intro pins s σ H D I h;refine wpAny_execs_cons (jW (h1 pins s σ H D I h) fun f s1 q=>?_);cases f with
 |next=>exact ge q
 |ret v=>exact q
 |brk=>exact q
 |cont=>exact q
theorem Inv.quiet {pins:List (Addr×Obj)} {σ:St} {H:Hp} {s:Shared} (I:Inv X pins σ H s):interactive X.env=false:=by simp [interactive,I.ok.kind]
def WR (te:TE):TS:=fun D σ H=>te σ H fun _ H1=>D.nx σ H1
theorem vB (he:PE X e te) (hs:swapsWith e none pos.line X.env=pure false:=by rfl):PS X (.Expr e pos) (WR te):=by
 intro pins s σ H D I h;exact wpAny_Expr_any (jW (he pins s σ H _ I h) fun v s1 ⟨x,H1,I1,r1,q1⟩=>⟨σ,H1,I1,q1⟩) I.quiet hs
def GC (te:TE):TS:=fun D σ H=>te σ H D.rt
theorem G7 (he:PE X e te):PS X (.Return (some e) pos) (GC te):=by
 intro pins s σ H D I h;exact wpAny_Return_some (jW (he pins s σ H _ I h) fun v s1 ⟨x,H1,I1,r1,q1⟩=>⟨x,σ,H1,I1,r1,q1⟩)
def XV (c:TT) (t u:TS):TS:=fun D σ H=>c σ H fun b H1=>if b=true then t D σ H1 else u D σ H1
theorem kB {c:Expr} {a b:List Stmt} {tc:TT} (hc:PT X c tc) (ha:PSs X a t) (hb:PSs X b u):PS X (.If c a b pos) (XV tc t u):=by
 intro pins s σ H D I h;refine wpAny_If (jW (hc pins s σ H _ I h) fun d s1 ⟨H1,I1,q1⟩=>?_);cases d with
 |true=>exact ha pins s1 σ H1 D I1 q1
 |false=>exact hb pins s1 σ H1 D I1 q1
end
abbrev TG:=V->St->Hp->(St->Hp->Prop)->Prop
abbrev bO:=List V->St->Hp->(St->Hp->Prop)->Prop
def PG (X:Cx) (target:Expr) (t:TG):Prop :=
 ∀(pins:List (Addr×Obj)) (s:Shared) (σ:St) (H:Hp) (v:V) (u:Value) (Q:St->Hp->Prop),Inv X pins σ H s->RelV v u->t v σ H Q->
  wpAny (model X.prog X.w) X.A (assign target X.env u) (fun _ s'=>∃σ' H',Inv X pins σ' H' s'/\Q σ' H') X.xe s
def iA (X:Cx) (ts:List Expr) (t:bO):Prop :=
 ∀(pins:List (Addr×Obj)) (s:Shared) (σ:St) (H:Hp) (vs:List V) (us:List Value) (Q:St->Hp->Prop),Inv X pins σ H s->Vals vs us->t vs σ H Q->
  wpAny (model X.prog X.w) X.A (assignInOrder ((assignEach ts X.env).map (·.2)) us) (fun _ s'=>∃σ' H',Inv X pins σ' H' s'/\Q σ' H') X.xe s
abbrev gT:=V->V->V->Hp->(Hp->Prop)->Prop
def xF (X:Cx) (t:gT):Prop :=
 ∀(pins:List (Addr×Obj)) (s:Shared) (σ:St) (H:Hp) (o i v:V) (ov iv u:Value) (Q:Hp->Prop),Inv X pins σ H s->RelV o ov->RelV i iv->RelV v u->t o i v H Q->
  wpAny (model X.prog X.w) X.A (setItem ov iv u) (fun _ s'=>∃H',Inv X pins σ H' s'/\Q H') X.xe s
abbrev oE:=V->V->Hp->VK->Prop
def xU (X:Cx) (op:Operator) (t:oE):Prop :=
 ∀(pins:List (Addr×Obj)) (s:Shared) (σ:St) (H:Hp) (x y:V) (v u:Value) (Q:VK),Inv X pins σ H s->RelV x v->RelV y u->t x y H Q->
  wpAny (model X.prog X.w) X.A (inplaceOp op v u) (EP X pins σ Q) X.xe s
section
variable {X:Cx} {pos:Pos}
def QS (i:Nat):TG:=fun v σ H Q=>Q (σ.set i (some v)) H
theorem kI {i:Nat} {x:Str} (hN:X.N.Nodup) (hi:X.N[i]?=some x) (hx:fE X.env.scope x) (hf:X.fn x=true\/X.env.scope.names.lookup x=some .local:=by first|exact .inl rfl|exact .inr rfl|assumption):PG X (.Name x pos) (QS i):=by
 intro pins s σ H v u Q I r h;exact wpAny_assign_Name (uC I hN hi hx r (fun s' I'=>⟨_,H,I',h⟩) hf)
def YA:bO:=fun vs σ H Q=>vs=[]/\Q σ H
def XF (t:TG) (u:bO):bO:=fun vs σ H Q=>∃v r,vs=v::r/\t v σ H fun σ' H'=>u r σ' H' Q
theorem yQ:iA X [] YA:=by
 intro pins s σ H vs us Q I r h;obtain ⟨e,h⟩:=h;subst e;cases r;exact assignInOrder_nil ⟨σ,H,I,h⟩
theorem qB {e:Expr} {es:List Expr} {t:TG} {u:bO} (h1:PG X e t) (h2:iA X es u)
  (hs:(assignEach (e::es) X.env).map (·.2)=assign e X.env::(assignEach es X.env).map (·.2):=by rfl):iA X (e::es) (XF t u):=by
 intro pins s σ H vs us Q I r h;obtain ⟨v,vr,e1,h⟩:=h;subst e1;cases r with
 |cons r rr =>
  rw [hs];refine assignInOrder_cons (jW (h1 pins s σ H _ _ _ I r h) fun _ s1 ⟨σ1,H1,I1,q1⟩=>?_);exact h2 pins s1 σ1 H1 _ _ Q I1 rr q1
def GL (K:PySem.W.Frag) (n:Nat) (t:bO):TG:=fun v σ H Q=>∃a xs,v=.ref a/\SqT K H a xs/\xs.length=n/\t xs σ H Q
theorem gI {es:List Expr} {k:Nat} {t:bO} {n:Nat} (hc:X.calm=true) (h:iA X es t)
  (hn:(assignEach es X.env).length=n:=by rfl) (hst:(assignEach es X.env).findIdx? (·.1)=none:=by rfl):PG X (.Tuple es k pos) (GL X.K n t):=by
 intro pins s σ H v u Q I r hw;obtain ⟨a,xs,e1,hq,hl,hw⟩:=hw;subst e1;cases r;obtain ⟨its,rv,ht,hz⟩:=I.tuple hq;refine assign_Tuple_tuple (I.ok.hd hc) ht (by simp [hn,<- hl,rv.length]) hst fun h' hx=>?_
 have I1:Inv X pins σ H {s with heap:=h'}:=I.kept (t':=s.toks) fun b o e=>hx b o (aM (ar e)) e
 exact h pins _ σ H xs _ Q I1 (by simpa using rv) hw
def X9 (to ti:TE) (t:gT):TG:=fun v σ H Q=>to σ H fun o H1=>ti σ H1 fun i H2=>t o i v H2 fun H3=>Q σ H3
theorem V2 {o i:Expr} {to ti:TE} {t:gT} (ho:PE X o to) (hi:PE X i ti) (hs:xF X t)
  (ha:∀v,assign (.Subscript o i pos) X.env v=(do
   let ov <- holding [v] (eval o X.env)
   let iv <- holding [v,ov] (eval i X.env)
   standAt pos
   holding [v,ov,iv] (setItem ov iv v)
   release [v,ov,iv] []):=by intro _;rfl):PG X (.Subscript o i pos) (X9 to ti t):=by
 intro pins s σ H v u Q I r h;rw [ha];refine ae (wpAny_holding (jW (ho pins s σ H _ I h) fun ov s1 ⟨x,H1,I1,r1,q1⟩=>?_));refine ae (wpAny_holding (jW (hi pins s1 σ H1 _ I1 q1) fun iv s2 ⟨y,H2,I2,r2,q2⟩=>?_));refine ae (wpAny_standAt (ae (wpAny_holding (jW (hs pins s2 σ H2 x y v ov iv u _ I2 r1 r2 r q2) fun _ s3 ⟨H3,I3,q3⟩=>?_))));exact wpAny_release ⟨σ,H3,I3,q3⟩
def w4 (te:TE) (g:TG):TS:=fun D σ H=>te σ H fun x H1=>g x σ H1 D.nx
theorem VZ {tg e:Expr} {te:TE} {g:TG} (he:PE X e te) (hg:PG X tg g) (hs:swapsWithSole [tg] e pos.line X.env=pure false:=by rfl) (hw:swappedStores [tg] e X.env=pure none:=by rfl)
  (h1:(assignEach [tg] X.env).map (·.2)=[assign tg X.env]:=by rfl):PS X (.Assign [tg] e pos) (w4 te g):=by
 intro pins s σ H D I h;refine wpAny_Assign_stores (jW (he pins s σ H _ I h) fun v s1 ⟨x,H1,I1,r1,q1⟩=>?_) hs hw;rw [h1];exact jW (hg pins s1 σ H1 x v _ I1 r1 q1) fun _ s2 q=>q
theorem HA {i:Nat} {x:Str} {e:Expr} {te:TE} {pos':Pos} (hN:X.N.Nodup) (hi:X.N[i]?=some x) (hx:fE X.env.scope x) (he:PE X e te) (hs:swapsWith e (some (.Name x pos')) pos.line X.env=pure false:=by rfl) (hf:X.fn x=true\/X.env.scope.names.lookup x=some .local:=by first|exact .inl rfl|exact .inr rfl|assumption) :
  PS X (.Assign [.Name x pos'] e pos) (w4 te (QS i)):=by
 intro pins s σ H D I h;refine wpAny_Assign_Name (jW (he pins s σ H _ I h) fun v s1 ⟨y,H1,I1,r1,q1⟩=>?_) hs;exact uC I1 hN hi hx r1 (fun s2 I2=>⟨_,H1,I2,q1⟩) hf
def WU (to ti te:TE) (tget:V->V->Hp->VK->Prop) (tip:oE) (tset:gT):TS:=fun D σ H=>to σ H fun o H1=>ti σ H1 fun i H2=>tget o i H2 fun x H3=>te σ H3 fun y H4=>tip x y H4 fun z H5=>tset o i z H5 fun H6=>D.nx σ H6
def GO (X:Cx) (t:V->V->Hp->VK->Prop):Prop :=
 ∀(pins:List (Addr×Obj)) (s:Shared) (σ:St) (H:Hp) (o i:V) (ov iv:Value) (Q:VK),Inv X pins σ H s->RelV o ov->RelV i iv->t o i H Q->
  wpAny (model X.prog X.w) X.A (getItem ov iv) (EP X pins σ Q) X.xe s
theorem uS {o i e:Expr} {to ti te:TE} {tget:V->V->Hp->VK->Prop} {tip:oE} {tset:gT} {op:Operator} {tpos:Pos} (ho:PE X o to) (hi:PE X i ti) (hg:GO X tget) (he:PE X e te) (hp:xU X op tip) (hs:xF X tset)
  (ha:∀ov iv new,augStore i ov iv new=(do holding [new,ov,iv] (setItem ov iv new);release [new,ov,iv] [];pure .next):=by intros;rfl):PS X (.AugAssign (.Subscript o i tpos) op e pos) (WU to ti te tget tip tset):=by
 intro pins s σ H D I h;refine wpAny_AugAssign_SubscriptAny (jW (ho pins s σ H _ I h) fun ov s1 ⟨x1,H1,I1,r1,q1⟩=>?_) ha;refine jW (hi pins s1 σ H1 _ I1 q1) fun iv s2 ⟨x2,H2,I2,r2,q2⟩=>?_
 refine jW (hg pins s2 σ H2 x1 x2 ov iv _ I2 r1 r2 q2) fun old s3 ⟨x3,H3,I3,r3,q3⟩=>?_
 refine jW (he pins s3 σ H3 _ I3 q3) fun v s4 ⟨x4,H4,I4,r4,q4⟩=>?_
 refine jW (hp pins s4 σ H4 x3 x4 old v _ I4 r3 r4 q4) fun new s5 ⟨x5,H5,I5,r5,q5⟩=>?_
 exact jW (hs pins s5 σ H5 x1 x2 x5 ov iv new _ I5 r1 r2 r5 q5) fun _ s6 ⟨H6,I6,q6⟩=>⟨σ,H6,I6,q6⟩
def GT (f:Int->Int->Int):oE:=fun x y H Q=>∃i j,x=.int i/\y=.int j/\Q (.int (f i j)) H
theorem FF:xU X .Add (GT fun i j=>i+j):=by
 intro pins s σ H x y v u Q I r1 r2 h;obtain ⟨i,j,e1,e2,q⟩:=h;subst e1;subst e2
 obtain ⟨t,rfl⟩:=r1;obtain ⟨t',rfl⟩:=r2;exact iadd_int ⟨.int _,H,I.tok _,⟨_,rfl⟩,q⟩
theorem WH:xU X .Sub (GT fun i j=>i - j):=by
 intro pins s σ H x y v u Q I r1 r2 h;obtain ⟨i,j,e1,e2,q⟩:=h;subst e1;subst e2
 obtain ⟨t,rfl⟩:=r1;obtain ⟨t',rfl⟩:=r2;exact isub_int ⟨.int _,H,I.tok _,⟨_,rfl⟩,q⟩
def VM (c:TT) (tb:TS):TS:=fun D σ H=>∃W:Nat->St->Hp->Prop,(∃m,W m σ H)/\∀m σ H,W m σ H->
 c σ H fun b H1=>if b=true then ∃N:St->Hp->Prop,(∀σ' H',N σ' H'->∃m',m'<m/\W m' σ' H')/\tb {D with nx:=N,ct:=N,bk:=D.nx} σ H1 else D.nx σ H1
theorem SO {c:Expr} {body:List Stmt} {tc:TT} {tb:TS} (hp:PassesOwn (model X.prog X.w) X.A X.env X.xe) (hc:PT X c tc) (hb:PSs X body tb):PS X (.While c body [] pos) (VM tc tb):=by
 intro pins s σ H D I h;obtain ⟨W,⟨m0,w0⟩,turn⟩:=h;refine wpAny_While (codeAny_whileLoop (fun n s'=>∃σ' H',Inv X pins σ' H' s'/\W n σ' H') ?_ m0 ⟨σ,H,I,w0⟩);rintro n s1 ⟨σ1,H1,I1,w1⟩;refine ff hp (jW (hc pins s1 σ1 H1 _ I1 (turn n σ1 H1 w1)) fun b s2 ⟨H2,I2,q2⟩=>?_);cases b with
 |true =>
  obtain ⟨N,hN,q2⟩:=q2;rw [if_pos rfl];refine ff hp (jW (hb pins s2 σ1 H2 _ I2 q2) fun f s3 q3=>?_);cases f with
  |next =>
   obtain ⟨σ3,H3,I3,n3⟩:=q3;obtain ⟨m',hm,w3⟩:=hN σ3 H3 n3;exact ⟨m',hm,σ3,H3,I3,w3⟩
  |cont =>
   obtain ⟨σ3,H3,I3,n3⟩:=q3;obtain ⟨m',hm,w3⟩:=hN σ3 H3 n3;exact ⟨m',hm,σ3,H3,I3,w3⟩
  |brk=>exact q3
  |ret v=>exact q3
 |false =>
  rw [if_neg aB];exact ge ⟨σ1,H2,I2,q2⟩
end
structure It where
 go:Nat->Hp->Prop
 yld:Nat->Hp->V->Hp->Prop
 stop:Nat->Hp->Prop
def JG (X:Cx) (pins:List (Addr×Obj)) (H:Hp) (b:Addr):Prop :=
 H b=none/\b≠X.env.locals/\b∉X.fs/\(b∈X.ex\/X.s₀.heap.objs.size<=b)/\(∀x c,X.env.cells.lookup x=some c->c≠b)/\∀p∈X.pn++pins,p.1≠b
theorem Inv.fpOk {pins:List (Addr×Obj)} {σ:St} {H H':Hp} {s:Shared} {b:Addr} (I:Inv X pins σ H s) (hb:s.heap.objs.size<=b) (hn:H' b=none):JG X pins H' b:=by
 refine ⟨hn,dg (aA I.lt hb),I.nofs hb,.inr (aK I.sz hb),fun x c e z=>?_,fun p hp z=>?_⟩
 ·obtain ⟨v,q⟩:=I.cell x c e;exact absurd (aA q.lt (by rw [z];exact hb)) (cp _)
 ·exact absurd (aA (ar (I.pin p hp).1) (by rw [z];exact hb)) (cp _)
structure Turn (P:Program) (w:World) (K:PySem.W.Frag) (tg:Expr) (J:It) (fp:List Addr) (it:Addr) (tn:Nat->Heap->Prop):Prop where
 mem:it∈fp
 obj:∀i h,tn i h->∀b∈fp,∃o,h.get? b=some o/\∀v,o.data≠.cell v
 keep:∀i h h',tn i h->(∀b∈fp,∀o,h.get? b=some o->h'.get? b=some o)->tn i h'
 item:∀(X:Cx),X.prog=P->X.w=w->X.K=K->X.calm=true->∀(i:Nat) (pins:List (Addr×Obj)) (s:Shared) (σ:St) (H:Hp) (E:Value->Shared->Prop),Inv X pins σ H s->(∀b∈fp,JG X pins H b)->tn i s.heap->J.go i H->
  wpAny (model P w) X.A (pyNext (.ref it)) (fun r s1=>∃u,r=some u/\
   wpAny (model P w) X.A (letOwnedTupleGo tg (.ref it) u) (fun _ s2=>∃x H',Inv X pins σ H' s2/\RelV x u/\J.yld i H x H'/\tn (i+1) s2.heap/\∀b∈fp,H' b=none) E s1) E s
 done:∀(X:Cx),X.prog=P->X.w=w->X.K=K->X.calm=true->∀(i:Nat) (pins:List (Addr×Obj)) (s:Shared) (σ:St) (H:Hp) (E:Value->Shared->Prop),Inv X pins σ H s->(∀b∈fp,JG X pins H b)->tn i s.heap->J.stop i H->
  wpAny (model P w) X.A (pyNext (.ref it)) (fun r s1=>r=none/\Inv X pins σ H s1) E s
 self:∀(A:Around) (i:Nat) (s:Shared) (Q:Value->Shared->Prop) (E:Value->Shared->Prop),tn i s.heap->Q (.ref it) s->wpAny (model P w) A (pyIter (.ref it)) Q E s
abbrev TI:=St->Hp->(It->Hp->Prop)->Prop
def oG (X:Cx) (pins:List (Addr×Obj)) (σ:St) (tg:Expr) (R:It->Hp->Prop) (itv:Value) (s2:Shared):Prop :=
 ∃(it:Addr) (fp:List Addr) (tn:Nat->Heap->Prop) (J:It) (H':Hp),itv=.ref it/\Inv X pins σ H' s2/\Turn X.prog X.w X.K tg J fp it tn/\tn 0 s2.heap/\(∀b∈fp,JG X pins H' b)/\R J H'
def PI (X:Cx) (tg iter:Expr) (wi:TI):Prop :=
 ∀(pins:List (Addr×Obj)) (s:Shared) (σ:St) (H:Hp) (R:It->Hp->Prop),Inv X pins σ H s->wi σ H R->
  wpAny (model X.prog X.w) X.A (eval iter X.env) (fun v s1=>wpAny (model X.prog X.w) X.A (pyIter v) (oG X pins σ tg R) X.xe s1) X.xe s
variable {tg:Expr}
theorem gN {M:Model} {A:Around} {E:Value->Shared->Prop} {s:Shared} {it:Addr} {o:Obj} {n:String} {vs:Array Value} {Q:Unit->Shared->Prop} (ho:s.heap.get? it=some o) (hc:o.cls=.type n) (hd:o.data=.fields vs)
    (hn:["enumerate","zip","dict_itemiterator","dict_reverseitemiterator","odict_iterator","itertools.zip_longest","itertools.pairwise"].contains n=false) (hQ:Q () s):wpAny M A (letOwnedTupleGo tg (.ref it) u) Q E s:=by
  unfold letOwnedTupleGo;cases tg<;>first
    |exact aJ hQ
    | (cases u<;>first
        |exact aJ hQ
        | (refine ae (wpAny_load ho ?_)
           rw [hc,hd];show wpAny M A (if (["enumerate","zip","dict_itemiterator","dict_reverseitemiterator","odict_iterator","itertools.zip_longest","itertools.pairwise"].contains n&&vs[0]? == some (rawInt _))=true then _ else _) Q E s;rw [if_neg (by intro h;rw [hn,Bool.false_and] at h;cases h)];exact aJ hQ))
def dA (K:PySem.W.Frag) (a:Addr):It :=
 ⟨fun i H=>∃xs x,SqL K H a xs/\xs[i]?=some x,fun i H x H'=>H'=H/\∀xs,SqL K H a xs->xs[i]?=some x,fun i H=>∃xs,SqL K H a xs/\xs.length<=i⟩
def cZ (K:PySem.W.Frag) (a:Addr):It :=
 ⟨fun i H=>∃xs x,SqT K H a xs/\xs[i]?=some x,fun i H x H'=>H'=H/\∀xs,SqT K H a xs->xs[i]?=some x,fun i H=>∃xs,SqT K H a xs/\xs.length<=i⟩
def bP (lo:Int) (n:Nat):It:=⟨fun i _=>i<n,fun i H x H'=>H'=H/\x=.int (lo+i),fun i _=>n<=i⟩
variable {P:Program} {w:World} {K:PySem.W.Frag}
theorem P3 (a it:Addr):Turn P w K tg (dA K a) [it] it (fun i h=>h.IsListIter it a i) where
 mem:=by simp
 obj:=fun i h st b hb=>by
  have e:b=it:=by simpa using hb
  subst e;obtain ⟨o,e,c,d⟩:=st;exact ⟨o,e,fun v z=>by rw [d] at z;cases z⟩
 keep:=fun i h h' st k=>st.at fun o e=>k it (by simp) o e
 item:=by
  intro X hP hw hK hc i pins s σ H E I hf st hg;subst hP hw hK;obtain ⟨xs,x,hq,hx⟩:=hg;obtain ⟨its,rv,p,hz⟩:=I.list hq;obtain ⟨u,hu,ru⟩:=rv.get hx;obtain ⟨f0,f1,f2,f3,f4,f5⟩:=hf it (by simp);refine wpAny_pyNext_list_item st p.isList (x:=u) (by simpa using hu) fun h' st' sb=>?_
  have I1:Inv X pins σ H {s with heap:=h'}:=I.turned (t':=s.toks) (fun b o hb e=>(sb.2 b hb).trans e) f0 f1 f3 f4 f5;obtain ⟨o,e,c,d⟩:=id st';exact ⟨u,rfl,gN (s:={s with heap:=h'}) e c d (by decide) ⟨x,H,I1,ru,⟨rfl,fun ys hy=>by rw [I.list_inj hy hq];exact hx⟩,st',fun b hb=>(hf b hb).1⟩⟩
 done:=by
  intro X hP hw hK hc i pins s σ H E I hf st hg;subst hP hw hK;obtain ⟨xs,hq,hx⟩:=hg;obtain ⟨its,rv,p,hz⟩:=I.list hq;obtain ⟨f0,f1,f2,f3,f4,f5⟩:=hf it (by simp);have hl:=rv.length;exact wpAny_pyNext_list_end (I.ok.hd hc) st p.isList (by simp;lia) fun h' eb=>⟨rfl,I.turned (t':=s.toks) (fun b o hb e=>eb b o hb e) f0 f1 f3 f4 f5⟩
 self:=fun _ _ _ _ _ st h=>wpAny_pyIter_listiter st h
theorem ON (a it:Addr):Turn P w K tg (cZ K a) [it] it (fun i h=>h.IsTupleIter it a i) where
 mem:=by simp
 obj:=fun i h st b hb=>by
  have e:b=it:=by simpa using hb
  subst e;obtain ⟨o,e,c,d⟩:=st;exact ⟨o,e,fun v z=>by rw [d] at z;cases z⟩
 keep:=fun i h h' st k=>st.at fun o e=>k it (by simp) o e
 item:=by
  intro X hP hw hK hc i pins s σ H E I hf st hg;subst hP hw hK;obtain ⟨xs,x,hq,hx⟩:=hg;obtain ⟨its,rv,p,hz⟩:=I.tuple hq;obtain ⟨u,hu,ru⟩:=rv.get hx;obtain ⟨f0,f1,f2,f3,f4,f5⟩:=hf it (by simp);refine wpAny_pyNext_tuple_item st (show s.heap.IsTuple a its.toArray from p) (x:=u) (by simpa using hu) fun h' st' sb=>?_
  have I1:Inv X pins σ H {s with heap:=h'}:=I.turned (t':=s.toks) (fun b o hb e=>(sb.2 b hb).trans e) f0 f1 f3 f4 f5;obtain ⟨o,e,c,d⟩:=id st';exact ⟨u,rfl,gN (s:={s with heap:=h'}) e c d (by decide) ⟨x,H,I1,ru,⟨rfl,fun ys hy=>by rw [I.tuple_inj hy hq];exact hx⟩,st',fun b hb=>(hf b hb).1⟩⟩
 done:=by
  intro X hP hw hK hc i pins s σ H E I hf st hg;subst hP hw hK;obtain ⟨xs,hq,hx⟩:=hg;obtain ⟨its,rv,p,hz⟩:=I.tuple hq;obtain ⟨f0,f1,f2,f3,f4,f5⟩:=hf it (by simp);have hl:=rv.length;exact wpAny_pyNext_tuple_end (I.ok.hd hc) st (show s.heap.IsTuple a its.toArray from p) (by simp;lia) fun h' eb=>⟨rfl,I.turned (t':=s.toks) (fun b o hb e=>eb b o hb e) f0 f1 f3 f4 f5⟩
 self:=fun _ _ _ _ _ st h=>wpAny_pyIter_tupleiter st h
theorem OO (it:Addr) (lo:Int) (n:Nat):Turn P w K tg (bP lo n) [it] it (fun i h=>IsRangeIter h it (lo+(i:Nat)*1) ((n:Int) - (i:Nat)) 1) where
 mem:=by simp
 obj:=fun i h st b hb=>by
  have e:b=it:=by simpa using hb
  subst e;exact ⟨_,st,fun v z=>by
   have z':Data.fields _=Data.cell v:=z;cases z'⟩
 keep:=fun i h h' st k=>k it (by simp) _ st
 item:=by
  intro X hP hw hK hc i pins s σ H E I hf st hg;subst hP hw hK;obtain ⟨f0,f1,f2,f3,f4,f5⟩:=hf it (by simp);have W:=Walks.range (prog:=X.prog) (w:=X.w) (I.ok.hd hc) it lo 1 n;refine W.item i s _ _ hg st fun v h' tk hv st' kk=>?_
  obtain ⟨t,rfl⟩:=hv;have I1:Inv X pins σ H {s with heap:=h',toks:=tk}:=I.turned (fun b o hb e=>kk b o (by simpa using hb) e) f0 f1 f3 f4 f5;refine ⟨_,rfl,gN (s:={s with heap:=h',toks:=tk}) (n:="range_iterator") st' rfl rfl (by decide) ⟨.int (lo+i),H,I1,⟨t,?_⟩,⟨rfl,rfl⟩,st',fun b hb=>(hf b hb).1⟩⟩;rw [Int.mul_one]
 done:=by
  intro X hP hw hK hc i pins s σ H E I hf st hg;subst hP hw hK;obtain ⟨f0,f1,f2,f3,f4,f5⟩:=hf it (by simp);exact wpAny_pyNext_range_end (I.ok.hd hc) st (by have:n<=i:=hg;lia) fun h' eb=>⟨rfl,I.turned (t':=s.toks) (fun b o hb e=>eb b o hb e) f0 f1 f3 f4 f5⟩
 self:=fun _ _ _ _ _ st h=>wpAny_pyIter_rangeiter st h
end L2
namespace L2
open PySem PySem.Spec PyProof.Rows
section
variable {X:Cx} {tg:Expr}
def XC (K:PySem.W.Frag) (tl:TE):TI:=fun σ H R=>tl σ H fun x H1=>∃a,x=.ref a/\(∃xs,SqL K H1 a xs)/\R (dA K a) H1
def X7 (K:PySem.W.Frag) (tl:TE):TI:=fun σ H R=>tl σ H fun x H1=>∃a,x=.ref a/\(∃xs,SqT K H1 a xs)/\R (cZ K a) H1
theorem vQ {l:Expr} {tl:TE} (hl:PE X l tl):PI X tg l (XC X.K tl):=by
 intro pins s σ H R I h;refine jW (hl pins s σ H _ I h) fun v s1 ⟨x,H1,I1,r1,q1⟩=>?_
 obtain ⟨a,e,⟨xs,hq⟩,q⟩:=q1;subst e;cases r1;obtain ⟨its,rv,p,hz⟩:=I1.list hq;refine dw p.isList ?_;refine ⟨s1.heap.objs.size,[s1.heap.objs.size],_,_,H1,rfl,I1.kept (t':=s1.toks) fun b o e=>ai _ e,P3 a _,⟨_,aq _ rfl,rfl,rfl⟩,fun b hb=>?_,q⟩;have e:b=s1.heap.objs.size:=by simpa using hb
 subst e;exact I1.fpOk (aj _) (I1.hok.fresh (aj _))
theorem wD {l:Expr} {tl:TE} (hl:PE X l tl):PI X tg l (X7 X.K tl):=by
 intro pins s σ H R I h;refine jW (hl pins s σ H _ I h) fun v s1 ⟨x,H1,I1,r1,q1⟩=>?_
 obtain ⟨a,e,⟨xs,hq⟩,q⟩:=q1;subst e;cases r1;obtain ⟨its,rv,p,hz⟩:=I1.tuple hq;refine em (show s1.heap.IsTuple a its.toArray from p) ?_;refine ⟨s1.heap.objs.size,[s1.heap.objs.size],_,_,H1,rfl,I1.kept (t':=s1.toks) fun b o e=>ai _ e,ON a _,⟨_,aq _ rfl,rfl,rfl⟩,fun b hb=>?_,q⟩;have e:b=s1.heap.objs.size:=by simpa using hb
 subst e;exact I1.fpOk (aj _) (I1.hok.fresh (aj _))
theorem SM {pins:List (Addr×Obj)} {σ:St} {H:Hp} {s:Shared} {R:It->Hp->Prop} {E:Value->Shared->Prop} {lo hi:Int} {t u v:Tok} {tk:Nat} (I:Inv X pins σ H s) (h1 : -(2 ^ 62)<=lo) (h2:lo<2 ^ 62) (h3 : -(2 ^ 62)<=hi) (h4:hi<2 ^ 62)
    (q:R (bP lo (hi - lo).toNat) H):wpAny (model X.prog X.w) X.A (pyIter (.ref s.heap.objs.size)) (oG X pins σ tg R) E {s with heap:=s.heap.push {cls:=.type "range",data:=.fields #[.int lo t,.int hi u,.int 1 v]},toks:=tk}:=by
  refine wpAny_pyIter_range (IsRange.new ..) (small_one h1 h2 h3 h4) ?_;have I1:Inv X pins σ H {s with heap:=s.heap.push {cls:=.type "range",data:=.fields #[.int lo t,.int hi u,.int 1 v]},toks:=tk}:=I.kept fun b o e=>ai _ e
  refine ⟨(s.heap.push {cls:=.type "range",data:=.fields #[.int lo t,.int hi u,.int 1 v]}).objs.size,[(s.heap.push {cls:=.type "range",data:=.fields #[.int lo t,.int hi u,.int 1 v]}).objs.size],_,_,H,rfl,
    I1.kept (t':=tk) fun b o e=>ai _ e,OO _ lo (hi - lo).toNat,?_,fun b hb=>?_,q⟩
  . have e1:lo+((0:Nat):Int)*1=lo:=by simp
    have e2:(((hi - lo).toNat:Nat):Int) - ((0:Nat):Int)=Builtin.Range.rangeSize lo hi 1:=by rw [rangeSize_one];split<;>lia
    show IsRangeIter _ _ (lo+((0:Nat):Int)*1) ((((hi - lo).toNat:Nat):Int) - ((0:Nat):Int)) 1;rw [e1,e2];exact aq _ rfl
  . have e:b=(s.heap.push {cls:=.type "range",data:=.fields #[.int lo t,.int hi u,.int 1 v]}).objs.size:=by simpa using hb
    subst e;exact I1.fpOk (aj _) (I1.hok.fresh (aj _))
def XB (ta:TA):TI:=fun σ H R=>ta σ H fun vs H1=>∃j:Int,vs=[.int j]/\-(2 ^ 62)<=j/\j<2 ^ 62/\R (bP 0 j.toNat) H1
theorem JK {a:Expr} {ta:TA} {p pos:Pos} (hg:Gl X "range") (hm:X.mg "range"=none) (ha:PA X [a] ta) (hs:starEach [a] X.env=[(false,eval a X.env)]:=by rfl):PI X tg (.Call (.Name "range" p) [a] [] pos) (XB ta):=by
 intro pins s σ H R I h;refine Call_ (ZD I hg hm boot_range (bq (jW (ha pos pins s σ H _ I h) fun us s1 ⟨vs,H1,I1,r1,q1⟩=>?_) hs rfl));obtain ⟨j,e,q1,q2,q⟩:=q1;subst e;cases r1 with
 |cons r rr =>
  cases rr;obtain ⟨t,rfl⟩:=r;exact call_range_1 (SM I1 (by lia) (by lia) q1 q2 (by simpa using q))
def XW (wi:TI) (g:TG) (tb:TS):TS:=fun D σ H=>wi σ H fun J H1=>∃W:Nat->Nat->St->Hp->Prop,(∃m,W 0 m σ H1)/\∀i m σ H,W i m σ H->
 (J.stop i H/\D.nx σ H)\/(J.go i H/\∃N:St->Hp->Prop,(∀σ' H',N σ' H'->∃m',m'<m/\W (i+1) m' σ' H')/\∀x H',J.yld i H x H'->g x σ H' fun σ2 H2=>tb {D with nx:=N,ct:=N,bk:=D.nx} σ2 H2)
def gH (fp:List Addr) (h:Heap):List (Addr×Obj):=fp.filterMap fun b=>(h.get? b).map fun o=>(b,o)
theorem lL {fp:List Addr} {h:Heap} {b:Addr} {o:Obj} (hb:b∈fp) (e:h.get? b=some o):(b,o)∈gH fp h:=eo.mpr ⟨b,hb,by rw [e];rfl⟩
theorem RG {fp:List Addr} {h:Heap} {p:Addr×Obj} (hp:p∈gH fp h):p.1∈fp/\h.get? p.1=some p.2:=by
 obtain ⟨b,hb,e⟩:=eo.mp hp;cases q:h.get? b with
 |none=>rw [q] at e;cases e
 |some o =>
  rw [q] at e;have e':(b,o)=p:=az e;subst e';exact ⟨hb,q⟩
theorem Inv.pinned {pins:List (Addr×Obj)} {σ:St} {H:Hp} {s:Shared} {fp:List Addr} (I:Inv X pins σ H s) (hf:∀b∈fp,JG X pins H b) (ho:∀b∈fp,∃o,s.heap.get? b=some o/\∀v,o.data≠.cell v):Inv X (pins++gH fp s.heap) σ H s :=
 I.pins_of fun p hp=>(ba.mp hp).elim (fun z=>I.pin p (bd _ z)) fun z=>by
  obtain ⟨hb,e⟩:=RG z;obtain ⟨f0,f1,f2,_⟩:=hf p.1 hb;obtain ⟨o,e',d⟩:=ho p.1 hb;rw [e] at e';cases e'
  exact ⟨e,f0,f1,f2,d⟩
theorem Inv.unpinned {pins pl:List (Addr×Obj)} {σ:St} {H:Hp} {s:Shared} (I:Inv X (pins++pl) σ H s):Inv X pins σ H s:=I.pins_of fun p hp=>I.pin p (bd _ (gl _ hp))
theorem yX {iter:Expr} {body:List Stmt} {wi:TI} {g:TG} {tb:TS} {pos:Pos} (hp:PassesOwn (model X.prog X.w) X.A X.env X.xe) (hc:X.calm=true) (hi:PI X tg iter wi) (hg:PG X tg g) (hb:PSs X body tb)
  (hs:∀x,foldedSetIterable iter X.env x=pure x:=by intro _;rfl):PS X (.For tg iter body [] pos) (XW wi g tb):=by
 intro pins s σ H D I h;refine wpAny_For (jW (hi pins s σ H _ I h) fun v s1 h1=>jW h1 fun itv s2 h2=>?_) hs;obtain ⟨it,fp,tn,J,H2,e,I2,T,st2,f2,W,⟨m0,w0⟩,turn⟩:=h2;subst e;have stat:∀{H':Hp},(∀b∈fp,H' b=none)->∀b∈fp,JG X pins H' b:=fun hn b hb=>⟨hn b hb,(f2 b hb).2⟩
 refine codeAny_forLoop_any (fun n s'=>∃i σ' H',Inv X pins σ' H' s'/\tn i s'.heap/\(∀b∈fp,H' b=none)/\W i n σ' H') ?_ m0 ⟨0,σ,H2,I2,st2,fun b hb=>(f2 b hb).1,w0⟩;rintro n s3 ⟨i,σ3,H3,I3,st3,fr3,w3⟩
 rcases turn i n σ3 H3 w3 with ⟨stop,qn⟩|⟨go,N,hN,step⟩
 ·refine ff hp (jW (T.done X rfl rfl rfl hc i pins s3 σ3 H3 X.xe I3 (stat fr3) st3 stop) fun r s4 ⟨hr,I4⟩=>?_);subst hr;exact ge ⟨σ3,H3,I4,qn⟩
 ·refine ff hp (jW (T.item X rfl rfl rfl hc i pins s3 σ3 H3 X.xe I3 (stat fr3) st3 go) fun r s4 ⟨u,hr,h4⟩=>?_);subst hr;refine ff hp (jW h4 fun _ s5 ⟨x,H5,I5,r5,y5,st5,fr5⟩=>?_);have I5':=I5.pinned (stat fr5) (T.obj _ _ st5);refine ff hp (jW (hg _ s5 σ3 H5 x u _ I5' r5 (step x H5 y5)) fun _ s6 ⟨σ6,H6,I6,q6⟩=>?_);refine ff hp (jW (hb _ s6 σ6 H6 _ I6 q6) fun f s7 q7=>?_);have again:∀{σ7:St} {H7:Hp},Inv X (pins++gH fp s5.heap) σ7 H7 s7->N σ7 H7->∃m,m<n/\∃i σ' H',Inv X pins σ' H' s7/\tn i s7.heap/\(∀b∈fp,H' b=none)/\W i m σ' H':=fun {σ7 H7} I7 n7=>by
   obtain ⟨m',hm,w7⟩:=hN σ7 H7 n7;refine ⟨m',hm,i+1,σ7,H7,I7.unpinned,T.keep _ _ _ st5 fun b hb o e=>(I7.pin (b,o) (bd _ (bd _ (lL hb e)))).1,fun b hb=>?_,w7⟩;obtain ⟨o,e,d⟩:=T.obj _ _ st5 b hb;exact (I7.pin (b,o) (bd _ (bd _ (lL hb e)))).2.1
  cases f with
  |next=>obtain ⟨σ7,H7,I7,n7⟩:=q7;exact again I7 n7
  |cont=>obtain ⟨σ7,H7,I7,n7⟩:=q7;exact again I7 n7
  |brk=>obtain ⟨σ7,H7,I7,q7⟩:=q7;exact ⟨σ7,H7,I7.unpinned,q7⟩
  |ret v=>obtain ⟨x7,σ7,H7,I7,r7,q7⟩:=q7;exact ⟨x7,σ7,H7,I7.unpinned,r7,q7⟩
end
variable {g:TG} {tb:TS} {D:Ends} {σ:St} {H:Hp}
theorem lY {K:PySem.W.Frag} {a:Addr} {xs:List V} (Pv:Nat->St->Hp->Prop) (h0:Pv 0 σ H) (hl:∀i σ H,i<=xs.length->Pv i σ H->SqL K H a xs)
    (hs:∀i x σ H,xs[i]?=some x->Pv i σ H->g x σ H fun σ2 H2=>tb {D with nx:=Pv (i+1),ct:=Pv (i+1),bk:=D.nx} σ2 H2) (hd:∀σ H,Pv xs.length σ H->D.nx σ H) :
    ∃W:Nat->Nat->St->Hp->Prop,(∃m,W 0 m σ H)/\∀i m σ H,W i m σ H->
      ((dA K a).stop i H/\D.nx σ H)\/((dA K a).go i H/\∃N:St->Hp->Prop,(∀σ' H',N σ' H'->∃m',m'<m/\W (i+1) m' σ' H')/\∀x H',(dA K a).yld i H x H'->g x σ H' fun σ2 H2=>tb {D with nx:=N,ct:=N,bk:=D.nx} σ2 H2):=by
  refine ⟨fun i m σ H=>m=xs.length - i/\i<=xs.length/\Pv i σ H,⟨xs.length,by simp,aL _,h0⟩,?_⟩;rintro i m σ H ⟨rfl,hi,p⟩;have q:=hl i σ H hi p
  by_cases hlt:i<xs.length
  . refine .inr ⟨⟨xs,xs[i],q,by simp [hlt]⟩,Pv (i+1),fun σ' H' p'=>⟨xs.length - (i+1),by lia,rfl,hlt,p'⟩,fun x H' y=>?_⟩
    obtain ⟨e,y⟩:=y;subst e;exact hs i x σ _ (y xs q) p
  . have e:i=xs.length:=by lia
    subst e;exact .inl ⟨⟨xs,q,aj _⟩,hd σ H p⟩
theorem U5 {K:PySem.W.Frag} {a:Addr} {xs:List V} (Pv:Nat->St->Hp->Prop) (h0:Pv 0 σ H) (hl:∀i σ H,i<=xs.length->Pv i σ H->SqT K H a xs)
    (hs:∀i x σ H,xs[i]?=some x->Pv i σ H->g x σ H fun σ2 H2=>tb {D with nx:=Pv (i+1),ct:=Pv (i+1),bk:=D.nx} σ2 H2) (hd:∀σ H,Pv xs.length σ H->D.nx σ H) :
    ∃W:Nat->Nat->St->Hp->Prop,(∃m,W 0 m σ H)/\∀i m σ H,W i m σ H->
      ((cZ K a).stop i H/\D.nx σ H)\/((cZ K a).go i H/\∃N:St->Hp->Prop,(∀σ' H',N σ' H'->∃m',m'<m/\W (i+1) m' σ' H')/\∀x H',(cZ K a).yld i H x H'->g x σ H' fun σ2 H2=>tb {D with nx:=N,ct:=N,bk:=D.nx} σ2 H2):=by
  refine ⟨fun i m σ H=>m=xs.length - i/\i<=xs.length/\Pv i σ H,⟨xs.length,by simp,aL _,h0⟩,?_⟩;rintro i m σ H ⟨rfl,hi,p⟩;have q:=hl i σ H hi p
  by_cases hlt:i<xs.length
  . refine .inr ⟨⟨xs,xs[i],q,by simp [hlt]⟩,Pv (i+1),fun σ' H' p'=>⟨xs.length - (i+1),by lia,rfl,hlt,p'⟩,fun x H' y=>?_⟩
    obtain ⟨e,y⟩:=y;subst e;exact hs i x σ _ (y xs q) p
  . have e:i=xs.length:=by lia
    subst e;exact .inl ⟨⟨xs,q,aj _⟩,hd σ H p⟩
theorem Q4 {lo:Int} {n:Nat} (Pv:Nat->St->Hp->Prop) (h0:Pv 0 σ H)
  (hs:∀i σ H,i<n->Pv i σ H->g (.int (lo+i)) σ H fun σ2 H2=>tb {D with nx:=Pv (i+1),ct:=Pv (i+1),bk:=D.nx} σ2 H2) (hd:∀σ H,Pv n σ H->D.nx σ H) :
  ∃W:Nat->Nat->St->Hp->Prop,(∃m,W 0 m σ H)/\∀i m σ H,W i m σ H->
   ((bP lo n).stop i H/\D.nx σ H)\/((bP lo n).go i H/\∃N:St->Hp->Prop,(∀σ' H',N σ' H'->∃m',m'<m/\W (i+1) m' σ' H')/\∀x H',(bP lo n).yld i H x H'->g x σ H' fun σ2 H2=>tb {D with nx:=N,ct:=N,bk:=D.nx} σ2 H2):=by
 refine ⟨fun i m σ H=>m=n - i/\i<=n/\Pv i σ H,⟨n,by simp,aL _,h0⟩,?_⟩;rintro i m σ H ⟨rfl,hi,p⟩
 by_cases hlt:i<n
 ·refine .inr ⟨hlt,Pv (i+1),fun σ' H' p'=>⟨n - (i+1),by lia,rfl,hlt,p'⟩,fun x H' y=>?_⟩;obtain ⟨e,y⟩:=y;subst e y;exact hs i σ _ hlt p
 ·have e:i=n:=by lia
  subst e;exact .inl ⟨aj _,hd σ H p⟩
end L2
namespace L2
open PySem PySem.Spec PyProof.Rows
abbrev R2:=V->V->Hp->VK->Prop
def qM (X:Cx) (f:Value->Value->Sem Value) (r:R2):Prop :=
 ∀(pins:List (Addr×Obj)) (s:Shared) (σ:St) (H:Hp) (x y:V) (v u:Value) (Q:VK),Inv X pins σ H s->RelV x v->RelV y u->r x y H Q->
  wpAny (model X.prog X.w) X.A (f v u) (EP X pins σ Q) X.xe s
def xS (X:Cx) (f:Value->Sem Value) (r:V->Hp->VK->Prop):Prop :=
 ∀(pins:List (Addr×Obj)) (s:Shared) (σ:St) (H:Hp) (x:V) (v:Value) (Q:VK),Inv X pins σ H s->RelV x v->r x H Q->
  wpAny (model X.prog X.w) X.A (f v) (EP X pins σ Q) X.xe s
def yA (X:Cx) (f:Value) (r:List V->Hp->VK->Prop):Prop :=
 ∀(pins:List (Addr×Obj)) (s:Shared) (σ:St) (H:Hp) (xs:List V) (us:List Value) (Q:VK),Inv X pins σ H s->Vals xs us->r xs H Q->
  wpAny (model X.prog X.w) X.A (call f us) (EP X pins σ Q) X.xe s
def YG (X:Cx) (r:V->Hp->(Bool->Hp->Prop)->Prop):Prop :=
 ∀(pins:List (Addr×Obj)) (s:Shared) (σ:St) (H:Hp) (x:V) (v:Value) (Q:Bool->Hp->Prop),Inv X pins σ H s->RelV x v->r x H Q->
  wpAny (model X.prog X.w) X.A (truthy v) (TP X pins σ Q) X.xe s
def cX (r:R2) (ta tb:TE):TE:=fun σ H Q=>ta σ H fun x H1=>tb σ H1 fun y H2=>r x y H2 Q
def YM (r:V->Hp->VK->Prop) (ta:TE):TE:=fun σ H Q=>ta σ H fun x H1=>r x H1 Q
def rI (C:Int->Int->Prop) (g:Int->Int->V):R2:=fun x y H Q=>∃i j,x=.int i/\y=.int j/\C i j/\Q (g i j) H
def bN (g:Int->Int->V):R2:=fun x y H Q=>∃i j,x=.int i/\y=.int j/\Q (g i j) H
def rU (g:Int->V):V->Hp->VK->Prop:=fun x H Q=>∃i,x=.int i/\Q (g i) H
section
variable {X:Cx} {a b c:Expr} {ta tb tc:TE} {pos:Pos}
theorem xC (ha:PE X a ta) (hb:PE X b tb) {pins:List (Addr×Obj)} {s:Shared} {σ:St} {H:Hp} {R:V->V->Hp->Prop} (I:Inv X pins σ H s)
  (h:ta σ H fun x H1=>tb σ H1 fun y H2=>R x y H2) {Q:Value->Shared->Prop} {f:Value->Value->Sem Value}
  (hf:∀v u s2 x y H2,Inv X pins σ H2 s2->RelV x v->RelV y u->R x y H2->wpAny (model X.prog X.w) X.A (f v u) Q X.xe s2) :
  wpAny (model X.prog X.w) X.A (eval a X.env) (fun v s₁=>wpAny (model X.prog X.w) X.A (eval b X.env) (fun u s₂=>wpAny (model X.prog X.w) X.A (f v u) Q X.xe s₂) X.xe s₁) X.xe s:=by
 refine jW (ha pins s σ H _ I h) fun v s1 ⟨x,H1,I1,r1,q1⟩=>?_
 refine jW (hb pins s1 σ H1 _ I1 q1) fun u s2 ⟨y,H2,I2,r2,q2⟩=>?_
 exact hf v u s2 x y H2 I2 r1 r2 q2
theorem jJ {op:Operator} {r:R2} (ho:qM X (binaryOp op) r) (ha:PE X a ta) (hb:PE X b tb):PE X (.BinOp a op b pos) (cX r ta tb):=by
 intro pins s σ H Q I h;exact wpAny_BinOp (xC ha hb I h fun v u s2 x y H2 I2 rx ry q=>ho pins s2 σ H2 x y v u Q I2 rx ry q)
theorem gL {op:UnaryOp} {r:V->Hp->VK->Prop} (ho:xS X (unaryOp op) r) (ha:PE X a ta):PE X (.UnaryOp op a pos) (YM r ta):=by
 intro pins s σ H Q I h;exact UnaryOp_ (jW (ha pins s σ H _ I h) fun v s1 ⟨x,H1,I1,r1,q1⟩=>ho pins s1 σ H1 x v Q I1 r1 q1)
theorem nY {f:Value->Value->Sem Value} {C:Int->Int->Prop} {g:Int->Int->Int}
  (rule:∀(i j:Int) (t u:Tok) (s:Shared) (Q:Value->Shared->Prop) (E:Value->Shared->Prop),C i j->Q (.int (g i j) s.toks) {s with toks:=s.toks+1}->wpAny (model X.prog X.w) X.A (f (.int i t) (.int j u)) Q E s) :
  qM X f (rI C fun i j=>.int (g i j)):=by
 intro pins s σ H x y v u Q I rx ry h;obtain ⟨i,j,rfl,rfl,hc,q⟩:=h;obtain ⟨t,rfl⟩:=rx;obtain ⟨t',rfl⟩:=ry;exact rule i j t t' s _ _ hc ⟨.int (g i j),H,I.tok _,⟨_,rfl⟩,q⟩
theorem GH {f:Value->Value->Sem Value} {g:Int->Int->Int}
  (rule:∀(i j:Int) (t u:Tok) (s:Shared) (Q:Value->Shared->Prop) (E:Value->Shared->Prop),Q (.int (g i j) s.toks) {s with toks:=s.toks+1}->wpAny (model X.prog X.w) X.A (f (.int i t) (.int j u)) Q E s) :
  qM X f (bN fun i j=>.int (g i j)):=by
 intro pins s σ H x y v u Q I rx ry h;obtain ⟨i,j,rfl,rfl,q⟩:=h;obtain ⟨t,rfl⟩:=rx;obtain ⟨t',rfl⟩:=ry;exact rule i j t t' s _ _ ⟨.int (g i j),H,I.tok _,⟨_,rfl⟩,q⟩
theorem nH {f:Value->Value->Sem Value} {g:Int->Int->Bool}
  (rule:∀(i j:Int) (t u:Tok) (s:Shared) (Q:Value->Shared->Prop) (E:Value->Shared->Prop),Q (.bool (g i j)) s->wpAny (model X.prog X.w) X.A (f (.int i t) (.int j u)) Q E s) :
  qM X f (bN fun i j=>.bl (g i j)):=by
 intro pins s σ H x y v u Q I rx ry h;obtain ⟨i,j,rfl,rfl,q⟩:=h;obtain ⟨t,rfl⟩:=rx;obtain ⟨t',rfl⟩:=ry;exact rule i j t t' s _ _ ⟨.bl (g i j),H,I,rfl,q⟩
def YJ (i j:Int):Prop:=0<j/\j<1073741824
def YI (i j:Int):Prop:=0<=j/\j<=1000000/\i.natAbs<2 ^ 64
def CMul (i j:Int):Prop:=(-(2 ^ 64)<i/\i<2 ^ 64)\/(-(2 ^ 64)<j/\j<2 ^ 64)
theorem CMul.ok {i j:Int} (h:CMul i j):IntMulOk i j:=by
 rcases h with ⟨h1,h2⟩|⟨h1,h2⟩
 ·exact .of_left (intBits_le_64 h1 h2)
 ·exact .of_right (intBits_le_64 h1 h2)
theorem kG:qM X (binaryOp .Add) (bN fun i j=>.int (i+j)):=GH fun _ _ _ _ _ _ _ q=>add_int q
theorem yE:qM X (binaryOp .Sub) (bN fun i j=>.int (i - j)):=GH fun _ _ _ _ _ _ _ q=>sub_int q
theorem qD:qM X (binaryOp .Mult) (rI CMul fun i j=>.int (i*j)):=nY fun _ _ _ _ _ _ _ hc q=>mul_int q hc.ok
theorem bW:qM X (binaryOp .FloorDiv) (rI YJ fun i j=>.int (i / j)):=nY fun i j _ _ _ _ _ hc q=>by
 have h1:(0:Int)<j:=hc.1;have h2:j<1073741824:=hc.2;exact floordiv_int (by lia) (by rw [Int.fdiv_eq_ediv_of_nonneg i (by lia)];exact q) (.inl (ia (by lia)))
theorem yY:qM X (binaryOp .Mod) (rI (fun _ j=>0<j) fun i j=>.int (i%j)):=nY fun i j _ _ _ _ _ hc q=>by
 have h1:(0:Int)<j:=hc;exact mod_int' (by lia) (by rw [Int.fmod_eq_emod_of_nonneg i (by lia)];exact q)
theorem FB:qM X (binaryOp .Pow) (rI YI fun i j=>.int (i ^ j.toNat)):=nY fun _ _ _ _ _ _ _ hc q=>pow_int_small hc.1 hc.2.1 hc.2.2 q
theorem YL {f:Value->Sem Value} {g:Int->Int}
  (rule:∀(i:Int) (t:Tok) (s:Shared) (Q:Value->Shared->Prop) (E:Value->Shared->Prop),Q (.int (g i) s.toks) {s with toks:=s.toks+1}->wpAny (model X.prog X.w) X.A (f (.int i t)) Q E s) :
  xS X f (rU fun i=>.int (g i)):=by
 intro pins s σ H x v Q I rx h;obtain ⟨i,rfl,q⟩:=h;obtain ⟨t,rfl⟩:=rx;exact rule i t s _ _ ⟨.int (g i),H,I.tok _,⟨_,rfl⟩,q⟩
theorem gF:xS X (unaryOp .USub) (rU fun i=>.int (-i)):=YL fun _ _ _ _ _ q=>neg_int q
end
def w6:V->V->Bool
 |.non,.non=>true|.non,.int _=>true|.int _,.non=>true|.non,.bl _=>true|.bl _,.non=>true|.non,.str _=>true|.str _,.non=>true
 |.int _,.int _=>true|.bl _,.bl _=>true|.str _,.str _=>true|.byt _,.byt _=>true
 |.int _,.str _=>true|.str _,.int _=>true|.bl _,.str _=>true|.str _,.bl _=>true
 |_,_=>false
def YT:R2:=fun x y H Q=>w6 x y=true/\Q (.bl (decide (x=y))) H
def YS:R2:=fun x y H Q=>w6 x y=true/\Q (.bl (!decide (x=y))) H
theorem EU {i j:Int}:decide (V.int i=V.int j)=(i == j):=by
 rw [hJ];simp
theorem FI {i j:Bool}:decide (V.bl i=V.bl j)=(i == j):=by
 rw [hJ];simp
theorem ET {i j:Str}:decide (V.str i=V.str j)=(i == j):=by
 rw [hJ];simp
theorem EV {i j:Array UInt8}:decide (V.byt i=V.byt j)=(i.toList == j.toList):=by
 rw [hJ];cases i;cases j;simp
section
variable {X:Cx} {a b c:Expr} {ta tb tc:TE} {pos:Pos}
theorem qO {pins:List (Addr×Obj)} {σ:St} {H:Hp} {s:Shared} {Q:VK} {k k':Bool} (I:Inv X pins σ H s) (q:Q (.bl k) H) (e:k=k'):EP X pins σ Q (.bool k') s:=by
 subst e;exact ⟨.bl k,H,I,rfl,q⟩
theorem kL:qM X (compareOp .Eq) YT:=by
 intro pins s σ H x y v u Q I rx ry h;obtain ⟨hs,q⟩:=h;cases x with
 |non =>
  cases rx;cases y with
  |non=>cases ry;exact PySem.EqNone.eq_none_none (qO I q (by simp))
  |bl j=>cases ry;exact PySem.EqNone.eq_none_bool (qO I q (by simp))
  |int j=>obtain ⟨t',rfl⟩:=ry;exact PySem.EqNone.eq_none_int (qO I q (by simp))
  |str j=>obtain ⟨t',rfl⟩:=ry;exact PySem.EqNone.eq_none_str (qO I q (by simp))
  |_=>exact absurd (show false=true from hs) aB
 |bl i =>
  cases rx;cases y with
  |non=>cases ry;exact PySem.EqNone.eq_bool_none (qO I q (by simp))
  |bl j=>cases ry;exact eq_bool (qO I q FI)
  |str j=>obtain ⟨t',rfl⟩:=ry;exact PySem.EqMixed.eq_bool_str (qO I q (by simp))
  |_=>exact absurd (show false=true from hs) aB
 |int i =>
  obtain ⟨t,rfl⟩:=rx;cases y with
  |non=>cases ry;exact PySem.EqNone.eq_int_none (qO I q (by simp))
  |int j=>obtain ⟨t',rfl⟩:=ry;exact eq_int (qO I q EU)
  |str j=>obtain ⟨t',rfl⟩:=ry;exact PySem.EqMixed.eq_int_str (qO I q (by simp))
  |_=>exact absurd (show false=true from hs) aB
 |str i =>
  obtain ⟨t,rfl⟩:=rx;cases y with
  |non=>cases ry;exact PySem.EqNone.eq_str_none (qO I q (by simp))
  |bl j=>cases ry;exact PySem.EqMixed.eq_str_bool (qO I q (by simp))
  |int j=>obtain ⟨t',rfl⟩:=ry;exact PySem.EqMixed.eq_str_int (qO I q (by simp))
  |str j=>obtain ⟨t',rfl⟩:=ry;exact eq_str (qO I q ET)
  |_=>exact absurd (show false=true from hs) aB
 |byt i =>
  obtain ⟨t,rfl⟩:=rx;cases y with
  |byt j=>obtain ⟨t',rfl⟩:=ry;exact PySem.W.eq_bytes (qO I q EV)
  |_=>exact absurd (show false=true from hs) aB
 |_=>cases y<;>exact absurd (show false=true from hs) aB
theorem ZF:qM X (compareOp .NotEq) YS:=by
 intro pins s σ H x y v u Q I rx ry h;obtain ⟨hs,q⟩:=h;cases x with
 |non =>
  cases rx;cases y with
  |non=>cases ry;exact PySem.EqNone.ne_none_none (qO I q (by simp))
  |bl j=>cases ry;exact PySem.EqNone.ne_none_bool (qO I q (by simp))
  |int j=>obtain ⟨t',rfl⟩:=ry;exact PySem.EqNone.ne_none_int (qO I q (by simp))
  |str j=>obtain ⟨t',rfl⟩:=ry;exact PySem.EqNone.ne_none_str (qO I q (by simp))
  |_=>exact absurd (show false=true from hs) aB
 |bl i =>
  cases rx;cases y with
  |non=>cases ry;exact PySem.EqNone.ne_bool_none (qO I q (by simp))
  |bl j=>cases ry;exact ne_bool (qO I q (bz not FI))
  |str j=>obtain ⟨t',rfl⟩:=ry;exact PySem.EqMixed.ne_bool_str (qO I q (by simp))
  |_=>exact absurd (show false=true from hs) aB
 |int i =>
  obtain ⟨t,rfl⟩:=rx;cases y with
  |non=>cases ry;exact PySem.EqNone.ne_int_none (qO I q (by simp))
  |int j=>obtain ⟨t',rfl⟩:=ry;exact ne_int (qO I q (bz not EU))
  |str j=>obtain ⟨t',rfl⟩:=ry;exact PySem.EqMixed.ne_int_str (qO I q (by simp))
  |_=>exact absurd (show false=true from hs) aB
 |str i =>
  obtain ⟨t,rfl⟩:=rx;cases y with
  |non=>cases ry;exact PySem.EqNone.ne_str_none (qO I q (by simp))
  |bl j=>cases ry;exact PySem.EqMixed.ne_str_bool (qO I q (by simp))
  |int j=>obtain ⟨t',rfl⟩:=ry;exact PySem.EqMixed.ne_str_int (qO I q (by simp))
  |str j=>obtain ⟨t',rfl⟩:=ry;exact ne_str (qO I q (bz not ET))
  |_=>exact absurd (show false=true from hs) aB
 |byt i =>
  obtain ⟨t,rfl⟩:=rx;cases y with
  |byt j=>obtain ⟨t',rfl⟩:=ry;exact PySem.W.ne_bytes (qO I q (bz not EV))
  |_=>exact absurd (show false=true from hs) aB
 |_=>cases y<;>exact absurd (show false=true from hs) aB
theorem ZG:qM X (compareOp .Lt) (bN fun i j=>.bl (decide (i<j))):=nH fun _ _ _ _ _ _ _ q=>lt_int q
theorem mV:qM X (compareOp .LtE) (bN fun i j=>.bl (decide (i<=j))):=nH fun _ _ _ _ _ _ _ q=>le_int q
theorem eR:qM X (compareOp .Gt) (bN fun i j=>.bl (decide (j<i))):=nH fun _ _ _ _ _ _ _ q=>gt_int q
theorem wO:qM X (compareOp .GtE) (bN fun i j=>.bl (decide (j<=i))):=nH fun _ _ _ _ _ _ _ q=>ge_int q
theorem RE:qM X (compareOp .In) (fun x y H Q=>∃i j,x=.str i/\y=.str j/\Q (.bl (!(Builtin.Str.occurrences j i 0 j.length 1).isEmpty)) H):=by
 intro pins s σ H x y v u Q I rx ry h;obtain ⟨i,j,rfl,rfl,q⟩:=h;obtain ⟨t,rfl⟩:=rx;obtain ⟨t',rfl⟩:=ry;exact in_str (qO I q rfl)
theorem V6:qM X (compareOp .Is) (fun x y H Q=>y=.non/\Q (.bl (decide (x=.non))) H):=by
 intro pins s σ H x y v u Q I rx ry h;obtain ⟨rfl,q⟩:=h;cases ry;refine is_none_gen (qO I q ?_);cases x<;>first
  | (cases rx;rfl)
  | (obtain ⟨t,rfl⟩:=rx;rfl)
theorem xY (b:Expr) {op:CmpOp} (h:op≠.In:=by decide) (h2:op≠.NotIn:=by decide):behindInMarks op b=false:=by
 have e1:(op == CmpOp.In)=false:=by cases op<;>first|rfl|exact absurd rfl h
 have e2:(op == CmpOp.NotIn)=false:=by cases op<;>first|rfl|exact absurd rfl h2
 cases b<;>simp [behindInMarks,e1,e2]
theorem UM {op:CmpOp} {r:R2} (ho:qM X (compareOp op) r) (ha:PE X a ta) (hb:PE X b tb) (hm:behindInMarks op b=false):PE X (.Compare a [op] [b] pos) (cX r ta tb):=by
 intro pins s σ H Q I h;exact wpAny_Compare1 (xC ha hb I h fun v u s2 x y H2 I2 rx ry q=>ho pins s2 σ H2 x y v u Q I2 rx ry q) hm
def FO (t:TE):TT:=fun σ H Q=>t σ H fun x H'=>∃k,x=.bl k/\Q k H'
theorem GY {op:CmpOp} {r:R2} (ho:qM X (compareOp op) r) (ha:PE X a ta) (hb:PE X b tb) (hm:behindInMarks op b=false):PT X (.Compare a [op] [b] pos) (FO (cX r ta tb)):=by
 intro pins s σ H Q I h;refine wpAny_isTrue_Compare1 (jW (ha pins s σ H _ I h) fun v s1 ⟨x,H1,I1,r1,q1⟩=>jW (hb pins s1 σ H1 _ I1 q1) fun u s2 ⟨y,H2,I2,r2,q2⟩ =>
  jW (ho pins s2 σ H2 x y v u _ I2 r1 r2 q2) fun c s3 ⟨z,H3,I3,r3,k,e,q3⟩=>?_) hm
 subst e;cases r3;exact fe ⟨H3,I3,q3⟩
def VQ (r r':R2) (ta tb tc:TE):TE:=fun σ H Q=>ta σ H fun x H1=>tb σ H1 fun y H2=>r x y H2 fun z H3=>∃k,z=.bl k/\
 (if k=true then tc σ H3 fun w' H4=>r' y w' H4 Q else Q (.bl false) H3)
theorem ST {op op':CmpOp} {r r':R2} (ho:qM X (compareOp op) r) (ho':qM X (compareOp op') r') (ha:PE X a ta) (hb:PE X b tb) (hc:PE X c tc)
  (hm:lastMarks [op,op'] [b,c]=false:=by with_unfolding_all rfl):PE X (.Compare a [op,op'] [b,c] pos) (VQ r r' ta tb tc):=by
 intro pins s σ H Q I h;refine Compare_chain (jW (ha pins s σ H _ I h) fun v s1 ⟨x,H1,I1,r1,q1⟩=>chain_link (jW (hb pins s1 σ H1 _ I1 q1) fun u s2 ⟨y,H2,I2,r2,q2⟩ =>
  jW (ho pins s2 σ H2 x y v u _ I2 r1 r2 q2) fun d s3 ⟨z,H3,I3,r3,k,e,q3⟩=>?_)) hm
 subst e;cases r3;refine fe ?_;cases k with
 |false=>exact ite_ff ⟨.bl false,H3,I3,rfl,q3⟩
 |true=>exact ite_tt (chain_last (jW (hc pins s3 σ H3 _ I3 q3) fun w' s4 ⟨z',H4,I4,r4,q4⟩=>ho' pins s4 σ H4 y z' u w' Q I4 r2 r4 q4))
def GN (K:PySem.W.Frag) (x:V) (H:Hp) (k:Bool):Prop :=
 match x with
 |.non=>k=false
 |.bl b=>k=b
 |.int i=>k=(i != 0)
 |.str y=>y.length<=sizeLine/\k=((y.length:Int) != 0)
 |.byt y=>y.size<=sizeLine/\k=((y.size:Int) != 0)
 |.ref p=>(∃xs,SqL K H p xs/\k = !xs.isEmpty)\/(∃xs,SqT K H p xs/\k = !xs.isEmpty)\/∃kvs,H p=some (.dK kvs)/\k = !kvs.isEmpty
 |_=>False
theorem PC {κ:Type} {kvs:List (κ×V)} {vs:List (κ×Value)} (r:KV kvs vs):(!vs.isEmpty) = !kvs.isEmpty:=by
 cases r<;>rfl
theorem BG {xs:List V} {its:List Value} (r:Vals xs its):(!its.toArray.isEmpty) = !xs.isEmpty:=by
 cases r<;>simp
theorem bC:(sizeLine:Nat)<2 ^ 63:=by rw [sizeLine_eq];decide
theorem VL:YG X (fun x H Q=>∃k,GN X.K x H k/\Q k H):=by
 intro pins s σ H x v Q I rx h;obtain ⟨k,e,q⟩:=h;have hl:=bC;have hs:sizeLine=16777216:=sizeLine_eq;cases x with
 |non =>
  cases rx;have e':k=false:=e;subst e';exact truthy_none ⟨H,I,q⟩
 |bl b =>
  cases rx;have e':k=b:=e;subst e';exact fe ⟨H,I,q⟩
 |int i =>
  obtain ⟨t,rfl⟩:=rx;have e':k=(i != 0):=e;subst e';exact PySem.P.truthy_int ⟨H,I,q⟩
 |str y =>
  obtain ⟨t,rfl⟩:=rx;obtain ⟨hy,e'⟩:y.length<=sizeLine/\k=((y.length:Int) != 0):=e;subst e';exact PySem.P.truthy_str (by lia) ⟨H,I.tok _,q⟩
 |byt y =>
  obtain ⟨t,rfl⟩:=rx;obtain ⟨hy,e'⟩:y.size<=sizeLine/\k=((y.size:Int) != 0):=e;subst e';exact PySem.W.truthy_bytes (by lia) ⟨H,I.tok _,q⟩
 |ref p =>
  cases rx;have e':(∃xs,SqL X.K H p xs/\k = !xs.isEmpty)\/(∃xs,SqT X.K H p xs/\k = !xs.isEmpty)\/∃kvs,H p=some (.dK kvs)/\k = !kvs.isEmpty:=e
  rcases e' with ⟨xs,hx,e'⟩|⟨xs,hx,e'⟩|⟨kvs,hx,e'⟩
  ·subst e';obtain ⟨its,r,pl,hz⟩:=I.list hx;have hlen:=r.length;exact wpAny_truthy_list pl.isList (by simp only [au];lia) ⟨H,I.tok _,by rw [BG r];exact q⟩
  ·subst e';obtain ⟨its,r,pl,hz⟩:=I.tuple hx;have hlen:=r.length;exact truthy_tuple pl (by simp only [au];lia) ⟨H,I.tok _,by rw [BG r];exact q⟩
  ·subst e';obtain ⟨hz,hS,vs,r,m⟩:kvs.length<=sizeLine/\(p == sysModules)=false/\∃vs,KV kvs vs/\s.heap.DictOf (zF X.prog X.w) p vs:=I.hok p _ hx;have hlen:kvs.length=vs.length:=Paired.length r;exact wpAny_truthy_dict hS m (by lia) ⟨H,I.tok _,by rw [PC r];exact q⟩
 |_=>exact (show False from e).elim
theorem DG (ha:PE X a ta) (he:∀whole,isTrue a X.env whole=(do let v <- whole;standAt a.pos;holding [v] (truthy v))) :
  PT X a (fun σ H Q=>ta σ H fun x H'=>∃k,GN X.K x H' k/\Q k H'):=by
 intro pins s σ H Q I h;exact isTrue_plain (jW (ha pins s σ H _ I h) fun v s1 ⟨x,H1,I1,r1,q1⟩=>VL pins s1 σ H1 x v Q I1 r1 q1) (he _)
theorem BC:qM X (binaryOp .Add) (fun x y H Q=>∃i j,x=.str i/\y=.str j/\i.length+j.length<=sizeLine/\Q (.str (i++j)) H):=by
 intro pins s σ H x y v u Q I rx ry h;obtain ⟨i,j,rfl,rfl,hz,q⟩:=h;obtain ⟨t,rfl⟩:=rx;obtain ⟨t',rfl⟩:=ry;exact add_str (fun t' tk=>⟨.str (i++j),H,I.tok _,⟨_,rfl⟩,q⟩) hz
theorem ZE {x:V} {us:List Value} (r:Vals [x] us):∃u,us=[u]/\RelV x u:=by
 cases r with
 |cons r1 r2=>cases r2;exact ⟨_,rfl,r1⟩
theorem mQ {x y:V} {us:List Value} (r:Vals [x,y] us):∃u w',us=[u,w']/\RelV x u/\RelV y w':=by
 cases r with
 |cons r1 r2 =>
  cases r2 with
  |cons r3 r4=>cases r4;exact ⟨_,_,rfl,r1,r3⟩
theorem SC (hc:X.calm=true):yA X (.builtin "max") (fun xs H Q=>∃i j,xs=[.int i,.int j]/\Q (.int (if j>i then j else i)) H):=by
 intro pins s σ H xs us Q I r h;obtain ⟨i,j,rfl,q⟩:=h;obtain ⟨u,w',rfl,⟨t,rfl⟩,⟨t',rfl⟩⟩:=mQ r;refine max_two_ints (I.ok.hd hc) fun h' tk k=>⟨_,H,I.kept k,?_,q⟩
 by_cases hj:j>i
 ·rw [if_pos hj,if_pos hj];exact ⟨_,rfl⟩
 ·rw [if_neg hj,if_neg hj];exact ⟨_,rfl⟩
theorem CI (hc:X.calm=true):yA X (.builtin "min") (fun xs H Q=>∃i j,xs=[.int i,.int j]/\Q (.int (if j<i then j else i)) H):=by
 intro pins s σ H xs us Q I r h;obtain ⟨i,j,rfl,q⟩:=h;obtain ⟨u,w',rfl,⟨t,rfl⟩,⟨t',rfl⟩⟩:=mQ r;refine min_two_ints (I.ok.hd hc) fun h' tk k=>⟨_,H,I.kept k,?_,q⟩
 by_cases hj:j<i
 ·rw [if_pos hj,if_pos hj];exact ⟨_,rfl⟩
 ·rw [if_neg hj,if_neg hj];exact ⟨_,rfl⟩
theorem CK:yA X (.type "int") (fun xs H Q=>(∃i,xs=[.int i]/\Q (.int i) H)\/∃k,xs=[.bl k]/\Q (.int (if k then 1 else 0)) H):=by
 intro pins s σ H xs us Q I r h
 rcases h with ⟨i,rfl,q⟩|⟨k,rfl,q⟩
 ·obtain ⟨u,rfl,t,rfl⟩:=ZE r;exact call_int_int ⟨.int i,H,I,⟨_,rfl⟩,q⟩
 ·obtain ⟨u,rfl,r1⟩:=ZE r;cases r1;exact call_int_bool ⟨.int (if k then 1 else 0),H,I.tok _,⟨_,rfl⟩,q⟩
end
structure ObjM (h:Heap) (x dx C:Addr) (mA:Str->Option Value):Prop where
 obj:h.get? x=some (PySem.W.instObj C dx)
 ns:h.Ns1 dx mA
 ne:dx≠x
theorem RL {h:Heap} {dx:Addr} {mA:Str->Option Value} (n:h.Ns1 dx mA):∃od,h.get? dx=some od/\∀name,PySem.W.lookIn name od=some (mA name):=by
 obtain ⟨o,es,ep,ho,hd,hk,_,hm⟩:=n;refine ⟨o,ho,fun name=>?_⟩;have e:=hm name;unfold nsFind findBy at e;rw [<- Array.find?_toList] at e;unfold PySem.W.lookIn;rw [hd]
 dsimp only
 split
 ·rename_i y q;rw [q] at e;exact bz some e
 ·rename_i q;rw [q] at e;have a:es.toList.any (·.refKey)=false:=by
   rw [List.any_eq_false];intro y hy;obtain ⟨z,t,hkey⟩:=hk y (Array.mem_toList_iff.mp hy);simp [DictEntry.refKey,hkey]
  have a':¬es.toList.any (·.refKey)=true:=by rw [a];exact aB
  rw [if_neg a'];exact bz some e
variable {C:Addr}
theorem ObjM.look {h:Heap} {x dx:Addr} {mA:Str->Option Value} (I:ObjM h x dx C mA):∃od,PySem.W.InstAt h x (PySem.W.instObj C dx) C (some od)/\∀name,PySem.W.lookIn name od=some (mA name) :=
 let ⟨od,ho,hl⟩:=RL I.ns
 ⟨od,⟨I.obj,rfl,rfl,ho⟩,hl⟩
section
variable {prog:Program} {w:World} {A:Around} {E:Value->Shared->Prop} {s:Shared} {K:PySem.W.Frag} {x dx C f:Addr} {mA:Str->Option Value} {name:Str} {v:Value}
theorem U3 {expr:Bool} {Q:Value->Shared->Prop} (X:K.In s.heap) (I:ObjM s.heap x dx C mA) (hg:PySem.W.plainGet K C name=true) (hh:PySem.W.hasDictIn K C=true)
  (ha:PySem.W.findIn K (.ref C) name=some none) (hv:mA name=some v) (hv':PySem.W.handedIn v=true) (h:Q v {s with toks:=s.toks+1}) :
  wpAny (model prog w) A (getAttr (.ref x) name expr) Q E s:=by
 obtain ⟨od,J,hl⟩:=I.look;exact PySem.W.get_value X J (PySem.W.plainGet_of hg).1 (PySem.W.findObj_own hh ha rfl (by rw [hl,hv])) hv' h
theorem S9 {pl:Sem Bool} {Q:Value×List Value->Shared->Prop} (X:K.In s.heap) (I:ObjM s.heap x dx C mA) (hg:PySem.W.plainGet K C name=true)
  (hf:PySem.W.findIn K (.ref C) name=some (some (.ref f))) (ht:PySem.W.isFn K (.ref f)=true) (hv:mA name=none) (h:Q (.ref f,[.ref x]) s) :
  wpAny (model prog w) A (getMethod (.ref x) name pl) Q E s:=by
 obtain ⟨od,J,hl⟩:=I.look;exact PySem.W.method_fn X J (PySem.W.plainGet_of hg).1 (PySem.W.plainGet_of hg).2 hf (gv.mp ht) (by show (PySem.W.lookIn name od).map (·.isSome)=some false;rw [hl,hv];rfl) h
theorem T9 {ns:List Str} {Q:Unit->Shared->Prop} (X:K.In s.heap) (I:ObjM s.heap x dx C mA)
  (hs:PySem.W.findIn K (.ref C) "__setattr__"=some (some (.builtin "object.__setattr__"))) (hp:PySem.W.plainOver K C=true) (ht:PySem.W.takerIn K C name=some none) (hh:PySem.W.hasDictIn K C=true)
  (hw:PySem.Within mA ns) (hsz:ns.length<=sizeLine)
  (h:∀h',ObjM h' x dx C (fun y=>if y=name then some v else mA y)->Heap.SameBut dx s.heap h'->Q () {s with heap:=h',toks:=s.toks+2}) :
  wpAny (model prog w) A (setAttr (.ref x) name v) Q E s:=by
 obtain ⟨od,J,hl⟩:=I.look;refine PySem.W.set_plain X J hs (PySem.W.osa_open (s:={s with toks:=s.toks+1}) (r:=none) X J hp ht fun b=>?_);obtain ⟨cd,hc,hd'⟩:=PySem.W.any_some hh;have hx:s.heap.get? x=some ⟨.ref C,some dx,.plain,#[]⟩:=I.obj;refine ae (aJ (ae (ae (wpAny_loadPart hx (ae (PySem.W.Looks.here (s:={s with toks:=s.toks+1}) (PySem.W.looks_clsIn X hc) ?_))))));rw [hd'];refine aJ (a:=some dx) (ae (aJ (ae ?_)));refine wpAny_nsSet1 (s:={s with toks:=s.toks+1}) I.ns fun h' hn2 hs2=>?_
 obtain ⟨oD,esD,epD,hoD,hdD,hcD⟩:=hn2.count (PySem.Within.cons name v hw);refine ae (wpAny_lookBehind hoD (by rw [hdD];exact pastItsLine_dict (aK hcD (by rw [aZ];lia))) ?_);exact aJ (h _ ⟨(hs2.2 _ (Ne.symm I.ne)).trans I.obj,hn2,I.ne⟩ hs2)
theorem S6 {R:Result->Shared->Prop} {vs:List Value} {kw:List (Str×Value)} (X:K.In s.heap) (hm:PySem.W.makesIn K C=true)
  (hi:PySem.W.findIn K (.ref C) "__init__"=some (some (.ref f))) (hf:PySem.W.typeIn K (.ref f)=some (.type "function"))
  (h:codeAny (model prog w) (A.under (.builtin "type.__call__" ⟨.ref C::vs,kw⟩)) (.call (.ref f) ⟨.ref (s.heap.objs.size+1)::vs,kw⟩) (PySem.W.InitBack (s.heap.objs.size+1) R)
   {s with heap:=(s.heap.push PySem.W.emptyDict).push (PySem.W.instObj C s.heap.objs.size)}) :
  codeAny (model prog w) A (.call (.ref C) ⟨vs,kw⟩) R s:=by
 obtain ⟨hh,g,d,t,os⟩:=s;exact PySem.W.make_core (PySem.W.makes_of X hm) (gq X hi) (fun self=>PySem.W.bind_fn X self hf) (.inl rfl) h
end
def jO (f:Str) (v:V):List (Str×V)->List (Str×V)
 |[]=>[(f,v)]
 | (g,x)::r=>if g=f then (g,v)::r else (g,x)::jO f v r
theorem vU (f g:Str) (v:V):∀fs:List (Str×V),(jO f v fs).lookup g=if g=f then some v else fs.lookup g
 |[]=>by
  show List.lookup g [(f,v)]=_
  by_cases h:g=f
  ·have hb:(g == f)=true:=gv.mpr h;simp only [List.lookup,hb,if_pos h]
  ·have hb:(g == f)=false:=da.mpr h;simp only [List.lookup,hb,if_neg h]
 | (k,x)::r=>by
  have ih:=vU f g v r;rw [show jO f v ((k,x)::r)=(if k=f then (k,v)::r else (k,x)::jO f v r) from rfl]
  by_cases hk:k=f
  ·rw [if_pos hk]
   by_cases h:g=k
   ·have hb:(g == k)=true:=gv.mpr h;simp only [List.lookup,hb,if_pos (h.trans hk)]
   ·have hb:(g == k)=false:=da.mpr h;simp only [List.lookup,hb,if_neg (fun e:g=f=>h (e.trans hk.symm))]
  ·rw [if_neg hk]
   by_cases h:g=k
   ·have hb:(g == k)=true:=gv.mpr h;simp only [List.lookup,hb,if_neg (fun e:g=f=>hk (h.symm.trans e))]
   ·have hb:(g == k)=false:=da.mpr h;simp only [List.lookup,hb];exact ih
theorem t5 (f:Str) (v:V):∀fs:List (Str×V),f∈(jO f v fs).map (·.1)/\∀g,g∈fs.map (·.1)->g∈(jO f v fs).map (·.1)
 |[]=>⟨by simp [jO],fun g h=>by simp at h⟩
 | (k,x)::r=>by
  obtain ⟨i1,i2⟩:=t5 f v r;rw [show jO f v ((k,x)::r)=(if k=f then (k,v)::r else (k,x)::jO f v r) from rfl]
  by_cases hk:k=f
  ·rw [if_pos hk];subst hk;exact ⟨by simp,fun g h=>by simpa using h⟩
  ·rw [if_neg hk];refine ⟨?_,fun g h=>?_⟩
   ·rw [fj];exact aI _ i1
   ·rw [fj] at h ⊢
    rcases ao.mp h with e|e
    ·exact ao.mpr (.inl e)
    ·exact aI _ (i2 g e)
theorem zO (f:Str) (v:V):∀fs:List (Str×V),(jO f v fs).length<=fs.length+1
 |[]=>by simp [jO]
 | (k,x)::r=>by
  have ih:=zO f v r;rw [show jO f v ((k,x)::r)=(if k=f then (k,v)::r else (k,x)::jO f v r) from rfl]
  by_cases hk:k=f
  ·rw [if_pos hk,aZ,aZ];lia
  ·rw [if_neg hk,aZ,aZ];lia
theorem RelO.some_of {v:V} {o:Option Value} (r:RelO (some v) o):∃u,o=some u/\RelV v u:=by
 cases o with
 |none=>exact (show False from r).elim
 |some u=>exact ⟨u,rfl,r⟩
theorem RelO.none_of {o:Option Value} (r:RelO none o):o=none:=by
 cases o with
 |none=>rfl
 |some u=>exact (show False from r).elim
theorem RV {v:V} {u:Value} (r:RelV v u):PySem.W.handedIn u=true:=by
 cases v with
 |non=>cases (show u=Value.none from r);rfl
 |bl b=>cases (show u=Value.bool b from r);rfl
 |int i=>obtain ⟨t,e⟩:=(show ∃t,u=Value.int i t from r);cases e;rfl
 |str x=>obtain ⟨t,e⟩:=(show ∃t,u=Value.str x t from r);cases e;rfl
 |byt b=>obtain ⟨t,e⟩:=(show ∃t,u=Value.bytes b t from r);cases e;rfl
 |flt b=>obtain ⟨t,e⟩:=(show ∃t,u=Value.float b t from r);cases e;rfl
 |ref a=>cases (show u=Value.ref a from r);rfl
 |ty n=>cases (show u=Value.type n from r);rfl
section
variable {P:Program} {w:World} {H H':Hp} {h h':Heap} {a C dx:Addr} {fs fs':List (Str×V)}
theorem mF (hok:HOk P w H h) (e:H a=some (.ins C dx fs)):∃mA,ObjM h a dx C mA/\(∀f,RelO (fs.lookup f) (mA f))/\PySem.Within mA (fs.map (·.1))/\fs.length<=1000/\H dx=some (.own a):=by
 obtain ⟨d,z,ne,ob,mA,n,r,q⟩:=(show ObjOk P w H h a (.ins C dx fs) from hok a _ e);exact ⟨mA,⟨ob,n,ne⟩,r,q,z,d⟩
end
structure Cls (K:PySem.W.Frag) (C:Addr):Prop where
 pg:PySem.W.plainGet K C Str.empty=true
 hd:PySem.W.hasDictIn K C=true
 po:PySem.W.plainOver K C=true
 sa:PySem.W.findIn K (.ref C) "__setattr__"=some (some (.builtin "object.__setattr__"))
theorem Cls.get {K:PySem.W.Frag} (c:Cls K C) (f:Str):PySem.W.plainGet K C f=true:=c.pg
def NoAttr (K:PySem.W.Frag) (C:Addr) (f:Str):Prop:=PySem.W.findIn K (.ref C) f=some none
theorem NoAttr.taker {K:PySem.W.Frag} {f:Str} (n:NoAttr K C f):PySem.W.takerIn K C f=some none:=by
 unfold PySem.W.takerIn;rw [show PySem.W.findIn K (.ref C) f=some none from n];rfl
structure Meth (K:PySem.W.Frag) (C:Addr) (m:Str) (f:Addr):Prop where
 at_:PySem.W.findIn K (.ref C) m=some (some (.ref f))
 fn:PySem.W.isFn K (.ref f)=true
 kp:PySem.W.keepIn K (.ref f)=true
section
variable {X:Cx} {pins:List (Addr×Obj)} {σ:St} {H:Hp} {s:Shared} {a C dx:Addr} {fs:List (Str×V)} {f:Str} {v:V} {A:Around} {E:Value->Shared->Prop}
theorem PH {b:Bool} {Q:Value->Shared->Prop} (I:Inv X pins σ H s) (e:H a=some (.ins C dx fs)) (c:Cls X.K C) (n:NoAttr X.K C f) (l:fs.lookup f=some v)
  (h:∀u s',Inv X pins σ H s'->RelV v u->Q u s'):wpAny (model X.prog X.w) A (getAttr (.ref a) f b) Q E s:=by
 obtain ⟨mA,O,r,_,_,_⟩:=mF I.hok e;obtain ⟨u,hu,ru⟩:=RelO.some_of (v:=v) (o:=mA f) (by rw [<- l];exact r f);exact U3 I.kIn O (c.get f) c.hd n hu (RV ru) (h u _ (I.tok _) ru)
theorem lM {m:Str} {g:Addr} {pl:Sem Bool} {Q:Value×List Value->Shared->Prop} (I:Inv X pins σ H s) (e:H a=some (.ins C dx fs)) (c:Cls X.K C) (k:Meth X.K C m g) (l:fs.lookup m=none)
  (h:Q (.ref g,[.ref a]) s):wpAny (model X.prog X.w) A (getMethod (.ref a) m pl) Q E s:=by
 obtain ⟨mA,O,r,_,_,_⟩:=mF I.hok e;have hn:mA m=none:=RelO.none_of (by rw [<- l];exact r m);exact S9 I.kIn O (c.get m) k.at_ k.fn hn h
theorem OR {y:V} {u:Value} {Q:Unit->Shared->Prop} (I:Inv X pins σ H s) (e:H a=some (.ins C dx fs)) (c:Cls X.K C) (n:NoAttr X.K C f) (hl:fs.length<1000) (ry:RelV y u)
  (h:∀s',Inv X pins σ (upd H a (.ins C dx (jO f y fs))) s'->Q () s'):wpAny (model X.prog X.w) A (setAttr (.ref a) f u) Q E s:=by
 obtain ⟨mA,O,r,wi,_,ho⟩:=mF I.hok e;have hz:(fs.map (·.1)).length<=sizeLine:=by rw [ac,sizeLine_eq];lia
 refine T9 I.kIn O c.sa c.po n.taker c.hd wi hz fun h' O' sb=>h _ ?_
 have hd:∃o,h'.get? dx=some o:=let ⟨o,_,_,e',_⟩:=O'.ns;⟨o,e'⟩
 refine I.write (x:=a) (e:=dx) (by rw [e];exact True.intro) (.inr ho) (fun b q hb z=>(sb.2 b hb).trans z) hd ?_;refine ⟨by rw [jP O.ne];exact ho,?_,O.ne,O'.obj,_,O'.ns,fun g=>?_,fun g hg=>?_⟩
 ·have:=zO f y fs;lia
 ·show RelO ((jO f y fs).lookup g) (if g=f then some u else mA g);rw [vU]
  by_cases q:g=f
  ·rw [if_pos q,if_pos q];exact ry
  ·rw [if_neg q,if_neg q];exact r g
 ·by_cases q:g=f
  ·rw [q];exact (t5 f y fs).1
  ·refine (t5 f y fs).2 g (wi g fun z=>hg ?_);show (if g=f then some u else mA g)=none;rw [if_neg q];exact z
theorem Inv.made (I:Inv X pins σ H s):Inv X pins σ (upd (upd H s.heap.objs.size (.own (s.heap.objs.size+1))) (s.heap.objs.size+1) (.ins C s.heap.objs.size []))
  {s with heap:=(s.heap.push PySem.W.emptyDict).push (PySem.W.instObj C s.heap.objs.size)}:=by
 have e1:(s.heap.push PySem.W.emptyDict).get? s.heap.objs.size=some PySem.W.emptyDict:=aq s.heap rfl;have e2:((s.heap.push PySem.W.emptyDict).push (PySem.W.instObj C s.heap.objs.size)).get? (s.heap.objs.size+1)=some (PySem.W.instObj C s.heap.objs.size):=by
  have:=aq (s.heap.push PySem.W.emptyDict) (o:=PySem.W.instObj C s.heap.objs.size) rfl
  rwa [cb] at this
 have e3:(s.heap.push PySem.W.emptyDict).Ns s.heap.objs.size (fun _=>none):=⟨PySem.W.emptyDict,#[],_,e1,rfl,(fun e he=>absurd he (by simp)),fun _=>rfl⟩;have I1:=I.laid (a:=s.heap.objs.size) (o:=.own (s.heap.objs.size+1)) (h':=s.heap.push PySem.W.emptyDict) (t':=s.toks) (fun b u q=>ai _ q) (aj _) ⟨_,e1⟩;refine I1.laid (a:=s.heap.objs.size+1) (o:=.ins C s.heap.objs.size []) (t':=s.toks) (fun b u q=>ai _ q) (Nat.le_of_eq (cb _ _)) ?_;have ne:s.heap.objs.size≠s.heap.objs.size+1:=aM (ik _);refine ⟨by rw [jP ne,jF],aL _,ne,e2,fun _=>none,(Heap.Ns1.of_empty e3).at fun o q=>ai _ q,fun _=>True.intro,fun y hy=>absurd rfl hy⟩
theorem VD {prog:Program} {w:World} {env:Env} {e:Expr} {f:Str} {pos:Pos} {s:Shared} {Q:Value->Shared->Prop} (hb:attributeBase e f env (eval e env)=eval e env)
  (h:wpAny (model prog w) A (eval e env) (fun o s₁=>wpAny (model prog w) A (getAttr o f true) Q E s₁) E s):wpAny (model prog w) A (eval (.Attribute e f pos) env) Q E s :=
 Attribute_any_ h (by rw [arm_eval_Attribute,hb])
end
def GD (K:PySem.W.Frag) (ta:TE) (f:Str):TE:=fun σ H Q=>ta σ H fun x H1=>∃a C dx fs v,x=.ref a/\H1 a=some (.ins C dx fs)/\Cls K C/\NoAttr K C f/\fs.lookup f=some v/\Q v H1
def X0 (K:PySem.W.Frag) (ta tv:TE) (f:Str):TS:=fun D σ H=>tv σ H fun y H1=>ta σ H1 fun x H2=>∃a C dx fs,x=.ref a/\H2 a=some (.ins C dx fs)/\Cls K C/\NoAttr K C f/\fs.length<1000/\
 D.nx σ (upd H2 a (.ins C dx (jO f y fs)))
section
variable {X:Cx} {o e value:Expr} {f:Str} {pos pos' tpos:Pos} {ta tv:TE}
theorem HB (he:PE X e ta) (hb:attributeBase e f X.env (eval e X.env)=eval e X.env):PE X (.Attribute e f pos) (GD X.K ta f):=by
 intro pins s σ H Q I h;refine VD hb (jW (he pins s σ H _ I h) fun u s1 ⟨x,H1,I1,rx,a,C,dx,fs,v,ex,ea,c,n,l,q⟩=>?_);subst ex;obtain rfl:u=Value.ref a:=rx;exact PH I1 ea c n l fun u' s2 I2 ru=>⟨v,H1,I2,ru,q⟩
theorem vI (ha:PE X o ta) (hv:PE X value tv) (hs:swapsWith value (some (.Attribute o f pos')) pos.line X.env=pure false):PS X (.Assign [.Attribute o f pos'] value pos) (X0 X.K ta tv f):=by
 intro pins s σ H D I h;refine plainObj_wpAny_Assign_Attribute (jW (hv pins s σ H _ I h) fun u s1 ⟨y,H1,I1,ry,q⟩=>jW (ha pins s1 σ H1 _ I1 q) fun ov s2 ⟨x,H2,I2,rx,a,C,dx,fs,ex,ea,c,n,l,q2⟩=>?_) hs;subst ex;obtain rfl:ov=Value.ref a:=rx;exact OR I2 ea c n l ry fun s3 I3=>⟨σ,_,I3,q2⟩
end
section
variable {X:Cx} {pins:List (Addr×Obj)} {σ:St} {H:Hp} {s:Shared} {A:Around} {E:Value->Shared->Prop} {Q:Value->Shared->Prop} {c:Value} {b:Bool}
inductive TyOf (K:PySem.W.Frag) (H:Hp):V->Value->Prop where
 |non:TyOf K H .non (.type "NoneType")
 |bl (x:Bool):TyOf K H (.bl x) (.type "bool")
 |int (i:Int):TyOf K H (.int i) (.type "int")
 |str (x:Str):TyOf K H (.str x) (.type "str")
 |flt (x:UInt64):TyOf K H (.flt x) (.type "float")
 |lst {a:Addr} {xs:List V} (e:H a=some (.lst xs)):TyOf K H (.ref a) (.type "list")
 |frz {a:Addr} {o:Obj} {xs:List V} (e:H a=some (.frz o (.lst xs))):TyOf K H (.ref a) (.type "list")
 |tup {a:Addr} {xs:List V} (e:H a=some (.tup xs)):TyOf K H (.ref a) (.type "tuple")
 |dK {a:Addr} {kvs:List (kC×V)} (e:H a=some (.dK kvs)):TyOf K H (.ref a) (.type "dict")
 |dT {a:Addr} {kvs:List (List kC×V)} (e:H a=some (.dT kvs)):TyOf K H (.ref a) (.type "dict")
 |ins {a C dx:Addr} {fs:List (Str×V)} (e:H a=some (.ins C dx fs)) (cl:Cls K C) (ha:PySem.W.findIn K (.ref C) "__class__"=some (some (.builtin "object.__class__")))
   (hn:PySem.W.specialIn K (.builtin "object.__class__") "__get__"=some (some (.builtin "getset_descriptor.__get__"))) (htk:PySem.W.takesIn K (.builtin "object.__class__")=some true)
   (hm:PySem.W.mroIn K C (.type "object")=some true):TyOf K H (.ref a) (.ref C)
theorem RQ {x:V} {u t:Value} (I:Inv X pins σ H s) (rx:RelV x u) (ty:TyOf X.K H x t) (e:PySem.W.kitOne X.K t c=some b) (h:∀tk,Q (.bool b) {s with toks:=tk}) :
  wpAny (model X.prog X.w) A (call (.builtin "isinstance") [u,c]) Q E s:=by
 cases ty with
 |non=>cases (show u=Value.none from rx);exact ci PySem.W.kitx_none I.kIn True.intro e (fun z=>nomatch z) h
 |bl y=>cases (show u=Value.bool y from rx);exact ci PySem.W.kitx_bool I.kIn True.intro e (fun z=>nomatch z) h
 |int i=>obtain ⟨t,q⟩:=(show ∃t,u=Value.int i t from rx);cases q;exact ci PySem.W.kitx_int I.kIn True.intro e (fun z=>nomatch z) h
 |str y=>obtain ⟨t,q⟩:=(show ∃t,u=Value.str y t from rx);cases q;exact ci PySem.W.kitx_str I.kIn True.intro e (fun z=>nomatch z) h
 |flt y=>obtain ⟨t,q⟩:=(show ∃t,u=Value.float y t from rx);cases q;exact ci PySem.W.kitx_float I.kIn True.intro e (fun z=>nomatch z) h
 |@lst a xs ea =>
  cases (show u=Value.ref a from rx);obtain ⟨_,_,n,_,h1⟩:=(show ObjOk X.prog X.w H s.heap a (.lst xs) from I.hok a _ ea);exact ci PySem.W.kitx_list I.kIn ⟨_,h1,rfl⟩ e (fun z=>nomatch z) h
 |@frz a ob xs ea =>
  cases (show u=Value.ref a from rx);obtain ⟨_,_,_,n,_,h1⟩:=(show ObjOk X.prog X.w H s.heap a (.frz ob (.lst xs)) from I.hok a _ ea);exact ci PySem.W.kitx_list I.kIn ⟨_,h1,rfl⟩ e (fun z=>nomatch z) h
 |@tup a xs ea =>
  cases (show u=Value.ref a from rx);obtain ⟨_,_,_,p⟩:=(show ObjOk X.prog X.w H s.heap a (.tup xs) from I.hok a _ ea);obtain ⟨o,h1,h2,_⟩:=p;exact ci PySem.W.kitx_tuple I.kIn ⟨o,h1,h2⟩ e (fun z=>nomatch z) h
 |@dK a kvs ea =>
  cases (show u=Value.ref a from rx);obtain ⟨_,_,vs,_,p⟩:=(show ObjOk X.prog X.w H s.heap a (.dK kvs) from I.hok a _ ea);obtain ⟨o,es,ep,h1,h2,_⟩:=p;exact ci PySem.W.kitx_dict I.kIn ⟨o,h1,h2.1⟩ e (fun z=>nomatch z) h
 |@dT a kvs ea =>
  cases (show u=Value.ref a from rx);obtain ⟨_,_,xs,_,o,es,ep,h1,h2,_⟩:=(show ObjOk X.prog X.w H s.heap a (.dT kvs) from I.hok a _ ea);exact ci PySem.W.kitx_dict I.kIn ⟨o,h1,h2.1⟩ e (fun z=>nomatch z) h
 |@ins a C dx fs ea cl ha hn htk hm =>
  cases (show u=Value.ref a from rx);obtain ⟨mA,O,_⟩:=mF I.hok ea;obtain ⟨od,J,_⟩:=O.look;exact ci (PySem.W.kitx_own (cl.get _) cl.hd ha hn htk hm) I.kIn J e (fun z=>nomatch z) h
end
end L2
namespace L2
open PySem PySem.Spec PyProof.Rows
structure Room (k:Nat) (A:Around):Prop where
 hd:A.handled=none
 dp:A.depth+3*k+5<recursionLimit
 un:A.units+16*k+200<cLine
variable {k:Nat} {A:Around}
theorem Room.mono {j:Nat} (r:Room k A) (h:j<=k):Room j A:=⟨r.hd,by have:=r.dp;lia,by have:=r.un;lia⟩
theorem Room.deeper (r:Room (k+1) A) (env:Env):Room k (A.deeper env) :=
 ⟨r.hd,by have:=r.dp;show A.depth+1+3*k+5<_;lia,by have:=r.un;show A.units+3+16*k+200<_;lia⟩
variable {us:List Value}
theorem O8 {C:Addr} {kw:List (Str×Value)}:(A.under (.builtin "type.__call__" ⟨.ref C::us,kw⟩)).depth=A.depth+1:=by
 first|rfl|simp [Around.under,Code.weight,Code.isCreation,Code.isGuard,Code.isCaller,Code.frames,Code.isFrame,guardIds]
theorem O7 {C:Addr} {kw:List (Str×Value)}:(A.under (.builtin "type.__call__" ⟨.ref C::us,kw⟩)).units=A.units+1:=by
 first|rfl|simp [Around.under,Code.cUnits,Code.frames,Code.isFrame]
theorem Room.make (r:Room (k+1) A) (C:Addr) (us:List Value) (kw:List (Str×Value)):Room k (A.under (.builtin "type.__call__" ⟨.ref C::us,kw⟩)) :=
 ⟨r.hd,by have:=r.dp;rw [O8];lia,by have:=r.un;rw [O7];lia⟩
theorem Room.depth (r:Room k A):A.depth<recursionLimit:=by have:=r.dp;lia
theorem Room.units (r:Room k A):A.units+64<cLine:=by have:=r.un;lia
theorem Room.units0 (r:Room k A):A.units<cLine:=by have:=r.un;lia
def bK:TA:=fun _ H Q=>Q [] H
def vW (ta:TE) (tr:TA):TA:=fun σ H Q=>ta σ H fun x H1=>tr σ H1 fun xs H2=>Q (x::xs) H2
section
variable {X:Cx} {e:Expr} {es:List Expr} {te:TE} {t:TA} {pos:Pos}
theorem jD:PA X [] bK:=fun _ _ _ _ H Q I h=>Calls.spliced_nil ⟨[],H,I,.nil,h⟩
theorem jB (ha:PE X e te) (hr:PA X es t) (hs:starEach (e::es) X.env=(false,eval e X.env)::starEach es X.env:=by rfl):PA X (e::es) (vW te t):=by
 intro pos pins s σ H Q I h;rw [hs];show wpAny _ _ (spliced ((false,eval e X.env)::backTo pos (starEach es X.env))) _ _ s;refine Calls.spliced_cons (jW (ha pins s σ H _ I h) fun u s1 ⟨x,H1,I1,r1,q1⟩=>?_);exact jW (hr pos pins s1 σ H1 _ I1 q1) fun us s2 ⟨xs,H2,I2,r2,q2⟩=>⟨x::xs,H2,I2,.cons r1 r2,q2⟩
def XQ (t:TA):TE:=fun σ H Q=>t σ H fun xs H1=>xs.length<=sizeLine/\∀p,H1 p=none->Q (.ref p) (upd H1 p (.tup xs))
def XU (t:TA):TE:=fun σ H Q=>t σ H fun xs H1=>xs.length<=sizeLine/\∀p,H1 p=none->Q (.ref p) (upd H1 p (.lst xs))
theorem kR {x1} (h:PA X es t):PE X (.Tuple es x1 pos) (XQ t):=by
 intro pins s σ H Q I hq;refine wpAny_Tuple_spliced (jW (h pos pins s σ H _ I hq) fun us s1 ⟨xs,H1,I1,r,z,q⟩=>⟨by rw [<- r.length];exact z,?_⟩);have hf:H1 s1.heap.objs.size=none:=I1.hok.fresh (aj _);refine ⟨.ref s1.heap.objs.size,upd H1 s1.heap.objs.size (.tup xs),I1.laid (t':=s1.toks) (fun b u e=>ai _ e) (aj _) ?_,rfl,q _ hf⟩;exact ⟨z,us,r,⟨_,aq _ rfl,rfl,_,rfl⟩⟩
theorem kU (h:PA X es t):PE X (.List es pos) (XU t):=by
 intro pins s σ H Q I hq;refine wpAny_List_spliced (jW (h pos pins s σ H _ I hq) fun us s1 ⟨xs,H1,I1,r,z,q⟩=>⟨by rw [<- r.length];exact z,?_⟩);have hf:H1 s1.heap.objs.size=none:=I1.hok.fresh (aj _);refine ⟨.ref s1.heap.objs.size,upd H1 s1.heap.objs.size (.lst xs),I1.laid (t':=s1.toks) (fun b u e=>ai _ e) (aj _) ?_,rfl,q _ hf⟩;exact ⟨z,us,0,r,aq _ rfl⟩
end
abbrev Sp:=List V->Hp->VK->XK->Prop
abbrev yL:=List Env->Hp->Shared->XK->Value->Shared->Prop
structure Env0 (P:Program) (w:World) (K:PySem.W.Frag) (mg:Str->Option Value) (base:Heap) (A:Around) (outer:List Env) (s:Shared) (H:Hp):Prop where
 frames:A.frames=some outer
 mod:Mod K mg base
 bs:∀b o,base.get? b=some o->s.heap.get? b=some o/\H b=none
 bsz:base.objs.size<=s.heap.objs.size
 funs:s.heap.FunFrames base outer
 frf:∀b∈kM outer,H b=none
 hok:HOk P w H s.heap
 bare:AllBare s.gens
def CE (outer:List Env) (P:Program) (w:World) (H:Hp) (s:Shared) (Q:VK) (u:Value) (s':Shared):Prop :=
 ∃v H',s'.os=s.os/\AllBare s'.gens/\Un (kM outer) [] H H' s.heap s'.heap/\HOk P w H' s'.heap/\RelV v u/\Q v H'
def CR (CX:yL) (outer:List Env) (P:Program) (w:World) (H:Hp) (s:Shared) (Q:VK) (E:XK) (r:Result) (s':Shared):Prop :=
 match r with
 |.ok (.ret u)=>CE outer P w H s Q u s'
 |.ok _=>False
 |.error e=>CX outer H s E e s'
structure FnOk (P:Program) (w:World) (K:PySem.W.Frag) (mg:Str->Option Value) (base:Heap) (CX:yL) (k:Nat) (f:Addr) (fd:FuncData) (ps:List Str) (sp:Sp):Prop where
 len:∀vs H Q E,sp vs H Q E->vs.length=ps.length
 run:∀(A:Around) (outer:List Env) (s:Shared) (H:Hp) (args:Args) (us:List Value) (vs:List V) (Q:VK) (E:XK),Room k A->Env0 P w K mg base A outer s H->BindsTo s fd args (ps.zip us)->Vals vs us->sp vs H Q E->
  codeAny (model P w) A (.call (.ref f) args) (CR CX outer P w H s Q E) s
variable {P:Program} {w:World} {K:PySem.W.Frag} {mg:Str->Option Value} {base:Heap} {CX:yL} {f:Addr} {ps:List Str}
theorem FnOk.imp {fd:FuncData} {sp sp':Sp} (F:FnOk P w K mg base CX k f fd ps sp)
  (h:∀vs H Q E,sp' vs H Q E->sp vs H Q E):FnOk P w K mg base CX k f fd ps sp' :=
 ⟨fun vs H Q E q=>F.len vs H Q E (h _ _ _ _ q),fun A outer s H args us vs Q E hr he hb hv hs=>F.run A outer s H args us vs Q E hr he hb hv (h _ _ _ _ hs)⟩
theorem Env0.make {outer:List Env} {s:Shared} {H:Hp} (e:Env0 P w K mg base A outer s H) (C:Addr) (us:List Value) (kw:List (Str×Value)) :
  Env0 P w K mg base (A.under (.builtin "type.__call__" ⟨.ref C::us,kw⟩)) outer s H:=⟨by first|exact e.frames|(simpa [Around.under,Code.envs,Code.isFrame,pushEnvs] using e.frames),e.mod,e.bs,e.bsz,e.funs,e.frf,e.hok,e.bare⟩
section
variable {X:Cx} {pins:List (Addr×Obj)} {σ:St} {H:Hp} {s s':Shared}
theorem Inv.env0 (I:Inv X pins σ H s):Env0 X.prog X.w X.K X.mg X.base X.A X.stack s H :=
 ⟨I.ok.frames,I.ok.mod,I.bs,aK I.ok.bsz I.sz,I.stack,I.stkFree,I.hok,I.bare⟩
theorem Inv.after {Q:VK} {u:Value} (I:Inv X pins σ H s) (h:CE X.stack X.prog X.w H s Q u s'):EP X pins σ Q u s':=by
 obtain ⟨v,H',os,bare,un,hok,r,q⟩:=h;obtain ⟨hh,g,d,t,os'⟩:=s';obtain rfl:os'=s.os:=os;exact ⟨v,H',I.call (h':=hh) (g':=g) (d':=d) (t':=t) (ch:=[]) un hok bare (fun b z=>absurd z (by simp)),r,q⟩
end
def wM (sp:Sp) (dvs:List V) (E:XK) (t:TA):TE:=fun σ H Q=>t σ H fun vs H1=>sp (vs++dvs) H1 Q E
def mR (C:Addr) (m:Str) (sp:Sp) (dvs:List V) (E:XK) (ta:TE) (t:TA):TE:=fun σ H Q=>ta σ H fun x H1=>∃a dx fs,x=.ref a/\H1 a=some (.ins C dx fs)/\fs.lookup m=none/\
 t σ H1 fun vs H2=>sp (x::(vs++dvs)) H2 Q E
def FP (C:Addr) (sp:Sp) (dvs:List V) (E:XK) (t:TA):TE:=fun σ H Q=>t σ H fun vs H1=>∀x dx,H1 x=none->H1 dx=none->dx≠x->
 sp (.ref x::(vs++dvs)) (upd (upd H1 dx (.own x)) x (.ins C dx [])) (fun v H2=>v=.non/\Q (.ref x) H2) E
def Binds (K:PySem.W.Frag) (fd:FuncData) (ps:List Str) (ds:List Value):Prop :=
 ∀(s:Shared) (us:List Value),K.In s.heap->(us++ds).length=ps.length->BindsTo s fd ⟨us,[]⟩ (ps.zip (us++ds))
theorem Binds.all {fd:FuncData} (h:∀us:List Value,us.length=ps.length->bindArgs fd ⟨us,[]⟩=pure (ps.zip us)):Binds K fd ps []:=fun s us _ hl=>by
 rw [bb] at hl ⊢;exact .of_eq (h us hl)
def b7 (CX:yL) (X:Cx) (E:XK):Prop:=∀(pins:List (Addr×Obj)) (σ:St) (H:Hp) (s:Shared) (e:Value) (s':Shared),Inv X pins σ H s->CX X.stack H s E e s'->X.xe e s'
section
variable {X:Cx} {CX:yL} {k:Nat} {f C:Addr} {fd:FuncData} {ps:List Str} {sp:Sp} {dvs:List V} {ds:List Value} {E:XK} {x m:Str} {p pos apos:Pos} {e o:Expr} {es:List Expr} {ta:TE} {t:TA}
theorem gG {pins:List (Addr×Obj)} {σ:St} {H:Hp} {s:Shared} {Q:VK} {us:List Value} {vs:List V} (F:FnOk X.prog X.w X.K X.mg X.base CX k f fd ps sp) (hr:Room k X.A) (hb:Binds X.K fd ps ds) (hd:Vals dvs ds) (hx:b7 CX X E)
  (I:Inv X pins σ H s) (r:Vals vs us) (h:sp (vs++dvs) H Q E):wpAny (model X.prog X.w) X.A (call (.ref f) us) (EP X pins σ Q) X.xe s:=by
 have r2:Vals (vs++dvs) (us++ds):=r.append hd;have hl:(us++ds).length=ps.length:=by rw [<- r2.length];exact F.len _ _ _ _ h
 refine wpAny_call (ka (F.run X.A X.stack s H ⟨us,[]⟩ (us++ds) (vs++dvs) Q E hr I.env0 (hb s us I.kIn hl) r2 h) fun r s' hq=>?_);cases r with
 |error e=>exact hx pins σ H s e s' I hq
 |ok fl =>
  cases fl with
  |ret u=>exact I.after hq
  |next=>exact False.elim hq
  |brk=>exact False.elim hq
  |cont=>exact False.elim hq
theorem UN (F:FnOk X.prog X.w X.K X.mg X.base CX k f fd ps sp) (hr:Room k X.A) (hg:Gl X x) (hm:X.mg x=some (.ref f)) (hk:PySem.W.keepIn X.K (.ref f)=true) (hb:Binds X.K fd ps ds) (hd:Vals dvs ds) (hx:b7 CX X E)
  (ha:PA X (e::es) t) (hdb:(x == ("__debug__":Str))=false:=by decide) (he:starEach (e::es) X.env=(false,eval e X.env)::starEach es X.env:=by rfl) (hpl:(backTo pos (starEach es X.env)).any (·.1)=false:=by rfl) :
  PE X (.Call (.Name x p) (e::es) [] pos) (wM sp dvs E t):=by
 intro pins s σ H Q I h;refine gc (bX I hg hm ?_ hdb);refine dk (h₀:=X.base) I.ok.mod.kin hk (jW (ha pos pins s σ H _ I h) fun us s1 ⟨vs,H1,I1,r,q⟩=>⟨I1.kIn,?_⟩) he hpl;exact gG F hr hb hd hx I1 r q
theorem UK {pl:Sem Bool} (he:PE X o ta) (c:Cls X.K C) (hm:Meth X.K C m f) (F:FnOk X.prog X.w X.K X.mg X.base CX k f fd ps sp) (hr:Room k X.A) (hb:Binds X.K fd ps ds) (hd:Vals dvs ds) (hx:b7 CX X E) (ha:PA X (e::es) t)
  (hst:starEach (e::es) X.env=(false,eval e X.env)::starEach es X.env:=by rfl) (hpl:(backTo pos (starEach es X.env)).any (·.1)=false:=by rfl)
  (ht:eval (.Call (.Attribute o m apos) (e::es) [] pos) X.env=(do
   let ov <- eval o X.env
   standAt apos.atName
   let (f,first) <- holding [ov] (getMethod ov m pl)
   callWith pos f first (backTo pos (starEach (e::es) X.env)) (backToKw pos (keywordEach [] X.env))):=by rfl) :
  PE X (.Call (.Attribute o m apos) (e::es) [] pos) (mR C m sp dvs E ta t):=by
 intro pins s σ H Q I h;refine er (pl:=pl) (jW (he pins s σ H _ I h) fun u s1 ⟨x,H1,I1,rx,a,dx,fs,ex,ea,l,q⟩=>?_) ht;subst ex;obtain rfl:u=Value.ref a:=rx;refine lM I1 ea c hm l ?_;refine dk (first:=[.ref a]) (h₀:=X.base) I.ok.mod.kin hm.kp (jW (ha pos pins s1 σ H1 _ I1 q) fun us s2 ⟨vs,H2,I2,r,q2⟩=>⟨I2.kIn,?_⟩) hst hpl;exact gG (us:=.ref a::us) (vs:=.ref a::vs) F hr hb hd hx I2 (.cons rfl r) q2
theorem SR {pl:Sem Bool} (he:PE X o ta) (c:Cls X.K C) (hm:Meth X.K C m f) (F:FnOk X.prog X.w X.K X.mg X.base CX k f fd ps sp) (hr:Room k X.A) (hb:Binds X.K fd ps ds) (hd:Vals dvs ds) (hx:b7 CX X E)
  (ht:eval (.Call (.Attribute o m apos) [] [] pos) X.env=(do
   let ov <- eval o X.env
   standAt apos.atName
   let (f,first) <- holding [ov] (getMethod ov m pl)
   callWith pos f first (backTo pos (starEach [] X.env)) (backToKw pos (keywordEach [] X.env))):=by rfl) :
  PE X (.Call (.Attribute o m apos) [] [] pos) (mR C m sp dvs E ta bK):=by
 intro pins s σ H Q I h;refine er (pl:=pl) (jW (he pins s σ H _ I h) fun u s1 ⟨x,H1,I1,rx,a,dx,fs,ex,ea,l,q⟩=>?_) ht;subst ex;obtain rfl:u=Value.ref a:=rx;refine lM I1 ea c hm l ?_;exact PySem.W.callWith_K0 (first:=[.ref a]) I1.kIn hm.kp (gG (us:=[.ref a]) (vs:=[.ref a]) F hr hb hd hx I1 (.cons rfl .nil) q)
structure Mk (K:PySem.W.Frag) (C f:Addr):Prop where
 makes:PySem.W.makesIn K C=true
 init:PySem.W.findIn K (.ref C) "__init__"=some (some (.ref f))
 fn:PySem.W.isFn K (.ref f)=true
 kp:PySem.W.keepIn K (.ref C)=true
theorem SL {pins:List (Addr×Obj)} {σ:St} {H:Hp} {s:Shared} {Q:VK} {us:List Value} {vs:List V} (M:Mk X.K C f) (F:FnOk X.prog X.w X.K X.mg X.base CX k f fd ps sp) (hr:Room (k+1) X.A) (hb:Binds X.K fd ps ds) (hd:Vals dvs ds)
  (hx:b7 CX X E) (I:Inv X pins σ H s) (r:Vals vs us)
  (h:∀x dx,H x=none->H dx=none->dx≠x->sp (.ref x::(vs++dvs)) (upd (upd H dx (.own x)) x (.ins C dx [])) (fun v H2=>v=.non/\Q (.ref x) H2) E) :
  wpAny (model X.prog X.w) X.A (call (.ref C) us) (EP X pins σ Q) X.xe s:=by
 have hq:=h (s.heap.objs.size+1) s.heap.objs.size (I.hok.fresh (Nat.le_succ _)) (I.hok.fresh (aj _)) (aM (ik _));have I2:=Inv.made (C:=C) I;have r2:Vals (V.ref (s.heap.objs.size+1)::(vs++dvs)) (Value.ref (s.heap.objs.size+1)::(us++ds)):=.cons rfl (r.append hd);have hl:(Value.ref (s.heap.objs.size+1)::us++ds).length=ps.length:=by
  have e:=r2.length;rw [F.len _ _ _ _ hq] at e;exact e.symm
 refine wpAny_call (S6 (f:=f) I.kIn M.makes M.init (gv.mp M.fn) (ka (F.run _ X.stack _ _ ⟨Value.ref (s.heap.objs.size+1)::us,[]⟩ (Value.ref (s.heap.objs.size+1)::(us++ds)) _ _ E (hr.make C us [])
  (I2.env0.make C us []) (hb _ (Value.ref (s.heap.objs.size+1)::us) I2.kIn hl) r2 hq) fun r s' hq'=>?_))
 cases r with
 |error e=>exact hx pins σ _ _ e s' I2 hq'
 |ok fl =>
  cases fl with
  |ret u =>
   obtain ⟨v,H',I3,rv,ev,q3⟩:=I2.after hq';subst ev;exact ⟨rv,⟨V.ref (s.heap.objs.size+1),H',I3,rfl,q3⟩⟩
  |next=>exact False.elim hq'
  |brk=>exact False.elim hq'
  |cont=>exact False.elim hq'
theorem UL (M:Mk X.K C f) (F:FnOk X.prog X.w X.K X.mg X.base CX k f fd ps sp) (hr:Room (k+1) X.A) (hg:Gl X x) (hm:X.mg x=some (.ref C)) (hb:Binds X.K fd ps ds) (hd:Vals dvs ds) (hx:b7 CX X E)
  (ha:PA X (e::es) t) (hdb:(x == ("__debug__":Str))=false:=by decide) (he:starEach (e::es) X.env=(false,eval e X.env)::starEach es X.env:=by rfl) (hpl:(backTo pos (starEach es X.env)).any (·.1)=false:=by rfl) :
  PE X (.Call (.Name x p) (e::es) [] pos) (FP C sp dvs E t):=by
 intro pins s σ H Q I h;refine gc (bX I hg hm ?_ hdb);refine dk (h₀:=X.base) I.ok.mod.kin M.kp (jW (ha pos pins s σ H _ I h) fun us s1 ⟨vs,H1,I1,r,q⟩=>⟨I1.kIn,?_⟩) he hpl;exact SL M F hr hb hd hx I1 r q
end
section
variable {X:Cx} {CX:yL} {k:Nat} {f C:Addr} {fd:FuncData} {ps ks:List Str} {sp:Sp} {E:XK} {x m:Str} {p pos apos kpos:Pos} {e o:Expr} {es:List Expr} {kws:List Keyword} {te ta:TE} {t tk:TA} {nm:Option Str}
variable {g:List Value->List Value->List Value} {gV:List V->List V->List V}
end
structure FnScope (N P:List Str) (sc:Scope):Prop where
 kind:sc.kind=.function
 co:sc.isCoroutine=false
 gen:sc.isGenerator=false
 nd:N.Nodup
 pre:N.take P.length=P
 par:∀x∈P,sc.names.lookup x=some .local\/sc.names.lookup x=some .cell
 nofree:∀y∈sc.names,y.2≠.free
theorem CM {kindOf:Str->Option NameKind} {x:Str}:∀{binds:List (Str×Value)} {m:Str->Option Value},(∀v,(x,v)∉binds)->bindL kindOf binds m x=m x
 |[],_,_=>rfl
 | (n,v)::r,m,h=>by
  unfold bindL;rw [CM fun w hw=>h w (aI _ hw)]
  split
  ·have:x≠n:=by rintro rfl;exact h v aY
   simp [this]
  ·rfl
theorem CO {kindOf:Str->Option NameKind} {x:Str}:∀{binds:List (Str×Value)} {m:Str->Option Value},(∀v,(x,v)∉binds)->bindC kindOf binds m x=m x
 |[],_,_=>rfl
 | (n,v)::r,m,h=>by
  unfold bindC;rw [CO fun w hw=>h w (aI _ hw)]
  split
  ·rfl
  ·have:x≠n:=by rintro rfl;exact h v aY
   simp [this]
theorem CN {kindOf:Str->Option NameKind} {x:Str} {v:Value}:∀{P:List Str} {vs:List Value} {i:Nat} {m:Str->Option Value},P.Nodup->P[i]?=some x->vs[i]?=some v->kindOf x=some .local->
  bindL kindOf (P.zip vs) m x=some v
 |[],_,_,_,_,h,_,_=>by simp at h
 |_::_,[],_,_,_,_,h,_=>by simp at h
 |p::P,w::vs,0,m,nd,h1,h2,hk=>by
  simp at h1 h2;subst h1;subst h2
  show bindL kindOf ((p,w)::P.zip vs) m p=_;unfold bindL;rw [CM fun v hv=>(cu.mp nd).1 (List.of_mem_zip hv).1,if_pos hk];simp
 |p::P,w::vs,i+1,m,nd,h1,h2,hk=>by
  show bindL kindOf ((p,w)::P.zip vs) m x=_;unfold bindL;exact CN (i:=i) (cu.mp nd).2 (by simpa using h1) (by simpa using h2) hk
theorem CP {kindOf:Str->Option NameKind} {x:Str} {v:Value}:∀{P:List Str} {vs:List Value} {i:Nat} {m:Str->Option Value},P.Nodup->P[i]?=some x->vs[i]?=some v->kindOf x≠some .local->
  bindC kindOf (P.zip vs) m x=some v
 |[],_,_,_,_,h,_,_=>by simp at h
 |_::_,[],_,_,_,_,h,_=>by simp at h
 |p::P,w::vs,0,m,nd,h1,h2,hk=>by
  simp at h1 h2;subst h1;subst h2
  show bindC kindOf ((p,w)::P.zip vs) m p=_;unfold bindC;rw [CO fun v hv=>(cu.mp nd).1 (List.of_mem_zip hv).1,if_neg hk];simp
 |p::P,w::vs,i+1,m,nd,h1,h2,hk=>by
  show bindC kindOf ((p,w)::P.zip vs) m x=_;unfold bindC;exact CP (i:=i) (cu.mp nd).2 (by simpa using h1) (by simpa using h2) hk
def start (N:List Str) (vs:List V):St:=vs.map some++List.replicate (N.length - vs.length) none
def qC (CX:yL) (P:Program) (w:World) (K:PySem.W.Frag) (mg:Str->Option Value) (base:Heap) (N:List Str) (qual:Str) (scope:Scope) (f:Addr) (cd:Value) (A:Around) (outer:List Env) (s:Shared) (H:Hp) (E:XK):Cx where
 prog:=P
 w:=w
 K:=K
 mg:=mg
 base:=base
 A:=A.deeper (envOfC qual scope s.heap.objs.size f cd)
 N:=N
 s₀:=s
 H₀:=H
 env:=envOfC qual scope s.heap.objs.size f cd
 outer:=outer
 stack:=envOfC qual scope s.heap.objs.size f cd::outer
 ex:=[]
 calm:=true
 fn:=fun _=>true
 pn:=[]
 xe:=fun e s'=>wpAny (model P w) (A.deeper (envOfC qual scope s.heap.objs.size f cd)) (leaving (envOfC qual scope s.heap.objs.size f cd) e) (fun _ s''=>CX outer H s E e s'') (fun e' s''=>CX outer H s E e' s'') s'
theorem DS {sc:Scope} {n:Nat} {x:Str} (h:sc.names.lookup x=some .cell):∃c,(cellsFrom n sc.names []).lookup x=some c:=by
 have q:=PySem.W.cellsFrom_some sc.names n [] (.inl h);exact Option.isSome_iff_exists.mp q
theorem RS {N:List Str} {qual:Str} {scope:Scope} {cd:Value} {outer:List Env} {s s1:Shared} {H:Hp} {E:XK} {vs:List V}
  (S:FnScope N ps scope) (hd:A.handled=none) (e0:Env0 P w K mg base A outer s H) (hl:vs.length=ps.length) (r:Vals vs us)
  (x:InCallC s s.heap.objs.size (bindL (envOfC qual scope s.heap.objs.size f cd).kindOf (ps.zip us) fun _=>none) (cellsFrom (s.heap.objs.size+1) scope.names []) (bindC (envOfC qual scope s.heap.objs.size f cd).kindOf (ps.zip us) fun _=>none) s1) :
  Inv (qC CX P w K mg base N qual scope f cd A outer s H E) [] (start N vs) H s1:=by
 have hpl:ps.length<=N.length:=by have:=bz List.length S.pre;rw [bg] at this;lia
 obtain ⟨h1,tk,rfl,hk⟩:=x.done;have noA:∀b:Addr,b∉(qC CX P w K mg base N qual scope f cd A outer s H E).ex:=fun b z=>absurd (show b∈([]:List Addr) from z) (by simp)
 refine ⟨⟨e0.mod,S.kind,rfl,rfl,aj _,fun y z c h1 h2=>?_,fun y hy=>?_,fun y c _ h=>?_,fun _=>hd,Around.frames_deeper e0.frames,.inr ⟨rfl,rfl⟩,fun b z=>absurd z (noA b),e0.bs,e0.bsz,fun b _ _=>noA b,fun b z=>absurd z (noA b),e0.funs,e0.frf⟩,
  rfl,e0.bare,Un.kept hk,⟨_,x.toInCall.ns,fun i y v h1 h2 h3=>?_⟩,fun y c h=>⟨_,x.cell y c h⟩,e0.hok.fresh (aj _),fun y c h=>?_,fun p hp=>absurd (show p∈([]:List (Addr×Obj)) from hp) (by simp),e0.hok.kept hk,?_⟩
 ·exact name_of_addr x.apart (fk h1) (fk h2)
 ·have hy:scope.names.lookup y=some .cell\/scope.names.lookup y=some .free:=hy
  rcases hy with hy|hy
  ·exact DS hy
  ·exact absurd rfl (S.nofree _ (fk hy))
 ·exact ii (x.above y c (fk h))
 ·have hi:i<vs.length:=by
   unfold start at h2
   by_cases hi:i<vs.length
   ·exact hi
   ·rw [aE (by simpa using hi)] at h2;rw [hU] at h2
    split at h2<;>cases h2
  have ha:vs[i]?=some v:=by
   unfold start at h2;rw [aC (by simpa using hi),ak] at h2;cases e:vs[i]? with
   |none=>rw [e] at h2;cases h2
   |some a=>rw [e] at h2;cases h2;rfl
  obtain ⟨u,hu,rv⟩:=r.get ha;have hp:ps[i]?=some y:=by
   rw [<- S.pre,List.getElem?_take_of_lt (by lia)];exact h1
  have ndP:ps.Nodup:=by rw [<- S.pre];exact S.nd.sublist (List.take_sublist _ _)
  refine ⟨u,rv,?_⟩
  rcases S.par y (av hp) with k|k
  ·exact .inl ⟨k,CN ndP hp hu k⟩
  ·obtain ⟨c,e⟩:=DS (n:=s.heap.objs.size+1) k;refine .inr ⟨.inl k,c,e,?_⟩;have q:=x.cell y c e;rw [CP ndP hp hu (by show scope.names.lookup y≠_;rw [k];decide)] at q;exact q
 ·exact e0.hok.fresh (ii (x.above y c (fk h)))
 ·unfold start;show _=N.length;rw [ag,ac,bw]
  lia
theorem wU {name qual:Str} {params:Arguments} {body:List Stmt} {scope:Scope} {dV kV doc pm cdv ct oc:Value} {an od:Option Addr}
  {osl:Array (Option Value)} {N:List Str} {sp:Sp} (lk:K.lookup f=some ⟨oc,od,.func (PySem.W.fnOf name qual params body scope dV kV doc pm an cdv ct),osl⟩) (hcd:PySem.W.codeIn K cdv qual=true) (S:FnScope N ps scope)
  (len:∀vs H Q E,sp vs H Q E->vs.length=ps.length)
  (hbody:∀(A:Around) (outer:List Env) (s:Shared) (H:Hp) (vs:List V) (Q:VK) (E:XK),Room k (A.deeper (envOfC qual scope s.heap.objs.size f cdv))->sp vs H Q E->
   ∃t,PSs (qC CX P w K mg base N qual scope f cdv A outer s H E) body t/\t {nx:=fun _ H'=>Q .non H',rt:=Q} (start N vs) H) :
  FnOk P w K mg base CX (k+1) f (PySem.W.fnOf name qual params body scope dV kV doc pm an cdv ct) ps sp:=by
 refine ⟨len,fun A outer s H args us vs Q E hr e0 hb r hsp=>?_⟩;have hl:=len _ _ _ _ hsp;have KX:K.In s.heap:=e0.mod.kin.keeps fun b o e=>(e0.bs b o e).1
 have lim:s.heap.NoLimit:=e0.mod.nolimit.keeps fun b o e=>(e0.bs b o e).1
 have hkind:∀y∈ps.zip us,scope.names.lookup y.1=some .local\/(scope.names.lookup y.1=some .cell/\((cellsFrom (s.heap.objs.size+1) scope.names []).lookup y.1).isSome=true):=fun ⟨n,v⟩ hy=>by
  rcases S.par n (List.of_mem_zip hy).1 with q|q
  ·exact .inl q
  ·exact .inr ⟨q,PySem.W.cellsFrom_some _ _ _ (.inl q)⟩
 refine codeAny_call_function hr.depth (KX _ _ lk) rfl S.co S.gen rfl (PySem.W.codeRec_of KX hcd) (hb _ _ _ _ ?_);refine wpAny_newFunctionEnv_cells S.kind hkind fun env he s1 x=>?_
 subst he;refine ⟨lim.keeps x.toInCall.keep,codeAny_func ?_⟩;obtain ⟨t,ht,hq⟩:=hbody A outer s H vs Q E (hr.deeper _) hsp;have I:Inv (qC CX P w K mg base N qual scope f cdv A outer s H E) [] (start N vs) H s1:=RS S hr.hd e0 hl r x;refine cg (ht [] s1 (start N vs) H _ I hq) (fun fl s' hs=>?_) fun e s' hs=>hs
 have fin:∀{σ':St} {H':Hp} {v:V} {u:Value},Inv (qC CX P w K mg base N qual scope f cdv A outer s H E) [] σ' H' s'->RelV v u->Q v H'->CE outer P w H s Q u s' :=
  fun {σ' H' v u} J rv q=>⟨v,H',J.os,J.bare,J.base,J.hok,rv,q⟩
 cases fl with
 |ret u =>
  obtain ⟨v,σ',H',J,rv,q⟩:=hs;exact fin J rv q
 |next =>
  obtain ⟨σ',H',J,q⟩:=hs;exact fin (v:=V.non) (u:=Value.none) J rfl q
 |brk =>
  obtain ⟨_,_,_,q⟩:=hs;exact False.elim q
 |cont =>
  obtain ⟨_,_,_,q⟩:=hs;exact False.elim q
end L2
namespace L2
open PySem PySem.Spec PyProof.Rows
section
variable {X:Cx} {x:Str} {p pos:Pos} {e:Expr} {es:List Expr} {t:TA} {id T:String} {r:List V->Hp->VK->Prop}
def xO (r:List V->Hp->VK->Prop) (t:TA):TE:=fun σ H Q=>t σ H fun vs H1=>r vs H1 Q
theorem zW (hc:yA X (.builtin id) r) (hg:Gl X x) (hm:X.mg x=none) (hv:bootBuiltins x=some (.builtin id)) (ha:PA X (e::es) t) (hn:x≠"__name__":=by decide) (hdb:(x == ("__debug__":Str))=false:=by decide)
  (he:starEach (e::es) X.env=(false,eval e X.env)::starEach es X.env:=by rfl) (hpl:(backTo pos (starEach es X.env)).any (·.1)=false:=by rfl):PE X (.Call (.Name x p) (e::es) [] pos) (xO r t):=by
 intro pins s σ H Q I h;refine gc (ZD I hg hm hv ?_ hn hdb);exact PyProof.Rows.callWith_builtin1 (jW (ha pos pins s σ H _ I h) fun us s1 ⟨vs,H1,I1,r1,q1⟩=>hc pins s1 σ H1 vs us Q I1 r1 q1) he hpl
theorem vT (hc:yA X (.type T) r) (hg:Gl X x) (hm:X.mg x=none) (hv:bootBuiltins x=some (.type T)) (ha:PA X (e::es) t) (hn:x≠"__name__":=by decide) (hdb:(x == ("__debug__":Str))=false:=by decide)
  (he:starEach (e::es) X.env=(false,eval e X.env)::starEach es X.env:=by rfl) (hpl:(backTo pos (starEach es X.env)).any (·.1)=false:=by rfl):PE X (.Call (.Name x p) (e::es) [] pos) (xO r t):=by
 intro pins s σ H Q I h;refine gc (ZD I hg hm hv ?_ hn hdb);exact bq (jW (ha pos pins s σ H _ I h) fun us s1 ⟨vs,H1,I1,r1,q1⟩=>hc pins s1 σ H1 vs us Q I1 r1 q1) he hpl
end
end L2
namespace HT
open PySem PyProof.Rows
section
open PySem.SeqAt
open PySem.AutoSeq1 (wpAny_loadPart')
open PySem.MeetsSeq PySem.MeetsSeq2 PySem.MeetsSeq3
end
section
variable {prog:Program} {w:World} {A:Around} {E:Value->Shared->Prop} {s:Shared}
theorem cat_tup {t b:Addr} {vs ws:List Value} {Q:Value->Shared->Prop} (ht:IsTup s.heap t vs.toArray) (hb:IsTup s.heap b ws.toArray) (hv:vs≠[])
  (h1:ws=[]->Q (.ref t) s) (h2:ws≠[]->Q (.ref s.heap.objs.size) {s with heap:=s.heap.push {cls:=.type "tuple",data:=.seq (vs++ws).toArray}})
  (hsz:vs.length+ws.length<=sizeLine):wpAny (model prog w) A (binaryOp .Add (.ref t) (.ref b)) Q E s:=by
 obtain ⟨⟨cls,dd,data,sl⟩,ho,hc,n,hd⟩:=id ht;obtain ⟨⟨cls2,dd2,data2,sl2⟩,ho2,hc2,n2,hd2⟩:=id hb;simp only at hc hd hc2 hd2;subst hc hd hc2 hd2;have e:vs.toArray++ws.toArray=(vs++ws).toArray:=by simp
 by_cases hw:ws=[]
 ·exact concat_meets ⟨_,ho,rfl⟩ ⟨_,ho2,rfl⟩ noFill_tuple_add seq_tuple_add PySem.F.slot_tuple_add PySem.F.entry_tuple_add (PySem.F.args_tuple_add_2 _ _)
   (tuple_addW1 t b vs.toArray ws.toArray n n2 dd dd2 sl sl2 (by simpa using hv) (by simp [hw])) ⟨ho,ho2,h1 hw⟩
 ·refine concat_meets ⟨_,ho,rfl⟩ ⟨_,ho2,rfl⟩ noFill_tuple_add seq_tuple_add PySem.F.slot_tuple_add PySem.F.entry_tuple_add (PySem.F.args_tuple_add_2 _ _)
   (tuple_addW2 t b vs.toArray ws.toArray n n2 dd dd2 sl sl2 (by simpa using hv) (by simpa using hw) (by rw [List.size_toArray,List.size_toArray];exact hsz)) ⟨ho,ho2,?_⟩
  rw [e];exact h2 hw
def sIx (n d:Nat):Option Int->Nat
 |none=>d
 |some v=>if v<0 then (v+(n:Int)).toNat else min v.toNat n
theorem sIx_none (n d:Nat):sIx n d none=d:=rfl
theorem sIx_nat (n d k:Nat):sIx n d (some (k:Int))=min k n:=by
 show (if (k:Int)<0 then ((k:Int)+(n:Int)).toNat else min (k:Int).toNat n)=min k n;rw [if_neg (by lia),Int.toNat_natCast]
end
end HT
namespace L2
open PySem PySem.Spec PyProof.Rows
abbrev TO:=St->Hp->(Option Int->Hp->Prop)->Prop
def PO (X:Cx) (e:Option Expr) (t:TO):Prop :=
 ∀(pins:List (Addr×Obj)) (s:Shared) (σ:St) (H:Hp) (Q:Option Int->Hp->Prop),Inv X pins σ H s->t σ H Q->
  wpAny (model X.prog X.w) X.A (evalPart e X.env) (fun u s'=>∃o H',Inv X pins σ H' s'/\IsPart u o/\Q o H') X.xe s
def T4:TO:=fun _ H Q=>Q none H
def WP (t:TE):TO:=fun σ H Q=>t σ H fun x H1=>∃i,x=.int i/\Q (some i) H1
section
variable {X:Cx} {e:Expr} {te:TE} {lo hi:Option Expr} {tl th:TO} {pos p2:Pos}
theorem EI:PO X none T4:=by
 intro pins s σ H Q I h;rw [evalPart_none];exact aJ ⟨none,H,I,.none,h⟩
theorem xZ (h:PE X e te):PO X (some e) (WP te):=by
 intro pins s σ H Q I hw;rw [evalPart_some];refine jW (h pins s σ H _ I hw) fun u s1 ⟨x,H1,I1,r1,q1⟩=>?_
 obtain ⟨i,rfl,q⟩:=q1;obtain ⟨t,rfl⟩:=r1;exact ⟨some i,H1,I1,.int i t,q⟩
def xT (X:Cx) (r:V->Option Int->Option Int->Hp->VK->Prop):Prop :=
 ∀(pins:List (Addr×Obj)) (s:Shared) (σ:St) (H:Hp) (x:V) (v vl vu:Value) (lo hi:Option Int) (sl:Addr) (Q:VK),Inv X pins σ H s->RelV x v->s.heap.IsSliceOf sl vl vu .none->IsPart vl lo->IsPart vu hi->r x lo hi H Q->
  ∃T id,typeLookup (.type T) "__getitem__"=pure (some (.builtin id))/\s.TypeIs v T/\wpAny (model X.prog X.w) X.A (getItem v (.ref sl)) (EP X pins σ Q) X.xe s
def YN (r:V->Option Int->Option Int->Hp->VK->Prop) (te:TE) (tl th:TO):TE:=fun σ H Q=>te σ H fun x H1=>tl σ H1 fun l H2=>th σ H2 fun u H3=>r x l u H3 Q
theorem DH {r:V->Option Int->Option Int->Hp->VK->Prop} (hr:xT X r) (he:PE X e te) (hl:PO X lo tl) (hu:PO X hi th):PE X (.Subscript e (.Slice lo hi none p2) pos) (YN r te tl th):=by
 intro pins s σ H Q I h;refine Subscript_ (jW (he pins s σ H _ I h) fun v s1 ⟨x,H1,I1,r1,q1⟩=>?_);refine wpAny_Slice (jW (hl pins s1 σ H1 _ I1 q1) fun vl s2 ⟨l,H2,I2,pl,q2⟩=>jW (hu pins s2 σ H2 _ I2 q2) fun vu s3 ⟨u,H3,I3,pu,q3⟩=>?_);rw [evalPart_none];refine aJ ?_;have I4:Inv X pins σ H3 {s3 with heap:=s3.heap.push {cls:=.type "slice",data:=.fields #[vl,vu,.none]}}:=I3.kept (t':=s3.toks) fun b ob q=>ai _ q
 obtain ⟨T,id,hT,ht,hg⟩:=hr pins {s3 with heap:=s3.heap.push {cls:=.type "slice",data:=.fields #[vl,vu,.none]}} σ H3 x v vl vu l u s3.heap.objs.size Q I4 r1 (Heap.IsSliceOf.new ..) pl pu q3;show wpAny (model X.prog X.w) X.A (subscriptTail e (.Slice lo hi none p2) v (.ref s3.heap.objs.size)) (EP X pins σ Q) X.xe {s3 with heap:=s3.heap.push {cls:=.type "slice",data:=.fields #[vl,vu,.none]}};exact tail_any (ops:=[.ref s3.heap.objs.size,v]) ht hT hg (by with_unfolding_all rfl)
def bM (xs:List V) (lo hi:Option Int):List V:=(xs.drop (HT.sIx xs.length 0 lo)).take (HT.sIx xs.length xs.length hi - HT.sIx xs.length 0 lo)
theorem OJ (xs:List V) (lo hi:Option Int):(bM xs lo hi).length<=xs.length:=by
 unfold bM;rw [bg,List.length_drop]
 lia
def W1 (K:PySem.W.Frag):R2:=fun x y H Q=>∃a b xs ys,x=.ref a/\y=.ref b/\SqT K H a xs/\SqT K H b ys/\xs≠[]/\xs.length+ys.length<=sizeLine/\
 (ys=[]->Q (.ref a) H)/\(ys≠[]->∀p,H p=none->Q (.ref p) (upd H p (.tup (xs++ys))))
theorem Vals.nil_iff {xs:List V} {us:List Value} (r:Vals xs us):us=[]↔xs=[]:=by
 cases r with
 |nil=>simp
 |cons _ _=>simp
theorem UQ:qM X (binaryOp .Add) (W1 X.K):=by
 intro pins s σ H x y v u Q I rx ry h;obtain ⟨a,b,xs,ys,rfl,rfl,ha,hb,hx,hz,q1,q2⟩:=h;cases rx;cases ry;obtain ⟨its,r1,p1,_⟩:=I.tuple ha;obtain ⟨its2,r2,p2,_⟩:=I.tuple hb;refine HT.cat_tup p1 p2 (fun z=>hx (r1.nil_iff.mp z)) (fun z=>⟨.ref a,H,I,rfl,q1 (r2.nil_iff.mp z)⟩) (fun z=>?_) (by rw [<- r1.length,<- r2.length];exact hz);refine ⟨.ref s.heap.objs.size,_,I.laid (t':=s.toks) (o:=.tup (xs++ys)) (fun b ob q=>ai _ q) (aj _) ?_,rfl,q2 (fun w=>z (r2.nil_iff.mpr w)) _ (I.hok.fresh (aj _))⟩;exact ⟨by rw [ag];exact hz,_,r1.append r2,IsTup.new _ _⟩
end
def JH (n:Nat) (i:Int):Option Nat:=if 0<=i then (if i<n then some i.toNat else none) else if -(n:Int)<=i then some (i+n).toNat else none
def qS {α:Type} (xs:List α) (i:Int):Option α:=(JH xs.length i).bind fun j=>xs[j]?
theorem EQ {n:Nat} {i:Int} {j:Nat} (h:JH n i=some j):seqIndex? i n=some j/\j<n/\-(n:Int)<=i/\i<n:=by
 unfold JH at h
 by_cases h0:0<=i
 ·rw [if_pos h0] at h
  by_cases h1:i<n
  ·rw [if_pos h1] at h;have e:i.toNat=j:=az h;exact ⟨by rw [seqIndex_of h0 h1,e],by lia,by lia,h1⟩
  ·rw [if_neg h1] at h;cases h
 ·rw [if_neg h0] at h
  by_cases h1 : -(n:Int)<=i
  ·rw [if_pos h1] at h;have e:(i+n).toNat=j:=az h;exact ⟨by rw [seqIndex_neg (by lia) h1,e],by lia,h1,by lia⟩
  ·rw [if_neg h1] at h;cases h
variable {α:Type}
theorem mH {xs:List α} {i:Int} {v:α} (h:qS xs i=some v):∃j,seqIndex? i xs.length=some j/\xs[j]?=some v/\j<xs.length/\-(xs.length:Int)<=i/\i<xs.length:=by
 unfold qS at h;cases e:JH xs.length i with
 |none=>rw [e] at h;cases h
 |some j =>
  rw [e] at h;obtain ⟨h1,h2,h3,h4⟩:=EQ e;exact ⟨j,h1,h,h2,h3,h4⟩
theorem kQ {xs:List α} {j:Nat} {v:α} (h:xs[j]?=some v):qS xs (j:Int)=some v:=by
 have hj:j<xs.length:=(af.mp h).1;have e:JH xs.length (j:Int)=some j:=by
  unfold JH;rw [if_pos (by lia),if_pos (by lia)];simp
 unfold qS;rw [e];exact h
theorem atI_last (xs:List α) (v:α):qS (xs++[v]) (-1)=some v:=by
 have hl:(xs++[v]).length=xs.length+1:=by simp
 have e:JH (xs++[v]).length (-1)=some xs.length:=by
  unfold JH;rw [hl,if_neg (by decide),if_pos (by lia)]
  congr 1
  lia
 unfold qS;rw [e];show (xs++[v])[xs.length]?=some v;simp
def EY (b:Expr):Prop:=∀o i,subscripted b false o i=operate [o,i] (getItem o i)
def IxR (X:Cx) (r:R2):Prop :=
 ∀(value slice:Expr) (pins:List (Addr×Obj)) (s:Shared) (σ:St) (H:Hp) (x y:V) (v u:Value) (Q:VK),Inv X pins σ H s->RelV x v->RelV y u->r x y H Q->
  subscripted slice false v u=operate [v,u] (getItem v u)->wpAny (model X.prog X.w) X.A (subscriptTail value slice v u) (EP X pins σ Q) X.xe s
def xV (X:Cx) (id:String) (r:V->List V->Hp->VK->Prop):Prop :=
 ∀(pins:List (Addr×Obj)) (s:Shared) (σ:St) (H:Hp) (x:V) (xs:List V) (v:Value) (us:List Value) (Q:VK),Inv X pins σ H s->RelV x v->Vals xs us->r x xs H Q->
  wpAny (model X.prog X.w) X.A (call (.builtin id) (v::us)) (EP X pins σ Q) X.xe s
section
variable {X:Cx} {a b:Expr} {ta tb:TE} {pos:Pos}
theorem IxR.or {r r':R2} (h:IxR X r) (h':IxR X r'):IxR X (fun x y H Q=>r x y H Q\/r' x y H Q):=by
 intro value slice pins s σ H x y v u Q I rx ry q hs
 rcases q with q|q
 ·exact h value slice pins s σ H x y v u Q I rx ry q hs
 ·exact h' value slice pins s σ H x y v u Q I rx ry q hs
theorem GZ {r:R2} (hr:IxR X r) (ha:PE X a ta) (hb:PE X b tb) (hs:EY b):PE X (.Subscript a b pos) (cX r ta tb):=by
 intro pins s σ H Q I h;exact Subscript_ (xC ha hb I h fun v u s2 x y H2 I2 rx ry q=>hr a b pins s2 σ H2 x y v u Q I2 rx ry q (hs _ _))
def nG (K:PySem.W.Frag):R2:=fun x y H Q=>∃p xs i v,x=.ref p/\y=.int i/\SqL K H p xs/\qS xs i=some v/\Q v H
def w8 (K:PySem.W.Frag):R2:=fun x y H Q=>∃p xs i v,x=.ref p/\y=.int i/\SqT K H p xs/\qS xs i=some v/\Q v H
def GF:R2:=fun x y H Q=>∃z i c,x=.str z/\y=.int i/\z.length<=sizeLine/\qS z.cps.toList i=some c/\Q (.str ⟨#[c]⟩) H
theorem xX:IxR X (nG X.K):=by
 intro value slice pins s σ H x y v u Q I rx ry h hs;obtain ⟨p,xs,i,z,rfl,rfl,hq,he,q⟩:=h;cases rx;obtain ⟨t,rfl⟩:=ry;obtain ⟨its,r,pl,hz⟩:=I.list hq;obtain ⟨j,h1,h2,h3,h4,h5⟩:=mH he;obtain ⟨w,ew,rw'⟩:=r.get h2;have hl:=r.length;have hn:=bC;have fin:EP X pins σ Q w s:=⟨z,H,I,rw',q⟩
 by_cases h0:0<=i
 ·have hj:i.toNat=j:=by
   rw [seqIndex_of h0 h5] at h1;exact az h1
  exact item_listR pl.isList h0 (by lia) (by rw [hj];simpa using ew) fin hs
 ·have hj:(i+(its.toArray.size:Int)).toNat=j:=by
   rw [seqIndex_neg (by lia) h4] at h1;rw [au,<- hl];exact az h1
  exact subscriptTail_builtinR (x:=w) pl.isList.typeIs slot_list_getitem.lookup
   (wpAny_getItem_list_neg (Q:=fun r s'=>r=w/\EP X pins σ Q r s') pl.isList (by lia) (by rw [au]<;>lia) (by lia) (by rw [hj];simpa using ew) ⟨rfl,fin⟩) hs
theorem ix_tup:IxR X (w8 X.K):=by
 intro value slice pins s σ H x y v u Q I rx ry h hs;obtain ⟨p,xs,i,z,rfl,rfl,hq,he,q⟩:=h;cases rx;obtain ⟨t,rfl⟩:=ry;obtain ⟨its,r,pl,hz⟩:=I.tuple hq;obtain ⟨j,h1,h2,h3,h4,h5⟩:=mH he;obtain ⟨w,ew,rw'⟩:=r.get h2;have hl:=r.length;have hn:=bC;have fin:EP X pins σ Q w s:=⟨z,H,I,rw',q⟩;exact subscriptTail_builtinR (x:=w) pl.typeIs slot_tuple_getitem.lookup
  (getItem_tuple (j:=j) (Q:=fun r s'=>r=w/\EP X pins σ Q r s') pl (by lia) (by lia) (by rw [au,<- hl];exact h1) (by simpa using ew) ⟨rfl,fin⟩) hs
theorem wI:IxR X GF:=by
 intro value slice pins s σ H x y v u Q I rx ry h hs;obtain ⟨z,i,c,rfl,rfl,hz,he,q⟩:=h;obtain ⟨t,rfl⟩:=rx;obtain ⟨t',rfl⟩:=ry;obtain ⟨j,h1,h2,h3,h4,h5⟩:=mH he;have hl:z.cps.toList.length=z.length:=by simp [Str.length]
 rw [hl] at h1 h4 h5;have hn:=bC;exact tail_any (typeIs_str s z t) slot_str_getitem.lookup (getItem_str (c:=c) (by
  have e1:decide (i < -(2 ^ 63:Int))=false:=aH (by lia);have e2:decide (i>=2 ^ 63)=false:=aH (by lia);rw [e1,e2,Bool.or_false]) (by rw [h1];simpa using h2) ⟨.str ⟨#[c]⟩,H,I.tok _,⟨_,rfl⟩,q⟩) hs
def xP (K:PySem.W.Frag):R2:=fun x y H Q=>nG K x y H Q\/w8 K x y H Q\/GF x y H Q
theorem WG:IxR X (xP X.K):=xX.or (ix_tup.or wI)
theorem O6 (its:List Value) (n j:Nat) (u:Value):Obj.mapSeq (·.setIfInBounds j u) {cls:=.type "list",data:=.seq its.toArray n}={cls:=.type "list",data:=.seq (its.set j u).toArray n}:=by
 simp [Obj.mapSeq]
theorem Inv.lst {pins:List (Addr×Obj)} {σ:St} {H:Hp} {s:Shared} {p:Addr} {xs:List V} (I:Inv X pins σ H s) (h:H p=some (.lst xs)) :
  ∃(its:List Value) (n:Nat),Vals xs its/\s.heap.get? p=some {cls:=.type "list",data:=.seq its.toArray n}/\xs.length<=sizeLine:=by
 obtain ⟨z,its,n,r,e⟩:=I.hok p _ h;exact ⟨its,n,r,e,z⟩
theorem Inv.lstUpd {pins:List (Addr×Obj)} {σ:St} {H:Hp} {s:Shared} {p:Addr} {xs ys:List V} {its its':List Value} {n n':Nat} {f:Obj->Obj} (I:Inv X pins σ H s) (h:H p=some (.lst xs))
  (ho:s.heap.get? p=some {cls:=.type "list",data:=.seq its.toArray n}) (hf:f {cls:=.type "list",data:=.seq its.toArray n}={cls:=.type "list",data:=.seq its'.toArray n'}) (r:Vals ys its') (hz:ys.length<=sizeLine) (t:Nat) :
  Inv X pins σ (upd H p (.lst ys)) {s with heap:=s.heap.update p f,toks:=t}:=by
 have e:(s.heap.update p f).get? p=some {cls:=.type "list",data:=.seq its'.toArray n'}:=by
  rw [gg f ho (by rw [hf]<;>rfl),hf]
 refine I.write (x:=p) (e:=p) (by rw [h];trivial) (.inl rfl) (fun b u hb q=>(gb _ _ (Ne.symm hb)).trans q) ⟨_,e⟩ ?_;exact ⟨hz,its',n',r,e⟩
def WX:V->V->V->Hp->(Hp->Prop)->Prop:=fun o i v H Q=>∃p xs k j,o=.ref p/\i=.int k/\H p=some (.lst xs)/\JH xs.length k=some j/\Q (upd H p (.lst (xs.set j v)))
theorem lW:xF X WX:=by
 intro pins s σ H o i v ov iv u Q I ro ri rv h;obtain ⟨p,xs,k,j,rfl,rfl,hp,hj,q⟩:=h;cases ro;obtain ⟨t,rfl⟩:=ri;obtain ⟨its,n,r,ho,hz⟩:=I.lst hp;obtain ⟨h1,h2,h3,h4⟩:=EQ hj;have hl:=r.length;have hn:=bC;have I':Inv X pins σ (upd H p (.lst (xs.set j v))) {s with heap:=s.heap.update p (Obj.mapSeq (·.setIfInBounds j u))} :=
  I.lstUpd hp ho (O6 its n j u) (r.set rv j) (by rw [dh];exact hz) s.toks
 by_cases h0:0<=k
 ·have hk:k.toNat=j:=by
   rw [seqIndex_of h0 h4] at h1;exact az h1
  exact PySem.W.ki_setAt ho h0 (by lia) (by rw [au,<- hl];exact h4) (by rw [hk];exact ⟨_,I',q⟩)
 ·have hk:(k+(its.toArray.size:Int)).toNat=j:=by
   rw [seqIndex_neg (by lia) h3] at h1;rw [au,<- hl];exact az h1
  exact PySem.W.ki_setBack ho (by lia) (by rw [au,<- hl];exact h3) (by lia) (by rw [hk];exact ⟨_,I',q⟩)
theorem N1 (lo hi:Option Int) (n:Nat):(sliceBounds lo hi none n).1=((HT.sIx n 0 lo:Nat):Int)/\(sliceBounds lo hi none n).2.1=((HT.sIx n n hi:Nat):Int)/\(sliceBounds lo hi none n).2.2=1:=by
 refine ⟨?_,?_,rfl⟩
 ·cases lo with
  |none=>simp [sliceBounds,HT.sIx]
  |some i =>
   simp only [sliceBounds,HT.sIx,Option.getD_none,show (1:Int)>0 by decide,if_true]
   by_cases h:i<0
   ·simp only [h,if_true]<;>lia
   ·simp only [h,if_false]<;>lia
 ·cases hi with
  |none=>simp [sliceBounds,HT.sIx]
  |some i =>
   simp only [sliceBounds,HT.sIx,Option.getD_none,show (1:Int)>0 by decide,if_true]
   by_cases h:i<0
   ·simp only [h,if_true]<;>lia
   ·simp only [h,if_false]<;>lia
theorem NW (its:List Value) (lo hi:Option Int):slicePick its.toArray lo hi none=((its.drop (HT.sIx its.length 0 lo)).take (HT.sIx its.length its.length hi - HT.sIx its.length 0 lo)).toArray:=by
 obtain ⟨h1,h2,h3⟩:=N1 lo hi its.toArray.size;unfold slicePick;rw [h1,h2,h3];simp only [sliceRange_one,pick_run,au]<;>rfl
def GE (K:PySem.W.Frag):V->Option Int->Option Int->Hp->VK->Prop:=fun x lo hi H Q=>∃a xs,x=.ref a/\SqL K H a xs/\∀p,H p=none->Q (.ref p) (upd H p (.lst (bM xs lo hi)))
theorem T7:xT X (GE X.K):=by
 intro pins s σ H x v vl vu lo hi sl Q I rx hs pl pu h;obtain ⟨a,xs,rfl,hx,q⟩:=h;cases rx;obtain ⟨its,r,ht,hz⟩:=I.list hx;have hlen:=r.length;refine ⟨"list",_,slot_list_getitem.lookup,ht.isList.typeIs,?_⟩;refine wpAny_getItem_list_slice ht.isList hs pl pu .none (by simp) ?_ (by rw [au]<;>lia);rw [NW,<- hlen];refine ⟨.ref s.heap.objs.size,_,I.laid (t':=s.toks) (o:=.lst (bM xs lo hi)) (fun b ob q=>ai _ q) (aj _) ?_,rfl,q _ (I.hok.fresh (aj _))⟩;exact ⟨aK (OJ xs lo hi) hz,_,0,(r.drop (HT.sIx xs.length 0 lo)).take (HT.sIx xs.length xs.length hi - HT.sIx xs.length 0 lo),aq _ rfl⟩
def v9:V->Bool
 |.non=>true
 |.bl _=>true
 |.int _=>true
 |.str _=>true
 |_=>false
def yJ:V->V->Bool
 |.non,.non=>true
 |.bl a,.bl b=>a == b
 |.bl a,.int b=>(if a then 1 else 0) == b
 |.int a,.bl b=>a == (if b then 1 else 0)
 |.int a,.int b=>a == b
 |.str a,.str b=>a == b
 |_,_=>false
theorem gJ {A:Around} {s:Shared} {y x:V} {u v:Value} (ry:RelV y u) (rx:RelV x v) (fy:v9 y=true) (fx:v9 x=true):SeqAt.EqAt A s u v (yJ y x):=by
 cases y with
 |non =>
  cases ry;cases x with
  |non=>cases rx;exact SeqAt.EqAt.same _
  |bl b=>cases rx;exact SeqAt.EqAt.none_bool b
  |int b=>obtain ⟨t,rfl⟩:=rx;exact SeqAt.EqAt.none_int b t
  |str b=>obtain ⟨t,rfl⟩:=rx;exact SeqAt.EqAt.none_str b t
  |_=>exact absurd (show false=true from fx) aB
 |bl a =>
  cases ry;cases x with
  |non=>cases rx;exact SeqAt.EqAt.bool_none a
  |bl b=>cases rx;exact SeqAt.EqAt.bool_bool a b
  |int b=>obtain ⟨t,rfl⟩:=rx;exact SeqAt.EqAt.bool_int a b t
  |str b=>obtain ⟨t,rfl⟩:=rx;exact SeqAt.EqAt.bool_str a b t
  |_=>exact absurd (show false=true from fx) aB
 |int a =>
  obtain ⟨t',rfl⟩:=ry;cases x with
  |non=>cases rx;exact SeqAt.EqAt.int_none a t'
  |bl b=>cases rx;exact SeqAt.EqAt.int_bool a t' b
  |int b=>obtain ⟨t,rfl⟩:=rx;exact SeqAt.EqAt.int_int a t' b t
  |str b=>obtain ⟨t,rfl⟩:=rx;exact SeqAt.EqAt.int_str a t' b t
  |_=>exact absurd (show false=true from fx) aB
 |str a =>
  obtain ⟨t',rfl⟩:=ry;cases x with
  |non=>cases rx;exact SeqAt.EqAt.str_none a t'
  |bl b=>cases rx;exact SeqAt.EqAt.str_bool a t' b
  |int b=>obtain ⟨t,rfl⟩:=rx;exact SeqAt.EqAt.str_int a t' b t
  |str b=>obtain ⟨t,rfl⟩:=rx;exact SeqAt.EqAt.str_str a t' b t
  |_=>exact absurd (show false=true from fx) aB
 |_=>exact absurd (show false=true from fy) aB
def yC (x:V) (u:Value):Bool:=match u with
 |.none=>yJ .non x
 |.bool b=>yJ (.bl b) x
 |.int i _=>yJ (.int i) x
 |.str z _=>yJ (.str z) x
 |_=>false
theorem mO {x y:V} {u:Value} (r:RelV y u) (f:v9 y=true):yC x u=yJ y x:=by
 cases y with
 |non=>cases r;rfl
 |bl b=>cases r;rfl
 |int i=>obtain ⟨t,rfl⟩:=r;rfl
 |str z=>obtain ⟨t,rfl⟩:=r;rfl
 |_=>exact absurd (show false=true from f) aB
theorem gE {x:V}:∀{xs:List V} {us:List Value},Vals xs us->xs.all v9=true->us.any (yC x)=xs.any fun y=>yJ y x
 |_,_,.nil,_=>rfl
 |y::xs,u::us,.cons r t,f=>by
  rw [List.all_cons,fq] at f;rw [ir,ir,mO r f.1,gE t f.2]
theorem bT {A:Around} {s:Shared} {x:V} {v:Value} (rx:RelV x v) (fx:v9 x=true):∀{xs:List V} {us:List Value},Vals xs us->xs.all v9=true->∀u∈us,SeqAt.EqAt A s u v (yC x u)
 |_,_,.nil,_=>fun u hu=>by cases hu
 |y::xs,u::us,.cons r t,f=>fun u' hu=>by
  rw [List.all_cons,fq] at f
  rcases ao.mp hu with rfl|hu
  ·rw [mO r f.1];exact gJ r rx f.1 fx
  ·exact bT rx fx t f.2 u' hu
def QY (x:V) (xs:List V):Bool:=xs.any fun y=>yJ y x
def GR (K:PySem.W.Frag) (neg:Bool):R2:=fun x y H Q=>∃p xs,y=.ref p/\(SqL K H p xs\/SqT K H p xs)/\v9 x=true/\xs.all v9=true/\Q (.bl (if neg then !QY x xs else QY x xs)) H
theorem RF:qM X (compareOp .In) (GR X.K false):=by
 intro pins s σ H x y v u Q I rx ry h;obtain ⟨p,xs,rfl,hq,fx,fs,q⟩:=h;cases ry
 rcases hq with hq|hq
 ·obtain ⟨its,r,pl,hz⟩:=I.list hq;refine SeqAt.in_listAt (yC x) pl.isList (fun w hw=>bT rx fx r fs w (by simpa using hw)) ⟨.bl _,H,I,rfl,?_⟩;rw [show its.toArray.any (yC x)=its.any (yC x) by simp,gE r fs];exact q
 ·obtain ⟨its,r,pl,hz⟩:=I.tuple hq;refine SeqAt.in_tupleAt (yC x) pl (fun w hw=>bT rx fx r fs w (by simpa using hw)) ⟨.bl _,H,I,rfl,?_⟩;rw [show its.toArray.any (yC x)=its.any (yC x) by simp,gE r fs];exact q
theorem N3:qM X (compareOp .NotIn) (GR X.K true):=by
 intro pins s σ H x y v u Q I rx ry h;obtain ⟨p,xs,rfl,hq,fx,fs,q⟩:=h;cases ry
 rcases hq with hq|hq
 ·obtain ⟨its,r,pl,hz⟩:=I.list hq;refine SeqAt.notIn_listAt (yC x) pl.isList (fun w hw=>bT rx fx r fs w (by simpa using hw)) ⟨.bl _,H,I,rfl,?_⟩;rw [show its.toArray.any (yC x)=its.any (yC x) by simp,gE r fs];exact q
 ·obtain ⟨its,r,pl,hz⟩:=I.tuple hq;refine SeqAt.notIn_tupleAt (yC x) pl (fun w hw=>bT rx fx r fs w (by simpa using hw)) ⟨.bl _,H,I,rfl,?_⟩;rw [show its.toArray.any (yC x)=its.any (yC x) by simp,gE r fs];exact q
theorem HF:yA X (.builtin "len") (fun xs H Q=>∃p ys,xs=[.ref p]/\(SqL X.K H p ys\/SqT X.K H p ys)/\Q (.int ys.length) H):=by
 intro pins s σ H xs us Q I r h;obtain ⟨p,ys,rfl,hq,q⟩:=h;obtain ⟨u,rfl,rx⟩:=ZE r;cases rx;have hn:=bC
 rcases hq with hq|hq
 ·obtain ⟨its,r',pl,hz⟩:=I.list hq;have hlen:=r'.length;exact Calls.call_len_list pl.isList (by simp only [au]<;>lia) ⟨.int ys.length,H,I.tok _,⟨s.toks+1,by rw [au,hlen]⟩,q⟩
 ·obtain ⟨its,r',pl,hz⟩:=I.tuple hq;have hlen:=r'.length;exact len_tuple pl (by simp only [au]<;>lia) ⟨.int ys.length,H,I.tok _,⟨s.toks+1,by rw [au,hlen]⟩,q⟩
theorem N5:yA X (.builtin "len") (fun xs H Q=>∃z,xs=[.str z]/\z.length<=sizeLine/\Q (.int z.length) H):=by
 intro pins s σ H xs us Q I r h;obtain ⟨z,rfl,hz,q⟩:=h;obtain ⟨u,rfl,t,rfl⟩:=ZE r;have hn:=bC;exact len_str (by lia) ⟨.int z.length,H,I.tok _,⟨_,rfl⟩,q⟩
theorem N4:yA X (.type "list") (fun xs H Q=>∃p ys,xs=[.ref p]/\(SqL X.K H p ys\/SqT X.K H p ys)/\∀l,H l=none->Q (.ref l) (upd H l (.lst ys))):=by
 intro pins s σ H xs us Q I r h;obtain ⟨p,ys,rfl,hq,q⟩:=h;obtain ⟨u,rfl,rx⟩:=ZE r;cases rx;have fin:∀(its:List Value),Vals ys its->ys.length<=sizeLine->∀(h':Heap) (c':Nat),(∀b o',s.heap.get? b=some o'->h'.get? b=some o')->
   h'.get? s.heap.objs.size=some {cls:=.type "list",dict:=none,data:=.seq its.toArray c',slots := #[]}->EP X pins σ Q (.ref s.heap.objs.size) {s with heap:=h'}:=fun its r' hz h' c' kp e =>
  ⟨.ref s.heap.objs.size,_,I.laid (t':=s.toks) kp (aj _) (show ObjOk X.prog X.w _ h' _ (.lst ys) from ⟨hz,its,c',r',e⟩),rfl,q _ (I.hok.fresh (aj _))⟩
 rcases hq with hq|hq
 ·obtain ⟨its,r',pl,hz⟩:=I.list hq;have hlen:=r'.length;obtain ⟨o,ho,hc,n,hd⟩:=pl.isList;exact call_list_seq p (.inl rfl) ho hc hd (fun h' c' kp e=>fin its r' hz h' c' kp e) (by simp only [au]<;>lia)
 ·obtain ⟨its,r',pl,hz⟩:=I.tuple hq;have hlen:=r'.length;obtain ⟨o,ho,hc,n,hd⟩:=pl;exact call_list_seq p (.inr rfl) ho hc hd (fun h' c' kp e=>fin its r' hz h' c' kp e) (by simp only [au]<;>lia)
theorem NY:yA X (.type "tuple") (fun xs H Q=>∃p ys,xs=[.ref p]/\((SqL X.K H p ys/\∀l,H l=none->Q (.ref l) (upd H l (.tup ys)))\/(SqT X.K H p ys/\Q (.ref p) H))):=by
 intro pins s σ H xs us Q I r h;obtain ⟨p,ys,rfl,h⟩:=h;obtain ⟨u,rfl,rx⟩:=ZE r;cases rx
 rcases h with ⟨hq,q⟩|⟨hq,q⟩
 ·obtain ⟨its,r',pl,hz⟩:=I.list hq;have hlen:=r'.length;refine call_tuple_list pl.isList (fun h' kp=>?_) (by simp only [au]<;>lia);have I1:Inv X pins σ H {s with heap:=h'}:=I.kept (t':=s.toks) kp;have I2:Inv X pins σ (upd H h'.objs.size (.tup ys)) {s with heap:=h'.push {cls:=.type "tuple",data:=.seq its.toArray}} :=
   I1.laid (t':=s.toks) (fun b o e=>ai _ e) (aj _) (show ObjOk X.prog X.w _ _ _ (.tup ys) from ⟨hz,its,r',IsTup.new _ _⟩)
  exact ⟨.ref h'.objs.size,_,I2,rfl,q _ (I1.hok.fresh (aj _))⟩
 ·obtain ⟨its,r',pl,hz⟩:=I.tuple hq;exact call_tuple_same pl ⟨.ref p,H,I,rfl,q⟩
def xN (K:PySem.W.Frag) (T:String) (x:V) (H:Hp):Prop:=match x with
 |.str _=>T="str"
 |.int _=>T="int"
 |.ref p=>(T="list"/\∃xs,SqL K H p xs)\/(T="tuple"/\∃o,K.lookup p=some o/\o.cls=.type "tuple"/\o.dict=none)\/
   (T="dict"/\((∃kvs,H p=some (.dK kvs))\/∃kvs,H p=some (.dT kvs)))\/(T="set"/\∃S n,H p=some (.set S n))
 |_=>False
theorem E1 {pins:List (Addr×Obj)} {σ:St} {H:Hp} {s:Shared} {T:String} {x:V} {v:Value} (I:Inv X pins σ H s) (r:RelV x v) (ty:xN X.K T x H) :
  s.TypeIs v T/\∀a,v=.ref a->∃ob,s.heap.get? a=some ob/\ob.dict=none:=by
 cases x with
 |str z =>
  obtain ⟨t,rfl⟩:=r;cases (show T="str" from ty);exact ⟨typeIs_str s z t,fun _ e=>nomatch e⟩
 |int i =>
  obtain ⟨t,rfl⟩:=r;cases (show T="int" from ty);exact ⟨typeIs_int s i t,fun _ e=>nomatch e⟩
 |ref p =>
  cases r
  rcases ty with ⟨rfl,xs,hq⟩|⟨rfl,o,hk,hc,hd⟩|⟨rfl,hk⟩|⟨rfl,S,n,hk⟩
  ·obtain ⟨its,_,pl,_⟩:=I.list hq;refine ⟨pl.isList.typeIs,fun a e=>?_⟩;cases e;obtain ⟨o,n,e,c,hd,_⟩:=pl;exact ⟨o,e,hd⟩
  ·refine ⟨⟨o,I.kIn p o hk,hc⟩,fun a e=>?_⟩;cases e;exact ⟨o,I.kIn _ o hk,hd⟩
  ·have z:∃o,s.heap.get? p=some o/\o.ExactDict:=by
    rcases hk with ⟨kvs,hk⟩|⟨kvs,hk⟩
    ·obtain ⟨_,_,_,_,o,_,_,e,ex,_⟩:=I.hok p _ hk;exact ⟨o,e,ex⟩
    ·obtain ⟨_,_,_,_,o,_,_,e,ex,_⟩:=I.hok p _ hk;exact ⟨o,e,ex⟩
   obtain ⟨o,e,ex⟩:=z;refine ⟨⟨o,e,ex.1⟩,fun a e2=>?_⟩;cases e2;exact ⟨o,e,ex.2.1⟩
  ·obtain ⟨o,_,_,_,e,ex,_⟩:=I.hok p _ hk;refine ⟨⟨o,e,ex.1⟩,fun a e2=>?_⟩;cases e2;exact ⟨o,e,ex.2.1⟩
 |_=>exact False.elim ty
def XY (K:PySem.W.Frag) (T:String) (r:V->List V->Hp->VK->Prop) (to:TE):TE:=fun σ H Q=>to σ H fun x H1=>xN K T x H1/\r x [] H1 Q
def YR (K:PySem.W.Frag) (T:String) (r:V->List V->Hp->VK->Prop) (to:TE) (t:TA):TE:=fun σ H Q=>to σ H fun x H1=>xN K T x H1/\t σ H1 fun xs H2=>r x xs H2 Q
variable {o e:Expr} {es:List Expr} {to:TE} {t:TA} {name:Str} {apos cpos:Pos} {T id:String} {r:V->List V->Hp->VK->Prop}
theorem V5 (pa:PlainAttrs T) (slot:Slot T name id) (hty:typeOf (.builtin id)=pure (.type "method_descriptor")) (hm:xV X id r) (ho:PE X o to)
  (hbase:attributeBase o name X.env (eval o X.env)=eval o X.env:=by rfl) (hline:(apos.endLine == cpos.line)=true:=by rfl):PE X (.Call (.Attribute o name apos) [] [] cpos) (XY X.K T r to):=by
 intro pins s σ H Q I h;refine wpAny_Call_method0_late hbase hline (jW (ho pins s σ H _ I h) fun v s1 ⟨x,H1,I1,r1,ty,q1⟩=>?_);obtain ⟨h1,h2⟩:=E1 I1 r1 ty;exact ⟨T,id,pa,slot,hty,h1,h2,Calls.callWith_builtin rfl (PySem.evalArgs_none (hm pins s1 σ H1 x [] v [] Q I1 r1 .nil q1))⟩
theorem yH (pa:PlainAttrs T) (slot:Slot T name id) (hty:typeOf (.builtin id)=pure (.type "method_descriptor")) (hm:xV X id r) (ho:PE X o to) (ha:PA X (e::es) t)
  (hbase:attributeBase o name X.env (eval o X.env)=eval o X.env:=by rfl)
  (hfew:((backTo cpos (starEach (e::es) X.env)).all (fun x => !x.1)&&(backToKw cpos (keywordEach [] X.env)).all (fun x=>x.1.isSome)
   && decide ((e::es).length+([]:List Keyword).length+(if ([]:List Keyword).isEmpty then 0 else 1)<30))=true:=by rfl)
  (hline:(apos.endLine == cpos.line)=true:=by rfl) (hs:starEach (e::es) X.env=(false,eval e X.env)::starEach es X.env:=by rfl) (hplain:(backTo cpos (starEach es X.env)).any (·.1)=false:=by rfl) :
  PE X (.Call (.Attribute o name apos) (e::es) [] cpos) (YR X.K T r to t):=by
 intro pins s σ H Q I h;refine wpAny_Call_method_late hbase hfew hline rfl (jW (ho pins s σ H _ I h) fun v s1 ⟨x,H1,I1,r1,ty,q1⟩=>?_);obtain ⟨h1,h2⟩:=E1 I1 r1 ty;refine ⟨T,id,pa,slot,hty,h1,h2,?_⟩;have hA:=ha cpos pins s1 σ H1 _ I1 q1;rw [hs] at hA ⊢;refine Calls.callWith_builtin (by show (false||(backTo cpos (starEach es X.env)).any (·.1))=false;rw [hplain]<;>rfl) (Calls.evalArgs_plain ?_);exact jW hA fun us s2 ⟨vs,H2,I2,r2,q2⟩=>hm pins s2 σ H2 x vs v us Q I2 r1 r2 q2
/- xs.append(e),list.index on a module's tuple .. are xV facts of 06m -/
end
end L2
namespace L2
open PySem PySem.Spec PyProof.Rows
def iC (X:Cx) (id:String) (r:V->List V->Hp->VK->Prop):Prop :=
 ∀(pins:List (Addr×Obj)) (s:Shared) (σ:St) (H:Hp) (x:V) (xs:List V) (v:Value) (us:List Value) (Q:VK),Inv X pins σ H s->RelV x v->Vals xs us->r x xs H Q->
  wpAny (model X.prog X.w) X.A (call (.builtin id) (v::us)) (EP X pins σ Q) X.xe s
theorem Vals.one:∀{x:V} {us:List Value},Vals [x] us->∃u,us=[u]/\RelV x u
 |_,_,.cons r .nil=>⟨_,rfl,r⟩
theorem Vals.zero:∀{us:List Value},Vals [] us->us=[]
 |_,.nil=>rfl
theorem Vals.dropLast {xs:List V} {us:List Value} (h:Vals xs us):Vals xs.dropLast us.dropLast:=by
 induction h with
 |nil=>exact .nil
 |cons r t ih =>
  cases t with
  |nil=>exact .nil
  |cons q t'=>exact .cons r ih
theorem Vals.rep {xs:List V} {us:List Value} (h:Vals xs us):∀k:Nat,Vals (List.replicate k xs).flatten (List.replicate k us).flatten
 |0=>.nil
 |k+1=>by
  rw [bn,bn,fg,fg];exact Vals.append h (Vals.rep h k)
theorem PK {α:Type} (l:List α):l.eraseIdx (l.length - 1)=l.dropLast:=by
 induction l with
 |nil=>rfl
 |cons a r ih =>
  cases r with
  |nil=>rfl
  |cons b r =>
   have e:(a::b::r).length - 1=((b::r).length - 1)+1:=by
    have h1:(a::b::r).length=r.length+2:=rfl;have h2:(b::r).length=r.length+1:=rfl
    lia
   rw [e,List.eraseIdx_cons_succ,ih]
   all_goals rfl
theorem CC (its:List Value):∀(k:Nat) (acc:List Value),
  List.foldl (fun x1 x2=>x1++x2) acc.toArray (List.replicate k its.toArray)=(acc++(List.replicate k its).flatten).toArray
 |0,acc=>by simp
 |k+1,acc=>by
  have e:acc.toArray++its.toArray=(acc++its).toArray:=by simp
  have e2:(acc++its)++(List.replicate k its).flatten=acc++(List.replicate (k+1) its).flatten:=by
   rw [bn,fg,fh]
  rw [<- e2,<- CC its k (acc++its),<- e,bn,List.foldl_cons]
section
variable {X:Cx} {pins:List (Addr×Obj)} {σ:St} {H:Hp} {s:Shared} {l b:Addr} {xs ys zs:List V}
theorem Inv.lset {its its':List Value} {n:Nat} {f:Array Value->Array Value} {t':Nat} (I:Inv X pins σ H s) (hH:H l=some (.lst xs))
  (e:s.heap.get? l=some {cls:=.type "list",data:=.seq its.toArray n}) (hf:f its.toArray=its'.toArray) (hv:Vals ys its') (hz:ys.length<=sizeLine) :
  Inv X pins σ (upd H l (.lst ys)) {s with heap:=s.heap.update l (Obj.mapSeq f),toks:=t'}:=by
 have q:=PySem.IsL.update e f;rw [hf] at q;refine I.write (x:=l) (e:=l) (by rw [hH];exact trivial) (.inl rfl) (fun b' u hb hu=>(gb s.heap (Obj.mapSeq f) (Ne.symm hb)).trans hu) ⟨_,q⟩ ?_;exact ⟨hz,its',_,hv,q⟩
theorem Inv.lnew {its:List Value} {t':Nat} (I:Inv X pins σ H s) (hv:Vals ys its) (hz:ys.length<=sizeLine) :
  Inv X pins σ (upd H s.heap.objs.size (.lst ys)) {s with heap:=s.heap.push {cls:=.type "list",data:=.seq its.toArray},toks:=t'} :=
 I.laid (fun _ _ q=>ai _ q) (aj _) ⟨hz,its,0,hv,aq _ rfl⟩
theorem Inv.fresh (I:Inv X pins σ H s):H s.heap.objs.size=none:=I.hok.fresh (aj _)
theorem Inv.lstM (I:Inv X pins σ H s) (hH:H l=some (.lst xs)):xs.length<=sizeLine/\∃(its:List Value) (n:Nat),Vals xs its/\xs.length=its.length/\s.heap.get? l=some {cls:=.type "list",data:=.seq its.toArray n}:=by
 obtain ⟨z,its,n,r,e⟩:=I.hok l _ hH;exact ⟨z,its,n,r,r.length,e⟩
theorem DI {n:Nat} (h:n<=sizeLine):Builtin.List.listTooLong n=false:=by
 unfold Builtin.List.listTooLong;exact aH (by lia)
end
section
variable {X:Cx}
def UE:V->List V->Hp->VK->Prop:=fun x vs H Q=>∃l xs y,x=.ref l/\vs=[y]/\H l=some (.lst xs)/\xs.length<sizeLine/\Q .non (upd H l (.lst (xs++[y])))
theorem zE:iC X "list.append" UE:=by
 intro pins s σ H x vs v us Q I rx rv h;obtain ⟨l,xs,y,rfl,rfl,hH,hz,q⟩:=h;cases rx;obtain ⟨u,rfl,ru⟩:=rv.one;obtain ⟨z,its,n,r,hl,e⟩:=I.lstM hH;refine fw F.slot_list_append ⟨_,e,rfl⟩ F.entry_list_append (F.args_list_append_2 _ _) (PySem.list_append l its.toArray n u (by rw [au];lia)) ⟨e,?_⟩;refine ⟨.non,_,I.lset (its':=its++[u]) hH e (by simp) (r.append (.cons ru .nil)) ?_,rfl,q⟩;rw [ag,aO]
 lia
def UD:V->List V->Hp->VK->Prop:=fun x vs H Q=>∃l b xs zs,x=.ref l/\vs=[.ref b]/\H l=some (.lst xs)/\H b=some (.lst zs)/\xs.length+zs.length<=sizeLine/\Q .non (upd H l (.lst (xs++zs)))
theorem B8:iC X "list.extend" UD:=by
 intro pins s σ H x vs v us Q I rx rv h;obtain ⟨l,b,xs,zs,rfl,rfl,hH,hB,hz,q⟩:=h;cases rx;obtain ⟨u,rfl,ru⟩:=rv.one;cases ru;obtain ⟨z,its,n,r,hl,e⟩:=I.lstM hH;obtain ⟨z2,its2,n2,r2,hl2,e2⟩:=I.lstM hB;have hsz:its.toArray.size+its2.toArray.size<=sizeLine:=by rw [au,au];lia
 have hlong:¬(!its.toArray.isEmpty&&Builtin.List.listTooLong (its.toArray.size+its2.toArray.size))=true:=by
  rw [DI hsz,Bool.and_false];exact aB
 refine fw F.slot_list_extend ⟨_,e,rfl⟩ F.entry_list_extend (F.args_list_extend_2 _ _)
  (AutoSeq1.list_extend_list_list_0 l its.toArray n b its2.toArray n2 hlong (by rw [au];lia) (by lia)) ⟨e,e2,?_⟩
 refine ⟨.non,_,I.lset (its':=its++its2) hH e (by simp) (r.append r2) ?_,rfl,q⟩;rw [ag]
 lia
def X2:V->List V->Hp->VK->Prop:=fun x vs H Q=>∃l xs y,x=.ref l/\vs=[]/\H l=some (.lst xs)/\xs[xs.length - 1]?=some y/\Q y (upd H l (.lst xs.dropLast))
theorem V9:iC X "list.pop" X2:=by
 intro pins s σ H x vs v us Q I rx rv h;obtain ⟨l,xs,y,rfl,rfl,hH,hy,q⟩:=h;cases rx;have hus:=rv.zero;subst hus;obtain ⟨z,its,n,r,hl,e⟩:=I.lstM hH;obtain ⟨u,hu,ru⟩:=r.get hy;have hy':its.toArray[its.toArray.size - 1]?=some u:=by
  show its.toArray[its.length - 1]?=some u;rw [<- Array.getElem?_toList,<- hl];exact hu
 refine fw F.slot_list_pop ⟨_,e,rfl⟩ F.entry_list_pop (F.args_list_pop_1 _) (MeetsSeq.list_pop_last l its.toArray n u hy' (by rw [au];lia)) ⟨e,?_⟩;refine ⟨y,_,I.lset (its':=its.dropLast) hH e ?_ r.dropLast ?_,ru,q⟩
 ·show its.toArray.eraseIdxIfInBounds (its.toArray.size - 1)=its.dropLast.toArray;rw [au,List.eraseIdxIfInBounds_toArray,PK]
 ·rw [List.length_dropLast]
  lia
def X4:R2:=fun x y H Q=>∃l b xs zs,x=.ref l/\y=.ref b/\H l=some (.lst xs)/\H b=some (.lst zs)/\xs.length+zs.length<=sizeLine/\∀p,H p=none->Q (.ref p) (upd H p (.lst (xs++zs)))
theorem bB:qM X (binaryOp .Add) X4:=by
 intro pins s σ H x y v u Q I rx ry h;obtain ⟨l,b,xs,zs,rfl,rfl,hH,hB,hz,q⟩:=h;cases rx;cases ry;obtain ⟨z,its,n,r,hl,e⟩:=I.lstM hH;obtain ⟨z2,its2,n2,r2,hl2,e2⟩:=I.lstM hB;refine PySem.P.add_list e e2 ?_ (by rw [au,au];lia);have ea:its.toArray++its2.toArray=(its++its2).toArray:=by simp
 rw [ea];exact ⟨.ref _,_,I.lnew (t':=s.toks) (r.append r2) (by rw [ag];lia),rfl,q _ I.fresh⟩
def X1:R2:=fun x y H Q=>∃l k xs,x=.ref l/\y=.int k/\H l=some (.lst xs)/\-(2 ^ 63)<=k/\k<2 ^ 63/\xs.length*k.toNat<=sizeLine/\
 ∀p,H p=none->Q (.ref p) (upd H p (.lst (List.replicate k.toNat xs).flatten))
theorem EN {α:Type} (xs:List α) (k:Nat):(List.replicate k xs).flatten.length=k*xs.length:=by
 induction k with
 |zero=>simp
 |succ k ih=>rw [bn,fg,ag,ih,Nat.succ_mul,Nat.add_comm]
theorem FA:qM X (binaryOp .Mult) X1:=by
 intro pins s σ H x y v u Q I rx ry h;obtain ⟨l,k,xs,rfl,rfl,hH,h1,h2,hz,q⟩:=h;cases rx;obtain ⟨t,rfl⟩:=ry;obtain ⟨z,its,n,r,hl,e⟩:=I.lstM hH;have hlen:its.toArray.size*k.toNat<=sizeLine:=by rw [au,<- hl];exact hz
 have hcap:¬its.toArray.size*k.toNat>(2 ^ 63 - 1) / 8:=by
  have:(sizeLine:Nat)<=(2 ^ 63 - 1) / 8:=by decide
  lia
 have hfit:¬(!Builtin.List.listFitsIndex k)=true:=by
  rw [fitsIndex_both h1 h2];exact aB
 have hlong:¬Builtin.List.listTooLong (its.toArray.size*k.toNat)=true:=by
  rw [DI hlen];exact aB
 have hnew:List.foldl (fun x1 x2=>x1++x2) #[] (List.replicate (if its.toArray.isEmpty=true then 0 else k.toNat) its.toArray)=(List.replicate k.toNat its).flatten.toArray:=by
  have f0:∀m:Nat,List.foldl (fun x1 x2=>x1++x2) #[] (List.replicate m its.toArray)=(List.replicate m its).flatten.toArray:=fun m=>by
   have:=CC its m [];rw [List.nil_append] at this;exact this
  rw [f0];cases its with
  |nil=>simp
  |cons a r'=>rw [if_neg (by simp)]
 refine wpAny_binaryOp_repeat_ref (T:="list") (U:="int") (by decide) ⟨_,e,rfl⟩ (fun s'=>typeIs_int s' k t) noFill_list_mul F.fills_int_mul iw repeat_list F.slot_int_index.lookup
  (fw iw (typeIs_int s k t) F.entry_int_rmul (F.args_int_rmul_2 _ _) (int___rmul___int_list k t l its.toArray n)
   ⟨e,rfl,⟨_,e,rfl⟩,fw F.slot_list_mul ⟨_,e,rfl⟩ F.entry_list_mul (F.args_list_mul_2 _ _) (AutoListH.list___mul___list_int_3 l its.toArray n k t hfit hcap hlong) ⟨e,?_⟩⟩)
 rw [hnew];exact ⟨.ref _,_,I.lnew (t':=s.toks) (r.rep k.toNat) (by rw [EN,Nat.mul_comm];exact hz),rfl,q _ I.fresh⟩
end
section
variable {prog:Program} {w:World} {A:Around} {E:Value->Shared->Prop} {s:Shared}
end
section
variable {X:Cx}
end
end L2
namespace Att
open PySem PySem.W PySem.Calls PyProof.Rows
theorem NT {P:Params} {h:Heap}:∀(ns:List Int) (vs:List Value),WellAll P h vs (ns.map WData.int)->IntsAre vs ns:=by
 intro ns
 induction ns with
 |nil =>
  intro vs w;rw [List.map_nil] at w;cases w;exact .nil
 |cons n ns ih =>
  intro vs w;rw [List.map_cons] at w;cases w with
  |cons a b =>
   cases a;exact .cons _ _ (ih _ b)
theorem P9 {l:OpenLaw} {n:Nat} (hn:l.most=some n) {P:Params} {h:Heap} {args:List WData} {vals:List Value}
  (hpre:l.row.toRowW.claim.pre args=true) (hwl:WellAll P h vals args) :
  ∃a vs ns,vals=[Value.ref a]/\args=[WData.list (ns.map WData.int)]/\h.get? a=some {cls:=.type "list",data:=.seq vs.toArray}/\IntsAre vs ns/\ns.length<=n:=by
 have hsh:WShape.hasAll [] args [.list .int]=true:=(pre_splitW hpre).1;have hc:l.pre.holds [] {args:=args}=true:=(pre_splitW hpre).2;obtain ⟨d,r,rfl,h1,h2⟩:=hasAllW_cons hsh;obtain rfl:=hasAllW_nil h2;obtain ⟨xs,rfl,h3⟩:=hasW_list h1;obtain ⟨ns,rfl⟩:=items_int h3;have hlen:ns.length<=n:=by
  unfold OpenLaw.pre at hc;have h4:(WTm.not (.lt (.lit (.int (n:Int))) (.len (.arg 0)))).holds [] {args:=[.list (ns.map .int)]}=true:=by
   have h4:=(holds_andW hc).1;rw [hn] at h4;exact h4
  have h5:=condW_of h4 (w_not (w_lt w_lit (w_len_list (w_arg rfl))));rw [List.length_map] at h5;refine Nat.le_of_not_lt fun q=>?_
  have q':(n:Int)<((ns.length:Nat):Int):=by lia
  first
   | (rw [decide_eq_true q'] at h5;exact absurd h5 (by decide))
   | (simp at h5;lia)
 cases hwl with
 |cons w1 w2 =>
  cases w2;cases w1 with
  |list ho hall=>exact ⟨_,_,ns,rfl,rfl,ho,NT ns _ hall,hlen⟩
theorem RD (l:OpenLaw) (args:List WData):l.row.toRowW.claim.post args (.bool true) args=true :=
 postW_of (r:=l.row.toRowW) (X:=(true == true))
  (show WShape.has [] (.bool true) .bool=true by first|rfl|decide|simp [WShape.has,WShape.arms,WShape.armsAll])
  (show (WTm.eq .res (.lit (.bool true))).value [] {args:=args,res:=some (.bool true),after:=args}=some (.bool (true == true)) from w_eq_bool (w_res rfl) w_lit) rfl
theorem attach_call {l:OpenLaw} {n:Nat} {q:Program} {loose:List Str} {XP:(Str->Option Value)->Heap->Prop} {YP:World->Heap->Prop} {d:DefRec}
  (hn:l.most=some n) (hdf:d.params.defaults=[])
  (call:∀(w:World) (s₀ s₁:Shared) (mg mb:Str->Option Value) (fa:Addr) (o:Obj) (pm cd doc:Value) (a:Addr) (vs:List Value) (ns:List Int),
   Ground q loose [] XP w s₀ mg mb s₁.heap->YP w s₁.heap->
   s₁.heap.get? fa=some o->o.data=.func (docDef d.name d.params d.body d.scope pm cd doc)->s₁.heap.CodeRec cd d.name->mg d.name=some (.ref fa)->
   s₁.heap.get? a=some {cls:=.type "list",data:=.seq vs.toArray}->IntsAre vs ns->ns.length<=n->s₁.gens = #[]->
   codeAny (model l.prog w) callerA (.call (.ref fa) ⟨[.ref a],[]⟩) (fun r s'=>r=.ok (.ret (.bool true))/\OldK s₁.heap s'.heap/\s'.os=s₁.os/\AllBare s'.gens) s₁) :
  WalkO q loose XP YP l.row.toRowW d [] (fun f vs=>PySem.call f vs):=by
 intro w s₀ s₁ mg mb G Y fa o pm cd doc dV kV ho hd hcd hD hmg hg args vals as hpre hlay hrd hwl hlo;obtain rfl:dV=.none:=Dflts.none hD hdf;obtain rfl:kV=.none:=Dflts.noKw hD;obtain ⟨a,vs,ns,rfl,rfl,hobj,hints,hlen⟩:=P9 hn hpre hwl;refine enter_call (codeAny_mono (call w s₀ s₁ mg mb fa o pm cd doc a vs ns G Y ho (fd_plain hd) hcd hmg hobj hints hlen hg) fun r s' hq=>?_);obtain ⟨rfl,h2,h3,h4⟩:=hq;exact ⟨.inl ⟨.bool true,.bool true,[],rfl,fun _=>rfl,.bool true,RD l _,fun _=>⟨List.Pairwise.nil,fun _ hm=>(nomatch hm)⟩⟩,h2,h3,h4⟩
section
variable {prog:Program} {w:World} {A:Around} {E:Value->Shared->Prop} {s:Shared} {K:Frag}
def YY (h:Heap) (L d:Addr):List (Addr×Obj):=(List.range h.objs.size).filterMap fun a=>if a=L\/a=d then none else (h.get? a).map fun o=>(a,o)
end
end Att
namespace L2
open PySem PySem.Spec PyProof.Rows
theorem BS:∀{vs:List Value} {ns:List Int},IntsAre vs ns->Vals (ns.map V.int) vs
 |_,_,.nil=>.nil
 |_,_,.cons n t h=>.cons ⟨t,rfl⟩ (BS h)
def xG (H:Hp):Prop:=∀b,H b=none\/∃o xs,H b=some (.frz o (.lst xs))
theorem S7 {P:Program} {w:World} {K:PySem.W.Frag} {mg mb:Str->Option Value} {CX:yL} {k:Nat} {fa a:Addr} {fd:FuncData} {x:Str} {sp:Sp} {s₁:Shared} {vs:List Value} {ns:List Int}
  (KX:K.In s₁.heap) (hns:s₁.heap.Ns mainGlobals mg) (hb:s₁.heap.Ns builtinsNs mb) (hbb:∀x:Str,x≠"__name__"->mb x=bootBuiltins x) (hlim:s₁.heap.NoLimit) (hg:s₁.gens = #[])
  (ha:s₁.heap.get? a=some {cls:=.type "list",data:=.seq vs.toArray}) (hi:IntsAre vs ns) (hl:ns.length<=sizeLine) (hr:Room k callerA)
  (F:∀base:Heap,K.In base->base.Ns mainGlobals mg->FnOk P w K mg base CX k fa fd [x] sp) (hbind:∀(s:Shared) (u:Value),BindsTo s fd ⟨[u],[]⟩ [(x,u)])
  (hsp:∀H:Hp,xG H->SqL K H a (ns.map V.int)->sp [.ref a] H (fun v _=>v=.bl true) fun _ _ _=>False)
  (hCX:∀H e s',CX [] H s₁ (fun _ _ _=>False) e s'->False) :
  codeAny (model P w) callerA (.call (.ref fa) ⟨[.ref a],[]⟩) (fun r s'=>r=.ok (.ret (.bool true))/\OldK s₁.heap s'.heap/\s'.os=s₁.os/\AllBare s'.gens) s₁:=by
 have rv:=BS hi;have lenV:=hi.length;have core:∀H:Hp,xG H->SqL K H a (ns.map V.int)->HOk P w H s₁.heap->(∀b,H b≠none->b=a)->(H a≠none->K.lookup a=none)->
   codeAny (model P w) callerA (.call (.ref fa) ⟨[.ref a],[]⟩) (fun r s'=>r=.ok (.ret (.bool true))/\OldK s₁.heap s'.heap/\s'.os=s₁.os/\AllBare s'.gens) s₁:=by
  intro H hO hS hok hA hK;have base_of:∀{b:Addr} {o:Obj},s₁.heap.get? b=some o->H b=none->(ZQ s₁.heap H).get? b=some o:=fun e n=>S8 e n
  have noA:∀{b:Addr} {o:Obj} {es:Array DictEntry} {ep:Nat},s₁.heap.get? b=some o->o.data=.dict es ep->H b=none:=fun {b o es ep} e d=>by
   cases q:H b with
   |none=>rfl
   |some u =>
    have e':b=a:=hA b (by rw [q];simp);subst e';rw [ha] at e;cases e
    have d':Data.seq vs.toArray _=Data.dict es ep:=d;cases d'
  have nsK:∀{b:Addr} {m:Str->Option Value},s₁.heap.Ns b m->(ZQ s₁.heap H).Ns b m:=fun {b m} ⟨o,es,ep,e,d,r⟩=>⟨o,es,ep,base_of e (noA e d),d,r⟩
  have hKb:K.In (ZQ s₁.heap H):=fun b o e=>base_of (KX b o e) (by
   cases q:H b with
   |none=>rfl
   |some u =>
    have e':b=a:=hA b (by rw [q];simp);subst e';rw [hK (by rw [q];simp)] at e;cases e)
  have hM:Mod K mg (ZQ s₁.heap H):=⟨hKb,nsK hns,⟨mb,nsK hb,hbb⟩,let ⟨mc,h1,h2⟩:=hlim;⟨mc,nsK h1,h2⟩⟩;have e0:Env0 P w K mg (ZQ s₁.heap H) callerA [] s₁ H:=⟨rfl,hM,fun b o e=>US e,Nat.le_of_eq (RU _ _),trivial,fun b hb=>absurd (show b∈([]:List Addr) from hb) (by simp),hok,.of_eq hg⟩;refine ka ((F _ hKb (nsK hns)).run callerA [] s₁ H ⟨[.ref a],[]⟩ [.ref a] [.ref a] _ _ hr e0 (hbind s₁ (.ref a)) (.cons rfl .nil) (hsp H hO hS)) fun r s' h=>?_
  cases r with
  |error e=>exact (hCX H e s' h).elim
  |ok fl =>
   cases fl with
   |next=>exact False.elim h
   |brk=>exact False.elim h
   |cont=>exact False.elim h
   |ret u =>
    obtain ⟨v,H',os,bare,un,hok',r',q⟩:=h;have q':v=.bl true:=q;subst q';obtain rfl:u=Value.bool true:=r';refine ⟨rfl,OldK.of_keep fun b o e=>?_,os,bare⟩;cases q:H b with
    |none=>exact un.keep b o e q (by intro z;exact absurd (show b∈([]:List Addr) from z) (by simp)) (by simp)
    |some u =>
     rcases hO b with z|⟨ob,xs,z⟩
     ·rw [q] at z;cases z
     ·have z2:=un.frzs b ob _ z;obtain ⟨e1,_⟩:=hok b _ z;obtain ⟨e2,_⟩:=hok' b _ z2;rw [e] at e1;cases e1
      exact e2
 cases hk:K.lookup a with
 |some o =>
  have e:=KX a o hk;rw [ha] at e;cases e;refine core (fun _=>none) (fun _=>.inl rfl) (.inr ⟨_,vs.toArray,_,hk,rfl,rfl,rfl,by rw [au,lenV];exact hl,by simpa using rv⟩) (fun b u z=>by have z':(none:Option HO)=some u:=z;cases z') (fun b z=>absurd rfl z) fun z=>absurd rfl z
 |none =>
  refine core (fun b=>if b=a then some (.frz {cls:=.type "list",data:=.seq vs.toArray} (.lst (ns.map V.int))) else none) (fun b=>?_) (.inl (.inr ⟨{cls:=.type "list",data:=.seq vs.toArray},if_pos rfl⟩)) (fun b u z=>?_) (fun b z=>?_) fun _=>hk
  ·by_cases hb:b=a
   ·exact .inr ⟨_,_,if_pos hb⟩
   ·exact .inl (if_neg hb)
  ·by_cases hb:b=a
   ·have z':=(if_pos hb).symm.trans z;cases z';subst hb;exact ⟨ha,by rw [ac];exact hl,vs,_,rv,ha⟩
   ·have z':=(if_neg hb).symm.trans z;cases z'
  ·by_cases hb:b=a
   ·exact hb
   ·exact absurd (if_neg hb) z
theorem walk_of {l:PySem.W.OpenLaw} {n k:Nat} {q:Program} {loose:List Str} {XP:(Str->Option Value)->Heap->Prop} {YP:World->Heap->Prop} {d:DefRec} {K:Params->PySem.W.Frag} {CX:World->yL} {sp:World->Sp} {x:Str}
  (hn:l.most=some n) (hn2:n<=sizeLine) (hdf:d.params.defaults=[]) (hr:Room k callerA)
  (hY:∀(w:World) (h:Heap),YP w h->(K w.params).In h)
  (F:∀(w:World) (mg:Str->Option Value) (fa:Addr) (h:Heap),(K w.params).In h->h.Ns mainGlobals mg->mg d.name=some (.ref fa)->
   ∃fd:FuncData,(∀(s:Shared) (u:Value),BindsTo s fd ⟨[u],[]⟩ [(x,u)])/\
    ∀base:Heap,(K w.params).In base->base.Ns mainGlobals mg->FnOk l.prog w (K w.params) mg base (CX w) k fa fd [x] (sp w))
  (hsp:∀(w:World) (H:Hp) (a:Addr) (ns:List Int),ns.length<=n->xG H->SqL (K w.params) H a (ns.map V.int)->sp w [.ref a] H (fun v _=>v=.bl true) fun _ _ _=>False)
  (hCX:∀(w:World) (H:Hp) (s:Shared) (e:Value) (s':Shared),CX w [] H s (fun _ _ _=>False) e s'->False) :
  PySem.W.WalkO q loose XP YP l.row.toRowW d [] (fun f vs=>PySem.call f vs):=by
 refine Att.attach_call hn hdf fun w s₀ s₁ mg mb fa o pm cd doc a vs ns G Y ho hd hcd hmg hobj hints hlen hg=>?_
 have KX:=hY w _ Y;obtain ⟨fd,hb,hF⟩:=F w mg fa _ KX G.T.g hmg;exact S7 KX G.T.g G.T.b G.T.builtins G.T.nolimit hg hobj hints (aK hlen hn2) hr hF hb (fun H hO hS=>hsp w H a ns hlen hO hS) fun H e s'=>hCX w H s₁ e s'
def qY (s:Stmt) (j:Nat):Stmt:=match s with
 |.ClassDef _ _ _ body _ _ _ _ _ _ _=>body.getD j (.Pass ⟨0,0,0,0⟩)
 |_=>.Pass ⟨0,0,0,0⟩
def vH (s:Stmt):Arguments:=match s with
 |.FunctionDef _ a _ _ _ _ _ _ _ _=>a
 |_=>{posonlyargs:=[],args:=[],vararg:=none,kwonlyargs:=[],kw_defaults:=[],kwarg:=none,defaults:=[]}
def qT (s:Stmt):List Stmt:=match s with
 |.FunctionDef _ _ b _ _ _ _ _ _ _=>b
 |_=>[]
def j8 (s:Stmt):Scope:=match s with
 |.FunctionDef _ _ _ _ _ _ sc _ _ _=>sc
 |_=>{kind:=.function,names:=[],isGenerator:=false,isCoroutine:=false}
abbrev jX:yL:=fun _ _ _ _ _ _=>False
abbrev E0:XK:=fun _ _ _=>False
theorem eP {X:Cx}:b7 jX X E0:=fun _ _ _ _ _ _ _ h=>h.elim
structure Fun (K:PySem.W.Frag) (x qual:Str) (st:Stmt) (f:Addr) (fd:FuncData):Prop where
 ex:∃(oc:Value) (od:Option Addr) (kV doc pm:Value) (an:Option Addr) (cdv ct:Value) (osl:Array (Option Value)),
  fd=PySem.W.fnOf x qual (vH st) (qT st) (j8 st) .none kV doc pm an cdv ct/\K.lookup f=some ⟨oc,od,.func fd,osl⟩/\PySem.W.codeIn K cdv qual=true
 kp:PySem.W.keepIn K (.ref f)=true
section
variable {P:Program} {w:World} {K:PySem.W.Frag} {mg:Str->Option Value} {base:Heap}
theorem Fun.ok {x qual:Str} {st:Stmt} {f:Addr} {fd:FuncData} {N ps:List Str} {k:Nat} {sp:Sp} (F:Fun K x qual st f fd) (S:FnScope N ps (j8 st)) (len:∀vs H Q E,sp vs H Q E->vs.length=ps.length)
  (hbody:∀(cdv:Value) (A:Around) (outer:List Env) (s:Shared) (H:Hp) (vs:List V) (Q:VK) (E:XK),Room k (A.deeper (envOfC qual (j8 st) s.heap.objs.size f cdv))->sp vs H Q E->
   ∃t,PSs (qC jX P w K mg base N qual (j8 st) f cdv A outer s H E).nox (qT st) t/\t {nx:=fun _ H'=>Q .non H',rt:=Q} (start N vs) H):FnOk P w K mg base jX (k+1) f fd ps sp:=by
 obtain ⟨oc,od,kV,doc,pm,an,cdv,ct,osl,rfl,lk,hcd⟩:=F.ex;refine wU lk hcd S len fun A outer s H vs Q E hr hsp=>?_
 obtain ⟨t,h,q⟩:=hbody cdv A outer s H vs Q E hr hsp;exact ⟨t,h.nox,q⟩
theorem Fun.binds {x qual:Str} {st:Stmt} {f:Addr} {fd:FuncData} {ps:List Str} (F:Fun K x qual st f fd)
  (h:∀(kV doc pm:Value) (an:Option Addr) (cdv ct:Value) (us:List Value),us.length=ps.length->bindArgs (PySem.W.fnOf x qual (vH st) (qT st) (j8 st) .none kV doc pm an cdv ct) ⟨us,[]⟩=pure (ps.zip us)):Binds K fd ps []:=by
 obtain ⟨oc,od,kV,doc,pm,an,cdv,ct,osl,rfl,lk,hcd⟩:=F.ex;exact .all (h kV doc pm an cdv ct)
theorem iH {x qual:Str} {st:Stmt} {f:Addr} {oc:Value} {od an:Option Addr} {osl:Array (Option Value)} {kV doc pm cdv ct:Value} (l:K.lookup f=some ⟨oc,od,.func (PySem.W.fnOf x qual (vH st) (qT st) (j8 st) .none kV doc pm an cdv ct),osl⟩)
  (c:PySem.W.codeIn K cdv qual=true) (k:PySem.W.keepIn K (.ref f)=true):Fun K x qual st f (PySem.W.fnOf x qual (vH st) (qT st) (j8 st) .none kV doc pm an cdv ct):=⟨⟨oc,od,kV,doc,pm,an,cdv,ct,osl,rfl,l,c⟩,k⟩
end
theorem wT {A:Around} {k:Nat} (hr:Room k A):A.units+1<cLine:=cx (Nat.add_le_add_left (by decide:1<=64) _) hr.units
theorem qJ {n:Nat} (h:n<=1000):n<sizeLine:=cx h (by decide)
section
variable {X:Cx}
theorem pv (i:Nat) {x:Str} {pos:Pos} (hN:X.N[i]?=some x:=by rfl) (hv:oB X.env.scope x:=by first|exact Or.inl rfl|exact Or.inr (Or.inl rfl)|exact Or.inr (Or.inr rfl)) (hd:(x == ("__debug__":Str))=false:=by decide)
  (hcd:(x == ("__classdict__":Str))=false:=by decide):PE X (.Name x pos) (GB i):=V3 hN hv hd hcd
end
variable {A B:Prop}
theorem qV (h:B):if false=true then A else B:=by
 rw [if_neg aB];exact h
theorem kW (h:A):if true=true then A else B:=by
 rw [if_pos rfl];exact h
theorem ZP {c:Prop} [Decidable c] (h1:c->A) (h2:¬c->B):if c then A else B:=by
 by_cases h:c
 ·rw [if_pos h];exact h1 h
 ·rw [if_neg h];exact h2 h
theorem ZJ {c:Prop} [Decidable c] (hc:c) (h:B):if (!decide c)=true then A else B:=by
 rw [aV hc];exact qV h
def Same (H H':Hp):Prop:=∀b o,H b=some o->H' b=some o
theorem Same.refl (H:Hp):Same H H:=fun _ _ h=>h
variable {H:Hp}
theorem Same.trans {H1 H2:Hp} (a:Same H H1) (b:Same H1 H2):Same H H2:=fun c o h=>b c o (a c o h)
theorem Same.free {H':Hp} (e:Same H H') {l:Addr} (h:H' l=Option.none):H l=Option.none:=by
 cases q:H l with
 |none=>rfl
 |some o =>
  rw [e l o q] at h;cases h
theorem Same.seq {K:PySem.W.Frag} {H':Hp} {a:Addr} {xs:List V} (e:Same H H') (h:SqL K H a xs):SqL K H' a xs:=by
 rcases h with (h|⟨o,h⟩)|h
 ·exact .inl (.inl (e _ _ h))
 ·exact .inl (.inr ⟨o,e _ _ h⟩)
 ·exact .inr h
end L2
namespace L2
open PySem PySem.Spec PyProof.Rows
def yM (cells:List (Str×Addr)):List (Str×NameKind)->List (Str×Addr)->List (Str×Addr)
 |[],cs=>cs
 | (n,k)::r,cs=>if (k == NameKind.free)=true then yM cells r ((n,(cells.lookup n).getD 0)::cs) else yM cells r cs
variable {scope:Scope}
theorem sW {env:Env} (h:∀x∈scope.names,x.2=.free->∃c,env.cells.lookup x.1=some c):closureFor scope env=pure (yM env.cells scope.names []):=by
 simp only [closureFor];have go:∀(l:List (Str×NameKind)) (cs:List (Str×Addr)),(∀x∈l,x.2=.free->∃c,env.cells.lookup x.1=some c)->
   (forIn l cs fun x r=>match x with|(name,kind)=>if (kind == NameKind.free)=true then do let a <- cellOf env name;pure (ForInStep.yield ((name,a)::r)) else pure (ForInStep.yield r):Sem (List (Str×Addr)))=pure (yM env.cells l cs):=by
  intro l
  induction l with
  |nil=>intro cs _;rfl
  |cons p r ih =>
   intro cs hp;obtain ⟨n,k⟩:=p;rw [hV];have hr:=fun cs=>ih cs fun x hx=>hp x (aI _ hx)
   by_cases hk:(k == NameKind.free)=true
   ·have hk':k=NameKind.free:=by simpa using hk
    obtain ⟨c,hc⟩:=hp (n,k) aY hk';have hc':env.cells.lookup n=some c:=hc;simp only [hk,if_true,yM,cellOf,hc',Option.getD_some,pure_bind];exact hr _
   ·simp only [hk,if_false,yM,pure_bind];exact hr _
 rw [go scope.names [] h];rfl
theorem lJ {cells:List (Str×Addr)}:∀{l:List (Str×NameKind)} {cs:List (Str×Addr)} {x:Str} {c:Addr},(∀y∈l,y.2=.free->∃c,cells.lookup y.1=some c)->(∀y d,cs.lookup y=some d->cells.lookup y=some d)->
  (yM cells l cs).lookup x=some c->cells.lookup x=some c
 |[],cs,x,c,_,hc,e=>hc x c e
 | (n,k)::r,cs,x,c,hl,hc,e=>by
  unfold yM at e
  by_cases hk:(k == NameKind.free)=true
  ·rw [if_pos hk] at e;obtain ⟨d,hd⟩:=hl (n,k) aY (by simpa using hk);have hd':cells.lookup n=some d:=hd;refine lJ (fun y hy=>hl y (aI _ hy)) (fun y d' q=>?_) e;rw [cv] at q
   by_cases hy:(y == n)=true
   ·rw [hy] at q;have hyn:y=n:=by simpa using hy
    subst hyn;rw [hd'] at q ⊢;exact q
   ·rw [Bool.not_eq_true] at hy;rw [hy] at q;exact hc y d' q
  ·rw [if_neg hk] at e;exact lJ (fun y hy=>hl y (aI _ hy)) hc e
theorem tJ {cells:List (Str×Addr)}:∀{l:List (Str×NameKind)} {cs:List (Str×Addr)} {x:Str},(∃c,cs.lookup x=some c)->∃c,(yM cells l cs).lookup x=some c
 |[],_,_,h=>h
 | (n,k)::r,cs,x,h=>by
  unfold yM
  by_cases hk:(k == NameKind.free)=true
  ·rw [if_pos hk];refine tJ ?_;rw [cv]
   by_cases hy:(x == n)=true
   ·rw [hy];exact ⟨_,rfl⟩
   ·rw [Bool.not_eq_true] at hy;rw [hy];exact h
  ·rw [if_neg hk];exact tJ h
theorem lO {cells:List (Str×Addr)}:∀{l:List (Str×NameKind)} {cs:List (Str×Addr)} {x:Str},(x,NameKind.free)∈l->∃c,(yM cells l cs).lookup x=some c
 | (n,k)::r,cs,x,h=>by
  unfold yM
  rcases ao.mp h with e|e
  ·cases e;rw [if_pos (by rfl)];exact tJ (by rw [cv,ft];exact ⟨_,rfl⟩)
  ·by_cases hk:(k == NameKind.free)=true
   ·rw [if_pos hk];exact lO e
   ·rw [if_neg hk];exact lO e
def qP (X:Cx) (N:List Str) (scope:Scope) (C:Addr) (s:Shared) (H:Hp) (pins:List (Addr×Obj)) (fp:List Addr):Cx where
 prog:=X.prog
 w:=X.w
 K:=X.K
 mg:=X.mg
 base:=X.base
 A:=X.A
 N:=N
 s₀:=s
 H₀:=H
 env:=compEnvC scope (yM X.env.cells scope.names []) C X.env
 outer:=X.stack
 stack:=X.stack
 ex:=fp
 fn:=fun _=>false
 calm:=X.calm
 pn:=X.pn++pins
 xe:=fun _ _=>False
structure CompScope (X:Cx) (scope:Scope):Prop where
 kind:scope.kind=.function
 nocell:∀y∈scope.names,y.2≠.cell
 names:∀y∈scope.names,y.2=.local->scope.names.lookup y.1=some .local
 free:∀y∈scope.names,y.2=.free->X.env.kindOf y.1=some .cell\/X.env.kindOf y.1=some .free
theorem sV {env:Env} {x:Str}:∀{names:List (Str×NameKind)} {k:NameKind},(names.map fun (n,k)=>if (k == NameKind.free&&env.scope.kind == .function&&env.kindOf n == some .cell) then (n,NameKind.cell) else (n,k)).lookup x=some k->
  ∃k',names.lookup x=some k'/\(k'=k\/(k'=.free/\k=.cell/\env.kindOf x=some .cell))
 |[],k,h=>by simp at h
 | (n,k0)::r,k,h=>by
  have ih:=@sV env x r k;have h':List.lookup x ((if (k0 == NameKind.free&&env.scope.kind == .function&&env.kindOf n == some .cell)=true then (n,NameKind.cell) else (n,k0))::r.map fun (n,k)=>if (k == NameKind.free&&env.scope.kind == .function&&env.kindOf n == some .cell)=true then (n,NameKind.cell) else (n,k))=some k:=h
  by_cases hc:(k0 == NameKind.free&&env.scope.kind == .function&&env.kindOf n == some .cell)=true
  ·rw [if_pos hc] at h';rw [cv] at h';cases hx:x == n with
   |true =>
    rw [hx] at h';have hk:NameKind.cell=k:=az h';simp only [fq,gv] at hc;have hxn:x=n:=by simpa using hx
    refine ⟨k0,by rw [cv,hx],.inr ⟨hc.1.1,hk.symm,by rw [hxn];exact hc.2⟩⟩
   |false =>
    rw [hx] at h';obtain ⟨k',e1,e2⟩:=ih h';exact ⟨k',by rw [cv,hx];exact e1,e2⟩
  ·rw [if_neg hc] at h';rw [cv] at h';cases hx:x == n with
   |true =>
    rw [hx] at h';exact ⟨k0,by rw [cv,hx],.inl (az h')⟩
   |false =>
    rw [hx] at h';obtain ⟨k',e1,e2⟩:=ih h';exact ⟨k',by rw [cv,hx];exact e1,e2⟩
theorem tG {α:Type}:∀{l:List (Str×α)} {x:Str} {k:α},l.lookup x=some k->(x,k)∈l
 |[],_,_,h=>by simp at h
 | (n,a)::r,x,k,h=>by
  rw [cv] at h;cases hx:x == n with
  |true =>
   rw [hx] at h;have e:a=k:=az h;have hxn:x=n:=by simpa using hx
   subst e;subst hxn
   exact aY
  |false =>
   rw [hx] at h;exact aI _ (tG h)
def cY (X:Cx) (ifs:List Expr) (t:TT):Prop :=
 ∀(pins:List (Addr×Obj)) (s:Shared) (σ:St) (H:Hp) (Q:Bool->Hp->Prop),Inv X pins σ H s->t σ H Q->
  wpAny (model X.prog X.w) X.A (forIn ifs true fun c r=>if r=true then do let ok <- isTrue c X.env (eval c X.env);pure (ForInStep.yield ok) else pure (ForInStep.yield r)) (TP X pins σ Q) X.xe s
def wZ:TT:=fun _ H Q=>Q true H
variable {X:Cx}
theorem yT:cY X [] wZ:=fun _ _ _ H _ I h=>wpAny_tests_nil ⟨H,I,h⟩
theorem Z6 {c:Expr} {t:TT} (hc:PT X c t):cY X [c] t:=fun pins s σ H Q I h=>wpAny_tests_one (hc pins s σ H Q I h)
def zG (D:Addr) (J:It) (g:TG) (tc:TT) (te:TE) (σ₀:St) (H:Hp) (Q:Hp->Prop):Prop :=
 ∃W:Nat->Nat->St->Hp->Prop,(∃m,W 0 m σ₀ (upd H D (.lst [])))/\∀i m σ' H',W i m σ' H'->
  (J.stop i H'/\Q H')\/(J.go i H'/\∃N:St->Hp->Prop,(∀σ'' H'',N σ'' H''->∃m',m'<m/\W (i+1) m' σ'' H'')/\∀x H2,J.yld i H' x H2->g x σ' H2 fun σ2 H3=>tc σ2 H3 fun b H4 =>
   if b=true then te σ2 H4 fun v H5=>∃xs,H5 D=some (.lst xs)/\xs.length<sizeLine/\N σ2 (upd H5 D (.lst (xs++[v]))) else N σ2 H4)
def mS (wi:TI) (cap:St->St) (g:TG) (tc:TT) (te:TE):TE:=fun σ H Q=>wi σ H fun J H1=>∀D,H1 D=none->zG D J g tc te (cap σ) H1 fun H'=>Q (.ref D) H'
def SI (i:Nat) (wi:TI) (cap:St->St) (g:TG) (tc:TT) (te:TE):TS:=fun D σ H=>wi σ H fun J H1=>∀d,H1 d=none->zG d J g tc te (cap σ) H1 fun H'=>D.nx (σ.set i (some (.ref d))) H'
def ZT (X:Cx) (N:List Str) (scope:Scope) (cap:St->St):Prop :=
 ∀σ:St,σ.length=X.N.length->(cap σ).length=N.length/\∀(i:Nat) (x:Str) (v:V),N[i]?=some x->(cap σ)[i]?=some (some v)->scope.names.lookup x=some .free/\∃j:Nat,X.N[j]?=some x/\σ[j]?=some (some v)
def qW (n:Nat) (js:List Nat):St->St:=fun σ=>List.replicate n none++js.map fun j=>(σ[j]?).join
theorem HE {N:List Str} (n:Nat) (js:List Nat) (h1:N.length=n+js.length) (h2:js.map (fun j=>X.N[j]?)=(N.drop n).map some) (h3:∀x∈N.drop n,scope.names.lookup x=some .free):ZT X N scope (qW n js):=by
 intro σ hσ;refine ⟨by unfold qW;rw [ag,bw,ac,h1],fun i x v e1 e2=>?_⟩;unfold qW at e2
 by_cases hi:i<n
 ·rw [aC (by simpa using hi),hU,if_pos hi] at e2;cases e2
 ·rw [aE (by simpa using hi),bw,ak] at e2;cases hj:js[i - n]? with
  |none=>rw [hj] at e2;cases e2
  |some j =>
   rw [hj] at e2;have e3:(σ[j]?).join=some v:=az e2;have e4:σ[j]?=some (some v):=by
    cases q:σ[j]? with
    |none=>rw [q] at e3;cases e3
    |some o =>
     rw [q] at e3;have e5:o=some v:=e3;rw [e5]
   have hd:(N.drop n)[i - n]?=some x:=by
    rw [List.getElem?_drop,show n+(i - n)=i by lia];exact e1
   have e5:=bz (fun l=>l[i - n]?) h2;simp only [ak,hj,hd,Option.map_some] at e5;exact ⟨h3 x (av hd),j,az e5,e4⟩
theorem HD (sc:Scope) (hsc:X.env.scope=sc) (kind:scope.kind=.function) (nocell:∀y∈scope.names,y.2≠.cell) (names:∀y∈scope.names,y.2=.local->scope.names.lookup y.1=some .local)
  (free:∀y∈scope.names,y.2=.free->sc.names.lookup y.1=some .cell\/sc.names.lookup y.1=some .free):CompScope X scope:=⟨kind,nocell,names,fun y hy hf=>by
 subst hsc;exact free y hy hf⟩
section
variable {X:Cx} {N:List Str} {scope:Scope} {pins:List (Addr×Obj)} {σ:St} {H:Hp} {s:Shared} {fp:List Addr}
theorem fR (S:CompScope X scope) (I:Inv X pins σ H s):∀y∈scope.names,y.2=.free->∃c,X.env.cells.lookup y.1=some c:=fun y hy hf=>I.ok.has y.1 (S.free y hy hf)
theorem TV {cap:St->St} {D C:Addr} {h₁:Heap} {t':Nat} {m:Str->Option Value} (S:CompScope X scope) (I:Inv X pins σ H s) (hcap:ZT X N scope cap) (hf:∀b∈fp,JG X pins H b) (hfo:∀b∈fp,∃o,s.heap.get? b=some o)
  (hD:s.heap.objs.size<=D) (hC:s.heap.objs.size<=C) (hDC:D≠C) (old:∀b o,s.heap.get? b=some o->h₁.get? b=some o) (hns:h₁.Ns C m) (hl:h₁.get? D=some {cls:=.type "list",data:=.seq ([]:List Value).toArray}) :
  Inv (qP X N scope C s H pins fp) [] (cap σ) (upd H D (.lst [])) {s with heap:=h₁,toks:=t'}:=by
 have cellsOk:=fR S I;have look:∀x c,(yM X.env.cells scope.names []).lookup x=some c->X.env.cells.lookup x=some c:=fun x c e=>lJ cellsOk (fun y d q=>by simp at q) e
 have lt:∀{b:Addr} {o:Obj},s.heap.get? b=some o->b<s.heap.objs.size:=fun e=>ar e
 have cellLt:∀x c,X.env.cells.lookup x=some c->c<s.heap.objs.size:=fun x c e=>by
  obtain ⟨v,o,ho,_⟩:=I.cell x c e;exact lt ho
 have nD:H D=none:=I.hok.fresh hD;have nC:H C=none:=I.hok.fresh hC;have stkNe:∀b:Addr,b≠X.env.locals->b∉X.fs->b∉kM X.stack:=fun b h1 h2 z=>by
  rcases ao.mp (I.stkSub b z) with e|e
  ·exact h1 e
  ·exact h2 e
 refine ⟨⟨I.ok.mod,S.kind,I.ok.glob,I.ok.blt,hC,fun x y c h1 h2=>I.ok.inj x y c (look x c h1) (look y c h2),fun x hx=>?_,fun x c hfn _=>(nomatch hfn),I.ok.hd,I.ok.frames,.inl rfl,fun b hb=>⟨?_,fun x c e=>(hf b hb).2.2.2.2.1 x c (look x c e)⟩,
   I.bs,aK I.ok.bsz I.sz,fun b o e hb=>?_,fun b hb=>stkNe b (hf b hb).2.1 (hf b hb).2.2.1,I.stack,I.stkFree⟩,
  rfl,I.bare,Un.laid old hD nD,⟨m,hns,fun i x v h1 h2 h3=>?_⟩,fun x c e=>?_,?_,fun x c e=>?_,fun p hp=>?_,?_,(hcap σ I.len).1⟩
 ·-- has
  have hx':∃k,(relabel scope X.env).names.lookup x=some k/\(k=.cell\/k=.free):=by
   rcases hx with e|e
   ·exact ⟨_,e,.inl rfl⟩
   ·exact ⟨_,e,.inr rfl⟩
  obtain ⟨k,e,hk⟩:=hx';obtain ⟨k',e1,e2⟩:=sV e;have hm:=tG e1;have hfree:k'=.free:=by
   rcases e2 with e2|e2
   ·subst e2
    rcases hk with hk|hk
    ·subst hk;exact absurd rfl (S.nocell _ hm)
    ·exact hk
   ·exact e2.1
  subst hfree;exact lO hm
 ·obtain ⟨o,ho⟩:=hfo b hb;exact aM (aA (lt ho) hC)
 ·rcases (hf b hb).2.2.2.1 with z|z
  ·exact I.ok.noex b o e z
  ·exact absurd (aA (ar e) (aK I.ok.bsz z)) (cp _)
 ·-- names
  obtain ⟨hfr,j,hj,hv⟩:=(hcap σ I.len).2 i x v h1 h2;have hm:=tG hfr;have hk:=S.free _ hm rfl;obtain ⟨m0,_,hl0⟩:=I.loc;have vis:oB X.env.scope x:=by
   rcases hk with k|k
   ·exact .inr (.inl k)
   ·exact .inr (.inr k)
  obtain ⟨u,r,l⟩:=hl0 j x v hj hv vis;refine ⟨u,r,.inr ⟨?_,?_⟩⟩
  ·have hvis:∃k,(relabel scope X.env).names.lookup x=some k:=by
    rcases h3 with e|e|e<;>exact ⟨_,e⟩
   obtain ⟨k,e⟩:=hvis;obtain ⟨k',e1,e2⟩:=sV e;rw [hfr] at e1;cases e1
   rcases e2 with e2|e2
   ·subst e2;exact .inr e
   ·rw [e2.2.1] at e;exact .inl e
  ·rcases l with ⟨k,_⟩|⟨_,c,hc,hcell⟩
   ·exfalso
    rcases hk with q|q
    ·have q':X.env.kindOf x=some .cell:=q;rw [k] at q';cases q'
    ·have q':X.env.kindOf x=some .free:=q;rw [k] at q';cases q'
   ·obtain ⟨c',e'⟩:=lO (cells:=X.env.cells) (cs:=[]) hm;have e2:=look x c' e';have e2':X.env.cells.lookup x=some c':=e2;rw [hc] at e2';cases e2';obtain ⟨o,ho,hd⟩:=hcell;exact ⟨c,e',o,old _ _ ho,hd⟩
 ·obtain ⟨v,o,ho,hd⟩:=I.cell x c (look x c e);exact ⟨v,o,old _ _ ho,hd⟩
 ·show upd H D (.lst []) C=none;rw [jP (Ne.symm hDC)];exact nC
 ·have hc:=look x c e;rw [jP (aM (aA (cellLt x c hc) hD))];exact I.freeC x c hc
 ·have hp':p∈X.pn++pins:=by
   rcases ba.mp hp with z|z
   ·exact z
   ·cases z
  obtain ⟨e,n,ne,nf,d⟩:=I.pin p hp';refine ⟨old _ _ e,?_,aM (aA (lt e) hC),stkNe p.1 ne nf,d⟩;rw [jP (aM (aA (lt e) hD))];exact n
 ·refine I.hok.laid old hD ?_;exact ⟨aL _,[],0,.nil,hl⟩
theorem lS {σ':St} {H':Hp} {s':Shared} {C:Addr} {σc:St} {Nc:List Str} (I:Inv X pins σ H s) (hf:∀b∈fp,JG X pins H b) (J:Inv (qP X Nc scope C s H pins fp) [] σc H' s'):Inv X pins σ H' s':=by
 refine I.call' (ch:=fp) J.os J.base J.hok J.bare fun b hb=>?_
 obtain ⟨_,h2,_,h4,h5,h6⟩:=hf b hb;exact ⟨h4,h2,h5,h6⟩
theorem uL {σ':St} {H':Hp} {s':Shared} {C:Addr} {h':Heap} (I:Inv X pins σ H s) (hC:s.heap.objs.size<=C) (J:Inv X pins σ' H' s') (hn:H' C=none) (sb:Heap.SameBut C s'.heap h'):Inv X pins σ' H' {s' with heap:=h'}:=by
 refine J.turned (t':=s'.toks) (it:=C) (fun b o hb e=>(sb.2 b hb).trans e) hn (dg (aA I.lt hC)) (.inr (aK I.sz hC)) (fun x c e z=>?_) fun p hp z=>?_
 ·obtain ⟨v,q⟩:=I.cell x c e;exact absurd (aA q.lt (by rw [z];exact hC)) (cp _)
 ·exact absurd (aA (ar (I.pin p hp).1) (by rw [z];exact hC)) (cp _)
end
end L2
namespace L2
open PySem PySem.Spec PyProof.Rows
variable {H:Hp}
theorem vR {σ:St} {Q:Bool->Hp->Prop} (h:Q true H):wZ σ H Q:=h
variable {K:PySem.W.Frag} {D:Addr} {xs:List V} {tc:TT} {te:TE} {Q:Hp->Prop}
theorem Z0 {a:Addr} {g:TG} {σ₀:St} (Pv:Nat->St->Hp->Prop) (h0:Pv 0 σ₀ (upd H D (.lst []))) (hl:∀i σ H,i<=xs.length->Pv i σ H->SqL K H a xs)
    (hs:∀i x σ H,xs[i]?=some x->Pv i σ H->g x σ H fun σ2 H3=>tc σ2 H3 fun b H4=>if b=true then te σ2 H4 fun v H5=>∃ys,H5 D=some (.lst ys)/\ys.length<sizeLine/\Pv (i+1) σ2 (upd H5 D (.lst (ys++[v]))) else Pv (i+1) σ2 H4)
    (hd:∀σ H,Pv xs.length σ H->Q H):zG D (dA K a) g tc te σ₀ H Q:=by
  refine ⟨fun i m σ H=>m=xs.length - i/\i<=xs.length/\Pv i σ H,⟨xs.length,by simp,aL _,h0⟩,?_⟩;rintro i m σ H ⟨rfl,hi,p⟩;have q:=hl i σ H hi p
  by_cases hlt:i<xs.length
  . refine .inr ⟨⟨xs,xs[i],q,by simp [hlt]⟩,Pv (i+1),fun σ' H' p'=>⟨xs.length - (i+1),by lia,rfl,hlt,p'⟩,fun x H' y=>?_⟩
    obtain ⟨e,y⟩:=y;subst e;exact hs i x σ _ (y xs q) p
  . have e:i=xs.length:=by lia
    subst e;exact .inl ⟨⟨xs,q,aj _⟩,hd σ H p⟩
theorem N7 {lo:Int} {n:Nat} {g:TG} {σ₀:St} (Pv:Nat->St->Hp->Prop) (h0:Pv 0 σ₀ (upd H D (.lst [])))
  (hs:∀i σ H,i<n->Pv i σ H->g (.int (lo+i)) σ H fun σ2 H3=>tc σ2 H3 fun b H4=>if b=true then te σ2 H4 fun v H5=>∃ys,H5 D=some (.lst ys)/\ys.length<sizeLine/\Pv (i+1) σ2 (upd H5 D (.lst (ys++[v]))) else Pv (i+1) σ2 H4)
  (hd:∀σ H,Pv n σ H->Q H):zG D (bP lo n) g tc te σ₀ H Q:=by
 refine ⟨fun i m σ H=>m=n - i/\i<=n/\Pv i σ H,⟨n,by simp,aL _,h0⟩,?_⟩;rintro i m σ H ⟨rfl,hi,p⟩
 by_cases hlt:i<n
 ·refine .inr ⟨hlt,Pv (i+1),fun σ' H' p'=>⟨n - (i+1),by lia,rfl,hlt,p'⟩,fun x H' y=>?_⟩;obtain ⟨e,y⟩:=y;subst e y;exact hs i σ _ hlt p
 ·have e:i=n:=by lia
  subst e;exact .inl ⟨aj _,hd σ H p⟩
theorem kY {H':Hp} {o:HO} (hD:H D=none) (s:Same H H'):Same H (upd H' D o):=fun b u q=>by
 rw [jP (kZ q hD)];exact s b u q
def yG (H:Hp) (D:Addr) (caps:St) (R:Nat->List V->Hp->Prop) (i:Nat) (σ:St) (Hi:Hp):Prop:=∃ys c,σ=c::caps/\Same H Hi/\Hi D=some (.lst ys)/\ys.length<=i/\R i ys Hi
variable {caps:St}
theorem yS {Hi H5:Hp} {R:Nat->List V->Hp->Prop} {i:Nat} {ys:List V} {c:Option V} {v:V} (hD:H D=none) (s:Same H Hi) (hY:Hi D=some (.lst ys)) (hl:ys.length<=i) (hi:i<=999) (s5:Same Hi H5)
  (r:R (i+1) (ys++[v]) (upd H5 D (.lst (ys++[v])))):∃zs,H5 D=some (.lst zs)/\zs.length<sizeLine/\yG H D caps R (i+1) (c::caps) (upd H5 D (.lst (zs++[v]))):=by
 refine ⟨ys,s5 _ _ hY,qJ (by lia),ys++[v],c,rfl,kY hD (s.trans s5),jF,?_,r⟩;rw [ag,aO];lia
theorem dP {Hi H4:Hp} {R:Nat->List V->Hp->Prop} {i:Nat} {ys:List V} {c:Option V} (s:Same H Hi) (hY:Hi D=some (.lst ys)) (hl:ys.length<=i) (s4:Same Hi H4) (r:R (i+1) ys H4) :
  yG H D caps R (i+1) (c::caps) H4:=⟨ys,c,rfl,s.trans s4,s4 _ _ hY,by lia,r⟩
theorem QF {a:Addr} (R:Nat->List V->Hp->Prop) (hD:H D=none) (hS:SqL K H a xs) (h0:R 0 [] (upd H D (.lst [])))
  (hs:∀i x ys Hi,xs[i]?=some x->i<xs.length->ys.length<=i->Same H Hi->Hi D=some (.lst ys)->R i ys Hi->tc (some x::caps) Hi fun b H4=>if b=true then te (some x::caps) H4 fun v H5=>∃zs,H5 D=some (.lst zs)/\zs.length<sizeLine/\yG H D caps R (i+1) (some x::caps) (upd H5 D (.lst (zs++[v])))
   else yG H D caps R (i+1) (some x::caps) H4)
  (hd:∀ys Hf,Same H Hf->Hf D=some (.lst ys)->ys.length<=xs.length->R xs.length ys Hf->Q Hf):zG D (dA K a) (QS 0) tc te (none::caps) H Q:=by
 refine Z0 (xs:=xs) (yG H D caps R) ⟨[],none,rfl,kY hD (Same.refl H),jF,aj _,h0⟩ (fun i σ Hi _ ⟨_,_,_,s,_⟩=>s.seq hS) ?_ ?_
 ·rintro i x σ Hi hx ⟨ys,c,rfl,s,hY,hl,r⟩;exact hs i x ys Hi hx (af.mp hx).1 hl s hY r
 ·rintro σ Hf ⟨ys,c,rfl,s,hY,hl,r⟩;exact hd ys Hf s hY hl r
theorem tI {lo:Int} {n:Nat} (R:Nat->List V->Hp->Prop) (hD:H D=none) (h0:R 0 [] (upd H D (.lst [])))
  (hs:∀i ys Hi,i<n->ys.length<=i->Same H Hi->Hi D=some (.lst ys)->R i ys Hi->tc (some (.int (lo+i))::caps) Hi fun b H4=>if b=true then te (some (.int (lo+i))::caps) H4 fun v H5=>∃zs,H5 D=some (.lst zs)/\zs.length<sizeLine/\yG H D caps R (i+1) (some (.int (lo+i))::caps) (upd H5 D (.lst (zs++[v])))
   else yG H D caps R (i+1) (some (.int (lo+i))::caps) H4)
  (hd:∀ys Hf,Same H Hf->Hf D=some (.lst ys)->ys.length<=n->R n ys Hf->Q Hf):zG D (bP lo n) (QS 0) tc te (none::caps) H Q:=by
 refine N7 (yG H D caps R) ⟨[],none,rfl,kY hD (Same.refl H),jF,aj _,h0⟩ ?_ ?_
 ·rintro i σ Hi hi ⟨ys,c,rfl,s,hY,hl,r⟩;exact hs i ys Hi hi hl s hY r
 ·rintro σ Hf ⟨ys,c,rfl,s,hY,hl,r⟩;exact hd ys Hf s hY hl r
def GM:V->Option Value
 |.ty n=>some (.type n)
 |.ref a=>some (.ref a)
 |_=>none
section
variable {X:Cx}
def GG (K:PySem.W.Frag):List V->Hp->VK->Prop:=fun xs H Q=>∃(x c:V) (t u:Value) (b:Bool),xs=[x,c]/\GM c=some u/\TyOf K H x t/\PySem.W.kitOne K t u=some b/\Q (.bl b) H
theorem TY:yA X (.builtin "isinstance") (GG X.K):=by
 intro pins s σ H xs us Q I r h;obtain ⟨x,c,t,u,b,rfl,hc,ty,e,q⟩:=h;obtain ⟨u1,u2,rfl,r1,r2⟩:=mQ r;have e2:u2=u:=by
  cases c with
  |ty n=>cases (show u2=Value.type n from r2);exact az hc
  |ref a=>cases (show u2=Value.ref a from r2);exact az hc
  |_=>cases hc
 subst e2;exact RQ I r1 ty e fun tk=>⟨.bl b,H,I.tok _,rfl,q⟩
end
theorem DN (n:String):PySem.W.kitOne K (.type n) (.type n)=some true:=by
 unfold PySem.W.kitOne;rw [if_pos (ft _)]
theorem lZ {x:V} (h:v9 x=true):yJ x x=true:=by
 cases x with
 |non=>rfl
 |bl b=>show (b == b)=true;simp
 |int i=>show (i == i)=true;simp
 |str z=>show (z == z)=true;simp
 |_=>exact absurd (show false=true from h) aB
theorem tQ {us:List Value} (r:Vals xs us) {j:Nat} (h:j<us.toArray.size):RelV (xs.getD j .non) us.toArray[j]:=by
 have hj:j<us.length:=by simpa using h
 have hx:j<xs.length:=by rw [r.length];exact hj
 obtain ⟨u,e,q⟩:=r.get (aa hx);rw [aa hj] at e;have e':=az e;rw [ad,aa hx];show RelV xs[j] us.toArray[j];rw [List.getElem_toArray,e'];exact q
theorem RW (h:xs.all v9=true) {j:Nat} (hj:j<xs.length):v9 (xs.getD j .non)=true:=by
 rw [ad,aa hj];exact cw.mp h _ (fu hj)
section
variable {X:Cx}
end
end L2
namespace L2
open PySem PySem.Spec PyProof.Rows
def mZ:V->Bool
 |.ref _=>true
 |x=>v9 x
theorem R0 {A:Around} {s:Shared} {x:V} {u v:Value} (ru:RelV x u) (rv:RelV x v) (f:mZ x=true):SeqAt.EqAt A s u v true:=by
 cases x with
 |ref a =>
  cases ru;cases rv;exact SeqAt.EqAt.same _
 |non=>have:=gJ (A:=A) (s:=s) ru rv rfl rfl;rwa [lZ (x:=.non) rfl] at this
 |bl b=>have:=gJ (A:=A) (s:=s) ru rv rfl rfl;rwa [lZ (x:=.bl b) rfl] at this
 |int i=>have:=gJ (A:=A) (s:=s) ru rv rfl rfl;rwa [lZ (x:=.int i) rfl] at this
 |str z=>have:=gJ (A:=A) (s:=s) ru rv rfl rfl;rwa [lZ (x:=.str z) rfl] at this
 |_=>exact absurd (show false=true from f) aB
section
variable {X:Cx}
def W0 (K:PySem.W.Frag):R2:=fun x y H Q=>∃a b xs,x=.ref a/\y=.ref b/\SqL K H a xs/\SqL K H b xs/\xs.all mZ=true/\Q (.bl false) H
theorem FC (hu:X.A.units<cLine):qM X (compareOp .NotEq) (W0 X.K):=by
  intro pins s σ H x y v u Q I rx ry h;obtain ⟨a,b,xs,rfl,rfl,ha,hb,fx,q⟩:=h;cases rx;cases ry;obtain ⟨its,r,pl,hz⟩:=I.list ha;obtain ⟨its2,r2,pl2,hz2⟩:=I.list hb;have hl:=r.length;have hl2:=r2.length;refine SeqAt.RcNeAt.lists (e:=fun _=>true) pl.isList pl2.isList (by rw [au,au,<- hl,hl2]) hu (fun j h1 h2=>?_) X.prog X.w X.xe _ ⟨.bl _,H,I,rfl,?_⟩
  . refine R0 (tQ r h1) (tQ r2 h2) ?_
    have hj:j<xs.length:=by rw [hl];simpa using h1
    rw [ad,aa hj];exact cw.mp fx _ (fu hj)
  . have e:(!(List.range its.toArray.size).all fun _=>true)=false:=by simp
    rw [e];exact q
end
section
variable {X:Cx} (K:PySem.W.Frag)
theorem kO (h:X.K=K:=by rfl):IxR X (nG K):=by subst h;exact xX
theorem jL (h:X.K=K:=by rfl):IxR X (w8 K):=by subst h;exact ix_tup
theorem U2 (h:X.K=K:=by rfl):IxR X (xP K):=by subst h;exact WG
theorem DD (h:X.K=K:=by rfl):xT X (GE K):=by subst h;exact T7
theorem N0 (h:X.K=K:=by rfl):yA X (.builtin "len") (fun xs H Q=>∃p ys,xs=[.ref p]/\(SqL K H p ys\/SqT K H p ys)/\Q (.int ys.length) H):=by subst h;exact HF
theorem CJ (h:X.K=K:=by rfl):yA X (.builtin "isinstance") (GG K):=by subst h;exact TY
theorem zX {es:List Expr} {k:Nat} {t:bO} {n:Nat} {pos:Pos} (hc:X.calm=true) (h:iA X es t) (hK:X.K=K:=by rfl)
  (hn:(assignEach es X.env).length=n:=by rfl) (hst:(assignEach es X.env).findIdx? (·.1)=none:=by rfl):PG X (.Tuple es k pos) (GL K n t):=by subst hK;exact gI hc h hn hst
end
section
variable {X:Cx}
end
section
variable {X:Cx}
def XX (t u:TS):TS:=fun D σ H=>∃P:St->Hp->Prop,t {D with nx:=P} σ H/\∀σ' H',P σ' H'->u D σ' H'
theorem bV {st:Stmt} {rest:List Stmt} {t u:TS} (h1:PS X st t) (h2:PSs X rest u):PSs X (st::rest) (XX t u):=by
 intro pins s σ H D I h;obtain ⟨P,hP,hu⟩:=h;refine wpAny_execs_cons (jW (h1 pins s σ H {D with nx:=P} I hP) fun f s1 q=>?_);cases f with
 |next =>
  obtain ⟨σ',H',I',q⟩:=q;exact h2 pins s1 σ' H' D I' (hu σ' H' q)
 |ret v=>exact q
 |brk=>exact q
 |cont=>exact q
end
structure Def (P:Program) (w:World) (K:PySem.W.Frag) (mg:Str->Option Value) (base:Heap) (k:Nat) (x:Str) (ps:List Str) (dvs:List V) (sp:Sp):Prop where
 ex:∃(f:Addr) (fd:FuncData) (ds:List Value),FnOk P w K mg base jX k f fd ps sp/\mg x=some (.ref f)/\PySem.W.keepIn K (.ref f)=true/\Vals dvs ds/\Binds K fd ps ds
theorem jQ {X:Cx} {k k':Nat} {x:Str} {ps:List Str} {dvs:List V} {sp:Sp} {p pos:Pos} {e:Expr} {es:List Expr} {t:TA} (F:Def X.prog X.w X.K X.mg X.base k x ps dvs sp) (hr:Room k' X.A) (hg:Gl X x) (ha:PA X (e::es) t)
  (hk:k<=k':=by decide) (hdb:(x == ("__debug__":Str))=false:=by decide) (he:starEach (e::es) X.env=(false,eval e X.env)::starEach es X.env:=by rfl) (hpl:(backTo pos (starEach es X.env)).any (·.1)=false:=by rfl) :
  PE X (.Call (.Name x p) (e::es) [] pos) (wM sp dvs E0 t):=by
 obtain ⟨f,fd,ds,G,m,kp,hv,b⟩:=F.ex;exact UN G (hr.mono hk) hg m kp b hv eP ha hdb he hpl
structure FunD (K:PySem.W.Frag) (x qual:Str) (st:Stmt) (f:Addr) (fd:FuncData) (ds:List Value):Prop where
 ex:∃(oc:Value) (od:Option Addr) (T:Addr) (kV doc pm:Value) (an:Option Addr) (cdv ct:Value) (osl:Array (Option Value)) (oT:Obj) (n:Nat),
  fd=PySem.W.fnOf x qual (vH st) (qT st) (j8 st) (.ref T) kV doc pm an cdv ct/\K.lookup f=some ⟨oc,od,.func fd,osl⟩/\PySem.W.codeIn K cdv qual=true/\K.lookup T=some oT/\oT.data=.seq ds.toArray n
 kp:PySem.W.keepIn K (.ref f)=true
section
variable {P:Program} {w:World} {K:PySem.W.Frag} {mg:Str->Option Value} {base:Heap}
theorem FunD.ok {x qual:Str} {st:Stmt} {f:Addr} {fd:FuncData} {ds:List Value} {N ps:List Str} {k:Nat} {sp:Sp} (F:FunD K x qual st f fd ds) (S:FnScope N ps (j8 st)) (len:∀vs H Q E,sp vs H Q E->vs.length=ps.length)
  (hbody:∀(cdv:Value) (A:Around) (outer:List Env) (s:Shared) (H:Hp) (vs:List V) (Q:VK) (E:XK),Room k (A.deeper (envOfC qual (j8 st) s.heap.objs.size f cdv))->sp vs H Q E->
   ∃t,PSs (qC jX P w K mg base N qual (j8 st) f cdv A outer s H E).nox (qT st) t/\t {nx:=fun _ H'=>Q .non H',rt:=Q} (start N vs) H):FnOk P w K mg base jX (k+1) f fd ps sp:=by
 obtain ⟨oc,od,T,kV,doc,pm,an,cdv,ct,osl,oT,n,rfl,lk,hcd,_,_⟩:=F.ex;refine wU lk hcd S len fun A outer s H vs Q E hr hsp=>?_
 obtain ⟨t,h,q⟩:=hbody cdv A outer s H vs Q E hr hsp;exact ⟨t,h.nox,q⟩
theorem FunD.binds {x qual:Str} {st:Stmt} {f:Addr} {fd:FuncData} {ds:List Value} {ps:List Str} (ds':List Value) (m:Nat) (hm:m+ds'.length=ps.length) (F:FunD K x qual st f fd ds)
  (h:∀(T:Addr) (kV doc pm:Value) (an:Option Addr) (cdv ct:Value) (us:List Value),us.length=m->∃k,bindArgs (PySem.W.fnOf x qual (vH st) (qT st) (j8 st) (.ref T) kV doc pm an cdv ct) ⟨us,[]⟩=seqItems? (.ref T) >>= k/\
   k (some ds.toArray)=pure (ps.zip (us++ds'))):Binds K fd ps ds':=by
 obtain ⟨oc,od,T,kV,doc,pm,an,cdv,ct,osl,oT,n,rfl,lk,hcd,lT,dT⟩:=F.ex;intro s us hK hl;obtain ⟨k,h1,h2⟩:=h T kV doc pm an cdv ct us (by rw [ag] at hl;lia);exact BindsTo.of_defaults rfl (hK _ _ lT) dT h1 h2
theorem U4 {x qual:Str} {st:Stmt} {f T:Addr} {oc:Value} {od an:Option Addr} {osl:Array (Option Value)} {kV doc pm cdv ct:Value} {oT:Obj} {n:Nat} {ds:List Value}
  (l:K.lookup f=some ⟨oc,od,.func (PySem.W.fnOf x qual (vH st) (qT st) (j8 st) (.ref T) kV doc pm an cdv ct),osl⟩)
  (c:PySem.W.codeIn K cdv qual=true) (k:PySem.W.keepIn K (.ref f)=true) (lT:K.lookup T=some oT) (dT:oT.data=.seq ds.toArray n):FunD K x qual st f (PySem.W.fnOf x qual (vH st) (qT st) (j8 st) (.ref T) kV doc pm an cdv ct) ds :=
 ⟨⟨oc,od,T,kV,doc,pm,an,cdv,ct,osl,oT,n,rfl,l,c,lT,dT⟩,k⟩
end
section
variable {X:Cx}
theorem uJ:GO X (nG X.K):=by
 intro pins s σ H o i ov iv Q I ro ri h;obtain ⟨p,xs,k,z,rfl,rfl,hq,he,q⟩:=h;cases ro;obtain ⟨t,rfl⟩:=ri;obtain ⟨its,r,pl,hz⟩:=I.list hq;obtain ⟨j,h1,h2,h3,h4,h5⟩:=mH he;obtain ⟨w,ew,rw'⟩:=r.get h2;have hl:=r.length;have hn:=bC;have fin:EP X pins σ Q w s:=⟨z,H,I,rw',q⟩
 by_cases h0:0<=k
 ·have hj:k.toNat=j:=by
   rw [seqIndex_of h0 h5] at h1;exact az h1
  exact wpAny_getItem_list pl.isList h0 (by lia) (by rw [hj];simpa using ew) fin
 ·have hj:(k+(its.toArray.size:Int)).toNat=j:=by
   rw [seqIndex_neg (by lia) h4] at h1;rw [au,<- hl];exact az h1
  exact wpAny_getItem_list_neg pl.isList (by lia) (by rw [au]<;>lia) (by lia) (by rw [hj];simpa using ew) fin
end
end L2
namespace L2
open PySem
variable {c A B:Prop}
theorem ZI [Decidable c] (hc:¬c) (h:A):if (!decide c)=true then A else B:=by
 rw [aH hc];exact kW h
theorem j4 [Decidable c] (hc:¬c) (h:B):if decide c=true then A else B:=by
 rw [aH hc];exact qV h
theorem kJ [Decidable c] (hc:c) (h:A):if decide c=true then A else B:=by
 rw [aV hc];exact kW h
end L2
namespace L2
open PySem PySem.Spec PyProof.Rows
structure MkD (P:Program) (w:World) (K:PySem.W.Frag) (mg:Str->Option Value) (base:Heap) (k:Nat) (x:Str) (C:Addr) (ps:List Str) (sp:Sp):Prop where
 ex:mg x=some (.ref C)/\∃(f:Addr) (fd:FuncData),Mk K C f/\FnOk P w K mg base jX k f fd ps sp/\Binds K fd ps []
structure MeD (P:Program) (w:World) (K:PySem.W.Frag) (mg:Str->Option Value) (base:Heap) (k:Nat) (C:Addr) (m:Str) (ps:List Str) (sp:Sp):Prop where
 ex:Cls K C/\∃(f:Addr) (fd:FuncData),Meth K C m f/\FnOk P w K mg base jX k f fd ps sp/\Binds K fd ps []
section
variable {X:Cx} {k k':Nat} {x m:Str} {C:Addr} {ps:List Str} {sp:Sp} {p pos apos:Pos} {o e:Expr} {es:List Expr} {ta:TE} {t:TA}
theorem eO (M:MkD X.prog X.w X.K X.mg X.base k x C ps sp) (hr:Room k' X.A) (hg:Gl X x) (ha:PA X (e::es) t)
  (hk:k+1<=k':=by decide) (hdb:(x == ("__debug__":Str))=false:=by decide) (he:starEach (e::es) X.env=(false,eval e X.env)::starEach es X.env:=by rfl) (hpl:(backTo pos (starEach es X.env)).any (·.1)=false:=by rfl) :
  PE X (.Call (.Name x p) (e::es) [] pos) (FP C sp [] E0 t):=by
 obtain ⟨hm,f,fd,M,G,b⟩:=M.ex;exact UL M G (hr.mono hk) hg hm b .nil eP ha hdb he hpl
theorem ZM {pl:Sem Bool} (M:MeD X.prog X.w X.K X.mg X.base k C m ps sp) (hr:Room k' X.A) (ho:PE X o ta) (ha:PA X (e::es) t) (hk:k<=k':=by decide)
  (hst:starEach (e::es) X.env=(false,eval e X.env)::starEach es X.env:=by rfl) (hpl:(backTo pos (starEach es X.env)).any (·.1)=false:=by rfl)
  (ht:eval (.Call (.Attribute o m apos) (e::es) [] pos) X.env=(do
   let ov <- eval o X.env
   standAt apos.atName
   let (f,first) <- holding [ov] (getMethod ov m pl)
   callWith pos f first (backTo pos (starEach (e::es) X.env)) (backToKw pos (keywordEach [] X.env))):=by rfl) :
  PE X (.Call (.Attribute o m apos) (e::es) [] pos) (mR C m sp [] E0 ta t):=by
 obtain ⟨c,f,fd,M,G,b⟩:=M.ex;exact UK (pl:=pl) ho c M G (hr.mono hk) b .nil eP ha hst hpl ht
theorem kN {pl:Sem Bool} (M:MeD X.prog X.w X.K X.mg X.base k C m ps sp) (hr:Room k' X.A) (ho:PE X o ta) (hk:k<=k':=by decide)
  (ht:eval (.Call (.Attribute o m apos) [] [] pos) X.env=(do
   let ov <- eval o X.env
   standAt apos.atName
   let (f,first) <- holding [ov] (getMethod ov m pl)
   callWith pos f first (backTo pos (starEach [] X.env)) (backToKw pos (keywordEach [] X.env))):=by rfl) :
  PE X (.Call (.Attribute o m apos) [] [] pos) (mR C m sp [] E0 ta bK):=by
 obtain ⟨c,f,fd,M,G,b⟩:=M.ex;exact SR (pl:=pl) ho c M G (hr.mono hk) b .nil eP ht
end
structure ClsM (K:PySem.W.Frag) (C:Addr) (m:Str) (f:Addr):Prop where
 sp:PySem.W.specialIn K (.ref C) "__getattribute__"=some (some (.builtin "type.__getattribute__"))
 rd:PySem.W.readsIn K C (.type "type")=true
 fc:PySem.W.findCls K (.ref C) (.type "type") m=some (.val (.ref f))
 kp:PySem.W.keepIn K (.ref f)=true
structure CmD (P:Program) (w:World) (K:PySem.W.Frag) (mg:Str->Option Value) (base:Heap) (k:Nat) (x:Str) (C:Addr) (m:Str) (ps:List Str) (sp:Sp):Prop where
 ex:mg x=some (.ref C)/\∃(f:Addr) (fd:FuncData),ClsM K C m f/\FnOk P w K mg base jX k f fd ps sp/\Binds K fd ps []
theorem EL {X:Cx} {k k':Nat} {x m:Str} {C:Addr} {ps:List Str} {sp:Sp} {p pos apos:Pos} {e:Expr} {es:List Expr} {t:TA} {pl:Sem Bool} (M:CmD X.prog X.w X.K X.mg X.base k x C m ps sp) (hr:Room k' X.A) (hg:Gl X x) (ha:PA X (e::es) t) (hk:k<=k':=by decide)
  (hdb:(x == ("__debug__":Str))=false:=by decide) (hst:starEach (e::es) X.env=(false,eval e X.env)::starEach es X.env:=by rfl) (hpl:(backTo pos (starEach es X.env)).any (·.1)=false:=by rfl)
  (ht:eval (.Call (.Attribute (.Name x p) m apos) (e::es) [] pos) X.env=(do
   let ov <- eval (.Name x p) X.env
   standAt apos.atName
   let (f,first) <- holding [ov] (getMethod ov m pl)
   callWith pos f first (backTo pos (starEach (e::es) X.env)) (backToKw pos (keywordEach [] X.env))):=by rfl) :
  PE X (.Call (.Attribute (.Name x p) m apos) (e::es) [] pos) (wM sp [] E0 t):=by
 obtain ⟨hm,f,fd,c,G,b⟩:=M.ex;intro pins s σ H Q I h;refine er (pl:=pl) (jW ((JN (v:=.ref C) hg hm rfl hdb:PE X (.Name x p) (tC (.ref C))) pins s σ H (fun v H1=>v=.ref C/\H1=H) I ⟨rfl,rfl⟩) fun u s1 ⟨v,H1,I1,rv,e1,e2⟩=>?_) ht;subst e1 e2;obtain rfl:u=Value.ref C:=rv;refine PySem.W.method_cls I1.kIn c.sp (PySem.W.cls_value I1.kIn c.rd c.fc rfl ?_);have I2:=I1.tok (s1.toks+1);refine dk (first:=[]) (h₀:=X.base) I.ok.mod.kin c.kp (jW (ha pos pins _ σ H1 _ I2 h) fun us s2 ⟨vs,H2,I3,r,q2⟩=>⟨I3.kIn,?_⟩) hst hpl;exact gG (us:=us) (vs:=vs) G (hr.mono hk) b .nil eP I3 r q2
section
variable {X:Cx}
theorem N6 {ns:List Int} {its:List Value} (rv:Vals (ns.map V.int) its) {i:Nat} {v:Value} (h:its.toArray[i]?=some v):∃t,v=Value.int (ns.getD i 0) t:=by
 have h':its[i]?=some v:=by simpa using h
 have hi:i<its.length:=(af.mp h').1;have hn:i<ns.length:=by have:=rv.length;rw [ac] at this;lia
 obtain ⟨u,e,q⟩:=rv.get (x:=V.int (ns.getD i 0)) (i:=i) (by rw [ak,aa hn,ad,aa hn];rfl);rw [h'] at e;cases e;exact q
theorem OL {bs:List Bool} {its:List Value} (rv:Vals (bs.map V.bl) its) {i:Nat} {v:Value} (h:its.toArray[i]?=some v):v=Value.bool (bs.getD i true):=by
 have h':its[i]?=some v:=by simpa using h
 have hi:i<its.length:=(af.mp h').1;have hn:i<bs.length:=by have:=rv.length;rw [ac] at this;lia
 obtain ⟨u,e,q⟩:=rv.get (x:=V.bl (bs.getD i true)) (i:=i) (by rw [ak,aa hn,ad,aa hn];rfl);rw [h'] at e;cases e;exact q
theorem NV (bs:List Bool):(List.range bs.length).all (fun i=>bs.getD i true)=bs.all id:=by
 rw [hJ,cw,cw];constructor
 ·intro h x hx;obtain ⟨i,hi,e⟩:=List.mem_iff_getElem.mp hx;have:=h i (by simpa using hi);rw [ad,aa hi,e] at this;exact this
 ·intro h i hi;have hi':i<bs.length:=by simpa using hi
  rw [ad,aa hi'];exact h _ (fu hi')
theorem CH (hc:X.calm=true):yA X (.builtin "sum") (fun xs H Q=>∃(p:Addr) (ns:List Int),xs=[.ref p]/\SqL X.K H p (ns.map V.int)/\Q (.int ns.sum) H):=by
 intro pins s σ H xs us Q I r h;obtain ⟨p,ns,rfl,hq,q⟩:=h;obtain ⟨u,rfl,rx⟩:=ZE r;cases rx;obtain ⟨its,rv,pl,hz⟩:=I.list hq;have hlen:=rv.length;rw [ac] at hlen;have hp:p<s.heap.objs.size:=by obtain ⟨o,n,e,_⟩:=pl;exact ar e
 refine call_sum_walkAnyS (dw pl.isList ?_);refine ⟨s.heap.objs.size,_,_,_,_,_,_,fun i=>ns.getD i 0,rfl,(Walks.list (A:=X.A.in1) (I.ok.hd hc) s.heap.objs.size p (aM hp) its.toArray).toS,⟨⟨_,aq _ rfl,rfl,rfl⟩,pl.isList.at fun o e=>ai _ e⟩,fun b hb=>?_,fun i v h=>N6 rv h,fun s' t' m=>?_⟩
 ·rw [cb]
  rcases ao.mp hb with e|e
  ·rw [e];exact ik _
  ·have e':b=p:=by simpa using e
   rw [e'];exact Nat.lt_succ_of_lt hp
 ·obtain ⟨hh,g,d,t,os⟩:=s';obtain ⟨m1,m2,m3,m4,m5⟩:=m;have m2':g=s.gens:=m2;have m3':d=s.drawn:=m3;have m4':os=s.os:=m4;subst m2' m3' m4';have e:preSum (fun i=>ns.getD i 0) its.toArray.size=ns.sum:=by rw [preSum_getD,au,<- hlen,aW]
  rw [e];refine ⟨.int ns.sum,H,I.kept (t':=t) fun b o e=>m1 b o (fun hb=>?_) (ai _ e),⟨_,rfl⟩,q⟩;have e':b=s.heap.objs.size:=by simpa using hb
  exact absurd (ar e) (by rw [e'];exact cp _)
theorem CL (hc:X.calm=true):yA X (.builtin "all") (fun xs H Q=>∃(p:Addr) (bs:List Bool),xs=[.ref p]/\SqL X.K H p (bs.map V.bl)/\Q (.bl (bs.all id)) H):=by
 intro pins s σ H xs us Q I r h;obtain ⟨p,bs,rfl,hq,q⟩:=h;obtain ⟨u,rfl,rx⟩:=ZE r;cases rx;obtain ⟨its,rv,pl,hz⟩:=I.list hq;have hlen:=rv.length;rw [ac] at hlen;have hp:p<s.heap.objs.size:=by obtain ⟨o,n,e,_⟩:=pl;exact ar e
 refine call_all_walk (dw pl.isList ?_);refine ⟨s.heap.objs.size,_,_,_,_,_,fun i=>bs.getD i true,rfl,Walks.list (A:=X.A.in1) (I.ok.hd hc) s.heap.objs.size p (aM hp) its.toArray,⟨⟨_,aq _ rfl,rfl,rfl⟩,pl.isList.at fun o e=>ai _ e⟩,fun i v s' Q' E' h hQ=>?_,fun h' tk hk=>?_⟩
 ·rw [OL rv h];exact fe hQ
 ·rw [au,<- hlen,NV];refine ⟨.bl (bs.all id),H,I.kept (t':=tk) fun b o e=>hk b o (fun hb=>?_) (ai _ e),rfl,q⟩;have e':b=s.heap.objs.size:=by simpa using hb
  exact absurd (ar e) (by rw [e'];exact cp _)
end
def xE (p:Addr) (a b c:Int):HO:=.ext fun h=>∃t u v,IsRange h p a b c t u v
section
variable {X:Cx}
theorem OK:yA X (.type "range") (fun xs H Q=>∃a b c:Int,xs=[.int a,.int b,.int c]/\c≠0/\c.natAbs<1073741824/\∀p,H p=none->Q (.ref p) (upd H p (xE p a b c))):=by
 intro pins s σ H xs us Q I r h;obtain ⟨a,b,c,rfl,hc,hs,q⟩:=h;cases r with
 |cons r1 r2 =>
  cases r2 with
  |cons r3 r4 =>
   cases r4 with
   |cons r5 r6 =>
    cases r6;obtain ⟨t,rfl⟩:=r1;obtain ⟨u,rfl⟩:=r3;obtain ⟨v,rfl⟩:=r5;refine call_range_3 hc ?_ (.inl (ia hs));refine ⟨.ref s.heap.objs.size,_,I.laid (t':=s.toks) (o:=xE s.heap.objs.size a b c) (fun b o e=>ai _ e) (aj _) ?_,rfl,q _ (I.hok.fresh (aj _))⟩;exact ⟨⟨t,u,v,aq _ rfl⟩,⟨_,aq _ rfl⟩,fun h1 h2 ⟨t,u,v,e⟩ k=>⟨t,u,v,k _ e⟩⟩
theorem AJ {f:Nat->Int}:∀{n:Nat} {acc:List Value},acc.length=n->(∀i v,acc[i]?=some v->∃t,v=Value.int (f i) t)->Vals ((List.range n).map fun (i:Nat)=>V.int (f i)) acc
 |0,acc,hl,h=>by
  cases acc with
  |nil=>exact .nil
  |cons x r=>cases hl
 |n+1,acc,hl,h=>by
  obtain ⟨init,last,rfl⟩:∃init last,acc=init++[last]:=by
   have hne:acc≠[]:=by intro e;rw [e] at hl;cases hl
   exact ⟨acc.dropLast,acc.getLast hne,(List.dropLast_concat_getLast hne).symm⟩
  rw [ag,aO] at hl;have hi:init.length=n:=by lia
  rw [gh,aw];refine Vals.append (AJ hi fun i v e=>h i v ?_) (.cons ?_ .nil)
  ·rw [aC (af.mp e).1];exact e
  ·exact h n last (by rw [aE (by lia),hi,ij];rfl)
theorem NZ (hc:X.calm=true):yA X (.type "list") (fun xs H Q=>∃(p:Addr) (a b c:Int) (n:Nat),xs=[.ref p]/\H p=some (xE p a b c)/\Builtin.Range.small a b c=true/\Builtin.Range.rangeSize a b c=n/\n<=1000/\
  ∀l,H l=none->Q (.ref l) (upd H l (.lst ((List.range n).map fun (i:Nat)=>V.int (a+(i:Int)*c))))):=by
 intro pins s σ H xs us Q I r h;obtain ⟨p,a,b,c,n,rfl,hp,hsm,hn,hz,q⟩:=h;obtain ⟨u,rfl,rx⟩:=ZE r;cases rx;obtain ⟨⟨t,u,v,e⟩,_,_⟩:=I.hok p _ hp;refine call_list_range (I.ok.hd hc) e hsm hn (by lia) fun h' tk acc' c' hk hS' hacc=>?_
 have hl:acc'.toList.length=n:=by have:=hacc.1;simpa using this
 refine ⟨.ref s.heap.objs.size,_,I.laid (t':=tk) (o:=.lst ((List.range n).map fun (i:Nat)=>V.int (a+(i:Int)*c))) hk (aj _) ?_,rfl,q _ (I.hok.fresh (aj _))⟩;refine ⟨by rw [ac,aT];exact ii (qJ hz),acc'.toList,c',AJ hl fun i v e=>hacc.2 i v (by simpa using e),by simpa using hS'⟩
end
def zR (n:Nat):List Nat:=(List.range n).reverse
theorem PL (n:Nat):((List.range n).map fun (i:Nat)=>V.int (((n:Int) - 1)+(i:Int) * -1))=(zR n).map fun (i:Nat)=>V.int (i:Int):=by
 apply List.ext_getElem?;intro k;unfold zR;rw [ak,ak]
 by_cases hk:k<n
 ·rw [ck hk,List.getElem?_reverse (by simpa using hk),aT,ck (by lia)];show some (V.int ((n:Int) - 1+(k:Int) * -1))=some (V.int ((n - 1 - k:Nat):Int))
  congr 2
  lia
 ·rw [bh (by simp;lia),bh (by simp;lia)];rfl
theorem t7 (n:Nat):Builtin.Range.rangeSize ((n:Int) - 1) (-1) (-1)=n:=by
 unfold Builtin.Range.rangeSize;rw [if_neg (by decide)]
 by_cases h:(n:Int) - 1 > -1
 ·rw [if_pos h];have e:((n:Int) - 1 - -1 - 1) / (- (-1:Int))=(n:Int) - 1:=by
   have e1:(-(-1:Int))=1:=rfl;rw [e1,Int.ediv_one]
   lia
  rw [e]
  lia
 ·rw [if_neg h]
  lia
theorem BJ {n:Nat} (h:n<=1000):Builtin.Range.small ((n:Int) - 1) (-1) (-1)=true:=by
 unfold Builtin.Range.small;rw [t7];simp only [Builtin.Range.rangeFitsLong,fq,Bool.or_eq_true,fi,gv];simp
 lia
section
variable {P:Program} {w:World} {H:Hp} {h h':Heap} {a:Addr} {o:HO}
theorem ObjOk.there (x:ObjOk P w H h a o):∃u,h.get? a=some u:=by
 cases o with
 |lst xs=>obtain ⟨_,_,_,_,e⟩:=x;exact ⟨_,e⟩
 |tup xs=>obtain ⟨_,_,_,o,e,_⟩:=x;exact ⟨_,e⟩
 |dK kvs=>obtain ⟨_,_,_,_,o,_,_,e,_⟩:=x;exact ⟨_,e⟩
 |dT kvs=>obtain ⟨_,_,_,_,o,_,_,e,_⟩:=x;exact ⟨_,e⟩
 |set S n=>obtain ⟨o,_,_,_,e,_⟩:=x;exact ⟨_,e⟩
 |ins C dx fs=>obtain ⟨_,_,_,e,_⟩:=x;exact ⟨_,e⟩
 |own y=>obtain ⟨_,e⟩:=x;exact ⟨_,e⟩
 |xd fs=>obtain ⟨_,⟨_,_,_,e,_⟩,_⟩:=x;exact ⟨_,e⟩
 |rng lo hi=>obtain ⟨_,_,_,e⟩:=x;exact ⟨_,e⟩
 |frz ob u=>obtain ⟨e,_⟩:=x;exact ⟨_,e⟩
 |tbl ps=>exact ⟨_,(show h.get? a=some _ from x)⟩
 |met f y=>exact ⟨_,(show h.get? a=some _ from x)⟩
 |ext φ=>obtain ⟨_,e,_⟩:=x;exact e
theorem HOk.there (x:HOk P w H h) (e:H a=some o):∃u,h.get? a=some u:=(x a o e).there
theorem HOk.keepT (x:HOk P w H h) (k:∀b u,H b≠none->h.get? b=some u->h'.get? b=some u):HOk P w H h':=fun a o e =>
 (x a o e).stay (fun b u hb q=>k b u (by
  rcases hb with rfl|hb
  ·rw [e];exact fun z=>nomatch z
  ·rw [hb];exact fun z=>nomatch z) q) (fun _ q=>q) fun _ _ q=>q
end
variable {H:Hp}
theorem Un.go {fs ex:List Addr} {H1:Hp} {h0 h h':Heap} (u:Un fs ex H H1 h0 h) (k:∀b o,h.get? b=some o->b∉fs->b∉ex->(∃o',h0.get? b=some o')->h'.get? b=some o)
  (ks:∀b o,h.get? b=some o->b∈fs->(∃o',h0.get? b=some o')->∃sl,h'.get? b=some {o with slots:=sl}):Un fs ex H H1 h0 h' where
 keep:=fun b o q n hb hx=>k b o (u.keep b o q n hb hx) hb hx ⟨o,q⟩
 slot:=fun b o q n hb hx=>by
  obtain ⟨sl,e⟩:=u.slot b o q n hb hx;obtain ⟨sl',e'⟩:=ks b _ e hb ⟨o,q⟩;exact ⟨sl',e'⟩
 free:=u.free
 there:=fun b o q hx=>by
  obtain ⟨o',e⟩:=u.there b o q hx
  by_cases hb:b∈fs
  ·obtain ⟨sl,e'⟩:=ks b o' e hb ⟨o,q⟩;exact ⟨_,e'⟩
  ·exact ⟨o',k b o' e hb hx ⟨o,q⟩⟩
 tups:=u.tups
 frzs:=u.frzs
 tbls:=u.tbls
def GX (fr:List Env) (Z:Addr->Prop) (h:Heap) (a C:Addr):Prop :=
 ∃(B:Heap) (a0:Value),Heap.FlyingW B fr a (.ref C) a0 h/\∀b o,h.get? b=some o->b∉kM fr->Z b->B.get? b=some o
def kA (P:Program) (w:World):yL:=fun outer H s E e s'=>∃(a C:Addr) (H':Hp),e=.ref a/\s'.os=s.os/\AllBare s'.gens/\Un (kM outer) [] H H' s.heap s'.heap/\HOk P w H' s'.heap/\
 GX outer (fun b=>H' b≠none\/∃o',s.heap.get? b=some o') s'.heap a C/\H' a=none/\s.heap.get? a=none/\E (.ref C) none H'
def FK (X:Cx) (R:St->Value->Hp->Prop):Prop:=∀pins σ H s e h' C vs,Inv X pins σ H s->Heap.MadeExcOf s.heap h' e (.ref C) vs->R σ (.ref C) H->X.xe (.ref e) {s with heap:=h'}
def bI (X:Cx) (R:St->Value->Hp->Prop):Prop:=∀pins σ H s e s',Inv X pins σ H s->kA X.prog X.w X.stack H s (fun c _ H'=>R σ c H') e s'->X.xe e s'
theorem QI {P:Program} {w:World} {K:PySem.W.Frag} {mg:Str->Option Value} {base:Heap} {N:List Str} {qual:Str} {scope:Scope} {f:Addr} {cd:Value} {A:Around} {outer:List Env} {s:Shared} {E:XK} :
  FK (qC (kA P w) P w K mg base N qual scope f cd A outer s H E) (fun _ c H'=>E c none H'):=by
 intro pins σ H1 s1 e h' C vs I hx q;have hin:∀env∈(envOfC qual scope s.heap.objs.size f cd::outer),∀b,env.frame=some b->b∈kM (envOfC qual scope s.heap.objs.size f cd::outer):=fun env he b hb=>eo.mpr ⟨env,he,hb⟩
 have hst:s1.heap.FunFrames base (envOfC qual scope s.heap.objs.size f cd::outer):=I.stack;have hfrees:∀b∈kM (envOfC qual scope s.heap.objs.size f cd::outer),H1 b=none:=I.stkFree;have hfs:kM (envOfC qual scope s.heap.objs.size f cd::outer)=s.heap.objs.size::kM outer:=rfl;have ub:Un (kM outer) [] H H1 s.heap s1.heap:=I.base;have hno:s1.heap.get? e=none:=hx.new;show wpAny (model P w) (A.deeper (envOfC qual scope s.heap.objs.size f cd)) (leaving (envOfC qual scope s.heap.objs.size f cd) (.ref e)) (fun _ s''=>kA P w outer H s E (.ref e) s'') (fun e' s''=>kA P w outer H s E e' s'') {s1 with heap:=h'};refine wpAny_leaves_madeW (base:=PySem.W.hideAll s1.heap (kM (envOfC qual scope s.heap.objs.size f cd::outer))) I.ok.frames rfl (fun b o q=>PySem.W.of_hideAll _ q) (PySem.W.funFrames_hide hst hin) hx fun h2 t fl _ _ up=>?_
 dsimp only at up
 have keep:∀b o,s1.heap.get? b=some o->b∉kM (envOfC qual scope s.heap.objs.size f cd::outer)->(PySem.W.hideAll s1.heap (kM (envOfC qual scope s.heap.objs.size f cd::outer))).get? b=some o:=fun b o q n=>PySem.W.hideAll_get _ q n
 have old:∀b,(∃o',s.heap.get? b=some o')->b∉kM outer->b∉kM (envOfC qual scope s.heap.objs.size f cd::outer):=fun b ⟨o',q⟩ n z=>by
  rw [hfs] at z
  rcases ao.mp z with z|z
  ·exact absurd (ar q) (by rw [z];exact cp _)
  ·exact n z
 have zL:∀b,H1 b≠none->b∉kM (envOfC qual scope s.heap.objs.size f cd::outer):=fun b hb z=>hb (hfrees b z)
 refine ⟨e,C,H1,rfl,I.os,I.bare,ub.go (fun b o q n _ z=>fl.1 b o (keep b o q (old b z n))) (fun b o q n _=>?_),I.hok.keepT fun b u hb q=>fl.1 b u (keep b u q (zL b hb)),?_,?_,?_,q⟩
 ·obtain ⟨_,o',ho',hd⟩:=hst.mem (show b∈kM (envOfC qual scope s.heap.objs.size f cd::outer) from by rw [hfs];exact aI _ n);rw [q] at ho';cases ho'
  exact up b o (hx.keeps b o q) hd
 ·refine ⟨_,_,fl,fun b o q n z=>?_⟩;have hn:b∉kM (envOfC qual scope s.heap.objs.size f cd::outer):=by
   rcases z with z|z
   ·exact zL b z
   ·exact old b z n
  have h1:∃u,s1.heap.get? b=some u:=by
   rcases z with z|⟨o',z⟩
   ·cases r:H1 b with
    |none=>exact absurd r z
    |some v=>exact I.hok.there r
   ·exact ub.there b o' z (by simp)
  obtain ⟨u,hu⟩:=h1;have hB:=keep b u hu hn;have:=fl.1 b u hB;have q':h2.get? b=some o:=q;rw [q'] at this;cases this;exact hB
 ·cases r:H1 e with
  |none=>rfl
  |some v =>
   obtain ⟨u,hu⟩:=I.hok.there r;rw [hno] at hu;cases hu
 ·cases r:s.heap.get? e with
  |none=>rfl
  |some v =>
   obtain ⟨u,hu⟩:=ub.there e v r (by simp);rw [hno] at hu;cases hu
theorem kP {P:Program} {w:World} {K:PySem.W.Frag} {mg:Str->Option Value} {base:Heap} {N:List Str} {qual:Str} {scope:Scope} {f:Addr} {cd:Value} {A:Around} {outer:List Env} {s:Shared} {E:XK} :
  bI (qC (kA P w) P w K mg base N qual scope f cd A outer s H E) (fun _ c H'=>E c none H'):=by
 intro pins σ H1 s1 e s2 I hx;obtain ⟨a,C,H2,rfl,os,bare,un,hok,⟨B,a0,fl,ground⟩,ha,hs,q⟩:=hx;have fl':Heap.FlyingW B (envOfC qual scope s.heap.objs.size f cd::outer) a (.ref C) a0 s2.heap:=fl;have J:Inv (qC (kA P w) P w K mg base N qual scope f cd A outer s H E) pins σ H2 s2:=I.call' (ch:=[]) os un hok bare fun b z=>absurd z (by simp)
 have ub:Un (kM outer) [] H H2 s.heap s2.heap:=J.base;have hfs:kM (envOfC qual scope s.heap.objs.size f cd::outer)=s.heap.objs.size::kM outer:=rfl;have old:∀b,(∃o',s.heap.get? b=some o')->b∉kM outer->b∉kM (envOfC qual scope s.heap.objs.size f cd::outer):=fun b ⟨o',q⟩ n z=>by
  rw [hfs] at z
  rcases ao.mp z with z|z
  ·exact absurd (ar q) (by rw [z];exact cp _)
  ·exact n z
 have zL:∀b,H2 b≠none->b∉kM (envOfC qual scope s.heap.objs.size f cd::outer):=fun b hb z=>hb (J.stkFree b z)
 have u1:Un (kM outer) [] H H1 s.heap s1.heap:=I.base;have in1:∀b,(∃o',s.heap.get? b=some o')->∃o',s1.heap.get? b=some o':=fun b ⟨o',z⟩=>u1.there b o' z (by simp)
 have hst:s2.heap.FunFrames base (envOfC qual scope s.heap.objs.size f cd::outer):=J.stack;show wpAny (model P w) (A.deeper (envOfC qual scope s.heap.objs.size f cd)) (leaving (envOfC qual scope s.heap.objs.size f cd) (.ref a)) (fun _ s''=>kA P w outer H s E (.ref a) s'') (fun e' s''=>kA P w outer H s E e' s'') s2;refine wpAny_leaves_onW J.ok.frames rfl fl' fun h3 fl3 up=>?_
 refine ⟨a,C,H2,rfl,J.os,J.bare,ub.go (fun b o q n _ z=>fl3.1 b o (ground b o q (old b z n) (.inr (in1 b z)))) (fun b o q n _=>?_),J.hok.keepT fun b u hb q=>fl3.1 b u (ground b u q (zL b hb) (.inl hb)),?_,ha,?_,q⟩
 ·obtain ⟨_,o',ho',hd⟩:=hst.mem (show b∈kM (envOfC qual scope s.heap.objs.size f cd::outer) from by rw [hfs];exact aI _ n);rw [q] at ho';cases ho'
  exact up b o q hd
 ·refine ⟨B,a0,fl3,fun b o q n z=>?_⟩;have hn:b∉kM (envOfC qual scope s.heap.objs.size f cd::outer):=by
   rcases z with z|z
   ·exact zL b z
   ·exact old b z n
  have h1:∃u,s2.heap.get? b=some u:=by
   rcases z with z|⟨o',z⟩
   ·cases r:H2 b with
    |none=>exact absurd r z
    |some v=>exact J.hok.there r
   ·exact ub.there b o' z (by simp)
  obtain ⟨u,hu⟩:=h1;have hB:=ground b u hu hn (by
   rcases z with z|z
   ·exact .inl z
   ·exact .inr (in1 b z))
  have:=fl3.1 b u hB;have q':h3.get? b=some o:=q;rw [q'] at this;cases this;exact hB
 ·cases r:s.heap.get? a with
  |none=>rfl
  |some v =>
   obtain ⟨u,hu⟩:=in1 a ⟨v,r⟩;rw [hs] at hu;cases hu
end L2
namespace L2
open PySem PySem.Spec PyProof.Rows
theorem ES {K:PySem.W.Frag} {h:Heap} {C:Addr} {bmB:List Value} {newId:String} (X:K.In h) (q:PySem.W.excIn K C bmB newId=true) :
  ∃bm N nm qn bs hdct sn sub ab col dd k0 k1 k2 k3 k5 mN,K.lookup C=some (excClassObj nm qn C N bs bm hdct sn sub ab col dd k0 k1 k2 k3 k5 newId)/\h.get? C=some (excClassObj nm qn C N bs bm hdct sn sub ab col dd k0 k1 k2 k3 k5 newId)/\h.Ns N mN/\mN "__init__"=none/\OwnTail h bmB bm:=by
 unfold PySem.W.excIn at q
 split at q
 ·rename_i dd cd sl ho
  split at q
  ·rename_i C' bm k0 k1 k2 k3 n k5 hm hs;simp only [fq,gv,Bool.not_eq_true'] at q;obtain ⟨⟨⟨⟨⟨rfl,rfl⟩,hdel⟩,ht⟩,hok⟩,hni⟩:=q;obtain ⟨nm,bs,mro,ns,qn,hd,sn,sub,ab,col,del⟩:=cd
   dsimp only at hm hdel hok hni
   subst hm hdel;have hsl:sl = #[k0,k1,k2,k3,some (.builtin n),k5]:=by
    obtain ⟨l⟩:=sl;simp only at hs;rw [hs]
   subst hsl;exact ⟨bm,ns,nm,qn,bs,hd,sn,sub,ab,col,dd,k0,k1,k2,k3,k5,_,ho,X _ _ ho,.of_isNs (PySem.W.isNs_of_in X hok),PySem.W.nsMap_none_of_in X hok hni,PySem.W.tail_of_in X ht⟩
  ·cases q
 ·cases q
abbrev X5:List Value:=[.type "ValueError",.type "Exception",.type "BaseException",.type "object"]
def QW (K:PySem.W.Frag) (C:Addr):Prop:=PySem.W.excIn K C X5 "ValueError.__new__"=true
section
variable {X:Cx} {R:St->Value->Hp->Prop} {x:Str} {C:Addr} {np cpos pos p:Pos} {e:Expr} {es:List Expr} {t:TA}
theorem QJ (hx:FK X R) (hcalm:X.calm=true) (hg:Gl X x) (hm:X.mg x=some (.ref C)) (hc:QW X.K C) (ha:PA X (e::es) t) (hdb:(x == ("__debug__":Str))=false:=by decide)
  (he:starEach (e::es) X.env=(false,eval e X.env)::starEach es X.env:=by rfl) (hpl:(backTo cpos (starEach es X.env)).any (·.1)=false:=by rfl) :
  PS X (.Raise (some (.Call (.Name x np) (e::es) [] cpos)) none pos) (fun _ σ H=>t σ H fun vs H1=>vs.length<=sizeLine/\R σ (.ref C) H1):=by
 intro pins s σ H D I h;obtain ⟨tl,N,nm,q,bs,hdct,sn,sub,ab,col,dd,k0,k1,k2,k3,k5,mN,_,hC,hN,hni,T⟩:=ES I.ok.mod.kin hc;refine wpAny_Raise_call_subT (C:=C) (nm:=nm) (q:=q) (N:=N) (bs:=bs) (bm:=tl) (hdct:=hdct) (sn:=sn) (sub:=sub) (ab:=ab) (col:=col) (dd:=dd) (k0:=k0) (k1:=k1) (k2:=k2) (k3:=k3) (k5:=k5)
  PySem.F.excBase_ValueError (mN:=mN) (T.hasType PySem.F.excBase_ValueError.hasBase) (I.ok.hd hcalm) (by rw [he];show (false||(backTo cpos (starEach es X.env)).any (·.1))=false;rw [hpl];rfl) hni (bX I hg hm ⟨rfl,?_⟩ hdb)
 have h1:=ha cpos pins s σ H _ I h;rw [he] at h1 ⊢;refine Calls.evalArgs_plain (cg h1 (fun us s2 ⟨vs,H2,I2,r2,hl,q2⟩=>⟨rfl,by rw [<- r2.length];exact hl,I2.bk _ _ hC,hN.keeps I2.bk,T.keeps I2.bk,fun h' a hm=>hx pins σ H2 s2 a h' C us I2 hm q2⟩) fun _ _ y=>y)
def VR (sp:Sp) (dvs:List V) (R:St->Value->Hp->Prop) (t:TA):TE:=fun σ H Q=>t σ H fun vs H1=>sp (vs++dvs) H1 Q (fun c _ H'=>R σ c H')
theorem EF {k:Nat} {f:Addr} {fd:FuncData} {ps:List Str} {sp:Sp} {dvs:List V} {ds:List Value} {pins:List (Addr×Obj)} {σ:St} {H:Hp} {s:Shared} {Q:VK} {us:List Value} {vs:List V} (F:FnOk X.prog X.w X.K X.mg X.base (kA X.prog X.w) k f fd ps sp) (hr:Room k X.A) (hb:Binds X.K fd ps ds) (hd:Vals dvs ds) (hx:bI X R)
  (I:Inv X pins σ H s) (r:Vals vs us) (h:sp (vs++dvs) H Q (fun c _ H'=>R σ c H')):wpAny (model X.prog X.w) X.A (call (.ref f) us) (EP X pins σ Q) X.xe s:=by
 have r2:Vals (vs++dvs) (us++ds):=r.append hd;have hl:(us++ds).length=ps.length:=by rw [<- r2.length];exact F.len _ _ _ _ h
 refine wpAny_call (ka (F.run X.A X.stack s H ⟨us,[]⟩ (us++ds) (vs++dvs) Q _ hr I.env0 (hb s us I.kIn hl) r2 h) fun r s' hq=>?_);cases r with
 |error e=>exact hx pins σ H s e s' I hq
 |ok fl =>
  cases fl with
  |ret u=>exact I.after hq
  |next=>exact False.elim hq
  |brk=>exact False.elim hq
  |cont=>exact False.elim hq
end
structure DefX (P:Program) (w:World) (K:PySem.W.Frag) (mg:Str->Option Value) (base:Heap) (k:Nat) (x:Str) (ps:List Str) (dvs:List V) (sp:Sp):Prop where
 ex:∃(f:Addr) (fd:FuncData) (ds:List Value),FnOk P w K mg base (kA P w) k f fd ps sp/\mg x=some (.ref f)/\PySem.W.keepIn K (.ref f)=true/\Vals dvs ds/\Binds K fd ps ds
variable {X:Cx} {R:St->Value->Hp->Prop}
theorem k7 {k k':Nat} {x:Str} {ps:List Str} {dvs:List V} {sp:Sp} {p pos:Pos} {e:Expr} {es:List Expr} {t:TA} (F:DefX X.prog X.w X.K X.mg X.base k x ps dvs sp) (hx:bI X R) (hr:Room k' X.A) (hg:Gl X x) (ha:PA X (e::es) t)
  (hk:k<=k':=by decide) (hdb:(x == ("__debug__":Str))=false:=by decide) (he:starEach (e::es) X.env=(false,eval e X.env)::starEach es X.env:=by rfl) (hpl:(backTo pos (starEach es X.env)).any (·.1)=false:=by rfl) :
  PE X (.Call (.Name x p) (e::es) [] pos) (VR sp dvs R t):=by
 obtain ⟨f,fd,ds,G,m,kp,hv,b⟩:=F.ex;intro pins s σ H Q I h;refine gc (bX I hg m ?_ hdb);refine dk (h₀:=X.base) I.ok.mod.kin kp (jW (ha pos pins s σ H _ I h) fun us s1 ⟨vs,H1,I1,r,q⟩=>⟨I1.kIn,?_⟩) he hpl;exact EF G (hr.mono hk) b hv hx I1 r q
def GA (X:Cx) (pins:List (Addr×Obj)) (a:Addr):Prop:=X.s₀.heap.get? a=none/\a≠X.env.locals/\(∀x c,X.env.cells.lookup x=some c->c≠a)/\∀p∈X.pn++pins,p.1≠a
def QP (X:Cx) (pins:List (Addr×Obj)) (R:St->Value->Hp->Prop):Cx:={X with
 pn:=X.pn++pins
 xe:=fun e s'=>∃(a C:Addr) (σ':St) (H':Hp),e=.ref a/\Inv X pins σ' H' s'/\GX X.stack (fun b=>H' b≠none\/(∃o,X.s₀.heap.get? b=some o)\/∃p∈X.pn++pins,p.1=b) s'.heap a C/\H' a=none/\GA X pins a/\R σ' (.ref C) H'}
theorem Cx.Ok.intoTry {pins:List (Addr×Obj)} (ok:X.Ok):(QP X pins R).Ok :=
 ⟨ok.mod,ok.kind,ok.glob,ok.blt,ok.above,ok.inj,ok.has,ok.cab,ok.hd,ok.frames,ok.stk,ok.exf,ok.bs,ok.bsz,ok.noex,ok.exfs,ok.funs,ok.frf⟩
theorem Cx.Ok.outTry {pins:List (Addr×Obj)} (ok:(QP X pins R).Ok):X.Ok :=
 ⟨ok.mod,ok.kind,ok.glob,ok.blt,ok.above,ok.inj,ok.has,ok.cab,ok.hd,ok.frames,ok.stk,ok.exf,ok.bs,ok.bsz,ok.noex,ok.exfs,ok.funs,ok.frf⟩
section
variable {X:Cx} {pins pins':List (Addr×Obj)} {σ:St} {H:Hp} {s:Shared} {R:St->Value->Hp->Prop}
theorem Inv.intoTry (I:Inv X pins σ H s):Inv (QP X pins R) [] σ H s :=
 ⟨I.ok.intoTry,I.os,I.bare,I.base,I.loc,I.cell,I.free,I.freeC,fun p hp=>I.pin p (by have hp':p∈(X.pn++pins)++[]:=hp;rw [bb] at hp';exact hp'),I.hok,I.len⟩
theorem Inv.outTry (I:Inv (QP X pins R) pins' σ H s):Inv X pins σ H s :=
 ⟨I.ok.outTry,I.os,I.bare,I.base,I.loc,I.cell,I.free,I.freeC,fun p hp=>I.pin p (gl _ hp),I.hok,I.len⟩
theorem SP.outTry {D:Ends} {f:Flow} {s':Shared} (h:SP (QP X pins R) [] D f s'):SP X pins D f s':=by
 cases f with
 |next=>obtain ⟨σ',H',I,q⟩:=h;exact ⟨σ',H',I.outTry,q⟩
 |brk=>obtain ⟨σ',H',I,q⟩:=h;exact ⟨σ',H',I.outTry,q⟩
 |cont=>obtain ⟨σ',H',I,q⟩:=h;exact ⟨σ',H',I.outTry,q⟩
 |ret u=>obtain ⟨v,σ',H',I,r,q⟩:=h;exact ⟨v,σ',H',I.outTry,r,q⟩
theorem CB (hex:X.ex=[]):bI (QP X pins R) R:=by
 intro pins' σ H1 s1 e s2 I hx;obtain ⟨a,C,H2,rfl,os,bare,un,hok,⟨B,a0,fl,ground⟩,ha,hs,q⟩:=hx;have I0:Inv X pins σ H1 s1:=I.outTry;have J:Inv X pins σ H2 s2:=I0.call' (ch:=[]) os un hok bare fun b z=>absurd z (by simp)
 refine ⟨a,C,σ,H2,rfl,J,⟨B,a0,fl,fun b o q n z=>ground b o q n ?_⟩,ha,⟨?_,fun z=>?_,fun x c e z=>?_,fun p hp z=>?_⟩,q⟩
 ·rcases z with z|⟨o',z⟩|⟨p,hp,rfl⟩
  ·exact .inl z
  ·exact .inr (I0.base.there b o' z (by rw [hex];simp))
  ·exact .inr ⟨_,(I0.pin p hp).1⟩
 ·cases r:X.s₀.heap.get? a with
  |none=>rfl
  |some v =>
   obtain ⟨u,hu⟩:=I0.base.there a v r (by rw [hex];simp);rw [hs] at hu;cases hu
 ·obtain ⟨m,⟨o,_,_,ho,_⟩,_⟩:=I0.loc;rw [<- z,hs] at ho;cases ho
 ·obtain ⟨v,o,ho,_⟩:=I0.cell x c e;rw [z,hs] at ho;cases ho
 ·have ho:=(I0.pin p hp).1;rw [z,hs] at ho;cases ho
theorem Inv.fly {h':Heap} (I:Inv X pins σ H s) (hstk:X.stack=X.env::X.outer) (hf:X.env.frame=some X.env.locals)
  (k:∀b o,s.heap.get? b=some o->b∉kM X.stack->(H b≠none\/(∃o,X.s₀.heap.get? b=some o)\/∃p∈X.pn++pins,p.1=b)->h'.get? b=some o) (up:s.heap.UpToSlots h'):Inv X pins σ H {s with heap:=h'}:=by
 have hfs:kM X.stack=X.env.locals::X.fs:=by rw [hstk];unfold kM;rw [gr,hf];rfl
 have cellK:∀c v,s.heap.IsCell c v->h'.IsCell c v:=fun c v ⟨o,ho,hd⟩=>by
  obtain ⟨sl,e⟩:=up c o ho (fun vs q=>by rw [hd] at q;cases q);exact ⟨_,e,hd⟩
 have zL:∀b,H b≠none->b∉kM X.stack:=fun b hb z=>hb (I.stkFree b z)
 refine ⟨I.ok,I.os,I.bare,I.base.go (fun b o q n _ z=>k b o q (fun m=>?_) (.inr (.inl z))) (fun b o q n z=>?_),?_,fun x c e=>?_,I.free,I.freeC,fun p hp=>?_,I.hok.keepT fun b u hb q=>k b u q (zL b hb) (.inl hb),I.len⟩
 ·rw [hfs] at m
  rcases ao.mp m with m|m
  ·obtain ⟨o',z⟩:=z;exact absurd (aA (ar z) I.ok.above) (by rw [m];exact cp _)
  ·exact n m
 ·obtain ⟨_,o',ho',hd⟩:=I.stack.mem (show b∈kM X.stack from by rw [hfs];exact aI _ n);rw [q] at ho';cases ho'
  exact up b o q hd
 ·obtain ⟨m,hn,hl⟩:=I.loc;refine ⟨m,up.ns hn,fun i x v h1 h2 h3=>?_⟩;obtain ⟨u,r,l⟩:=hl i x v h1 h2 h3;refine ⟨u,r,?_⟩
  rcases l with l|⟨l1,c,l2,l3⟩
  ·exact .inl l
  ·exact .inr ⟨l1,c,l2,cellK c _ l3⟩
 ·obtain ⟨v,q⟩:=I.cell x c e;exact ⟨v,cellK c v q⟩
 ·obtain ⟨h1,h2,h3,h4,h5⟩:=I.pin p hp;refine ⟨k p.1 p.2 h1 (fun m=>?_) (.inr (.inr ⟨p,hp,rfl⟩)),h2,h3,h4,h5⟩;rw [hfs] at m
  rcases ao.mp m with m|m
  ·exact h3 m
  ·exact h4 m
end
def dW (X:Cx) (e:Value):Cx:={X with A:=X.A.mark (some e),calm:=false,xe:=fun _ _=>False}
section
variable {X:Cx} {pins:List (Addr×Obj)} {σ:St} {H:Hp} {s:Shared} {e:Value}
theorem Inv.intoSuite (I:Inv X pins σ H s) (e:Value):Inv (dW X e) pins σ H s :=
 ⟨⟨I.ok.mod,I.ok.kind,I.ok.glob,I.ok.blt,I.ok.above,I.ok.inj,I.ok.has,I.ok.cab,fun z=>absurd (show false=true from z) (by decide),I.ok.frames,I.ok.stk,I.ok.exf,I.ok.bs,I.ok.bsz,I.ok.noex,I.ok.exfs,I.ok.funs,I.ok.frf⟩,I.os,I.bare,I.base,I.loc,I.cell,I.free,I.freeC,I.pin,I.hok,I.len⟩
theorem Inv.outSuite (ok:X.Ok) (I:Inv (dW X e) pins σ H s):Inv X pins σ H s:=⟨ok,I.os,I.bare,I.base,I.loc,I.cell,I.free,I.freeC,I.pin,I.hok,I.len⟩
theorem SP.outSuite (ok:X.Ok) {D:Ends} {f:Flow} {s':Shared} (h:SP (dW X e) pins D f s'):SP X pins D f s':=by
 cases f with
 |next=>obtain ⟨σ',H',I,q⟩:=h;exact ⟨σ',H',I.outSuite ok,q⟩
 |brk=>obtain ⟨σ',H',I,q⟩:=h;exact ⟨σ',H',I.outSuite ok,q⟩
 |cont=>obtain ⟨σ',H',I,q⟩:=h;exact ⟨σ',H',I.outSuite ok,q⟩
 |ret u=>obtain ⟨v,σ',H',I,r,q⟩:=h;exact ⟨v,σ',H',I.outSuite ok,r,q⟩
end
def XR (C:Addr) (tb:(St->Value->Hp->Prop)->TS) (ts:TS):TS:=fun D σ H=>∃R:St->Value->Hp->Prop,tb R D σ H/\∀σ' c H',R σ' c H'->c=.ref C/\ts D σ' H'
theorem VY {body:List Stmt} {x:Str} {C:Addr} {np hpos pos:Pos} {b₀:Stmt} {suite:List Stmt} {tb:(St->Value->Hp->Prop)->TS} {ts:TS} (hex:X.ex=[]) (hstk:X.stack=X.env::X.outer) (hf:X.env.frame=some X.env.locals)
  (hg:Gl X x) (hm:X.mg x=some (.ref C)) (hc:QW X.K C) (hb:∀pins R,bI (QP X pins R) R->PSs (QP X pins R) body (tb R)) (hs:∀e,PSs (dW X e) (b₀::suite) ts) (hdb:(x == ("__debug__":Str))=false:=by decide) :
  PS X (.Try body [.ExceptHandler (some (.Name x np)) none (b₀::suite) hpos] [] [] pos) (XR C tb ts):=by
 intro pins s σ H D I h;obtain ⟨R,h1,h2⟩:=h;refine wpAny_Try_except (cg (hb pins R (CB hex) [] s σ H D I.intoTry h1) (fun f s1 q=>?_) (fun v s1 q=>?_))
 ·have q':=q.outTry;cases f with
  |next=>exact ge q'
  |brk=>exact q'
  |cont=>exact q'
  |ret u=>exact q'
 ·obtain ⟨a,C',σ',H',rfl,J,⟨B,a0,fl,ground⟩,ha,_,r⟩:=q;obtain ⟨e1,h3⟩:=h2 σ' (.ref C') H' r;cases e1;have fl0:Heap.FlyingW B (X.env::X.outer) a (.ref C) a0 s1.heap:=by rw [hstk] at fl;exact fl
  have hfr:X.A.frames=some (X.env::X.outer):=by rw [<- hstk];exact J.ok.frames
  refine wpAny_looks_onW hfr hf fl0 fun h4 held4 up4=>?_
  refine wpAny_landsW held4 fun h5 fl5 up5=>?_
  have J5:Inv X pins σ' H' {s1 with heap:=h5}:=J.fly hstk hf (fun b o q n z=>fl5.1 b o (ground b o q n z)) (up4.trans up5);obtain ⟨ob,hob,hobc⟩:=fl5.there;obtain ⟨tl,N,nm,q,bs,hdct,sn,sub,ab,col,dd,k0,k1,k2,k3,k5,mN,_,hC,hN,hni,T⟩:=ES J5.ok.mod.kin hc;refine wpAny_handleBy_cons (codeAny_handlers_test (bX (J5.intoSuite (.ref a)) hg hm ?_ hdb)) (by intro q;cases q);obtain ⟨hh,g,d,tk,os⟩:=s1;refine wpAny_excMatches_sub_self (J5.bk _ _ hC) hob hobc (T.hasType PySem.F.excBase_ValueError.hasBase) (codeAny_handlers_suite ?_);refine lands_againW fl5 fun h6 fl6 up6=>?_
  have J6:Inv X pins σ' H' {heap:=h6,gens:=g,drawn:=d,toks:=tk,os:=os}:=J.fly hstk hf (fun b o q n z=>fl6.1 b o (ground b o q n z)) ((up4.trans up5).trans up6);exact cg (hs (.ref a) pins _ σ' H' D (J6.intoSuite _) h3) (fun f s' q=>q.outSuite J6.ok) fun _ _ z=>False.elim z
end L2
namespace L2
open PySem PySem.Spec PyProof.Rows
section
variable {P:Program} {w:World} {K:PySem.W.Frag} {mg:Str->Option Value} {base:Heap}
theorem Fun.okX {x qual:Str} {st:Stmt} {f:Addr} {fd:FuncData} {N ps:List Str} {k:Nat} {sp:Sp} (F:Fun K x qual st f fd) (S:FnScope N ps (j8 st)) (len:∀vs H Q E,sp vs H Q E->vs.length=ps.length)
  (hbody:∀(cdv:Value) (A:Around) (outer:List Env) (s:Shared) (H:Hp) (vs:List V) (Q:VK) (E:XK),Room k (A.deeper (envOfC qual (j8 st) s.heap.objs.size f cdv))->sp vs H Q E->
   ∃t,PSs (qC (kA P w) P w K mg base N qual (j8 st) f cdv A outer s H E) (qT st) t/\t {nx:=fun _ H'=>Q .non H',rt:=Q} (start N vs) H):FnOk P w K mg base (kA P w) (k+1) f fd ps sp:=by
 obtain ⟨oc,od,kV,doc,pm,an,cdv,ct,osl,rfl,lk,hcd⟩:=F.ex;exact wU lk hcd S len fun A outer s H vs Q E hr hsp=>hbody cdv A outer s H vs Q E hr hsp
theorem FnOk.noX {k:Nat} {f:Addr} {fd:FuncData} {ps:List Str} {sp sp':Sp} (F:FnOk P w K mg base (kA P w) k f fd ps sp) (h:∀vs H Q E,sp' vs H Q E->sp vs H Q (fun _ _ _=>False)):FnOk P w K mg base jX k f fd ps sp' :=
 ⟨fun vs H Q E q=>F.len vs H Q _ (h _ _ _ _ q),fun A outer s H args us vs Q E hr he hb hv hs=>ka (F.run A outer s H args us vs Q _ hr he hb hv (h _ _ _ _ hs)) fun r s' hq=>by
  cases r with
  |ok fl=>cases fl<;>exact hq
  |error e=>obtain ⟨_,_,_,_,_,_,_,_,_,_,_,z⟩:=hq;exact z⟩
end
section
variable {X:Cx}
end
section
variable {X:Cx} {pins:List (Addr×Obj)} {σ:St} {H:Hp} {s:Shared}
theorem Inv.unset {i:Nat} {x:Str} {m':Str->Option Value} {h':Heap} {t':Nat} (I:Inv X pins σ H s) (hN:X.N.Nodup) (hi:X.N[i]?=some x)
  (hm:∀m,s.heap.Ns X.env.locals m->∀y,y≠x->m' y=m y) (hn:h'.Ns X.env.locals m') (hs:Heap.SameBut X.env.locals s.heap h'):Inv X pins (σ.set i none) H {s with heap:=h',toks:=t'}:=by
 obtain ⟨m,hn0,hl⟩:=id I.loc;obtain ⟨oL,_,_,hoL,_⟩:=id hn0;have hiσ:i<σ.length:=by rw [I.len];exact (af.mp hi).1
 refine ⟨I.ok,I.os,I.bare,⟨fun b o e n hb hx=>?_,fun b o e n hb hx=>?_,I.base.free,fun b o e hx=>?_,I.base.tups,I.base.frzs,I.base.tbls⟩,⟨_,hn,fun j y v' e1 e2 e3=>?_⟩,fun y c e=>?_,I.free,I.freeC,fun p hp=>?_,?_,by simpa using I.len⟩
 ·exact (hs.2 b (aM (aA (ar e) I.ok.above))).trans (I.base.keep b o e n hb hx)
 ·obtain ⟨sl,e1⟩:=I.base.slot b o e n hb hx;exact ⟨sl,(hs.2 b (aM (aA (ar e) I.ok.above))).trans e1⟩
 ·obtain ⟨o',e1⟩:=I.base.there b o e hx;exact ⟨o',(hs.2 b (aM (aA (ar e) I.ok.above))).trans e1⟩
 ·by_cases hj:j=i
  ·subst hj;rw [fz hiσ] at e2;cases e2
  ·rw [gm (Ne.symm hj)] at e2;obtain ⟨u',r',q⟩:=hl j y v' e1 e2 e3;refine ⟨u',r',?_⟩
   rcases q with ⟨k,e⟩|⟨k,c,e,z⟩
   ·refine .inl ⟨k,?_⟩;have:y≠x:=fun e=>hj (uI hN e1 (e▸hi))
    rw [hm m hn0 y this];exact e
   ·exact .inr ⟨k,c,e,z.sameBut hs (I.cne y c e)⟩
 ·obtain ⟨w',z⟩:=I.cell y c e;exact ⟨w',z.sameBut hs (I.cne y c e)⟩
 ·obtain ⟨e,n,ne,nf,d⟩:=I.pin p hp;exact ⟨(hs.2 p.1 ne).trans e,n,ne,nf,d⟩
 ·refine I.hok.keepT fun b u hb q=>(hs.2 b fun z=>?_).trans q
  rw [z] at hb;exact hb I.free
theorem UT {h:Heap} {a:Addr} {m m':Str->Option Value} (x:h.Ns a m) (y:h.Ns a m'):m=m':=by
 obtain ⟨o,es,ep,ho,hd,_,hf⟩:=x;obtain ⟨o',es',ep',ho',hd',_,hf'⟩:=y;rw [ho] at ho';cases ho'
 rw [hd] at hd';cases hd'
 funext n;rw [<- hf n,<- hf' n]
theorem lR {A:Around} {E:Value->Shared->Prop} {i:Nat} {x:Str} {pos:Pos} {Q:Unit->Shared->Prop} (I:Inv X pins σ H s) (hN:X.N.Nodup) (hi:X.N[i]?=some x) (hx:X.env.scope.names.lookup x=some .local)
  (h:∀s',Inv X pins (σ.set i none) H s'->Q () s'):wpAny (model X.prog X.w) A (do bindName X.env x .none;unbindBehindTheSuite X.env x pos) Q E s:=by
 have hp:(X.env.scope.kind == .class||(X.env.scope.kind == .module&&X.env.locals != X.env.globals))=false:=by rw [I.ok.kind];rfl
 obtain ⟨m,hn,_⟩:=id I.loc;refine ae (wpAny_bindName (wpAny_storeName_local hx hn (fun h₁ hn₁ hs₁=>?_) hp));unfold unbindBehindTheSuite;refine fb ?_;unfold unbindName;refine ae (wpAny_point (ae ?_));unfold deleteName;have hl:X.env.kindOf x=some .local:=hx;simp only [hl,hp];rw [if_neg (by decide)];refine ae (wpAny_nsDel_keeps hn₁ fun h₂ v hn₂ hs₂=>?_);simp only [if_true,Option.isSome_some,Bool.not_true,hX,if_false];refine aJ (wpAny_point (h _ ?_));exact I.unset hN hi (fun m0 h0 y hy=>by rw [UT h0 hn];simp [hy]) hn₂ (hs₁.trans hs₂)
theorem Inv.track {a:Addr} {o:HO} (I:Inv X pins σ H s) (ha:H a=none) (ap:GA X pins a) (new:ObjOk X.prog X.w (upd H a o) s.heap a o):Inv X pins σ (upd H a o) s:=by
 obtain ⟨n0,nl,nc,np⟩:=ap;refine ⟨I.ok,I.os,I.bare,⟨I.base.keep,I.base.slot,fun b u q n hx=>?_,I.base.there,fun b xs q=>?_,fun b u xs q=>?_,fun b ps q=>?_⟩,I.loc,I.cell,?_,fun x c e=>?_,fun p hp=>?_,fun b u e=>?_,I.len⟩
 ·rw [jP (fun z=>by rw [z,n0] at q;cases q)];exact I.base.free b u q n hx
 ·have:=I.base.tups b xs q;rw [jP (kZ this ha)];exact this
 ·have:=I.base.frzs b u xs q;rw [jP (kZ this ha)];exact this
 ·obtain ⟨more,e⟩:=I.base.tbls b ps q;exact ⟨more,by rw [jP (kZ e ha)];exact e⟩
 ·rw [jP (Ne.symm nl)];exact I.free
 ·rw [jP (nc x c e)];exact I.freeC x c e
 ·obtain ⟨h1,h2,h3⟩:=I.pin p hp;exact ⟨h1,by rw [jP (np p hp)];exact h2,h3⟩
 ·by_cases hb:b=a
  ·subst hb;rw [jF] at e;cases e;exact new
  ·rw [jP hb] at e;exact (I.hok b u e).stay (fun c v _ q=>q) (fun c q=>by rw [jP (kZ q ha)];exact q) fun c xs q=>by rw [jP (kZ q ha)];exact q
end
def cV (a C:Addr):HO:=.ext fun h=>∃o vs,h.get? a=some o/\o.cls=.ref C/\o.data=.fields vs
def VN (K:PySem.W.Frag) (C0:Addr) (i:Nat) (tb:(St->Value->Hp->Prop)->TS) (ts:TS):TS:=fun D σ H=>∃R:St->Value->Hp->Prop,tb R D σ H/\∀σ' c H',R σ' c H'->∃C,c=.ref C/\PySem.W.exmOne K (.ref C) (.ref C0)=some true/\
 ∀a,H' a=none->ts {nx:=fun σ2 H2=>D.nx (σ2.set i none) H2,rt:=D.rt,bk:=fun σ2 H2=>D.bk (σ2.set i none) H2,ct:=fun σ2 H2=>D.ct (σ2.set i none) H2} (σ'.set i (some (.ref a))) (upd H' a (cV a C))
theorem SQ {X:Cx} {body:List Stmt} {x n:Str} {C0:Addr} {i:Nat} {np hpos pos:Pos} {b₀:Stmt} {suite:List Stmt} {tb:(St->Value->Hp->Prop)->TS} {ts:TS} (hex:X.ex=[]) (hstk:X.stack=X.env::X.outer) (hf:X.env.frame=some X.env.locals)
  (hN:X.N.Nodup) (hi:X.N[i]?=some n) (hl:X.env.scope.names.lookup n=some .local)
  (hg:Gl X x) (hm:X.mg x=some (.ref C0)) (hb:∀pins R,bI (QP X pins R) R->PSs (QP X pins R) body (tb R)) (hs:∀e,PSs (dW X e) (b₀::suite) ts) (hdb:(x == ("__debug__":Str))=false:=by decide) :
  PS X (.Try body [.ExceptHandler (some (.Name x np)) (some n) (b₀::suite) hpos] [] [] pos) (VN X.K C0 i tb ts):=by
 intro pins s σ H D I h;obtain ⟨R,h1,h2⟩:=h;refine wpAny_Try_except (cg (hb pins R (CB hex) [] s σ H D I.intoTry h1) (fun f s1 q=>?_) (fun v s1 q=>?_))
 ·have q':=q.outTry;cases f with
  |next=>exact ge q'
  |brk=>exact q'
  |cont=>exact q'
  |ret u=>exact q'
 ·obtain ⟨a,C',σ',H',rfl,J,⟨B,a0,fl,ground⟩,ha,ap,r⟩:=q;obtain ⟨C,e1,hexm,h3⟩:=h2 σ' (.ref C') H' r;cases e1;have fl0:Heap.FlyingW B (X.env::X.outer) a (.ref C') a0 s1.heap:=by rw [hstk] at fl;exact fl
  have hfr:X.A.frames=some (X.env::X.outer):=by rw [<- hstk];exact J.ok.frames
  refine wpAny_looks_onW hfr hf fl0 fun h4 held4 up4=>?_
  refine wpAny_landsW held4 fun h5 fl5 up5=>?_
  have J5:Inv X pins σ' H' {s1 with heap:=h5}:=J.fly hstk hf (fun b o q n z=>fl5.1 b o (ground b o q n z)) (up4.trans up5);obtain ⟨ob,hob,hobc⟩:=fl5.there;have LT:PySem.W.Looks (model X.prog X.w) h5 (typeOf (.ref a)) (.ref C'):=by
   have:PySem.W.Looks (model X.prog X.w) h5 (typeOf (.ref a)) ob.cls:=(PySem.W.Looks.ld hob).andThen .now;rw [hobc] at this;exact this
  refine wpAny_handleBy_cons (codeAny_handlers_test (bX (J5.intoSuite (.ref a)) hg hm ?_ hdb)) (by intro q;cases q);have KI:X.K.In h5:=J5.kIn;refine (PySem.W.exm_one KI LT hexm).here ?_;refine codeAny_handlers_suite_as ?_;refine lands_againW fl5 fun h6 fl6 up6=>?_
  have J6:Inv X pins σ' H' {s1 with heap:=h6}:=J.fly hstk hf (fun b o q n z=>fl6.1 b o (ground b o q n z)) ((up4.trans up5).trans up6);obtain ⟨oe,vs,hoe,hoec,hoed,_⟩:=fl6.first;have new:ObjOk X.prog X.w (upd H' a (cV a C')) h6 a (cV a C') :=
   ⟨⟨oe,vs,hoe,hoec,hoed⟩,⟨oe,hoe⟩,fun h1 h2 ⟨o,vs,e1,e2,e3⟩ k=>⟨o,vs,k o e1,e2,e3⟩⟩
  have J7:Inv X pins σ' (upd H' a (cV a C')) {s1 with heap:=h6}:=J6.track ha ap new;refine uC (X:=dW X (.ref a)) (i:=i) (v:=.ref a) (J7.intoSuite (.ref a)) hN hi (.inl hl) rfl (fun s7 J8=>?_) (.inr hl);refine cg (hs (.ref a) pins _ _ _ _ J8 (h3 a ha)) (fun f s' q=>?_) fun _ _ z=>False.elim z
  have q':=q.outSuite J6.ok;cases f with
  |next=>obtain ⟨σ2,H2,I2,q2⟩:=q';exact lR I2 hN hi hl fun s'' I3=>⟨_,_,I3,q2⟩
  |brk=>obtain ⟨σ2,H2,I2,q2⟩:=q';exact lR I2 hN hi hl fun s'' I3=>⟨_,_,I3,q2⟩
  |cont=>obtain ⟨σ2,H2,I2,q2⟩:=q';exact lR I2 hN hi hl fun s'' I3=>⟨_,_,I3,q2⟩
  |ret u=>obtain ⟨v,σ2,H2,I2,r2,q2⟩:=q';exact lR I2 hN hi hl fun s'' I3=>⟨_,_,_,I3,r2,q2⟩
end L2
namespace L2
open PySem PySem.Spec PySem.Calls PyProof.Rows PySem.W
structure ExcAttr (K:PySem.W.Frag) (C:Addr):Prop where
 ga:PySem.W.findIn K (.ref C) "__getattribute__"=some (some (.builtin "BaseException.__getattribute__"))
 gn:PySem.W.findIn K (.ref C) "__getattr__"=some none
 ca:PySem.W.findIn K (.ref C) "__class__"=some (some (.builtin "object.__class__"))
 mo:PySem.W.mroIn K C (.type "object")=some true
 mb:PySem.W.subIn K (.ref C) (.type "BaseException")=some true
section
variable {prog:Program} {w:World} {A:Around} {E:Value->Shared->Prop} {h:Heap} {g:Array GenState} {d:Drawn} {t:Nat} {os:OsState} {a C:Addr} {o:Obj} {K:PySem.W.Frag}
open PySem.Builtin PySem.Builtin.ObjectAttr PySem.Builtin.Getset_descriptor in
theorem U7 {R:Result->Shared->Prop} {tp:Value} (X:K.In h) (Z:ExcAttr K C) (hx:h.get? a=some o) (hc:o.cls=.ref C) (hq:R (.ok (.ret (.ref C))) ⟨h,g,d,t,os⟩) :
  codeAny (model prog w) A (.call (.builtin "getset_descriptor.__get__") ⟨[.builtin "object.__class__",.ref a,tp],[]⟩) R ⟨h,g,d,t,os⟩:=by
 have L0:PySem.W.Looks (model prog w) h (typeOf (.ref a)) (.ref C):=hc▸(PySem.W.Looks.ld hx).andThen .now;have L1:=PySem.W.looks_mroIn (M:=model prog w) X Z.mo;refine codeAny_call_builtin KF.slot_gs.plain KF.entry_gs (KF.slot_gs.check _ _ _ _ _ _ _ _ KF.type_class (KF.args_gs _ _ _) ?_);unfold Builtin.«getset_descriptor.__get__» descrGet;rw [dga_obj];refine ae (aJ ?_);unfold descrGetter descrCheckInstance descrNameAndClass isInstance;simp only [KF.owner_class]
 repeat lk
 refine ⟨Code.quiet_builtin _ (by decide +kernel),codeAny_builtin KF.entry_class ?_⟩;unfold Builtin.«object.__class__» shownTypeOf
 repeat lk
 exact hq
theorem RY {tk:Tok} {Q:Fin->Shared->Prop} (X:K.In h) (Z:ExcAttr K C) (hx:h.get? a=some o) (hc:o.cls=.ref C) (hq:Q (.done (.ret (.ref C))) ⟨h,g,d,t,os⟩) :
  wpAny (model prog w) A (Builtin.«object.__getattribute__» ⟨[.ref a,.str "__class__" tk],[]⟩) Q E ⟨h,g,d,t,os⟩:=by
 have hT5:(⟨h,g,d,t,os⟩:Shared).TypeIs (.builtin "object.__class__") "getset_descriptor":=F.typeOf_object_class;have f5:=F.typeOf_object_class;have f6:=F.slot_gs_get.lookup;have f7:=F.slot_gs_set.lookup;have L1:=gq (M:=model prog w) X Z.ca
 repeat (any_goals (first|assumption|(with_reducible refine wpAny_loadPart_at hx ?_;rw [hc])|with_reducible refine L1.at ?_|wp_step))
 refine U7 X Z hx hc ?_
 repeat (any_goals (first|assumption|wp_step))
theorem RZ {M:Model} {nameV:Value} {Q:Unit->Shared->Prop} (X:K.In h) (Z:ExcAttr K C) (hx:h.get? a=some o) (hc:o.cls=.ref C) (hq:Q () ⟨h,g,d,t,os⟩) :
  wpAny M A (checkBuiltinCall "BaseException.__getattribute__" ⟨[.ref a,nameV],[]⟩) Q E ⟨h,g,d,t,os⟩:=by
 have hk:builtinKind "BaseException.__getattribute__"=some .slot:=by decide +kernel
 have hsplit:splitId "BaseException.__getattribute__"=some ("BaseException","__getattribute__"):=by decide +kernel
 have L1:PySem.W.Looks M h (isSubtype (.ref C) (.type "BaseException")) true:=PySem.W.looks_subIn X Z.mb;have ha:=F.args_bexc_ga (.ref a) nameV;simp only [checkBuiltinCall,hk,hsplit];refine ae ?_
 ·unfold isInstance
  repeat (first|(with_reducible refine wpAny_loadPart_at hx ?_;rw [hc])|with_reducible refine L1.at ?_|wp_step)
  exact hq
theorem TJ {tk:Tok} {R:Result->Shared->Prop} (X:K.In h) (Z:ExcAttr K C) (hx:h.get? a=some o) (hc:o.cls=.ref C) (hq:R (.ok (.ret (.ref C))) ⟨h,g,d,t,os⟩) :
  codeAny (model prog w) A (.call (.builtin "BaseException.__getattribute__") ⟨[.ref a,.str "__class__" tk],[]⟩) R ⟨h,g,d,t,os⟩ :=
 codeAny_call_builtin PySem.F.attr_ValueError.ga.plain F.entry_bexc_ga (RZ X Z hx hc (RY X Z hx hc hq))
theorem WK {tk:Tok} {fill expr:Bool} {Q:Value->Shared->Prop} (X:K.In h) (Z:ExcAttr K C) (hx:h.get? a=some o) (hc:o.cls=.ref C) (hq:Q (.ref C) ⟨h,g,d,t,os⟩) :
  wpAny (model prog w) A (getAttrBy (.ref a) (.str "__class__" tk) fill expr) Q E ⟨h,g,d,t,os⟩:=by
 have f3:=PySem.F.attr_ValueError.ga.bind (.ref a);have hx0:(expr&&onTheHeap (Value.builtin "BaseException.__getattribute__"))=false:=by cases expr<;>rfl
 have hx2:(Value.builtin "BaseException.__getattribute__" == Value.builtin "object.__getattribute__")=false:=by decide +kernel
 have hx1:(onTheHeap (Value.ref C)&&Value.builtin "BaseException.__getattribute__" == Value.builtin "object.__getattribute__")=false:=by rw [hx2];rfl
 have L1:=gq (M:=model prog w) X Z.ga;have L2:=gq (M:=model prog w) X Z.gn
 repeat (any_goals (first|assumption|(with_reducible refine wpAny_loadPart_at hx ?_;rw [hc])|with_reducible refine L1.at ?_|with_reducible refine L2.at ?_|wp_step))
 refine TJ X Z hx hc ?_
 repeat (any_goals (first|assumption|wp_step))
theorem TK {Q:Option Value->Shared->Prop} (X:K.In h) (Z:ExcAttr K C) (hx:h.get? a=some o) (hc:o.cls=.ref C) (hq:Q (some (.ref C)) ⟨h,g,d,t+1,os⟩) :
  wpAny (model prog w) A (getAttr? (.ref a) "__class__") Q E ⟨h,g,d,t,os⟩:=by
 unfold getAttr? getAttrBy?
 repeat (any_goals (first|assumption|with_reducible apply WK X Z hx hc|wp_step))
end
theorem DM {K:PySem.W.Frag} {a C:Addr} (Z:ExcAttr K C) (hcl:(PySem.W.clsIn K C).isSome=true):PySem.W.KitX K (.ref a) (.ref C) (fun h=>∃o vs,h.get? a=some o/\o.cls=.ref C/\o.data=.fields vs) where
 ty:=fun M h _ ⟨o,_,h1,h2,_⟩=>h2▸(PySem.W.Looks.ld h1).andThen .now
 it:=fun _ _ X _=>by
  unfold PySem.W.clsIn at hcl
  split at hcl
  ·rename_i c' d' cd' sl' ho;intro A' Q' E' s' k q;unfold isType loadHead;exact ae (wpAny_loadPart (k _ _ (X _ _ ho)) (aJ q))
  ·cases hcl
 ne:=fun h tp dd its n sl X htp=>by
  refine dc.mpr fun q=>?_
  have e:C=tp:=Value.ref.inj (gv.mp q);subst e;unfold PySem.W.clsIn at hcl
  split at hcl
  ·rename_i c' d' cd' sl' ho;have z:=(X _ _ ho).symm.trans htp;cases z
  ·cases hcl
 ca:=fun {_ _ _ _ _ s} X ⟨o,_,h1,h2,_⟩ k=>by
  obtain ⟨h,g,d,t,os⟩:=s;exact TK X Z h1 h2 k
section
variable {X:Cx}
def X3 (K:PySem.W.Frag):List V->Hp->VK->Prop:=fun xs H Q=>∃(a C:Addr) (c:V) (b:Bool),xs=[.ref a,c]/\H a=some (cV a C)/\ExcAttr K C/\(PySem.W.clsIn K C).isSome=true/\
 ((∃u,GM c=some u/\PySem.W.kitOne K (.ref C) u=some b)\/∃(p:Addr) (ds:List Addr),c=.ref p/\H p=some (.tup (ds.map V.ref))/\PySem.W.kitAny K (.ref C) (ds.map Value.ref)=some b)/\Q (.bl b) H
theorem BR:∀{ds:List Addr} {us:List Value},Vals (ds.map V.ref) us->us=ds.map Value.ref
 |[],_,r=>by cases r;rfl
 |d::ds,_,r=>by
  cases r with
  |cons h t =>
   cases (show _=Value.ref d from h);rw [BR t];rfl
theorem DT {K:PySem.W.Frag} (hK:X.K=K:=by rfl):yA X (.builtin "isinstance") (X3 K):=by
 subst hK;intro pins s σ H xs us Q I r h;obtain ⟨a,C,c,b,rfl,ha,Z,hcl,hc,q⟩:=h;obtain ⟨u1,u2,rfl,r1,r2⟩:=mQ r;cases (show u1=Value.ref a from r1);obtain ⟨p,_,_⟩:=(show ObjOk X.prog X.w H s.heap a (cV a C) from I.hok a _ ha)
 rcases hc with ⟨u,hu,e⟩|⟨tp,ds,rfl,ht,e⟩
 ·have e2:u2=u:=by
   cases c with
   |ty n=>cases (show u2=Value.type n from r2);exact az hu
   |ref a=>cases (show u2=Value.ref a from r2);exact az hu
   |_=>cases hu
  subst e2;exact ci (DM Z hcl) I.kIn p e (fun z=>nomatch z) fun tk=>⟨.bl b,H,I.tok _,rfl,q⟩
 ·cases (show u2=Value.ref tp from r2);obtain ⟨_,its,rv,ob,h1,h2,n,h3⟩:=(show ObjOk X.prog X.w H s.heap tp (.tup (ds.map V.ref)) from I.hok tp _ ht);have hi:=BR rv;subst hi;obtain ⟨oc,od,odt,osl⟩:=ob
  dsimp only at h2 h3
  subst h2 h3;exact PySem.W.kia_tup (DM Z hcl) I.kIn p h1 e (fun z=>nomatch z) fun tk=>⟨.bl b,H,I.tok _,rfl,q⟩
end
end L2
namespace L2
open PySem PySem.Spec PyProof.Rows
section
variable {X:Cx} {x:Str} {C:Addr} {pos p:Pos} {e:Expr} {es:List Expr} {t:TA}
end
section
variable {X:Cx}
end
def VO (C:Addr) (m:Str) (sp:Sp) (R:St->Value->Hp->Prop) (ta:TE) (t:TA):TE:=fun σ H Q=>ta σ H fun x H1=>∃a dx fs,x=.ref a/\H1 a=some (.ins C dx fs)/\fs.lookup m=none/\
 t σ H1 fun vs H2=>sp (x::vs) H2 Q (fun c _ H'=>R σ c H')
structure MeX (P:Program) (w:World) (K:PySem.W.Frag) (mg:Str->Option Value) (base:Heap) (k:Nat) (C:Addr) (m:Str) (ps:List Str) (sp:Sp):Prop where
 ex:Cls K C/\∃(f:Addr) (fd:FuncData),Meth K C m f/\FnOk P w K mg base (kA P w) k f fd ps sp/\Binds K fd ps []
section
variable {X:Cx} {R:St->Value->Hp->Prop} {k k':Nat} {x m:Str} {C:Addr} {ps:List Str} {sp:Sp} {p pos apos:Pos} {o e:Expr} {es:List Expr} {ta:TE} {t:TA}
theorem JC {pl:Sem Bool} (M:MeX X.prog X.w X.K X.mg X.base k C m ps sp) (hx:bI X R) (hr:Room k' X.A) (ho:PE X o ta) (ha:PA X (e::es) t) (hk:k<=k':=by decide)
  (hst:starEach (e::es) X.env=(false,eval e X.env)::starEach es X.env:=by rfl) (hpl:(backTo pos (starEach es X.env)).any (·.1)=false:=by rfl)
  (ht:eval (.Call (.Attribute o m apos) (e::es) [] pos) X.env=(do
   let ov <- eval o X.env
   standAt apos.atName
   let (f,first) <- holding [ov] (getMethod ov m pl)
   callWith pos f first (backTo pos (starEach (e::es) X.env)) (backToKw pos (keywordEach [] X.env))):=by rfl) :
  PE X (.Call (.Attribute o m apos) (e::es) [] pos) (VO C m sp R ta t):=by
 obtain ⟨c,f,fd,hm,G,b⟩:=M.ex;intro pins s σ H Q I h;refine er (pl:=pl) (jW (ho pins s σ H _ I h) fun u s1 ⟨x,H1,I1,rx,a,dx,fs,ex,ea,l,q⟩=>?_) ht;subst ex;obtain rfl:u=Value.ref a:=rx;refine lM I1 ea c hm l ?_;refine dk (first:=[.ref a]) (h₀:=X.base) I.ok.mod.kin hm.kp (jW (ha pos pins s1 σ H1 _ I1 q) fun us s2 ⟨vs,H2,I2,r,q2⟩=>⟨I2.kIn,?_⟩) hst hpl;exact EF (us:=.ref a::us) (vs:=.ref a::vs) (dvs:=[]) G (hr.mono hk) b .nil hx I2 (.cons rfl r) (by rw [bb];exact q2)
theorem bA {CX:yL} {P:Program} {w:World} {K:PySem.W.Frag} {mg:Str->Option Value} {base:Heap} {N:List Str} {qual:Str} {scope:Scope} {f:Addr} {cd:Value} {A:Around} {outer:List Env} {s:Shared} {H:Hp} {E:XK} :
  PassesOwn (model (qC CX P w K mg base N qual scope f cd A outer s H E).prog (qC CX P w K mg base N qual scope f cd A outer s H E).w) (qC CX P w K mg base N qual scope f cd A outer s H E).A (qC CX P w K mg base N qual scope f cd A outer s H E).env (qC CX P w K mg base N qual scope f cd A outer s H E).xe:=by
 intro e s' h;exact PassesOwn.leaving (Q₁:=fun e s''=>CX outer H s E e s'') (E₁:=fun e' s''=>CX outer H s E e' s'') e s' h
end
section
variable {κ:Type} [DecidableEq κ]
def vE (kvs:List (κ×V)) (k:κ):Option V:=(kvs.find? fun kv=>decide (kv.1=k)).map (·.2)
def y7 (kvs:List (κ×V)) (k:κ) (v:V):List (κ×V) :=
 if (kvs.any fun kv=>decide (kv.1=k))=true then kvs.map (fun kv=>if kv.1=k then (kv.1,v) else kv) else kvs++[(k,v)]
theorem valV_nil {k:κ}:vE ([]:List (κ×V)) k=none:=rfl
theorem Q8 {p:κ×V} {r:List (κ×V)} {k:κ} (e:p.1=k):vE (p::r) k=some p.2:=by simp [vE,gj,e]
theorem yN {p:κ×V} {r:List (κ×V)} {k:κ} (e:¬p.1=k):vE (p::r) k=vE r k:=by simp [vE,gj,e]
theorem CV (k:κ):∀kvs:List (κ×V),(kvs.any fun kv=>decide (kv.1=k))=(vE kvs k).isSome
 |[]=>rfl
 |p::r=>by
  rw [ir]
  by_cases e:p.1=k
  ·simp only [Q8 e,aV e,Bool.true_or,Option.isSome_some]
  ·rw [yN e,aH e,Bool.false_or];exact CV k r
theorem OH (kvs:List (κ×V)) (k:κ) (v:V):(y7 kvs k v).length<=kvs.length+1:=by
 unfold y7
 split
 ·rw [ac];lia
 ·rw [ag,aZ,List.length_nil];lia
theorem dR {kvs:List (κ×V)} {k:κ} (v:V) (h:vE kvs k=none):y7 kvs k v=kvs++[(k,v)]:=by
 unfold y7;rw [CV,h];exact if_neg (by decide)
theorem KV.val {kvs:List (κ×V)} {vs:List (κ×Value)} (r:KV kvs vs) (k:κ):RelO (vE kvs k) (valueAt vs k):=by
 unfold KV at r
 induction r with
 |nil=>exact True.intro
 |@cons p q ps qs h t ih =>
  obtain ⟨h1,h2⟩:=h
  by_cases e:p.1=k
  ·have e':q.1=k:=h1.symm.trans e;have b:valueAt (q::qs) k=some q.2:=by simp [valueAt,gj,e']
   rw [Q8 e,b];exact h2
  ·have e':¬q.1=k:=fun z=>e (h1.trans z)
   have b:valueAt (q::qs) k=valueAt qs k:=by simp [valueAt,gj,e']
   rw [yN e,b];exact ih
theorem KV.any {kvs:List (κ×V)} {vs:List (κ×Value)} (r:KV kvs vs) (k:κ):(kvs.any fun kv=>decide (kv.1=k))=vs.any fun kv=>decide (kv.1=k):=by
 unfold KV at r
 induction r with
 |nil=>rfl
 |cons h t ih=>rw [ir,ir,ih,h.1]
theorem KV.repl {kvs:List (κ×V)} {vs:List (κ×Value)} (r:KV kvs vs) (k:κ) {y:V} {u:Value} (ry:RelV y u) :
  KV (kvs.map fun kv=>if kv.1=k then (kv.1,y) else kv) (vs.map fun kv=>if kv.1=k then (kv.1,u) else kv):=by
 unfold KV at r ⊢
 induction r with
 |nil=>exact .nil
 |@cons p q ps qs h t ih =>
  rw [fj,fj];refine .cons ?_ ih;obtain ⟨h1,h2⟩:=h
  by_cases e:p.1=k
  ·rw [if_pos e,if_pos (h1.symm.trans e)];exact ⟨h1,ry⟩
  ·rw [if_neg e,if_neg (fun z=>e (h1.trans z))];exact ⟨h1,h2⟩
theorem KV.put {kvs:List (κ×V)} {vs:List (κ×Value)} (r:KV kvs vs) (k:κ) {y:V} {u:Value} (ry:RelV y u):KV (y7 kvs k y) (stored vs k u):=by
 unfold y7 stored;rw [r.any k]
 by_cases e:(vs.any fun kv=>decide (kv.1=k))=true
 ·rw [if_pos e,if_pos e];exact r.repl k ry
 ·rw [if_neg e,if_neg e];exact Paired.snoc r ⟨rfl,ry⟩
end
variable {w:World}
theorem wR {P:Program} {k:kC} {u:Value} (r:RelV (kV k) u):(zF P w).is k u=true:=by
 cases k with
 |inl i=>obtain ⟨t,e⟩:=(show ∃t,u=Value.int i t from r);subst e;exact OE P w i t
 |inr x=>obtain ⟨t,e⟩:=(show ∃t,u=Value.str x t from r);subst e;exact OD P w x t
theorem CA {P:Program} {w:World}:∀{ks:List kC} {us:List Value},Vals (ks.map kV) us->ItemsAre (zF P w) ks us
 |[],_,r=>by rw [List.map_nil] at r;cases r;exact .nil
 |k::ks,_,r=>by
  rw [fj] at r;cases r with
  |cons h t=>exact .cons (wR h) (CA t)
abbrev KT (H:Hp):List (List kC×V)->List (List kC×Addr×Value)->Prop:=Paired fun p q=>p.1=q.1/\H q.2.1=some (.tup (p.1.map kV))/\RelV p.2 q.2.2
variable {H:Hp}
theorem KT.val {kvs:List (List kC×V)} {xs:List (List kC×Addr×Value)} (r:KT H kvs xs) (k:List kC):RelO (vE kvs k) ((atKey xs k).map (·.2)):=by
 induction r with
 |nil=>exact True.intro
 |@cons p q ps qs h t ih =>
  obtain ⟨h1,_,h2⟩:=h
  by_cases e:p.1=k
  ·have e':q.1=k:=h1.symm.trans e;have b:atKey (q::qs) k=some q.2:=by simp [atKey,gj,e']
   rw [Q8 e,b];exact h2
  ·have e':¬q.1=k:=fun z=>e (h1.trans z)
   have b:atKey (q::qs) k=atKey qs k:=by simp [atKey,gj,e']
   rw [yN e,b];exact ih
section
variable {P:Program} {w:World} {H:Hp} {h:Heap} {a:Addr}
theorem FS {u:HO} (ok:HOk P w H h) (e:Rd H a u):ObjOk P w H h a u:=e.ok ok
theorem wX {kvs:List (kC×V)} (ok:HOk P w H h) (e:Rd H a (.dK kvs)):kvs.length<=sizeLine/\(a == sysModules)=false/\∃vs,KV kvs vs/\h.DictOf (zF P w) a vs :=
 show ObjOk P w H h a (.dK kvs) from FS ok e
theorem XH {kvs:List (kC×V)} (ok:HOk P w H h) (e:H a=some (.dK kvs)):kvs.length<=sizeLine/\(a == sysModules)=false/\∃vs,KV kvs vs/\h.DictOf (zF P w) a vs:=wX ok (.inl e)
theorem FD {ks:List kC} (ok:HOk P w H h) (e:H a=some (.tup (ks.map kV))):(tupleKind (zF P w)).is h ks a:=by
 obtain ⟨_,its,r,o,h1,h2,n,h3⟩:=(show ObjOk P w H h a (.tup (ks.map kV)) from ok a _ e);exact ⟨o,its.toArray,n,h1,h2,h3,by simpa using CA r⟩
theorem FY {kvs:List (List kC×V)} (ok:HOk P w H h) (e:Rd H a (.dT kvs)):kvs.length<=sizeLine/\(a == sysModules)=false/\
  ∃xs,KT H kvs xs/\h.DictOfH (tupleKind (zF P w)) a xs:=by
 obtain ⟨z,y,xs,r,o,es,ep,h1,h2,h3,h4,h5⟩:=(show ObjOk P w H h a (.dT kvs) from FS ok e);refine ⟨z,y,xs,r,o,es,ep,h1,h2,h3,h4,fun x hx=>?_,h5⟩;have all:∀{l:List (List kC×V)} {m:List (List kC×Addr×Value)},KT H l m->∀x∈m,(tupleKind (zF P w)).is h x.1 x.2.1:=by
  intro l m q
  induction q with
  |nil=>intro x hx;exact nomatch hx
  |@cons p q ps qs hq t ih =>
   intro x hx
   rcases ao.mp hx with e|hx
   ·subst e;exact FD ok (by rw [<- hq.1];exact hq.2.1)
   ·exact ih x hx
 exact all r x hx
end
def DGet (H:Hp) (a:Addr) (y:V) (r:Option V):Prop :=
 (∃kvs k,Rd H a (.dK kvs)/\y=kV k/\r=vE kvs k)\/∃kvs k b,Rd H a (.dT kvs)/\y=.ref b/\H b=some (.tup (k.map kV))/\r=vE kvs k
theorem DGet.k {a:Addr} {kvs:List (kC×V)} {k:kC} (e:H a=some (.dK kvs)):DGet H a (kV k) (vE kvs k):=.inl ⟨kvs,k,.inl e,rfl,rfl⟩
section
variable {X:Cx} {pins:List (Addr×Obj)} {σ:St} {H:Hp} {s:Shared} {a:Addr} {y v:V} {u r:Value} {o:Option V} {A:Around} {E:Value->Shared->Prop}
theorem Inv.big (I:Inv X pins σ H s):sysModules<s.heap.objs.size:=by
 have h:mainGlobals<s.heap.objs.size:=(I.mod.glob.keeps I.bk).lt;exact Nat.lt_trans (by decide) h
theorem R5 {Q:Value->Shared->Prop} (hu:A.units+1<cLine) (I:Inv X pins σ H s) (g:DGet H a y (some v)) (ry:RelV y u) (h:∀w' s',Inv X pins σ H s'->RelV v w'->Q w' s') :
  wpAny (model X.prog X.w) A (getItem (.ref a) u) Q E s:=by
 rcases g with ⟨kvs,k,e,ey,l⟩|⟨kvs,k,b,e,ey,eb,l⟩
 ·subst ey;obtain ⟨z,hd,vs,rel,dd⟩:=wX I.hok e;obtain ⟨w',hw,rw'⟩:=RelO.some_of (v:=v) (o:=valueAt vs k) (by rw [l];exact rel.val k);exact wpAny_getItem_of (wR ry) dd.mapOf hw (h w' _ (I.tok _) rw')
 ·subst ey;cases (show u=Value.ref b from ry);obtain ⟨z,hd,xs,rel,dd⟩:=FY I.hok e;obtain ⟨w',hw,rw'⟩:=RelO.some_of (v:=v) (o:=(atKey xs k).map (·.2)) (by rw [l];exact rel.val k);obtain ⟨p,hp,hp2⟩:=aP.mp hw;refine wpAny_getItem_heap (tupleKind_room_in1 hu) (FD I.hok eb) dd hp ?_;rw [hp2];exact h w' _ (I.tok _) rw'
theorem VC {h':Heap} {t':Nat} {ob:HO} (I:Inv X pins σ H s) (mu:iB (H a)) (hs:Heap.SameBut a s.heap h') (he:∃q,h'.get? a=some q) (new:ObjOk X.prog X.w (upd H a ob) h' a ob) :
  Inv X pins σ (upd H a ob) {s with heap:=h',toks:=t'} :=
 I.write (x:=a) (e:=a) mu (.inl rfl) (fun b q hb z=>(hs.2 b hb).trans z) he new
theorem WL {P:Program} {w:World} {H':Hp} {h':Heap} {kvs:List (kC×V)} {vs:List (kC×Value)} (z:kvs.length<=sizeLine) (hd:(a == sysModules)=false) (rel:KV kvs vs) (dd:h'.DictOf (zF P w) a vs) :
  ObjOk P w H' h' a (.dK kvs):=⟨z,hd,vs,rel,dd⟩
end
section
variable {X:Cx} {pins:List (Addr×Obj)} {σ:St} {H:Hp} {s:Shared} {a:Addr} {kvs:List (kC×V)} {k:kC} {u:Value} {A:Around} {E:Value->Shared->Prop}
end
def GP (i:Expr):Prop:=∀ov iv,subscripted i false ov iv=operate [ov,iv] (getItem ov iv)
variable {pos:Pos}
theorem T5 {prog:Program} {A:Around} {E:Value->Shared->Prop} {s:Shared} {env:Env} {value slice:Expr} {T id:String} {Q:Value->Shared->Prop}
  (hl:typeLookup (.type T) "__getitem__"=pure (some (.builtin id))) (hs:GP slice)
  (h:wpAny (model prog w) A (eval value env) (fun o s₁=>wpAny (model prog w) A (eval slice env) (fun i s₂=>s₂.TypeIs o T/\wpAny (model prog w) A (getItem o i) Q E s₂) E s₁) E s) :
  wpAny (model prog w) A (eval (.Subscript value slice pos) env) Q E s:=by
 refine Subscript_ (cg h (fun o s₁ h₁=>cg h₁ (fun i s₂ h₂=>?_) fun _ _ x=>x) fun _ _ x=>x);obtain ⟨hT,h₂⟩:=h₂;unfold subscriptTail;refine ae ?_;rw [getitemInPython_of_ne hT.not_modules];refine ae (wpAny_specialOf hT hl ?_);have fin:wpAny (model prog w) A (subscripted slice false o i) (fun r s₃=>wpAny (model prog w) A (letTemporaryGo value o r >>= fun _=>pure r) Q E s₃) E s₂:=by
  rw [hs o i];exact wpAny_operating (cg h₂ (fun r s₃ h₃=>ae (wpAny_letTemporaryGo (aJ h₃))) fun _ _ x=>x)
 first
  |exact aJ (ae fin)
  |exact ae (aJ (ae fin))
  |exact ae fin
variable {X:Cx}
theorem OI {pins:List (Addr×Obj)} {σ:St} {s:Shared} {a:Addr} {y:V} {o:Option V} (I:Inv X pins σ H s) (g:DGet H a y o):s.TypeIs (.ref a) "dict":=by
 rcases g with ⟨kvs,k,e,_,_⟩|⟨kvs,k,b,e,_,_,_⟩
 ·obtain ⟨_,_,vs,_,dd⟩:=wX I.hok e;exact dd.typeIs
 ·obtain ⟨_,_,xs,_,dd⟩:=FY I.hok e;exact dd.typeIs
def WT (td ty:TE):TE:=fun σ H Q=>td σ H fun x H1=>ty σ H1 fun y H2=>∃a v,x=.ref a/\DGet H2 a y (some v)/\Q v H2
section
variable {X:Cx} {o i e value:Expr} {pos pos' tpos:Pos} {td ty tv:TE}
theorem gB (hu:X.A.units+1<cLine) (ho:PE X o td) (hi:PE X i ty) (hs:GP i):PE X (.Subscript o i pos) (WT td ty):=by
 intro pins s σ H Q I h;refine T5 PySem.F.slot_dict_getitem.lookup hs (jW (ho pins s σ H _ I h) fun u s1 ⟨x,H1,I1,rx,q1⟩=>jW (hi pins s1 σ H1 _ I1 q1) fun iv s2 ⟨y,H2,I2,ry,a,v,ex,g,q2⟩=>?_);subst ex;obtain rfl:u=Value.ref a:=rx;exact ⟨OI I2 g,R5 hu I2 g ry fun w' s3 I3 rw'=>⟨v,H2,I3,rw',q2⟩⟩
end
theorem TN {P:Program} (h:Heap) (hb:sysModules<h.objs.size):ObjOk P w H (h.push {cls:=.type "dict",data:=.dict #[]}) h.objs.size (.dK []) :=
 ⟨aL _,da.mpr (Ne.symm (aM hb)),[],.nil,Heap.DictOf.new h⟩
section
variable {X:Cx} {pos:Pos}
end
def uY:List (TE×TE)->St->Hp->(List (V×V)->Hp->Prop)->Prop
 |[],_,H,Q=>Q [] H
 | (tk,tv)::r,σ,H,Q=>tk σ H fun x H1=>tv σ H1 fun y H2=>uY r σ H2 fun ps H3=>Q ((x,y)::ps) H3
abbrev VV:List (V×V)->List (Value×Value)->Prop:=Paired fun p q=>RelV p.1 q.1/\RelV p.2 q.2
def oF (X:Cx) (pos:Pos) (keys:List (Option Expr)) (values:List Expr) (trs:List (TE×TE)):Prop :=
 ∀(pins:List (Addr×Obj)) (s:Shared) (σ:St) (H:Hp) (Q:List (V×V)->Hp->Prop),Inv X pins σ H s->uY trs σ H Q->
  wpAny (model X.prog X.w) X.A (evalPairs (pairTrees keys values X.env pos)) (fun vs s'=>∃ps H',Inv X pins σ H' s'/\VV ps vs/\Q ps H') X.xe s
theorem EG:oF X pos [] [] []:=fun pins s σ H Q I h=>pairTrees_nil_walk ⟨[],H,I,.nil,h⟩
theorem dS {k v:Expr} {ks:List (Option Expr)} {vs:List Expr} {tk tv:TE} {trs:List (TE×TE)} (hk:PE X k tk) (hv:PE X v tv) (hr:oF X pos ks vs trs) :
  oF X pos (some k::ks) (v::vs) ((tk,tv)::trs):=fun pins s σ H Q I h =>
 pairTrees_cons_walk (jW (hk pins s σ H _ I h) fun u s1 ⟨x,H1,I1,rx,q1⟩=>jW (hv pins s1 σ H1 _ I1 q1) fun w2 s2 ⟨y,H2,I2,ry,q2⟩ =>
  jW (hr pins s2 σ H2 _ I2 q2) fun ws s3 ⟨ps,H3,I3,rel,q3⟩=>⟨(x,y)::ps,H3,I3,.cons ⟨rx,ry⟩ rel,q3⟩)
def b6 (kvs more:List (kC×V)):List (kC×V):=more.foldl (fun acc kv=>y7 acc kv.1 kv.2) kvs
theorem KV.merge:∀{more:List (kC×V)} {rs:List (kC×Value)} {kvs:List (kC×V)} {vs:List (kC×Value)},KV more rs->KV kvs vs->KV (b6 kvs more) (merged vs rs):=by
 intro more rs kvs vs r;unfold KV at r
 induction r generalizing kvs vs with
 |nil=>intro q;exact q
 |@cons p q ps qs h t ih =>
  intro r0;have e:KV (y7 kvs p.1 p.2) (stored vs q.1 q.2):=by
   have:=r0.put p.1 h.2;rw [<- h.1];exact this
  exact ih e
theorem AL:∀(more kvs:List (kC×V)),(b6 kvs more).length<=kvs.length+more.length
 |[],kvs=>by show kvs.length<=kvs.length+0;lia
 |p::r,kvs=>by
  have h1:=AL r (y7 kvs p.1 p.2);have h2:=OH kvs p.1 p.2;show (b6 (y7 kvs p.1 p.2) r).length<=_;rw [aZ];lia
theorem BL {P:Program} {w:World}:∀{kvs:List (kC×V)} {ws:List (Value×Value)},VV (kvs.map fun kv=>(kV kv.1,kv.2)) ws->∃rs,Carries (zF P w) ws rs/\KV kvs rs
 |[],_,r=>by rw [List.map_nil] at r;cases r;exact ⟨[],True.intro,.nil⟩
 |p::kvs,_,r=>by
  rw [fj] at r;cases r with
  |@cons a b as bs h t =>
   obtain ⟨rs,c,q⟩:=BL (P:=P) (w:=w) t;obtain ⟨b1,b2⟩:=b;exact ⟨(p.1,b2)::rs,⟨wR h.1,rfl,c⟩,.cons ⟨rfl,h.2⟩ q⟩
def WS (trs:List (TE×TE)):TE:=fun σ H Q=>∀p,H p=none->uY trs σ (upd H p (.dK [])) fun ps H2=>H2 p=some (.dK [])/\∃kvs:List (kC×V),ps=kvs.map (fun kv=>(kV kv.1,kv.2))/\kvs.length<=15/\Q (.ref p) (upd H2 p (.dK (b6 [] kvs)))
theorem EK {keys:List (Option Expr)} {values:List Expr} {trs:List (TE×TE)} (h:oF X pos keys values trs) (hall:keys.all (·.isSome)=true) (hl:keys.length=values.length) (h0:keys≠[])
  (h15:keys.length<=15):PE X (.Dict keys values pos) (WS trs):=by
 intro pins s σ H Q I q;have hn:=I.hok.fresh (aj s.heap.objs.size);have I1:=I.laid (a:=s.heap.objs.size) (o:=.dK []) (h':=s.heap.push {cls:=.type "dict",data:=.dict #[]}) (t':=s.toks) (fun _ _ q=>ai _ q) (aj _) (TN s.heap I.big);refine wpAny_Dict_walk (knd:=zF X.prog X.w) hall hl h0 h15 (jW (h pins _ σ _ _ I1 (q _ hn)) fun ws s2 ⟨ps,H2,I2,rel,e,kvs,ep,lk,q2⟩=>?_);subst ep;obtain ⟨rs,c,rk⟩:=BL (P:=X.prog) (w:=X.w) rel;obtain ⟨z,hd,vs0,r0,dd⟩:=XH I2.hok e;cases r0;refine ⟨rs,c,dd,fun h' dd' hs=>⟨.ref s.heap.objs.size,_,?_,rfl,q2⟩⟩;have hz:(b6 [] kvs).length<=sizeLine:=by
  have h1:=AL kvs [];rw [List.length_nil] at h1;rw [sizeLine_eq];lia
 have he:∃q,h'.get? s.heap.objs.size=some q:=let ⟨q,_,_,hq,_⟩:=dd';⟨q,hq⟩
 exact VC I2 (by rw [e];exact True.intro) hs he (WL hz hd (rk.merge .nil) dd')
end L2
namespace L2
open PySem PySem.Spec PyProof.Rows
def iF (n:Nat):It:=⟨fun i _=>i<n,fun i H x H'=>H'=H/\x=.int ((n:Int) - 1 - (i:Int)),fun i _=>n<=i⟩
theorem P5 {P:Program} {w:World} {K:PySem.W.Frag} {tg:Expr} (it:Addr) (n:Nat):Turn P w K tg (iF n) [it] it (fun i h=>IsRangeIter h it (((n:Int) - 1)+(i:Nat)*(-1)) ((n:Int) - (i:Nat)) (-1)) where
 mem:=by simp
 obj:=fun i h st b hb=>by
  have e:b=it:=by simpa using hb
  subst e;exact ⟨_,st,fun v z=>by
   have z':Data.fields _=Data.cell v:=z;cases z'⟩
 keep:=fun i h h' st k=>k it (by simp) _ st
 item:=by
  intro X hP hw hK hc i pins s σ H E I hf st hg;subst hP hw hK;obtain ⟨f0,f1,f2,f3,f4,f5⟩:=hf it (by simp);have W:=Walks.range (prog:=X.prog) (w:=X.w) (I.ok.hd hc) it ((n:Int) - 1) (-1) n;refine W.item i s _ _ hg st fun v h' tk hv st' kk=>?_
  obtain ⟨t,rfl⟩:=hv;have I1:Inv X pins σ H {s with heap:=h',toks:=tk}:=I.turned (fun b o hb e=>kk b o (by simpa using hb) e) f0 f1 f3 f4 f5;refine ⟨_,rfl,gN (s:={s with heap:=h',toks:=tk}) (n:="range_iterator") st' rfl rfl (by decide) ⟨.int ((n:Int) - 1 - (i:Int)),H,I1,⟨t,?_⟩,⟨rfl,rfl⟩,st',fun b hb=>(hf b hb).1⟩⟩
  congr 1
  lia
 done:=by
  intro X hP hw hK hc i pins s σ H E I hf st hg;subst hP hw hK;obtain ⟨f0,f1,f2,f3,f4,f5⟩:=hf it (by simp);exact wpAny_pyNext_range_end (I.ok.hd hc) st (by have:n<=i:=hg;lia) fun h' eb=>⟨rfl,I.turned (t':=s.toks) (fun b o hb e=>eb b o hb e) f0 f1 f3 f4 f5⟩
 self:=fun _ _ _ _ _ st h=>wpAny_pyIter_rangeiter st h
section
variable {X:Cx} {tg:Expr}
theorem U9 {pins:List (Addr×Obj)} {σ:St} {H:Hp} {s:Shared} {R:It->Hp->Prop} {E:Value->Shared->Prop} {n:Nat} {t u v:Tok} {tk:Nat} (I:Inv X pins σ H s) (hn:n<=1000)
    (q:R (iF n) H):wpAny (model X.prog X.w) X.A (pyIter (.ref s.heap.objs.size)) (oG X pins σ tg R) E {s with heap:=s.heap.push {cls:=.type "range",data:=.fields #[.int ((n:Int) - 1) t,.int (-1) u,.int (-1) v]},toks:=tk}:=by
  refine wpAny_pyIter_range (IsRange.new ..) (BJ hn) ?_;have I1:Inv X pins σ H {s with heap:=s.heap.push {cls:=.type "range",data:=.fields #[.int ((n:Int) - 1) t,.int (-1) u,.int (-1) v]},toks:=tk}:=I.kept fun b o e=>ai _ e
  refine ⟨(s.heap.push {cls:=.type "range",data:=.fields #[.int ((n:Int) - 1) t,.int (-1) u,.int (-1) v]}).objs.size,[(s.heap.push {cls:=.type "range",data:=.fields #[.int ((n:Int) - 1) t,.int (-1) u,.int (-1) v]}).objs.size],_,_,H,rfl,
    I1.kept (t':=tk) fun b o e=>ai _ e,P5 _ n,?_,fun b hb=>?_,q⟩
  . have e1:((n:Int) - 1)+((0:Nat):Int)*(-1)=(n:Int) - 1:=by simp
    have e2:((n:Nat):Int) - ((0:Nat):Int)=Builtin.Range.rangeSize ((n:Int) - 1) (-1) (-1):=by rw [t7];simp
    show IsRangeIter _ _ (((n:Int) - 1)+((0:Nat):Int)*(-1)) (((n:Nat):Int) - ((0:Nat):Int)) (-1);rw [e1,e2];exact aq _ rfl
  . have e:b=(s.heap.push {cls:=.type "range",data:=.fields #[.int ((n:Int) - 1) t,.int (-1) u,.int (-1) v]}).objs.size:=by simpa using hb
    subst e;exact I1.fpOk (aj _) (I1.hok.fresh (aj _))
def XE (ta:TA):TI:=fun σ H R=>ta σ H fun vs H1=>∃n:Nat,vs=[.int ((n:Int) - 1),.int (-1),.int (-1)]/\n<=1000/\R (iF n) H1
theorem UJ {a b c:Expr} {ta:TA} {p pos:Pos} (hg:Gl X "range") (hm:X.mg "range"=none) (ha:PA X [a,b,c] ta) (hs:starEach [a,b,c] X.env=[(false,eval a X.env),(false,eval b X.env),(false,eval c X.env)]:=by rfl) (hs2:starEach [b,c] X.env=[(false,eval b X.env),(false,eval c X.env)]:=by rfl) :
  PI X tg (.Call (.Name "range" p) [a,b,c] [] pos) (XE ta):=by
 intro pins s σ H R I h;refine Call_ (ZD I hg hm boot_range (bq (jW (ha pos pins s σ H _ I h) fun us s1 ⟨vs,H1,I1,r1,q1⟩=>?_) (by rw [hs,hs2]) (by rw [hs2];rfl)));obtain ⟨n,e,hn,q⟩:=q1;subst e;cases r1 with
 |cons r rr =>
  cases rr with
  |cons r' rr =>
   cases rr with
   |cons r'' rr =>
    cases rr;obtain ⟨t,rfl⟩:=r;obtain ⟨t',rfl⟩:=r';obtain ⟨t'',rfl⟩:=r'';exact call_range_3 (by decide) (U9 I1 hn q) (.inl (ia (by decide)))
end
theorem OM {n:Nat} {D:Addr} {g:TG} {tc:TT} {te:TE} {σ₀:St} {H:Hp} {Q:Hp->Prop} (Pv:Nat->St->Hp->Prop) (h0:Pv 0 σ₀ (upd H D (.lst [])))
  (hs:∀i σ H,i<n->Pv i σ H->g (.int ((n:Int) - 1 - (i:Int))) σ H fun σ2 H3=>tc σ2 H3 fun b H4=>if b=true then te σ2 H4 fun v H5=>∃ys,H5 D=some (.lst ys)/\ys.length<sizeLine/\Pv (i+1) σ2 (upd H5 D (.lst (ys++[v]))) else Pv (i+1) σ2 H4)
  (hd:∀σ H,Pv n σ H->Q H):zG D (iF n) g tc te σ₀ H Q:=by
 refine ⟨fun i m σ H=>m=n - i/\i<=n/\Pv i σ H,⟨n,by simp,aL _,h0⟩,?_⟩;rintro i m σ H ⟨rfl,hi,p⟩
 by_cases hlt:i<n
 ·refine .inr ⟨hlt,Pv (i+1),fun σ' H' p'=>⟨n - (i+1),by lia,rfl,hlt,p'⟩,fun x H' y=>?_⟩;obtain ⟨e,y⟩:=y;subst e y;exact hs i σ _ hlt p
 ·have e:i=n:=by lia
  subst e;exact .inl ⟨aj _,hd σ H p⟩
theorem PN {n:Nat} {D:Addr} {tc:TT} {te:TE} {caps:St} {H:Hp} {Q:Hp->Prop} (R:Nat->List V->Hp->Prop) (hD:H D=none) (h0:R 0 [] (upd H D (.lst [])))
  (hs:∀i ys Hi,i<n->ys.length<=i->Same H Hi->Hi D=some (.lst ys)->R i ys Hi->tc (some (.int ((n:Int) - 1 - (i:Int)))::caps) Hi fun b H4=>if b=true then te (some (.int ((n:Int) - 1 - (i:Int)))::caps) H4 fun v H5=>∃zs,H5 D=some (.lst zs)/\zs.length<sizeLine/\yG H D caps R (i+1) (some (.int ((n:Int) - 1 - (i:Int)))::caps) (upd H5 D (.lst (zs++[v])))
   else yG H D caps R (i+1) (some (.int ((n:Int) - 1 - (i:Int)))::caps) H4)
  (hd:∀ys Hf,Same H Hf->Hf D=some (.lst ys)->ys.length<=n->R n ys Hf->Q Hf):zG D (iF n) (QS 0) tc te (none::caps) H Q:=by
 refine OM (yG H D caps R) ⟨[],none,rfl,kY hD (Same.refl H),jF,aj _,h0⟩ ?_ ?_
 ·rintro i σ Hi hi ⟨ys,c,rfl,s,hY,hl,r⟩;exact hs i ys Hi hi hl s hY r
 ·rintro σ Hf ⟨ys,c,rfl,s,hY,hl,r⟩;exact hd ys Hf s hY hl r
section
variable {X:Cx}
end
inductive Kd where
 |plain|basin|pump
structure MeK (P:Program) (w:World) (K:PySem.W.Frag) (mg:Str->Option Value) (base:Heap) (k:Nat) (cs:Kd->Addr) (m:Str) (ps:List Str) (ss:Kd->Sp):Prop where
 ex:∀kd,MeD P w K mg base k (cs kd) m ps (ss kd)
def VP (cs:Kd->Addr) (m:Str) (ss:Kd->Sp) (ta:TE) (t:TA):TE:=fun σ H Q=>ta σ H fun x H1=>∃(kd:Kd) (a dx:Addr) (fs:List (Str×V)),x=.ref a/\H1 a=some (.ins (cs kd) dx fs)/\fs.lookup m=none/\
 t σ H1 fun vs H2=>ss kd (x::vs) H2 Q E0
section
variable {X:Cx} {k k':Nat} {x m:Str} {cs:Kd->Addr} {ps:List Str} {ss:Kd->Sp} {p pos apos:Pos} {o e:Expr} {es:List Expr} {ta:TE} {t:TA}
theorem FT {pl:Sem Bool} (M:MeK X.prog X.w X.K X.mg X.base k cs m ps ss) (hr:Room k' X.A) (ho:PE X o ta) (ha:PA X (e::es) t) (hk:k<=k':=by decide)
  (hst:starEach (e::es) X.env=(false,eval e X.env)::starEach es X.env:=by rfl) (hpl:(backTo pos (starEach es X.env)).any (·.1)=false:=by rfl)
  (ht:eval (.Call (.Attribute o m apos) (e::es) [] pos) X.env=(do
   let ov <- eval o X.env
   standAt apos.atName
   let (f,first) <- holding [ov] (getMethod ov m pl)
   callWith pos f first (backTo pos (starEach (e::es) X.env)) (backToKw pos (keywordEach [] X.env))):=by rfl) :
  PE X (.Call (.Attribute o m apos) (e::es) [] pos) (VP cs m ss ta t):=by
 intro pins s σ H Q I h;refine er (pl:=pl) (jW (ho pins s σ H _ I h) fun u s1 ⟨x,H1,I1,rx,kd,a,dx,fs,ex,ea,l,q⟩=>?_) ht;obtain ⟨c,f,fd,hm,G,b⟩:=(M.ex kd).ex;subst ex;obtain rfl:u=Value.ref a:=rx;refine lM I1 ea c hm l ?_;refine dk (first:=[.ref a]) (h₀:=X.base) I.ok.mod.kin hm.kp (jW (ha pos pins s1 σ H1 _ I1 q) fun us s2 ⟨vs,H2,I2,r,q2⟩=>⟨I2.kIn,?_⟩) hst hpl;exact gG (us:=.ref a::us) (vs:=.ref a::vs) (dvs:=[]) G (hr.mono hk) b .nil eP I2 (.cons rfl r) (by rw [bb];exact q2)
end
def iD (z:Str):It:=⟨fun i _=>i<z.cps.size,fun i H v H'=>H'=H/\∃c,z.cps[i]?=some c/\v=.str ⟨#[c]⟩,fun i _=>i=z.cps.size⟩
theorem BU {P:Program} {w:World} {K:PySem.W.Frag} {tg:Expr} (it:Addr) (z:Str) (t:Tok) (T:String)
  (W:∀A:Around,A.handled=none->Walks P w A it [it] [it] z.cps.size (SignAt z) (fun i h=>h.IsStrIter it T z t i))
  (hn:["enumerate","zip","dict_itemiterator","dict_reverseitemiterator","odict_iterator","itertools.zip_longest","itertools.pairwise"].contains T=false)
  (hself:∀(A:Around) (i:Nat) (s:Shared) (Q:Value->Shared->Prop) (E:Value->Shared->Prop),s.heap.IsStrIter it T z t i->Q (.ref it) s->wpAny (model P w) A (pyIter (.ref it)) Q E s) :
  Turn P w K tg (iD z) [it] it (fun i h=>h.IsStrIter it T z t i) where
 mem:=by simp
 obj:=fun i h st b hb=>by
  have e:b=it:=by simpa using hb
  subst e;obtain ⟨o,ho,_,hd⟩:=st;exact ⟨o,ho,fun v q=>by rw [hd] at q;cases q⟩
 keep:=fun i h h' st k=>by
  obtain ⟨o,ho,r⟩:=st;exact ⟨o,k it (by simp) o ho,r⟩
 item:=by
  intro X hP hw hK hc i pins s σ H E I hf st hg;subst hP hw hK;obtain ⟨f0,f1,f2,f3,f4,f5⟩:=hf it (by simp);refine (W X.A (I.ok.hd hc)).item i s _ _ hg st fun v h' tk hv st' kk=>?_
  obtain ⟨c,u,hcx,rfl⟩:=hv;have I1:Inv X pins σ H {s with heap:=h',toks:=tk}:=I.turned (fun b o hb e=>kk b o (by simpa using hb) e) f0 f1 f3 f4 f5;have st2:=st';obtain ⟨o,ho,hcl,hd⟩:=st2;exact ⟨_,rfl,gN (s:={s with heap:=h',toks:=tk}) (n:=T) ho hcl hd hn ⟨.str ⟨#[c]⟩,H,I1,⟨u,rfl⟩,⟨rfl,c,hcx,rfl⟩,st',fun b hb=>(hf b hb).1⟩⟩
 done:=by
  intro X hP hw hK hc i pins s σ H E I hf st hg;subst hP hw hK;obtain ⟨f0,f1,f2,f3,f4,f5⟩:=hf it (by simp);have e:i=z.cps.size:=hg;subst e;exact (W X.A (I.ok.hd hc)).done s _ _ st fun h' tk eb=>⟨rfl,I.turned (fun b o hb e=>eb b o (by simpa using hb) e) f0 f1 f3 f4 f5⟩
 self:=fun A i s Q E st h=>hself A i s Q E st h
section
variable {X:Cx} {tg:Expr}
def X8 (tl:TE):TI:=fun σ H R=>tl σ H fun x H1=>∃z:Str,x=.str z/\R (iD z) H1
theorem V1 {l:Expr} {tl:TE} (hl:PE X l tl):PI X tg l (X8 tl):=by
 intro pins s σ H R I h;refine jW (hl pins s σ H _ I h) fun v s1 ⟨x,H1,I1,r1,q1⟩=>?_
 obtain ⟨z,e,q⟩:=q1;subst e;obtain ⟨t,rfl⟩:=r1;have fin:∀(o:Obj) (T:String) (tn:Nat->Heap->Prop),Turn X.prog X.w X.K tg (iD z) [s1.heap.objs.size] s1.heap.objs.size tn->tn 0 (s1.heap.push o)->oG X pins σ tg R (.ref s1.heap.objs.size) {s1 with heap:=s1.heap.push o}:=by
  intro o T tn tu h0;refine ⟨s1.heap.objs.size,[s1.heap.objs.size],tn,_,H1,rfl,I1.kept (t':=s1.toks) fun b o e=>ai _ e,tu,h0,fun b hb=>?_,q⟩;have e:b=s1.heap.objs.size:=by simpa using hb
  subst e;exact I1.fpOk (aj _) (I1.hok.fresh (aj _))
 cases ha:z.cps.all (· < 128)
 ·exact wpAny_pyIter_wide ha (fin _ "str_iterator" _ (BU _ z t "str_iterator" (fun A hA=>Walks.strWide hA _ z t) (by decide) (fun A i s Q E st h=>wpAny_pyIter_striter_wide st h)) ⟨_,aq _ rfl,rfl,rfl⟩)
 ·exact wpAny_pyIter_ascii ha (fin _ "str_ascii_iterator" _ (BU _ z t "str_ascii_iterator" (fun A hA=>Walks.strAscii hA _ z t) (by decide) (fun A i s Q E st h=>wpAny_pyIter_striter_ascii st h)) ⟨_,aq _ rfl,rfl,rfl⟩)
end
theorem PY {z:Str} {D:Addr} {g:TG} {tc:TT} {te:TE} {σ₀:St} {H:Hp} {Q:Hp->Prop} (Pv:Nat->St->Hp->Prop) (h0:Pv 0 σ₀ (upd H D (.lst [])))
  (hs:∀i c σ H,z.cps[i]?=some c->Pv i σ H->g (.str ⟨#[c]⟩) σ H fun σ2 H3=>tc σ2 H3 fun b H4=>if b=true then te σ2 H4 fun v H5=>∃ys,H5 D=some (.lst ys)/\ys.length<sizeLine/\Pv (i+1) σ2 (upd H5 D (.lst (ys++[v]))) else Pv (i+1) σ2 H4)
  (hd:∀σ H,Pv z.cps.size σ H->Q H):zG D (iD z) g tc te σ₀ H Q:=by
 refine ⟨fun i m σ H=>m=z.cps.size - i/\i<=z.cps.size/\Pv i σ H,⟨_,rfl,aL _,h0⟩,?_⟩;rintro i m σ H ⟨rfl,hi,p⟩
 by_cases hlt:i<z.cps.size
 ·refine .inr ⟨hlt,Pv (i+1),fun σ' H' p'=>⟨z.cps.size - (i+1),by lia,rfl,hlt,p'⟩,fun x H' y=>?_⟩;obtain ⟨e,c,hc,y⟩:=y;subst e y;exact hs i c σ _ hc p
 ·have e:i=z.cps.size:=by lia
  subst e;exact .inl ⟨rfl,hd σ H p⟩
theorem R8 {z:Str} {D:Addr} {tc:TT} {te:TE} {caps:St} {H:Hp} {Q:Hp->Prop} (R:Nat->List V->Hp->Prop) (hD:H D=none) (h0:R 0 [] (upd H D (.lst [])))
  (hs:∀i c ys Hi,z.cps[i]?=some c->ys.length<=i->Same H Hi->Hi D=some (.lst ys)->R i ys Hi->tc (some (.str ⟨#[c]⟩)::caps) Hi fun b H4=>if b=true then te (some (.str ⟨#[c]⟩)::caps) H4 fun v H5=>∃zs,H5 D=some (.lst zs)/\zs.length<sizeLine/\yG H D caps R (i+1) (some (.str ⟨#[c]⟩)::caps) (upd H5 D (.lst (zs++[v])))
   else yG H D caps R (i+1) (some (.str ⟨#[c]⟩)::caps) H4)
  (hd:∀ys Hf,Same H Hf->Hf D=some (.lst ys)->ys.length<=z.cps.size->R z.cps.size ys Hf->Q Hf):zG D (iD z) (QS 0) tc te (none::caps) H Q:=by
 refine PY (yG H D caps R) ⟨[],none,rfl,kY hD (Same.refl H),jF,aj _,h0⟩ ?_ ?_
 ·rintro i c σ Hi hi ⟨ys,c',rfl,s,hY,hl,r⟩;exact hs i c ys Hi hi hl s hY r
 ·rintro σ Hf ⟨ys,c,rfl,s,hY,hl,r⟩;exact hd ys Hf s hY hl r
section
variable {X:Cx}
end
section
variable {X:Cx} {K:PySem.W.Frag} {w:World} {o i:Expr} {pos:Pos} {td ty:TE}
end
theorem DX {K:PySem.W.Frag} {H:Hp} {a:Addr} {o:Obj} {its:List Value} {n:Nat} {xs:List V} (l:K.lookup a=some o) (c:o.cls=.type "tuple") (d:o.data=.seq its.toArray n) (z:its.length<=sizeLine) (v:Vals xs its):SqT K H a xs :=
 .inr ⟨o,its.toArray,n,l,c,d,by rw [au];exact z,v⟩
section
variable {X:Cx} {pins:List (Addr×Obj)} {σ:St} {H:Hp} {s:Shared} {A:Around}
end
section
variable {X:Cx}
def VU:V->List V->Hp->VK->Prop:=fun x vs H Q=>∃(l:Addr) (xs:List V) (y:V) (j:Nat),x=.ref l/\vs=[y]/\H l=some (.lst xs)/\v9 y=true/\xs.all v9=true/\j<xs.length/\j<=1000/\yJ (xs.getD j .non) y=true/\(∀i,i<j->yJ (xs.getD i .non) y=false)/\Q (.int (j:Int)) H
theorem S0:iC X "list.index" VU:=by
 intro pins s σ H x vs v us Q I rx rv h;obtain ⟨l,xs,y,j,rfl,rfl,hH,fy,fx,hj,hj2,he,hno,q⟩:=h;cases rx;obtain ⟨u,rfl,ru⟩:=rv.one;obtain ⟨z,its,n,r,hl,e⟩:=I.lstM hH;have get:∀(m:Nat) (hm:m<its.toArray.size),yC y its.toArray[m]=yJ (xs.getD m .non) y:=fun m hm=>mO (tQ r hm) (RW fx (by rw [hl];simpa using hm))
 have hjs:j<its.toArray.size:=by rw [au,<- hl];exact hj
 refine fw F.slot_list_index ⟨_,e,rfl⟩ F.entry_list_index (F.args_list_index_2 _ _) (SeqAt.list_indexAt l its.toArray n none #[] u (yC y) j hjs (by lia) (by rw [get j hjs];exact he) (fun m hm hlt=>by rw [get m hm];exact hno m hlt)) ⟨e,fun w hw=>bT ru fy r fx w (by simpa using hw),⟨.int (j:Int),H,I.tok _,⟨_,rfl⟩,q⟩⟩
end
theorem dI {X:Cx} (K:PySem.W.Frag) (h:X.K=K:=by rfl):yA X (.type "tuple") (fun xs H Q=>∃p ys,xs=[.ref p]/\((SqL K H p ys/\∀l,H l=none->Q (.ref l) (upd H l (.tup ys)))\/(SqT K H p ys/\Q (.ref p) H))):=by subst h;exact NY
section
variable {X:Cx}
end
section
variable {X:Cx} {tg:Expr}
end
theorem BT {K:PySem.W.Frag} {a D:Addr} {xs:List V} {g:TG} {tc:TT} {te:TE} {σ₀:St} {H:Hp} {Q:Hp->Prop} (Pv:Nat->St->Hp->Prop) (h0:Pv 0 σ₀ (upd H D (.lst []))) (hl:∀i σ H,i<=xs.length->Pv i σ H->SqT K H a xs)
    (hs:∀i x σ H,xs[i]?=some x->Pv i σ H->g x σ H fun σ2 H3=>tc σ2 H3 fun b H4=>if b=true then te σ2 H4 fun v H5=>∃ys,H5 D=some (.lst ys)/\ys.length<sizeLine/\Pv (i+1) σ2 (upd H5 D (.lst (ys++[v]))) else Pv (i+1) σ2 H4)
    (hd:∀σ H,Pv xs.length σ H->Q H):zG D (cZ K a) g tc te σ₀ H Q:=by
  refine ⟨fun i m σ H=>m=xs.length - i/\i<=xs.length/\Pv i σ H,⟨xs.length,by simp,aL _,h0⟩,?_⟩;rintro i m σ H ⟨rfl,hi,p⟩;have q:=hl i σ H hi p
  by_cases hlt:i<xs.length
  . refine .inr ⟨⟨xs,xs[i],q,by simp [hlt]⟩,Pv (i+1),fun σ' H' p'=>⟨xs.length - (i+1),by lia,rfl,hlt,p'⟩,fun x H' y=>?_⟩
    obtain ⟨e,y⟩:=y;subst e;exact hs i x σ _ (y xs q) p
  . have e:i=xs.length:=by lia
    subst e;exact .inl ⟨⟨xs,q,aj _⟩,hd σ H p⟩
theorem R7 {K:PySem.W.Frag} {a D:Addr} {xs:List V} {tc:TT} {te:TE} {caps:St} {H:Hp} {Q:Hp->Prop} (R:Nat->List V->Hp->Prop) (hD:H D=none) (hS:H a=some (.tup xs)) (h0:R 0 [] (upd H D (.lst [])))
  (hs:∀i x ys Hi,xs[i]?=some x->i<xs.length->ys.length<=i->Same H Hi->Hi D=some (.lst ys)->R i ys Hi->tc (some x::caps) Hi fun b H4=>if b=true then te (some x::caps) H4 fun v H5=>∃zs,H5 D=some (.lst zs)/\zs.length<sizeLine/\yG H D caps R (i+1) (some x::caps) (upd H5 D (.lst (zs++[v])))
   else yG H D caps R (i+1) (some x::caps) H4)
  (hd:∀ys Hf,Same H Hf->Hf D=some (.lst ys)->ys.length<=xs.length->R xs.length ys Hf->Q Hf):zG D (cZ K a) (QS 0) tc te (none::caps) H Q:=by
 refine BT (xs:=xs) (yG H D caps R) ⟨[],none,rfl,kY hD (Same.refl H),jF,aj _,h0⟩ (fun i σ Hi _ ⟨_,_,_,s,_⟩=>SqT.of (s _ _ hS)) ?_ ?_
 ·rintro i x σ Hi hx ⟨ys,c,rfl,s,hY,hl,r⟩;exact hs i x ys Hi hx (af.mp hx).1 hl s hY r
 ·rintro σ Hf ⟨ys,c,rfl,s,hY,hl,r⟩;exact hd ys Hf s hY hl r
section
variable {X:Cx} {pins:List (Addr×Obj)} {σ:List (Option V)} {H:Hp} {s:Shared} {h':Heap}
theorem Inv.turnedN {t':Nat} {fp:List Addr} (I:Inv X pins σ H s) (k:∀b o,b∉fp->s.heap.get? b=some o->h'.get? b=some o) (hf:∀b∈fp,JG X pins H b):Inv X pins σ H {s with heap:=h',toks:=t'}:=by
 have nit:∀b u,H b=some u->b∉fp:=fun b u e z=>by rw [(hf b z).1] at e;cases e
 have hL:X.env.locals∉fp:=fun z=>(hf _ z).2.1 rfl
 refine I.step (g':=s.gens) (d':=s.drawn) (ch:=fp) (fun b hb=>?_) (fun b o _ _ hc e _=>k b o hc e) (fun b o _ _ hc e _=>⟨o.slots,k b o hc e⟩) (fun _ _ _ _ n=>n)
  (fun b o hc e=>⟨o,k b o hc e⟩) (fun _ _ e=>e) (fun _ _ _ e=>e) (fun b ps e=>⟨#[],by rw [e];simp⟩) (fun m hm=>?_) (fun b u e=>?_) I.bare
 ·obtain ⟨f0,f1,f2,f3,f4,f5⟩:=hf b hb;exact ⟨f3,f1,f4,f5⟩
 ·obtain ⟨o,es,ep,ho,r⟩:=hm;exact ⟨o,es,ep,k _ o hL ho,r⟩
 ·refine (I.hok b u e).stay (fun c v hc q=>k c v ?_ q) (fun _ q=>q) fun _ _ q=>q
  rcases hc with z|z
  ·rw [z];exact nit b u e
  ·exact nit c _ z
theorem Inv.laidN {t':Nat} {fp:List Addr} {a:Addr} {o:HO} (I:Inv X pins σ H s) (k:∀b u,b∉fp->s.heap.get? b=some u->h'.get? b=some u) (hf:∀b∈fp,JG X pins H b) (hp:s.heap.objs.size<=a) (new:ObjOk X.prog X.w (upd H a o) h' a o) :
  Inv X pins σ (upd H a o) {s with heap:=h',toks:=t'}:=by
 have hn:=I.hok.fresh hp;have nit:∀b u,H b=some u->b∉fp:=fun b u e z=>by rw [(hf b z).1] at e;cases e
 have hL:X.env.locals∉fp:=fun z=>(hf _ z).2.1 rfl
 refine I.step (g':=s.gens) (d':=s.drawn) (ch:=fp) (fun b hb=>?_) (fun b o _ _ hc e _=>k b o hc e) (fun b o _ _ hc e _=>⟨o.slots,k b o hc e⟩) (fun b u _ e n=>?_)
  (fun b o hc e=>⟨o,k b o hc e⟩) (fun b xs e=>?_) (fun b u v e=>?_) (fun b ps e=>⟨#[],?_⟩) (fun m hm=>?_) (fun b u e=>?_) I.bare
 ·obtain ⟨f0,f1,f2,f3,f4,f5⟩:=hf b hb;exact ⟨f3,f1,f4,f5⟩
 ·rw [jP (aM (aA (ar e) hp))];exact n
 ·rw [jP (kZ e hn)];exact e
 ·rw [jP (kZ e hn)];exact e
 ·rw [jP (kZ e hn),e];simp
 ·obtain ⟨o,es,ep,ho,r⟩:=hm;exact ⟨o,es,ep,k _ o hL ho,r⟩
 ·by_cases hb:b=a
  ·subst hb;rw [jF] at e;cases e;exact new
  ·rw [jP hb] at e;refine (I.hok b u e).stay (fun c v hc q=>k c v ?_ q) (fun c q=>by rw [jP (kZ q hn)];exact q) fun c xs q=>by rw [jP (kZ q hn)];exact q
   rcases hc with z|z
   ·rw [z];exact nit b u e
   ·exact nit c _ z
end
def iE (K:PySem.W.Frag) (a:Addr):It :=
 ⟨fun i H=>∃xs x,SqL K H a xs/\xs[i]?=some x,
  fun i H v H'=>∃T x,v=.ref T/\H T=none/\H'=upd H T (.tup [.int (i:Int),x])/\∀xs,SqL K H a xs->xs[i]?=some x,
  fun i H=>∃xs,SqL K H a xs/\xs.length<=i⟩
theorem P4 {P:Program} {w:World} {K:PySem.W.Frag} {elts:List Expr} {x1:Nat} {pos:Pos} {a e it:Addr} (hei:e≠it) :
  Turn P w K (.Tuple elts x1 pos) (iE K a) [e,it] e (fun i h=>(∃old,IsEnum h e it i old)/\h.IsListIter it a i) where
 mem:=by simp
 obj:=fun i h st b hb=>by
  obtain ⟨⟨old,he⟩,⟨o1,e1,c1,d1⟩⟩:=st;simp only [ao,ay,bo] at hb
  rcases hb with rfl|rfl
  ·exact ⟨_,he,fun v y=>by have y':Data.fields _=Data.cell v:=y;cases y'⟩
  ·exact ⟨o1,e1,fun v y=>by rw [d1] at y;cases y⟩
 keep:=fun i h h' st k=>by
  obtain ⟨⟨old,he⟩,h1⟩:=st;exact ⟨⟨old,k _ (by simp) _ he⟩,h1.at fun o e=>k _ (by simp) o e⟩
 item:=by
  intro X hP hw hK hc i pins s σ H E I hf st hg;subst hP hw hK;obtain ⟨⟨old,he⟩,h1⟩:=st;obtain ⟨xs,x,hq1,hx⟩:=hg;obtain ⟨its1,rv1,p1,_⟩:=I.list hq1;obtain ⟨u,hu,ru⟩:=rv1.get hx;refine wpAny_pyNext_enum_item he h1 p1.isList (x:=u) (by simpa using hu) hei fun h' he' h1' hT' hsz hk=>?_
  refine ⟨_,rfl,?_⟩;refine wpAny_letOwnedTupleGo_enum he' fun h2 he2 hs2=>?_
  have lt:∀{b:Addr} {o:Obj},s.heap.get? b=some o->b<s.heap.objs.size:=fun e=>ar e
  have nT:s.heap.objs.size≠e:=dg (lt he);have k2:∀b o,b∉[e,it]->s.heap.get? b=some o->h2.get? b=some o:=fun b o hb q=>by
   simp only [ao,ay,bo,not_or] at hb;exact (hs2.2 b hb.1).trans (hk b o hb.1 hb.2 q)
  have hT2:=(hs2.2 _ nT).trans hT';refine ⟨.ref s.heap.objs.size,upd H s.heap.objs.size (.tup [.int (i:Int),x]),I.laidN (t':=s.toks+1) (fp:=[e,it]) k2 hf (aj _) ⟨(by show 2<=sizeLine;decide),[.int i s.toks,u],.cons ⟨_,rfl⟩ (.cons ru .nil),⟨_,hT2,rfl,_,rfl⟩⟩,rfl,?_,?_,?_⟩
  ·exact ⟨_,x,rfl,I.hok.fresh (aj _),rfl,fun zs hzs=>by rw [I.list_inj hzs hq1];exact hx⟩
  ·exact ⟨⟨_,he2⟩,h1'.at fun o q=>(hs2.2 _ hei.symm).trans q⟩
  ·intro b hb;have:=(hf b hb).1;rw [jP]
   ·exact this
   ·intro q;simp only [ao,ay,bo] at hb;obtain ⟨o1,e1,_⟩:=h1
    rcases hb with rfl|rfl
    ·exact nT q.symm
    ·exact aM (lt e1) q
 done:=by
  intro X hP hw hK hc i pins s σ H E I hf st hg;subst hP hw hK;obtain ⟨⟨old,he⟩,h1⟩:=st;obtain ⟨xs,hq1,hx⟩:=hg;obtain ⟨its1,rv1,p1,_⟩:=I.list hq1;have l1:=rv1.length;refine wpAny_pyNext_enum_end (I.ok.hd hc) he h1 p1.isList (by simp;lia) fun h' hk=>⟨rfl,I.turnedN (t':=s.toks) (fp:=[e,it]) (fun b o hb q=>?_) hf⟩
  simp only [ao,ay,bo,not_or] at hb;exact hk b o hb.2 q
 self:=fun _ _ _ _ _ st h=>by obtain ⟨⟨old,he⟩,_⟩:=st;exact ib he h
section
variable {X:Cx} {elts:List Expr} {x1:Nat} {tpos:Pos}
def XD (K:PySem.W.Frag) (ta:TA):TI:=fun σ H R=>ta σ H fun vs H1=>∃a,vs=[.ref a]/\(∃xs,SqL K H1 a xs)/\R (iE K a) H1
theorem UI {a:Expr} {ta:TA} {p pos:Pos} (hg:Gl X "enumerate") (hm:X.mg "enumerate"=none) (ha:PA X [a] ta) (hs:starEach [a] X.env=[(false,eval a X.env)]:=by rfl) :
  PI X (.Tuple elts x1 tpos) (.Call (.Name "enumerate" p) [a] [] pos) (XD X.K ta):=by
 intro pins s σ H R I h;refine Call_ (ZD I hg hm boot_enumerate (bq (jW (ha pos pins s σ H _ I h) fun us s1 ⟨vs,H1,I1,r1,q1⟩=>?_) hs rfl));obtain ⟨a1,e,⟨xs,hq1⟩,q⟩:=q1;subst e;cases r1 with
 |cons r rr =>
  cases rr;cases r;obtain ⟨its1,rv1,p1,_⟩:=I1.list hq1;refine call_enumerate_list p1.isList fun h' he hit hsz hk=>?_
  refine ib he ?_;refine ⟨_,_,_,_,H1,rfl,I1.kept (t':=s1.toks) hk,P4 (Nat.succ_ne_self _),⟨⟨_,he⟩,hit⟩,fun b hb=>?_,q⟩;simp only [ao,ay,bo] at hb;have hb':s1.heap.objs.size<=b:=by rcases hb with rfl|rfl<;>simp only [Addr] at *<;>lia
  exact I1.fpOk hb' (I1.hok.fresh hb')
theorem TC {K:PySem.W.Frag} {a:Addr} {xs:List V} {g:TG} {tb:TS} {D:Ends} {σ:St} {H:Hp} (P:Nat->St->Hp->Prop) (h0:P 0 σ H) (hl:∀i σ H,i<=xs.length->P i σ H->SqL K H a xs)
  (step:∀i x σ H T,xs[i]?=some x->P i σ H->H T=none->g (.ref T) σ (upd H T (.tup [.int (i:Int),x])) fun σ2 H2=>tb {D with nx:=P (i+1),ct:=P (i+1),bk:=D.nx} σ2 H2) (done:∀σ H,P xs.length σ H->D.nx σ H) :
  ∃W:Nat->Nat->St->Hp->Prop,(∃m,W 0 m σ H)/\∀i m σ H,W i m σ H->((iE K a).stop i H/\D.nx σ H)\/((iE K a).go i H/\∃N:St->Hp->Prop,(∀σ' H',N σ' H'->∃m',m'<m/\W (i+1) m' σ' H')/\∀x H',(iE K a).yld i H x H'->g x σ H' fun σ2 H2=>tb {D with nx:=N,ct:=N,bk:=D.nx} σ2 H2):=by
 refine ⟨fun i m σ H=>i<=xs.length/\m=xs.length - i/\P i σ H,⟨_,aL _,rfl,h0⟩,fun i m σ H w=>?_⟩;obtain ⟨hi,hm,p⟩:=w;have q1:=hl i σ H hi p
 by_cases e:i=xs.length
 ·refine .inl ⟨⟨xs,q1,by lia⟩,done σ H (e▸p)⟩
 ·have l1:i<xs.length:=by lia
  refine .inr ⟨⟨xs,_,q1,aa l1⟩,P (i+1),fun σ' H' n=>⟨_,by lia,by lia,rfl,n⟩,fun v H' hy=>?_⟩;obtain ⟨T,x,rfl,hT,rfl,h1⟩:=hy;exact step i x σ H T (h1 xs q1) p hT
end
section
variable {X:Cx}
end
section
variable {prog:Program} {w:World} {A:Around} {s:Shared} {E:Value->Shared->Prop}
theorem BD {j p:Addr} {i:Nat} {vs:Array Value} {v:Value} {Q:Value->Shared->Prop} (hj:s.heap.IsTupleIter j p i) (hp:s.heap.IsTuple p vs) (hv:vs[i]?=some v) (q:∀h',h'.IsTupleIter j p (i+1)->Heap.SameBut j s.heap h'->Q v {s with heap:=h'}):wpAny (model prog w) A (Builtin.SmallTypes.nextOf (.ref j)) Q E s:=by
 obtain ⟨oj,ej,cj,dj⟩:=id hj;obtain ⟨op,ep,_,np,dp⟩:=hp;unfold Builtin.SmallTypes.nextOf
 refine ae (cq (name:=Str.ofString "__next__") hj.typeIs ec (ei ec hj.typeIs F.entry_tuple_iterator_next ?_ (F.args_tuple_iterator_next_1 _)));show wpAny _ _ (field (.ref j) 0 >>= _) _ _ s;refine ae (bc ej dj (x:=.ref p) rfl ?_);show wpAny _ _ (if (Value.ref p == Value.none)=true then _ else _) _ _ s;rw [if_neg (show ¬((Value.ref p == Value.none)=true) from aB)];show wpAny _ _ (field (.ref j) 1 >>= _) _ _ s;refine ae (bc ej dj (x:=.int i 0) rfl ?_);show wpAny _ _ (seqItems? (.ref p) >>= _) _ _ s;refine ae (cc ep dp ?_);simp only [ax,hv];refine ae (wpAny_setField ej dj (by simp) (aJ ⟨v,rfl,aJ (q _ ?_ (Heap.SameBut.update ..))⟩));exact ⟨_,gg _ ej (Obj.isFreed_of_fields (hZ dj _)),(Obj.cls_mapFields ..).trans cj,by rw [hZ dj];simp [rawInt]⟩
theorem tY {j p:Addr} {i:Nat} {vs:Array Value} {Q:Value->Shared->Prop} (hh:A.handled=none) (hj:s.heap.IsTupleIter j p i) (hp:s.heap.IsTuple p vs) (hv:vs[i]?=none)
  (q:∀h' e,Heap.ExtBut j s.heap h'->(∃o,h'.get? e=some o/\o.cls=.type "StopIteration")->E (.ref e) {s with heap:=h'}):wpAny (model prog w) A (Builtin.SmallTypes.nextOf (.ref j)) Q E s:=by
 obtain ⟨oj,ej,cj,dj⟩:=id hj;obtain ⟨op,ep,_,np,dp⟩:=hp;unfold Builtin.SmallTypes.nextOf
 refine ae (cq (name:=Str.ofString "__next__") hj.typeIs ec (ei ec hj.typeIs F.entry_tuple_iterator_next ?_ (F.args_tuple_iterator_next_1 _)));show wpAny _ _ (field (.ref j) 0 >>= _) _ _ s;refine ae (bc ej dj (x:=.ref p) rfl ?_);show wpAny _ _ (if (Value.ref p == Value.none)=true then _ else _) _ _ s;rw [if_neg (show ¬((Value.ref p == Value.none)=true) from aB)];show wpAny _ _ (field (.ref j) 1 >>= _) _ _ s;refine ae (bc ej dj (x:=.int i 0) rfl ?_);show wpAny _ _ (seqItems? (.ref p) >>= _) _ _ s;refine ae (cc ep dp ?_);simp only [ax,hv];refine ae (wpAny_rule (ae (wpAny_setField ej dj (by simp) ?_)));refine ae ?_
 simp only [newExc,newTuple];refine ae (ic ?_ (by size_fits))
 refine ae (m:=firstArgMember _ _) (wpAny_of_eq (a:=Value.none) (by first|rfl|(simp only [firstArgMember];rfl)) ?_);refine ic ?_ (by size_fits)
 simp only [raiseNew];refine ae (wpAny_handled ?_);(first|rw [show A.in1.handled=none from hh]|rw [hh])
 refine ae (aJ (wpAny_throw ?_));exact q _ _ (((Heap.SameBut.update ..).extBut.push _).push _) ⟨_,aq _ rfl,rfl⟩
end
structure SqK where
 c:String
 It:Heap->Addr->Addr->Nat->Prop
 Sq:Heap->Addr->Array Value->Prop
 R:PySem.W.Frag->Hp->Addr->List V->Prop
structure SqK.Ok (S:SqK):Prop where
 at_:∀{h h':Heap} {j a:Addr} {k:Nat},S.It h j a k->(∀o,h.get? j=some o->h'.get? j=some o)->S.It h' j a k
 sq:∀{h h':Heap} {a:Addr} {us:Array Value},S.Sq h a us->(∀o,h.get? a=some o->h'.get? a=some o)->S.Sq h' a us
 ob:∀{h:Heap} {j a:Addr} {k:Nat},S.It h j a k->∃o,h.get? j=some o/\∀v,o.data≠.cell v
 lt:∀{h:Heap} {a:Addr} {us:Array Value},S.Sq h a us->∃o,h.get? a=some o
 mk0:∀{h:Heap} {j a:Addr},h.get? j=some {cls:=.type S.c,data:=.fields #[.ref a,.int 0 0]}->S.It h j a 0
 item:∀{prog:Program} {w:World} {A:Around} {s:Shared} {E:Value->Shared->Prop} {j p:Addr} {i:Nat} {vs:Array Value} {v:Value} {Q:Value->Shared->Prop},S.It s.heap j p i->S.Sq s.heap p vs->vs[i]?=some v->(∀h',S.It h' j p (i+1)->Heap.SameBut j s.heap h'->Q v {s with heap:=h'})->wpAny (model prog w) A (Builtin.SmallTypes.nextOf (.ref j)) Q E s
 fin:∀{prog:Program} {w:World} {A:Around} {s:Shared} {E:Value->Shared->Prop} {j p:Addr} {i:Nat} {vs:Array Value} {Q:Value->Shared->Prop},A.handled=none->S.It s.heap j p i->S.Sq s.heap p vs->vs[i]?=none->(∀h' e,Heap.ExtBut j s.heap h'->(∃o,h'.get? e=some o/\o.cls=.type "StopIteration")->E (.ref e) {s with heap:=h'})->wpAny (model prog w) A (Builtin.SmallTypes.nextOf (.ref j)) Q E s
 rel:∀{X:Cx} {pins:List (Addr×Obj)} {σ:St} {H:Hp} {s:Shared} {a:Addr} {xs:List V},Inv X pins σ H s->S.R X.K H a xs->∃its:List Value,Vals xs its/\S.Sq s.heap a its.toArray
 inj:∀{X:Cx} {pins:List (Addr×Obj)} {σ:St} {H:Hp} {s:Shared} {a:Addr} {xs ys:List V},Inv X pins σ H s->S.R X.K H a xs->S.R X.K H a ys->xs=ys
def sqL:SqK:=⟨"list_iterator",Heap.IsListIter,Heap.IsList,SqL⟩
def sqT:SqK:=⟨"tuple_iterator",Heap.IsTupleIter,Heap.IsTuple,SqT⟩
theorem sqL_ok:sqL.Ok:=⟨fun h k=>Heap.IsListIter.at h k,fun ⟨o,e,c⟩ k=>⟨o,k o e,c⟩,fun ⟨o,e,c,d⟩=>⟨o,e,fun v y=>by rw [d] at y;cases y⟩,fun ⟨o,e,_⟩=>⟨o,e⟩,fun e=>⟨_,e,rfl,rfl⟩,fun n l h q=>wpAny_nextOf_list_item n l h q,fun hh n l h q=>wpAny_nextOf_list_end hh n l h q,fun I h=>by obtain ⟨its,r,p,_⟩:=I.list h;exact ⟨its,r,p.isList⟩,fun I h h'=>I.list_inj h h'⟩
theorem sqT_ok:sqT.Ok:=⟨fun h k=>Heap.IsTupleIter.at h k,fun ⟨o,e,c⟩ k=>⟨o,k o e,c⟩,fun ⟨o,e,c,d⟩=>⟨o,e,fun v y=>by rw [d] at y;cases y⟩,fun ⟨o,e,_⟩=>⟨o,e⟩,fun e=>⟨_,e,rfl,rfl⟩,fun n l h q=>BD n l h q,fun hh n l h q=>tY hh n l h q,fun I h=>by obtain ⟨its,r,p,_⟩:=I.tuple h;exact ⟨its,r,p⟩,fun I h h'=>I.tuple_inj h h'⟩
section
variable {S1 S2:SqK}
section
variable (O1:S1.Ok) (O2:S2.Ok) {prog:Program} {w:World} {A:Around} {s:Shared} {E:Value->Shared->Prop}
include O1 O2
theorem PV {z P1 P2 j1 j2 a b:Addr} {k:Nat} {us vs:Array Value} {u v g g':Value} {Q:Value->Shared->Prop} (D:ZipApart z P1 P2 j1 j2 a b)
  (hz:IsZip s.heap z P1 P2 .none) (hP1:IsPair s.heap P1 (.ref j1) (.ref j2)) (hP2:IsPair s.heap P2 g g') (n1:S1.It s.heap j1 a k) (n2:S2.It s.heap j2 b k) (la:S1.Sq s.heap a us) (tb:S2.Sq s.heap b vs) (hu:us[k]?=some u) (hv:vs[k]?=some v)
  (q:∀h',IsZip h' z P1 P2 (rawInt s.heap.objs.size)->IsPair h' P2 u v->S1.It h' j1 a (k+1)->S2.It h' j2 b (k+1)->IsPair h' s.heap.objs.size u v->(∀c o,c≠z->c≠P2->c≠j1->c≠j2->s.heap.get? c=some o->h'.get? c=some o)->Q (.ref s.heap.objs.size) {s with heap:=h'}):wpAny (model prog w) A (Builtin.«zip.__next__» ⟨[.ref z],[]⟩) (fun fin s'=>∃v,fin=.done (.ret v)/\Q v s') E s:=by
 show wpAny _ _ (field (.ref z) 2 >>= _) _ _ _;refine ae (bc hz rfl (x:=.bool false) rfl ?_);show wpAny _ _ (field (.ref z) 3 >>= _) _ _ _
 refine ae (bc hz rfl (x:=.ref P1) rfl ?_);refine ae (cc hP1 rfl ?_)
 show wpAny _ _ (Builtin.SmallTypes.ownedTupleIsFree (.ref z) >>= _) _ _ _;refine ae ?_;unfold Builtin.SmallTypes.ownedTupleIsFree
 refine ae (bc hz rfl (x:=.none) rfl (aJ ?_));simp only [if_true]
 refine ae (wpAny_rule ?_);refine ae (bc hz rfl (x:=.ref P2) rfl ?_)
 refine ae (bv hz (by simp) fun m1 z1 d1=>?_);have z1:IsZip m1 z P1 P2 .ellipsis:=z1;refine ae ?_;simp only [il,ix,hV,List.forIn_nil]
 refine ae (ae (fb ?_));show wpAny _ _ (Builtin.SmallTypes.nextOf (.ref j1) >>= _) _ _ _
 refine ae (O1.item (O1.at_ n1 (d1.extBut _ · D.i1z)) (O1.sq la (d1.extBut _ · D.l1z)) hu fun m2 n12 d2=>aJ ?_);have p2:IsPair m2 P2 g g':=d2.extBut _ _ D.TOi1 (d1.extBut _ _ D.TOz hP2);refine ae (cc p2 rfl ?_);refine ae (ip p2 fun m3 p3 d3=>?_)
 have p3:IsPair m3 P2 u g':=p3;refine ae (iy (aJ ?_));refine ae (ae (fb ?_));show wpAny _ _ (Builtin.SmallTypes.nextOf (.ref j2) >>= _) _ _ _
 refine ae (O2.item (O2.at_ n2 fun o e=>d3.extBut _ o D.TOi2.symm (d2.extBut _ o D.i12.symm (d1.extBut _ o D.i2z e))) (O2.sq tb fun o e=>d3.extBut _ o D.l2TO (d2.extBut _ o D.l2i1 (d1.extBut _ o D.l2z e))) hv fun m4 n24 d4=>aJ ?_);have p4:IsPair m4 P2 u g':=d4.extBut _ _ D.TOi2 p3;refine ae (cc p4 rfl ?_);refine ae (ip p4 fun m5 p5 d5=>?_)
 have p5:IsPair m5 P2 u v:=p5;refine ae (iy (aJ (aJ ?_)));refine ae (cc p5 rfl ?_);refine ae (wpAny_newTuple ?_)
 have sz:m5.objs.size=s.heap.objs.size:=by rw [d5.1,d4.1,d3.1,d2.1,d1.1]
 have z5:IsZip m5 z P1 P2 .ellipsis:=d5.extBut _ _ D.TOz.symm (d4.extBut _ _ D.i2z.symm (d3.extBut _ _ D.TOz.symm (d2.extBut _ _ D.i1z.symm z1)));have kk:∀c o,c≠z->c≠P2->c≠j1->c≠j2->s.heap.get? c=some o->m5.get? c=some o:=fun c o e1 e2 e3 e4 e=>d5.extBut _ _ e2 (d4.extBut _ _ e4 (d3.extBut _ _ e2 (d2.extBut _ _ e3 (d1.extBut _ _ e1 e))))
 have n15:=O1.at_ (h':=m5) n12 fun o e=>d5.extBut _ o D.TOi1.symm (d4.extBut _ o D.i12 (d3.extBut _ o D.TOi1.symm e))
 have n25:=O2.at_ (h':=m5) n24 (d5.extBut _ · D.TOi2.symm);have zl:z<m5.objs.size:=ar z5;show wpAny _ _ (Builtin.SmallTypes.ownedTupleHandOut (.ref z) (.ref m5.objs.size) >>= _) _ _ _;refine ae ?_;unfold Builtin.SmallTypes.ownedTupleHandOut
 have z6:IsZip (m5.push {cls:=.type "tuple",data:=.seq #[u,v]}) z P1 P2 .ellipsis:=ai _ z5;refine ae (bv z6 (by simp) fun m7 z7 d7=>?_);have z7:IsZip m7 z P1 P2 (rawInt m5.objs.size):=z7;refine bv z7 (by simp) fun m8 z8 d8=>?_
 have z8:IsZip m8 z P1 P2 (rawInt m5.objs.size):=z8;have up:∀c o,c≠z->m5.get? c=some o->m8.get? c=some o:=fun c o e1 e=>d8.extBut _ _ e1 (d7.extBut _ _ e1 (ai _ e))
 have t8:IsPair m8 m5.objs.size u v:=d8.extBut _ _ (dg zl) (d7.extBut _ _ (dg zl) (aq _ rfl));rw [sz] at z8 t8;refine aJ ⟨_,rfl,?_⟩;show Q (.ref m5.objs.size) _;rw [sz]
 exact q m8 z8 (up _ _ D.TOz p5) (O1.at_ n15 (up _ · D.i1z)) (O2.at_ n25 (up _ · D.i2z)) t8 fun c o e1 e2 e3 e4 e=>up c o e1 (kk c o e1 e2 e3 e4 e)
theorem SF {z P1 P2 j1 j2 a b:Addr} {k:Nat} {us vs:Array Value} {g g':Value} {Q:Fin->Shared->Prop} (hh:A.handled=none) (D:ZipApart z P1 P2 j1 j2 a b)
  (hz:IsZip s.heap z P1 P2 .none) (hP1:IsPair s.heap P1 (.ref j1) (.ref j2)) (hP2:IsPair s.heap P2 g g') (n1:S1.It s.heap j1 a k) (n2:S2.It s.heap j2 b k) (la:S1.Sq s.heap a us) (tb:S2.Sq s.heap b vs) (he:us[k]?=none\/vs[k]?=none)
  (q:∀h' e,(∀c o,c≠z->c≠P2->c≠j1->c≠j2->s.heap.get? c=some o->h'.get? c=some o)->(∃o,h'.get? e=some o/\o.cls=.type "StopIteration")->E (.ref e) {s with heap:=h'}):wpAny (model prog w) A (Builtin.«zip.__next__» ⟨[.ref z],[]⟩) Q E s:=by
 show wpAny _ _ (field (.ref z) 2 >>= _) _ _ _;refine ae (bc hz rfl (x:=.bool false) rfl ?_);show wpAny _ _ (field (.ref z) 3 >>= _) _ _ _
 refine ae (bc hz rfl (x:=.ref P1) rfl ?_);refine ae (cc hP1 rfl ?_)
 show wpAny _ _ (Builtin.SmallTypes.ownedTupleIsFree (.ref z) >>= _) _ _ _;refine ae ?_;unfold Builtin.SmallTypes.ownedTupleIsFree
 refine ae (bc hz rfl (x:=.none) rfl (aJ ?_));simp only [if_true]
 refine ae (wpAny_rule ?_);refine ae (bc hz rfl (x:=.ref P2) rfl ?_)
 refine ae (bv hz (by simp) fun m1 z1 d1=>?_);have z1:IsZip m1 z P1 P2 .ellipsis:=z1;refine ae ?_;simp only [il,ix,hV,List.forIn_nil]
 refine ae (ae (fb ?_));show wpAny _ _ (Builtin.SmallTypes.nextOf (.ref j1) >>= _) _ _ _
 cases hu:us[k]? with
 |none =>
  refine ae (O1.fin hh (O1.at_ n1 (d1.extBut _ · D.i1z)) (O1.sq la (d1.extBut _ · D.l1z)) hu fun m2 e d2 st=>?_);obtain ⟨oe,ee,ce⟩:=st
  have z2:IsZip m2 z P1 P2 .ellipsis:=d2 _ _ D.i1z.symm z1;have ne:e≠z:=fun x=>by subst x;rw [z2] at ee;cases ee;simp at ce
  refine bv z2 (by simp) fun m3 _ d3=>q m3 e (fun c o e1 _ e3 _ x=>d3.extBut _ _ e1 (d2 _ _ e3 (d1.extBut _ _ e1 x))) ⟨oe,d3.extBut _ _ ne ee,ce⟩
 |some u =>
  have hv:vs[k]?=none:=by rcases he with h|h;rw [hu] at h;cases h;exact h
  refine ae (O1.item (O1.at_ n1 (d1.extBut _ · D.i1z)) (O1.sq la (d1.extBut _ · D.l1z)) hu fun m2 n12 d2=>aJ ?_);have p2:IsPair m2 P2 g g':=d2.extBut _ _ D.TOi1 (d1.extBut _ _ D.TOz hP2);refine ae (cc p2 rfl ?_);refine ae (ip p2 fun m3 p3 d3=>?_)
  refine ae (iy (aJ ?_));refine ae (ae (fb ?_));show wpAny _ _ (Builtin.SmallTypes.nextOf (.ref j2) >>= _) _ _ _
  refine ae (O2.fin hh (O2.at_ n2 fun o e=>d3.extBut _ o D.TOi2.symm (d2.extBut _ o D.i12.symm (d1.extBut _ o D.i2z e))) (O2.sq tb fun o e=>d3.extBut _ o D.l2TO (d2.extBut _ o D.l2i1 (d1.extBut _ o D.l2z e))) hv fun m4 e d4 st=>?_);obtain ⟨oe,ee,ce⟩:=st
  have z4:IsZip m4 z P1 P2 .ellipsis:=d4 _ _ D.i2z.symm (d3.extBut _ _ D.TOz.symm (d2.extBut _ _ D.i1z.symm z1));have ne:e≠z:=fun x=>by subst x;rw [z4] at ee;cases ee;simp at ce
  refine bv z4 (by simp) fun m5 _ d5=>q m5 e (fun c o e1 e2 e3 e4 x=>d5.extBut _ _ e1 (d4 _ _ e4 (d3.extBut _ _ e2 (d2.extBut _ _ e3 (d1.extBut _ _ e1 x))))) ⟨oe,d5.extBut _ _ ne ee,ce⟩
end
def xI (S1 S2:SqK) (K:PySem.W.Frag) (a1 a2:Addr):It :=
 ⟨fun i H=>∃xs ys x y,S1.R K H a1 xs/\S2.R K H a2 ys/\xs[i]?=some x/\ys[i]?=some y,
  fun i H v H'=>∃T x y,v=.ref T/\H T=none/\H'=upd H T (.tup [x,y])/\(∀xs,S1.R K H a1 xs->xs[i]?=some x)/\(∀ys,S2.R K H a2 ys->ys[i]?=some y),
  fun i H=>∃xs ys,S1.R K H a1 xs/\S2.R K H a2 ys/\(xs.length<=i\/ys.length<=i)⟩
theorem PZ (O1:S1.Ok) (O2:S2.Ok) {P:Program} {w:World} {K:PySem.W.Frag} {elts:List Expr} {x1:Nat} {pos:Pos} {a1 a2 z TI TO i1 i2:Addr} (D:ZipApart z TI TO i1 i2 a1 a2) :
  Turn P w K (.Tuple elts x1 pos) (xI S1 S2 K a1 a2) [z,TI,TO,i1,i2] z (fun i h=>IsZip h z TI TO .none/\IsPair h TI (.ref i1) (.ref i2)/\(∃a b,IsPair h TO a b)/\S1.It h i1 a1 i/\S2.It h i2 a2 i) where
 mem:=by simp
 obj:=fun i h st b hb=>by
  obtain ⟨hz,hTI,⟨p,q,hTO⟩,h1,h2⟩:=st;simp only [ao,ay,bo] at hb
  rcases hb with rfl|rfl|rfl|rfl|rfl
  ·exact ⟨_,hz,fun v y=>by have y':Data.fields _=Data.cell v:=y;cases y'⟩
  ·exact ⟨_,hTI,fun v y=>by have y':Data.seq _ _=Data.cell v:=y;cases y'⟩
  ·exact ⟨_,hTO,fun v y=>by have y':Data.seq _ _=Data.cell v:=y;cases y'⟩
  ·exact O1.ob h1
  ·exact O2.ob h2
 keep:=fun i h h' st k=>by
  obtain ⟨hz,hTI,⟨p,q,hTO⟩,h1,h2⟩:=st;exact ⟨k _ (by simp) _ hz,k _ (by simp) _ hTI,⟨p,q,k _ (by simp) _ hTO⟩,O1.at_ h1 (k _ (by simp)),O2.at_ h2 (k _ (by simp))⟩
 item:=by
  intro X hP hw hK hc i pins s σ H E I hf st hg;subst hP hw hK;obtain ⟨hz,hTI,⟨p,q,hTO⟩,h1,h2⟩:=st;obtain ⟨xs,ys,x,y,hq1,hq2,hx,hy⟩:=hg;obtain ⟨its1,rv1,p1⟩:=O1.rel I hq1;obtain ⟨its2,rv2,p2⟩:=O2.rel I hq2;obtain ⟨u,hu,ru⟩:=rv1.get hx;obtain ⟨v,hv,rv⟩:=rv2.get hy;have hTz:s.TypeIs (.ref z) "zip":=⟨_,hz,rfl⟩;unfold pyNext;refine ae (iu (cq (name:=Str.ofString "__next__") hTz dz (ei dz hTz im (PV O1 O2 D hz hTI hTO h1 h2 p1 p2 (u:=u) (v:=v) (by simpa using hu) (by simpa using hv) fun h' hz' hTO' h1' h2' hT' hk=>aJ ?_) (ie _))));refine ⟨_,rfl,?_⟩;refine wpAny_letOwnedTupleGo_zip hz' fun hp2 hz2 hs2=>?_
  have lt:∀{b:Addr} {o:Obj},s.heap.get? b=some o->b<s.heap.objs.size:=fun e=>ar e
  have nT:s.heap.objs.size≠z:=dg (lt hz);have k2:∀b o,b∉[z,TI,TO,i1,i2]->s.heap.get? b=some o->hp2.get? b=some o:=fun b o hb e=>by
   simp only [ao,ay,bo,not_or] at hb;exact (hs2.2 b hb.1).trans (hk b o hb.1 hb.2.2.1 hb.2.2.2.1 hb.2.2.2.2 e)
  have hT2:IsPair hp2 s.heap.objs.size u v:=(hs2.2 _ nT).trans hT';refine ⟨.ref s.heap.objs.size,upd H s.heap.objs.size (.tup [x,y]),I.laidN (t':=s.toks) (fp:=[z,TI,TO,i1,i2]) k2 hf (aj _) ⟨(by show 2<=sizeLine;decide),[u,v],.cons ru (.cons rv .nil),⟨_,hT2,rfl,_,rfl⟩⟩,rfl,?_,?_,?_⟩
  ·exact ⟨_,x,y,rfl,I.hok.fresh (aj _),rfl,fun zs hzs=>by rw [O1.inj I hzs hq1];exact hx,fun zs hzs=>by rw [O2.inj I hzs hq2];exact hy⟩
  ·refine ⟨hz2,(hs2.2 _ D.TIz).trans (hk _ _ D.TIz D.TITO D.TIi1 D.TIi2 hTI),⟨_,_,(hs2.2 _ D.TOz).trans hTO'⟩,O1.at_ h1' fun o e=>(hs2.2 _ D.i1z).trans e,O2.at_ h2' fun o e=>(hs2.2 _ D.i2z).trans e⟩
  ·intro b hb;have:=(hf b hb).1;rw [jP]
   ·exact this
   ·intro e;simp only [ao,ay,bo] at hb;obtain ⟨o1,e1,_⟩:=O1.ob h1;obtain ⟨o2,e2,_⟩:=O2.ob h2
    rcases hb with rfl|rfl|rfl|rfl|rfl
    ·exact nT e.symm
    ·exact aM (lt hTI) e
    ·exact aM (lt hTO) e
    ·exact aM (lt e1) e
    ·exact aM (lt e2) e
 done:=by
  intro X hP hw hK hc i pins s σ H E I hf st hg;subst hP hw hK;obtain ⟨hz,hTI,⟨p,q,hTO⟩,h1,h2⟩:=st;obtain ⟨xs,ys,hq1,hq2,he⟩:=hg;obtain ⟨its1,rv1,p1⟩:=O1.rel I hq1;obtain ⟨its2,rv2,p2⟩:=O2.rel I hq2;have l1:=rv1.length;have l2:=rv2.length;have hTz:s.TypeIs (.ref z) "zip":=⟨_,hz,rfl⟩;unfold pyNext;refine ae (iu (cq (name:=Str.ofString "__next__") hTz dz (ei dz hTz im (SF O1 O2 (I.ok.hd hc) D hz hTI hTO h1 h2 p1 p2 (he.imp (fun e=>by simp;lia) (fun e=>by simp;lia)) fun h' e hk ho=>?_) (ie _))));obtain ⟨o,ho,hco⟩:=ho;refine ae (wpAny_isInstance (T:="StopIteration") (b:=true) ⟨o,ho,hco⟩ isSubtype_stop (aJ ⟨rfl,I.turnedN (t':=s.toks) (fp:=[z,TI,TO,i1,i2]) (fun b o hb e=>?_) hf⟩));simp only [ao,ay,bo,not_or] at hb;exact hk b o hb.1 hb.2.2.1 hb.2.2.2.1 hb.2.2.2.2 e
 self:=fun _ _ _ _ _ st h=>io st.1 h
abbrev gW (c:String) (h:Heap) (a:Addr):Heap:=h.push {cls:=.type c,data:=.fields #[.ref a,.int 0 0]}
abbrev nO (c d:String) (h:Heap) (a b:Addr):Heap:=gW d (gW c h a) b
abbrev nM (c d:String) (h:Heap) (a b:Addr):Heap:=(nO c d h a b).push {cls:=.type "tuple",data:=.seq #[.ref h.objs.size,.ref (gW c h a).objs.size]}
abbrev nK (c d:String) (h:Heap) (a b:Addr):Heap:=(nM c d h a b).push {cls:=.type "tuple",data:=.seq #[.none,.none]}
abbrev fA (c d:String) (h:Heap) (a b:Addr):Heap:=(nK c d h a b).push {cls:=.type "zip",data:=.fields #[.none,.bool false,.bool false,.ref (nO c d h a b).objs.size,.ref (nM c d h a b).objs.size]}
def oH (S1 S2:SqK) (a b:Addr) (us vs:Array Value):Prop:=Meets (Builtin.«zip.__new__» ⟨[.type "zip",.ref a,.ref b],[]⟩) (fun _ R s=>S1.Sq s.heap a us/\S2.Sq s.heap b vs/\R (.ok (.ret (.ref (nK S1.c S2.c s.heap a b).objs.size))) {s with heap:=fA S1.c S2.c s.heap a b})
theorem O4 (a b:Addr) (us vs:Array Value):oH sqL sqT a b us vs:=.of_wp fun prog w A R s h=>by
  obtain ⟨hp,g,d,tk,os⟩:=s;obtain ⟨la,tb,h⟩:=h;have hsub:=sub_zip
  have A1:Heap.IsList (Shared.heap ⟨hp,g,d,tk,os⟩) a us:=la;have A2:Heap.IsTuple (Shared.heap ⟨hp.push {cls:=.type "list_iterator",data:=.fields #[.ref a,.int 0 0]},g,d,tk,os⟩) b vs:=Heap.IsTuple.push tb _
  wp_walk using dw A1,em A2
  exact ⟨_,rfl,h⟩
theorem O0 (a b:Addr) (us vs:Array Value):oH sqT sqL a b us vs:=.of_wp fun prog w A R s h=>by
  obtain ⟨hp,g,d,tk,os⟩:=s;obtain ⟨la,tb,h⟩:=h;have hsub:=sub_zip
  have A1:Heap.IsTuple (Shared.heap ⟨hp,g,d,tk,os⟩) a us:=la;have A2:Heap.IsList (Shared.heap ⟨hp.push {cls:=.type "tuple_iterator",data:=.fields #[.ref a,.int 0 0]},g,d,tk,os⟩) b vs:=Heap.IsList.push tb _
  wp_walk using em A1,dw A2
  exact ⟨_,rfl,h⟩
theorem SA (O1:S1.Ok) (O2:S2.Ok) (M:∀(a b:Addr) (us vs:Array Value),oH S1 S2 a b us vs) {prog:Program} {w:World} {A:Around} {s:Shared} {E:Value->Shared->Prop} {a b:Addr} {us vs:Array Value} {Q:Value->Shared->Prop} (la:S1.Sq s.heap a us) (tb:S2.Sq s.heap b vs)
  (q:∀h',IsZip h' (s.heap.objs.size+4) (s.heap.objs.size+2) (s.heap.objs.size+3) .none->IsPair h' (s.heap.objs.size+2) (.ref s.heap.objs.size) (.ref (s.heap.objs.size+1))->IsPair h' (s.heap.objs.size+3) .none .none->S1.It h' s.heap.objs.size a 0->S2.It h' (s.heap.objs.size+1) b 0->(∀c o,s.heap.get? c=some o->h'.get? c=some o)->Q (.ref (s.heap.objs.size+4)) {s with heap:=h'}) :
  wpAny (model prog w) A (call (.type "zip") [.ref a,.ref b]) Q E s:=by
 refine callType_new F.called_zip (by decide) (F.typeCall_zip_2 _ _) (F.newCall_zip_2 _ _) (fun obj=>F.args_object_init_3 obj _ _) F.entry_zip_new (M a b us vs) ⟨la,tb,?_⟩;have y1:(gW S1.c s.heap a).objs.size=s.heap.objs.size+1:=cb ..;have y2:(nO S1.c S2.c s.heap a b).objs.size=s.heap.objs.size+2:=by rw [cb,y1]
 have y3:(nM S1.c S2.c s.heap a b).objs.size=s.heap.objs.size+3:=by rw [cb,y2]
 have y4:(nK S1.c S2.c s.heap a b).objs.size=s.heap.objs.size+4:=by rw [cb,y3]
 have up:∀{h:Heap} {o:Obj} {c:Addr} {v:Obj},h.get? c=some v->(h.push o).get? c=some v:=fun e=>ai _ e
 have g5:(fA S1.c S2.c s.heap a b).get? (nK S1.c S2.c s.heap a b).objs.size=some _:=aq _ rfl;have g4:(fA S1.c S2.c s.heap a b).get? (nM S1.c S2.c s.heap a b).objs.size=some _:=up (aq _ rfl);have g3:(fA S1.c S2.c s.heap a b).get? (nO S1.c S2.c s.heap a b).objs.size=some _:=up (up (aq _ rfl));have g2:(fA S1.c S2.c s.heap a b).get? (gW S1.c s.heap a).objs.size=some _:=up (up (up (aq _ rfl)));have g1:(fA S1.c S2.c s.heap a b).get? s.heap.objs.size=some _:=up (up (up (up (aq _ rfl))));show _/\_;rw [y2,y3,y4] at g5;rw [y1,y2] at g3;rw [y3] at g4;rw [y1] at g2;rw [y4]
 exact ⟨⟨_,g5,rfl⟩,q _ g5 g3 g4 (O1.mk0 g1) (O2.mk0 g2) fun c o x=>up (up (up (up (up x))))⟩
def wS (S1 S2:SqK) (K:PySem.W.Frag) (ta:TA):TI:=fun σ H R=>ta σ H fun vs H1=>∃a1 a2,vs=[.ref a1,.ref a2]/\(∃xs,S1.R K H1 a1 xs)/\(∃ys,S2.R K H1 a2 ys)/\R (xI S1 S2 K a1 a2) H1
section
variable {X:Cx} {elts:List Expr} {x1:Nat} {tpos:Pos}
theorem EJ (O1:S1.Ok) (O2:S2.Ok) (M:∀(a b:Addr) (us vs:Array Value),oH S1 S2 a b us vs) {a b:Expr} {ta:TA} {p pos:Pos} (hg:Gl X "zip") (hm:X.mg "zip"=none) (ha:PA X [a,b] ta) (hs:starEach [a,b] X.env=[(false,eval a X.env),(false,eval b X.env)]:=by rfl) (hs2:starEach [b] X.env=[(false,eval b X.env)]:=by rfl) :
  PI X (.Tuple elts x1 tpos) (.Call (.Name "zip" p) [a,b] [] pos) (wS S1 S2 X.K ta):=by
 intro pins s σ H R I h;refine Call_ (ZD I hg hm boot_zip (bq (jW (ha pos pins s σ H _ I h) fun us s1 ⟨vs,H1,I1,r1,q1⟩=>?_) (by rw [hs,hs2]) (by rw [hs2];rfl)));obtain ⟨a1,a2,e,⟨xs,hq1⟩,⟨ys,hq2⟩,q⟩:=q1;subst e;cases r1 with
 |cons r rr =>
  cases rr with
  |cons r' rr =>
   cases rr;cases r;cases r';obtain ⟨its1,rv1,p1⟩:=O1.rel I1 hq1;obtain ⟨its2,rv2,p2⟩:=O2.rel I1 hq2;have lt1:a1<s1.heap.objs.size:=by obtain ⟨o,e⟩:=O1.lt p1;exact ar e
   have lt2:a2<s1.heap.objs.size:=by obtain ⟨o,e⟩:=O2.lt p2;exact ar e
   refine SA O1 O2 M p1 p2 fun h' hz hTI hTO h1 h2 hk=>?_
   refine io hz ?_;have D:ZipApart (s1.heap.objs.size+4) (s1.heap.objs.size+2) (s1.heap.objs.size+3) s1.heap.objs.size (s1.heap.objs.size+1) a1 a2:=by
    constructor<;>(intro e;simp only [Addr] at *;lia)
   refine ⟨_,_,_,_,H1,rfl,I1.kept (t':=s1.toks) hk,PZ O1 O2 D,⟨hz,hTI,⟨_,_,hTO⟩,h1,h2⟩,fun b hb=>?_,q⟩;simp only [ao,ay,bo] at hb;have hb':s1.heap.objs.size<=b:=by rcases hb with rfl|rfl|rfl|rfl|rfl<;>simp only [Addr] at *<;>lia
   exact I1.fpOk hb' (I1.hok.fresh hb')
end
end
section
variable {X:Cx} {elts:List Expr} {x1:Nat} {tpos:Pos} {a b:Expr} {ta:TA} {p pos:Pos}
theorem UG (hg:Gl X "zip") (hm:X.mg "zip"=none) (ha:PA X [a,b] ta) (hs:starEach [a,b] X.env=[(false,eval a X.env),(false,eval b X.env)]:=by rfl) (hs2:starEach [b] X.env=[(false,eval b X.env)]:=by rfl):PI X (.Tuple elts x1 tpos) (.Call (.Name "zip" p) [a,b] [] pos) (wS sqL sqT X.K ta):=EJ sqL_ok sqT_ok O4 hg hm ha hs hs2
theorem UF (hg:Gl X "zip") (hm:X.mg "zip"=none) (ha:PA X [a,b] ta) (hs:starEach [a,b] X.env=[(false,eval a X.env),(false,eval b X.env)]:=by rfl) (hs2:starEach [b] X.env=[(false,eval b X.env)]:=by rfl):PI X (.Tuple elts x1 tpos) (.Call (.Name "zip" p) [a,b] [] pos) (wS sqT sqL X.K ta):=EJ sqT_ok sqL_ok O0 hg hm ha hs hs2
end
theorem AX {S1 S2:SqK} {K:PySem.W.Frag} {a1 a2 D:Addr} {xs ys:List V} {g:TG} {tc:TT} {te:TE} {σ₀:St} {H:Hp} {Q:Hp->Prop} (Pv:Nat->St->Hp->Prop) (h0:Pv 0 σ₀ (upd H D (.lst []))) (hl:∀i σ H,i<=xs.length->Pv i σ H->S1.R K H a1 xs/\S2.R K H a2 ys) (hn:xs.length=ys.length)
  (hs:∀i x y σ H T,xs[i]?=some x->ys[i]?=some y->Pv i σ H->H T=none->g (.ref T) σ (upd H T (.tup [x,y])) fun σ2 H3=>tc σ2 H3 fun b H4=>if b=true then te σ2 H4 fun v H5=>∃zs,H5 D=some (.lst zs)/\zs.length<sizeLine/\Pv (i+1) σ2 (upd H5 D (.lst (zs++[v]))) else Pv (i+1) σ2 H4)
  (hd:∀σ H,Pv xs.length σ H->Q H):zG D (xI S1 S2 K a1 a2) g tc te σ₀ H Q:=by
 refine ⟨fun i m σ H=>m=xs.length - i/\i<=xs.length/\Pv i σ H,⟨xs.length,by simp,aL _,h0⟩,?_⟩;rintro i m σ H ⟨rfl,hi,p⟩;obtain ⟨q1,q2⟩:=hl i σ H hi p
 by_cases hlt:i<xs.length
 ·have hlt2:i<ys.length:=by lia
  refine .inr ⟨⟨xs,ys,_,_,q1,q2,aa hlt,aa hlt2⟩,Pv (i+1),fun σ' H' p'=>⟨xs.length - (i+1),by lia,rfl,hlt,p'⟩,fun v H' hy=>?_⟩;obtain ⟨T,x,y,rfl,hT,rfl,e1,e2⟩:=hy;exact hs i x y σ H T (e1 xs q1) (e2 ys q2) p hT
 ·exact .inl ⟨⟨xs,ys,q1,q2,.inl (by lia)⟩,hd σ H (by rw [show xs.length=i by lia];exact p)⟩
set_option maxRecDepth 100000
theorem UV:fillsNumberSlot (.type "tuple") "mul"=pure false:=PySem.fillsNumberSlot_seq (id:="tuple.__mul__") (r:=some (.builtin "tuple.__rmul__")) F.slot_tuple_mul.lookup (by decide +kernel) F.slot_tuple_rmul.lookup (by decide +kernel)
theorem UB:seqRepeat? (.type "tuple")=pure (some (.builtin "tuple.__mul__")):=by
 unfold seqRepeat?;rw [PySem.seqSlot_of (T:="tuple") (name:="__mul__") (id:="tuple.__mul__") F.slot_tuple_mul.lookup (by decide +kernel),PySem.seqSlot_of (T:="tuple") (name:="__rmul__") (id:="tuple.__rmul__") F.slot_tuple_rmul.lookup (by decide +kernel)];rfl
theorem WW (a:Int) (t:Tok) (p:Addr) (vs:Array Value) (n:Nat) (dd:Option Addr) (sl:Array (Option Value)):Meets (Builtin.«int.__rmul__» ⟨[.int a t,.ref p],[]⟩) (fun _ R s=>s.heap.get? p=some {cls:=.type "tuple",dict:=dd,data:=.seq vs n,slots:=sl}/\R (.ok (.ret Value.notImplemented)) s):=.of_wp fun prog w A R s h=>by obtain ⟨hp,g,d,tk,os⟩:=s;obtain ⟨hl,h⟩:=h;wp_walk;exact ⟨_,rfl,h⟩
theorem SZ (t:Tok) (p:Addr) (vs:Array Value) (n:Nat) (dd:Option Addr) (sl:Array (Option Value)):Meets (Builtin.«tuple.__mul__» ⟨[.ref p,.int 1 t],[]⟩) (fun _ R s=>s.heap.get? p=some {cls:=.type "tuple",dict:=dd,data:=.seq vs n,slots:=sl}/\R (.ok (.ret (.ref p))) s):=.of_wp fun prog w A R s h=>by obtain ⟨hp,g,d,tk,os⟩:=s;obtain ⟨hl,h⟩:=h;wp_walk;exact ⟨_,rfl,h⟩
theorem RJ (t:Tok) (p:Addr) (vs:Array Value) (n:Nat) (dd:Option Addr) (sl:Array (Option Value)) (h0:vs.isEmpty=false):Meets (Builtin.«tuple.__mul__» ⟨[.ref p,.int 0 t],[]⟩) (fun _ R s=>s.heap.get? p=some {cls:=.type "tuple",dict:=dd,data:=.seq vs n,slots:=sl}/\R (.ok (.ret (.ref s.heap.objs.size))) {s with heap:=s.heap.push {cls:=.type "tuple",data:=.seq #[]}}):=.of_wp fun prog w A R s h=>by
 obtain ⟨hp,g,dr,tk,os⟩:=s;obtain ⟨hl,h⟩:=h
 wp_walk;exact ⟨_,rfl,h⟩
theorem RK (k:Int) (t:Tok) (p:Addr) (vs:Array Value) (n:Nat) (dd:Option Addr) (sl:Array (Option Value)) (h0:vs.isEmpty=false) (h1:(k == 1)=false) (h2:¬((decide (k < -(2 ^ 63))||decide (k>=2 ^ 63))=true)) (h3:¬((decide (k<=0)||vs.isEmpty)=true)) (h4:¬((vs.size:Int)*k>(2 ^ 63 - 1) / 8)) (h5:¬(Builtin.Tuple.tupleTooMany ((vs.size:Int)*k)=true)) (hz:((List.replicate k.toNat vs).foldl (·++·) (#[]:Array Value)).size<=sizeLine):Meets (Builtin.«tuple.__mul__» ⟨[.ref p,.int k t],[]⟩) (fun _ R s=>s.heap.get? p=some {cls:=.type "tuple",dict:=dd,data:=.seq vs n,slots:=sl}/\R (.ok (.ret (.ref s.heap.objs.size))) {s with heap:=s.heap.push {cls:=.type "tuple",data:=.seq ((List.replicate k.toNat vs).foldl (·++·) #[])}}):=.of_wp fun prog w A R s h=>by
 obtain ⟨hp,g,dr,tk,os⟩:=s;obtain ⟨hl,h⟩:=h
 wp_walk
 rw [if_neg h2]
 wp_walk
 rw [if_neg h3];show wpAny _ _ (if (vs.size:Int)*k>(2 ^ 63 - 1) / 8 then _ else if Builtin.Tuple.tupleTooMany ((vs.size:Int)*k)=true then _ else _) _ _ _;rw [if_neg h4,if_neg h5];refine ae (ic (aJ ⟨_,rfl,h⟩) ?_);exact hz
section
variable {X:Cx}
def WY:R2:=fun x y H Q=>∃(p:Addr) (v:V) (k:Nat),x=.ref p/\y=.int (k:Int)/\H p=some (.tup [v])/\k<=1000/\(k=1->Q (.ref p) H)/\(k≠1->∀l,H l=none->Q (.ref l) (upd H l (.tup (List.replicate k v))))
theorem CD (u:Value):∀(m:Nat) (acc:Array Value),List.foldl (fun x1 x2=>x1++x2) acc (List.replicate m #[u])=acc++(List.replicate m u).toArray
 |0,acc=>by simp
 |m+1,acc=>by rw [bn,List.foldl_cons,CD u m (acc++#[u]),bn,Array.append_assoc];congr 1;apply Array.toList_inj.mp;simp
theorem UO:qM X (binaryOp .Mult) WY:=by
 intro pins s σ H x y v u Q I rx ry h;obtain ⟨p,w,k,rfl,rfl,hH,hk,q1,q2⟩:=h;cases rx;obtain ⟨t,rfl⟩:=ry;obtain ⟨z,its,r,⟨cls,dd,data,sl⟩,e,hc,n,hd⟩:=(show ObjOk X.prog X.w H s.heap p (.tup [w]) from I.hok p _ hH);simp only at hc hd;subst hc hd;cases r with
 |@cons _ u0 _ us ru rt =>
  cases rt;refine wpAny_binaryOp_repeat_ref (T:="tuple") (U:="int") (by decide) ⟨_,e,rfl⟩ (fun s'=>typeIs_int s' (k:Int) t) UV F.fills_int_mul iw UB F.slot_int_index.lookup
   (fw iw (typeIs_int s (k:Int) t) F.entry_int_rmul (F.args_int_rmul_2 _ _) (WW (k:Int) t p #[u0] n dd sl) ⟨e,rfl,⟨_,e,rfl⟩,?_⟩)
  have mk:∀vs:Array Value,vs=(List.replicate k u0).toArray->k≠1->EP X pins σ Q (.ref s.heap.objs.size) {s with heap:=s.heap.push {cls:=.type "tuple",data:=.seq vs}}:=fun vs hvs h1=>by
   have hv:Vals (List.replicate k w) (List.replicate k u0):=by
    have key:∀m,Vals (List.replicate m w) (List.replicate m u0):=fun m=>by
     induction m with
     |zero=>exact .nil
     |succ m ih=>exact .cons ru ih
    exact key k
   refine ⟨.ref s.heap.objs.size,upd H s.heap.objs.size (.tup (List.replicate k w)),I.laid (t':=s.toks) (fun b o e=>ai _ e) (aj _) ⟨by rw [bw];exact aK hk (by decide),_,hv,⟨_,aq _ rfl,rfl,0,by rw [hvs]⟩⟩,rfl,q2 h1 _ (I.hok.fresh (aj _))⟩
  by_cases h1:k=1
  ·subst h1;exact fw F.slot_tuple_mul ⟨_,e,rfl⟩ F.entry_tuple_mul (F.args_tuple_mul_2 _ _) (SZ t p #[u0] n dd sl) ⟨e,⟨.ref p,H,I,rfl,q1 rfl⟩⟩
  by_cases h0:k=0
  ·subst h0;exact fw F.slot_tuple_mul ⟨_,e,rfl⟩ F.entry_tuple_mul (F.args_tuple_mul_2 _ _) (RJ t p #[u0] n dd sl rfl) ⟨e,mk _ rfl h1⟩
  have hf:(List.replicate (k:Int).toNat #[u0]).foldl (fun x1 x2=>x1++x2) (#[]:Array Value)=(List.replicate k u0).toArray:=by rw [CD,ax];simp
  have hs1:((#[u0]:Array Value).size:Int)*(k:Int)=(k:Int):=by show ((1:Nat):Int)*(k:Int)=_;lia
  refine fw F.slot_tuple_mul ⟨_,e,rfl⟩ F.entry_tuple_mul (F.args_tuple_mul_2 _ _) (RK (k:Int) t p #[u0] n dd sl rfl ?_ ?_ ?_ ?_ ?_ ?_) ⟨e,?_⟩
  ·exact da.mpr (by lia)
  ·rw [Bool.or_eq_true,fi,fi];lia
  ·rw [Bool.or_eq_true,fi];rintro (h|h);lia;cases h
  ·rw [hs1];lia
  ·rw [hs1];unfold Builtin.Tuple.tupleTooMany;rw [fi];have:(1000:Nat)<=sizeLine:=by decide
   lia
  ·rw [hf,au,bw];exact aK hk (by decide)
  ·exact mk _ hf h1
def VW:V->List V->Hp->VK->Prop:=fun x vs H Q=>∃(l:Addr) (xs:List V) (y:V),x=.ref l/\vs=[y]/\H l=some (.lst xs)/\v9 y=true/\xs.all v9=true/\Q (.int ((xs.countP fun z=>yJ z y:Nat):Int)) H
theorem BK {y:V}:∀{xs:List V} {us:List Value},Vals xs us->xs.all v9=true->us.countP (yC y)=xs.countP fun z=>yJ z y
 |[],_,r,_=>by cases r;rfl
 |x::xs,_,r,f=>by
  cases r with
  |@cons _ u _ us ru rt =>
   rw [List.all_cons,fq] at f;have ih:=BK (y:=y) rt f.2;rw [List.countP_cons,List.countP_cons,ih,mO ru f.1]
theorem S4:iC X "list.count" VW:=by
 intro pins s σ H x vs v us Q I rx rv h;obtain ⟨l,xs,y,rfl,rfl,hH,fy,fx,q⟩:=h;cases rx;obtain ⟨u,rfl,ru⟩:=rv.one;obtain ⟨z,its,n,r,hl,e⟩:=I.lstM hH;refine fw F.slot_list_count ⟨_,e,rfl⟩ F.entry_list_count (F.args_list_count_2 _ _) (SeqAt.list_countAt l its.toArray n none #[] u (yC y)) ⟨e,fun w hw=>bT ru fy r fx w (by simpa using hw),?_⟩;rw [show its.toArray.toList=its from rfl,BK r fx];exact ⟨.int ((xs.countP fun z=>yJ z y:Nat):Int),H,I.tok _,⟨_,rfl⟩,q⟩
end
end L2
namespace L2
open PySem PySem.Spec PyProof.Rows
section
variable {prog:Program} {w:World} {A:Around} {s:Shared} {E:Value->Shared->Prop}
end
section
variable {X:Cx} {pins:List (Addr×Obj)} {σ:List (Option V)} {H:Hp} {s:Shared} {h':Heap}
end
section
variable {X:Cx}
end
section
variable {prog:Program} {w:World} {A:Around} {s:Shared} {E:Value->Shared->Prop}
end
section
variable {X:Cx} {e se:Expr} {te:TE} {lo hi:Option Expr} {tl th tk:TO} {pos p2:Pos}
end
section
variable {X:Cx}
end
section
end
section
variable {prog:Program} {w:World} {A:Around} {s:Shared} {E:Value->Shared->Prop}
theorem AO {h h':Heap} {p:Addr} {vs:Array Value} (ht:h.IsTuple p vs) (k:∀o,h.get? p=some o->h'.get? p=some o):h'.IsTuple p vs:=by obtain ⟨o,e,c⟩:=ht;exact ⟨o,k o e,c⟩
theorem R4 {it p:Addr} {vs:Array Value} (hh:A.handled=none) (hne:it≠p):Draws prog w A it [it,p] vs.size (fun i x=>vs[i]?=some x) (fun i h=>h.IsTupleIter it p i/\h.IsTuple p vs) where
 live:=fun i h st=>by obtain ⟨⟨o,e,_⟩,_⟩:=st;exact ⟨o,e⟩
 frame:=fun i h h' st k=>⟨st.1.at fun o e=>k _ (by simp) o e,AO st.2 fun o e=>k _ (by simp) o e⟩
 item:=fun i s Q E hi st hQ=>by
  refine BD st.1 st.2 (Array.getElem?_eq_getElem hi) fun h' h1 sb=>?_
  exact hQ _ h' s.toks (Array.getElem?_eq_getElem hi) ⟨h1,AO st.2 fun o e=>(sb.2 _ hne.symm).trans e⟩ sb
 done:=fun s Q E st hE=>tY hh st.1 st.2 (by simp) hE
abbrev nZ (h:Heap) (q:Addr):Heap:=h.push {cls:=.type "tuple_iterator",data:=.fields #[.ref q,.int 0 0]}
abbrev xQ (h:Heap) (q:Addr):Heap:=(nZ h q).push {cls:=.type "enumerate",data:=.fields #[.none,.bool false,.ref h.objs.size,rawInt 0,.none,.none]}
theorem OF (q:Addr) (us:Array Value) (m:Nat) (dd:Option Addr) (ss:Array (Option Value)):Meets (Builtin.«enumerate.__new__» ⟨[.type "enumerate",.ref q],[]⟩) (fun _ R s=>s.heap.get? q=some {cls:=.type "tuple",dict:=dd,data:=.seq us m,slots:=ss}/\R (.ok (.ret (.ref (nZ s.heap q).objs.size))) {s with heap:=xQ s.heap q}):=.of_wp fun prog w A R s h=>by
 obtain ⟨hp,g,d,tk,os⟩:=s;obtain ⟨hq,h⟩:=h;have hsub:=sub_enumerate
 have B1:Heap.IsTuple (Shared.heap ⟨hp,g,d,tk,os⟩) q us:=⟨_,hq,rfl,m,rfl⟩
 wp_walk using gw hq
 refine wpAny_stack_any fun st=>aJ ?_;split
 ·rename_i c _ _ _ _ _;cases (c == Value.type "enumerate")<;>(wp_walk using gw hq,em B1;exact ⟨_,rfl,h⟩)
 ·wp_walk using gw hq,em B1;exact ⟨_,rfl,h⟩
theorem PP {q:Addr} {us:Array Value} {Q:Value->Shared->Prop} (hL:s.heap.IsTuple q us)
  (k:∀h',IsEnum h' (s.heap.objs.size+1) s.heap.objs.size 0 .none->h'.IsTupleIter s.heap.objs.size q 0->(∀b o,s.heap.get? b=some o->h'.get? b=some o)->Q (.ref (s.heap.objs.size+1)) {s with heap:=h'}):wpAny (model prog w) A (call (.type "enumerate") [.ref q]) Q E s:=by
 obtain ⟨⟨c,dd,dt,ss⟩,hq,hc,m,hd⟩:=hL;have hc:c=.type "tuple":=hc;have hd:dt=.seq us m:=hd;subst hc;subst hd
 refine callType_new F.called_enumerate (by decide) (F.typeCall_enumerate_1 _) (F.newCall_enumerate_1 _) (fun obj=>F.args_object_init_2 obj _) F.entry_enumerate_new (OF q us m dd ss) ⟨hq,?_⟩;have y1:(nZ s.heap q).objs.size=s.heap.objs.size+1:=cb ..;have g2:(xQ s.heap q).get? (nZ s.heap q).objs.size=some _:=aq _ rfl;have g1:(xQ s.heap q).get? s.heap.objs.size=some _:=ai _ (aq _ rfl);show _/\_;rw [y1] at g2 ⊢;exact ⟨⟨_,g2,rfl⟩,k _ g2 ⟨_,g1,rfl,rfl⟩ fun b o x=>ai _ (ai _ x)⟩
end
def xJ (K:PySem.W.Frag) (a:Addr):It :=
 ⟨fun i H=>∃xs x,SqT K H a xs/\xs[i]?=some x,
  fun i H v H'=>∃T x,v=.ref T/\H T=none/\H'=upd H T (.tup [.int (i:Int),x])/\∀xs,SqT K H a xs->xs[i]?=some x,
  fun i H=>∃xs,SqT K H a xs/\xs.length<=i⟩
theorem OP {P:Program} {w:World} {K:PySem.W.Frag} {elts:List Expr} {x1:Nat} {pos:Pos} {a e it:Addr} (hei:e≠it) (hea:e≠a) (hia:it≠a) :
  Turn P w K (.Tuple elts x1 pos) (xJ K a) [e,it] e (fun i h=>(∃old,IsEnum h e it i old)/\h.IsTupleIter it a i) where
 mem:=by simp
 obj:=fun i h st b hb=>by
  obtain ⟨⟨old,he⟩,⟨o1,e1,c1,d1⟩⟩:=st;simp only [ao,ay,bo] at hb
  rcases hb with rfl|rfl
  ·exact ⟨_,he,fun v y=>by have y':Data.fields _=Data.cell v:=y;cases y'⟩
  ·exact ⟨o1,e1,fun v y=>by rw [d1] at y;cases y⟩
 keep:=fun i h h' st k=>by
  obtain ⟨⟨old,he⟩,h1⟩:=st;exact ⟨⟨old,k _ (by simp) _ he⟩,h1.at fun o e=>k _ (by simp) o e⟩
 item:=by
  intro X hP hw hK hc i pins s σ H E I hf st hg;subst hP hw hK;obtain ⟨⟨old,he⟩,h1⟩:=st;obtain ⟨xs,x,hq1,hx⟩:=hg;obtain ⟨its1,rv1,p1,_⟩:=I.tuple hq1;have p1:s.heap.IsTuple a its1.toArray:=p1;obtain ⟨u,hu,ru⟩:=rv1.get hx;have hlt:i<its1.toArray.size:=by rw [au];exact (af.mp hu).1
  refine wpAny_pyNext_enum_itemD (R4 (A:=X.A.in1) (I.ok.hd hc) hia) he ⟨h1,p1⟩ hlt hei (by simp [hei,hea]) fun u' h' tk hu' he' st' hT' hsz hk=>?_
  have eu:u'=u:=by
   have e1:its1.toArray[i]?=some u':=hu';rw [List.getElem?_toArray,hu] at e1;exact (az e1).symm
  subst eu;refine ⟨_,rfl,?_⟩;refine wpAny_letOwnedTupleGo_enum he' fun h2 he2 hs2=>?_
  have lt:∀{b:Addr} {o:Obj},s.heap.get? b=some o->b<s.heap.objs.size:=fun e=>ar e
  have nT:s.heap.objs.size≠e:=dg (lt he);have k2:∀b o,b∉[e,it]->s.heap.get? b=some o->h2.get? b=some o:=fun b o hb q=>by
   simp only [ao,ay,bo,not_or] at hb;exact (hs2.2 b hb.1).trans (hk b o hb.1 hb.2 q)
  have hT2:=(hs2.2 _ nT).trans hT';refine ⟨.ref s.heap.objs.size,upd H s.heap.objs.size (.tup [.int (i:Int),x]),I.laidN (t':=tk+1) (fp:=[e,it]) k2 hf (aj _) ⟨(by show 2<=sizeLine;decide),[.int i tk,u'],.cons ⟨_,rfl⟩ (.cons ru .nil),⟨_,hT2,rfl,_,rfl⟩⟩,rfl,?_,?_,?_⟩
  ·exact ⟨_,x,rfl,I.hok.fresh (aj _),rfl,fun zs hzs=>by rw [I.tuple_inj hzs hq1];exact hx⟩
  ·exact ⟨⟨_,he2⟩,st'.1.at fun o q=>(hs2.2 _ hei.symm).trans q⟩
  ·intro b hb;have:=(hf b hb).1;rw [jP]
   ·exact this
   ·intro q;simp only [ao,ay,bo] at hb;obtain ⟨o1,e1,_⟩:=h1
    rcases hb with rfl|rfl
    ·exact nT q.symm
    ·exact aM (lt e1) q
 done:=by
  intro X hP hw hK hc i pins s σ H E I hf st hg;subst hP hw hK;obtain ⟨⟨old,he⟩,h1⟩:=st;obtain ⟨xs,hq1,hx⟩:=hg;obtain ⟨its1,rv1,p1,_⟩:=I.tuple hq1;have p1:s.heap.IsTuple a its1.toArray:=p1;have l1:=rv1.length;unfold pyNext;refine ae (iu (cq (name:=Str.ofString "__next__") ⟨_,he,rfl⟩ F.slot_enumerate_next (ei F.slot_enumerate_next ⟨_,he,rfl⟩ F.entry_enumerate_next ?_ (F.args_enumerate_next_1 _))));show wpAny _ _ (field (.ref e) 2 >>= _) _ _ _;refine ae (bc he rfl (x:=.ref it) rfl ?_);refine ae (tY (A:=X.A.in1) (I.ok.hd hc) h1 p1 (by simp;lia) fun h' z hk hz=>?_);obtain ⟨oz,ez,cz⟩:=hz;refine ae (wpAny_isInstance (T:="StopIteration") (b:=true) ⟨oz,ez,cz⟩ isSubtype_stop ?_);refine aJ ⟨rfl,I.turnedN (t':=s.toks) (fp:=[e,it]) (fun b o hb q=>?_) hf⟩;simp only [ao,ay,bo,not_or] at hb;exact hk b o hb.2 q
 self:=fun _ _ _ _ _ st h=>by obtain ⟨⟨old,he⟩,_⟩:=st;exact ib he h
section
variable {X:Cx} {elts:List Expr} {x1:Nat} {tpos:Pos}
def WI (K:PySem.W.Frag) (ta:TA):TI:=fun σ H R=>ta σ H fun vs H1=>∃a,vs=[.ref a]/\(∃xs,SqT K H1 a xs)/\R (xJ K a) H1
theorem uH {a:Expr} {ta:TA} {p pos:Pos} (hg:Gl X "enumerate") (hm:X.mg "enumerate"=none) (ha:PA X [a] ta) (hs:starEach [a] X.env=[(false,eval a X.env)]:=by rfl) :
  PI X (.Tuple elts x1 tpos) (.Call (.Name "enumerate" p) [a] [] pos) (WI X.K ta):=by
 intro pins s σ H R I h;refine Call_ (ZD I hg hm boot_enumerate (bq (jW (ha pos pins s σ H _ I h) fun us s1 ⟨vs,H1,I1,r1,q1⟩=>?_) hs rfl));obtain ⟨a1,e,⟨xs,hq1⟩,q⟩:=q1;subst e;cases r1 with
 |cons r rr =>
  cases rr;cases r;obtain ⟨its1,rv1,p1,_⟩:=I1.tuple hq1;have p1:s1.heap.IsTuple a1 its1.toArray:=p1;have lt1:a1<s1.heap.objs.size:=by obtain ⟨o,e,_⟩:=p1;exact ar e
  refine PP p1 fun h' he hit hk=>?_
  refine ib he ?_;refine ⟨_,_,_,_,H1,rfl,I1.kept (t':=s1.toks) hk,OP (Nat.succ_ne_self _) (by intro z;simp only [Addr] at *;lia) (by intro z;simp only [Addr] at *;lia),⟨⟨_,he⟩,hit⟩,fun b hb=>?_,q⟩;simp only [ao,ay,bo] at hb;have hb':s1.heap.objs.size<=b:=by rcases hb with rfl|rfl<;>simp only [Addr] at *<;>lia
  exact I1.fpOk hb' (I1.hok.fresh hb')
theorem tD {K:PySem.W.Frag} {a D:Addr} {xs:List V} {g:TG} {tc:TT} {te:TE} {σ₀:St} {H:Hp} {Q:Hp->Prop} (Pv:Nat->St->Hp->Prop) (h0:Pv 0 σ₀ (upd H D (.lst []))) (hl:∀i σ H,i<=xs.length->Pv i σ H->SqT K H a xs)
  (hs:∀i x σ H T,xs[i]?=some x->Pv i σ H->H T=none->g (.ref T) σ (upd H T (.tup [.int (i:Int),x])) fun σ2 H3=>tc σ2 H3 fun b H4=>if b=true then te σ2 H4 fun v H5=>∃zs,H5 D=some (.lst zs)/\zs.length<sizeLine/\Pv (i+1) σ2 (upd H5 D (.lst (zs++[v]))) else Pv (i+1) σ2 H4)
  (hd:∀σ H,Pv xs.length σ H->Q H):zG D (xJ K a) g tc te σ₀ H Q:=by
 refine ⟨fun i m σ H=>m=xs.length - i/\i<=xs.length/\Pv i σ H,⟨xs.length,by simp,aL _,h0⟩,?_⟩;rintro i m σ H ⟨rfl,hi,p⟩;have q1:=hl i σ H hi p
 by_cases hlt:i<xs.length
 ·refine .inr ⟨⟨xs,_,q1,aa hlt⟩,Pv (i+1),fun σ' H' p'=>⟨xs.length - (i+1),by lia,rfl,hlt,p'⟩,fun v H' hy=>?_⟩;obtain ⟨T,x,rfl,hT,rfl,e1⟩:=hy;exact hs i x σ H T (e1 xs q1) p hT
 ·exact .inl ⟨⟨xs,q1,by lia⟩,hd σ H (by rw [show xs.length=i by lia];exact p)⟩
end
section
variable {X:Cx}
end
variable {K:PySem.W.Frag} {H:Hp} {i:Int} {v:V} {P:V->Prop}
theorem qA {p:Addr} {xs:List V} (h:SqL K H p xs) (t:qS xs i=some v) (q:P v):∃p' xs' i' v',V.ref p=.ref p'/\V.int i=.int i'/\SqL K H p' xs'/\qS xs' i'=some v'/\P v':=⟨p,xs,i,v,rfl,rfl,h,t,q⟩
theorem jI {p:Addr} {xs:List V} (h:SqT K H p xs) (t:qS xs i=some v) (q:P v):∃p' xs' i' v',V.ref p=.ref p'/\V.int i=.int i'/\SqT K H p' xs'/\qS xs' i'=some v'/\P v':=⟨p,xs,i,v,rfl,rfl,h,t,q⟩
theorem j0 {a C dx:Addr} {fs:List (Str×V)} {f:Str} (h:H a=some (.ins C dx fs)) (c:Cls K C) (n:NoAttr K C f) (l:fs.lookup f=some v) (q:P v):∃a' C' dx' fs' v',V.ref a=.ref a'/\H a'=some (.ins C' dx' fs')/\Cls K C'/\NoAttr K C' f/\fs'.lookup f=some v'/\P v':=⟨a,C,dx,fs,v,rfl,h,c,n,l,q⟩
theorem jZ {P:Int->Int->Prop} {j:Int} (h:P i j):∃a b,V.int i=V.int a/\V.int j=V.int b/\P a b:=⟨i,j,rfl,rfl,h⟩
end L2
namespace L2
open PySem PySem.Spec PyProof.Rows
section
variable {X:Cx}
end
end L2
namespace L2
theorem jA {α β:Type} {f:α->β} {b:β} {v:α} {B:α->Prop} (h:b=f v) (q:B v):∃x,b=f x/\B x:=⟨v,h,q⟩
open PySem PySem.Spec PyProof.Rows in
theorem jU {CX:yL} {P:Program} {w:World} {K:PySem.W.Frag} {mg:Str->Option Value} {base:Heap} {N:List Str} {qual:Str} {scope:Scope} {f:Addr} {cd:Value} {A:Around} {outer:List Env} {s:Shared} {H:Hp} {E:XK}:(qC CX P w K mg base N qual scope f cd A outer s H E).K=K:=rfl
open PySem PySem.Spec PyProof.Rows in
theorem jT {CX:yL} {P:Program} {w:World} {K:PySem.W.Frag} {mg:Str->Option Value} {base:Heap} {N:List Str} {qual:Str} {scope:Scope} {f:Addr} {cd:Value} {A:Around} {outer:List Env} {s:Shared} {H:Hp} {E:XK}:(qC CX P w K mg base N qual scope f cd A outer s H E).nox.K=K:=rfl
end L2
namespace L2
variable {α0 α1 α2:Sort _}
theorem vA {P:α0->α1->α2->Prop} (a0:α0) (a1:α1) (a2:α2) (h:P a0 a1 a2):∃a0 a1 a2,P a0 a1 a2:=⟨a0,a1,a2,h⟩
variable {α3:Sort _}
theorem vY {P:α0->α1->α2->α3->Prop} (a0:α0) (a1:α1) (a2:α2) (a3:α3) (h:P a0 a1 a2 a3):∃a0 a1 a2 a3,P a0 a1 a2 a3:=⟨a0,a1,a2,a3,h⟩
variable {α4:Sort _}
theorem vO {P:α0->α1->α2->α3->α4->Prop} (a0:α0) (a1:α1) (a2:α2) (a3:α3) (a4:α4) (h:P a0 a1 a2 a3 a4):∃a0 a1 a2 a3 a4,P a0 a1 a2 a3 a4:=⟨a0,a1,a2,a3,a4,h⟩
variable {α5:Sort _}
theorem JI {P:α0->α1->α2->α3->α4->α5->Prop} (a0:α0) (a1:α1) (a2:α2) (a3:α3) (a4:α4) (a5:α5) (h:P a0 a1 a2 a3 a4 a5):∃a0 a1 a2 a3 a4 a5,P a0 a1 a2 a3 a4 a5:=⟨a0,a1,a2,a3,a4,a5,h⟩
variable {α6:Sort _}
theorem kS {P:α0->α1->α2->α3->α4->α5->α6->Prop} (a0:α0) (a1:α1) (a2:α2) (a3:α3) (a4:α4) (a5:α5) (a6:α6) (h:P a0 a1 a2 a3 a4 a5 a6):∃a0 a1 a2 a3 a4 a5 a6,P a0 a1 a2 a3 a4 a5 a6:=⟨a0,a1,a2,a3,a4,a5,a6,h⟩
variable {α7:Sort _}
theorem JT {P:α0->α1->α2->α3->α4->α5->α6->α7->Prop} (a0:α0) (a1:α1) (a2:α2) (a3:α3) (a4:α4) (a5:α5) (a6:α6) (a7:α7) (h:P a0 a1 a2 a3 a4 a5 a6 a7):∃a0 a1 a2 a3 a4 a5 a6 a7,P a0 a1 a2 a3 a4 a5 a6 a7:=⟨a0,a1,a2,a3,a4,a5,a6,a7,h⟩
variable {α8:Sort _}
theorem vM {P:α0->α1->α2->α3->α4->α5->α6->α7->α8->Prop} (a0:α0) (a1:α1) (a2:α2) (a3:α3) (a4:α4) (a5:α5) (a6:α6) (a7:α7) (a8:α8) (h:P a0 a1 a2 a3 a4 a5 a6 a7 a8):∃a0 a1 a2 a3 a4 a5 a6 a7 a8,P a0 a1 a2 a3 a4 a5 a6 a7 a8:=⟨a0,a1,a2,a3,a4,a5,a6,a7,a8,h⟩
variable {α9:Sort _}
theorem gR {P:α0->α1->α2->α3->α4->α5->α6->α7->α8->α9->Prop} (a0:α0) (a1:α1) (a2:α2) (a3:α3) (a4:α4) (a5:α5) (a6:α6) (a7:α7) (a8:α8) (a9:α9) (h:P a0 a1 a2 a3 a4 a5 a6 a7 a8 a9):∃a0 a1 a2 a3 a4 a5 a6 a7 a8 a9,P a0 a1 a2 a3 a4 a5 a6 a7 a8 a9:=⟨a0,a1,a2,a3,a4,a5,a6,a7,a8,a9,h⟩
variable {α10 α11:Sort _}
theorem YB {P:α0->α1->α2->α3->α4->α5->α6->α7->α8->α9->α10->α11->Prop} (a0:α0) (a1:α1) (a2:α2) (a3:α3) (a4:α4) (a5:α5) (a6:α6) (a7:α7) (a8:α8) (a9:α9) (a10:α10) (a11:α11) (h:P a0 a1 a2 a3 a4 a5 a6 a7 a8 a9 a10 a11):∃a0 a1 a2 a3 a4 a5 a6 a7 a8 a9 a10 a11,P a0 a1 a2 a3 a4 a5 a6 a7 a8 a9 a10 a11:=⟨a0,a1,a2,a3,a4,a5,a6,a7,a8,a9,a10,a11,h⟩
variable {α12:Sort _}
theorem xB {P:α0->α1->α2->α3->α4->α5->α6->α7->α8->α9->α10->α11->α12->Prop} (a0:α0) (a1:α1) (a2:α2) (a3:α3) (a4:α4) (a5:α5) (a6:α6) (a7:α7) (a8:α8) (a9:α9) (a10:α10) (a11:α11) (a12:α12) (h:P a0 a1 a2 a3 a4 a5 a6 a7 a8 a9 a10 a11 a12):∃a0 a1 a2 a3 a4 a5 a6 a7 a8 a9 a10 a11 a12,P a0 a1 a2 a3 a4 a5 a6 a7 a8 a9 a10 a11 a12:=⟨a0,a1,a2,a3,a4,a5,a6,a7,a8,a9,a10,a11,a12,h⟩
variable {α13:Sort _}
theorem gQ {P:α0->α1->α2->α3->α4->α5->α6->α7->α8->α9->α10->α11->α12->α13->Prop} (a0:α0) (a1:α1) (a2:α2) (a3:α3) (a4:α4) (a5:α5) (a6:α6) (a7:α7) (a8:α8) (a9:α9) (a10:α10) (a11:α11) (a12:α12) (a13:α13) (h:P a0 a1 a2 a3 a4 a5 a6 a7 a8 a9 a10 a11 a12 a13):∃a0 a1 a2 a3 a4 a5 a6 a7 a8 a9 a10 a11 a12 a13,P a0 a1 a2 a3 a4 a5 a6 a7 a8 a9 a10 a11 a12 a13:=⟨a0,a1,a2,a3,a4,a5,a6,a7,a8,a9,a10,a11,a12,a13,h⟩
theorem xA {α14:Sort _} {α15:Sort _} {P:α0->α1->α2->α3->α4->α5->α6->α7->α8->α9->α10->α11->α12->α13->α14->α15->Prop} (a0:α0) (a1:α1) (a2:α2) (a3:α3) (a4:α4) (a5:α5) (a6:α6) (a7:α7) (a8:α8) (a9:α9) (a10:α10) (a11:α11) (a12:α12) (a13:α13) (a14:α14) (a15:α15) (h:P a0 a1 a2 a3 a4 a5 a6 a7 a8 a9 a10 a11 a12 a13 a14 a15):∃a0 a1 a2 a3 a4 a5 a6 a7 a8 a9 a10 a11 a12 a13 a14 a15,P a0 a1 a2 a3 a4 a5 a6 a7 a8 a9 a10 a11 a12 a13 a14 a15:=⟨a0,a1,a2,a3,a4,a5,a6,a7,a8,a9,a10,a11,a12,a13,a14,a15,h⟩
variable {A0 A1 A2:Prop}
theorem kK (h0:A0) (h1:A1) (h2:A2):A0/\A1/\A2:=⟨h0,h1,h2⟩
variable {A3:Prop}
theorem qI (h0:A0) (h1:A1) (h2:A2) (h3:A3):A0/\A1/\A2/\A3:=⟨h0,h1,h2,h3⟩
variable {A4:Prop}
theorem vG (h0:A0) (h1:A1) (h2:A2) (h3:A3) (h4:A4):A0/\A1/\A2/\A3/\A4:=⟨h0,h1,h2,h3,h4⟩
variable {A5:Prop}
theorem qU (h0:A0) (h1:A1) (h2:A2) (h3:A3) (h4:A4) (h5:A5):A0/\A1/\A2/\A3/\A4/\A5:=⟨h0,h1,h2,h3,h4,h5⟩
variable {A6:Prop}
theorem zN (h0:A0) (h1:A1) (h2:A2) (h3:A3) (h4:A4) (h5:A5) (h6:A6):A0/\A1/\A2/\A3/\A4/\A5/\A6:=⟨h0,h1,h2,h3,h4,h5,h6⟩
variable {A7:Prop}
theorem QE (h0:A0) (h1:A1) (h2:A2) (h3:A3) (h4:A4) (h5:A5) (h6:A6) (h7:A7):A0/\A1/\A2/\A3/\A4/\A5/\A6/\A7:=⟨h0,h1,h2,h3,h4,h5,h6,h7⟩
variable {A8:Prop}
theorem oA (h0:A0) (h1:A1) (h2:A2) (h3:A3) (h4:A4) (h5:A5) (h6:A6) (h7:A7) (h8:A8):A0/\A1/\A2/\A3/\A4/\A5/\A6/\A7/\A8:=⟨h0,h1,h2,h3,h4,h5,h6,h7,h8⟩
variable {A9:Prop}
theorem YE (h0:A0) (h1:A1) (h2:A2) (h3:A3) (h4:A4) (h5:A5) (h6:A6) (h7:A7) (h8:A8) (h9:A9):A0/\A1/\A2/\A3/\A4/\A5/\A6/\A7/\A8/\A9:=⟨h0,h1,h2,h3,h4,h5,h6,h7,h8,h9⟩
variable {A10:Prop}
theorem YD (h0:A0) (h1:A1) (h2:A2) (h3:A3) (h4:A4) (h5:A5) (h6:A6) (h7:A7) (h8:A8) (h9:A9) (h10:A10):A0/\A1/\A2/\A3/\A4/\A5/\A6/\A7/\A8/\A9/\A10:=⟨h0,h1,h2,h3,h4,h5,h6,h7,h8,h9,h10⟩
theorem YC {A11:Prop} (h0:A0) (h1:A1) (h2:A2) (h3:A3) (h4:A4) (h5:A5) (h6:A6) (h7:A7) (h8:A8) (h9:A9) (h10:A10) (h11:A11):A0/\A1/\A2/\A3/\A4/\A5/\A6/\A7/\A8/\A9/\A10/\A11:=⟨h0,h1,h2,h3,h4,h5,h6,h7,h8,h9,h10,h11⟩
variable {C:Prop}
theorem cQ {P:α0->α1->α2->Prop} (h:∃a0 a1 a2,P a0 a1 a2) (q:∀a0 a1 a2,P a0 a1 a2->C):C:=by
 obtain ⟨a0,a1,a2,h⟩:=h;exact q _ _ _ h
theorem cM {P:α0->α1->α2->α3->Prop} (h:∃a0 a1 a2 a3,P a0 a1 a2 a3) (q:∀a0 a1 a2 a3,P a0 a1 a2 a3->C):C:=by
 obtain ⟨a0,a1,a2,a3,h⟩:=h;exact q _ _ _ _ h
theorem JF {P:α0->α1->α2->α3->α4->Prop} (h:∃a0 a1 a2 a3 a4,P a0 a1 a2 a3 a4) (q:∀a0 a1 a2 a3 a4,P a0 a1 a2 a3 a4->C):C:=by
 obtain ⟨a0,a1,a2,a3,a4,h⟩:=h;exact q _ _ _ _ _ h
theorem QV {P:α0->α1->α2->α3->α4->α5->Prop} (h:∃a0 a1 a2 a3 a4 a5,P a0 a1 a2 a3 a4 a5) (q:∀a0 a1 a2 a3 a4 a5,P a0 a1 a2 a3 a4 a5->C):C:=by
 obtain ⟨a0,a1,a2,a3,a4,a5,h⟩:=h;exact q _ _ _ _ _ _ h
theorem zB {P:α0->α1->α2->α3->α4->α5->α6->Prop} (h:∃a0 a1 a2 a3 a4 a5 a6,P a0 a1 a2 a3 a4 a5 a6) (q:∀a0 a1 a2 a3 a4 a5 a6,P a0 a1 a2 a3 a4 a5 a6->C):C:=by
 obtain ⟨a0,a1,a2,a3,a4,a5,a6,h⟩:=h;exact q _ _ _ _ _ _ _ h
theorem JQ {P:α0->α1->α2->α3->α4->α5->α6->α7->Prop} (h:∃a0 a1 a2 a3 a4 a5 a6 a7,P a0 a1 a2 a3 a4 a5 a6 a7) (q:∀a0 a1 a2 a3 a4 a5 a6 a7,P a0 a1 a2 a3 a4 a5 a6 a7->C):C:=by
 obtain ⟨a0,a1,a2,a3,a4,a5,a6,a7,h⟩:=h;exact q _ _ _ _ _ _ _ _ h
theorem zA {P:α0->α1->α2->α3->α4->α5->α6->α7->α8->Prop} (h:∃a0 a1 a2 a3 a4 a5 a6 a7 a8,P a0 a1 a2 a3 a4 a5 a6 a7 a8) (q:∀a0 a1 a2 a3 a4 a5 a6 a7 a8,P a0 a1 a2 a3 a4 a5 a6 a7 a8->C):C:=by
 obtain ⟨a0,a1,a2,a3,a4,a5,a6,a7,a8,h⟩:=h;exact q _ _ _ _ _ _ _ _ _ h
theorem gO {P:α0->α1->α2->α3->α4->α5->α6->α7->α8->α9->Prop} (h:∃a0 a1 a2 a3 a4 a5 a6 a7 a8 a9,P a0 a1 a2 a3 a4 a5 a6 a7 a8 a9) (q:∀a0 a1 a2 a3 a4 a5 a6 a7 a8 a9,P a0 a1 a2 a3 a4 a5 a6 a7 a8 a9->C):C:=by
 obtain ⟨a0,a1,a2,a3,a4,a5,a6,a7,a8,a9,h⟩:=h;exact q _ _ _ _ _ _ _ _ _ _ h
theorem XG {P:α0->α1->α2->α3->α4->α5->α6->α7->α8->α9->α10->α11->Prop} (h:∃a0 a1 a2 a3 a4 a5 a6 a7 a8 a9 a10 a11,P a0 a1 a2 a3 a4 a5 a6 a7 a8 a9 a10 a11) (q:∀a0 a1 a2 a3 a4 a5 a6 a7 a8 a9 a10 a11,P a0 a1 a2 a3 a4 a5 a6 a7 a8 a9 a10 a11->C):C:=by
 obtain ⟨a0,a1,a2,a3,a4,a5,a6,a7,a8,a9,a10,a11,h⟩:=h;exact q _ _ _ _ _ _ _ _ _ _ _ _ h
theorem wW {P:α0->α1->α2->α3->α4->α5->α6->α7->α8->α9->α10->α11->α12->Prop} (h:∃a0 a1 a2 a3 a4 a5 a6 a7 a8 a9 a10 a11 a12,P a0 a1 a2 a3 a4 a5 a6 a7 a8 a9 a10 a11 a12) (q:∀a0 a1 a2 a3 a4 a5 a6 a7 a8 a9 a10 a11 a12,P a0 a1 a2 a3 a4 a5 a6 a7 a8 a9 a10 a11 a12->C):C:=by
 obtain ⟨a0,a1,a2,a3,a4,a5,a6,a7,a8,a9,a10,a11,a12,h⟩:=h;exact q _ _ _ _ _ _ _ _ _ _ _ _ _ h
theorem wV {P:α0->α1->α2->α3->α4->α5->α6->α7->α8->α9->α10->α11->α12->α13->Prop} (h:∃a0 a1 a2 a3 a4 a5 a6 a7 a8 a9 a10 a11 a12 a13,P a0 a1 a2 a3 a4 a5 a6 a7 a8 a9 a10 a11 a12 a13) (q:∀a0 a1 a2 a3 a4 a5 a6 a7 a8 a9 a10 a11 a12 a13,P a0 a1 a2 a3 a4 a5 a6 a7 a8 a9 a10 a11 a12 a13->C):C:=by
 obtain ⟨a0,a1,a2,a3,a4,a5,a6,a7,a8,a9,a10,a11,a12,a13,h⟩:=h;exact q _ _ _ _ _ _ _ _ _ _ _ _ _ _ h
theorem FX {α14:Sort _} {α15:Sort _} {P:α0->α1->α2->α3->α4->α5->α6->α7->α8->α9->α10->α11->α12->α13->α14->α15->Prop} (h:∃a0 a1 a2 a3 a4 a5 a6 a7 a8 a9 a10 a11 a12 a13 a14 a15,P a0 a1 a2 a3 a4 a5 a6 a7 a8 a9 a10 a11 a12 a13 a14 a15) (q:∀a0 a1 a2 a3 a4 a5 a6 a7 a8 a9 a10 a11 a12 a13 a14 a15,P a0 a1 a2 a3 a4 a5 a6 a7 a8 a9 a10 a11 a12 a13 a14 a15->C):C:=by
 obtain ⟨a0,a1,a2,a3,a4,a5,a6,a7,a8,a9,a10,a11,a12,a13,a14,a15,h⟩:=h;exact q _ _ _ _ _ _ _ _ _ _ _ _ _ _ _ _ h
theorem vF (h:A0/\A1/\A2) (q:A0->A1->A2->C):C:=by
 obtain ⟨h0,h1,h2⟩:=h;exact q h0 h1 h2
theorem zT (h:A0/\A1/\A2/\A3) (q:A0->A1->A2->A3->C):C:=by
 obtain ⟨h0,h1,h2,h3⟩:=h;exact q h0 h1 h2 h3
theorem J4 (h:A0/\A1/\A2/\A3/\A4) (q:A0->A1->A2->A3->A4->C):C:=by
 obtain ⟨h0,h1,h2,h3,h4⟩:=h;exact q h0 h1 h2 h3 h4
theorem zK (h:A0/\A1/\A2/\A3/\A4/\A5) (q:A0->A1->A2->A3->A4->A5->C):C:=by
 obtain ⟨h0,h1,h2,h3,h4,h5⟩:=h;exact q h0 h1 h2 h3 h4 h5
theorem zS (h:A0/\A1/\A2/\A3/\A4/\A5/\A6) (q:A0->A1->A2->A3->A4->A5->A6->C):C:=by
 obtain ⟨h0,h1,h2,h3,h4,h5,h6⟩:=h;exact q h0 h1 h2 h3 h4 h5 h6
theorem ZS (h:A0/\A1/\A2/\A3/\A4/\A5/\A6/\A7) (q:A0->A1->A2->A3->A4->A5->A6->A7->C):C:=by
 obtain ⟨h0,h1,h2,h3,h4,h5,h6,h7⟩:=h;exact q h0 h1 h2 h3 h4 h5 h6 h7
theorem xD (h:A0/\A1/\A2/\A3/\A4/\A5/\A6/\A7/\A8) (q:A0->A1->A2->A3->A4->A5->A6->A7->A8->C):C:=by
 obtain ⟨h0,h1,h2,h3,h4,h5,h6,h7,h8⟩:=h;exact q h0 h1 h2 h3 h4 h5 h6 h7 h8
theorem XN (h:A0/\A1/\A2/\A3/\A4/\A5/\A6/\A7/\A8/\A9) (q:A0->A1->A2->A3->A4->A5->A6->A7->A8->A9->C):C:=by
 obtain ⟨h0,h1,h2,h3,h4,h5,h6,h7,h8,h9⟩:=h;exact q h0 h1 h2 h3 h4 h5 h6 h7 h8 h9
theorem XM (h:A0/\A1/\A2/\A3/\A4/\A5/\A6/\A7/\A8/\A9/\A10) (q:A0->A1->A2->A3->A4->A5->A6->A7->A8->A9->A10->C):C:=by
 obtain ⟨h0,h1,h2,h3,h4,h5,h6,h7,h8,h9,h10⟩:=h;exact q h0 h1 h2 h3 h4 h5 h6 h7 h8 h9 h10
theorem XL {A11:Prop} (h:A0/\A1/\A2/\A3/\A4/\A5/\A6/\A7/\A8/\A9/\A10/\A11) (q:A0->A1->A2->A3->A4->A5->A6->A7->A8->A9->A10->A11->C):C:=by
 obtain ⟨h0,h1,h2,h3,h4,h5,h6,h7,h8,h9,h10,h11⟩:=h;exact q h0 h1 h2 h3 h4 h5 h6 h7 h8 h9 h10 h11
end L2
namespace L2
open PySem PySem.Spec PyProof.Rows
section
variable {X:Cx}
end
section
variable {prog:Program} {w:World} {A:Around} {E:Value->Shared->Prop} {s:Shared}
end
section
variable {X:Cx}
end
section
variable {X:Cx} {pins:List (Addr×Obj)} {σ:St} {H:Hp} {s:Shared} {a:Addr} {y d:V} {u r:Value} {o:Option V} {A:Around} {E:Value->Shared->Prop}
end
section
variable {X:Cx} {o e f:Expr} {apos cpos:Pos} {td ty tx:TE}
end
section
variable {M:Model} {A:Around} {E:Value->Shared->Prop} {s:Shared}
theorem SX {B:Heap} {env:Env} {outer:List Env} {L e:Addr} {cls a0 fl:Value} {Q:Unit->Shared->Prop} (hfr:A.frames=some (env::outer)) (hl:s.heap.FunFrames B (env::outer)) (hf:env.frame=some L) (ht:s.heap.TracedAtW B e cls a0 fl) (hn:fl≠rawInt L) (hb:B.StaysIn s.heap) (he0:B.get? e=none)
  (q:∀h',Heap.NotedW B (env::outer) e cls a0 (rawInt L) s.heap h'->Q () {s with heap:=h'}):wpAny M A (noteFrame (.ref e) env) Q E s:=by
 obtain ⟨oe,vs,T,oT,ts,he,⟨rfl,h0⟩,hd,h1,nT,nTe,hT,dT,h3⟩:=ht;unfold noteFrame;simp only [hf];refine ae (bc he hd h1 ?_);rw [if_pos (show (Value.ref T != Value.none)=true from by simp)];refine ae (bc hT dT h3 ?_);rw [if_neg (show ¬((fl == rawInt L)=true) from fun z=>hn (eq_of_beq z))];refine ae (wpAny_setField hT dT (eh.mp h3).1 ?_);have oth:∀b,b≠T->(s.heap.update T (Obj.mapFields (·.setIfInBounds 3 Value.none))).get? b=s.heap.get? b:=fun b nb=>gb _ _ (Ne.symm nb)
 have nrec:∀b o,s.heap.get? b=some o->(∀vs,o.data≠.fields vs)->b≠T:=fun b o hbo nf z=>by rw [z,hT] at hbo;cases hbo;exact nf ts dT
 refine wpAny_entryW hfr (hl.of_keeps fun b o hbo nf=>⟨o,(oth b (nrec b o hbo nf)).trans hbo,rfl⟩) hf ((oth e (Ne.symm nTe)).trans he) (fun b o hbo=>(oth b fun z=>by rw [z,nT] at hbo;cases hbo).trans (hb b o hbo)) he0 hd (eh.mp h1).1 h0 fun h' y=>?_
 obtain ⟨y1,y2,y3,y4⟩:=y;exact q h' ⟨y1,y2,y3,fun b o hbo nf=>y4 b o ((oth b (nrec b o hbo nf)).trans hbo) nf⟩
theorem PB {B:Heap} {env:Env} {outer:List Env} {L e:Addr} {cls a0 fl:Value} {Q:Unit->Shared->Prop} (hfr:A.frames=some (env::outer)) (hl:s.heap.FunFrames B (env::outer)) (hf:env.frame=some L) (ht:s.heap.TracedAtW B e cls a0 fl) (hb:B.StaysIn s.heap) (he0:B.get? e=none)
  (q:∀h',Heap.FlyingW B outer e cls a0 h'->s.heap.UpToSlots h'->Q () {s with heap:=h'}):wpAny M A (leaving env (.ref e)) Q E s:=by
 have fin:∀h2,Heap.HeldW B (env::outer) e cls a0 L h2->s.heap.UpToSlots h2->wpAny M A (setFlight (.ref e) none) Q E {s with heap:=h2}:=fun h2 hh up=>by
  refine wpAny_landsW (s:={s with heap:=h2}) hh fun h' fly up'=>q h' ?_ (up.trans up')
  obtain ⟨k1,k2,⟨_,_,k3⟩,k4⟩:=fly;exact ⟨k1,k2,k3,k4⟩
 unfold leaving
 by_cases hn:fl=rawInt L
 ·subst hn;exact ae (wpAny_noteFrame_againW hf ht (fin s.heap ⟨hb,he0,hl,ht⟩ (Heap.UpToSlots.refl _)))
 ·refine ae (SX hfr hl hf ht hn hb he0 fun h2 y=>?_);obtain ⟨y1,y2,y3,y4⟩:=y;exact fin h2 ⟨y1,he0,y2,y3⟩ y4
end
theorem RH {B B':Heap} (k:∀b o,B'.get? b=some o->B.get? b=some o) {b:Addr} (hn:B.get? b=none):B'.get? b=none:=by
 cases r:B'.get? b with
 |none=>rfl
 |some v=>rw [k b v r] at hn;cases hn
theorem AV {h B B':Heap} (k:∀b o,B'.get? b=some o->B.get? b=some o):∀{l:List Env},h.FunFrames B l->h.FunFrames B' l
 |[],_=>trivial
 |_::_,⟨hk,⟨L,o,hf,hn,ho,hd⟩,hr⟩=>⟨hk,⟨L,o,hf,RH k hn,ho,hd⟩,AV k hr⟩
def eV (X:Cx) (N:List Str) (scope:Scope) (C:Addr) (s:Shared) (H:Hp) (pins:List (Addr×Obj)) (fp:List Addr) (RX:Value->Hp->Prop):Value->Shared->Prop:=fun e s'=>∃pins₁ σ₁ H₁ s₁,Inv (qP X N scope C s H pins fp) pins₁ σ₁ H₁ s₁/\kA X.prog X.w X.stack H₁ s₁ (fun c _ H'=>RX c H') e s'
theorem PF {X:Cx} {N:List Str} {scope:Scope} {C:Addr} {s:Shared} {H:Hp} {pins:List (Addr×Obj)} {fp:List Addr} {RX:Value->Hp->Prop}:bI ((qP X N scope C s H pins fp).wish (eV X N scope C s H pins fp RX)) (fun _ c H'=>RX c H') :=
 fun pins₁ σ₁ H₁ s₁ _ _ I hx=>⟨pins₁,σ₁,H₁,s₁,I.unwish,hx⟩
section
variable {P:Program} {w:World} {K:PySem.W.Frag} {mg:Str->Option Value} {base:Heap} {N:List Str} {qual:Str} {scope:Scope} {f:Addr} {cd:Value} {A:Around} {outer:List Env} {s:Shared} {H:Hp} {E:XK}
theorem TW {Nc:List Str} {sc:Scope} {pins:List (Addr×Obj)} {σ:St} {H2:Hp} {s2:Shared} {fp:List Addr} {C:Addr} {e acc:Value} {s':Shared} {use:Option (Value->Sem Unit)} {Q:Value->Shared->Prop} {E':Value->Shared->Prop}
  (I2:Inv (qC (kA P w) P w K mg base N qual scope f cd A outer s H E) pins σ H2 s2) (f2:∀b∈fp,JG (qC (kA P w) P w K mg base N qual scope f cd A outer s H E) pins H2 b) (hC:s2.heap.objs.size<=C)
  (hx:eV (qC (kA P w) P w K mg base N qual scope f cd A outer s H E) Nc sc C s2 H2 pins fp (fun c H'=>E c none H') e s') (cells:List (Str×Addr)) :
  wpAny (model P w) (A.deeper (envOfC qual scope s.heap.objs.size f cd)) (noteFrame e (compEnvC sc cells C (envOfC qual scope s.heap.objs.size f cd)))
   (fun _ s''=>compPost (model P w) (A.deeper (envOfC qual scope s.heap.objs.size f cd)) (qC (kA P w) P w K mg base N qual scope f cd A outer s H E).xe use Q acc C (.error e) s'') E' s':=by
 obtain ⟨pins₁,σ₁,H₁,s₁,Ic,a,Cc,H3,rfl,os,bare,un,hok,⟨B,a0,fl,ground⟩,ha,hs1,q⟩:=hx;have J1:Inv (qP (qC (kA P w) P w K mg base N qual scope f cd A outer s H E) Nc sc C s2 H2 pins fp) pins₁ σ₁ H3 s':=Ic.call' (ch:=[]) os un hok bare fun b z=>absurd z (by simp)
 have J0:=J1.pins_of (pins':=[]) fun p hp=>nomatch hp
 have JX:Inv (qC (kA P w) P w K mg base N qual scope f cd A outer s H E) pins σ H3 s':=lS (σ':=σ) I2 f2 J0;have fl':Heap.FlyingW B (envOfC qual scope s.heap.objs.size f cd::outer) a (.ref Cc) a0 s'.heap:=fl;have hfs:kM (envOfC qual scope s.heap.objs.size f cd::outer)=s.heap.objs.size::kM outer:=rfl;have hst2:s2.heap.FunFrames base (envOfC qual scope s.heap.objs.size f cd::outer):=I2.stack;have hst:s'.heap.FunFrames base (envOfC qual scope s.heap.objs.size f cd::outer):=JX.stack;have ub:Un (kM outer) [] H H3 s.heap s'.heap:=JX.base;have u2:Un (kM outer) [] H H2 s.heap s2.heap:=I2.base;have uc:Un (kM (envOfC qual scope s.heap.objs.size f cd::outer)) fp H2 H₁ s2.heap s₁.heap:=Ic.base;have nfC:C∉kM (envOfC qual scope s.heap.objs.size f cd::outer):=fun z=>by
  obtain ⟨_,o,ho,_⟩:=hst2.mem z;exact absurd (ar ho) (Nat.not_lt_of_le hC)
 have old:∀b,(∃o',s.heap.get? b=some o')->b∉kM outer->b∉kM (envOfC qual scope s.heap.objs.size f cd::outer):=fun b ⟨o',z⟩ n y=>by
  rw [hfs] at y
  rcases ao.mp y with y|y
  ·exact absurd (ar z) (by rw [y];exact cp _)
  ·exact n y
 have zL:∀b,H3 b≠none->b∉kM (envOfC qual scope s.heap.objs.size f cd::outer):=fun b hb z=>hb (JX.stkFree b z)
 have nfp:∀b,(∃o',s.heap.get? b=some o')->b∉fp:=fun b ⟨o',z⟩ y=>by
  obtain ⟨_,_,_,h4,_⟩:=f2 b y
  rcases h4 with h4|h4
  ·cases h4
  ·exact absurd (ar z) (Nat.not_lt_of_le h4)
 have in1:∀b,(∃o',s.heap.get? b=some o')->∃o',s₁.heap.get? b=some o':=fun b z=>by
  obtain ⟨o',z'⟩:=z;obtain ⟨o2,h2⟩:=u2.there b o' z' (by simp);exact uc.there b o2 h2 (nfp b ⟨o',z'⟩)
 have ltC:∀b,(∃o',s.heap.get? b=some o')->b≠C:=fun b z y=>by
  obtain ⟨o',z'⟩:=z;obtain ⟨o2,h2⟩:=u2.there b o' z' (by simp);exact absurd (ar h2) (Nat.not_lt_of_le (by rw [y];exact hC))
 obtain ⟨m,hns,_⟩:=J0.loc;have hns':s'.heap.Ns C m:=hns;have hBC:∃o,B.get? C=some o:=by
  obtain ⟨m1,hn1,_⟩:=Ic.loc;obtain ⟨o1,_,_,ho1,_⟩:=(show s₁.heap.Ns C m1 from hn1);obtain ⟨o2,_,_,ho2,_⟩:=hns';exact ⟨o2,ground C o2 ho2 nfC (.inr ⟨o1,ho1⟩)⟩
 obtain ⟨oC,hBC⟩:=hBC;have h3C:H3 C=none:=J1.free;have leB:∀b o,(PySem.W.hideAll B [C]).get? b=some o->B.get? b=some o:=fun b o z=>PySem.W.of_hideAll _ z
 have inB:∀b o,b≠C->B.get? b=some o->(PySem.W.hideAll B [C]).get? b=some o:=fun b o n z=>PySem.W.hideAll_get _ z fun y=>n (aS.mp y)
 have noB:∀b,B.get? b=none->(PySem.W.hideAll B [C]).get? b=none:=fun b z=>by
  cases r:(PySem.W.hideAll B [C]).get? b with
  |none=>rfl
  |some v=>rw [leB b v r] at z;cases z
 show wpAny (model P w) (A.deeper (envOfC qual scope s.heap.objs.size f cd)) (noteFrame (.ref a) (envOfC qual scope s.heap.objs.size f cd)) _ _ s';refine wpAny_looks_onW J1.ok.frames rfl fl' fun h4 held up=>?_
 obtain ⟨k1,k2,k3,oe,vs,T,oT,ts,he,hcl,hd,h1,nT,nTe,hT,dT,h3⟩:=held;refine ⟨m,up.ns hns',fun h5 sb cenv _=>?_⟩;have naC:a≠C:=fun z=>by rw [z,hBC] at k2;cases k2
 have nTC:T≠C:=fun z=>by rw [z,hBC] at nT;cases nT
 have he5:h5.get? a=some oe:=(sb.2 a naC).trans he;have hT5:h5.get? T=some oT:=(sb.2 T nTC).trans hT;unfold PySem.passOn;refine ae (bc he5 hd h1 ?_);rw [if_neg (by simp)];unfold setFlight;refine ae (ae (bc he5 hd h1 ?_));rw [if_pos (by simp)];have hz3:3<ts.size:=(eh.mp h3).1;refine wpAny_setField hT5 dT hz3 (wpAny_throw ?_);generalize hfv:(cenv.frame.elim Value.none fun f=>rawInt f)=fv;have oth:∀b,b≠T->(h5.update T (Obj.mapFields (·.setIfInBounds 3 fv))).get? b=h5.get? b:=fun b nb=>gb _ _ (Ne.symm nb)
 have hT6:=gg (Obj.mapFields (·.setIfInBounds 3 fv)) hT5 (Obj.isFreed_of_fields (hZ dT _));have tr6:(h5.update T (Obj.mapFields (·.setIfInBounds 3 fv))).TracedAtW (PySem.W.hideAll B [C]) a (.ref Cc) a0 fv:=⟨oe,vs,T,_,_,(oth a (Ne.symm nTe)).trans he5,hcl,hd,h1,noB T nT,nTe,hT6,hZ dT _,by simp [hz3]⟩;have keepB:(PySem.W.hideAll B [C]).StaysIn (h5.update T (Obj.mapFields (·.setIfInBounds 3 fv))):=fun b o z=>by
  have zb:=leB b o z;have nb:b≠C:=fun y=>by rw [y,PySem.W.hideAll_none [C] aY] at z;cases z
  have nt:b≠T:=fun y=>by rw [y,nT] at zb;cases zb
  rw [oth b nt,sb.2 b nb];exact k1 b o zb
 have upto:∀b o,b≠C->h4.get? b=some o->(∀vs,o.data≠.fields vs)->(h5.update T (Obj.mapFields (·.setIfInBounds 3 fv))).get? b=some o:=fun b o nb z nf=>by
  have nt:b≠T:=fun y=>by rw [y,hT] at z;cases z;exact nf ts dT
  rw [oth b nt,sb.2 b nb];exact z
 have fr6:(h5.update T (Obj.mapFields (·.setIfInBounds 3 fv))).FunFrames (PySem.W.hideAll B [C]) (envOfC qual scope s.heap.objs.size f cd::outer):=by
  have hk3:=AV leB k3;clear tr6 keepB
  revert hk3
  generalize envOfC qual scope s.heap.objs.size f cd::outer=l at nfC;intro hk3
  induction l with
  |nil=>trivial
  |cons env rest ih =>
   obtain ⟨g1,⟨L,o,g2,g3,g4,g5⟩,g6⟩:=hk3;have hm:L∈kM (env::rest):=eo.mpr ⟨env,aY,g2⟩;refine ⟨g1,⟨L,o,g2,g3,upto L o (fun y=>nfC (by rw [<- y];exact hm)) g4 g5,g5⟩,ih (fun z=>nfC ?_) g6⟩;obtain ⟨en,hen,hf⟩:=eo.mp z;exact eo.mpr ⟨en,aI _ hen,hf⟩
 show wpAny (model P w) (A.deeper (envOfC qual scope s.heap.objs.size f cd)) (leaving (envOfC qual scope s.heap.objs.size f cd) (.ref a)) (fun _ s''=>kA P w outer H s E (.ref a) s'') (fun e' s''=>kA P w outer H s E e' s'') _;refine PB (B:=PySem.W.hideAll B [C]) JX.ok.frames fr6 rfl tr6 keepB (noB a k2) fun h7 fly up7=>?_
 have g7:∀b o,s'.heap.get? b=some o->b∉kM (envOfC qual scope s.heap.objs.size f cd::outer)->b≠C->(H3 b≠none\/∃o',s₁.heap.get? b=some o')->(PySem.W.hideAll B [C]).get? b=some o:=fun b o z n nb y=>inB b o nb (ground b o z n y)
 refine ⟨a,Cc,H3,rfl,JX.os,JX.bare,ub.go (fun b o z n _ y=>fly.1 b o (g7 b o z (old b y n) (ltC b y) (.inr (in1 b y)))) (fun b o z n _=>?_),JX.hok.keepT fun b u hb z=>fly.1 b u (g7 b u z (zL b hb) (fun y=>hb (by rw [y];exact h3C)) (.inl hb)),?_,ha,?_,q⟩
 ·have hm:b∈kM (envOfC qual scope s.heap.objs.size f cd::outer):=by rw [hfs];exact aI _ n
  obtain ⟨_,o',ho',hdd⟩:=hst.mem hm;rw [z] at ho';cases ho'
  obtain ⟨sl,e4⟩:=up b o z hdd;have e6:=upto b _ (fun y=>nfC (by rw [<- y];exact hm)) e4 hdd;obtain ⟨sl2,e7⟩:=up7 b _ e6 hdd;exact ⟨sl2,e7⟩
 ·refine ⟨_,a0,fly,fun b o z n y=>?_⟩;have hn:b∉kM (envOfC qual scope s.heap.objs.size f cd::outer):=by
   rcases y with y|y
   ·exact zL b y
   ·exact old b y n
  have nb:b≠C:=by
   rcases y with y|y
   ·exact fun v=>y (by rw [v];exact h3C)
   ·exact ltC b y
  have h1':∃u,s'.heap.get? b=some u:=by
   rcases y with y|⟨o',y⟩
   ·cases r:H3 b with
    |none=>exact absurd r y
    |some v=>exact JX.hok.there r
   ·exact ub.there b o' y (by simp)
  obtain ⟨u,hu⟩:=h1';have hB:=g7 b u hu hn nb (by
   rcases y with y|y
   ·exact .inl y
   ·exact .inr (in1 b y))
  have:=fly.1 b u hB;have z':h7.get? b=some o:=z;rw [z'] at this;cases this;exact hB
 ·cases r:s.heap.get? a with
  |none=>rfl
  |some v =>
   obtain ⟨u,hu⟩:=in1 a ⟨v,r⟩;rw [hs1] at hu;cases hu
end
theorem PM {prog:Program} {w:World} {A:Around} {elt target iter:Expr} {ifs:List Expr} {scope:Scope} {pos:Pos} {it acc:Value} {env:Env} {R:Result->Shared->Prop} {s:Shared} (I:Nat->Shared->Prop)
  (turn:∀n s,I n s->wpAny (model prog w) A (pyNext it) (fun r s₁=>match r with
   |none=>R (.ok .next) s₁
   |some v=>wpAny (model prog w) A (letOwnedTupleGo target it v) (fun _ s₁'=>wpAny (model prog w) A (assign target env v) (fun _ s₂ =>
     wpAny (model prog w) A (forIn ifs true fun c r=>if r=true then do let ok <- isTrue c env (eval c env);pure (ForInStep.yield ok) else pure (ForInStep.yield r)) (fun ok s₃ =>
      if ok=true then wpAny (model prog w) A (eval elt env) (fun x s₄ =>
       wpAny (model prog w) A (call (.builtin "list.append") [acc,x]) (fun _ s₅=>∃m,m<n/\I m s₅) (fun _ _=>False) s₄) (notedBy (model prog w) A env fun e s'=>R (.error e) s') s₃
      else ∃m,m<n/\I m s₃) (fun _ _=>False) s₂) (fun _ _=>False) s₁') (fun _ _=>False) s₁) (fun _ _=>False) s)
  (n:Nat) (h:I n s):codeAny (model prog w) A (.compLoop (.ListComp elt [⟨target,iter,ifs,0⟩] scope pos) 0 it acc env) R s:=by
 refine codeAny_loop rfl I (fun n s hI=>?_) n h;show wpAny _ A ((compTurn (.ListComp elt [⟨target,iter,ifs,0⟩] scope pos) 0 it acc env).onRaise (fun x=>do noteFrame x env;theTreesLotGoes x)) _ _ s;refine wpAny_noted ?_;rw [compTurn_list];refine ae (wpAny_standAt (ae (cg (turn n s hI) (fun r s₁ h₁=>?_) fun _ _ h'=>h'.elim)));cases r with
 |none=>exact aJ h₁
 |some v =>
  refine ae (cg h₁ (fun _ s₁' h₁'=>?_) fun _ _ h'=>h'.elim);refine ae (cg h₁' (fun _ s₂ h₂=>ae (cg h₂ (fun ok s₃ h₃=>?_) fun _ _ h'=>h'.elim)) fun _ _ h'=>h'.elim);cases ok with
  |false=>exact aJ ⟨rfl,h₃⟩
  |true =>
   exact ae (ae (cg h₃ (fun x s₄ h₄=>ae (cg h₄ (fun _ s₅ h₅=>aJ (aJ ⟨rfl,h₅⟩)) fun _ _ h'=>h'.elim)) fun _ _ h'=>h'))
section
variable {X:Cx} {N:List Str} {scope:Scope} {pins:List (Addr×Obj)} {σ:St} {H:Hp} {s:Shared} {fp:List Addr}
theorem uA {tg iter elt:Expr} {ifs:List Expr} {pos:Pos} {cap:St->St} {g:TG} {tc:TT} {te:TE} {J:It} {it:Addr} {tn:Nat->Heap->Prop} {Q:Addr->Hp->Prop} {RR:Value->Addr->Result->Shared->Prop} {RX:Value->Hp->Prop}
  (hcalm:X.calm=true) (S:CompScope X scope) (hcap:ZT X N scope cap) (I:Inv X pins σ H s) (T:Turn X.prog X.w X.K tg J fp it tn) (st:tn 0 s.heap) (hf:∀b∈fp,JG X pins H b)
  (hg:∀C,PG (qP X N scope C s H pins fp) tg g) (hc:∀C,cY (qP X N scope C s H pins fp) ifs tc) (he:∀C,PE ((qP X N scope C s H pins fp).wish (eV X N scope C s H pins fp RX)) elt te)
  (hq:∀D,H D=none->zG D J g tc te (cap σ) H (Q D))
  (hRR:∀D C σc H' s',s.heap.objs.size<=C->Inv (qP X N scope C s H pins fp) [] σc H' s'->Q D H'->RR (.ref D) C (.ok .next) s')
  (hRE:∀D C e s',s.heap.objs.size<=C->eV X N scope C s H pins fp RX e s'->wpAny (model X.prog X.w) X.A (noteFrame e (compEnvC scope (yM X.env.cells scope.names []) C X.env)) (fun _ s''=>RR (.ref D) C (.error e) s'') (fun e' s''=>RR (.ref D) C (.error e') s'') s') :
  wpAny (model X.prog X.w) X.A (newList []) (fun acc s₃=>wpAny (model X.prog X.w) X.A (newFunctionEnv scope X.env.globals (yM X.env.cells scope.names []) [] X.env.qual none .none (some X.env)) (fun cenv s₄ =>
   codeAny (model X.prog X.w) X.A (.compStart (.ListComp elt [⟨tg,iter,ifs,0⟩] scope pos) 0 (.ref it) acc {cenv with scope:=relabel scope X.env}) (RR acc cenv.locals) s₄) X.xe s₃) X.xe s:=by
 refine ic (wpAny_newFunctionEnv S.nocell (by intro y hy;simp at hy) (fun h₁ hns₁ hsb₁=>?_) S.kind)
 dsimp only at hns₁ hsb₁ ⊢
 generalize hH2:s.heap.push {cls:=.type "list",dict:=none,data:=.seq ([]:List Value).toArray}=H2 at hns₁ hsb₁ ⊢;have hC:H2.objs.size=s.heap.objs.size+1:=by rw [<- hH2,cb]
 have hDC:s.heap.objs.size≠H2.objs.size:=by rw [hC];exact aM (ik _)
 have hCle:s.heap.objs.size<=H2.objs.size:=by rw [hC];exact Nat.le_succ _
 have below:∀b,b<s.heap.objs.size->b≠H2.objs.size:=fun b hb=>by rw [hC];exact aM (Nat.lt_succ_of_lt hb)
 have old:∀b o,s.heap.get? b=some o->h₁.get? b=some o:=fun b o e=>hsb₁.extBut b o (below b (ar e)) (ai _ (hH2▸ai _ e))
 have hacc:h₁.get? s.heap.objs.size=some {cls:=.type "list",data:=.seq ([]:List Value).toArray}:=hsb₁.extBut _ _ hDC (ai _ (hH2▸aq _ rfl));have obj0:=T.obj 0 s.heap st;have I1:∀t',Inv (qP X N scope H2.objs.size s H pins fp) [] (cap σ) (upd H s.heap.objs.size (.lst [])) {s with heap:=h₁,toks:=t'}:=fun t' =>
  TV S I hcap hf (fun b hb=>let ⟨o,e,_⟩:=obj0 b hb;⟨o,e⟩) (aj _) hCle hDC old hns₁ hacc
 have st1:tn 0 h₁:=T.keep 0 s.heap h₁ st fun b _ o e=>old b o e
 have stat:∀{H':Hp},(∀b∈fp,H' b=none)->∀b∈fp,JG (qP X N scope H2.objs.size s H pins fp) [] H' b:=fun hn b hb=>by
  obtain ⟨_,h2,h3,h4,h5,h6⟩:=hf b hb;obtain ⟨o,ho,_⟩:=obj0 b hb;refine ⟨hn b hb,below b (ar ho),?_,.inl hb,fun x c e=>h5 x c (lJ (fR S I) (fun y d q=>by simp at q) e),fun p hp=>?_⟩
  ·intro z
   rcases ao.mp (I.stkSub b z) with e|e
   ·exact h2 e
   ·exact h3 e
  ·rcases ba.mp hp with z|z
   ·exact h6 p z
   ·cases z
 have fr1:∀b∈fp,upd H s.heap.objs.size (.lst []) b=none:=fun b hb=>by
  obtain ⟨o,ho,_⟩:=obj0 b hb;rw [jP (aM (ar ho))];exact (hf b hb).1
 obtain ⟨W,⟨m0,w0⟩,turn⟩:=hq s.heap.objs.size (I.hok.fresh (aj _));have loop:∀s₃:Shared,s₃={s with heap:=h₁,toks:=s.toks+([]:List (Str×Value)).length}->
   codeAny (model X.prog X.w) X.A (.compLoop (.ListComp elt [⟨tg,iter,ifs,0⟩] scope pos) 0 (.ref it) (.ref s.heap.objs.size) (compEnvC scope (yM X.env.cells scope.names []) H2.objs.size X.env))
    (RR (.ref s.heap.objs.size) H2.objs.size) s₃:=by
  rintro s₃ rfl;refine PM (fun n s'=>∃i σ' H',Inv (qP X N scope H2.objs.size s H pins fp) [] σ' H' s'/\tn i s'.heap/\(∀b∈fp,H' b=none)/\W i n σ' H') ?_ m0 ⟨0,cap σ,_,I1 _,st1,fr1,w0⟩;rintro n s3 ⟨i,σ3,H3,I3,st3,fr3,w3⟩
  rcases turn i n σ3 H3 w3 with ⟨stop,qn⟩|⟨go,Nn,hN,step⟩
  ·refine jW (T.done (qP X N scope H2.objs.size s H pins fp) rfl rfl rfl hcalm i [] s3 σ3 H3 (fun _ _=>False) I3 (stat fr3) st3 stop) fun r s4 ⟨hr,I4⟩=>?_
   subst hr;exact hRR _ _ σ3 H3 s4 hCle I4 qn
  ·refine jW (T.item (qP X N scope H2.objs.size s H pins fp) rfl rfl rfl hcalm i [] s3 σ3 H3 (fun _ _=>False) I3 (stat fr3) st3 go) fun r s4 ⟨u,hr,h4⟩=>?_
   subst hr;refine jW h4 fun _ s5 ⟨x,H5,I5,r5,y5,st5,fr5⟩=>?_
   have I5':=I5.pinned (stat fr5) (T.obj _ _ st5);have again:∀{σ7:St} {H7:Hp} {s7:Shared},Inv (qP X N scope H2.objs.size s H pins fp) ([]++gH fp s5.heap) σ7 H7 s7->Nn σ7 H7->
     ∃m,m<n/\∃i σ' H',Inv (qP X N scope H2.objs.size s H pins fp) [] σ' H' s7/\tn i s7.heap/\(∀b∈fp,H' b=none)/\W i m σ' H':=fun {σ7 H7 s7} I7 n7=>by
    obtain ⟨m',hm,w7⟩:=hN σ7 H7 n7;refine ⟨m',hm,i+1,σ7,H7,I7.unpinned,T.keep _ _ _ st5 fun b hb o e=>(I7.pin (b,o) (bd _ (bd _ (lL hb e)))).1,fun b hb=>?_,w7⟩;obtain ⟨o,e,d⟩:=T.obj _ _ st5 b hb;exact (I7.pin (b,o) (bd _ (bd _ (lL hb e)))).2.1
   refine jW (hg _ _ s5 σ3 H5 x u _ I5' r5 (step x H5 y5)) fun _ s6 ⟨σ6,H6,I6,q6⟩=>?_
   refine jW (hc _ _ s6 σ6 H6 _ I6 q6) fun ok s7 ⟨H7,I7,q7⟩=>?_
   cases ok with
   |false=>exact again I7 q7
   |true =>
    refine cg (he _ _ s7 σ6 H7 _ (I7.wish _) q7) (fun v s8 ⟨y,H8,I8,r8,xs,hD8,hz8,n8⟩=>?_) fun e se hx=>hRE _ _ e se hCle hx
    have I8:=I8.unwish;refine jW (zE _ s8 σ6 H8 (.ref s.heap.objs.size) [y] (.ref s.heap.objs.size) [v] (fun _ H9=>Nn σ6 H9) I8 rfl (.cons r8 .nil) ⟨_,_,_,rfl,rfl,hD8,hz8,n8⟩) fun _ s9 ⟨_,H9,I9,_,n9⟩=>?_
    exact again I9 n9
 exact codeAny_compStart_list (loop _ rfl) (cg (T.self X.A 0 _ (fun v s'=>v=.ref it/\s'=_) (fun _ _=>False) st1 ⟨rfl,rfl⟩) (fun v s' ⟨e1,e2⟩=>by subst e1;subst e2;exact loop _ rfl) fun _ _ z=>z.elim)
end
section
variable {P:Program} {w:World} {K:PySem.W.Frag} {mg:Str->Option Value} {base:Heap} {Nf:List Str} {qual:Str} {scf:Scope} {f:Addr} {cd:Value} {A:Around} {outer:List Env} {s₀:Shared} {H₀:Hp} {E:XK}
theorem SS {tg iter elt:Expr} {ifs:List Expr} {scope:Scope} {pos:Pos} {wi:TI} {g:TG} {tc:TT} {te:TE} (N:List Str) (cap:St->St) (S:CompScope (qC (kA P w) P w K mg base Nf qual scf f cd A outer s₀ H₀ E) scope) (hcap:ZT (qC (kA P w) P w K mg base Nf qual scf f cd A outer s₀ H₀ E) N scope cap) (hi:PI (qC (kA P w) P w K mg base Nf qual scf f cd A outer s₀ H₀ E) tg iter wi)
  (hg:∀C s H pins fp,PG (qP (qC (kA P w) P w K mg base Nf qual scf f cd A outer s₀ H₀ E) N scope C s H pins fp) tg g) (hc:∀C s H pins fp,cY (qP (qC (kA P w) P w K mg base Nf qual scf f cd A outer s₀ H₀ E) N scope C s H pins fp) ifs tc)
  (he:∀C s H pins fp,PE ((qP (qC (kA P w) P w K mg base Nf qual scf f cd A outer s₀ H₀ E) N scope C s H pins fp).wish (eV (qC (kA P w) P w K mg base Nf qual scf f cd A outer s₀ H₀ E) N scope C s H pins fp fun c H'=>E c none H')) elt te)
  (hs:∀x,foldedSetIterable iter (qC (kA P w) P w K mg base Nf qual scf f cd A outer s₀ H₀ E).env x=pure x:=by intro _;rfl):PE (qC (kA P w) P w K mg base Nf qual scf f cd A outer s₀ H₀ E) (.ListComp elt [⟨tg,iter,ifs,0⟩] scope pos) (mS wi cap g tc te):=by
 intro pins s σ H Q I h;rw [eval_ListComp];refine gx (use:=none) rfl hs (sW (fR S I)) S.kind S.names (jW (hi pins s σ H _ I h) fun v s1 h1=>jW h1 fun itv s2 h2=>?_);obtain ⟨it,fp,tn,J,H2,e,I2,T,st2,f2,q2⟩:=h2;subst e;refine uA (RR:=fun acc C=>compPost (model P w) (A.deeper (envOfC qual scf s₀.heap.objs.size f cd)) (qC (kA P w) P w K mg base Nf qual scf f cd A outer s₀ H₀ E).xe none (EP (qC (kA P w) P w K mg base Nf qual scf f cd A outer s₀ H₀ E) pins σ Q) acc C) (Q:=fun D H'=>Q (.ref D) H') rfl S hcap I2 T st2 f2 (fun C=>hg C _ _ _ _) (fun C=>hc C _ _ _ _) (fun C=>he C _ _ _ _) q2 ?_ ?_
 ·intro D C σc H' s' hC Jc q;obtain ⟨m,hn,_⟩:=Jc.loc;refine ⟨m,hn,fun h' hs'=>?_⟩;exact ⟨.ref D,H',uL I2 hC (lS (σ':=σ) I2 f2 Jc) Jc.free hs',rfl,q⟩
 ·intro D C e s' hC hx;exact TW I2 f2 hC hx _
end
section
variable {X:Cx}
def qE (z:Str) (k:Nat):Str:=⟨(List.replicate k z.cps).foldl (·++·) #[]⟩
theorem DP (a:Array Nat):∀(k:Nat) (acc:Array Nat),((List.replicate k a).foldl (·++·) acc).toList=acc.toList++(List.replicate k a.toList).flatten
 |0,acc=>by simp
 |k+1,acc=>by rw [bn,List.foldl_cons,DP a k,bn,fg,Array.toList_append,fh]
theorem uG (z:Str) (k:Nat):(qE z k).cps.toList=(List.replicate k z.cps.toList).flatten:=by
 unfold qE;rw [DP];rfl
theorem lX (z:Str) (k:Nat):(qE z k).length=k*z.length:=by
 show (qE z k).cps.size=k*z.cps.size;rw [<- gt,uG,EN,gt]
def WZ:R2:=fun x y H Q=>∃(z:Str) (k:Int),x=.str z/\y=.int k/\0<=k/\k<=100/\z.length<=100/\Q (.str (qE z k.toNat)) H
theorem uT:qM X (binaryOp .Mult) WZ:=by
 intro pins s σ H x y v u Q I rx ry h;obtain ⟨z,k,rfl,rfl,h0,h1,hz,q⟩:=h;obtain ⟨t,rfl⟩:=rx;obtain ⟨t',rfl⟩:=ry;have hm:z.length*k.toNat<=10000:=aK (Nat.mul_le_mul hz (show k.toNat<=100 by lia)) (aj _);refine P.mul_str ?_ (fun h2 _=>?_) (fun _ _=>?_) ?_
 ·rw [aH (by lia),aH (by lia)];rfl
 ·have:(100:Int)<=(2 ^ 63 - 1) / k:=by
   rw [Int.le_ediv_iff_mul_le (by lia)]
   lia
  lia
 ·exact aH (Nat.not_lt.mpr (aK hm (by decide)))
 ·by_cases h2:k<1
  ·rw [if_pos h2];have e:k.toNat=0:=by lia
   rw [e] at q;exact ⟨by decide,.str (qE z 0),H,I.tok _,⟨_,rfl⟩,q⟩
  ·rw [if_neg h2]
   by_cases h3:(k == 1||z.length == 0)=true
   ·rw [if_pos h3];have e:qE z k.toNat=z:=by
     have:(qE z k.toNat).cps.toList=z.cps.toList:=by
      rw [uG]
      rcases Bool.or_eq_true_iff.mp h3 with h|h
      ·rw [show k.toNat=1 by have:=eq_of_beq h;lia];simp
      ·have h:z.cps.size=0:=eq_of_beq h;rw [Array.eq_empty_of_size_eq_zero h];simp
     cases hr:qE z k.toNat with
     |mk a=>rw [hr] at this;obtain ⟨b⟩:=z;exact bz Str.mk (Array.toList_inj.mp this)
    rw [e] at q;exact ⟨.str z,H,I,⟨_,rfl⟩,q⟩
   ·rw [if_neg h3];exact ⟨by show (qE z k.toNat).length<=sizeLine;rw [lX,Nat.mul_comm];exact aK hm (by decide),.str (qE z k.toNat),H,I.tok _,⟨_,rfl⟩,q⟩
end
section
variable {P:Program} {w:World} {K:PySem.W.Frag} {mg:Str->Option Value} {base:Heap}
theorem Fun.ok2 {x qual:Str} {st:Stmt} {f:Addr} {fd:FuncData} {N ps:List Str} {k:Nat} {sp:Sp} (F:Fun K x qual st f fd) (S:FnScope N ps (j8 st))
  (h:∀vs H Q E,sp vs H Q E->vs.length=ps.length/\∀cdv A outer s,Room k (A.deeper (envOfC qual (j8 st) s.heap.objs.size f cdv))->∃t,PSs (qC jX P w K mg base N qual (j8 st) f cdv A outer s H E).nox (qT st) t/\t {nx:=fun _ H'=>Q .non H',rt:=Q} (start N vs) H):FnOk P w K mg base jX (k+1) f fd ps sp :=
 F.ok S (fun vs H Q E z=>(h vs H Q E z).1) fun cdv A outer s H vs Q E r z=>(h vs H Q E z).2 cdv A outer s r
theorem Fun.okX2 {x qual:Str} {st:Stmt} {f:Addr} {fd:FuncData} {N ps:List Str} {k:Nat} {sp:Sp} (F:Fun K x qual st f fd) (S:FnScope N ps (j8 st))
  (h:∀vs H Q E,sp vs H Q E->vs.length=ps.length/\∀cdv A outer s,Room k (A.deeper (envOfC qual (j8 st) s.heap.objs.size f cdv))->∃t,PSs (qC (kA P w) P w K mg base N qual (j8 st) f cdv A outer s H E) (qT st) t/\t {nx:=fun _ H'=>Q .non H',rt:=Q} (start N vs) H):FnOk P w K mg base (kA P w) (k+1) f fd ps sp :=
 F.okX S (fun vs H Q E z=>(h vs H Q E z).1) fun cdv A outer s H vs Q E r z=>(h vs H Q E z).2 cdv A outer s r
theorem FunD.ok2 {x qual:Str} {st:Stmt} {f:Addr} {fd:FuncData} {ds:List Value} {N ps:List Str} {k:Nat} {sp:Sp} (F:FunD K x qual st f fd ds) (S:FnScope N ps (j8 st))
  (h:∀vs H Q E,sp vs H Q E->vs.length=ps.length/\∀cdv A outer s,Room k (A.deeper (envOfC qual (j8 st) s.heap.objs.size f cdv))->∃t,PSs (qC jX P w K mg base N qual (j8 st) f cdv A outer s H E).nox (qT st) t/\t {nx:=fun _ H'=>Q .non H',rt:=Q} (start N vs) H):FnOk P w K mg base jX (k+1) f fd ps sp :=
 F.ok S (fun vs H Q E z=>(h vs H Q E z).1) fun cdv A outer s H vs Q E r z=>(h vs H Q E z).2 cdv A outer s r
theorem gM {x:Str} {f:Addr} {fd:FuncData} {ps:List Str} {k:Nat} {sp:Sp} (G:FnOk P w K mg base jX k f fd ps sp) (m:mg x=some (.ref f)) (kp:PySem.W.keepIn K (.ref f)=true) (b:Binds K fd ps []):Def P w K mg base k x ps [] sp:=⟨_,_,[],G,m,kp,.nil,b⟩
theorem mL {x:Str} {f:Addr} {fd:FuncData} {ps:List Str} {k:Nat} {sp:Sp} (G:FnOk P w K mg base (kA P w) k f fd ps sp) (m:mg x=some (.ref f)) (kp:PySem.W.keepIn K (.ref f)=true) (b:Binds K fd ps []):DefX P w K mg base k x ps [] sp:=⟨_,_,[],G,m,kp,.nil,b⟩
end
section
variable {X:Cx} {a b:Expr} {ta tb:TE} {r:R2} {pos:Pos}
theorem jH (hr:IxR X r) (ha:PE X a ta) (hb:PE X b tb) (hs:EY b:=by exact fun _ _=>rfl):PE X (.Subscript a b pos) (cX r ta tb):=GZ hr ha hb hs
theorem zV {op:CmpOp} (ho:qM X (compareOp op) r) (ha:PE X a ta) (hb:PE X b tb) (hm:behindInMarks op b=false:=by first|exact xY _|with_unfolding_all rfl):PE X (.Compare a [op] [b] pos) (cX r ta tb):=UM ho ha hb hm
theorem j5 {op:CmpOp} (ho:qM X (compareOp op) r) (ha:PE X a ta) (hb:PE X b tb) (hm:behindInMarks op b=false:=by first|exact xY _|with_unfolding_all rfl):PT X (.Compare a [op] [b] pos) (FO (cX r ta tb)):=GY ho ha hb hm
end
theorem so {K:PySem.W.Frag} {H:Hp} {a:Addr} {xs:List V} (h:H a=some (.lst xs)):SqL K H a xs:=SqL.of h
section
variable {X:Cx} {N:List Str} {scope:Scope} {pins:List (Addr×Obj)} {σ:St} {H:Hp} {s:Shared} {fp:List Addr}
theorem noX {C:Addr} {e:Value} {s':Shared} {p:Prop} (h:eV X N scope C s H pins fp (fun _ _=>False) e s'):p:=by
 obtain ⟨_,_,_,_,_,h⟩:=h;obtain ⟨_,_,_,_,_,_,_,_,_,_,_,z⟩:=h;exact z.elim
theorem JM {tg iter elt:Expr} {ifs:List Expr} {pos:Pos} {wi:TI} {g:TG} {tc:TT} {te:TE} (N:List Str) (cap:St->St) (hcalm:X.calm=true) (S:CompScope X scope) (hcap:ZT X N scope cap) (hi:PI X tg iter wi)
  (hg:∀C s H pins fp,PG (qP X N scope C s H pins fp) tg g) (hc:∀C s H pins fp,cY (qP X N scope C s H pins fp) ifs tc) (he:∀C s H pins fp,PE (qP X N scope C s H pins fp) elt te)
  (hs:∀x,foldedSetIterable iter X.env x=pure x:=by intro _;rfl):PE X (.ListComp elt [⟨tg,iter,ifs,0⟩] scope pos) (mS wi cap g tc te):=by
 intro pins s σ H Q I h;rw [eval_ListComp];refine gx (use:=none) rfl hs (sW (fR S I)) S.kind S.names (jW (hi pins s σ H _ I h) fun v s1 h1=>jW h1 fun itv s2 h2=>?_);obtain ⟨it,fp,tn,J,H2,e,I2,T,st2,f2,q2⟩:=h2;subst e;refine uA (RX:=fun _ _=>False) (RR:=fun acc C=>compPost (model X.prog X.w) X.A X.xe none (EP X pins σ Q) acc C) (Q:=fun D H'=>Q (.ref D) H') hcalm S hcap I2 T st2 f2 (fun C=>hg C _ _ _ _) (fun C=>hc C _ _ _ _) (fun C=>PE.nox (he C _ _ _ _)) q2 ?_ (fun _ _ _ _ _ hx=>noX hx);intro D C σc H' s' hC Jc q;obtain ⟨m,hn,_⟩:=Jc.loc;refine ⟨m,hn,fun h' hs'=>?_⟩;exact ⟨.ref D,H',uL I2 hC (lS (σ':=σ) I2 f2 Jc) Jc.free hs',rfl,q⟩
theorem ZZ {tg iter elt:Expr} {ifs:List Expr} {pos spos py:Pos} {i:Nat} {y:Str} {wi:TI} {g:TG} {tc:TT} {te:TE} (N:List Str) (cap:St->St) (hN:X.N.Nodup) (hy:X.N[i]?=some y) (hloc:fE X.env.scope y) (hcalm:X.calm=true) (S:CompScope X scope) (hcap:ZT X N scope cap) (hi:PI X tg iter wi)
  (hg:∀C s H pins fp,PG (qP X N scope C s H pins fp) tg g) (hc:∀C s H pins fp,cY (qP X N scope C s H pins fp) ifs tc) (he:∀C s H pins fp,PE (qP X N scope C s H pins fp) elt te)
  (hsw:swapsWith (.ListComp elt [⟨tg,iter,ifs,0⟩] scope pos) (some (.Name y py)) spos.line X.env=pure true:=by rfl)
  (hs:∀x,foldedSetIterable iter X.env x=pure x:=by intro _;rfl) (hfn:X.fn y=true\/X.env.scope.names.lookup y=some .local:=by first|exact .inl rfl|exact .inr rfl|assumption) :
  PS X (.Assign [.Name y py] (.ListComp elt [⟨tg,iter,ifs,0⟩] scope pos) spos) (SI i wi cap g tc te):=by
 intro pins s σ H D I h;rw [exec_Assign_Name_used _ _ _ _ hsw];refine ae (wpAny_standAt (ae ?_));show wpAny _ X.A (do let _ <- comprehension (.ListComp elt [⟨tg,iter,ifs,0⟩] scope pos) scope X.env _ (newList []) false (eval iter X.env) (some (assign (.Name y py) X.env))) _ _ s;refine ae (cg (gx (use:=some (assign (.Name y py) X.env)) (Q:=fun _ s'=>SP X pins D .next s') rfl hs (sW (fR S I)) S.kind S.names
  (jW (hi pins s σ H _ I h) fun v s1 h1=>jW h1 fun itv s2 h2=>?_)) (fun _ s' hq=>aJ (aJ hq)) fun _ _ e=>e)
 obtain ⟨it,fp,tn,J,H2,e,I2,T,st2,f2,q2⟩:=h2;subst e;refine uA (RX:=fun _ _=>False) (RR:=fun acc C=>compPost (model X.prog X.w) X.A X.xe (some (assign (.Name y py) X.env)) (fun _ s'=>SP X pins D .next s') acc C) (Q:=fun d H'=>D.nx (σ.set i (some (.ref d))) H') hcalm S hcap I2 T st2 f2 (fun C=>hg C _ _ _ _) (fun C=>hc C _ _ _ _) (fun C=>PE.nox (he C _ _ _ _)) q2 ?_ (fun _ _ _ _ _ hx=>noX hx);intro d C σc H' s' hC Jc q;obtain ⟨m,hn,_⟩:=Jc.loc;have J1:Inv X pins σ H' s':=lS (σ':=σ) I2 f2 Jc;show wpAny _ X.A (assign (.Name y py) X.env (.ref d)) _ _ _;refine wpAny_assign_Name (BV (v:=.ref d) J1 hN hy hloc rfl (fun s'' J2 hsb=>?_) hfn);obtain ⟨a,sb,ha⟩:=hsb;have haC:C≠a:=by
  rcases ha with e|e
  ·rw [e];exact dg (aA I2.lt hC)
  ·obtain ⟨v,q'⟩:=I2.cell y a e;exact dg (aA q'.lt hC)
 refine ⟨m,hn.sameBut sb haC,fun h' hs'=>?_⟩;exact ⟨_,H',uL I2 hC J2 Jc.free hs',q⟩
end
theorem jR {N P:List Str} {sc:Scope} (a:sc.kind=.function:=by rfl) (b:sc.isCoroutine=false:=by rfl) (c:sc.isGenerator=false:=by rfl) (d:N.Nodup:=by decide +kernel) (e:N.take P.length=P:=by rfl)
  (f:∀x∈P,sc.names.lookup x=some .local\/sc.names.lookup x=some .cell:=by decide +kernel) (g:∀y∈sc.names,y.2≠.free:=by decide +kernel):FnScope N P sc:=⟨a,b,c,d,e,f,g⟩
theorem qX {X:Cx} {scope:Scope} (sc:Scope) (a:X.env.scope=sc:=by rfl) (b:scope.kind=.function:=by rfl) (c:∀y∈scope.names,y.2≠.cell:=by decide +kernel) (d:∀y∈scope.names,y.2=.local->scope.names.lookup y.1=some .local:=by decide +kernel)
  (e:∀y∈scope.names,y.2=.free->sc.names.lookup y.1=some .cell\/sc.names.lookup y.1=some .free:=by decide +kernel):CompScope X scope:=HD sc a b c d e
theorem cps {X:Cx} {N:List Str} {scope:Scope} (n:Nat) (js:List Nat) (a:N.length=n+js.length:=by rfl) (b:js.map (fun j=>X.N[j]?)=(N.drop n).map some:=by rfl) (c:∀x∈N.drop n,scope.names.lookup x=some .free:=by decide +kernel):ZT X N scope (qW n js):=HE n js a b c
inductive GK where
 |i (n:Int)
 |s (t:Str)
 |nil
 |cons (a b:GK)
 deriving DecidableEq
section
variable {prog:Program} {w:World} {E:Value->Shared->Prop}
end
section
variable {s:Shared}
end
section
variable {prog:Program} {w:World} {E:Value->Shared->Prop} {s:Shared}
abbrev xW:=GK×Value×Value
end
section
variable {prog:Program} {w:World} {A:Around} {E:Value->Shared->Prop} {s:Shared}
end
section
variable {prog:Program} {w:World} {A:Around} {E:Value->Shared->Prop} {s:Shared} {d:Addr} {xs:List xW} {k:GK} {key v:Value}
end
section
variable {P:Program} {w:World} {H:Hp} {h:Heap}
end
abbrev GW:=GK×V×V
section
variable {X:Cx} {pins:List (Addr×Obj)} {σ:St} {H:Hp} {s:Shared} {d:Addr} {k:GK} {y v:V} {u r:Value} {A:Around} {E:Value->Shared->Prop} {kvs:List GW}
end
section
variable {X:Cx} {o i e value:Expr} {pos pos':Pos} {td ty tv:TE}
end
section
variable {X:Cx} {pins:List (Addr×Obj)} {σ:List (Option V)} {H:Hp} {s:Shared}
end
def kX (H:Hp) (cs:List Addr):Hp:=fun b=>if b∈cs then none else H b
theorem Z8 {H:Hp} {cs:List Addr} {b:Addr} (h:b∈cs):kX H cs b=none:=if_pos h
theorem yO {H:Hp} {cs:List Addr} {b:Addr} (h:b∉cs):kX H cs b=H b:=if_neg h
section
variable {P:Program} {w:World} {H H' HC:Hp} {h h':Heap} {cs fs:List Addr}
end
section
variable {CX:yL} {P:Program} {w:World} {K:PySem.W.Frag} {mg:Str->Option Value} {base:Heap} {N ps fr:List Str} {qual:Str} {params:Arguments} {body:List Stmt} {scope:Scope} {f:Addr} {cdv:Value} {fd:FuncData} {cl:List (Str×Addr)} {A:Around} {outer:List Env} {s:Shared} {H:Hp} {E:XK} {Q:VK} {us:List Value} {vs fvs:List V} {k:Nat} {args:Args}
end
section
variable {X:Cx} {CX:yL} {k:Nat} {sp:Addr->Sp} {E:XK} {x:Str} {p pos:Pos} {e:Expr} {es:List Expr} {t:TA} {i:Nat}
end
section
variable {X:Cx} {k k':Nat} {f:Addr} {fd:FuncData} {ps:List Str} {sp:Sp} {dvs:List V} {ds:List Value} {x:Str} {p pos:Pos} {e:Expr} {es:List Expr} {t:TA} {cs:List (Nat×Addr)}
end
section
variable {X:Cx} {pins:List (Addr×Obj)} {σ:List (Option V)} {H:Hp} {s:Shared}
end
section
variable {P:Program} {w:World} {K:PySem.W.Frag} {mg:Str->Option Value} {base:Heap}
end
section
variable {prog:Program} {w:World} {A:Around} {E:Value->Shared->Prop} {s:Shared} {d:Addr} {xs:List xW} {k:GK} {key v:Value}
end
section
variable {X:Cx} {pins:List (Addr×Obj)} {σ:St} {H:Hp} {s:Shared} {d:Addr} {k:GK} {y v:V} {u r:Value} {A:Around} {E:Value->Shared->Prop} {kvs:List GW}
end
section
variable {X:Cx} {o i e value:Expr} {pos pos':Pos} {td ty tv:TE}
end
section
variable {X:Cx} {o i:Expr} {pos:Pos} {td ty:TE}
end
section
variable {X:Cx} {pins:List (Addr×Obj)} {σ:St} {H:Hp} {s:Shared}
end
section
variable {prog:Program} {w:World} {A:Around} {s:Shared} {E:Value->Shared->Prop}
end
section
variable {X:Cx}
end
section
variable {prog:Program} {w:World} {A:Around} {E:Value->Shared->Prop} {s:Shared} {d it:Addr} {xs:List xW} {o:Obj} {es:Array DictEntry} {i ep:Nat}
end
section
variable {X:Cx} {tg:Expr}
end
section
variable {X:Cx} {pins:List (Addr×Obj)} {σ:St} {H:Hp} {s:Shared}
end
section
variable {M:Model} {A:Around} {E:Value->Shared->Prop} {s:Shared}
end
section
variable {P:Program} {w:World} {H H':Hp} {h:Heap} {cs:List Addr}
end
section
variable {CX:yL} {P:Program} {w:World} {K:PySem.W.Frag} {mg:Str->Option Value} {base:Heap} {N fr:List Str} {x:Str} {b:Bool} {qual:Str} {params:Arguments} {body:Expr} {scope:Scope} {f:Addr} {cdv:Value} {cl:List (Str×Addr)} {A:Around} {outer:List Env} {s:Shared} {H:Hp} {E:XK} {Q:VK} {u:Value} {v:V} {fvs:List V} {k:Nat} {args:Args}
end
section
variable {X:Cx} {pins:List (Addr×Obj)} {σ:List (Option V)} {H:Hp} {s:Shared}
end
variable {P:List Value->Prop}
theorem fB (h:P []):∀us:List Value,us.length=0->P us
 |[],_=>h
theorem nW (h:∀a0,P [a0]) (us:List Value) (hl:us.length=1):P us:=by
 cases us with
 |nil=>cases hl
 |cons a us=>exact fB (P:=fun l=>P (a::l)) (h a) us (gy hl)
theorem J9 (h:∀a0 a1,P [a0,a1]) (us:List Value) (hl:us.length=2):P us:=by
 cases us with
 |nil=>cases hl
 |cons a us=>exact nW (P:=fun l=>P (a::l)) (fun a1=>h a a1) us (gy hl)
theorem gX (h:∀a0 a1 a2,P [a0,a1,a2]) (us:List Value) (hl:us.length=3):P us:=by
 cases us with
 |nil=>cases hl
 |cons a us=>exact J9 (P:=fun l=>P (a::l)) (fun a1 a2=>h a a1 a2) us (gy hl)
theorem nV (h:∀a0 a1 a2 a3,P [a0,a1,a2,a3]) (us:List Value) (hl:us.length=4):P us:=by
 cases us with
 |nil=>cases hl
 |cons a us=>exact gX (P:=fun l=>P (a::l)) (fun a1 a2 a3=>h a a1 a2 a3) us (gy hl)
theorem xM (h:∀a0 a1 a2 a3 a4,P [a0,a1,a2,a3,a4]) (us:List Value) (hl:us.length=5):P us:=by
 cases us with
 |nil=>cases hl
 |cons a us=>exact nV (P:=fun l=>P (a::l)) (fun a1 a2 a3 a4=>h a a1 a2 a3 a4) us (gy hl)
theorem xK (h:∀a0 a1 a2 a3 a4 a5,P [a0,a1,a2,a3,a4,a5]) (us:List Value) (hl:us.length=6):P us:=by
 cases us with
 |nil=>cases hl
 |cons a us=>exact xM (P:=fun l=>P (a::l)) (fun a1 a2 a3 a4 a5=>h a a1 a2 a3 a4 a5) us (gy hl)
theorem YK (h:∀a0 a1 a2 a3 a4 a5 a6,P [a0,a1,a2,a3,a4,a5,a6]) (us:List Value) (hl:us.length=7):P us:=by
 cases us with
 |nil=>cases hl
 |cons a us=>exact xK (P:=fun l=>P (a::l)) (fun a1 a2 a3 a4 a5 a6=>h a a1 a2 a3 a4 a5 a6) us (gy hl)
end L2
namespace L2
open PySem PySem.Spec PyProof.Rows
section
variable {CX:yL} {P:Program} {w:World} {K:PySem.W.Frag} {mg:Str->Option Value} {base:Heap} {N fr:List Str} {x:Str} {b:Bool} {qual:Str} {params:Arguments} {body:List Stmt} {scope:Scope} {f:Addr} {cdv:Value} {cl:List (Str×Addr)} {A:Around} {outer:List Env} {s:Shared} {H:Hp} {E:XK} {Q:VK} {u:Value} {v:V} {fvs:List V} {k:Nat} {args:Args} {fd:FuncData}
end
section
variable {X:Cx}
end
section
variable {X:Cx} {a b c d e f g h:Expr} {ta tb tc td te tf tg th:TE}
theorem j9 (h1:PE X a ta) (h2:PE X b tb) (h3:PE X c tc) (s1:starEach [a,b,c] X.env=(false,eval a X.env)::starEach [b,c] X.env:=by rfl) (s2:starEach [b,c] X.env=(false,eval b X.env)::starEach [c] X.env:=by rfl) (s3:starEach [c] X.env=(false,eval c X.env)::starEach [] X.env:=by rfl):PA X [a,b,c] (vW ta (vW tb (vW tc bK))):=jB h1 (jB h2 (jB h3 jD s3) s2) s1
theorem yB (h1:PE X a ta) (h2:PE X b tb) (h3:PE X c tc) (h4:PE X d td) (s1:starEach [a,b,c,d] X.env=(false,eval a X.env)::starEach [b,c,d] X.env:=by rfl) (s2:starEach [b,c,d] X.env=(false,eval b X.env)::starEach [c,d] X.env:=by rfl) (s3:starEach [c,d] X.env=(false,eval c X.env)::starEach [d] X.env:=by rfl) (s4:starEach [d] X.env=(false,eval d X.env)::starEach [] X.env:=by rfl):PA X [a,b,c,d] (vW ta (vW tb (vW tc (vW td bK)))):=jB h1 (jB h2 (jB h3 (jB h4 jD s4) s3) s2) s1
theorem fC (h1:PE X a ta) (h2:PE X b tb) (h3:PE X c tc) (h4:PE X d td) (h5:PE X e te) (s1:starEach [a,b,c,d,e] X.env=(false,eval a X.env)::starEach [b,c,d,e] X.env:=by rfl) (s2:starEach [b,c,d,e] X.env=(false,eval b X.env)::starEach [c,d,e] X.env:=by rfl) (s3:starEach [c,d,e] X.env=(false,eval c X.env)::starEach [d,e] X.env:=by rfl) (s4:starEach [d,e] X.env=(false,eval d X.env)::starEach [e] X.env:=by rfl) (s5:starEach [e] X.env=(false,eval e X.env)::starEach [] X.env:=by rfl):PA X [a,b,c,d,e] (vW ta (vW tb (vW tc (vW td (vW te bK))))):=jB h1 (jB h2 (jB h3 (jB h4 (jB h5 jD s5) s4) s3) s2) s1
theorem YU (h1:PE X a ta) (h2:PE X b tb) (h3:PE X c tc) (h4:PE X d td) (h5:PE X e te) (h6:PE X f tf) (s1:starEach [a,b,c,d,e,f] X.env=(false,eval a X.env)::starEach [b,c,d,e,f] X.env:=by rfl) (s2:starEach [b,c,d,e,f] X.env=(false,eval b X.env)::starEach [c,d,e,f] X.env:=by rfl) (s3:starEach [c,d,e,f] X.env=(false,eval c X.env)::starEach [d,e,f] X.env:=by rfl) (s4:starEach [d,e,f] X.env=(false,eval d X.env)::starEach [e,f] X.env:=by rfl) (s5:starEach [e,f] X.env=(false,eval e X.env)::starEach [f] X.env:=by rfl) (s6:starEach [f] X.env=(false,eval f X.env)::starEach [] X.env:=by rfl):PA X [a,b,c,d,e,f] (vW ta (vW tb (vW tc (vW td (vW te (vW tf bK)))))):=jB h1 (jB h2 (jB h3 (jB h4 (jB h5 (jB h6 jD s6) s5) s4) s3) s2) s1
theorem jN (i:Nat) {x:Str} {pos pos':Pos} (hN:X.N.Nodup) (he:PE X a ta) (hi:X.N[i]?=some x:=by rfl) (hx:fE X.env.scope x:=by first|exact .inl rfl|exact .inr rfl) (hs:swapsWith a (some (.Name x pos')) pos.line X.env=pure false:=by rfl) (hf:X.fn x=true\/X.env.scope.names.lookup x=some .local:=by first|exact .inl rfl|exact .inr rfl|assumption):PS X (.Assign [.Name x pos'] a pos) (w4 ta (QS i)):=HA hN hi hx he hs hf
theorem qF (K:PySem.W.Frag) {p pos:Pos} (hm:X.mg "len"=none) (ha:PE X a ta) (hK:X.K=K:=by rfl) (hg:Gl X "len":=by rfl) (he:starEach [a] X.env=(false,eval a X.env)::starEach [] X.env:=by rfl) (hpl:(backTo pos (starEach [] X.env)).any (·.1)=false:=by rfl):PE X (.Call (.Name "len" p) [a] [] pos) (xO (fun xs H Q=>∃p ys,xs=[.ref p]/\(SqL K H p ys\/SqT K H p ys)/\Q (.int ys.length) H) (vW ta bK)):=zW (N0 K hK) hg hm PySem.boot_len (jB ha jD he) (he:=he) (hpl:=hpl)
theorem jM {pos:Pos} (h:PE X a ta):PSs X [.Return (some a) pos] (GC ta):=kF (G7 h)
end
abbrev jS (n:Nat) (N:List Str) (st:Stmt):Prop:=FnScope N (N.take n) (j8 st)
abbrev j7 (K:PySem.W.Frag) (x:Str) (st:Stmt) (f:Addr) (fd:FuncData):Prop:=Fun K x x st f fd
abbrev j6 (K:PySem.W.Frag) (x:Str) (st:Stmt):Prop:=∃f fd,PySem.W.nsIn K mainGlobals x=some (some (.ref f))/\Fun K x x st f fd
section
variable {P:Program} {w:World} {K:PySem.W.Frag} {mg:Str->Option Value} {base h:Heap} {x q:Str} {st:Stmt} {f:Addr} {fd:FuncData} {k:Nat} {sp:Sp} {p0 p1 p2 p3 p4 p5 p6:Str}
theorem fnT_mk {oc:Value} {od an:Option Addr} {osl:Array (Option Value)} {kV doc pm cdv ct:Value} (a:PySem.W.nsIn K mainGlobals x=some (some (.ref f))) (l:K.lookup f=some ⟨oc,od,.func (PySem.W.fnOf x x (vH st) (qT st) (j8 st) .none kV doc pm an cdv ct),osl⟩) (c:PySem.W.codeIn K cdv x=true) (k:PySem.W.keepIn K (.ref f)=true):j6 K x st:=⟨_,_,a,iH l c k⟩
theorem gZ (X:K.In h) (G:h.Ns mainGlobals mg) (a:PySem.W.nsIn K mainGlobals x=some (some (.ref f))) (F:Fun K x q st f fd) (ok:FnOk P w K mg base jX k f fd [p0] sp) (hb:∀(kV doc pm:Value) (an:Option Addr) (cdv ct a0:Value),bindArgs (PySem.W.fnOf x q (vH st) (qT st) (j8 st) .none kV doc pm an cdv ct) ⟨[a0],[]⟩=pure ([p0].zip [a0]):=by intros;rfl):Def P w K mg base k x [p0] [] sp:=gM ok (aN X G a) F.kp (F.binds fun kV doc pm an cdv ct=>nW (hb kV doc pm an cdv ct))
theorem vP (X:K.In h) (G:h.Ns mainGlobals mg) (a:PySem.W.nsIn K mainGlobals x=some (some (.ref f))) (F:Fun K x q st f fd) (ok:FnOk P w K mg base jX k f fd [p0,p1] sp) (hb:∀(kV doc pm:Value) (an:Option Addr) (cdv ct a0 a1:Value),bindArgs (PySem.W.fnOf x q (vH st) (qT st) (j8 st) .none kV doc pm an cdv ct) ⟨[a0,a1],[]⟩=pure ([p0,p1].zip [a0,a1]):=by intros;rfl):Def P w K mg base k x [p0,p1] [] sp:=gM ok (aN X G a) F.kp (F.binds fun kV doc pm an cdv ct=>J9 (hb kV doc pm an cdv ct))
theorem yK (X:K.In h) (G:h.Ns mainGlobals mg) (a:PySem.W.nsIn K mainGlobals x=some (some (.ref f))) (F:Fun K x q st f fd) (ok:FnOk P w K mg base (kA P w) k f fd [p0,p1] sp) (hb:∀(kV doc pm:Value) (an:Option Addr) (cdv ct a0 a1:Value),bindArgs (PySem.W.fnOf x q (vH st) (qT st) (j8 st) .none kV doc pm an cdv ct) ⟨[a0,a1],[]⟩=pure ([p0,p1].zip [a0,a1]):=by intros;rfl):DefX P w K mg base k x [p0,p1] [] sp:=mL ok (aN X G a) F.kp (F.binds fun kV doc pm an cdv ct=>J9 (hb kV doc pm an cdv ct))
theorem zM (X:K.In h) (G:h.Ns mainGlobals mg) (a:PySem.W.nsIn K mainGlobals x=some (some (.ref f))) (F:Fun K x q st f fd) (ok:FnOk P w K mg base jX k f fd [p0,p1,p2] sp) (hb:∀(kV doc pm:Value) (an:Option Addr) (cdv ct a0 a1 a2:Value),bindArgs (PySem.W.fnOf x q (vH st) (qT st) (j8 st) .none kV doc pm an cdv ct) ⟨[a0,a1,a2],[]⟩=pure ([p0,p1,p2].zip [a0,a1,a2]):=by intros;rfl):Def P w K mg base k x [p0,p1,p2] [] sp:=gM ok (aN X G a) F.kp (F.binds fun kV doc pm an cdv ct=>gX (hb kV doc pm an cdv ct))
theorem xR (X:K.In h) (G:h.Ns mainGlobals mg) (a:PySem.W.nsIn K mainGlobals x=some (some (.ref f))) (F:Fun K x q st f fd) (ok:FnOk P w K mg base (kA P w) k f fd [p0,p1,p2] sp) (hb:∀(kV doc pm:Value) (an:Option Addr) (cdv ct a0 a1 a2:Value),bindArgs (PySem.W.fnOf x q (vH st) (qT st) (j8 st) .none kV doc pm an cdv ct) ⟨[a0,a1,a2],[]⟩=pure ([p0,p1,p2].zip [a0,a1,a2]):=by intros;rfl):DefX P w K mg base k x [p0,p1,p2] [] sp:=mL ok (aN X G a) F.kp (F.binds fun kV doc pm an cdv ct=>gX (hb kV doc pm an cdv ct))
theorem QD (X:K.In h) (G:h.Ns mainGlobals mg) (a:PySem.W.nsIn K mainGlobals x=some (some (.ref f))) (F:Fun K x q st f fd) (ok:FnOk P w K mg base jX k f fd [p0,p1,p2,p3] sp) (hb:∀(kV doc pm:Value) (an:Option Addr) (cdv ct a0 a1 a2 a3:Value),bindArgs (PySem.W.fnOf x q (vH st) (qT st) (j8 st) .none kV doc pm an cdv ct) ⟨[a0,a1,a2,a3],[]⟩=pure ([p0,p1,p2,p3].zip [a0,a1,a2,a3]):=by intros;rfl):Def P w K mg base k x [p0,p1,p2,p3] [] sp:=gM ok (aN X G a) F.kp (F.binds fun kV doc pm an cdv ct=>nV (hb kV doc pm an cdv ct))
theorem YX (X:K.In h) (G:h.Ns mainGlobals mg) (a:PySem.W.nsIn K mainGlobals x=some (some (.ref f))) (F:Fun K x q st f fd) (ok:FnOk P w K mg base (kA P w) k f fd [p0,p1,p2,p3] sp) (hb:∀(kV doc pm:Value) (an:Option Addr) (cdv ct a0 a1 a2 a3:Value),bindArgs (PySem.W.fnOf x q (vH st) (qT st) (j8 st) .none kV doc pm an cdv ct) ⟨[a0,a1,a2,a3],[]⟩=pure ([p0,p1,p2,p3].zip [a0,a1,a2,a3]):=by intros;rfl):DefX P w K mg base k x [p0,p1,p2,p3] [] sp:=mL ok (aN X G a) F.kp (F.binds fun kV doc pm an cdv ct=>nV (hb kV doc pm an cdv ct))
theorem GU (X:K.In h) (G:h.Ns mainGlobals mg) (a:PySem.W.nsIn K mainGlobals x=some (some (.ref f))) (F:Fun K x q st f fd) (ok:FnOk P w K mg base jX k f fd [p0,p1,p2,p3,p4] sp) (hb:∀(kV doc pm:Value) (an:Option Addr) (cdv ct a0 a1 a2 a3 a4:Value),bindArgs (PySem.W.fnOf x q (vH st) (qT st) (j8 st) .none kV doc pm an cdv ct) ⟨[a0,a1,a2,a3,a4],[]⟩=pure ([p0,p1,p2,p3,p4].zip [a0,a1,a2,a3,a4]):=by intros;rfl):Def P w K mg base k x [p0,p1,p2,p3,p4] [] sp:=gM ok (aN X G a) F.kp (F.binds fun kV doc pm an cdv ct=>xM (hb kV doc pm an cdv ct))
abbrev vN (K:PySem.W.Frag) (C:Addr) (x q:Str) (st:Stmt):Prop:=∃f fd,PySem.W.findIn K (.ref C) x=some (some (.ref f))/\PySem.W.isFn K (.ref f)=true/\Fun K x q st f fd
abbrev qG (K:PySem.W.Frag) (x:Str) (v:Option Value):Prop:=PySem.W.nsIn K mainGlobals x=some v
abbrev kT (K:PySem.W.Frag) (C:Addr) (x:Str) (v:Option Value):Prop:=PySem.W.findIn K (.ref C) x=some v
theorem nsP_mk {v:Option Value} (h:PySem.W.nsIn K mainGlobals x=some v):qG K x v:=h
theorem fnP_mk {C:Addr} {v:Option Value} (h:PySem.W.findIn K (.ref C) x=some v):kT K C x v:=h
theorem fnC_mk {C:Addr} {oc:Value} {od an:Option Addr} {osl:Array (Option Value)} {kV doc pm cdv ct:Value} (a:PySem.W.findIn K (.ref C) x=some (some (.ref f))) (i:PySem.W.isFn K (.ref f)=true) (l:K.lookup f=some ⟨oc,od,.func (PySem.W.fnOf x q (vH st) (qT st) (j8 st) .none kV doc pm an cdv ct),osl⟩) (c:PySem.W.codeIn K cdv q=true) (k:PySem.W.keepIn K (.ref f)=true):vN K C x q st:=⟨_,_,a,i,iH l c k⟩
theorem ZU {C:Addr} (cl:Cls K C) (a:PySem.W.findIn K (.ref C) x=some (some (.ref f))) (i:PySem.W.isFn K (.ref f)=true) (F:Fun K x q st f fd) (ok:FnOk P w K mg base jX k f fd [p0] sp) (hb:∀(kV doc pm:Value) (an:Option Addr) (cdv ct a0:Value),bindArgs (PySem.W.fnOf x q (vH st) (qT st) (j8 st) .none kV doc pm an cdv ct) ⟨[a0],[]⟩=pure ([p0].zip [a0]):=by intros;rfl):MeD P w K mg base k C x [p0] sp:=⟨cl,_,_,⟨a,i,F.kp⟩,ok,F.binds fun kV doc pm an cdv ct=>nW (hb kV doc pm an cdv ct)⟩
theorem fD {C:Addr} (cl:Cls K C) (a:PySem.W.findIn K (.ref C) x=some (some (.ref f))) (i:PySem.W.isFn K (.ref f)=true) (F:Fun K x q st f fd) (ok:FnOk P w K mg base jX k f fd [p0,p1] sp) (hb:∀(kV doc pm:Value) (an:Option Addr) (cdv ct a0 a1:Value),bindArgs (PySem.W.fnOf x q (vH st) (qT st) (j8 st) .none kV doc pm an cdv ct) ⟨[a0,a1],[]⟩=pure ([p0,p1].zip [a0,a1]):=by intros;rfl):MeD P w K mg base k C x [p0,p1] sp:=⟨cl,_,_,⟨a,i,F.kp⟩,ok,F.binds fun kV doc pm an cdv ct=>J9 (hb kV doc pm an cdv ct)⟩
theorem YV {C:Addr} (cl:Cls K C) (a:PySem.W.findIn K (.ref C) x=some (some (.ref f))) (i:PySem.W.isFn K (.ref f)=true) (F:Fun K x q st f fd) (ok:FnOk P w K mg base jX k f fd [p0,p1,p2] sp) (hb:∀(kV doc pm:Value) (an:Option Addr) (cdv ct a0 a1 a2:Value),bindArgs (PySem.W.fnOf x q (vH st) (qT st) (j8 st) .none kV doc pm an cdv ct) ⟨[a0,a1,a2],[]⟩=pure ([p0,p1,p2].zip [a0,a1,a2]):=by intros;rfl):MeD P w K mg base k C x [p0,p1,p2] sp:=⟨cl,_,_,⟨a,i,F.kp⟩,ok,F.binds fun kV doc pm an cdv ct=>gX (hb kV doc pm an cdv ct)⟩
end
section
variable {X:Cx} {scope:Scope}
theorem nX {x:Str} {iter elt:Expr} {ifs:List Expr} {p pos:Pos} {wi:TI} {tc:TT} {te:TE} (N:List Str) (is:List Nat) (S:CompScope X scope) (hi:PI X (.Name x p) iter wi) (hc:∀C s H pins fp,cY (qP X N scope C s H pins fp) ifs tc) (he:∀C s H pins fp,PE (qP X N scope C s H pins fp) elt te)
  (hnd:N.Nodup:=by decide +kernel) (hcap:ZT X N scope (qW 1 is):=by exact cps 1 _) (h0:N[0]?=some x:=by rfl) (hl:∀C s H pins fp,List.lookup x (qP X N scope C s H pins fp).env.scope.names=some .local:=by intros;rfl) (hcalm:X.calm=true:=by rfl) (hs:∀x,foldedSetIterable iter X.env x=pure x:=by intro _;rfl):PE X (.ListComp elt [⟨.Name x p,iter,ifs,0⟩] scope pos) (mS wi (qW 1 is) (QS 0) tc te) :=
 JM N (qW 1 is) hcalm S hcap hi (fun C s H pins fp=>kI (X:=qP X N scope C s H pins fp) hnd h0 (.inl (hl C s H pins fp)) (.inr (hl C s H pins fp))) hc he hs
theorem eY {x:Str} {iter elt:Expr} {p pos:Pos} {wi:TI} {te:TE} (N:List Str) (is:List Nat) (S:CompScope X scope) (hi:PI X (.Name x p) iter wi) (he:∀C s H pins fp,PE (qP X N scope C s H pins fp) elt te)
  (hnd:N.Nodup:=by decide +kernel) (hcap:ZT X N scope (qW 1 is):=by exact cps 1 _) (h0:N[0]?=some x:=by rfl) (hl:∀C s H pins fp,List.lookup x (qP X N scope C s H pins fp).env.scope.names=some .local:=by intros;rfl) (hcalm:X.calm=true:=by rfl) (hs:∀x,foldedSetIterable iter X.env x=pure x:=by intro _;rfl):PE X (.ListComp elt [⟨.Name x p,iter,[],0⟩] scope pos) (mS wi (qW 1 is) (QS 0) wZ te) :=
 JM N (qW 1 is) hcalm S hcap hi (fun C s H pins fp=>kI (X:=qP X N scope C s H pins fp) hnd h0 (.inl (hl C s H pins fp)) (.inr (hl C s H pins fp))) (fun _ _ _ _ _=>yT) he hs
end
section
variable {X:Cx} {k:Nat} {sp:Addr->Sp} {x:Str} {p pos:Pos} {e:Expr} {es:List Expr} {t:TA} {i:Nat} {cs:List (Nat×Addr)}
end
end L2
namespace HT
open PySem PySem.Spec PyProof.Rows
variable {prog:Program} {w:World} {A:Around} {s:Shared} {E:Value->Shared->Prop}
theorem cat_tup0 {t b:Addr} {ws:List Value} {Q:Value->Shared->Prop} (ht:IsTup s.heap t #[]) (hb:IsTup s.heap b ws.toArray) (h1:Q (.ref b) s):wpAny (model prog w) A (binaryOp .Add (.ref t) (.ref b)) Q E s:=by
 obtain ⟨⟨cls,dd,data,sl⟩,ho,hc,n,hd⟩:=id ht;obtain ⟨⟨cls2,dd2,data2,sl2⟩,ho2,hc2,n2,hd2⟩:=id hb;simp only at hc hd hc2 hd2;subst hc hd hc2 hd2;exact concat_meets ⟨_,ho,rfl⟩ ⟨_,ho2,rfl⟩ noFill_tuple_add seq_tuple_add PySem.F.slot_tuple_add PySem.F.entry_tuple_add (PySem.F.args_tuple_add_2 _ _) (tuple_addW0 t b #[] ws.toArray n n2 dd dd2 sl sl2 rfl) ⟨ho,ho2,h1⟩
end HT
namespace L2
open PySem PySem.Spec PyProof.Rows
theorem E8 {X:Cx} {ss:List Stmt}:PSs X ss (fun _ _ _=>False):=fun _ _ _ _ _ _ h=>h.elim
section
variable {X:Cx}
def VX (K:PySem.W.Frag):R2:=fun x y H Q=>∃a b xs ys,x=.ref a/\y=.ref b/\SqT K H a xs/\SqT K H b ys/\ys≠[]/\xs.length+ys.length<=sizeLine/\(xs=[]->Q (.ref b) H)/\(xs≠[]->∀p,H p=none->Q (.ref p) (upd H p (.tup (xs++ys))))
theorem SV:qM X (binaryOp .Add) (VX X.K):=by
 intro pins s σ H x y v u Q I rx ry h;obtain ⟨a,b,xs,ys,rfl,rfl,ha,hb,hy,hz,q1,q2⟩:=h
 by_cases hx:xs=[]
 ·subst hx;cases rx;cases ry;obtain ⟨its,r1,p1,_⟩:=I.tuple ha;obtain ⟨its2,r2,p2,_⟩:=I.tuple hb;have e:its=[]:=r1.nil_iff.mpr rfl;subst e;exact HT.cat_tup0 p1 p2 ⟨.ref b,H,I,rfl,q1 rfl⟩
 ·exact UQ pins s σ H _ _ v u Q I rx ry ⟨a,b,xs,ys,rfl,rfl,ha,hb,hx,hz,fun h=>absurd h hy,fun _=>q2 hx⟩
end
section
variable {P:Program} {w:World} {K:PySem.W.Frag} {mg:Str->Option Value} {base:Heap}
end
section
variable {X:Cx} {pins:List (Addr×Obj)} {σ:St} {H:Hp} {s:Shared}
end
structure Z3 (z TI TO i1 i2 i3 l1 l2 l3:Addr):Prop where
 TIz:TI≠z
 TOz:TO≠z
 i1z:i1≠z
 i2z:i2≠z
 i3z:i3≠z
 TITO:TI≠TO
 TIi1:TI≠i1
 TIi2:TI≠i2
 TIi3:TI≠i3
 TOi1:TO≠i1
 TOi2:TO≠i2
 TOi3:TO≠i3
 i1i2:i1≠i2
 i1i3:i1≠i3
 i2i3:i2≠i3
 l1z:l1≠z
 l1TO:l1≠TO
 l1i1:l1≠i1
 l1i2:l1≠i2
 l1i3:l1≠i3
 l2z:l2≠z
 l2TO:l2≠TO
 l2i1:l2≠i1
 l2i2:l2≠i2
 l2i3:l2≠i3
 l3z:l3≠z
 l3TO:l3≠TO
 l3i1:l3≠i1
 l3i2:l3≠i2
 l3i3:l3≠i3
abbrev v8 (h:Heap) (T:Addr) (a b c:Value):Prop:=h.get? T=some {cls:=.type "tuple",data:=.seq #[a,b,c]}
section
variable {prog:Program} {w:World} {A:Around} {s:Shared} {E:Value->Shared->Prop}
theorem sU {T:Addr} {a b c x:Value} {k:Nat} {Q:Unit->Shared->Prop} (h:v8 s.heap T a b c) (q:∀h',h'.get? T=some {cls:=.type "tuple",data:=.seq (#[a,b,c].setIfInBounds k x)}->Heap.SameBut T s.heap h'->Q () {s with heap:=h'}):wpAny (model prog w) A (updateSeq T fun ys=>ys.setIfInBounds k x) Q E s:=by
 refine wpAny_updateSeq h rfl (q _ ?_ (Heap.SameBut.update ..)) (by show 3<=sizeLine;decide) (by show (#[a,b,c].setIfInBounds k x).size<=_;rw [Array.size_setIfInBounds];show 3<=sizeLine+1;decide);have e:Obj.mapSeq (fun ys=>ys.setIfInBounds k x) {cls:=.type "tuple",data:=.seq #[a,b,c]}={cls:=.type "tuple",data:=.seq (#[a,b,c].setIfInBounds k x)}:=by simp [Obj.mapSeq]
 have g:=gg (Obj.mapSeq fun ys=>ys.setIfInBounds k x) h (by rw [e];rfl)
 rwa [e] at g
variable {S1 S2 S3:SqK} (O1:S1.Ok) (O2:S2.Ok) (O3:S3.Ok)
include O1 O2 O3
theorem PX {z P1 P2 j1 j2 j3 a b c:Addr} {k:Nat} {us vs ws:Array Value} {u v x g g' g'':Value} {Q:Value->Shared->Prop} (D:Z3 z P1 P2 j1 j2 j3 a b c)
  (hz:IsZip s.heap z P1 P2 .none) (hP1:v8 s.heap P1 (.ref j1) (.ref j2) (.ref j3)) (hP2:v8 s.heap P2 g g' g'') (n1:S1.It s.heap j1 a k) (n2:S2.It s.heap j2 b k) (n3:S3.It s.heap j3 c k) (la:S1.Sq s.heap a us) (lb:S2.Sq s.heap b vs) (lc:S3.Sq s.heap c ws) (hu:us[k]?=some u) (hv:vs[k]?=some v) (hx:ws[k]?=some x)
  (q:∀h',IsZip h' z P1 P2 (rawInt s.heap.objs.size)->v8 h' P2 u v x->S1.It h' j1 a (k+1)->S2.It h' j2 b (k+1)->S3.It h' j3 c (k+1)->v8 h' s.heap.objs.size u v x->(∀c o,c≠z->c≠P2->c≠j1->c≠j2->c≠j3->s.heap.get? c=some o->h'.get? c=some o)->Q (.ref s.heap.objs.size) {s with heap:=h'}):wpAny (model prog w) A (Builtin.«zip.__next__» ⟨[.ref z],[]⟩) (fun fin s'=>∃v,fin=.done (.ret v)/\Q v s') E s:=by
 show wpAny _ _ (field (.ref z) 2 >>= _) _ _ _;refine ae (bc hz rfl (x:=.bool false) rfl ?_);show wpAny _ _ (field (.ref z) 3 >>= _) _ _ _
 refine ae (bc hz rfl (x:=.ref P1) rfl ?_);refine ae (cc hP1 rfl ?_)
 show wpAny _ _ (Builtin.SmallTypes.ownedTupleIsFree (.ref z) >>= _) _ _ _;refine ae ?_;unfold Builtin.SmallTypes.ownedTupleIsFree
 refine ae (bc hz rfl (x:=.none) rfl (aJ ?_));simp only [if_true]
 refine ae (wpAny_rule ?_);refine ae (bc hz rfl (x:=.ref P2) rfl ?_)
 refine ae (bv hz (by simp) fun m1 z1 d1=>?_);have z1:IsZip m1 z P1 P2 .ellipsis:=z1;refine ae ?_;simp only [il,ix,hV,List.forIn_nil]
 refine ae (ae (fb ?_));show wpAny _ _ (Builtin.SmallTypes.nextOf (.ref j1) >>= _) _ _ _
 refine ae (O1.item (O1.at_ n1 (d1.extBut _ · D.i1z)) (O1.sq la (d1.extBut _ · D.l1z)) hu fun m2 n12 d2=>aJ ?_);have p2:v8 m2 P2 g g' g'':=d2.extBut _ _ D.TOi1 (d1.extBut _ _ D.TOz hP2);refine ae (cc p2 rfl ?_);refine ae (sU p2 fun m3 p3 d3=>?_)
 have p3:v8 m3 P2 u g' g'':=p3;refine ae (iy (aJ ?_));refine ae (ae (fb ?_));show wpAny _ _ (Builtin.SmallTypes.nextOf (.ref j2) >>= _) _ _ _
 refine ae (O2.item (O2.at_ n2 fun o e=>d3.extBut _ o D.TOi2.symm (d2.extBut _ o D.i1i2.symm (d1.extBut _ o D.i2z e))) (O2.sq lb fun o e=>d3.extBut _ o D.l2TO (d2.extBut _ o D.l2i1 (d1.extBut _ o D.l2z e))) hv fun m4 n24 d4=>aJ ?_);have p4:v8 m4 P2 u g' g'':=d4.extBut _ _ D.TOi2 p3;refine ae (cc p4 rfl ?_);refine ae (sU p4 fun m5 p5 d5=>?_)
 have p5:v8 m5 P2 u v g'':=p5;refine ae (iy (aJ ?_));refine ae (ae (fb ?_));show wpAny _ _ (Builtin.SmallTypes.nextOf (.ref j3) >>= _) _ _ _
 refine ae (O3.item (O3.at_ n3 fun o e=>d5.extBut _ o D.TOi3.symm (d4.extBut _ o D.i2i3.symm (d3.extBut _ o D.TOi3.symm (d2.extBut _ o D.i1i3.symm (d1.extBut _ o D.i3z e))))) (O3.sq lc fun o e=>d5.extBut _ o D.l3TO (d4.extBut _ o D.l3i2 (d3.extBut _ o D.l3TO (d2.extBut _ o D.l3i1 (d1.extBut _ o D.l3z e))))) hx fun m6 n36 d6=>aJ ?_);have p6:v8 m6 P2 u v g'':=d6.extBut _ _ D.TOi3 p5;refine ae (cc p6 rfl ?_);refine ae (sU p6 fun m7 p7 d7=>?_)
 have p7:v8 m7 P2 u v x:=p7;refine ae (iy (aJ (aJ ?_)));refine ae (cc p7 rfl ?_);refine ae (wpAny_newTuple ?_)
 have sz:m7.objs.size=s.heap.objs.size:=by rw [d7.1,d6.1,d5.1,d4.1,d3.1,d2.1,d1.1]
 have kk:∀c o,c≠P2->c≠j1->c≠j2->c≠j3->m1.get? c=some o->m7.get? c=some o:=fun c o e2 e3 e4 e5 e=>d7.extBut _ _ e2 (d6.extBut _ _ e5 (d5.extBut _ _ e2 (d4.extBut _ _ e4 (d3.extBut _ _ e2 (d2.extBut _ _ e3 e)))))
 have z5:IsZip m7 z P1 P2 .ellipsis:=kk _ _ D.TOz.symm D.i1z.symm D.i2z.symm D.i3z.symm z1;have n17:=O1.at_ (h':=m7) n12 fun o e=>d7.extBut _ o D.TOi1.symm (d6.extBut _ o D.i1i3 (d5.extBut _ o D.TOi1.symm (d4.extBut _ o D.i1i2 (d3.extBut _ o D.TOi1.symm e))))
 have n27:=O2.at_ (h':=m7) n24 fun o e=>d7.extBut _ o D.TOi2.symm (d6.extBut _ o D.i2i3 (d5.extBut _ o D.TOi2.symm e))
 have n37:=O3.at_ (h':=m7) n36 (d7.extBut _ · D.TOi3.symm);have zl:z<m7.objs.size:=ar z5;show wpAny _ _ (Builtin.SmallTypes.ownedTupleHandOut (.ref z) (.ref m7.objs.size) >>= _) _ _ _;refine ae ?_;unfold Builtin.SmallTypes.ownedTupleHandOut
 have z6:IsZip (m7.push {cls:=.type "tuple",data:=.seq #[u,v,x]}) z P1 P2 .ellipsis:=ai _ z5;refine ae (bv z6 (by simp) fun m8 z8 d8=>?_);have z8:IsZip m8 z P1 P2 (rawInt m7.objs.size):=z8;refine bv z8 (by simp) fun m9 z9 d9=>?_
 have z9:IsZip m9 z P1 P2 (rawInt m7.objs.size):=z9;have up:∀c o,c≠z->m7.get? c=some o->m9.get? c=some o:=fun c o e1 e=>d9.extBut _ _ e1 (d8.extBut _ _ e1 (ai _ e))
 have t9:v8 m9 m7.objs.size u v x:=d9.extBut _ _ (dg zl) (d8.extBut _ _ (dg zl) (aq _ rfl));rw [sz] at z9 t9;refine aJ ⟨_,rfl,?_⟩;show Q (.ref m7.objs.size) _;rw [sz]
 exact q m9 z9 (up _ _ D.TOz p7) (O1.at_ n17 (up _ · D.i1z)) (O2.at_ n27 (up _ · D.i2z)) (O3.at_ n37 (up _ · D.i3z)) t9 fun c o e1 e2 e3 e4 e5 e=>up c o e1 (kk c o e2 e3 e4 e5 (d1.extBut _ _ e1 e))
theorem SG {z P1 P2 j1 j2 j3 a b c:Addr} {k:Nat} {us:Array Value} {g g' g'':Value} {Q:Fin->Shared->Prop} (hh:A.handled=none) (D:Z3 z P1 P2 j1 j2 j3 a b c)
  (hz:IsZip s.heap z P1 P2 .none) (hP1:v8 s.heap P1 (.ref j1) (.ref j2) (.ref j3)) (hP2:v8 s.heap P2 g g' g'') (n1:S1.It s.heap j1 a k) (la:S1.Sq s.heap a us) (hu:us[k]?=none)
  (q:∀h' e,(∀c o,c≠z->c≠P2->c≠j1->c≠j2->c≠j3->s.heap.get? c=some o->h'.get? c=some o)->(∃o,h'.get? e=some o/\o.cls=.type "StopIteration")->E (.ref e) {s with heap:=h'}):wpAny (model prog w) A (Builtin.«zip.__next__» ⟨[.ref z],[]⟩) Q E s:=by
 show wpAny _ _ (field (.ref z) 2 >>= _) _ _ _;refine ae (bc hz rfl (x:=.bool false) rfl ?_);show wpAny _ _ (field (.ref z) 3 >>= _) _ _ _
 refine ae (bc hz rfl (x:=.ref P1) rfl ?_);refine ae (cc hP1 rfl ?_)
 show wpAny _ _ (Builtin.SmallTypes.ownedTupleIsFree (.ref z) >>= _) _ _ _;refine ae ?_;unfold Builtin.SmallTypes.ownedTupleIsFree
 refine ae (bc hz rfl (x:=.none) rfl (aJ ?_));simp only [if_true]
 refine ae (wpAny_rule ?_);refine ae (bc hz rfl (x:=.ref P2) rfl ?_)
 refine ae (bv hz (by simp) fun m1 z1 d1=>?_);have z1:IsZip m1 z P1 P2 .ellipsis:=z1;refine ae ?_;simp only [il,ix,hV,List.forIn_nil]
 refine ae (ae (fb ?_));show wpAny _ _ (Builtin.SmallTypes.nextOf (.ref j1) >>= _) _ _ _
 refine ae (O1.fin hh (O1.at_ n1 (d1.extBut _ · D.i1z)) (O1.sq la (d1.extBut _ · D.l1z)) hu fun m2 e d2 st=>?_);obtain ⟨oe,ee,ce⟩:=st
 have z2:IsZip m2 z P1 P2 .ellipsis:=d2 _ _ D.i1z.symm z1;have ne:e≠z:=fun x=>by subst x;rw [z2] at ee;cases ee;simp at ce
 refine bv z2 (by simp) fun m3 _ d3=>q m3 e (fun c o e1 _ e3 _ _ x=>d3.extBut _ _ e1 (d2 _ _ e3 (d1.extBut _ _ e1 x))) ⟨oe,d3.extBut _ _ ne ee,ce⟩
end
def gU (S1 S2 S3:SqK) (K:PySem.W.Frag) (a1 a2 a3:Addr):It :=
 ⟨fun i H=>∃xs ys zs x y z,S1.R K H a1 xs/\S2.R K H a2 ys/\S3.R K H a3 zs/\xs[i]?=some x/\ys[i]?=some y/\zs[i]?=some z,
  fun i H v H'=>∃T x y z,v=.ref T/\H T=none/\H'=upd H T (.tup [x,y,z])/\(∀xs,S1.R K H a1 xs->xs[i]?=some x)/\(∀ys,S2.R K H a2 ys->ys[i]?=some y)/\(∀zs,S3.R K H a3 zs->zs[i]?=some z),
  fun i H=>∃xs,S1.R K H a1 xs/\xs.length<=i⟩
theorem P0 {S1 S2 S3:SqK} (O1:S1.Ok) (O2:S2.Ok) (O3:S3.Ok) {P:Program} {w:World} {K:PySem.W.Frag} {elts:List Expr} {x1:Nat} {pos:Pos} {a1 a2 a3 z TI TO i1 i2 i3:Addr} (D:Z3 z TI TO i1 i2 i3 a1 a2 a3) :
  Turn P w K (.Tuple elts x1 pos) (gU S1 S2 S3 K a1 a2 a3) [z,TI,TO,i1,i2,i3] z (fun i h=>IsZip h z TI TO .none/\v8 h TI (.ref i1) (.ref i2) (.ref i3)/\(∃a b c,v8 h TO a b c)/\S1.It h i1 a1 i/\S2.It h i2 a2 i/\S3.It h i3 a3 i) where
 mem:=by simp
 obj:=fun i h st b hb=>by
  obtain ⟨hz,hTI,⟨p,q,r,hTO⟩,h1,h2,h3⟩:=st;simp only [ao,ay,bo] at hb
  rcases hb with rfl|rfl|rfl|rfl|rfl|rfl
  ·exact ⟨_,hz,fun v y=>by have y':Data.fields _=Data.cell v:=y;cases y'⟩
  ·exact ⟨_,hTI,fun v y=>by have y':Data.seq _ _=Data.cell v:=y;cases y'⟩
  ·exact ⟨_,hTO,fun v y=>by have y':Data.seq _ _=Data.cell v:=y;cases y'⟩
  ·exact O1.ob h1
  ·exact O2.ob h2
  ·exact O3.ob h3
 keep:=fun i h h' st k=>by
  obtain ⟨hz,hTI,⟨p,q,r,hTO⟩,h1,h2,h3⟩:=st;exact ⟨k _ (by simp) _ hz,k _ (by simp) _ hTI,⟨p,q,r,k _ (by simp) _ hTO⟩,O1.at_ h1 (k _ (by simp)),O2.at_ h2 (k _ (by simp)),O3.at_ h3 (k _ (by simp))⟩
 item:=by
  intro X hP hw hK hc i pins s σ H E I hf st hg;subst hP hw hK;obtain ⟨hz,hTI,⟨p,q,r,hTO⟩,h1,h2,h3⟩:=st;obtain ⟨xs,ys,zs,x,y,x3,hq1,hq2,hq3,hx,hy,hx3⟩:=hg;obtain ⟨its1,rv1,p1⟩:=O1.rel I hq1;obtain ⟨its2,rv2,p2⟩:=O2.rel I hq2;obtain ⟨its3,rv3,p3⟩:=O3.rel I hq3;obtain ⟨t,ht,rt⟩:=rv3.get hx3;obtain ⟨u,hu,ru⟩:=rv1.get hx;obtain ⟨v,hv,rv⟩:=rv2.get hy;have hTz:s.TypeIs (.ref z) "zip":=⟨_,hz,rfl⟩;unfold pyNext;refine ae (iu (cq (name:=Str.ofString "__next__") hTz dz (ei dz hTz im (PX O1 O2 O3 D hz hTI hTO h1 h2 h3 p1 p2 p3 (u:=u) (v:=v) (x:=t) (by simpa using hu) (by simpa using hv) (by simpa using ht) fun h' hz' hTO' h1' h2' h3' hT' hk=>aJ ?_) (ie _))));refine ⟨_,rfl,?_⟩;refine wpAny_letOwnedTupleGo_zip hz' fun hp2 hz2 hs2=>?_
  have lt:∀{b:Addr} {o:Obj},s.heap.get? b=some o->b<s.heap.objs.size:=fun e=>ar e
  have nT:s.heap.objs.size≠z:=dg (lt hz);have k2:∀b o,b∉[z,TI,TO,i1,i2,i3]->s.heap.get? b=some o->hp2.get? b=some o:=fun b o hb e=>by
   simp only [ao,ay,bo,not_or] at hb;exact (hs2.2 b hb.1).trans (hk b o hb.1 hb.2.2.1 hb.2.2.2.1 hb.2.2.2.2.1 hb.2.2.2.2.2 e)
  have hT2:v8 hp2 s.heap.objs.size u v t:=(hs2.2 _ nT).trans hT';refine ⟨.ref s.heap.objs.size,upd H s.heap.objs.size (.tup [x,y,x3]),I.laidN (t':=s.toks) (fp:=[z,TI,TO,i1,i2,i3]) k2 hf (aj _) ⟨(by show 3<=sizeLine;decide),[u,v,t],.cons ru (.cons rv (.cons rt .nil)),⟨_,hT2,rfl,_,rfl⟩⟩,rfl,?_,?_,?_⟩
  ·exact ⟨_,x,y,x3,rfl,I.hok.fresh (aj _),rfl,fun zs hzs=>by rw [O1.inj I hzs hq1];exact hx,fun zs hzs=>by rw [O2.inj I hzs hq2];exact hy,fun zs hzs=>by rw [O3.inj I hzs hq3];exact hx3⟩
  ·refine ⟨hz2,(hs2.2 _ D.TIz).trans (hk _ _ D.TIz D.TITO D.TIi1 D.TIi2 D.TIi3 hTI),⟨_,_,_,(hs2.2 _ D.TOz).trans hTO'⟩,O1.at_ h1' fun o e=>(hs2.2 _ D.i1z).trans e,O2.at_ h2' fun o e=>(hs2.2 _ D.i2z).trans e,O3.at_ h3' fun o e=>(hs2.2 _ D.i3z).trans e⟩
  ·intro b hb;have:=(hf b hb).1;rw [jP]
   ·exact this
   ·intro e;simp only [ao,ay,bo] at hb;obtain ⟨o1,e1,_⟩:=O1.ob h1;obtain ⟨o2,e2,_⟩:=O2.ob h2;obtain ⟨o3,e3,_⟩:=O3.ob h3
    rcases hb with rfl|rfl|rfl|rfl|rfl|rfl
    ·exact nT e.symm
    ·exact aM (lt hTI) e
    ·exact aM (lt hTO) e
    ·exact aM (lt e1) e
    ·exact aM (lt e2) e
    ·exact aM (lt e3) e
 done:=by
  intro X hP hw hK hc i pins s σ H E I hf st hg;subst hP hw hK;obtain ⟨hz,hTI,⟨p,q,r,hTO⟩,h1,h2,h3⟩:=st;obtain ⟨xs,hq1,he⟩:=hg;obtain ⟨its1,rv1,p1⟩:=O1.rel I hq1;have l1:=rv1.length;have hTz:s.TypeIs (.ref z) "zip":=⟨_,hz,rfl⟩;unfold pyNext;refine ae (iu (cq (name:=Str.ofString "__next__") hTz dz (ei dz hTz im (SG O1 O2 O3 (I.ok.hd hc) D hz hTI hTO h1 p1 (by simp;lia) fun h' e hk ho=>?_) (ie _))));obtain ⟨o,ho,hco⟩:=ho;refine ae (wpAny_isInstance (T:="StopIteration") (b:=true) ⟨o,ho,hco⟩ isSubtype_stop (aJ ⟨rfl,I.turnedN (t':=s.toks) (fp:=[z,TI,TO,i1,i2,i3]) (fun b o hb e=>?_) hf⟩));simp only [ao,ay,bo,not_or] at hb;exact hk b o hb.1 hb.2.2.1 hb.2.2.2.1 hb.2.2.2.2.1 hb.2.2.2.2.2 e
 self:=fun _ _ _ _ _ st h=>io st.1 h
section
variable {X:Cx} {elts:List Expr} {x1:Nat} {tpos:Pos}
abbrev zU (h:Heap) (a:Addr):Heap:=h.push {cls:=.type "list_iterator",data:=.fields #[.ref a,.int 0 0]}
abbrev nS (h:Heap) (a b c:Addr):Heap:=(zU (zU h a) b).push {cls:=.type "tuple_iterator",data:=.fields #[.ref c,.int 0 0]}
abbrev nQ (h:Heap) (a b c:Addr):Heap:=(nS h a b c).push {cls:=.type "tuple",data:=.seq #[.ref h.objs.size,.ref (zU h a).objs.size,.ref (zU (zU h a) b).objs.size]}
abbrev nP (h:Heap) (a b c:Addr):Heap:=(nQ h a b c).push {cls:=.type "tuple",data:=.seq #[.none,.none,.none]}
abbrev cW (h:Heap) (a b c:Addr):Heap:=(nP h a b c).push {cls:=.type "zip",data:=.fields #[.none,.bool false,.bool false,.ref (nS h a b c).objs.size,.ref (nQ h a b c).objs.size]}
set_option maxHeartbeats 4000000 in
theorem O5 (a b c:Addr) (us vs ws:Array Value):Meets (Builtin.«zip.__new__» ⟨[.type "zip",.ref a,.ref b,.ref c],[]⟩) (fun _ R s=>s.heap.IsList a us/\s.heap.IsList b vs/\s.heap.IsTuple c ws/\R (.ok (.ret (.ref (nP s.heap a b c).objs.size))) {s with heap:=cW s.heap a b c}):=.of_wp fun prog w A R s h=>by
  obtain ⟨hp,g,d,tk,os⟩:=s;obtain ⟨la,lb,lc,h⟩:=h;have hsub:=sub_zip
  have A1:Heap.IsList (Shared.heap ⟨hp,g,d,tk,os⟩) a us:=la;have A2:Heap.IsList (Shared.heap ⟨zU hp a,g,d,tk,os⟩) b vs:=Heap.IsList.push lb _;have A3:Heap.IsTuple (Shared.heap ⟨zU (zU hp a) b,g,d,tk,os⟩) c ws:=Heap.IsTuple.push (Heap.IsTuple.push lc _) _
  wp_walk using dw A1,dw A2,em A3
  exact ⟨_,rfl,h⟩
theorem NU (a b c:Value):checkTypeCall "zip" {pos:=[a,b,c]}=pure ():=id rfl
theorem NX (a b c:Value):checkBuiltinCall "zip.__new__" {pos:=[Value.type "zip",a,b,c]}=pure ():=by with_unfolding_all rfl
theorem NS (a b c d:Value):argsOk "object.__init__" {pos:=[a,b,c,d]}:=id rfl
theorem SB {prog:Program} {w:World} {A:Around} {s:Shared} {E:Value->Shared->Prop} {a b c:Addr} {us vs ws:Array Value} {Q:Value->Shared->Prop} (la:s.heap.IsList a us) (lb:s.heap.IsList b vs) (lc:s.heap.IsTuple c ws)
  (q:∀h',IsZip h' (s.heap.objs.size+5) (s.heap.objs.size+3) (s.heap.objs.size+4) .none->v8 h' (s.heap.objs.size+3) (.ref s.heap.objs.size) (.ref (s.heap.objs.size+1)) (.ref (s.heap.objs.size+2))->v8 h' (s.heap.objs.size+4) .none .none .none->sqL.It h' s.heap.objs.size a 0->sqL.It h' (s.heap.objs.size+1) b 0->sqT.It h' (s.heap.objs.size+2) c 0->(∀c o,s.heap.get? c=some o->h'.get? c=some o)->Q (.ref (s.heap.objs.size+5)) {s with heap:=h'}) :
  wpAny (model prog w) A (call (.type "zip") [.ref a,.ref b,.ref c]) Q E s:=by
 refine callType_new F.called_zip (by decide) (NU _ _ _) (NX _ _ _) (fun obj=>NS obj _ _ _) F.entry_zip_new (O5 a b c us vs ws) ⟨la,lb,lc,?_⟩;have y1:(zU s.heap a).objs.size=s.heap.objs.size+1:=cb ..;have y2:(zU (zU s.heap a) b).objs.size=s.heap.objs.size+2:=by rw [cb,y1]
 have y3:(nS s.heap a b c).objs.size=s.heap.objs.size+3:=by rw [cb,y2]
 have y4:(nQ s.heap a b c).objs.size=s.heap.objs.size+4:=by rw [cb,y3]
 have y5:(nP s.heap a b c).objs.size=s.heap.objs.size+5:=by rw [cb,y4]
 have up:∀{h:Heap} {o:Obj} {c:Addr} {v:Obj},h.get? c=some v->(h.push o).get? c=some v:=fun e=>ai _ e
 have g6:(cW s.heap a b c).get? (nP s.heap a b c).objs.size=some _:=aq _ rfl;have g5:(cW s.heap a b c).get? (nQ s.heap a b c).objs.size=some _:=up (aq _ rfl);have g4:(cW s.heap a b c).get? (nS s.heap a b c).objs.size=some _:=up (up (aq _ rfl));have g3:(cW s.heap a b c).get? (zU (zU s.heap a) b).objs.size=some _:=up (up (up (aq _ rfl)));have g2:(cW s.heap a b c).get? (zU s.heap a).objs.size=some _:=up (up (up (up (aq _ rfl))));have g1:(cW s.heap a b c).get? s.heap.objs.size=some _:=up (up (up (up (up (aq _ rfl)))));show _/\_;rw [y3,y4,y5] at g6;rw [y1,y2,y3] at g4;rw [y4] at g5;rw [y2] at g3;rw [y1] at g2;rw [y5]
 exact ⟨⟨_,g6,rfl⟩,q _ g6 g4 g5 ⟨_,g1,rfl,rfl⟩ ⟨_,g2,rfl,rfl⟩ ⟨_,g3,rfl,rfl⟩ fun c o x=>up (up (up (up (up (up x)))))⟩
def XA (K:PySem.W.Frag) (ta:TA):TI:=fun σ H R=>ta σ H fun vs H1=>∃a1 a2 a3,vs=[.ref a1,.ref a2,.ref a3]/\(∃xs,SqL K H1 a1 xs)/\(∃ys,SqL K H1 a2 ys)/\(∃zs,SqT K H1 a3 zs)/\R (gU sqL sqL sqT K a1 a2 a3) H1
theorem UH {a b c:Expr} {ta:TA} {p pos:Pos} (hg:Gl X "zip") (hm:X.mg "zip"=none) (ha:PA X [a,b,c] ta) (hs:starEach [a,b,c] X.env=[(false,eval a X.env),(false,eval b X.env),(false,eval c X.env)]:=by rfl) (hs2:starEach [b,c] X.env=[(false,eval b X.env),(false,eval c X.env)]:=by rfl) :
  PI X (.Tuple elts x1 tpos) (.Call (.Name "zip" p) [a,b,c] [] pos) (XA X.K ta):=by
 intro pins s σ H R I h;refine Call_ (ZD I hg hm boot_zip (bq (jW (ha pos pins s σ H _ I h) fun us s1 ⟨vs,H1,I1,r1,q1⟩=>?_) (by rw [hs,hs2]) (by rw [hs2];rfl)));obtain ⟨a1,a2,a3,e,⟨xs,hq1⟩,⟨ys,hq2⟩,⟨zs,hq3⟩,q⟩:=q1;subst e;cases r1 with
 |cons r rr =>
  cases rr with
  |cons r' rr =>
   cases rr with
   |cons r'' rr =>
    cases rr;cases r;cases r';cases r'';obtain ⟨its1,rv1,p1⟩:=sqL_ok.rel I1 hq1;obtain ⟨its2,rv2,p2⟩:=sqL_ok.rel I1 hq2;obtain ⟨its3,rv3,p3⟩:=sqT_ok.rel I1 hq3;have lt1:a1<s1.heap.objs.size:=by obtain ⟨o,e⟩:=sqL_ok.lt p1;exact ar e
    have lt2:a2<s1.heap.objs.size:=by obtain ⟨o,e⟩:=sqL_ok.lt p2;exact ar e
    have lt3:a3<s1.heap.objs.size:=by obtain ⟨o,e⟩:=sqT_ok.lt p3;exact ar e
    refine SB p1 p2 p3 fun h' hz hTI hTO h1 h2 h3 hk=>?_
    refine io hz ?_;have D:Z3 (s1.heap.objs.size+5) (s1.heap.objs.size+3) (s1.heap.objs.size+4) s1.heap.objs.size (s1.heap.objs.size+1) (s1.heap.objs.size+2) a1 a2 a3:=by
     constructor<;>(intro e;simp only [Addr] at *;lia)
    refine ⟨_,_,_,_,H1,rfl,I1.kept (t':=s1.toks) hk,P0 sqL_ok sqL_ok sqT_ok D,⟨hz,hTI,⟨_,_,_,hTO⟩,h1,h2,h3⟩,fun b hb=>?_,q⟩;simp only [ao,ay,bo] at hb;have hb':s1.heap.objs.size<=b:=by rcases hb with rfl|rfl|rfl|rfl|rfl|rfl<;>simp only [Addr] at *<;>lia
    exact I1.fpOk hb' (I1.hok.fresh hb')
theorem TB {S1 S2 S3:SqK} {K:PySem.W.Frag} {a1 a2 a3:Addr} {xs ys zs:List V} {g:TG} {tb:TS} {D:Ends} {σ:St} {H:Hp} (P:Nat->St->Hp->Prop) (h0:P 0 σ H) (hl:∀i σ H,i<=xs.length->P i σ H->S1.R K H a1 xs/\S2.R K H a2 ys/\S3.R K H a3 zs) (h2:ys.length=xs.length) (h3:zs.length=xs.length)
  (step:∀i x y z σ H T,xs[i]?=some x->ys[i]?=some y->zs[i]?=some z->P i σ H->H T=none->g (.ref T) σ (upd H T (.tup [x,y,z])) fun σ2 H2=>tb {D with nx:=P (i+1),ct:=P (i+1),bk:=D.nx} σ2 H2) (done:∀σ H,P xs.length σ H->D.nx σ H) :
  ∃W:Nat->Nat->St->Hp->Prop,(∃m,W 0 m σ H)/\∀i m σ H,W i m σ H->((gU S1 S2 S3 K a1 a2 a3).stop i H/\D.nx σ H)\/((gU S1 S2 S3 K a1 a2 a3).go i H/\∃N:St->Hp->Prop,(∀σ' H',N σ' H'->∃m',m'<m/\W (i+1) m' σ' H')/\∀x H',(gU S1 S2 S3 K a1 a2 a3).yld i H x H'->g x σ H' fun σ2 H2=>tb {D with nx:=N,ct:=N,bk:=D.nx} σ2 H2):=by
 refine ⟨fun i m σ H=>i<=xs.length/\m=xs.length - i/\P i σ H,⟨_,aL _,rfl,h0⟩,fun i m σ H w=>?_⟩;obtain ⟨hi,hm,p⟩:=w;obtain ⟨q1,q2,q3⟩:=hl i σ H hi p
 by_cases e:i=xs.length
 ·exact .inl ⟨⟨xs,q1,by lia⟩,done σ H (e▸p)⟩
 ·have l1:i<xs.length:=by lia
  refine .inr ⟨⟨xs,ys,zs,_,_,_,q1,q2,q3,aa l1,aa (show i<ys.length by lia),aa (show i<zs.length by lia)⟩,P (i+1),fun σ' H' n=>⟨_,by lia,by lia,rfl,n⟩,fun v H' hy=>?_⟩;obtain ⟨T,x,y,z,rfl,hT,rfl,e1,e2,e3⟩:=hy;exact step i x y z σ H T (e1 xs q1) (e2 ys q2) (e3 zs q3) p hT
end
def VS (j:Nat):List Stmt->List Stmt
 |.For _ _ b _ _::_=>b
 |.While _ b _ _::_=>b
 |.If _ a b _::_=>match j with|0=>a|_=>b
 |_=>[]
def sb (b:List Stmt):List Nat->List Stmt
 |[]=>b
 |[n]=>b.drop n
 |n::j::p=>sb (VS j (b.drop n)) p
structure Ru where
 X:Cx
 b:List Stmt
 t:TS
 h:PSs X b t
def Tk (_:Cx) (_:List Stmt):Prop:=True
theorem tk {X:Cx} {b:List Stmt} {G:TS->Prop} (h:Tk X b->∃t,PSs X b t/\G t):∃t,PSs X b t/\G t:=h trivial
def ru {X:Cx} {b:List Stmt} (_:Tk X b) (p:List Nat) {t:TS} (h:PSs X (sb b p) t):Ru:=⟨X,_,t,h⟩
end L2
namespace My
open PySem L2 List
theorem zz0:0<=sizeLine:=by decide
theorem zz1:1<=sizeLine:=by decide
theorem zz2:2<=sizeLine:=by decide
theorem zz3:3<=sizeLine:=by decide
theorem zz4:4<=sizeLine:=by decide
theorem zz7:7<=sizeLine:=by decide
def top (i:Nat):Stmt:=PySem.Challenge.pw_lockhouse_k65_advice.main.body.getD i (.Pass ⟨0,0,0,0⟩)
abbrev rK:Stmt:=top 30
abbrev rD:Stmt:=top 32
abbrev pX:Stmt:=top 37
abbrev rS:Stmt:=top 36
abbrev iV:Stmt:=top 34
abbrev rQ:Stmt:=top 33
abbrev sD:Stmt:=top 35
abbrev iT:Stmt:=top 91
abbrev o7:Stmt:=qY (top 92) 0
abbrev oI:Stmt:=qY (top 93) 0
abbrev pA:Stmt:=qY (top 94) 0
abbrev pC:Stmt:=qY (top 88) 0
abbrev o8:Stmt:=qY (top 92) 1
abbrev oJ:Stmt:=qY (top 93) 1
abbrev pB:Stmt:=qY (top 94) 1
abbrev o9:Stmt:=qY (top 92) 2
abbrev oK:Stmt:=qY (top 93) 2
abbrev bQ:Stmt:=qY (top 89) 0
abbrev o5:Stmt:=qY (top 89) 6
abbrev o6:Stmt:=qY (top 89) 7
abbrev o0:Stmt:=qY (top 89) 3
abbrev oX:Stmt:=qY (top 89) 4
abbrev oW:Stmt:=qY (top 89) 5
abbrev iJ:Stmt:=qY (top 89) 8
abbrev oY:Stmt:=qY (top 89) 10
abbrev iI:Stmt:=qY (top 89) 9
abbrev iO:Stmt:=top 45
abbrev iQ:Stmt:=top 46
abbrev iP:Stmt:=top 49
abbrev iM:Stmt:=top 48
abbrev rG:Stmt:=top 47
abbrev rV:Stmt:=top 14
abbrev pZ:Stmt:=top 13
abbrev rW:Stmt:=top 19
abbrev rM:Stmt:=top 16
abbrev iR:Stmt:=top 17
abbrev pO:Stmt:=top 15
abbrev dC:Stmt:=top 39
abbrev iY:Stmt:=top 40
abbrev pU:Stmt:=top 18
abbrev rA:Stmt:=top 20
abbrev iS:Stmt:=top 60
abbrev pQ:Stmt:=top 59
abbrev iN:Stmt:=top 57
abbrev rE:Stmt:=top 55
abbrev pY:Stmt:=top 56
abbrev pV:Stmt:=top 54
abbrev pT:Stmt:=top 53
abbrev sB:Stmt:=top 52
abbrev sC:Stmt:=top 51
abbrev rL:Stmt:=top 58
abbrev rJ:Stmt:=top 87
abbrev o4:Stmt:=qY (top 89) 1
abbrev oZ:Stmt:=qY (top 89) 2
abbrev iX:Stmt:=top 71
abbrev oO:Stmt:=qY (top 84) 1
abbrev oS:Stmt:=qY (top 84) 4
abbrev oR:Stmt:=qY (top 84) 2
abbrev oV:Stmt:=qY (top 84) 3
abbrev oM:Stmt:=qY (top 84) 0
abbrev iZ:Stmt:=top 64
abbrev pW:Stmt:=top 65
abbrev pP:Stmt:=top 73
abbrev rC:Stmt:=top 72
abbrev rO:Stmt:=top 69
abbrev rP:Stmt:=top 70
abbrev rN:Stmt:=top 68
abbrev pR:Stmt:=top 74
abbrev rX:Stmt:=top 76
abbrev sA:Stmt:=top 75
abbrev rR:Stmt:=top 78
abbrev pS:Stmt:=top 77
abbrev rH:Stmt:=top 44
abbrev rF:Stmt:=top 82
abbrev r9:Stmt:=top 79
abbrev rT:Stmt:=top 80
abbrev sE:Stmt:=top 81
abbrev oQ:Stmt:=qY (top 84) 8
abbrev oN:Stmt:=qY (top 84) 9
abbrev oP:Stmt:=qY (top 84) 10
abbrev iU:Stmt:=top 23
abbrev rB:Stmt:=top 24
abbrev rY:Stmt:=top 22
abbrev rZ:Stmt:=top 28
abbrev iW:Stmt:=top 26
abbrev fG:Stmt:=top 27
abbrev pD:Stmt:=top 96
abbrev pJ:Stmt:=top 97
abbrev pG:Stmt:=top 98
abbrev pH:Stmt:=top 99
abbrev pF:Stmt:=top 100
abbrev pM:Stmt:=top 101
abbrev dB:Stmt:=top 102
abbrev pI:Stmt:=top 103
abbrev pL:Stmt:=top 104
abbrev iL:Stmt:=top 105
abbrev pN:Stmt:=top 106
abbrev pE:Stmt:=top 107
abbrev fF:Stmt:=top 109
abbrev pK:Stmt:=top 108
abbrev iK:Stmt:=top 110
abbrev QZ:Stmt:=top 111
abbrev iG (K:W.Frag) (x q:Str) (st:Stmt) (f:Addr):Prop:=∃fd,Fun K x q st f fd
variable {K:W.Frag} {H H':Hp} {a:Addr} {xs:List V}
theorem wN (e:Same H H') (h:SqT K H a xs):SqT K H' a xs:=by
 rcases h with (h|⟨o,h⟩)|h
 ·exact .inl (.inl (e _ _ h))
 ·exact .inl (.inr ⟨o,e _ _ h⟩)
 ·exact .inr h
theorem jK {p:Addr} (h:H p=none) (o:HO):Same H (upd H p o):=fun b u q=>by rw [jP (kZ q h)];exact q
variable {n:Nat}
theorem small (h:n<=1000):n<=sizeLine:=ii (qJ h)
def Ints (K:W.Frag) (H:Hp) (a:Addr) (ws:List Int):Prop:=SqL K H a (ws.map V.int)\/SqT K H a (ws.map V.int)
theorem Ints.same {ws:List Int} (e:Same H H') (h:Ints K H a ws):Ints K H' a ws:=by
 rcases h with h|h
 ·exact .inl (e.seq h)
 ·exact .inr (wN e h)
variable {s:Nat}
theorem mE (h:s<n):JH n (s:Int)=some s:=by
 unfold JH;rw [if_pos (by lia),if_pos (by lia)];simp
theorem yD {ws:List Int} (h:s<ws.length):qS (ws.map V.int) (s:Int)=some (.int (ws.getD s 0)):=by
 refine kQ ?_;rw [ak,aa h,ad,aa h];rfl
theorem SN {p:Addr} {ws:List Int} {Q:VK} (h:Ints K H p ws) (hs:s<ws.length) (q:Q (.int (ws.getD s 0)) H):xP K (.ref p) (.int s) H Q:=by
 rcases h with h|h
 ·exact .inl ⟨p,_,s,_,rfl,rfl,h,yD hs,q⟩
 ·exact .inr (.inl ⟨p,_,s,_,rfl,rfl,h,yD hs,q⟩)
theorem lE (ws:List Int) (s:Nat) (z:Int):(ws.map V.int).set s (V.int z)=(ws.set s z).map V.int:=by rw [map_set]
theorem tR {a b:Int} (h:0<b):∃k:Nat,a%b=(k:Int)/\(k:Int)<b:=by
 have h1:=cm a (by lia:b≠0);have h2:=bi a h;exact ⟨(a%b).toNat,by lia,by lia⟩
def cA (K:W.Frag):Sp:=fun vs H Q _=>∃a,∃(ns:List Int),vs=[.ref a]/\SqL K H a (ns.map V.int)/\ns.length<=63/\∀H',Q (.bl true) H'
def pour (ws:List Int) (q:Nat×Nat×Int):List Int:=((ws.set q.1 (ws.getD q.1 0 - q.2.2))).set q.2.1 ((ws.set q.1 (ws.getD q.1 0 - q.2.2)).getD q.2.1 0+q.2.2)
theorem AT (ws:List Int) (q:Nat×Nat×Int):(pour ws q).length=ws.length:=by unfold pour;rw [dh,dh]
def qN (ws:List Int) (qs:List (Nat×Nat×Int)):List Int:=qs.foldl pour ws
theorem QG (qs:List (Nat×Nat×Int)):∀ws:List Int,(qN ws qs).length=ws.length:=by
 induction qs with
 |nil=>intro ws;rfl
 |cons q r ih=>intro ws;show (qN (pour ws q) r).length=_;rw [ih,AT]
theorem N2 (ws:List Int) (qs:List (Nat×Nat×Int)) (q:Nat×Nat×Int):qN ws (qs++[q])=pour (qN ws qs) q:=by
 unfold qN;rw [foldl_append];rfl
theorem sY (ws:List Int) (qs:List (Nat×Nat×Int)) (i:Nat) (q:Nat×Nat×Int) (h:qs[i]?=some q):qN ws (qs.take (i+1))=pour (qN ws (qs.take i)) q:=by
 rw [aG,h];exact N2 ..
def EX (K:W.Frag) (H:Hp) (rs:List V) (qs:List (Nat×Nat×Int)) (n:Nat):Prop :=
 rs.length=qs.length/\∀(i:Nat) r,rs[i]?=some r->∃a,∃(s t:Nat) (m:Int),r=.ref a/\qs[i]?=some (s,t,m)/\SqT K H a [.int s,.int t,.int m]/\s<n/\t<n
def gK (K:W.Frag):Sp:=fun vs H Q _=>∃w p ws rs qs,vs=[.ref w,.ref p]/\Ints K H w ws/\SqL K H p rs/\EX K H rs qs ws.length/\ws.length<=1000/\
 ∀r H',Same H H'->H r=none->H' r=some (.tup ((qN ws qs).map V.int))->Q (.ref r) H'
def Keep (d:Addr) (H H':Hp):Prop:=∀b o,b≠d->H b=some o->H' b=some o
theorem Keep.refl (d:Addr) (H:Hp):Keep d H H:=fun _ _ _ q=>q
variable {d:Addr}
theorem Keep.of (s:Same H H'):Keep d H H':=fun b o _ q=>s b o q
theorem Keep.trans {H1 H2:Hp} (a:Keep d H H1) (b:Keep d H1 H2):Keep d H H2:=fun c o n q=>b c o n (a c o n q)
theorem Keep.upd (k:Keep d H H') (o:HO):Keep d H (upd H' d o):=fun b u n q=>by rw [jP n];exact k b u n q
variable {ys:List V}
theorem Keep.sqt (k:Keep d H H') (hd:H d=some (.lst ys)) (h:SqT K H a xs):SqT K H' a xs:=by
 rcases h with (h|⟨o,h⟩)|h
 ·exact .inl (.inl (k _ _ (vL h hd (fun z=>nomatch z)) h))
 ·exact .inl (.inr ⟨o,k _ _ (vL h hd (fun z=>nomatch z)) h⟩)
 ·exact .inr h
def lettersS:Str:="abcdefghijklmnopqrstuvwxyz"
theorem OG:lettersS.cps.toList.length=26:=by decide +kernel
def mC (z:Nat):Nat:=lettersS.cps.toList.getD z 0
theorem PQ {z:Int} (h0:0<=z) (h1:z<26):qS lettersS.cps.toList z=some (mC z.toNat):=by
 have h:=kQ (xs:=lettersS.cps.toList) (j:=z.toNat) (v:=mC z.toNat) (by
  unfold mC;rw [ad,aa (by rw [OG];lia)];rfl)
 have e:((z.toNat:Nat):Int)=z:=by lia
 rwa [e] at h
def yR (n h l r:V):List (Str×V):=jO "room" r (jO "low" l (jO "high" h (jO "name" n [])))
theorem W4:¬(("name":Str)="high"):=by decide +kernel
theorem W3:¬(("name":Str)="low"):=by decide +kernel
theorem W2:¬(("name":Str)="room"):=by decide +kernel
theorem W7:¬(("high":Str)="low"):=by decide +kernel
theorem W6:¬(("high":Str)="room"):=by decide +kernel
theorem W5:¬(("low":Str)="room"):=by decide +kernel
theorem UZ (n h l r:V):(yR n h l r).lookup ("name":Str)=some n:=by
 unfold yR;rw [vU,if_neg W2,vU,if_neg W3,vU,if_neg W4,vU,if_pos rfl]
theorem U0 (n h l r:V):(yR n h l r).lookup ("high":Str)=some h:=by
 unfold yR;rw [vU,if_neg W6,vU,if_neg W7,vU,if_pos rfl]
theorem WB (n h l r:V):(yR n h l r).lookup ("low":Str)=some l:=by
 unfold yR;rw [vU,if_neg W5,vU,if_pos rfl]
theorem UY (n h l r:V):(yR n h l r).lookup ("room":Str)=some r:=by
 unfold yR;rw [vU,if_pos rfl]
variable {m:Str}
theorem FU (n h l r:V) (h1:¬m="room") (h2:¬m="low") (h3:¬m="high") (h4:¬m="name"):(yR n h l r).lookup m=none:=by
 unfold yR;rw [vU,if_neg h1,vU,if_neg h2,vU,if_neg h3,vU,if_neg h4];rfl
def PartsAt (H:Hp) (rs:List V) (ps:List (Str×Int)):Prop:=rs.length=ps.length/\∀(i:Nat) r,rs[i]?=some r->∃a s,∃(n:Int),r=.ref a/\ps[i]?=some (s,n)/\H a=some (.tup [.str s,.int n])
theorem PartsAt.nil:PartsAt H [] []:=⟨rfl,fun i r hi=>by cases hi⟩
variable {rs:List V}
theorem PartsAt.keep {ps:List (Str×Int)} (k:Keep d H H') (hd:H d=some (.lst ys)) (h:PartsAt H rs ps):PartsAt H' rs ps:=by
 refine ⟨h.1,fun i r hi=>?_⟩;obtain ⟨a,s,n,h1,h2,h3⟩:=h.2 i r hi;exact ⟨a,s,n,h1,h2,k _ _ (vL h3 hd (fun z=>nomatch z)) h3⟩
theorem PartsAt.snoc {ps:List (Str×Int)} {s:Str} {n:Int} (h:PartsAt H rs ps) (ht:H a=some (.tup [.str s,.int n])):PartsAt H (rs++[.ref a]) (ps++[(s,n)]):=by
 refine ⟨by rw [ag,ag,h.1];rfl,fun i r hi=>?_⟩
 by_cases hl:i<rs.length
 ·rw [aC hl] at hi;obtain ⟨b,s',n',h1,h2,h3⟩:=h.2 i r hi;exact ⟨b,s',n',h1,by rw [aC (by rw [<- h.1];exact hl)];exact h2,h3⟩
 ·rw [aE (by lia)] at hi;have hz:i - rs.length=0:=by
   have:=(af.mp hi).1;rw [aO] at this
   lia
  rw [hz] at hi;have e:V.ref a=r:=az hi;refine ⟨a,s,n,e.symm,?_,ht⟩;rw [aE (by rw [<- h.1];lia),<- h.1,hz];rfl
def zD (q:Str×Int):Bool := !decide (q.2=0)
def eK (K:W.Frag):Sp:=fun vs H Q _=>∃(p:Addr) (rs:List V) (ps:List (Str×Int)),vs=[.ref p]/\SqL K H p rs/\PartsAt H rs ps/\rs.length<=10/\
 ∀r H' rs',Same H H'->H r=none->H' r=some (.lst rs')->PartsAt H' rs' (ps.filter zD)->Q (.ref r) H'
def eJ (e:Str) (n h l r v:V):List (Str×V):=jO e v (yR n h l r)
theorem uO (e:Str) (n h l r v:V):(eJ e n h l r v).lookup e=some v:=by
 unfold eJ;rw [vU,if_pos rfl]
theorem DW {e:Str} (ne:¬m=e) (n h l r v:V):(eJ e n h l r v).lookup m=(yR n h l r).lookup m:=by
 unfold eJ;rw [vU,if_neg ne]
theorem BE (n h l r:V):(yR n h l r).length<1000:=by
 have h1:=zO "high" h (jO "name" n []);have h2:=zO "low" l (jO "high" h (jO "name" n []));have h3:=zO "room" r (jO "low" l (jO "high" h (jO "name" n [])));have h4:(jO ("name":Str) n []).length=1:=rfl;unfold yR
 lia
def wv (b:Bool):V:=if b then .str "up" else .str "down"
theorem WO:¬(V.str "down"=V.str "up"):=fun h=>absurd (V.str.inj h) (by decide +kernel)
def jE (cP cB cU:Addr):Kd->Addr
 |.plain=>cP
 |.basin=>cB
 |.pump=>cU
def ZC (kd:Kd) (n h l r v:V):List (Str×V):=match kd with
 |.plain=>yR n h l r
 |.basin=>eJ "side" n h l r v
 |.pump=>eJ "lift" n h l r v
theorem eH (kd:Kd) (n h l r v:V) (h1:¬m="side") (h2:¬m="lift"):(ZC kd n h l r v).lookup m=(yR n h l r).lookup m:=by
 cases kd
 ·rfl
 ·exact DW h1 _ _ _ _ _
 ·exact DW h2 _ _ _ _ _
theorem bY (kd:Kd) (n h l r v:V):(ZC kd n h l r v).lookup ("name":Str)=some n:=by rw [eH kd _ _ _ _ _ (by decide +kernel) (by decide +kernel)];exact UZ ..
theorem eA (kd:Kd) (n h l r v:V):(ZC kd n h l r v).lookup ("high":Str)=some h:=by rw [eH kd _ _ _ _ _ (by decide +kernel) (by decide +kernel)];exact U0 ..
theorem eI (kd:Kd) (n h l r v:V):(ZC kd n h l r v).lookup ("low":Str)=some l:=by rw [eH kd _ _ _ _ _ (by decide +kernel) (by decide +kernel)];exact WB ..
theorem gD (kd:Kd) (n h l r v:V):(ZC kd n h l r v).lookup ("room":Str)=some r:=by rw [eH kd _ _ _ _ _ (by decide +kernel) (by decide +kernel)];exact UY ..
theorem U6 (kd:Kd) (n h l r v:V):(ZC kd n h l r v).lookup ("fill_parts":Str)=none:=by rw [eH kd _ _ _ _ _ (by decide +kernel) (by decide +kernel)];exact FU _ _ _ _ (by decide +kernel) (by decide +kernel) (by decide +kernel) (by decide +kernel)
theorem WJ (kd:Kd) (n h l r v:V):(ZC kd n h l r v).lookup ("let_parts":Str)=none:=by rw [eH kd _ _ _ _ _ (by decide +kernel) (by decide +kernel)];exact FU _ _ _ _ (by decide +kernel) (by decide +kernel) (by decide +kernel) (by decide +kernel)
def LockAt (cs:Kd->Addr) (H:Hp) (x:Addr) (kd:Kd) (n h l:V) (room v:Int):Prop:=∃dx:Addr,H x=some (.ins (cs kd) dx (ZC kd n h l (.int room) (.int v)))
variable {cs:Kd->Addr} {x:Addr}
theorem LockAt.same {kd:Kd} {n h l:V} {room v:Int} (e:Same H H') (a:LockAt cs H x kd n h l room v):LockAt cs H' x kd n h l room v:=by
 obtain ⟨dx,a⟩:=a;exact ⟨dx,e _ _ a⟩
def bH (kd:Kd) (room v b:Int):List (Str×Int):=match kd with
 |.plain=>([("high",room)]:List (Str×Int)).filter zD
 |.basin=>([("basin",b),("high",room - b)]:List (Str×Int)).filter zD
 |.pump=>([("low",v),("high",room - v)]:List (Str×Int)).filter zD
def QU (kd:Kd) (room v b:Int):List (Str×Int):=match kd with
 |.basin=>([("basin",v - b),("low",room - (v - b))]:List (Str×Int)).filter zD
 |_=>([("low",room)]:List (Str×Int)).filter zD
theorem CF (kd:Kd) (room v b:Int):(bH kd room v b).length<=2:=by
 cases kd
 ·exact aK (bf _ _) (by show 1<=2;decide)
 ·exact aK (bf _ _) (by show 2<=2;decide)
 ·exact aK (bf _ _) (by show 2<=2;decide)
theorem DL (kd:Kd) (room v b:Int):(QU kd room v b).length<=2:=by
 cases kd
 ·exact aK (bf _ _) (by show 1<=2;decide)
 ·exact aK (bf _ _) (by show 2<=2;decide)
 ·exact aK (bf _ _) (by show 1<=2;decide)
def JL (cs:Kd->Addr) (F:Kd->Int->Int->Int->List (Str×Int)) (kd:Kd):Sp:=fun vs H Q _=>∃x n h l,∃(room v b:Int),vs=[.ref x,.int b]/\LockAt cs H x kd n h l room v/\
 ∀r H' rs,Same H H'->H r=none->H' r=some (.lst rs)->PartsAt H' rs (F kd room v b)->Q (.ref r) H'
def T6 (cs:Kd->Addr):Sp:=fun vs H Q _=>∃kd x n h l,∃(room v b:Int),vs=[.ref x,.int b]/\LockAt cs H x kd n h l room v/\
 ∀r H' rs,Same H H'->H r=none->H' r=some (.lst rs)->PartsAt H' rs (([("low",room)]:List (Str×Int)).filter zD)->Q (.ref r) H'
def dY (cs:Kd->Addr):Sp:=fun vs H Q _=>∃kd x dx n h l r,vs=[.ref x,n,h,l,r]/\H x=some (.ins (cs kd) dx [])/\∀H':Hp,Keep x H H'->H' x=some (.ins (cs kd) dx (yR n h l r))->Q .non H'
def dX (cs:Kd->Addr) (kd:Kd):Sp:=fun vs H Q _=>∃x dx n h l r v,vs=[.ref x,n,h,l,r,v]/\H x=some (.ins (cs kd) dx [])/\∀H':Hp,Keep x H H'->H' x=some (.ins (cs kd) dx (ZC kd n h l r v))->Q .non H'
def PoursS (H:Hp) (rs:List V) (ps:List (Str×Str×Int)):Prop:=rs.length=ps.length/\∀(i:Nat) r,rs[i]?=some r->∃a s t,∃(n:Int),r=.ref a/\ps[i]?=some (s,t,n)/\H a=some (.tup [.str s,.str t,.int n])
theorem PoursS.nil:PoursS H [] []:=⟨rfl,fun i r hi=>by cases hi⟩
variable {ps:List (Str×Str×Int)}
theorem PoursS.same (e:Same H H') (h:PoursS H rs ps):PoursS H' rs ps:=by
 refine ⟨h.1,fun i r hi=>?_⟩;obtain ⟨a,s,t,n,h1,h2,h3⟩:=h.2 i r hi;exact ⟨a,s,t,n,h1,h2,e _ _ h3⟩
theorem PoursS.keep (k:Keep d H H') (hd:H d=some (.lst ys)) (h:PoursS H rs ps):PoursS H' rs ps:=by
 refine ⟨h.1,fun i r hi=>?_⟩;obtain ⟨a,s,t,n,h1,h2,h3⟩:=h.2 i r hi;exact ⟨a,s,t,n,h1,h2,k _ _ (vL h3 hd (fun z=>nomatch z)) h3⟩
theorem PoursS.append {rs':List V} {ps':List (Str×Str×Int)} (h:PoursS H rs ps) (h':PoursS H rs' ps'):PoursS H (rs++rs') (ps++ps'):=by
 refine ⟨by rw [ag,ag,h.1,h'.1],fun i r hi=>?_⟩
 by_cases hl:i<rs.length
 ·rw [aC hl] at hi;obtain ⟨b,s',t',n',h1,h2,h3⟩:=h.2 i r hi;exact ⟨b,s',t',n',h1,by rw [aC (by rw [<- h.1];exact hl)];exact h2,h3⟩
 ·rw [aE (by lia)] at hi;obtain ⟨b,s',t',n',h1,h2,h3⟩:=h'.2 _ r hi;exact ⟨b,s',t',n',h1,by rw [aE (by rw [<- h.1];lia),<- h.1];exact h2,h3⟩
theorem PoursS.one {s t:Str} {n:Int} (ht:H a=some (.tup [.str s,.str t,.int n])):PoursS H [.ref a] [(s,t,n)]:=by
 refine ⟨rfl,fun i r hi=>?_⟩;cases i with
 |zero=>exact ⟨a,s,t,n,(az hi).symm,rfl,ht⟩
 |succ i=>cases hi
def zQ (kd:Kd) (room v b:Int):List (Str×Str×Int):=(bH kd room v b).map fun p=>(p.1,"chamber",p.2)
def y9 (kd:Kd) (room v b:Int):List (Str×Str×Int):=(QU kd room v b).map fun p=>("chamber",p.1,p.2)
theorem fS (kd:Kd) (room v b:Int):(zQ kd room v b).length<=2:=by unfold zQ;rw [ac];exact CF ..
theorem bU (kd:Kd) (room v b:Int):(y9 kd room v b).length<=2:=by unfold y9;rw [ac];exact DL ..
def ZK (p:Str×Str×Int->Bool) (qs:List (Str×Str×Int)):List Int:=(qs.filter p).map (·.2.2)
theorem BM (p:Str×Str×Int->Bool) (qs:List (Str×Str×Int)) (i:Nat) (q:Str×Str×Int) (h:qs[i]?=some q):ZK p (qs.take (i+1))=ZK p (qs.take i)++(if p q=true then [q.2.2] else []):=by
 unfold ZK;rw [aG,h];simp only [Option.toList,gd,aw]
 by_cases c:p q=true
 ·rw [if_pos c];simp [c]
 ·rw [if_neg c];simp [c]
theorem CQ (p:Str×Str×Int->Bool) (qs:List (Str×Str×Int)) (i:Nat):(ZK p (qs.take i)).length<=i:=by
 unfold ZK;rw [ac];exact aK (bf _ _) (gu _ _)
def gY (s:Str) (q:Str×Str×Int):Bool:=decide (q.1=s)
def toS (s:Str) (q:Str×Str×Int):Bool:=decide (q.2.1=s)
def FG (s:Str) (qs:List (Str×Str×Int)):Int:=(ZK (gY s) qs).sum
def QO (b:Int) (qs:List (Str×Str×Int)):Int:=b+(ZK (toS "basin") qs).sum - FG "basin" qs
theorem DR (s t:Str):decide (V.str s=V.str t)=decide (s=t):=decide_eq_decide.mpr ⟨V.str.inj,fun e=>by rw [e]⟩
def fU (cs:Kd->Addr) (F:Kd->Int->Int->Int->List (Str×Str×Int)):Sp:=fun vs H Q _=>∃x kd n h l,∃(room v b:Int),vs=[.ref x,.int b]/\LockAt cs H x kd n h l room v/\
 ∀r H' rs,Same H H'->H r=none->H' r=some (.lst rs)->PoursS H' rs (F kd room v b)->Q (.ref r) H'
def EC:Sp:=fun vs H Q _=>∃s p rs qs,vs=[.str s,.ref p]/\H p=some (.lst rs)/\PoursS H rs qs/\rs.length<=999/\∀H',Same H H'->Q (.int (FG s qs)) H'
def EE:Sp:=fun vs H Q _=>∃(b:Int),∃p rs qs,vs=[.int b,.ref p]/\H p=some (.lst rs)/\PoursS H rs qs/\rs.length<=999/\∀H',Same H H'->Q (.int (QO b qs)) H'
def mU (kd:Kd) (room v:Int) (f:Bool) (b:Int) (w:Bool):List (Str×Str×Int):=match w,f with
 |true,true=>y9 kd room v b++zQ kd room v (QO b (y9 kd room v b))
 |true,false=>zQ kd room v b
 |false,true=>y9 kd room v b
 |false,false=>zQ kd room v b++y9 kd room v (QO b (zQ kd room v b))
theorem BN (b:Int):QO b []=b:=by show b+0 - 0=b;lia
theorem B7 (kd:Kd) (room v:Int) (f:Bool) (b:Int) (w:Bool):(mU kd room v f b w).length<=4:=by
 have h1:=fun b=>fS kd room v b
 have h2:=fun b=>bU kd room v b
 cases w<;>cases f
 ·show (zQ kd room v b++y9 kd room v (QO b (zQ kd room v b))).length<=4;rw [ag];have:=h1 b;have:=h2 (QO b (zQ kd room v b));lia
 ·exact aK (h2 b) (by decide)
 ·exact aK (h1 b) (by decide)
 ·show (y9 kd room v b++zQ kd room v (QO b (y9 kd room v b))).length<=4;rw [ag];have:=h2 b;have:=h1 (QO b (y9 kd room v b));lia
def B0 (cs:Kd->Addr):Sp:=fun vs H Q _=>∃x kd n h l,∃(room v b:Int),∃f w,vs=[.ref x,.bl f,.int b,wv w]/\LockAt cs H x kd n h l room v/\
 ∀r H' rs,Same H H'->H r=none->H' r=some (.lst rs)->PoursS H' rs (mU kd room v f b w)->Q (.ref r) H'
variable {α:Type} {i:Nat}
theorem AK {β:Type} {f:α->β} {ps:List α} {p:α} (h:ps[i]?=some p):(ps.take (i+1)).map f=(ps.take i).map f++[f p]:=by
 rw [aG,h,aw];rfl
def eQ (c m:Int):Int:=if m - c>0 then m - c else 0
def Z9 (ws:List (Int×Nat)) (i:Nat):Int:=(ws.getD i (0,0)).1
def qK (ws:List (Int×Nat)) (i:Nat):Nat:=(ws.getD i (0,0)).2
def WeirsAt (K:W.Frag) (H:Hp) (rs:List V) (ws:List (Int×Nat)) (n:Nat):Prop :=
 rs.length=ws.length/\∀(i:Nat) r,rs[i]?=some r->∃a,∃(c:Int) (t:Nat),r=.ref a/\ws[i]?=some (c,t)/\SqT K H a [.int c,.int t]/\t<n
def nE (R:Nat) (ws:List (Int×Nat)):Prop:=∀(i:Nat) (c:Int) (t:Nat),ws[i]?=some (c,t)->t<i\/R<=t
variable {ws:List (Int×Nat)}
theorem WeirsAt.same (e:Same H H') (h:WeirsAt K H rs ws n):WeirsAt K H' rs ws n:=by
 refine ⟨h.1,fun i r hi=>?_⟩;obtain ⟨a,c,t,h1,h2,h3,h4⟩:=h.2 i r hi;exact ⟨a,c,t,h1,h2,wN e h3,h4⟩
theorem lN (h:WeirsAt K H rs ws n) (hi:i<ws.length):∃a,qS rs (i:Int)=some (V.ref a)/\SqT K H a [.int (Z9 ws i),.int (qK ws i)]/\qK ws i<n:=by
 have hk:i<rs.length:=by rw [h.1];exact hi
 obtain ⟨a,c,t,h1,h2,h3,h4⟩:=h.2 i rs[i] (aa hk);have e:ws.getD i (0,0)=(c,t):=by rw [ad,h2];rfl
 refine ⟨a,kQ (by rw [aa hk,h1]),?_,?_⟩
 ·unfold Z9 qK;rw [e];exact h3
 ·unfold qK;rw [e];exact h4
theorem T0 {R:Nat} (h:nE R ws) (hi:i<ws.length):qK ws i<i\/R<=qK ws i:=by
 have e:ws[i]?=some ((ws.getD i (0,0)).1,(ws.getD i (0,0)).2):=by rw [ad,aa hi];rfl
 exact h i _ _ e
def E5 (K:W.Frag):Sp:=fun vs H Q _=>∃wq wa rs ws,∃(n:Nat),∃ms,∃(at_:Nat),vs=[.ref wq,.ref wa,.int at_]/\SqL K H wq rs/\WeirsAt K H rs ws n/\Ints K H wa ms/\at_<ws.length/\at_<ms.length/\
 Q (.int (eQ (Z9 ws at_) (ms.getD at_ 0))) H
def JA (t:Nat->Nat) (g:Nat->Int) (j:Nat):Nat->Int
 |0=>0
 |a+1=>JA t g j a+(if t a=j then g a else 0)
theorem AU (t:Nat->Nat) (j:Nat):∀R:Nat,JA t (fun _=>0) j R=0
 |0=>rfl
 |R+1=>by
  show JA t (fun _=>0) j R+_=0;rw [AU t j R]
  split<;>rfl
theorem BH {t:Nat->Nat} {g g':Nat->Int} {i:Nat} (hg:∀a,a≠i->g' a=g a) (j:Nat):∀{R:Nat},JA t g' j R=JA t g j R+(if i<R/\t i=j then g' i - g i else 0)
 |0=>by
  show (0:Int)=0+_;rw [if_neg (by lia)];rfl
 |R+1=>by
  show JA t g' j R+(if t R=j then g' R else 0)=JA t g j R+(if t R=j then g R else 0)+(if i<R+1/\t i=j then g' i - g i else 0);rw [BH hg j (R:=R)]
  by_cases hi:i=R
  ·subst hi
   repeat' split
   all_goals lia
  ·rw [hg R (fun e=>hi e.symm)]
   repeat' split
   all_goals lia
def VH (R:Nat) (c:Nat->Int) (t:Nat->Nat) (m:Nat->Int) (g:Nat->Int):Prop:=∀i,i<R->g i=eQ (c i) (m i+JA t g i R)
def FL (R:Nat) (t:Nat->Nat):Prop:=∀a,a<R->t a<a\/R<=t a
def after (R:Nat) (t:Nat->Nat) (m g:Nat->Int) (j:Nat):Int:=m j+JA t g j R - (if j<R then g j else 0)
def ZR:List (Nat×Nat×Int)->Nat->Int
 |[],_=>0
 |q::r,j=>(if q.2.1=j then q.2.2 else 0) - (if q.1=j then q.2.2 else 0)+ZR r j
theorem fO (l:List Int) (i j:Nat) (z:Int) (h:i<l.length):(l.set i z).getD j 0=if i=j then z else l.getD j 0:=by
 rw [ad,ad]
 by_cases e:i=j
 ·subst e;rw [fz h,if_pos rfl];rfl
 ·rw [gm e,if_neg e]
theorem RB (ms:List Int) (q:Nat×Nat×Int) (j:Nat) (h1:q.1<ms.length) (h2:q.2.1<ms.length):(pour ms q).getD j 0=ms.getD j 0+((if q.2.1=j then q.2.2 else 0) - (if q.1=j then q.2.2 else 0)):=by
 unfold pour;rw [fO _ _ _ _ (by rw [dh];exact h2),fO _ _ _ _ h1,fO _ _ _ _ h1]
 by_cases a:q.2.1=j
 ·rw [if_pos a,if_pos a];rw [a]
  by_cases b:q.1=j
  ·rw [if_pos b,if_pos b];rw [b];lia
  ·rw [if_neg b,if_neg b];lia
 ·rw [if_neg a,if_neg a]
  by_cases b:q.1=j
  ·rw [if_pos b,if_pos b];rw [b];lia
  ·rw [if_neg b,if_neg b];lia
theorem sZ:∀(qs:List (Nat×Nat×Int)) (ms:List Int) (j:Nat),(∀q∈qs,q.1<ms.length/\q.2.1<ms.length)->(qN ms qs).getD j 0=ms.getD j 0+ZR qs j
 |[],ms,j,_=>by
  show ms.getD j 0=ms.getD j 0+0
  lia
 |q::r,ms,j,h=>by
  show (qN (pour ms q) r).getD j 0=_;obtain ⟨h1,h2⟩:=h q aY;rw [sZ r (pour ms q) j (fun x hx=>by rw [AT];exact h x (aI _ hx)),RB ms q j h1 h2];show _=ms.getD j 0+((if q.2.1=j then q.2.2 else 0) - (if q.1=j then q.2.2 else 0)+ZR r j)
  lia
theorem mem_downs {a:Nat}:a∈zR n↔a<n:=by
 unfold zR;rw [mem_reverse,dq]
theorem dJ (n:Nat):(zR n).length=n:=by
 unfold zR;rw [length_reverse,aT]
variable {k:Nat}
theorem CG (h:k<n):(zR n)[k]?=some (n - 1 - k):=by
 unfold zR;rw [List.getElem?_reverse (by simpa using h),aT,ck (by lia)]
def yV (t:Nat->Nat) (g:Nat->Int) (R:Nat):List (Nat×Nat×Int):=(zR R).map fun a=>(a,t a,g a)
theorem TH {l l':List Int} (h:l.length=l'.length) (e:∀j,j<l.length->l.getD j 0=l'.getD j 0):l=l':=by
 apply ext_getElem h;intro i h1 h2;have:=e i h1;rw [ad,ad,aa h1,aa h2] at this;exact this
def cK (ms:List Int) (ws:List (Int×Nat)) (gs:List Int):List Int:=qN ms (yV (qK ws) (fun a=>gs.getD a 0) ws.length)
def ZV (ws:List (Int×Nat)) (ms gs:List Int):Prop:=gs.length=ws.length/\VH ws.length (Z9 ws) (qK ws) (fun j=>ms.getD j 0) (fun a=>gs.getD a 0)
theorem SE (h:nE ws.length ws):FL ws.length (qK ws):=fun a ha=>T0 h ha
theorem BO (h:WeirsAt K H rs ws n):∀a,a<ws.length->qK ws a<n:=fun a ha=>let ⟨_,_,_,q⟩:=lN h ha;q
structure SplInv (ws:List (Int×Nat)) (ms hs gs:List Int) (k:Nat):Prop where
 lh:hs.length=ms.length
 lg:gs.length=ws.length
 flow:∀j,j<ms.length->hs.getD j 0=ms.getD j 0+JA (qK ws) (fun a=>gs.getD a 0) j ws.length
 zero:∀a,a<ws.length - k->gs.getD a 0=0
 done:∀a,ws.length - k<=a->a<ws.length->gs.getD a 0=eQ (Z9 ws a) (ms.getD a 0+JA (qK ws) (fun a=>gs.getD a 0) a ws.length)
theorem SplInv.start (ws:List (Int×Nat)) (ms:List Int):SplInv ws ms ms (List.replicate ws.length 0) 0:=by
 have ez:(fun a:Nat=>(List.replicate ws.length (0:Int)).getD a 0)=fun _=>0:=by
  funext a;rw [ad,hU]
  split<;>rfl
 refine ⟨rfl,by simp,fun j _=>?_,fun a _=>congrFun ez a,fun a h1 h2=>by lia⟩;rw [ez,AU]
 lia
variable {ms:List Int}
theorem SplInv.step {hs gs:List Int} (hA:FL ws.length (qK ws)) (hR:ws.length<=ms.length) (hk:k<ws.length) (ht:qK ws (ws.length - 1 - k)<ms.length) (h:SplInv ws ms hs gs k) :
  SplInv ws ms (hs.set (qK ws (ws.length - 1 - k)) (hs.getD (qK ws (ws.length - 1 - k)) 0+(gs.set (ws.length - 1 - k) (eQ (Z9 ws (ws.length - 1 - k)) (hs.getD (ws.length - 1 - k) 0))).getD (ws.length - 1 - k) 0))
   (gs.set (ws.length - 1 - k) (eQ (Z9 ws (ws.length - 1 - k)) (hs.getD (ws.length - 1 - k) 0))) (k+1):=by
 obtain ⟨i,hi⟩:∃i,i=ws.length - 1 - k:=⟨_,rfl⟩;rw [<- hi] at ht ⊢;obtain ⟨lh,lg,flow,zero,done⟩:=h;have hil:i<gs.length:=by rw [lg];lia
 obtain ⟨v,hv⟩:∃v,v=eQ (Z9 ws i) (hs.getD i 0):=⟨_,rfl⟩;rw [<- hv];have gset:∀a,(gs.set i v).getD a 0=if i=a then v else gs.getD a 0:=fun a=>fO gs i a v hil
 have g0:gs.getD i 0=0:=zero i (by lia);have gi:(gs.set i v).getD i 0=v:=by rw [gset,if_pos rfl]
 have infl:∀j,JA (qK ws) (fun a=>(gs.set i v).getD a 0) j ws.length=JA (qK ws) (fun a=>gs.getD a 0) j ws.length+(if qK ws i=j then v else 0):=fun j=>by
  rw [BH (g:=fun a=>gs.getD a 0) (i:=i) (fun a ha=>by show (gs.set i v).getD a 0=gs.getD a 0;rw [gset,if_neg (Ne.symm ha)]) j];show _+(if i<ws.length/\qK ws i=j then (gs.set i v).getD i 0 - gs.getD i 0 else 0)=_;rw [gi,g0];have hiw:i<ws.length:=by lia
  repeat' split
  all_goals lia
 have hti:=hA i (by lia);refine ⟨by rw [dh,lh],by rw [dh,lg],fun j hj=>?_,fun a ha=>?_,fun a h1 h2=>?_⟩
 ·rw [fO _ _ _ _ (by rw [lh];exact ht),infl,gi];have:=flow j hj
  by_cases e:qK ws i=j
  ·rw [if_pos e,if_pos e,e]
   lia
  ·rw [if_neg e,if_neg e]
   lia
 ·rw [gset,if_neg (by lia)];exact zero a (by lia)
 ·rw [infl]
  by_cases e:i=a
  ·subst e;rw [gi,if_neg (by lia),Int.add_zero,hv,flow i (by lia)]
  ·rw [gset,if_neg e,if_neg (by lia),Int.add_zero];exact done a (by lia) h2
theorem SplInv.spl {hs gs:List Int} (h:SplInv ws ms hs gs ws.length):ZV ws ms gs:=⟨h.lg,fun i hi=>h.done i (by lia) hi⟩
theorem DF (n:Nat):(List.replicate n [V.int 0]).flatten=(List.replicate n (0:Int)).map V.int:=by
 induction n with
 |zero=>rfl
 |succ n ih =>
  rw [bn,fg,ih,bn,fj];rfl
structure Ready (K:W.Frag) (H:Hp) (wq wa:Addr) (rs:List V) (ws:List (Int×Nat)) (ms:List Int):Prop where
 w:SqL K H wq rs
 a:WeirsAt K H rs ws ms.length
 m:Ints K H wa ms
 ah:nE ws.length ws
 le:ws.length<=ms.length
 sm:ms.length<=1000
theorem Ready.same {wq wa:Addr} (e:Same H H') (h:Ready K H wq wa rs ws ms):Ready K H' wq wa rs ws ms:=⟨e.seq h.w,h.a.same e,h.m.same e,h.ah,h.le,h.sm⟩
def wC (K:W.Frag):Sp:=fun vs H Q _=>∃wq rs,vs=[.ref wq]/\SqL K H wq rs/\rs.length<=1000/\∀r H',Same H H'->H r=none->H' r=some (.lst ((zR rs.length).map fun (i:Nat)=>V.int (i:Int)))->Q (.ref r) H'
def C1 (K:W.Frag):Sp:=fun vs H Q _=>∃wq wa rs ws ms,vs=[.ref wq,.ref wa]/\Ready K H wq wa rs ws ms/\
 ∀r H' gs,Same H H'->H r=none->H' r=some (.lst (gs.map V.int))->ZV ws ms gs->Q (.ref r) H'
def BY (K:W.Frag):Sp:=fun vs H Q _=>∃wq wa rs ws ms,vs=[.ref wq,.ref wa]/\Ready K H wq wa rs ws ms/\
 ∀r H' gs,Same H H'->H r=none->H' r=some (.tup ((cK ms ws gs).map V.int))->ZV ws ms gs->Q (.ref r) H'
theorem DQ {R:Nat} {x:V} (h:((zR R).map fun (i:Nat)=>V.int (i:Int))[i]?=some x):i<R/\x=V.int ((R - 1 - i:Nat):Int):=by
 rw [ak] at h
 by_cases hi:i<R
 ·rw [CG hi] at h;exact ⟨hi,(az h).symm⟩
 ·rw [bh (by rw [dJ];lia)] at h;cases h
theorem N9 {t:Nat->Nat} {g:Nat->Int} {R:Nat} (h:i<R):(yV t g R)[i]?=some (R - 1 - i,t (R - 1 - i),g (R - 1 - i)):=by
 unfold yV;rw [ak,CG h];rfl
def q9 (q:Nat×Nat×Int):Bool := !decide (q.2.2=0)
theorem uV (j:Nat):∀qs:List (Nat×Nat×Int),ZR (qs.filter q9) j=ZR qs j
 |[]=>rfl
 |q::r=>by
  rw [bx]
  by_cases h:q.2.2=0
  ·rw [if_neg (by unfold q9;rw [aV h];decide)];show ZR (r.filter q9) j=(if q.2.1=j then q.2.2 else 0) - (if q.1=j then q.2.2 else 0)+ZR r j;rw [uV j r,h]
   repeat' split
   all_goals lia
  ·rw [if_pos (by unfold q9;rw [aH h];rfl)];show _+ZR (r.filter q9) j=_+ZR r j;rw [uV j r]
variable {qs:List (Nat×Nat×Int)}
theorem OW (h:∀q∈qs,q.1<ms.length/\q.2.1<ms.length):qN ms (qs.filter q9)=qN ms qs:=by
 refine TH (by rw [QG,QG]) fun j _=>?_
 rw [sZ _ _ _ h,sZ _ _ _ (fun q hq=>h q (bp.mp hq).1),uV]
theorem OQ {g:Nat->Int} (hR:ws.length<=n) (ht:∀a,a<ws.length->qK ws a<n):∀q∈yV (qK ws) g ws.length,q.1<n/\q.2.1<n:=fun q hq=>by
 obtain ⟨a,ha,rfl⟩:=gz.mp hq;have:=mem_downs.mp ha;exact ⟨by show a<n;lia,ht a this⟩
def PoursH (H:Hp) (rs:List V) (qs:List (Nat×Nat×Int)) (n:Nat):Prop:=rs.length=qs.length/\∀(i:Nat) r,rs[i]?=some r->∃a,∃(s t:Nat) (m:Int),r=.ref a/\qs[i]?=some (s,t,m)/\H a=some (.tup [.int s,.int t,.int m])/\s<n/\t<n
theorem PoursH.nil (H:Hp) (n:Nat):PoursH H [] [] n:=⟨rfl,fun i r hi=>by cases hi⟩
theorem PoursH.pa (h:PoursH H rs qs n):EX K H rs qs n:=⟨h.1,fun i r hi=>by
 obtain ⟨a,s,t,m,h1,h2,h3,h4⟩:=h.2 i r hi;exact ⟨a,s,t,m,h1,h2,SqT.of h3,h4⟩⟩
theorem PoursH.same (h:PoursH H rs qs n) (e:Same H H'):PoursH H' rs qs n:=⟨h.1,fun i r hi=>by
 obtain ⟨a,s,t,m,h1,h2,h3,h4⟩:=h.2 i r hi;exact ⟨a,s,t,m,h1,h2,e _ _ h3,h4⟩⟩
variable {o:HO}
theorem PoursH.put (h:PoursH H rs qs n) (hd:H d=some (.lst ys)):PoursH (upd H d o) rs qs n:=⟨h.1,fun i r hi=>by
 obtain ⟨a,s,t,m,h1,h2,h3,h4⟩:=h.2 i r hi;exact ⟨a,s,t,m,h1,h2,by rw [jP (fun z=>by rw [z,hd] at h3;cases h3)];exact h3,h4⟩⟩
theorem PoursH.append {rs':List V} {qs':List (Nat×Nat×Int)} (h:PoursH H rs qs n) (h':PoursH H rs' qs' n):PoursH H (rs++rs') (qs++qs') n:=by
 refine ⟨by rw [ag,ag,h.1,h'.1],fun i r hi=>?_⟩
 by_cases hl:i<rs.length
 ·rw [aC hl] at hi;obtain ⟨a,s,t,m,h1,h2,h3⟩:=h.2 i r hi;exact ⟨a,s,t,m,h1,by rw [aC (by rw [<- h.1];exact hl)];exact h2,h3⟩
 ·rw [aE (by lia)] at hi;obtain ⟨a,s,t,m,h1,h2,h3⟩:=h'.2 _ r hi;exact ⟨a,s,t,m,h1,by rw [aE (by rw [<- h.1];lia),<- h.1];exact h2,h3⟩
theorem PoursH.snoc {t:Nat} {m:Int} (h:PoursH H rs qs n) (ha:H a=some (.tup [.int s,.int t,.int m])) (hs:s<n) (ht:t<n):PoursH H (rs++[.ref a]) (qs++[(s,t,m)]) n:=h.append ⟨rfl,fun i r hi=>by
 rcases i with _|i
 ·cases hi;exact ⟨a,s,t,m,rfl,rfl,ha,hs,ht⟩
 ·cases hi⟩
def uE (K:W.Frag):Sp:=fun vs H Q _=>∃wq wa rs ws ms,vs=[.ref wq,.ref wa]/\Ready K H wq wa rs ws ms/\
 ∀r H' gs ys,Same H H'->H r=none->H' r=some (.lst ys)->PoursH H' ys ((yV (qK ws) (fun a=>gs.getD a 0) ws.length).filter q9) ms.length->ZV ws ms gs->Q (.ref r) H'
def l9 (K:W.Frag):Sp:=fun vs H Q _=>∃wq wa p rs ps ws ms qs,vs=[.ref wq,.ref wa,.ref p]/\Ready K H wq wa rs ws ms/\H p=some (.lst ps)/\PoursH H ps qs ms.length/\ps.length<=500/\
 ∀r H' gs ys,Same H H'->H r=none->H' r=some (.lst ys)->PoursH H' ys (qs++(yV (qK ws) (fun a=>gs.getD a 0) ws.length).filter q9) ms.length->ZV ws (qN ms qs) gs->Q (.ref r) H'
theorem OA (ws:List (Int×Nat)) (g:Nat->Int):((yV (qK ws) g ws.length).filter q9).length<=ws.length:=by
 refine aK (bf ..) ?_;unfold yV;rw [ac,dJ];exact aj _
structure RC where
 name:Str
 least:Int
 crest:Int
 berths:Int
 water:Int
 target:Int
def RC.good (r:RC) (n:Nat):Prop:=0<=r.least/\r.least<=r.crest/\r.crest<=999999999999/\1<=r.berths/\r.berths<=9/\0<=r.water/\r.water<=999999999999/\-1<=r.target/\r.target<(n:Int)
theorem YW:(10:Int) ^ Int.toNat 12=1000000000000:=by decide +kernel
structure LC where
 name:Str
 high:Int
 low:Int
 room:Int
 kd:Kd
 extra:Int
def LC.good (l:LC) (n:Nat):Prop:=1<=l.high/\l.high<(n:Int)/\0<=l.low/\l.low<l.high/\1<=l.room/\l.room<=999999999999/\(l.kd=.plain->l.extra=0)/\(l.kd≠.plain->1<=l.extra/\l.extra<=l.room)
def AllAt {α:Type} (P:V->α->Prop) (vs:List V) (xs:List α):Prop:=vs.length=xs.length/\∀(i:Nat) v,vs[i]?=some v->∃x,xs[i]?=some x/\P v x
theorem AllAt.nil {P:V->α->Prop}:AllAt P [] ([]:List α):=⟨rfl,fun i v h=>by cases h⟩
variable {vs:List V}
theorem AllAt.mono {P P':V->α->Prop} {xs:List α} (m:∀v x,P v x->P' v x) (h:AllAt P vs xs):AllAt P' vs xs:=⟨h.1,fun i v hv=>by obtain ⟨x,h1,h2⟩:=h.2 i v hv;exact ⟨x,h1,m v x h2⟩⟩
variable {v:V}
theorem AllAt.snoc {P:V->α->Prop} {xs:List α} {x:α} (h:AllAt P vs xs) (hv:P v x):AllAt P (vs++[v]) (xs++[x]):=by
 refine ⟨by rw [ag,ag,h.1];rfl,fun i w hw=>?_⟩
 by_cases hl:i<vs.length
 ·rw [aC hl] at hw;rw [aC (by rw [<- h.1];exact hl)];exact h.2 i w hw
 ·rw [aE (by lia)] at hw;have e:i=vs.length:=by
   by_cases z:i - vs.length=0
   ·lia
   ·rw [bh (by show 1<=i - vs.length;lia)] at hw;cases hw
  rw [e,ij] at hw;cases hw;refine ⟨x,?_,hv⟩;rw [e,h.1,aE (aj _),ij];rfl
theorem AllAt.get {P:V->α->Prop} {xs:List α} (h:AllAt P vs xs) {x:α} (hx:xs[i]?=some x):∃v,vs[i]?=some v/\P v x:=by
 have hi:i<vs.length:=by rw [h.1];exact (af.mp hx).1
 obtain ⟨y,h1,h2⟩:=h.2 i _ (aa hi);rw [hx] at h1;cases h1;exact ⟨_,aa hi,h2⟩
def QAt (H:Hp) (v:V) (p:Int×Int):Prop:=∃t,v=.ref t/\H t=some (.tup [.int p.1,.int p.2])
def NAt (D:List Addr) (H:Hp) (v:V) (ps:List (Int×Int)):Prop:=∃l qs,v=.ref l/\H l=some (.lst qs)/\AllAt (QAt H) qs ps/\l∉D
theorem QAt.same (e:Same H H') (v:V) (r:Int×Int):QAt H v r->QAt H' v r:=fun ⟨t,h1,h2⟩=>⟨t,h1,e _ _ h2⟩
theorem QAt.put (hd:H d=some (.lst ys)) (v:V) (r:Int×Int):QAt H v r->QAt (upd H d o) v r:=fun ⟨t,h1,h2⟩=>⟨t,h1,by rw [jP (fun z=>by rw [z,hd] at h2;cases h2)];exact h2⟩
variable {D:List Addr}
theorem NAt.same (e:Same H H') (v:V) (r:List (Int×Int)):NAt D H v r->NAt D H' v r:=fun ⟨l,qs,h1,h2,h3,h4⟩=>⟨l,qs,h1,e _ _ h2,h3.mono (QAt.same e),h4⟩
theorem NAt.put (hd:H d=some (.lst ys)) (hD:d∈D) (v:V) (r:List (Int×Int)):NAt D H v r->NAt D (upd H d o) v r:=fun ⟨l,qs,h1,h2,h3,h4⟩=>⟨l,qs,h1,by rw [jP (fun z=>h4 (by rw [z];exact hD))];exact h2,h3.mono (QAt.put hd),h4⟩
theorem NAt.less {D':List Addr} (hD:∀d∈D',d∈D) (v:V) (r:List (Int×Int)):NAt D H v r->NAt D' H v r:=fun ⟨l,qs,h1,h2,h3,h4⟩=>⟨l,qs,h1,h2,h3,fun z=>h4 (hD _ z)⟩
variable {f:Str} {fs:List (Str×V)}
theorem yF:(jO f v fs).lookup f=some v:=by rw [vU,if_pos rfl]
theorem kE {g:Str} (h:¬g=f):(jO f v fs).lookup g=fs.lookup g:=by rw [vU,if_neg h]
def uN (fs:List (Str×V)) (v_name v_least v_crest v_berths v_water v_target:V):Prop:=fs.lookup ("name":Str)=some v_name/\fs.lookup ("least":Str)=some v_least/\fs.lookup ("crest":Str)=some v_crest/\fs.lookup ("berths":Str)=some v_berths/\fs.lookup ("water":Str)=some v_water/\fs.lookup ("target":Str)=some v_target
theorem PR (v_name v_least v_crest v_berths v_water v_target:V):uN (jO "target" v_target (jO "water" v_water (jO "berths" v_berths (jO "crest" v_crest (jO "least" v_least (jO "name" v_name [])))))) v_name v_least v_crest v_berths v_water v_target:=by
 refine ⟨?_,?_,?_,?_,?_,?_⟩
 ·rw [kE (f:="target") (g:="name") (by decide +kernel),kE (f:="water") (g:="name") (by decide +kernel),kE (f:="berths") (g:="name") (by decide +kernel),kE (f:="crest") (g:="name") (by decide +kernel),kE (f:="least") (g:="name") (by decide +kernel),yF]
 ·rw [kE (f:="target") (g:="least") (by decide +kernel),kE (f:="water") (g:="least") (by decide +kernel),kE (f:="berths") (g:="least") (by decide +kernel),kE (f:="crest") (g:="least") (by decide +kernel),yF]
 ·rw [kE (f:="target") (g:="crest") (by decide +kernel),kE (f:="water") (g:="crest") (by decide +kernel),kE (f:="berths") (g:="crest") (by decide +kernel),yF]
 ·rw [kE (f:="target") (g:="berths") (by decide +kernel),kE (f:="water") (g:="berths") (by decide +kernel),yF]
 ·rw [kE (f:="target") (g:="water") (by decide +kernel),yF]
 ·rw [yF]
def tE (c:Addr):Sp:=fun vs H Q _=>∃x dx v_name v_least v_crest v_berths v_water v_target,vs=[.ref x,v_name,v_least,v_crest,v_berths,v_water,v_target]/\H x=some (.ins c dx [])/\∀H' fs,Keep x H H'->H' x=some (.ins c dx fs)->uN fs v_name v_least v_crest v_berths v_water v_target->Q .non H'
def RcAt (cR:Addr) (H:Hp) (x:Addr) (r:RC):Prop:=∃dx fs,H x=some (.ins cR dx fs)/\uN fs (.str r.name) (.int r.least) (.int r.crest) (.int r.berths) (.int r.water) (.int r.target)
variable {cR:Addr}
theorem RcAt.same {r:RC} (e:Same H H') (h:RcAt cR H x r):RcAt cR H' x r:=by
 obtain ⟨dx,fs,h1,h2⟩:=h;exact ⟨dx,fs,e _ _ h1,h2⟩
theorem QH {X:Cx} (K:W.Frag) (h:X.K=K:=by rfl):yA X (.type "list") (fun xs H Q=>∃p ys,xs=[.ref p]/\(SqL K H p ys\/SqT K H p ys)/\∀l,H l=none->Q (.ref l) (upd H l (.lst ys))):=by subst h;exact N4
theorem jY {X:Cx} (K:W.Frag) {e:Expr} {pos:Pos} {ta:TE} (he:PE X e ta) (hb:attributeBase e f X.env (eval e X.env)=eval e X.env) (h:X.K=K:=by rfl):PE X (.Attribute e f pos) (GD K ta f):=by subst h;exact HB he hb
def CanalFld (fs:List (Str×V)) (r l n:V):Prop:=fs.lookup ("reaches":Str)=some r/\fs.lookup ("locks":Str)=some l/\fs.lookup ("nights":Str)=some n/\∀m:Str,¬m="reaches"->¬m="locks"->¬m="nights"->fs.lookup m=none
theorem PU (r l n:V):CanalFld (jO "nights" n (jO "locks" l (jO "reaches" r []))) r l n:=by
 refine ⟨?_,?_,?_,fun m h1 h2 h3=>?_⟩
 ·rw [kE (f:="nights") (g:="reaches") (by decide +kernel),kE (f:="locks") (g:="reaches") (by decide +kernel),yF]
 ·rw [kE (f:="nights") (g:="locks") (by decide +kernel),yF]
 ·rw [yF]
 ·rw [kE h3,kE h2,kE h1];rfl
theorem qR {a b:Str} (h:¬a=b):¬V.str a=V.str b:=fun e=>h (V.str.inj e)
theorem CanalFld.no3 {r l n:V} (h:CanalFld fs r l n) (k:¬m="reaches"/\¬m="locks"/\¬m="nights"):fs.lookup m=none:=h.2.2.2 m k.1 k.2.1 k.2.2
def RcO (cR:Addr) (H:Hp) (v:V) (r:RC):Prop:=∃x,v=.ref x/\RcAt cR H x r
def LkO (cs:Kd->Addr) (H:Hp) (v:V) (l:LC):Prop:=∃x,v=.ref x/\LockAt cs H x l.kd (.str l.name) (.int l.high) (.int l.low) l.room l.extra
theorem RcO.same (e:Same H H') (v:V) (r:RC):RcO cR H v r->RcO cR H' v r:=fun ⟨x,h1,h2⟩=>⟨x,h1,h2.same e⟩
theorem LkO.same (e:Same H H') (v:V) (l:LC):LkO cs H v l->LkO cs H' v l:=fun ⟨x,h1,h2⟩=>⟨x,h1,h2.same e⟩
variable {y:Addr}
theorem RcO.keep (k:Keep y H H') (hy:H y=some (.lst ys)) (v:V) (r:RC):RcO cR H v r->RcO cR H' v r:=fun ⟨x,h1,dx,fs,h2,h3⟩=>⟨x,h1,dx,fs,k _ _ (vL h2 hy (fun z=>nomatch z)) h2,h3⟩
theorem LkO.keep (k:Keep y H H') (hy:H y=some (.lst ys)) (v:V) (l:LC):LkO cs H v l->LkO cs H' v l:=fun ⟨x,h1,dx,h2⟩=>⟨x,h1,dx,k _ _ (vL h2 hy (fun z=>nomatch z)) h2⟩
theorem RcO.keepI {c:Addr} (k:Keep y H H') (hy:H y=some (.ins c d [])) (v:V) (r:RC):RcO cR H v r->RcO cR H' v r:=fun ⟨x,h1,dx,fs,h2,h3⟩=>⟨x,h1,dx,fs,k _ _ (fun z=>by rw [z,hy] at h2;cases h2;cases h3.1) h2,h3⟩
theorem LkO.keepI {c:Addr} (k:Keep y H H') (hy:H y=some (.ins c d [])) (v:V) (l:LC):LkO cs H v l->LkO cs H' v l:=fun ⟨x,h1,dx,h2⟩=>⟨x,h1,dx,k _ _ (fun z=>by
 rw [z,hy] at h2;have e:=bY l.kd (.str l.name) (.int l.high) (.int l.low) (.int l.room) (.int l.extra);injection h2 with h2;injection h2 with h2 h3 h4
 rw [<- h4] at e;cases e) h2⟩
theorem QAt.keep (k:Keep y H H') (hy:H y=some o) (ho:∀xs,o≠.tup xs) (v:V) (p:Int×Int):QAt H v p->QAt H' v p:=fun ⟨t,h1,h2⟩=>⟨t,h1,k _ _ (fun z=>by rw [z,hy] at h2;exact ho _ (az h2)) h2⟩
def CnAt (cs:Kd->Addr) (cR cN:Addr) (D:List Addr) (H:Hp) (x:Addr) (R:List RC) (L:List LC) (N:List (List (Int×Int))):Prop:=∃dx rl ll nl fs rs ls ns,H x=some (.ins cN dx fs)/\CanalFld fs (.ref rl) (.ref ll) (.ref nl)/\H rl=some (.lst rs)/\H ll=some (.lst ls)/\H nl=some (.lst ns)/\AllAt (RcO cR H) rs R/\AllAt (LkO cs H) ls L/\AllAt (NAt D H) ns N/\rl∉D/\ll∉D/\nl∉D
variable {cN:Addr} {R:List RC} {L:List LC} {N:List (List (Int×Int))}
theorem CnAt.same (e:Same H H') (h:CnAt cs cR cN D H x R L N):CnAt cs cR cN D H' x R L N:=by
 obtain ⟨dx,rl,ll,nl,fs,rs,ls,ns,h1,h2,h3,h4,h5,h6,h7,h8,h9⟩:=h;exact ⟨dx,rl,ll,nl,fs,rs,ls,ns,e _ _ h1,h2,e _ _ h3,e _ _ h4,e _ _ h5,h6.mono (RcO.same e),h7.mono (LkO.same e),h8.mono (NAt.same e),h9⟩
def XO (H:Hp) (nv:V) (N:List (List (Int×Int))):Prop:=(nv=.non/\N=[])\/∃nl ns,nv=.ref nl/\H nl=some (.lst ns)/\AllAt (NAt [] H) ns N/\ns.length<=100
def tF (cs:Kd->Addr) (cR cN:Addr):Sp:=fun vs H Q _=>∃x dx rl ll nv rs ls R L N,vs=[.ref x,.ref rl,.ref ll,nv]/\H x=some (.ins cN dx [])/\H rl=some (.lst rs)/\H ll=some (.lst ls)/\AllAt (RcO cR H) rs R/\AllAt (LkO cs H) ls L/\XO H nv N/\
 ∀H',Keep x H H'->(∀D:List Addr,(∀d∈D,H d≠none)->CnAt cs cR cN D H' x R L N)->Q .non H'
def ZL (cs:Kd->Addr) (cR cN:Addr) (F:Nat->Nat->Int):Sp:=fun vs H Q _=>∃x D R L N,vs=[.ref x]/\CnAt cs cR cN D H x R L N/\Q (.int (F R.length L.length)) H
def cD (cs:Kd->Addr) (cR cN:Addr) (F:Nat->Nat->Int->Int):Sp:=fun vs H Q _=>∃x D R L N,∃(k:Int),vs=[.ref x,.int k]/\CnAt cs cR cN D H x R L N/\Q (.int (F R.length L.length k)) H
def JO (sea:Int) (r:RC):Int×Int:=(r.crest,if r.target = -1 then sea else r.target)
def JD (n m:Nat):Int:=(n:Int)+2*(m:Int)
def bL (n m:Nat):Int:=(n:Int)+2*(m:Int)+1
def mW (n m:Nat):Int:=(n:Int)+2*(m:Int)+1+1
def JP (n _m:Nat) (k:Int):Int:=(n:Int)+k
def zC (n m:Nat) (k:Int):Int:=(n:Int)+(m:Int)+k
def fT (cs:Kd->Addr) (cR cN:Addr):Sp:=fun vs H Q _=>∃x D R L N,vs=[.ref x]/\CnAt cs cR cN D H x R L N/\R.length<=100/\
 ∀l ws H',Same H H'->H l=none->H' l=some (.lst ws)->AllAt (QAt H') ws (R.map (JO (JD R.length L.length)))->Q (.ref l) H'
structure Drawn (R:List RC) (L:List LC) (N:List (List (Int×Int))):Prop where
 r8:R.length<=8
 r1:1<=R.length
 l8:L.length<=8
 n6:N.length<=6
 good:∀(i:Nat) (r:RC),R[i]?=some r->r.good i
 lock:∀(i:Nat) (l:LC),L[i]?=some l->l.good R.length
 night:∀p∈N,p.length=R.length
theorem gC {dx:Addr} {o':HO} (nx:H x=none) (ndx:H dx=none):Same H (upd (upd H dx o) x o'):=fun b u e=>by rw [jP (kZ e nx),jP (kZ e ndx)];exact e
theorem fW {H1 H2:Hp} (nx:H x=none) (u:Same H H1) (k:Keep x H1 H2):Same H H2:=fun b o e=>k b o (kZ e nx) (u b o e)
def wL (sea:Nat) (r:RC):Int×Nat:=(r.crest,if r.target = -1 then sea else r.target.toNat)
def vD (R:List RC) (m:Nat):List (Int×Nat):=R.map (wL (R.length+2*m))
def zY (R:List RC) (m:Nat):List Int:=R.map (·.water)++List.replicate (2*m+2) 0
theorem fP (R:List RC) (m:Nat):(vD R m).length=R.length:=ac _
theorem fQ (R:List RC) (m:Nat):(zY R m).length=R.length+2*m+2:=by
 unfold zY;rw [ag,ac,bw]
 lia
def cG (R:List RC):Prop:=∀(i:Nat) r,R[i]?=some r->-1<=r.target/\r.target<(i:Int)
theorem AM {m:Nat} (h:cG R):nE (vD R m).length (vD R m):=by
 intro i c t hi;rw [fP];unfold vD at hi;rw [ak] at hi;cases hr:R[i]? with
 |none=>rw [hr] at hi;cases hi
 |some r =>
  rw [hr] at hi;have e:wL (R.length+2*m) r=(c,t):=az hi;obtain ⟨h1,h2⟩:=h i r hr;unfold wL at e;have e2:(if r.target = -1 then R.length+2*m else r.target.toNat)=t:=bz Prod.snd e
  by_cases ht:r.target = -1
  ·rw [if_pos ht] at e2;lia
  ·rw [if_neg ht] at e2;lia
theorem CT {ws:List V} {m:Nat} (hT:cG R) (h:AllAt (QAt H) ws (R.map (JO (JD R.length m)))):WeirsAt K H ws (vD R m) (zY R m).length:=by
 refine ⟨by rw [h.1,ac,fP],fun i v hv=>?_⟩;obtain ⟨p,hp,t,rfl,ht⟩:=h.2 i v hv;rw [ak] at hp;cases hr:R[i]? with
 |none=>rw [hr] at hp;cases hp
 |some r =>
  rw [hr] at hp;cases hp;obtain ⟨h1,h2⟩:=hT i r hr;have hi:i<R.length:=(af.mp hr).1;refine ⟨t,r.crest,if r.target = -1 then R.length+2*m else r.target.toNat,rfl,?_,?_,?_⟩
  ·unfold vD;rw [ak,hr];rfl
  ·have e:(((if r.target = -1 then R.length+2*m else r.target.toNat):Nat):Int)=(JO (JD R.length m) r).2:=by
    unfold JO JD
    by_cases ht:r.target = -1
    ·rw [if_pos ht,if_pos ht];lia
    ·rw [if_neg ht,if_neg ht];lia
   rw [e];exact SqT.of ht
  ·rw [fQ];split<;>lia
def CZ (cs:Kd->Addr) (cR cN:Addr):Sp:=fun vs H Q _=>∃x D R L N,vs=[.ref x]/\CnAt cs cR cN D H x R L N/\R.length<=100/\L.length<=100/\cG R/\
 ∀r H' gs,Same H H'->H r=none->H' r=some (.tup ((cK (zY R L.length) (vD R L.length) gs).map V.int))->ZV (vD R L.length) (zY R L.length) gs->Q (.ref r) H'
def fZ (cs:Kd->Addr) (cR cN:Addr):Sp:=fun vs H Q _=>∃x wa D R L N,∃(ms:List Int) (k:Nat),vs=[.ref x,.ref wa,.int (k:Int)]/\CnAt cs cR cN D H x R L N/\H wa=some (.tup (ms.map V.int))/\R.length+k<ms.length/\Q (.bl (decide (0<ms.getD (R.length+k) 0))) H
theorem tH (h:Drawn R L N):cG R:=fun i r hr=>by
 obtain ⟨g1,g2,g3,g4,g5,g6,g7,g8,g9⟩:=h.good i r hr;exact ⟨g8,g9⟩
def bZ (K:W.Frag):Sp:=fun vs H Q _=>∃s,∃(ns:List Int) (k:Int) (m:Int),vs=[.ref s,.int k,.int m]/\SqL K H s (ns.map V.int)/\ns.length<=63/\0<=k/\k<=100000/\1<=m/\∀z:Int,0<=z->z<m->Q (.int z) H
def wA (K:W.Frag):Sp:=fun vs H Q _=>∃s,∃(ns:List Int),vs=[.ref s]/\SqL K H s (ns.map V.int)/\ns.length<=63/\∀z:Int,1<=z->z<=10000000000->Q (.int z) H
theorem W8 {k:Int} (h0:0<=k) (h1:k<=100000):0<=k*k/\k*k<=10000000000:=by
 refine ⟨Int.mul_nonneg h0 h0,?_⟩;have:=Int.mul_le_mul h1 h1 h0 (by decide:(0:Int)<=100000)
 lia
def BW (K:W.Frag):Sp:=fun vs H Q _=>∃s,∃(ns:List Int) (k n:Nat) (u:Int),vs=[.ref s,.int (k:Int),.int (n:Int),.int u]/\SqL K H s (ns.map V.int)/\ns.length<=63/\k<6/\n<=8/\1<=u/\u<=10000000000/\∀l p H',p.length=n->(∀q∈p,0<=q.1/\0<=q.2)->Same H H'->H l=none->NAt [] H' (.ref l) p->Q (.ref l) H'
theorem FJ (zs:List Int) {i:Int} (h0:0<=i) (h:i<(zs.length:Int)):∃z∈zs,qS (zs.map V.int) i=some (.int z):=by
 have hl:i.toNat<zs.length:=by lia
 have:=kQ (xs:=zs.map V.int) (j:=i.toNat) (v:=.int zs[i.toNat]) (by rw [ak,aa hl];rfl);rw [show ((i.toNat:Nat):Int)=i by lia] at this;exact ⟨_,fu hl,this⟩
theorem b5 {a u:Int} {m:Int} (h0:0<=a) (h1:a<=m) (u0:1<=u) (u1:u<=10000000000) (hm:0<=m):0<=a*u/\a*u<=m*10000000000:=by
 refine ⟨Int.mul_nonneg h0 (by lia),?_⟩;exact Int.mul_le_mul h1 u1 (by lia) hm
def yI (b:Bool):Str:=if b then "up" else "down"
def v7 (L:List LC) (p:Nat×Bool):Int×Int:=match L[p.1]? with
 |some l=>if p.2 then (l.low,l.high) else (l.high,l.low)
 |none=>(0,0)
theorem Z7 {l:LC} (h:L[k]?=some l):v7 L (k,true)=(l.low,l.high):=by unfold v7;rw [h];rfl
theorem Z1 {l:LC} (h:L[k]?=some l):v7 L (k,false)=(l.high,l.low):=by unfold v7;rw [h];rfl
def PAt (H:Hp) (v:V) (p:Nat×Bool):Prop:=∃t,v=.ref t/\H t=some (.tup [.int (p.1:Int),.str (yI p.2)])
theorem PAt.same (e:Same H H') (v:V) (p:Nat×Bool):PAt H v p->PAt H' v p:=fun ⟨t,h1,h2⟩=>⟨t,h1,e _ _ h2⟩
theorem PAt.put (hd:H d=some (.lst ys)) (v:V) (p:Nat×Bool):PAt H v p->PAt (upd H d o) v p:=fun ⟨t,h1,h2⟩=>⟨t,h1,by rw [jP (fun z=>by rw [z,hd] at h2;cases h2)];exact h2⟩
def vC (L:List LC) (s:Int) (ps:List (Nat×Bool)):List Int:=s::ps.map fun p=>(v7 L p).2
def JR (L:List LC) (s:Int) (ps:List (Nat×Bool)):Prop:=∀(j:Nat) (p:Nat×Bool),ps[j]?=some p->(vC L s ps)[j]?=some (v7 L p).1
theorem t6 (L:List LC) (s:Int) (ps:List (Nat×Bool)) (p:Nat×Bool):vC L s (ps++[p])=vC L s ps++[(v7 L p).2]:=by unfold vC;rw [aw];rfl
theorem fX (L:List LC) (s:Int) (ps:List (Nat×Bool)):(vC L s ps).length=ps.length+1:=by unfold vC;rw [aZ,ac]
theorem R3 (L:List LC) (s:Int) (ps:List (Nat×Bool)) (i:Nat):(vC L s ps).take (i+1)=vC L s (ps.take i):=by unfold vC;rw [take_succ_cons,map_take]
variable {j:Nat}
theorem U8 {s:Int} {ps:List (Nat×Bool)} (h:j<ps.length+1):(vC L s ps)[j]?=(vC L s (ps.take j))[j]?:=by
 rw [<- R3,List.getElem?_take,if_pos (by lia)]
variable {p:Nat×Bool}
theorem tO (d:Drawn R L N) (h:p.1<L.length):∃l,L[p.1]?=some l/\l.good R.length:=⟨_,aa h,d.lock _ _ (aa h)⟩
def bE (L:List LC) (r:Int) (k:Nat):List (Nat×Bool):=match L[k]? with
 |some l=>(if l.low=r then [(k,true)] else [])++(if l.high=r then [(k,false)] else [])
 |none=>[]
def Z5 (L:List LC) (r:Int) (n:Nat):List (Nat×Bool):=(List.range n).flatMap (bE L r)
def l7 (L:List LC) (r:Int):List (Nat×Bool):=Z5 L r L.length
theorem sX (L:List LC) (r:Int) (n:Nat):Z5 L r (n+1)=Z5 L r n++bE L r n:=by unfold Z5;rw [gh,flatMap_append];simp
variable {r:Int}
theorem turnK_mem:p∈bE L r k↔p.1=k/\k<L.length/\(v7 L p).1=r:=by
 unfold bE
 by_cases hk:k<L.length
 ·rw [aa hk];show p∈(if L[k].low=r then [(k,true)] else [])++(if L[k].high=r then [(k,false)] else [])↔_;rw [ba];have e1:=Z7 (aa hk);have e2:=Z1 (aa hk);obtain ⟨pk,pb⟩:=p;constructor
  ·rintro (h|h)
   ·split at h
    ·cases aS.mp h;rw [e1];exact ⟨rfl,hk,by assumption⟩
    ·cases h
   ·split at h
    ·cases aS.mp h;rw [e2];exact ⟨rfl,hk,by assumption⟩
    ·cases h
  ·rintro ⟨h1,_,h3⟩;have h1:pk=k:=h1;subst h1;cases pb
   ·rw [e2] at h3;exact .inr (by rw [if_pos h3];simp)
   ·rw [e1] at h3;exact .inl (by rw [if_pos h3];simp)
 ·rw [bh (by lia)];constructor
  ·intro h;cases h
  ·intro h;lia
theorem turns_mem:p∈l7 L r↔p.1<L.length/\(v7 L p).1=r:=by
 unfold l7 Z5;rw [mem_flatMap];constructor
 ·rintro ⟨k,hk,h⟩;obtain ⟨h1,h2,h3⟩:=turnK_mem.mp h;exact ⟨by lia,h3⟩
 ·rintro ⟨h1,h2⟩;exact ⟨p.1,dq.mpr h1,turnK_mem.mpr ⟨rfl,h1,h2⟩⟩
theorem P6 (L:List LC) (r:Int) (k:Nat):(bE L r k).length<=2:=by
 unfold bE
 split
 ·rw [ag];split<;>split<;>simp
 ·exact aL _
theorem N8 (L:List LC) (r:Int) (n:Nat):(Z5 L r n).length<=2*n:=by
 induction n with
 |zero=>exact aj _
 |succ n ih=>rw [sX,ag];have:=P6 L r n;lia
def DZ (cs:Kd->Addr) (cR cN:Addr):Sp:=fun vs H Q _=>∃x,∃(r:Int),∃D R L N,vs=[.ref x,.int r]/\CnAt cs cR cN D H x R L N/\L.length<=8/\∀l us H',Same H H'->H l=none->H' l=some (.lst us)->AllAt (PAt H') us (l7 L r)->Q (.ref l) H'
def E6 (cs:Kd->Addr):Sp:=fun vs H Q _=>∃y l b,vs=[.ref y,.str (yI b)]/\LkO cs H (.ref y) l/\∀t H',Same H H'->H t=none->H' t=some (.tup [.int (if b then l.low else l.high),.int (if b then l.high else l.low)])->Q (.ref t) H'
theorem FH (b:Bool):decide (V.str (yI b)=V.str "up")=b:=by
 cases b
 ·exact aH fun h=>absurd (V.str.inj h) (by decide +kernel)
 ·exact aV rfl
theorem SW {s:Int} {ps:List (Nat×Bool)} {a:Int} (h:(vC L s ps)[ps.length]?=some a):JR L s (ps++[p])↔JR L s ps/\(v7 L p).1=a:=by
 have e:∀j,j<=ps.length->(vC L s (ps++[p]))[j]?=(vC L s ps)[j]?:=fun j hj=>by
  rw [t6,aC (by rw [fX];lia)]
 constructor
 ·intro ok;refine ⟨fun j q hq=>?_,?_⟩
  ·have hj:j<ps.length:=(af.mp hq).1;have:=ok j q (by rw [aC hj];exact hq)
   rwa [e j (by lia)] at this
  ·have:=ok ps.length p (by rw [aE (aj _),ij];rfl);rw [e _ (aj _),h] at this;exact (az this).symm
 ·rintro ⟨ok,ha⟩ j q hq
  by_cases hj:j<ps.length
  ·rw [aC hj] at hq;rw [e j (by lia)];exact ok j q hq
  ·rw [aE (by lia)] at hq;have hz:j - ps.length=0:=by
    have:=(af.mp hq).1;rw [aO] at this
    lia
   rw [hz] at hq;cases hq;rw [show j=ps.length by lia,e _ (aj _),h,ha]
theorem PD (zs:List Int):(zs.map V.int).all v9=true:=by
 rw [cw];intro x hx;obtain ⟨z,_,rfl⟩:=gz.mp hx;rfl
abbrev qL:=Int×List (Nat×Bool)
def WyAt (H:Hp) (v:V) (y:qL):Prop:=∃t st us,v=.ref t/\H t=some (.tup [.int y.1,.ref st])/\H st=some (.tup us)/\AllAt (PAt H) us y.2
theorem WyAt.same (e:Same H H') (v:V) (y:qL):WyAt H v y->WyAt H' v y:=fun ⟨t,st,us,h1,h2,h3,h4⟩=>⟨t,st,us,h1,e _ _ h2,e _ _ h3,h4.mono (PAt.same e)⟩
structure WyOk (L:List LC) (y:qL):Prop where
 lt:∀p∈y.2,p.1<L.length
 ok:JR L y.1 y.2
 le:y.2.length<=8
def StAt (H:Hp) (t:Addr) (d:Int) (ms:List Int) (pl:List Nat):Prop:=∃wt pt:Addr,H t=some (.tup [.int d,.ref wt,.ref pt])/\H wt=some (.tup (ms.map V.int))/\H pt=some (.tup (pl.map fun (p:Nat)=>V.int (p:Int)))
variable {t:Addr} {pl:List Nat}
theorem StAt.same {d:Int} (e:Same H H') (h:StAt H t d ms pl):StAt H' t d ms pl:=by
 obtain ⟨wt,pt,h1,h2,h3⟩:=h;exact ⟨wt,pt,e _ _ h1,e _ _ h2,e _ _ h3⟩
structure Fleet (L:List LC) (ys:List qL) (pl:List Nat):Prop where
 len:pl.length=ys.length
 n10:ys.length<=10
 ok:∀y∈ys,WyOk L y
 le:∀(i:Nat) (y:qL) (p:Nat),ys[i]?=some y->pl[i]?=some p->p<=y.2.length
def EndAt (L:List LC) (r:Int):Prop:=∃p:Nat×Bool,p.1<L.length/\(v7 L p).1=r
theorem EndAt.turns (h:EndAt L r):0<(l7 L r).length:=by
 obtain ⟨p,h1,h2⟩:=h;exact length_pos_of_mem (turns_mem.mpr ⟨h1,h2⟩)
theorem EndAt.next (h:p.1<L.length):EndAt L (v7 L p).2:=by
 obtain ⟨pk,pb⟩:=p;have e:=aa h;cases pb
 ·exact ⟨(pk,true),h,by rw [Z7 e,Z1 e]⟩
 ·exact ⟨(pk,false),h,by rw [Z7 e,Z1 e]⟩
theorem UR (L:List LC) (s:Int):JR L s []:=fun j p hp=>by cases hp
theorem atI_last (hn:xs.length=n+1) (h:xs[n]?=some v):qS xs (-1)=some v:=by
 have e:JH xs.length (-1)=some n:=by
  unfold JH;rw [if_neg (by decide),if_pos (by lia)]
  congr 1
  lia
 unfold qS;rw [e];exact h
def uF (K:W.Frag) (cs:Kd->Addr) (cR cN eL:Addr):Sp:=fun vs H Q E=>∃x st,∃(s:Int),∃us ps D R L N,vs=[.ref x,.int s,.ref st]/\CnAt cs cR cN D H x R L N/\H st=some (.tup us)/\AllAt (PAt H) us ps/\(∀p∈ps,p.1<L.length)/\ps.length<=100/\
 (JR L s ps->∀r H',Same H H'->H r=none->H' r=some (.lst ((vC L s ps).map V.int))->Q (.ref r) H')/\(¬JR L s ps->∀H',Same H H'->E (.ref eL) none H')
def tX (K:W.Frag) (cs:Kd->Addr) (cR cN:Addr):Sp:=fun vs H Q _=>∃x st,∃(s:Int),∃us ps D R L N,vs=[.ref x,.int s,.ref st]/\CnAt cs cR cN D H x R L N/\H st=some (.tup us)/\AllAt (PAt H) us ps/\(∀p∈ps,p.1<L.length)/\ps.length<=100/\JR L s ps/\
 ∀r H',Same H H'->H r=none->H' r=some (.lst ((vC L s ps).map V.int))->Q (.ref r) H'
theorem O9 {eL:Addr}:∀vs H Q E,tX K cs cR cN vs H Q E->uF K cs cR cN eL vs H Q (fun _ _ _=>False):=by
 rintro vs H Q E ⟨x,st,s,us,ps,D,R,L,N,e,h1,h2,h3,h4,h5,h6,q⟩;exact ⟨x,st,s,us,ps,D,R,L,N,e,h1,h2,h3,h4,h5,fun _=>q,fun hno=>absurd h6 hno⟩
def GV (H:Hp) (t:Addr) (d:Int) (ms ps:List Int):Prop:=∃wt pt:Addr,H t=some (.tup [.int d,.ref wt,.ref pt])/\H wt=some (.tup (ms.map V.int))/\H pt=some (.tup (ps.map V.int))
theorem StAt.toI {d:Int} (h:StAt H t d ms pl):GV H t d ms (pl.map fun (p:Nat)=>(p:Int)):=by
 obtain ⟨wt,pt,h1,h2,h3⟩:=h;exact ⟨wt,pt,h1,h2,by rw [map_map];exact h3⟩
def cI (p q:List (Int×Int)) (i:Nat):Bool:=decide ((q.getD i (0,0)).1<=(p.getD i (0,0)).1)&&decide ((p.getD i (0,0)).2<=(q.getD i (0,0)).2)
def bJ (p q:List (Int×Int)):Bool:=(List.range p.length).all (cI p q)
theorem T1 {p q:List (Int×Int)} {a b:Int×Int} (h1:p[i]?=some a) (h2:q[i]?=some b):cI p q i=(decide (b.1<=a.1)&&decide (a.2<=b.2)):=by
 unfold cI;rw [ad,ad,h1,h2];rfl
def E4:Sp:=fun vs H Q _=>∃a b us ws p p',vs=[.ref a,.ref b]/\H a=some (.tup us)/\H b=some (.lst ws)/\AllAt (QAt H) us p/\AllAt (QAt H) ws p'/\p'.length=p.length/\p.length<=100/\∀H',Same H H'->Q (.bl (bJ p p')) H'
def eX (ms:List Int) (W:List (Int×Int)) (r:Nat):Int:=if ms.getD r 0<(W.getD r (0,0)).2 then ms.getD r 0 else (W.getD r (0,0)).2
def cJ (k:Nat) (ms:List Int) (W:List (Int×Int)) (n:Nat):List (Nat×Nat×Int):=(List.range n).map fun r=>(r,k,eX ms W r)
def cE (k:Nat) (W:List (Int×Int)) (n:Nat):List (Nat×Nat×Int):=(List.range n).map fun r=>(k,r,(W.getD r (0,0)).1)
def QN (k:Nat) (ms:List Int) (W:List (Int×Int)) (n:Nat):List (Nat×Nat×Int):=cJ k ms W n++cE k W n
theorem lV (k:Nat) (ms:List Int) (W:List (Int×Int)) (n:Nat):(cJ k ms W n).length=n:=by unfold cJ;rw [ac,aT]
theorem lQ (k:Nat) (W:List (Int×Int)) (n:Nat):(cE k W n).length=n:=by unfold cE;rw [ac,aT]
theorem OX (k:Nat) (ms:List Int) (W:List (Int×Int)) (n:Nat):(QN k ms W n).length=n+n:=by unfold QN;rw [ag,lV,lQ]
theorem P7 {W:List (Int×Int)} (h:i<n):(cJ k ms W n).take (i+1)=(cJ k ms W n).take i++[(i,k,eX ms W i)]:=by
 rw [aG];unfold cJ;rw [ak,ck h];rfl
theorem OV {W:List (Int×Int)} (h:i<n):(cE k W n).take (i+1)=(cE k W n).take i++[(k,i,(W.getD i (0,0)).1)]:=by
 rw [aG];unfold cE;rw [ak,ck h];rfl
theorem GQ {W:List (Int×Int)} {y:Int×Int} (h:W[i]?=some y):W.getD i (0,0)=y:=by rw [ad,h];rfl
theorem DV {W:List (Int×Int)} {y:Int×Int} (h:W[i]?=some y):eX ms W i=if ms.getD i 0<y.2 then ms.getD i 0 else y.2:=by unfold eX;rw [GQ h]
theorem SJ {W:List (Int×Int)} {y:Int×Int} (h:W[i]?=some y):eX ms W i=if y.2<ms.getD i 0 then y.2 else ms.getD i 0:=by rw [DV h];split<;>split<;>lia
def DJ (R:List RC) (m:Nat) (ms:List Int) (W:List (Int×Int)) (gs:List Int):List (Nat×Nat×Int):=(QN (R.length+2*m+1) ms W R.length).filter q9++(yV (qK (vD R m)) (fun a=>gs.getD a 0) (vD R m).length).filter q9
def V8 (R:List RC) (m:Nat) (ms:List Int) (W:List (Int×Int)):List Int:=qN ms ((QN (R.length+2*m+1) ms W R.length).filter q9)
theorem lC {wq wa:Addr} {ws:List V} {m:Nat} (hT:cG R) (h:AllAt (QAt H) ws (R.map (JO (JD R.length m)))) (hwq:H wq=some (.lst ws)) (hwa:Ints K H wa ms) (hms:ms.length=R.length+2*m+2) (h1:R.length<=100) (h2:m<=100):Ready K H wq wa ws (vD R m) ms :=
 ⟨so hwq,by have:=CT (K:=K) hT h;rw [fQ] at this;rw [hms];exact this,hwa,AM hT,by rw [fP];lia,by lia⟩
def C8 (K:W.Frag) (cs:Kd->Addr) (cR cN:Addr):Sp:=fun vs H Q _=>∃x t wl,∃(d:Int),∃ms ps us W D R L N,vs=[.ref x,.ref t,.ref wl]/\CnAt cs cR cN D H x R L N/\GV H t d ms ps/\H wl=some (.tup us)/\AllAt (QAt H) us W/\W.length=R.length/\ms.length=R.length+2*L.length+2/\R.length<=100/\L.length<=100/\cG R/\
 ∀r H' gs ys,Same H H'->H r=none->H' r=some (.lst ys)->PoursH H' ys (DJ R L.length ms W gs) ms.length->ZV (vD R L.length) (V8 R L.length ms W) gs->Q (.ref r) H'
def vK (L:List LC) (y:qL) (p:Nat):Int:=if p=y.2.length then -1 else (vC L y.1 y.2).getD p 0
def wB:Sp:=fun vs H Q _=>∃t y,∃(p:Int),vs=[.ref t,.int p]/\WyAt H (.ref t) y/\Q (.int ((y.2.length:Int) - p)) H
def tV (cs:Kd->Addr) (cR cN:Addr):Sp:=fun vs H Q _=>∃x t y,∃(p:Nat),∃D R L N,vs=[.ref x,.ref t,.int (p:Int)]/\CnAt cs cR cN D H x R L N/\WyAt H (.ref t) y/\WyOk L y/\p<=y.2.length/\∀H',Same H H'->Q (.int (vK L y p)) H'
def y8 (L:List LC) (ys:List qL) (pl:List Nat):List Int:=(List.range ys.length).map fun i=>vK L (ys.getD i (0,[])) (pl.getD i 0)
def D9 (cs:Kd->Addr) (cR cN:Addr):Sp:=fun vs H Q _=>∃x wl st,∃(r:Int),∃us ys,∃(d:Int),∃ms pl D R L N,vs=[.ref x,.ref wl,.ref st,.int r]/\CnAt cs cR cN D H x R L N/\H wl=some (.lst us)/\AllAt (WyAt H) us ys/\StAt H st d ms pl/\Fleet L ys pl/\∀H',Same H H'->Q (.int (((y8 L ys pl).countP fun z=>decide (z=r):Nat):Int)) H'
theorem FM (b:Bool):wv b=.str (yI b):=by cases b<;>rfl
def JB (r l k:Nat) (lc:LC) (s:Str):Nat:=if s="high" then lc.high.toNat else if s="low" then lc.low.toNat else if s="chamber" then r+k else r+l+k
def nI (r l k:Nat) (lc:LC) (q:Str×Str×Int):Nat×Nat×Int:=(JB r l k lc q.1,JB r l k lc q.2.1,q.2.2)
inductive okW:Str->Prop
 |high:okW "high"
 |low:okW "low"
 |cham:okW "chamber"
 |bas:okW "basin"
theorem CU (r l k:Nat) (lc:LC):JB r l k lc "high"=lc.high.toNat:=if_pos rfl
theorem DU (r l k:Nat) (lc:LC):JB r l k lc "low"=lc.low.toNat:=by unfold JB;rw [if_neg (show ¬("low":Str)="high" by decide +kernel),if_pos rfl]
theorem BP (r l k:Nat) (lc:LC):JB r l k lc "chamber"=r+k:=by unfold JB;rw [if_neg (show ¬("chamber":Str)="high" by decide +kernel),if_neg (show ¬("chamber":Str)="low" by decide +kernel),if_pos rfl]
theorem BQ (r l k:Nat) (lc:LC):JB r l k lc "basin"=r+l+k:=by unfold JB;rw [if_neg (show ¬("basin":Str)="high" by decide +kernel),if_neg (show ¬("basin":Str)="low" by decide +kernel),if_neg (show ¬("basin":Str)="chamber" by decide +kernel)]
theorem EZ {r l:Nat} {lc:LC} {s:Str} (h:okW s) (hg:lc.good r) (hk:k<l):JB r l k lc s<r+2*l+2:=by
 obtain ⟨g1,g2,g3,g4,_⟩:=hg;cases h
 ·rw [CU];lia
 ·rw [DU];lia
 ·rw [BP];lia
 ·rw [BQ];lia
def d4 (a b c d:V):List (kC×V):=[(.inr "high",a),(.inr "low",b),(.inr "chamber",c),(.inr "basin",d)]
theorem JS {s t:Str} (h:¬s=t):¬((Sum.inr s:kC)=(Sum.inr t:kC)):=fun e=>h (Sum.inr.inj e)
theorem WA (a b c d:V):b6 [] [((.inr "high":kC),a),(.inr "low",b),(.inr "chamber",c),(.inr "basin",d)]=d4 a b c d:=by
 show y7 (y7 (y7 (y7 ([]:List (kC×V)) (Sum.inr "high") a) (Sum.inr "low") b) (Sum.inr "chamber") c) (Sum.inr "basin") d=_;rw [dR a (valV_nil:vE [] (Sum.inr "high":kC)=none)];rw [dR b (by show vE [((.inr "high":kC),a)] (.inr "low")=none;rw [yN (JS (by decide +kernel))];rfl)];rw [dR c (by show vE [((.inr "high":kC),a),(.inr "low",b)] (.inr "chamber")=none;rw [yN (JS (by decide +kernel)),yN (JS (by decide +kernel))];rfl)];rw [dR d (by show vE [((.inr "high":kC),a),(.inr "low",b),(.inr "chamber",c)] (.inr "basin")=none;rw [yN (JS (by decide +kernel)),yN (JS (by decide +kernel)),yN (JS (by decide +kernel))];rfl)];rfl
theorem XI {p:Addr} {a b c d:V} (h:H p=some (.dK (d4 a b c d))):DGet H p (.str "high") (some a)/\DGet H p (.str "low") (some b)/\DGet H p (.str "chamber") (some c)/\DGet H p (.str "basin") (some d):=by
 have e1:vE (d4 a b c d) (.inr "high")=some a:=by unfold d4;rw [Q8 rfl]
 have e2:vE (d4 a b c d) (.inr "low")=some b:=by unfold d4;rw [yN (JS (by decide +kernel)),Q8 rfl]
 have e3:vE (d4 a b c d) (.inr "chamber")=some c:=by unfold d4;rw [yN (JS (by decide +kernel)),yN (JS (by decide +kernel)),Q8 rfl]
 have e4:vE (d4 a b c d) (.inr "basin")=some d:=by unfold d4;rw [yN (JS (by decide +kernel)),yN (JS (by decide +kernel)),yN (JS (by decide +kernel)),Q8 rfl]
 refine ⟨?_,?_,?_,?_⟩
 ·rw [<- e1];exact DGet.k (k:=.inr "high") h
 ·rw [<- e2];exact DGet.k (k:=.inr "low") h
 ·rw [<- e3];exact DGet.k (k:=.inr "chamber") h
 ·rw [<- e4];exact DGet.k (k:=.inr "basin") h
theorem uK (kd:Kd) (room v b:Int):∀q∈zQ kd room v b,okW q.1/\okW q.2.1:=fun q hq=>by
 obtain ⟨p,hp,rfl⟩:=gz.mp hq;refine ⟨?_,.cham⟩;cases kd
 ·have:=(bp.mp hp).1;rw [aS] at this;rw [this];exact .high
 ·have:=(bp.mp hp).1;simp only [ao,ay,bo] at this
  rcases this with rfl|rfl
  ·exact .bas
  ·exact .high
 ·have:=(bp.mp hp).1;simp only [ao,ay,bo] at this
  rcases this with rfl|rfl
  ·exact .low
  ·exact .high
theorem mD (kd:Kd) (room v b:Int):∀q∈y9 kd room v b,okW q.1/\okW q.2.1:=fun q hq=>by
 obtain ⟨p,hp,rfl⟩:=gz.mp hq;refine ⟨.cham,?_⟩;cases kd
 ·have:=(bp.mp hp).1;rw [aS] at this;rw [this];exact .low
 ·have:=(bp.mp hp).1;simp only [ao,ay,bo] at this
  rcases this with rfl|rfl
  ·exact .bas
  ·exact .low
 ·have:=(bp.mp hp).1;rw [aS] at this;rw [this];exact .low
theorem SU (kd:Kd) (room v:Int) (f:Bool) (b:Int) (w:Bool):∀q∈mU kd room v f b w,okW q.1/\okW q.2.1:=fun q hq=>by
 cases w<;>cases f
 ·rcases ba.mp hq with h|h
  ·exact uK _ _ _ _ q h
  ·exact mD _ _ _ _ q h
 ·exact mD _ _ _ _ q hq
 ·exact uK _ _ _ _ q hq
 ·rcases ba.mp hq with h|h
  ·exact mD _ _ _ _ q h
  ·exact uK _ _ _ _ q h
def bG (r:Nat) (ms:List Int) (k:Nat):Bool:=decide (0<ms.getD (r+k) 0)
def QR (r:Nat) (L:List LC) (ms:List Int) (s:Nat×Bool):List (Nat×Nat×Int):=match L[s.1]? with
 |some l=>(mU l.kd l.room l.extra (bG r ms s.1) (ms.getD (r+L.length+s.1) 0) s.2).map (nI r L.length s.1 l)
 |none=>[]
def gP (r:Nat) (L:List LC) (ms:List Int) (k:Nat):List (Nat×Nat×Int):=match L[k]? with
 |some l=>(y9 l.kd l.room l.extra (ms.getD (r+L.length+k) 0)).map (nI r L.length k l)
 |none=>[]
def ZO (R:List RC) (ms:List Int) (v:Nat):Bool:=match R[v]? with
 |some r=>decide (ms.getD v 0<r.least)
 |none=>false
def QL (R:List RC):List Int->List (Nat×Nat×Int)->Bool
 |_,[]=>false
 |ms,q::qs=>ZO R (pour ms q) q.1||QL R (pour ms q) qs
def fY (R:List RC) (t:Int):Int:=match R[t.toNat]? with
 |some r=>r.berths
 |none=>0
def cH (R:List RC) (L:List LC) (ys:List qL) (ms:List Int) (pl:List Nat) (b:Nat):Str :=
 if pl.getD b 0=(ys.getD b (0,[])).2.length then "home" else
 if ¬vK L (ys.getD b (0,[])) (pl.getD b 0+1) = -1/\fY R (vK L (ys.getD b (0,[])) (pl.getD b 0+1))<=(((y8 L ys pl).countP fun z=>decide (z=vK L (ys.getD b (0,[])) (pl.getD b 0+1)):Nat):Int) then "berth" else
 if QL R ms (QR R.length L ms ((ys.getD b (0,[])).2.getD (pl.getD b 0) (0,true)))=true then "water" else ""
inductive Deed
 |pass (b:Nat)
 |let (k:Nat)
 |night
def nA:Deed->List V
 |.pass b=>[.str "pass",.int (b:Int)]
 |.let k=>[.str "let",.int (k:Int)]
 |.night=>[.str "night"]
def QT (R:List RC) (L:List LC) (n:Nat) (ys:List qL) (d:Int) (ms:List Int) (pl:List Nat):Deed->Str
 |.pass b=>cH R L ys ms pl b
 |.let k=>if bG R.length ms k=true then "" else "empty"
 |.night=>if d<(n:Int) then "" else "over"
def wJ (nb nl:Nat):Deed->Prop
 |.pass b=>b<nb
 |.let k=>k<nl
 |.night=>True
def uR (cs:Kd->Addr) (cR cN:Addr):Sp:=fun vs H Q _=>∃x p,∃(k:Nat),∃l rs ps D R L N,vs=[.ref x,.int (k:Int),.ref p]/\CnAt cs cR cN D H x R L N/\L[k]?=some l/\l.good R.length/\H p=some (.lst rs)/\PoursS H rs ps/\(∀q∈ps,okW q.1/\okW q.2.1)/\ps.length<=10/\
 ∀r H' zs,Same H H'->H r=none->H' r=some (.lst zs)->PoursH H' zs (ps.map (nI R.length L.length k l)) (R.length+2*L.length+2)->Q (.ref r) H'
structure Stage (cs:Kd->Addr) (cR cN:Addr) (D:List Addr) (H:Hp) (x wl st:Addr) (us:List V) (R:List RC) (L:List LC) (N:List (List (Int×Int))) (ys:List qL) (d:Int) (ms:List Int) (pl:List Nat):Prop where
 cn:CnAt cs cR cN D H x R L N
 dr:Drawn R L N
 wls:H wl=some (.lst us)
 wys:AllAt (WyAt H) us ys
 sts:StAt H st d ms pl
 fl:Fleet L ys pl
 ml:ms.length=R.length+2*L.length+2
theorem Stage.same {wl st:Addr} {us:List V} {ys:List qL} {d:Int} (h:Stage cs cR cN D H x wl st us R L N ys d ms pl) (e:Same H H'):Stage cs cR cN D H' x wl st us R L N ys d ms pl:=⟨h.cn.same e,h.dr,e _ _ h.wls,h.wys.mono (WyAt.same e),h.sts.same e,h.fl,h.ml⟩
def mI:Sp:=fun vs H Q _=>∃(t:Addr) (y:qL) (p:Nat) (s:Nat×Bool),vs=[.ref t,.int (p:Int)]/\WyAt H (.ref t) y/\y.2[p]?=some s/\∀v,PAt H v s->Q v H
def tW (cs:Kd->Addr) (cR cN:Addr):Sp:=fun vs H Q _=>∃x wl st,∃(b:Nat),∃r us ys,∃(d:Int),∃ms pl D R L N,vs=[.ref x,.ref wl,.ref st,.int (b:Int)]/\Stage cs cR cN D H x wl st us R L N ys d ms pl/\R[b]?=some r/\∀H',Same H H'->Q (.bl (decide (r.berths<=(((y8 L ys pl).countP fun z=>decide (z=(b:Int)):Nat):Int)))) H'
def uQ (cs:Kd->Addr) (cR cN:Addr):Sp:=fun vs H Q _=>∃(x wl st:Addr) (b:Nat) (us:List V) (ys:List qL) (y:qL) (p:Nat) (s:Nat×Bool) (d:Int) (ms:List Int) (pl:List Nat) (D:List Addr) (R:List RC) (L:List LC) (N:List (List (Int×Int))),vs=[.ref x,.ref wl,.ref st,.int (b:Int)]/\Stage cs cR cN D H x wl st us R L N ys d ms pl/\ys[b]?=some y/\pl[b]?=some p/\y.2[p]?=some s/\
 ∀r H' zs,Same H H'->H r=none->H' r=some (.lst zs)->PoursH H' zs (QR R.length L ms s) ms.length->Q (.ref r) H'
def EB (cs:Kd->Addr) (cR cN:Addr):Sp:=fun vs H Q _=>∃x wl st,∃(k:Nat),∃us ys,∃(d:Int),∃ms pl D R L N,vs=[.ref x,.ref st,.int (k:Int)]/\Stage cs cR cN D H x wl st us R L N ys d ms pl/\k<L.length/\
 ∀r H' zs,Same H H'->H r=none->H' r=some (.lst zs)->PoursH H' zs (gP R.length L ms k) ms.length->Q (.ref r) H'
def FR (cs:Kd->Addr) (cR cN:Addr):Sp:=fun vs H Q _=>∃x w,∃(v:Nat),∃ms D R L N,vs=[.ref x,.ref w,.int (v:Int)]/\CnAt cs cR cN D H x R L N/\H w=some (.tup (ms.map V.int))/\v<ms.length/\Q (.bl (ZO R ms v)) H
def C3 (cs:Kd->Addr) (cR cN:Addr):Sp:=fun vs H Q _=>∃x w p ms zs qs D R L N,vs=[.ref x,.ref w,.ref p]/\CnAt cs cR cN D H x R L N/\H w=some (.tup (ms.map V.int))/\H p=some (.lst zs)/\PoursH H zs qs ms.length/\ms.length<=1000/\∀H',Same H H'->Q (.bl (QL R ms qs)) H'
def E3 (cs:Kd->Addr) (cR cN:Addr):Sp:=fun vs H Q _=>∃x wl st,∃(b:Nat),∃us ys,∃(d:Int),∃ms pl D R L N,vs=[.ref x,.ref wl,.ref st,.int (b:Int)]/\Stage cs cR cN D H x wl st us R L N ys d ms pl/\b<ys.length/\∀H',Same H H'->Q (.str (cH R L ys ms pl b)) H'
def uZ (cs:Kd->Addr) (cR cN:Addr):Sp:=fun vs H Q _=>∃x wl st dd de us ys,∃(d:Int),∃ms pl D R L N,vs=[.ref x,.ref wl,.ref st,.ref dd]/\Stage cs cR cN D H x wl st us R L N ys d ms pl/\H dd=some (.tup (nA de))/\wJ ys.length L.length de/\∀H',Same H H'->Q (.str (QT R L N.length ys d ms pl de)) H'
theorem V0 {y:qL} {p:Nat} {s:Nat×Bool} (ok:WyOk L y) (hs:y.2[p]?=some s):vK L y p=(v7 L s).1:=by
 have hp:=(af.mp hs).1;unfold vK;rw [if_neg (by lia),ad,ok.ok p s hs];rfl
theorem TL (d:Drawn R L N) {s:Nat×Bool} (h:s.1<L.length):0<=(v7 L s).1/\(v7 L s).1<(R.length:Int):=by
 obtain ⟨l,hl,g1,g2,g3,g4,_⟩:=tO d h;obtain ⟨k,b⟩:=s;cases b
 ·rw [Z1 hl];show 0<=l.high/\l.high<_;lia
 ·rw [Z7 hl];show 0<=l.low/\l.low<_;lia
theorem E9 (d:Drawn R L N) {y:qL} (ok:WyOk L y) {p:Nat} (hp:p<y.2.length):0<=vK L y p/\vK L y p<(R.length:Int):=by
 have hs:=aa hp;rw [V0 ok hs];exact TL d (ok.lt _ (av hs))
theorem EH (L:List LC) (y:qL):vK L y y.2.length = -1:=if_pos rfl
def nB (R:List RC) (L:List LC) (N:List (List (Int×Int))) (ys:List qL) (d:Int) (ms:List Int) (pl:List Nat):Deed->List (Nat×Nat×Int)
 |.pass b=>QR R.length L ms ((ys.getD b (0,[])).2.getD (pl.getD b 0) (0,true))
 |.let k=>gP R.length L ms k
 |.night=>(QN (R.length+2*L.length+1) ms (N.getD d.toNat []) R.length).filter q9
def uX (R:List RC) (L:List LC) (N:List (List (Int×Int))) (ys:List qL) (d:Int) (ms:List Int) (pl:List Nat) (de:Deed) (gs:List Int):List (Nat×Nat×Int):=nB R L N ys d ms pl de++(yV (qK (vD R L.length)) (fun a=>gs.getD a 0) (vD R L.length).length).filter q9
def JV (pl:List Nat) (b:Nat):List Nat:=(List.range pl.length).map fun i=>if i=b then pl.getD i 0+1 else pl.getD i 0
def FZ (d:Int):Deed->Int
 |.night=>d+1
 |_=>d
def Q9 (pl:List Nat):Deed->List Nat
 |.pass b=>JV pl b
 |_=>pl
def C5 (cs:Kd->Addr) (cR cN eW:Addr):Sp:=fun vs H Q E=>∃x wl st dd de us ys,∃(d:Int),∃ms pl D R L N,vs=[.ref x,.ref wl,.ref st,.ref dd]/\Stage cs cR cN D H x wl st us R L N ys d ms pl/\H dd=some (.tup (nA de))/\wJ ys.length L.length de/\0<=d/\de≠.night/\
 (QT R L N.length ys d ms pl de=""->∀r H' gs zs,Same H H'->H r=none->H' r=some (.lst zs)->PoursH H' zs (uX R L N ys d ms pl de gs) ms.length->ZV (vD R L.length) (qN ms (nB R L N ys d ms pl de)) gs->Q (.ref r) H')/\
 (¬QT R L N.length ys d ms pl de=""->∀H',Same H H'->E (.ref eW) none H')
def CY:Sp:=fun vs H Q _=>∃pt pl,∃(b:Nat),vs=[.ref pt,.int (b:Int)]/\H pt=some (.tup (pl.map fun (p:Nat)=>V.int (p:Int)))/\pl.length<=100/\∀r H',Same H H'->H r=none->H' r=some (.tup ((JV pl b).map fun (p:Nat)=>V.int (p:Int)))->Q (.ref r) H'
variable {b:Nat}
theorem uB {ys:List qL} (h:cH R L ys ms pl b=""):¬pl.getD b 0=(ys.getD b (0,[])).2.length:=fun e=>by
 unfold cH at h;rw [if_pos e] at h;exact absurd h (by decide +kernel)
theorem B6 (r:Nat) (L:List LC) (ms:List Int) (s:Nat×Bool):(QR r L ms s).length<=4:=by
 unfold QR
 split
 ·rw [ac];exact B7 _ _ _ _ _ _
 ·exact aL _
theorem DK (r:Nat) (L:List LC) (ms:List Int) (k:Nat):(gP r L ms k).length<=4:=by
 unfold gP
 split
 ·rw [ac];exact aK (bU _ _ _ _) (by decide)
 ·exact aL _
theorem lK (pl:List Nat) (b:Nat):(JV pl b).length=pl.length:=by unfold JV;rw [ac,aT]
theorem AR (h:i<pl.length):(JV pl b).take (i+1)=(JV pl b).take i++[if i=b then pl.getD i 0+1 else pl.getD i 0]:=by
 rw [aG];unfold JV;rw [ak,ck h];rfl
def B4:Sp:=fun vs H Q _=>∃st dd wo de,∃(d:Int),∃ms mo pl,vs=[.ref st,.ref dd,.ref wo]/\StAt H st d ms pl/\H dd=some (.tup (nA de))/\H wo=some (.tup (mo.map V.int))/\pl.length<=100/\∀r H',Same H H'->H r=none->StAt H' r (FZ d de) mo (Q9 pl de)->Q (.ref r) H'
def ED (cs:Kd->Addr) (cR cN:Addr):Sp:=fun vs H Q _=>∃x wl us D R L N,vs=[.ref x,.ref wl]/\CnAt cs cR cN D H x R L N/\H wl=some (.lst us)/\us.length<=100/\R.length<=100/\L.length<=100/\cG R/\
 ∀t wt zt H' gs,Same H H'->H' t=some (.tup [.int 0,.ref wt,.ref zt])->H' wt=some (.tup ((cK (zY R L.length) (vD R L.length) gs).map V.int))->ZV (vD R L.length) (zY R L.length) gs->H' zt=some (.tup (List.replicate us.length (.int 0)))->Q (.ref t) H'
def wY (K:W.Frag) (H:Hp) (v:V) (nm:Str):Prop:=∃x C dx fs,v=.ref x/\H x=some (.ins C dx fs)/\Cls K C/\NoAttr K C "name"/\fs.lookup ("name":Str)=some (.str nm)
def FirstAt (zs:List Str) (nm:Str) (i:Nat):Prop:=zs[i]?=some nm/\∀j:Nat,j<i->zs[j]?≠some nm
def QK (zs:List Str) (nm:Str):Prop:=∀i:Nat,zs[i]?≠some nm
variable {zs:List Str} {nm:Str}
theorem FirstAt.uniq (h:FirstAt zs nm i) (h':FirstAt zs nm j):i=j:=by
 rcases Nat.lt_trichotomy i j with c|c|c
 ·exact absurd h.1 (h'.2 i c)
 ·exact c
 ·exact absurd h'.1 (h.2 j c)
theorem TF (zs:List Str) (nm:Str):(∃i,FirstAt zs nm i)\/QK zs nm:=by
 have key:∀n:Nat,(∃i,FirstAt zs nm i)\/∀j:Nat,j<n->zs[j]?≠some nm:=by
  intro n
  induction n with
  |zero=>exact .inr fun j hj=>absurd hj (iz j)
  |succ n ih =>
   rcases ih with h|h
   ·exact .inl h
   ·by_cases e:zs[n]?=some nm
    ·exact .inl ⟨n,e,h⟩
    ·refine .inr fun j hj=>?_
     by_cases c:j=n
     ·rw [c];exact e
     ·exact h j (by lia)
 rcases key zs.length with h|h
 ·exact .inl h
 ·refine .inr fun i hi=>h i ?_ hi
  exact (af.mp hi).1
def uP (K:W.Frag) (eU:Addr):Sp:=fun vs H Q E=>∃nm l us zs,vs=[.str nm,.ref l]/\H l=some (.lst us)/\AllAt (wY K H) us zs/\us.length<=100/\(∀i:Nat,FirstAt zs nm i->∀H',Same H H'->Q (.int (i:Int)) H')/\(QK zs nm->∀H',Same H H'->E (.ref eU) none H')
def mK (w:Nat) (R:List RC) (L:List LC):List Str:=if w=0 then R.map (·.name) else L.map (·.name)
def JZ (cs:Kd->Addr) (cR cN eU:Addr) (w:Nat):Sp:=fun vs H Q E=>∃x D R L N nm,vs=[.ref x,.str nm]/\CnAt cs cR cN D H x R L N/\R.length<=100/\L.length<=100/\(∀i:Nat,FirstAt (mK w R L) nm i->∀H',Same H H'->Q (.int (i:Int)) H')/\(QK (mK w R L) nm->∀H',Same H H'->E (.ref eU) none H')
theorem OC (c:Cls K cR) (n:NoAttr K cR "name") (h:AllAt (RcO cR H) rs R):AllAt (wY K H) rs (R.map (·.name)):=by
 refine ⟨by rw [h.1,ac],fun i v hv=>?_⟩;obtain ⟨r,hr,x,rfl,dx,fs,hx,hf⟩:=h.2 i v hv;exact ⟨r.name,by rw [ak,hr];rfl,x,cR,dx,fs,rfl,hx,c,n,hf.1⟩
theorem OZ (c:∀kd,Cls K (cs kd)) (n:∀kd,NoAttr K (cs kd) "name") (h:AllAt (LkO cs H) rs L):AllAt (wY K H) rs (L.map (·.name)):=by
 refine ⟨by rw [h.1,ac],fun i v hv=>?_⟩;obtain ⟨l,hl,x,rfl,dx,hx⟩:=h.2 i v hv;exact ⟨l.name,by rw [ak,hl];rfl,x,_,dx,_,rfl,hx,c _,n _,bY ..⟩
theorem dL (h:n<=1000):n<=sizeLine:=ii (qJ h)
def SAt (H:Hp) (v:V) (p:Str×Bool):Prop:=∃t,v=.ref t/\H t=some (.tup [.str p.1,.str (yI p.2)])
theorem SAt.same (e:Same H H') (v:V) (p:Str×Bool):SAt H v p->SAt H' v p:=fun ⟨t,h1,h2⟩=>⟨t,h1,e _ _ h2⟩
theorem SAt.put (hd:H d=some (.lst ys)) (v:V) (p:Str×Bool):SAt H v p->SAt (upd H d o) v p:=fun ⟨t,h1,h2⟩=>⟨t,h1,by rw [jP (fun z=>by rw [z,hd] at h2;cases h2)];exact h2⟩
structure CoE where
 name:Str
 start:Str
 steps:List (Str×Bool)
def CoAt (H:Hp) (t:Addr) (e:CoE):Prop:=∃st us,H t=some (.tup [.str "come",.str e.name,.str e.start,.ref st])/\H st=some (.tup us)/\AllAt (SAt H) us e.steps
theorem CoAt.same {e:CoE} (s:Same H H') (h:CoAt H t e):CoAt H' t e:=by
 obtain ⟨st,us,h1,h2,h3⟩:=h;exact ⟨st,us,s _ _ h1,s _ _ h2,h3.mono (SAt.same s)⟩
def kH:List Str->Str->Option Nat
 |[],_=>none
 |z::zs,n=>if z=n then some 0 else (kH zs n).map (· + 1)
theorem dM:∀{zs:List Str} {n:Str} {i:Nat},kH zs n=some i->FirstAt zs n i
 |[],n,i,h=>by cases h
 |z::zs,n,i,h=>by
  unfold kH at h
  split at h
  ·rename_i e;cases h;exact ⟨by rw [e];rfl,fun j hj=>absurd hj (iz j)⟩
  ·rename_i ne;obtain ⟨k,hk,rfl⟩:=aP.mp h;obtain ⟨h1,h2⟩:=dM hk;refine ⟨h1,fun j hj=>?_⟩;cases j with
   |zero=>exact fun e=>ne (az e)
   |succ j=>exact h2 j (by lia)
theorem lF:∀{zs:List Str} {n:Str},kH zs n=none->QK zs n
 |[],n,_=>fun i h=>by cases h
 |z::zs,n,h=>by
  unfold kH at h
  split at h
  ·cases h
  ·rename_i ne;have h':=Option.map_eq_none_iff.mp h;intro i hi;cases i with
   |zero=>exact ne (az hi)
   |succ i=>exact lF h' i hi
theorem Q5 {n:Str} (h:FirstAt zs n i):kH zs n=some i:=by
 cases e:kH zs n with
 |none=>exact absurd h.1 (lF e i)
 |some j=>rw [(dM e).uniq h]
theorem Q6 {n:Str} (h:QK zs n):kH zs n=none:=by
 cases e:kH zs n with
 |none=>rfl
 |some j=>exact absurd (dM e).1 (h j)
theorem Q7 {n:Str} (h:kH zs n=some i):i<zs.length:=(af.mp (dM h).1).1
def vZ (zs:List Str):List (Str×Bool)->Option (List (Nat×Bool))
 |[]=>some []
 | (n,b)::r=>match kH zs n with
  |none=>none
  |some k=>(vZ zs r).map ((k,b) :: ·)
theorem AQ {zs:List Str} {p:Str×Bool} {k:Nat} (hk:kH zs p.1=some k):∀{l:List (Str×Bool)} {ps:List (Nat×Bool)},vZ zs l=some ps->vZ zs (l++[p])=some (ps++[(k,p.2)])
 |[],ps,h=>by
  cases h;show (match kH zs p.1 with|none=>none|some k=>(vZ zs []).map ((k,p.2) :: ·))=_;rw [hk];rfl
 | (n,b)::r,ps,h=>by
  unfold vZ at h;show (match kH zs n with|none=>none|some k=>(vZ zs (r++[p])).map ((k,b) :: ·))=_;cases hn:kH zs n with
  |none=>rw [hn] at h;cases h
  |some j =>
   rw [hn] at h;obtain ⟨qs,hq,rfl⟩:=aP.mp h;show (vZ zs (r++[p])).map ((j,b) :: ·)=_;rw [AQ hk hq];rfl
theorem AZ {zs:List Str} {p:Str×Bool} (hp:kH zs p.1=none):∀{l:List (Str×Bool)},p∈l->vZ zs l=none
 | (n,b)::r,h=>by
  unfold vZ
  rcases ao.mp h with e|h
  ·cases e;have hp:kH zs n=none:=hp;rw [hp]
  ·cases kH zs n with
   |none=>rfl
   |some k=>show (vZ zs r).map _=none;rw [AZ hp h];rfl
theorem tT {zs:List Str}:∀{l:List (Str×Bool)} {ps:List (Nat×Bool)},vZ zs l=some ps->ps.length=l.length/\∀p∈ps,p.1<zs.length
 |[],ps,h=>by cases h;exact ⟨rfl,fun p hp=>by cases hp⟩
 | (n,b)::r,ps,h=>by
  unfold vZ at h;cases hn:kH zs n with
  |none=>rw [hn] at h;cases h
  |some k =>
   rw [hn] at h;obtain ⟨qs,hq,rfl⟩:=aP.mp h;obtain ⟨h1,h2⟩:=tT hq;refine ⟨by rw [aZ,h1];rfl,fun p hp=>?_⟩
   rcases ao.mp hp with rfl|hp
   ·exact Q7 hn
   ·exact h2 p hp
def y6 (R:List RC) (L:List LC) (e:CoE):Option qL:=match kH (R.map (·.name)) e.start with
 |none=>none
 |some a=>(vZ (L.map (·.name)) e.steps).map fun ps=>((a:Int),ps)
def tU (cs:Kd->Addr) (cR cN eU:Addr):Sp:=fun vs H Q E=>∃x t e D R L N,vs=[.ref x,.ref t]/\CnAt cs cR cN D H x R L N/\R.length<=100/\L.length<=100/\CoAt H t e/\e.steps.length<=100/\
 (∀y,y6 R L e=some y->∀w H',Same H H'->H w=none->WyAt H' (.ref w) y->Q (.ref w) H')/\(y6 R L e=none->∀H',Same H H'->E (.ref eU) none H')
def BkFld (fs:List (Str×V)) (v0 v1 v2 v3 v4 v5 v6:V):Prop:=fs.lookup ("kept_canal":Str)=some v0/\fs.lookup ("kept_names":Str)=some v1/\fs.lookup ("kept_ways":Str)=some v2/\fs.lookup ("kept_state":Str)=some v3/\fs.lookup ("kept_pours":Str)=some v4/\fs.lookup ("kept_words":Str)=some v5/\fs.lookup ("kept_entries":Str)=some v6/\∀m:Str,¬m="kept_canal"->¬m="kept_names"->¬m="kept_ways"->¬m="kept_state"->¬m="kept_pours"->¬m="kept_words"->¬m="kept_entries"->fs.lookup m=none
theorem VI (v0 v1 v2 v3 v4 v5 v6:V):BkFld (jO "kept_entries" v6 (jO "kept_words" v5 (jO "kept_pours" v4 (jO "kept_state" v3 (jO "kept_ways" v2 (jO "kept_names" v1 (jO "kept_canal" v0 []))))))) v0 v1 v2 v3 v4 v5 v6:=by
 refine ⟨?_,?_,?_,?_,?_,?_,?_,fun m n0 n1 n2 n3 n4 n5 n6=>?_⟩
 ·rw [kE (f:="kept_entries") (g:="kept_canal") (by decide +kernel),kE (f:="kept_words") (g:="kept_canal") (by decide +kernel),kE (f:="kept_pours") (g:="kept_canal") (by decide +kernel),kE (f:="kept_state") (g:="kept_canal") (by decide +kernel),kE (f:="kept_ways") (g:="kept_canal") (by decide +kernel),kE (f:="kept_names") (g:="kept_canal") (by decide +kernel),yF]
 ·rw [kE (f:="kept_entries") (g:="kept_names") (by decide +kernel),kE (f:="kept_words") (g:="kept_names") (by decide +kernel),kE (f:="kept_pours") (g:="kept_names") (by decide +kernel),kE (f:="kept_state") (g:="kept_names") (by decide +kernel),kE (f:="kept_ways") (g:="kept_names") (by decide +kernel),yF]
 ·rw [kE (f:="kept_entries") (g:="kept_ways") (by decide +kernel),kE (f:="kept_words") (g:="kept_ways") (by decide +kernel),kE (f:="kept_pours") (g:="kept_ways") (by decide +kernel),kE (f:="kept_state") (g:="kept_ways") (by decide +kernel),yF]
 ·rw [kE (f:="kept_entries") (g:="kept_state") (by decide +kernel),kE (f:="kept_words") (g:="kept_state") (by decide +kernel),kE (f:="kept_pours") (g:="kept_state") (by decide +kernel),yF]
 ·rw [kE (f:="kept_entries") (g:="kept_pours") (by decide +kernel),kE (f:="kept_words") (g:="kept_pours") (by decide +kernel),yF]
 ·rw [kE (f:="kept_entries") (g:="kept_words") (by decide +kernel),yF]
 ·rw [yF]
 ·rw [kE n6,kE n5,kE n4,kE n3,kE n2,kE n1,kE n0];rfl
variable {v0 v1 v2 v3 v4 v5 v6:V}
theorem BkFld.put2 (z:V) (h:BkFld fs v0 v1 v2 v3 v4 v5 v6):BkFld (jO "kept_ways" z fs) v0 v1 z v3 v4 v5 v6:=by
 obtain ⟨h0,h1,h2,h3,h4,h5,h6,hn⟩:=h;refine ⟨?_,?_,?_,?_,?_,?_,?_,fun m n0 n1 n2 n3 n4 n5 n6=>?_⟩
 ·rw [kE (f:="kept_ways") (g:="kept_canal") (by decide +kernel)];exact h0
 ·rw [kE (f:="kept_ways") (g:="kept_names") (by decide +kernel)];exact h1
 ·rw [yF]
 ·rw [kE (f:="kept_ways") (g:="kept_state") (by decide +kernel)];exact h3
 ·rw [kE (f:="kept_ways") (g:="kept_pours") (by decide +kernel)];exact h4
 ·rw [kE (f:="kept_ways") (g:="kept_words") (by decide +kernel)];exact h5
 ·rw [kE (f:="kept_ways") (g:="kept_entries") (by decide +kernel)];exact h6
 ·rw [kE n2];exact hn m n0 n1 n2 n3 n4 n5 n6
theorem BkFld.put3 (z:V) (h:BkFld fs v0 v1 v2 v3 v4 v5 v6):BkFld (jO "kept_state" z fs) v0 v1 v2 z v4 v5 v6:=by
 obtain ⟨h0,h1,h2,h3,h4,h5,h6,hn⟩:=h;refine ⟨?_,?_,?_,?_,?_,?_,?_,fun m n0 n1 n2 n3 n4 n5 n6=>?_⟩
 ·rw [kE (f:="kept_state") (g:="kept_canal") (by decide +kernel)];exact h0
 ·rw [kE (f:="kept_state") (g:="kept_names") (by decide +kernel)];exact h1
 ·rw [kE (f:="kept_state") (g:="kept_ways") (by decide +kernel)];exact h2
 ·rw [yF]
 ·rw [kE (f:="kept_state") (g:="kept_pours") (by decide +kernel)];exact h4
 ·rw [kE (f:="kept_state") (g:="kept_words") (by decide +kernel)];exact h5
 ·rw [kE (f:="kept_state") (g:="kept_entries") (by decide +kernel)];exact h6
 ·rw [kE n3];exact hn m n0 n1 n2 n3 n4 n5 n6
theorem BkFld.no (h:BkFld fs v0 v1 v2 v3 v4 v5 v6) (n0:¬m="kept_canal") (n1:¬m="kept_names") (n2:¬m="kept_ways") (n3:¬m="kept_state") (n4:¬m="kept_pours") (n5:¬m="kept_words") (n6:¬m="kept_entries"):fs.lookup m=none:=h.2.2.2.2.2.2.2 m n0 n1 n2 n3 n4 n5 n6
theorem ZA (H:Hp) (A:List Addr):Same (kX H A) H:=fun a o e=>by
 by_cases h:a∈A
 ·rw [Z8 h] at e;cases e
 ·rw [yO h] at e;exact e
variable {A:List Addr}
theorem JJ (s:Same H H'):Same (kX H A) (kX H' A):=fun a o e=>by
 by_cases h:a∈A
 ·rw [Z8 h] at e;cases e
 ·rw [yO h] at e ⊢;exact s a o e
theorem TQ {B:List Addr} (h:∀a∈B,a∈A):Same (kX H A) (kX H B):=fun a o e=>by
 by_cases ha:a∈A
 ·rw [Z8 ha] at e;cases e
 ·rw [yO ha] at e;rw [yO fun z=>ha (h a z)];exact e
theorem VA (h:a∈A):kX (upd H a o) A=kX H A:=by
 funext b
 by_cases hb:b∈A
 ·rw [Z8 hb,Z8 hb]
 ·rw [yO hb,yO hb,jP (fun z=>hb (by rw [z];exact h))]
theorem put3 {b:Addr} {o' u:HO} (h:H a=none) (hb:H b=some u):upd (upd H a o) b o' a=some o:=by
 rw [jP (kZ hb h).symm];exact jF
theorem StAt.del {d:Int} (hA:∀a∈A,∀l,H a≠some (.tup l)) (h:StAt H t d ms pl):StAt (kX H A) t d ms pl:=by
 obtain ⟨wt,pt,h1,h2,h3⟩:=h;have k:∀(a:Addr) (l:List V),H a=some (.tup l)->kX H A a=some (.tup l):=fun a l e=>by rw [yO fun z=>hA a z l e];exact e
 exact ⟨wt,pt,k _ _ h1,k _ _ h2,k _ _ h3⟩
theorem WyAt.del (hA:∀a∈A,∀l,H a≠some (.tup l)) (v:V) (y:qL) (h:WyAt H v y):WyAt (kX H A) v y:=by
 have k:∀(a:Addr) (l:List V),H a=some (.tup l)->kX H A a=some (.tup l):=fun a l e=>by rw [yO fun z=>hA a z l e];exact e
 obtain ⟨t,st,us,e,h1,h2,h3⟩:=h;exact ⟨t,st,us,e,k _ _ h1,k _ _ h2,h3.mono fun v p ⟨t,e,h⟩=>⟨t,e,k _ _ h⟩⟩
theorem c8 (h:n<=8):n<=100:=aK h (by decide)
structure BkS where
 zs:List Str
 ys:List qL
 d:Int
 ms:List Int
 pl:List Nat
 us:List V
 st:Addr
 ps:List V
 qs:List V
 es:List V
structure BkOk (R:List RC) (L:List LC) (N:List (List (Int×Int))) (B:BkS):Prop where
 dr:Drawn R L N
 fl:Fleet L B.ys B.pl
 ml:B.ms.length=R.length+2*L.length+2
 d0:0<=B.d
 zl:B.zs.length=B.ys.length
 z9:B.zs.length<=9
 e15:B.es.length<=20
 pn:B.ps.length<=24*B.es.length
 qn:B.qs.length<=B.es.length
structure BkAt (cs:Kd->Addr) (cR cN cO:Addr) (A:List Addr) (H:Hp) (b x:Addr) (R:List RC) (L:List LC) (N:List (List (Int×Int))) (B:BkS):Prop where
 ob:∃(db nl wl pl ql el:Addr) (fs:List (Str×V)),A=[b,nl,pl,ql,el]/\H b=some (.ins cO db fs)/\fs.length<=7+2*B.es.length/\BkFld fs (.ref x) (.ref nl) (.ref wl) (.ref B.st) (.ref pl) (.ref ql) (.ref el)/\H nl=some (.lst (B.zs.map V.str))/\H pl=some (.lst B.ps)/\H ql=some (.lst B.qs)/\H el=some (.lst B.es)/\[nl,pl,ql,el].Nodup/\kX H A wl=some (.lst B.us)
 cn:CnAt cs cR cN [] (kX H A) x R L N
 wy:AllAt (WyAt (kX H A)) B.us B.ys
 sts:StAt (kX H A) B.st B.d B.ms B.pl
 ok:BkOk R L N B
section
variable {cs:Kd->Addr} {cR cN cO:Addr} {A:List Addr} {H H':Hp} {b x:Addr} {R:List RC} {L:List LC} {N:List (List (Int×Int))} {B:BkS}
theorem BkAt.same (s:Same H H') (h:BkAt cs cR cN cO A H b x R L N B):BkAt cs cR cN cO A H' b x R L N B:=by
 obtain ⟨db,nl,wl,pl,ql,el,fs,h0,h1,h2,h3,h4,h5,h6,h7,h8,h9⟩:=h.ob;have sd:Same (kX H A) (kX H' A):=JJ s;exact ⟨⟨db,nl,wl,pl,ql,el,fs,h0,s _ _ h1,h2,h3,s _ _ h4,s _ _ h5,s _ _ h6,s _ _ h7,h8,sd _ _ h9⟩,h.cn.same sd,h.wy.mono (WyAt.same sd),h.sts.same sd,h.ok⟩
theorem BkAt.cnH (h:BkAt cs cR cN cO A H b x R L N B):CnAt cs cR cN [] H x R L N:=h.cn.same (ZA _ _)
theorem BkAt.wyH (h:BkAt cs cR cN cO A H b x R L N B):AllAt (WyAt H) B.us B.ys:=h.wy.mono (WyAt.same (ZA _ _))
theorem BkAt.stH (h:BkAt cs cR cN cO A H b x R L N B):StAt H B.st B.d B.ms B.pl:=h.sts.same (ZA _ _)
theorem BkAt.stage {l:Addr} (h:BkAt cs cR cN cO A H b x R L N B) (hl:H l=some (.lst B.us)):Stage cs cR cN [] H x l B.st B.us R L N B.ys B.d B.ms B.pl:=⟨h.cnH,h.ok.dr,hl,h.wyH,h.stH,h.ok.fl,h.ok.ml⟩
theorem BkAt.ins (h:BkAt cs cR cN cO A H b x R L N B):∃(db:Addr) (fs:List (Str×V)),H b=some (.ins cO db fs)/\∀m:Str,m∉(["kept_canal","kept_names","kept_ways","kept_state","kept_pours","kept_words","kept_entries"]:List Str)->fs.lookup m=none:=by
 obtain ⟨db,nl,wl,pl,ql,el,fs,_,hb,_,hf,_⟩:=h.ob;refine ⟨db,fs,hb,fun m hm=>?_⟩;simp only [ao,ay,bo,not_or] at hm;exact hf.no hm.1 hm.2.1 hm.2.2.1 hm.2.2.2.1 hm.2.2.2.2.1 hm.2.2.2.2.2.1 hm.2.2.2.2.2.2
end
def vJ (cs:Kd->Addr) (cR cN cO:Addr) (P:BkS->Hp->VK->Prop):Sp:=fun vs H Q _=>∃b x A R L N B,vs=[.ref b]/\BkAt cs cR cN cO A H b x R L N B/\P B H Q
def JY (cs:Kd->Addr) (cR cN cO:Addr):Sp:=fun vs H Q _=>∃b x A R L N B,vs=[.ref b]/\BkAt cs cR cN cO A H b x R L N B/\Q (.ref x) H
def JE (f:BkS->List V) (B:BkS) (H:Hp) (Q:VK):Prop:=∀l H',Same H H'->H l=none->H' l=some (.lst (f B))->Q (.ref l) H'
def JW (B:BkS) (H:Hp) (Q:VK):Prop:=Q (.ref B.st) H
def tL (cs:Kd->Addr) (cR cN cO:Addr):Sp:=fun vs H Q _=>∃b db x R L N,vs=[.ref b,.ref x]/\H b=some (.ins cO db [])/\CnAt cs cR cN [] (kX H [b]) x R L N/\Drawn R L N/\
 ∀A B H',BkAt cs cR cN cO A H' b x R L N B->B.zs=[]->B.es=[]->Same (kX H [b]) (kX H' A)->Q .non H'
structure IniJ (H0 Hi:Hp) (b db cO:Addr) (fs:List (Str×V)) (n:Nat) (ls:List Addr):Prop where
 jb:Hi b=some (.ins cO db fs)
 jn:fs.length<=n
 jl:∀c∈ls,Hi c=some (.lst [])
 jnd:ls.Nodup
 jd:Same (kX H0 [b]) (kX Hi (b::ls))
section
variable {H0 Hi Hj:Hp} {b db cO a:Addr} {fs:List (Str×V)} {n:Nat} {ls:List Addr}
theorem IniJ.same (h:IniJ H0 Hi b db cO fs n ls) (s:Same Hi Hj):IniJ H0 Hj b db cO fs n ls:=⟨s _ _ h.jb,h.jn,fun c hc=>s _ _ (h.jl c hc),h.jnd,h.jd.trans (JJ s)⟩
theorem IniJ.set (h:IniJ H0 Hi b db cO fs n ls) (f:Str) (z:V):∃H',upd Hi b (.ins cO db (jO f z fs))=H'/\IniJ H0 H' b db cO (jO f z fs) (n+1) ls/\Keep b Hi H':=by
 refine ⟨_,rfl,⟨jF,aK (zO f z fs) (Nat.succ_le_succ h.jn),fun c hc=>?_,h.jnd,?_⟩,(Keep.refl b Hi).upd _⟩
 ·rw [jP (vL (h.jl c hc) h.jb (fun z=>nomatch z))];exact h.jl c hc
 ·rw [VA aY];exact h.jd
theorem IniJ.step (h:IniJ H0 Hi b db cO fs n ls) (ha:Hi a=none) (f:Str):∃H',upd (upd Hi a (.lst [])) b (.ins cO db (jO f (.ref a) fs))=H'/\IniJ H0 H' b db cO (jO f (.ref a) fs) (n+1) (a::ls)/\∀t l,Hi t=some (.tup l)->H' t=some (.tup l):=by
 have u:=jK ha (.lst []);obtain ⟨H',e,J,k⟩:=(h.same u).set f (.ref a);have nab:a≠b:=(kZ h.jb ha).symm;refine ⟨H',e,⟨J.jb,J.jn,fun c hc=>?_,cu.mpr ⟨fun z=>(by rw [h.jl a z] at ha;cases ha),h.jnd⟩,?_⟩,fun t l ht=>k _ _ (vL (u _ _ ht) (u _ _ h.jb) (fun z=>nomatch z)) (u _ _ ht)⟩
 ·rcases ao.mp hc with rfl|hc
  ·exact k _ _ nab jF
  ·exact J.jl c hc
 ·refine h.jd.trans fun c o hc=>?_
  by_cases hm:c∈b::ls
  ·rw [Z8 hm] at hc;cases hc
  ·rw [yO hm] at hc;have n1:=kZ hc ha;have n2:c≠b:=fun z=>hm (by rw [z];exact aY)
   rw [yO fun z=>?_]
   ·exact k _ _ n2 (u _ _ hc)
   ·rcases ao.mp z with z|z
    ·exact n2 z
    ·rcases ao.mp z with z|z
     ·exact n1 z
     ·exact hm (aI _ z)
theorem StAt.tup {H H':Hp} {t:Addr} {d:Int} {ms:List Int} {pl:List Nat} (k:∀t l,H t=some (.tup l)->H' t=some (.tup l)) (h:StAt H t d ms pl):StAt H' t d ms pl:=by
 obtain ⟨wt,pt,h1,h2,h3⟩:=h;exact ⟨wt,pt,k _ _ h1,k _ _ h2,k _ _ h3⟩
end
def mY (S:Str) (c:Nat):Bool := !(Builtin.Str.occurrences S ⟨#[c]⟩ 0 S.length 1).isEmpty
def cT (S w:Str) (i:Nat):Bool:=(w.cps.toList.take i).all (mY S)
theorem SD {S w:Str} {c:Nat} (h:w.cps[i]?=some c):cT S w (i+1)=(cT S w i&&mY S c):=by
 unfold cT;rw [aG,show w.cps.toList[i]?=some c by rw [Array.getElem?_toList];exact h,all_append];simp
def zH (S w:Str):Bool:=decide (0<w.length)&&decide (w.length<13)&&cT S w w.cps.size
theorem tS (zs:List Str):(zs.map V.str).all v9=true:=by rw [all_map,cw];intro _ _;rfl
theorem UU (h:QK zs nm):QY (.str nm) (zs.map V.str)=false:=by
 unfold QY;rw [any_map,dc];intro e;obtain ⟨z,hz,e⟩:=any_eq_true.mp e;obtain ⟨i,hi⟩:=gk.mp hz;have e:(z == nm)=true:=e;rw [eq_of_beq e] at hi;exact h i hi
theorem in_iff:QY (.str nm) (zs.map V.str)=true↔¬QK zs nm:=by
 refine ⟨fun h hn=>?_,fun h=>?_⟩
 ·rw [UU hn] at h;cases h
 ·cases e:QY (.str nm) (zs.map V.str) with
  |true=>rfl
  |false =>
   refine absurd (fun i hi=>?_) h;unfold QY at e;rw [any_map,dc] at e;exact e (any_eq_true.mpr ⟨nm,av hi,by show (nm == nm)=true;exact ft nm⟩)
open Classical in
def E2:Sp:=fun vs H Q _=>∃w S:Str,vs=[.str w,.str S]/\w.length<=100/\∀H',Same H H'->Q (.bl (zH S w)) H'
def C9:Sp:=fun vs H Q _=>∃w:Str,vs=[.str w]/\w.length<=100/\∀H',Same H H'->Q (.bl (zH lettersS w)) H'
open Classical in
noncomputable def qZ (R:List RC) (L:List LC) (zs:List Str) (e:CoE):Nat:=if zH lettersS e.name=false then 1 else if e.name∈zs then 2 else if 9<=zs.length then 3 else match y6 R L e with
 |none=>4
 |some y=>if JR L y.1 y.2 then 0 else 5
def nJ (eB eT eM eU eL:Addr) (c:Nat):Addr:=if c=1 then eB else if c=2 then eT else if c=3 then eM else if c=4 then eU else eL
theorem mem_inV:QY (V.str nm) (zs.map V.str)=true↔nm∈zs:=by
 rw [in_iff];constructor
 ·intro h
  rcases TF zs nm with ⟨i,hi⟩|h'
  ·exact av hi.1
  ·exact absurd h' h
 ·intro h hn;obtain ⟨i,hi⟩:=gk.mp h;exact hn i hi
theorem RT (h:FirstAt zs nm j):j<(zs.map V.str).length/\yJ ((zs.map V.str).getD j .non) (.str nm)=true/\∀i,i<j->yJ ((zs.map V.str).getD i .non) (.str nm)=false:=by
 have hj:=(af.mp h.1).1;refine ⟨by rw [ac];exact hj,?_,fun i hi=>?_⟩
 ·rw [ad,ak,h.1];show (nm == nm)=true;exact ft nm
 ·have hz:zs[i]?=some zs[i]:=aa (by lia);rw [ad,ak,hz];show (zs[i] == nm)=false;exact da.mpr fun e=>h.2 i hi (by rw [hz,e])
theorem tP {e:CoE} {y:qL} (h:y6 R L e=some y):∃a:Nat,y.1=(a:Int)/\kH (R.map (·.name)) e.start=some a/\a<R.length/\y.2.length=e.steps.length/\∀p∈y.2,p.1<L.length:=by
 unfold y6 at h;cases ha:kH (R.map (·.name)) e.start with
 |none=>rw [ha] at h;cases h
 |some a =>
  rw [ha] at h;obtain ⟨ps,hps,rfl⟩:=aP.mp h;have h1:=Q7 ha;rw [ac] at h1;obtain ⟨h2,h3⟩:=tT hps;exact ⟨a,rfl,rfl,h1,h2,fun p hp=>by have:=h3 p hp;rwa [ac] at this⟩
open Classical in
theorem uM {R:List RC} {L:List LC} {zs:List Str} {e:CoE} (h:qZ R L zs e=0):∃y,y6 R L e=some y/\JR L y.1 y.2/\e.name∉zs/\zs.length<9:=by
 unfold qZ at h
 by_cases hg:zH lettersS e.name=false
 ·rw [if_pos hg] at h;cases h
 rw [if_neg hg] at h
 by_cases hz:e.name∈zs
 ·rw [if_pos hz] at h;cases h
 rw [if_neg hz] at h
 by_cases h9:9<=zs.length
 ·rw [if_pos h9] at h;cases h
 rw [if_neg h9] at h;cases hy:y6 R L e with
 |none=>rw [hy] at h;cases h
 |some y =>
  rw [hy] at h
  by_cases hok:JR L y.1 y.2
  ·exact ⟨y,rfl,hok,hz,by lia⟩
  ·have h:(if JR L y.1 y.2 then 0 else 5)=0:=h;rw [if_neg hok] at h;cases h
theorem TX (R:List RC) (L:List LC) (zs:List Str) (e:CoE):qZ R L zs e<=5:=by
 unfold qZ
 split
 ·decide
 split
 ·decide
 split
 ·decide
 split
 ·decide
 split<;>decide
inductive Ent
 |come (e:CoE)
 |pas (n:Str)
 |lt (n:Str)
 |night (W:List (Int×Int))
 |take (n:Str) (a:Int)
 |rain (n:Str) (a:Int)
def EnAt (H:Hp) (t:Addr):Ent->Prop
 |.come e=>CoAt H t e
 |.pas n=>H t=some (.tup [.str "pass",.str n])
 |.lt n=>H t=some (.tup [.str "let",.str n])
 |.night W=>∃wt us,H t=some (.tup [.str "night",.ref wt])/\H wt=some (.tup us)/\AllAt (QAt H) us W
 |.take n a=>H t=some (.tup [.str "take",.str n,.int a])
 |.rain n a=>H t=some (.tup [.str "rain",.str n,.int a])
theorem EnAt.same {H H':Hp} {t:Addr} (s:Same H H'):∀{e:Ent},EnAt H t e->EnAt H' t e
 |.come _,h=>CoAt.same s h
 |.pas _,h=>s _ _ h
 |.lt _,h=>s _ _ h
 |.night _,⟨wt,us,h1,h2,h3⟩=>⟨wt,us,s _ _ h1,s _ _ h2,h3.mono (QAt.same s)⟩
 |.take _ _,h=>s _ _ h
 |.rain _ _,h=>s _ _ h
def e9:Ent->Prop
 |.come e=>e.name.length<=100/\e.steps.length<=8/\1<=e.steps.length
 |.night W=>W.length<=100
 |_=>True
def ZH:Ent->Str
 |.come _=>"come"
 |.pas _=>"pass"
 |.lt _=>"let"
 |.night _=>"night"
 |.take _ _=>"take"
 |.rain _ _=>"rain"
theorem yW {x:V} {l:List V}:qS (x::l) 0=some x:=kQ (j:=0) rfl
theorem EnAt.head:∀{e:Ent},EnAt H t e->∃l,H t=some (.tup (.str (ZH e)::l))
 |.come _,⟨_,_,h,_⟩=>⟨_,h⟩
 |.pas _,h=>⟨_,h⟩
 |.lt _,h=>⟨_,h⟩
 |.night _,⟨_,_,h,_⟩=>⟨_,h⟩
 |.take _ _,h=>⟨_,h⟩
 |.rain _ _,h=>⟨_,h⟩
def ZN (R:List RC) (L:List LC) (zs:List Str):Ent->Option Nat
 |.pas n=>kH zs n
 |.lt n=>kH (L.map (·.name)) n
 |.take n _=>kH (R.map (·.name)) n
 |.rain n _=>kH (R.map (·.name)) n
 |_=>none
def bF:Ent->Bool
 |.come _=>false
 |.night _=>false
 |_=>true
noncomputable def qH (R:List RC) (L:List LC) (N:List (List (Int×Int))) (B:BkS):Ent->Nat
 |.come e=>qZ R L B.zs e
 |.night W=>if W.length=R.length then (if B.d<(N.length:Int)/\bJ W (N.getD B.d.toNat [])=false then 8 else 0) else 7
 |e=>if ZN R L B.zs e=none then 4 else 0
def mP (R:List RC) (L:List LC) (B:BkS) (e:CoE):Bool:=match y6 R L e with
 |some y=>decide (((R[y.1.toNat]?).map (·.berths)).getD 0<=(((y8 L B.ys B.pl).countP fun z=>decide (z=y.1):Nat):Int))
 |none=>false
def yZ (R:List RC) (L:List LC) (zs:List Str):Ent->Option Deed
 |.pas n=>(kH zs n).map Deed.pass
 |.lt n=>(kH (L.map (·.name)) n).map Deed.let
 |.night _=>some .night
 |_=>none
def y0 (R:List RC) (L:List LC) (N:List (List (Int×Int))) (B:BkS):Ent->Str
 |.come e=>if mP R L B e=true then "berth" else ""
 |.take n a=>match kH (R.map (·.name)) n with
  |some i=>if B.ms.getD i 0 - a<((R[i]?).map (·.least)).getD 0 then "water" else ""
  |none=>""
 |.rain _ _=>""
 |e=>match yZ R L B.zs e with
  |some de=>QT R L N.length B.ys B.d B.ms B.pl de
  |none=>""
def cS (eB eT eM eU eL eN eD:Addr) (c:Nat):Addr:=if c=7 then eN else if c=8 then eD else nJ eB eT eM eU eL c
def qQ (cs:Kd->Addr) (cR cN cO:Addr) (P:List RC->List LC->List (List (Int×Int))->BkS->Addr->Ent->Hp->VK->XK->Prop):Sp:=fun vs H Q E=>∃b t x A R L N B e,vs=[.ref b,.ref t]/\BkAt cs cR cN cO A H b x R L N B/\EnAt H t e/\e9 e/\P R L N B t e H Q E
def cL (eU:Addr) (R:List RC) (L:List LC) (_:List (List (Int×Int))) (B:BkS) (_:Addr) (e:Ent) (H:Hp) (Q:VK) (E:XK):Prop:=bF e=true/\(∀i,ZN R L B.zs e=some i->∀H',Same H H'->Q (.int ((i:Nat):Int)) H')/\(ZN R L B.zs e=none->∀H',Same H H'->E (.ref eU) none H')
def GJ (eB eT eM eU eL eN eD:Addr) (R:List RC) (L:List LC) (N:List (List (Int×Int))) (B:BkS) (_:Addr) (e:Ent) (H:Hp) (Q:VK) (E:XK):Prop:=(qH R L N B e=0->∀H',Same H H'->Q .non H')/\(qH R L N B e≠0->∀H',Same H H'->E (.ref (cS eB eT eM eU eL eN eD (qH R L N B e))) none H')
def E7 (eU:Addr):Sp:=fun vs H Q E=>∃nm l zs,vs=[.str nm,.ref l]/\H l=some (.lst (zs.map V.str))/\zs.length<=100/\(∀i,kH zs nm=some i->Q (.int ((i:Nat):Int)) H)/\(kH zs nm=none->E (.ref eU) none H)
def BZ (cs:Kd->Addr) (cR cN cO eB eT eM eU eL:Addr):Sp:=fun vs H Q E=>∃b t x A R L N B e,vs=[.ref b,.ref t]/\BkAt cs cR cN cO A H b x R L N B/\CoAt H t e/\e9 (.come e)/\(qZ R L B.zs e=0->∀H',Same H H'->Q .non H')/\(qZ R L B.zs e≠0->∀H',Same H H'->E (.ref (nJ eB eT eM eU eL (qZ R L B.zs e))) none H')
def BA (cs:Kd->Addr) (cR cN cO eN eD:Addr):Sp:=fun vs H Q E=>∃b wt x A R L N B us W,vs=[.ref b,.ref wt]/\BkAt cs cR cN cO A H b x R L N B/\H wt=some (.tup us)/\AllAt (QAt H) us W/\W.length<=100/\(qH R L N B (.night W)=0->∀H',Same H H'->Q .non H')/\(qH R L N B (.night W)=7->∀H',Same H H'->E (.ref eN) none H')/\(qH R L N B (.night W)=8->∀H',Same H H'->E (.ref eD) none H')
def mX (R:List RC) (L:List LC) (_:List (List (Int×Int))) (B:BkS) (_:Addr) (e:Ent) (H:Hp) (Q:VK) (_:XK):Prop:=∃de,yZ R L B.zs e=some de/\∀dd H',Same H H'->H' dd=some (.tup (nA de))->Q (.ref dd) H'
def FW (R:List RC) (_:List LC) (_:List (List (Int×Int))) (B:BkS) (_:Addr) (e:Ent) (H:Hp) (Q:VK) (_:XK):Prop:=∃n a i,e=.take n a/\kH (R.map (·.name)) n=some i/\∀H',Same H H'->Q (.bl (decide (B.ms.getD i 0 - a<((R[i]?).map (·.least)).getD 0))) H'
def GI (R:List RC) (L:List LC) (N:List (List (Int×Int))) (B:BkS) (_:Addr) (e:Ent) (H:Hp) (Q:VK) (_:XK):Prop:=qH R L N B e=0/\∀H',Same H H'->Q (.str (y0 R L N B e)) H'
variable {B:BkS} {e:Ent}
theorem Z4 (h:bF e=true) (hc:qH R L N B e=0):∃i,ZN R L B.zs e=some i:=by
 cases hn:ZN R L B.zs e with
 |some i=>exact ⟨i,rfl⟩
 |none =>
  have:qH R L N B e=if ZN R L B.zs e=none then 4 else 0:=by cases e<;>first|rfl|cases h
  rw [hn,if_pos rfl,hc] at this;cases this
def eG:Ent->Bool
 |.pas _=>true
 |.lt _=>true
 |.night _=>true
 |_=>false
theorem DO:∀{e:Ent},bF e=true->ZH e≠"come"/\ZH e≠"night"
 |.pas _,_=>⟨(show ("pass":Str)≠"come" by decide +kernel),(show ("pass":Str)≠"night" by decide +kernel)⟩
 |.lt _,_=>⟨(show ("let":Str)≠"come" by decide +kernel),(show ("let":Str)≠"night" by decide +kernel)⟩
 |.take _ _,_=>⟨(show ("take":Str)≠"come" by decide +kernel),(show ("take":Str)≠"night" by decide +kernel)⟩
 |.rain _ _,_=>⟨(show ("rain":Str)≠"come" by decide +kernel),(show ("rain":Str)≠"night" by decide +kernel)⟩
theorem tZ:∀{e:Ent},eG e=true->ZH e≠"come"/\ZH e≠"take"/\ZH e≠"rain"
 |.pas _,_=>⟨(show ("pass":Str)≠"come" by decide +kernel),(show ("pass":Str)≠"take" by decide +kernel),(show ("pass":Str)≠"rain" by decide +kernel)⟩
 |.lt _,_=>⟨(show ("let":Str)≠"come" by decide +kernel),(show ("let":Str)≠"take" by decide +kernel),(show ("let":Str)≠"rain" by decide +kernel)⟩
 |.night _,_=>⟨(show ("night":Str)≠"come" by decide +kernel),(show ("night":Str)≠"take" by decide +kernel),(show ("night":Str)≠"rain" by decide +kernel)⟩
theorem B9:∀e:Ent,ZH e≠"come"\/∃e',e=.come e'
 |.come e=>.inr ⟨e,rfl⟩
 |.pas _=>.inl (show ("pass":Str)≠"come" by decide +kernel)
 |.lt _=>.inl (show ("let":Str)≠"come" by decide +kernel)
 |.night _=>.inl (show ("night":Str)≠"come" by decide +kernel)
 |.take _ _=>.inl (show ("take":Str)≠"come" by decide +kernel)
 |.rain _ _=>.inl (show ("rain":Str)≠"come" by decide +kernel)
theorem RN:∀e:Ent,(ZH e≠"let"/\ZH e≠"pass")\/(∃n,e=.pas n)\/∃n,e=.lt n
 |.pas n=>.inr (.inl ⟨n,rfl⟩)
 |.lt n=>.inr (.inr ⟨n,rfl⟩)
 |.come _=>.inl ⟨(show ("come":Str)≠"let" by decide +kernel),(show ("come":Str)≠"pass" by decide +kernel)⟩
 |.night _=>.inl ⟨(show ("night":Str)≠"let" by decide +kernel),(show ("night":Str)≠"pass" by decide +kernel)⟩
 |.take _ _=>.inl ⟨(show ("take":Str)≠"let" by decide +kernel),(show ("take":Str)≠"pass" by decide +kernel)⟩
 |.rain _ _=>.inl ⟨(show ("rain":Str)≠"let" by decide +kernel),(show ("rain":Str)≠"pass" by decide +kernel)⟩
theorem uW (zl:B.zs.length=B.ys.length) (h:eG e=true) (hc:qH R L N B e=0):∃de,yZ R L B.zs e=some de/\wJ B.ys.length L.length de/\y0 R L N B e=QT R L N.length B.ys B.d B.ms B.pl de/\(bF e=true->de≠.night/\(nB R L N B.ys B.d B.ms B.pl de).length<=4):=by
 cases e with
 |night W=>exact ⟨.night,rfl,trivial,rfl,fun z=>nomatch z⟩
 |pas n =>
  obtain ⟨i,hi⟩:=Z4 (e:=.pas n) rfl hc;have hi:kH B.zs n=some i:=hi;have hd:yZ R L B.zs (.pas n)=some (.pass i):=by show (kH B.zs n).map Deed.pass=_;rw [hi];rfl
  refine ⟨.pass i,hd,?_,?_,fun _=>⟨(fun z=>nomatch z),B6 _ _ _ _⟩⟩
  ·have:=Q7 hi;show i<B.ys.length
   lia
  ·show (match yZ R L B.zs (.pas n) with|some de=>QT R L N.length B.ys B.d B.ms B.pl de|none=>"")=_;rw [hd]
 |lt n =>
  obtain ⟨i,hi⟩:=Z4 (e:=.lt n) rfl hc;have hi:kH (L.map (·.name)) n=some i:=hi;have hd:yZ R L B.zs (.lt n)=some (.let i):=by show (kH (L.map (·.name)) n).map Deed.let=_;rw [hi];rfl
  refine ⟨.let i,hd,?_,?_,fun _=>⟨(fun z=>nomatch z),DK _ _ _ _⟩⟩
  ·have:=Q7 hi
   rwa [ac] at this
  ·show (match yZ R L B.zs (.lt n) with|some de=>QT R L N.length B.ys B.d B.ms B.pl de|none=>"")=_;rw [hd]
 |come e=>cases h
 |take n a=>cases h
 |rain n a=>cases h
def C2:Sp:=fun vs H Q _=>∃(s t m:Nat) (a:Int),vs=[.int (s:Int),.int (t:Int),.int a]/\s<m/\t<m/\∀r zs qs H',Same H H'->H r=none->H' r=some (.lst zs)->PoursH H' zs qs m->zs.length<=1->Q (.ref r) H'
def wH (R:List RC) (L:List LC) (N:List (List (Int×Int))) (B:BkS) (_:Addr) (e:Ent) (H:Hp) (Q:VK) (_:XK):Prop:=qH R L N B e=0/\y0 R L N B e=""/\∀r zs qs H',Same H H'->H r=none->H' r=some (.lst zs)->PoursH H' zs qs B.ms.length->zs.length<=24->Q (.ref r) H'
theorem uD {m:Nat} {f:Nat->Int}:((yV (qK (vD R m)) f (vD R m).length).filter q9).length<=R.length:=by
 refine aK (bf _ _) ?_;unfold yV;rw [ac,dJ,fP];exact aj _
theorem SY {W:List (Int×Int)} (hc:qH R L N B (.night W)=0):W.length=R.length:=by
 have:qH R L N B (.night W)=if W.length=R.length then (if B.d<(N.length:Int)/\bJ W (N.getD B.d.toNat [])=false then 8 else 0) else 7:=rfl
 by_cases h:W.length=R.length
 ·exact h
 ·rw [if_neg h,hc] at this;cases this
def bD (R:List RC) (L:List LC) (B:BkS):Ent->List qL
 |.come e=>B.ys++(y6 R L e).toList
 |_=>B.ys
def QA (R:List RC) (L:List LC) (B:BkS) (e:Ent):List Nat:=match e with
 |.come _=>B.pl++[0]
 |_=>match yZ R L B.zs e with
  |some de=>Q9 B.pl de
  |none=>B.pl
def eZ (B:BkS):Ent->Int
 |.night _=>B.d+1
 |_=>B.d
def QX (B:BkS):Ent->List Str
 |.come e=>B.zs++[e.name]
 |_=>B.zs
theorem WN {de:Deed} (h:eG e=true) (hd:yZ R L B.zs e=some de):eZ B e=FZ B.d de/\QA R L B e=Q9 B.pl de:=by
 cases e with
 |come e=>cases h
 |take n a=>cases h
 |rain n a=>cases h
 |night W=>cases hd;exact ⟨rfl,rfl⟩
 |pas n =>
  have hp:QA R L B (.pas n)=Q9 B.pl de:=by show (match yZ R L B.zs (.pas n) with|some de=>Q9 B.pl de|none=>B.pl)=_;rw [hd]
  obtain ⟨i,_,rfl⟩:=aP.mp hd;exact ⟨rfl,hp⟩
 |lt n =>
  have hp:QA R L B (.lt n)=Q9 B.pl de:=by show (match yZ R L B.zs (.lt n) with|some de=>Q9 B.pl de|none=>B.pl)=_;rw [hd]
  obtain ⟨i,_,rfl⟩:=aP.mp hd;exact ⟨rfl,hp⟩
def FE (R:List RC) (L:List LC) (N:List (List (Int×Int))) (B:BkS) (_:Addr) (e:Ent) (H:Hp) (Q:VK) (_:XK):Prop:=qH R L N B e=0/\∀l us H',Same H H'->H l=none->H' l=some (.lst us)->AllAt (WyAt H') us (bD R L B e)->Q (.ref l) H'
def EO (R:List RC) (L:List LC) (N:List (List (Int×Int))) (B:BkS) (_:Addr) (e:Ent) (H:Hp) (Q:VK) (_:XK):Prop:=qH R L N B e=0/\y0 R L N B e=""/\∀st ms H',Same H H'->StAt H' st (eZ B e) ms (QA R L B e)->ms.length=B.ms.length->Q (.ref st) H'
def FV (R:List RC) (L:List LC) (N:List (List (Int×Int))) (B:BkS) (_:Addr) (e:Ent) (H:Hp) (Q:VK) (_:XK):Prop:=qH R L N B e=0/\y0 R L N B e=""/\∀l vs H',Same H H'->H l=none->H' l=some (.lst vs)->vs.length<=1->Q (.ref l) H'
def C7:Sp:=fun vs H Q _=>∃f w:Bool,vs=[.bl f,.str (yI w)]/\∀l H',Same H H'->Q (.ref l) H'
def CW (cs:Kd->Addr) (cR cN:Addr):Sp:=fun vs H Q _=>∃(x wl st:Addr) (b:Nat) (us:List V) (ys:List qL) (y:qL) (p:Nat) (s:Nat×Bool) (d:Int) (ms:List Int) (pl:List Nat) (D:List Addr) (R:List RC) (L:List LC) (N:List (List (Int×Int))),vs=[.ref x,.ref wl,.ref st,.int (b:Int)]/\Stage cs cR cN D H x wl st us R L N ys d ms pl/\ys[b]?=some y/\pl[b]?=some p/\y.2[p]?=some s/\
 ∀t H',Same H H'->Q (.ref t) H'
def upT:List Str:=["open low","in low","shut low","fill","open high","out high","shut high"]
def downT:List Str:=["open high","in high","shut high","let","open low","out low","shut low"]
def mM (eB eT eM eU eL eN eD:Addr) (R:List RC) (L:List LC) (N:List (List (Int×Int))) (B:BkS) (_:Addr) (e:Ent) (H:Hp) (Q:VK) (E:XK):Prop:=(qH R L N B e=0->∀H',Same H H'->Q (.str (y0 R L N B e)) H')/\(qH R L N B e≠0->∀H',Same H H'->E (.ref (cS eB eT eM eU eL eN eD (qH R L N B e))) none H')
def uU (eB eT eM eU eL eN eD eW:Addr) (R:List RC) (L:List LC) (N:List (List (Int×Int))) (B:BkS) (_:Addr) (e:Ent) (H:Hp) (Q:VK) (E:XK):Prop :=
 (qH R L N B e=0->y0 R L N B e=""->∀p l st us ms H',Same H H'->H' p=some (.tup [.ref l,.ref st])->H l=none->H' l=some (.lst us)->AllAt (WyAt H') us (bD R L B e)->StAt H' st (eZ B e) ms (QA R L B e)->ms.length=B.ms.length->Q (.ref p) H')/\
 (qH R L N B e=0->y0 R L N B e≠""->∀H',Same H H'->E (.ref eW) none H')/\(qH R L N B e≠0->∀H',Same H H'->E (.ref (cS eB eT eM eU eL eN eD (qH R L N B e))) none H')
def w5 (cs:Kd->Addr) (cR cN cO eB eT eM eU eL eN eD eW:Addr):Sp:=fun vs H Q E=>∃b t x A R L N B e,vs=[.ref b,.ref t]/\BkAt cs cR cN cO A H b x R L N B/\EnAt H t e/\e9 e/\
 (qH R L N B e=0->y0 R L N B e=""->B.es.length<20/\∀B' H',BkAt cs cR cN cO A H' b x R L N B'->B'.zs=QX B e->B'.es.length=B.es.length+1->Same (kX H A) (kX H' A)->Q .non H')/\
 (qH R L N B e=0->y0 R L N B e≠""->∀H',Same H H'->E (.ref eW) none H')/\(qH R L N B e≠0->∀H',Same H H'->E (.ref (cS eB eT eM eU eL eN eD (qH R L N B e))) none H')
theorem VB (h:∀a,a∉A->H a=H' a):kX H A=kX H' A:=by
 funext a
 by_cases ha:a∈A
 ·rw [Z8 ha,Z8 ha]
 ·rw [yO ha,yO ha,h a ha]
theorem P8 {p:Nat} (h:(JV pl b)[i]?=some p):∃q,pl[i]?=some q/\p=if i=b then q+1 else q:=by
 unfold JV at h;rw [ak] at h;obtain ⟨j,hj,rfl⟩:=aP.mp h;have hi:i<pl.length:=by
  have:=(af.mp hj).1
  rwa [aT] at this
 rw [ck hi] at hj;cases hj;exact ⟨_,aa hi,by rw [ad,aa hi];rfl⟩
theorem TD (ok:BkOk R L N B) (hsm:e9 e) (hc:qH R L N B e=0) (hw:y0 R L N B e=""):Fleet L (bD R L B e) (QA R L B e)/\(QX B e).length=(bD R L B e).length/\(QX B e).length<=9:=by
 have fl:=ok.fl;have zl:=ok.zl;have z9:=ok.z9;cases e with
 |come e =>
  obtain ⟨y,hy,hok,hnz,h9⟩:=uM (show qZ R L B.zs e=0 from hc);obtain ⟨a,ha,hfa,haR,hyl,hlt⟩:=tP hy;have hwe:bD R L B (.come e)=B.ys++[y]:=by show B.ys++(y6 R L e).toList=_;rw [hy];rfl
  have hpe:QA R L B (.come e)=B.pl++[0]:=rfl;have hze:QX B (.come e)=B.zs++[e.name]:=rfl;have h8:=hsm.2.1;rw [hwe,hpe,hze];simp only [ag,aO];refine ⟨⟨by simp only [ag,aO];rw [fl.len],by simp only [ag,aO];lia,fun y' hy'=>?_,fun i y' p hy' hp=>?_⟩,by lia,by lia⟩
  ·rcases ba.mp hy' with h|h
   ·exact fl.ok y' h
   ·rw [aS.mp h];exact ⟨hlt,hok,by lia⟩
  ·by_cases hi:i<B.ys.length
   ·rw [aC hi] at hy';rw [aC (by rw [fl.len];exact hi)] at hp;exact fl.le i y' p hy' hp
   ·rw [aE (by rw [fl.len];lia)] at hp;have:p=0:=by
     have h1:=(af.mp hp).1;rw [aO] at h1;rw [show i - B.pl.length=0 by lia] at hp;cases hp;rfl
    lia
 |pas n =>
  obtain ⟨i,hi⟩:=Z4 (e:=.pas n) rfl hc;have hi:kH B.zs n=some i:=hi;have hde:yZ R L B.zs (.pas n)=some (.pass i):=by show (kH B.zs n).map Deed.pass=_;rw [hi];rfl
  have hpe:QA R L B (.pas n)=JV B.pl i:=by
   show (match yZ R L B.zs (.pas n) with|some de=>Q9 B.pl de|none=>B.pl)=_;rw [hde];rfl
  have hwd:cH R L B.ys B.ms B.pl i="":=by
   have e1:y0 R L N B (.pas n)=match yZ R L B.zs (.pas n) with|some de=>QT R L N.length B.ys B.d B.ms B.pl de|none=>"":=rfl
   rw [e1,hde] at hw;exact hw
  have hne:=uB hwd;rw [hpe];refine ⟨⟨by rw [lK];exact fl.len,fl.n10,fl.ok,fun j y p hy hp=>?_⟩,zl,z9⟩;have hy:B.ys[j]?=some y:=hy;obtain ⟨q,hq,rfl⟩:=P8 hp;have h1:=fl.le j y q hy hq
  by_cases hj:j=i
  ·subst hj;rw [if_pos rfl];rw [ad,hq,ad,hy] at hne;have hne:¬q=y.2.length:=hne
   lia
  ·rw [if_neg hj];exact h1
 |lt n =>
  obtain ⟨i,hi⟩:=Z4 (e:=.lt n) rfl hc;have hi:kH (L.map (·.name)) n=some i:=hi;have hpe:QA R L B (.lt n)=B.pl:=by
   show (match (kH (L.map (·.name)) n).map Deed.let with|some de=>Q9 B.pl de|none=>B.pl)=_;rw [hi];rfl
  rw [hpe];exact ⟨fl,zl,z9⟩
 |night W=>exact ⟨fl,zl,z9⟩
 |take n a=>exact ⟨fl,zl,z9⟩
 |rain n a=>exact ⟨fl,zl,z9⟩
theorem TU (h:0<=B.d):0<=eZ B e:=by
 cases e
 case night W=>show 0<=B.d+1;lia
 all_goals exact h
theorem wK (b:Bool):decide (wv b=V.str "up")=b:=by
 cases b
 ·exact aH (fun e=>absurd (V.str.inj e) (by decide +kernel))
 ·exact aV rfl
theorem TR (b:Bool):decide (wv b=V.str "down") = !b:=by
 cases b
 ·exact aV rfl
 ·exact aH (fun e=>absurd (V.str.inj e) (by decide +kernel))
theorem DC (f:α->V) (ms:List α) (z:α):ms.map f++[f z]=(ms++[z]).map f:=by simp
theorem TZ {bs:List Bool} (h:k<bs.length):qS (bs.map wv) (k:Int)=some (wv (bs.getD k false)):=by
 refine kQ ?_;rw [ak,aa h,ad,aa h];rfl
def vS (k:Nat):V:=.int (k:Int)
def wk (b:Bool):kC:=.inr (if b then "up" else "down")
theorem W9 (b:Bool):kV (wk b)=wv b:=by cases b<;>rfl
theorem FN:¬((Sum.inr "up":kC)=(Sum.inr "down":kC)):=fun h=>absurd (Sum.inr.inj h) (by decide +kernel)
def QC (x y:V):List (kC×V):=[(.inr "up",x),(.inr "down",y)]
theorem S5 (x y:V):b6 [] [((.inr "up":kC),x),(.inr "down",y)]=QC x y:=by
 show y7 (y7 ([]:List (kC×V)) (Sum.inr "up") x) (Sum.inr "down") y=_;rw [dR x (valV_nil:vE [] (Sum.inr "up":kC)=none),dR y (by
  show vE [((.inr "up":kC),x)] _=none;rw [yN FN];rfl)]
 rfl
theorem VJ (x y:V) (b:Bool):vE (QC x y) (wk b)=some (if b then x else y):=by
 cases b
 ·show vE [((.inr "up":kC),x),(.inr "down",y)] (.inr "down")=_;rw [yN FN,Q8 rfl];rfl
 ·show vE [((.inr "up":kC),x),(.inr "down",y)] (.inr "up")=_;rw [Q8 rfl];rfl
theorem mG {x y:V} (b:Bool) (h:H a=some (.dK (QC x y))):DGet H a (wv b) (some (if b then x else y)):=by
 rw [<- W9,<- VJ x y b];exact DGet.k h
theorem WM (c b:Bool):decide (wv c=wv b)=(c == b):=by
 cases b
 ·show decide (wv c=V.str "down")=_;rw [TR];cases c<;>rfl
 ·show decide (wv c=V.str "up")=_;rw [wK];cases c<;>rfl
theorem UA (c b:Bool):w6 (wv c) (wv b)=true:=by cases c<;>cases b<;>rfl
def yP (b:Bool) (bs:List Bool):List Nat:=(List.range bs.length).filter fun k=>bs.getD k false == b
def C6 (K:W.Frag):Sp:=fun vs H Q _=>∃r bs b,vs=[.ref r,wv b]/\SqL K H r (bs.map wv)/\bs.length<=1000/\
 ∀l H',Same H H'->H l=none->H' l=some (.lst ((yP b bs).reverse.map vS))->Q (.ref l) H'
def wP (f ue de:Bool):Bool:=if f then de else !ue
def D8:Sp:=fun vs H Q _=>∃f w x y xs ys,vs=[.bl f,.ref w]/\H w=some (.dK (QC (.ref x) (.ref y)))/\H x=some (.lst xs)/\H y=some (.lst ys)/\Q (wv (wP f xs.isEmpty ys.isEmpty)) H
inductive Thr:Bool->List Nat->List Nat->List Nat->Prop where
 |nil (f:Bool):Thr f [] [] []
 |up {f:Bool} {u:Nat} {us ds o:List Nat} (h:f=false\/ds=[]) (t:Thr true us ds o):Thr f (u::us) ds (u::o)
 |down {f:Bool} {d:Nat} {us ds o:List Nat} (h:f=true\/us=[]) (t:Thr false us ds o):Thr f us (d::ds) (d::o)
theorem OY (f:Bool) (us ds:List Nat) (h:0<us.length+ds.length) :
  (∃u us',us=u::us'/\wP f (us.reverse.map vS).isEmpty (ds.reverse.map vS).isEmpty=true/\(f=false\/ds=[]))\/
  (∃d ds',ds=d::ds'/\wP f (us.reverse.map vS).isEmpty (ds.reverse.map vS).isEmpty=false/\(f=true\/us=[])):=by
 have e1:(us.reverse.map vS).isEmpty=us.isEmpty:=by cases us<;>simp
 have e2:(ds.reverse.map vS).isEmpty=ds.isEmpty:=by cases ds<;>simp
 rw [e1,e2];cases us with
 |nil =>
  cases ds with
  |nil=>exact absurd h (by simp)
  |cons d ds'=>exact .inr ⟨d,ds',rfl,by cases f<;>rfl,.inr rfl⟩
 |cons u us' =>
  cases ds with
  |nil=>exact .inl ⟨u,us',rfl,by cases f<;>rfl,.inr rfl⟩
  |cons d ds' =>
   cases f
   ·exact .inl ⟨u,us',rfl,rfl,.inl rfl⟩
   ·exact .inr ⟨d,ds',rfl,rfl,.inl rfl⟩
def BX (K:W.Frag):Sp:=fun vs H Q _=>∃f r bs,vs=[.bl f,.ref r]/\SqL K H r (bs.map wv)/\bs.length<=1000/\
 ∀l H' o,Same H H'->H l=none->H' l=some (.lst (o.map vS))->Thr f (yP true bs) (yP false bs) o->Q (.ref l) H'
theorem AN (bs:List Bool):(yP true bs).length+(yP false bs).length=bs.length:=by
 unfold yP;have h:∀l:List Nat,(l.filter fun k=>bs.getD k false == true).length+(l.filter fun k=>bs.getD k false == false).length=l.length:=by
  intro l
  induction l with
  |nil=>rfl
  |cons k r ih =>
   rw [bx,bx];cases bs.getD k false
   ·simp only [Bool.false_beq,Bool.not_true,hX,if_false,ft,if_true,aZ,Bool.not_false] at *
    lia
   ·simp only [ft,if_true,aZ,Bool.true_beq,hX,if_false] at *
    lia
 rw [h,aT]
theorem BI (h:i<n):(List.range n).drop (n - (i+1))=(n - 1 - i)::(List.range n).drop (n - i):=by
 have h1:n - (i+1)<(List.range n).length:=by rw [aT];lia
 rw [drop_eq_getElem_cons h1,List.getElem_range]
 congr 1
 ·lia
 ·congr 1
  lia
def zP (ys:List qL) (pl:List Nat) (k i:Nat):Option Bool:=match (ys.getD i (0,[])).2[pl.getD i 0]? with
 |some s=>if s.1=k then some s.2 else none
 |none=>none
def J3 (zs:List Str) (ys:List qL) (pl:List Nat) (k n:Nat):List (Str×Bool):=(List.range n).filterMap fun i=>(zP ys pl k i).map fun b=>(zs.getD i "",b)
theorem dO (zs:List Str) (ys:List qL) (pl:List Nat) (k n:Nat):J3 zs ys pl k (n+1)=J3 zs ys pl k n++((zP ys pl k n).map fun b=>(zs.getD n "",b)).toList:=by
 unfold J3;rw [gh,filterMap_append];rfl
theorem fV (zs:List Str) (ys:List qL) (pl:List Nat) (k n:Nat):(J3 zs ys pl k n).length<=n:=by
 have:=length_filterMap_le (fun i=>(zP ys pl k i).map fun b=>(zs.getD i "",b)) (List.range n)
 rwa [aT] at this
def vX (B:BkS) (k:Nat):List (Str×Bool):=J3 B.zs B.ys B.pl k B.zs.length
theorem T2 {f:Bool} {us ds o:List Nat} (h:Thr f us ds o):∀p∈o,p∈us\/p∈ds:=by
 induction h with
 |nil f=>intro p hp;cases hp
 |up h t ih =>
  intro p hp
  rcases ao.mp hp with rfl|hp
  ·exact .inl aY
  ·exact (ih p hp).imp (aI _) id
 |down h t ih =>
  intro p hp
  rcases ao.mp hp with rfl|hp
  ·exact .inr aY
  ·exact (ih p hp).imp id (aI _)
theorem B5 {b:Bool} {bs:List Bool}:∀p∈yP b bs,p<bs.length:=fun p hp=>dq.mp (bp.mp hp).1
theorem T3 {f:Bool} {us ds o:List Nat} (h:Thr f us ds o):o.length=us.length+ds.length:=by
 induction h with
 |nil f=>rfl
 |up h t ih=>rw [aZ,aZ,ih];lia
 |down h t ih=>rw [aZ,aZ,ih];lia
def ZB (cs:Kd->Addr) (cR cN cO eU:Addr) (P:List RC->List LC->BkS->Nat->Hp->VK->Prop):Sp:=fun vs H Q E=>∃b x nm A R L N B,vs=[.ref b,.str nm]/\BkAt cs cR cN cO A H b x R L N B/\(∀k,kH (L.map (·.name)) nm=some k->P R L B k H Q)/\(kH (L.map (·.name)) nm=none->∀H',Same H H'->E (.ref eU) none H')
def wG (_:List RC) (_:List LC) (B:BkS) (k:Nat) (H:Hp) (Q:VK):Prop:=∀l us H',Same H H'->H l=none->H' l=some (.lst us)->AllAt (SAt H') us (vX B k)->Q (.ref l) H'
def wQ (_:List RC) (_:List LC) (B:BkS) (k:Nat) (H:Hp) (Q:VK):Prop:=∀l H',Same H H'->H l=none->H' l=some (.lst ((vX B k).map fun p=>V.str p.1))->Q (.ref l) H'
def zJ (rw:List (Str×Bool)) (p:Nat):V:=.str (rw.getD p ("",true)).1
def w9 (R:List RC) (_:List LC) (B:BkS) (k:Nat) (H:Hp) (Q:VK):Prop:=∀l o H',Same H H'->H l=none->H' l=some (.lst (o.map (zJ (vX B k))))->Thr (bG R.length B.ms k) (yP true ((vX B k).map (·.2))) (yP false ((vX B k).map (·.2))) o->Q (.ref l) H'
theorem SK (rw:List (Str×Bool)):rw.map (fun p=>V.str (yI p.2))=(rw.map (·.2)).map wv:=by
 rw [map_map];exact map_congr_left fun p _=>(FM p.2).symm
structure Txt (P:Program) (w:World) (base:Heap) (K:W.Frag) (mg:Str->Option Value) (cP cB cU:Addr) (cR:Addr) (cN:Addr) (tkS:Tok) (eC eB eT eM eU eL eW eN eD:Addr) (tkH:Tok) (cO:Addr) (dF:Tok) (dH:Tok) (dG:Tok) (aU aD:Addr):Prop where
 xy:mg "list"=none
 zf:mg "tuple"=none
 xaI:mg "max"=none
 xn:mg "range"=none
 xk:mg "len"=none
 jq:mg "sum"=none
 uw:mg "zip"=none
 xt:mg "enumerate"=none
 jr:mg "min"=none
 jt:mg "all"=none
 ju:mg "int"=none
 xo:mg "isinstance"=none
 cl:∀kd,Cls K ((jE cP cB cU) kd)
 vo:∀kd,NoAttr K ((jE cP cB cU) kd) "name"
 vq:∀kd,NoAttr K ((jE cP cB cU) kd) "high"
 ux:∀kd,NoAttr K ((jE cP cB cU) kd) "low"
 wg:∀kd,NoAttr K ((jE cP cB cU) kd) "room"
 xbb:NoAttr K cB "side"
 xaN:NoAttr K cU "lift"
 vt:mg "PlainLock"=some (.ref cP)
 uy:mg "BasinLock"=some (.ref cB)
 jv:mg "PumpLock"=some (.ref cU)
 clR:Cls K cR
 zp:NoAttr K cR "name"
 zk:NoAttr K cR "least"
 zq:NoAttr K cR "crest"
 zg:NoAttr K cR "berths"
 zr:NoAttr K cR "water"
 ze:NoAttr K cR "target"
 xbh:mg "Reach"=some (.ref cR)
 clN:Cls K cN
 xf:NoAttr K cN "reaches"
 xg:NoAttr K cN "locks"
 xq:NoAttr K cN "nights"
 xbi:mg "Canal"=some (.ref cN)
 xbM:mg "SEA"=some (.int (-1) tkS)
 wz:mg "CanalError"=some (.ref eC)
 xa0:mg "BadRow"=some (.ref eB)
 xbj:mg "Twice"=some (.ref eT)
 xaJ:mg "TooMany"=some (.ref eM)
 vc:mg "Unknown"=some (.ref eU)
 uz:mg "NotLinked"=some (.ref eL)
 ua:mg "NotNow"=some (.ref eW)
 ja:mg "BadNumber"=some (.ref eN)
 xa1:mg "TooDry"=some (.ref eD)
 xa2:QW K eB
 xbk:QW K eT
 xaK:QW K eM
 wb:QW K eU
 jc:QW K eL
 jz:QW K eW
 je:QW K eN
 xa3:QW K eD
 at_Unknown:ExcAttr K eU
 wj:(W.clsIn K eU).isSome=true
 exm_Unknown:W.exmOne K (.ref eU) (.ref eC)=some true
 k_Unknown_Unknown:W.kitOne K (.ref eU) (.ref eU)=some true
 k_Unknown_NotNow:W.kitOne K (.ref eU) (.ref eW)=some false
 xaO:mg "HOME"=some (.int (-1) tkH)
 clO:Cls K cO
 nO_kept_canal:NoAttr K cO "kept_canal"
 nO_kept_names:NoAttr K cO "kept_names"
 nO_kept_ways:NoAttr K cO "kept_ways"
 nO_kept_state:NoAttr K cO "kept_state"
 nO_kept_pours:NoAttr K cO "kept_pours"
 nO_kept_words:NoAttr K cO "kept_words"
 nO_kept_entries:NoAttr K cO "kept_entries"
 xbr:mg "Book"=some (.ref cO)
 xaL:mg "LETTERS"=some (.str lettersS dF)
 ud:mg "MOST_SIGNS"=some (.int 12 dH)
 uf:mg "MOST_BOATS"=some (.int 9 dG)
 xcp:mg "UP"=some (.ref aU)
 xbs:mg "DOWN"=some (.ref aD)
 up:∀H:Hp,SqT K H aU (upT.map V.str)
 down:∀H:Hp,SqT K H aD (downT.map V.str)
set_option maxHeartbeats 4000000
seal PE PS PSs PT PA PG PI
section
variable {P:Program} {w:World} {K:W.Frag} {mg:Str->Option Value} {base:Heap} {cP cB cU:Addr} {cR:Addr} {cN:Addr} {tkS:Tok} {eC eB eT eM eU eL eW eN eD:Addr} {tkH:Tok} {cO:Addr} {dF:Tok} {dH:Tok} {dG:Tok} {aU aD:Addr} {f:Addr} {fd:FuncData}
variable (T:Txt P w base K mg cP cB cU cR cN tkS eC eB eT eM eU eL eW eN eD tkH cO dF dH dG aU aD)
theorem fN:jS 2 ["waters","pours","held","source","target","amount"] rK:=jR
include T in
theorem LD (F:j7 K "poured_all" rK f fd) : FnOk P w K mg base jX 1 f fd ["waters","pours"] (gK K):=by
 refine F.ok2 fN fun vs H Q E h=>?_
 refine JF h fun w p ws rs qs h=>?_
 refine zK h fun e_ hW hP hA hn q=>?_
 subst e_;refine ⟨rfl,fun _ _ _ _ hr=>?_⟩;refine tk fun x0=>?_
 let u0:=ru x0 [1] (jG (yX di rfl (vQ (pv 1)) (gI rfl (qB (kI (i:=3) fN.nd rfl (.inl rfl)) (qB (kI (i:=4) fN.nd rfl (.inl rfl)) (qB (kI (i:=5) fN.nd rfl (.inl rfl)) yQ))))
    (jG (uS (pv 2) (pv 3) uJ (pv 5) WH lW)
   (kF (uS (pv 2) (pv 4) uJ (pv 5) FF lW))))
   (jM (vT (dI K) (by rfl) T.zf cy (jB (pv 2) jD))))
 refine ⟨_,(jG (jN 2 fN.nd (vT (QH K) (by rfl) T.xy aX (jB (pv 0) jD)))
   u0.h),?_⟩
 try dsimp only [jU,jT]
 refine (jA rfl (⟨w,jA rfl (⟨hW,fun l hl=>?_⟩)⟩));have s0:Same H (upd H l (.lst (ws.map V.int))):=jK hl _;refine ⟨_,rfl,p,rfl,⟨rs,s0.seq hP⟩,lY (K:=K) (a:=p) (xs:=rs) (fun i σ Hi=>∃c3 c4 c5,σ=[some (.ref w),some (.ref p),some (.ref l),c3,c4,c5]/\Hi l=some (.lst ((qN ws (qs.take i)).map V.int))/\Same H Hi)
  (vA none none none (kK rfl jF s0)) (fun i σ Hi _ ⟨_,_,_,_,_,s⟩=>s.seq hP) ?_ ?_⟩
 ·rintro i x σ Hi hx ⟨c3,c4,c5,rfl,hH,sm⟩;obtain ⟨a,s,t,m,rfl,hq,hT,hs,ht⟩:=hA.2 i x hx;have e0:(qN ws (qs.take i)).length=ws.length:=QG _ _;refine ⟨a,jA rfl (⟨wN sm hT,rfl,_,jA rfl (⟨_,jA rfl (⟨_,_,rfl,rfl,?_⟩)⟩)⟩)⟩;refine (jA rfl (jA rfl (⟨_,_,_,_,rfl,rfl,so hH,yD (by rw [e0];exact hs),jA rfl (jZ (⟨_,_,_,_,rfl,rfl,hH,mE (by rw [ac,e0];exact hs),?_⟩))⟩)))
  try dsimp only
  rw [lE];refine (jA rfl (jA rfl (⟨_,_,_,_,rfl,rfl,so jF,yD (by rw [dh,e0];exact ht),jA rfl (jZ (⟨_,_,_,_,rfl,rfl,jF,mE (by rw [ac,dh,e0];exact ht),?_⟩))⟩)))
  try dsimp only
  rw [lE];refine ⟨_,_,jA rfl (⟨?_,kY hl (kY hl sm)⟩)⟩;rw [jF,sY ws qs i _ hq];rfl
 ·rintro σ Hi ⟨c3,c4,c5,rfl,hH,sm⟩;refine (jA rfl (⟨_,jA rfl (.inl ⟨so hH,fun r hr=>?_⟩)⟩));refine q r _ (kY (sm.free hr) sm) (sm.free hr) ?_;rw [jF,hA.1,aW]
theorem AC:jS 3 ["weirs","waters","at","crest"] rD:=jR
include T in
theorem K4 (F:j7 K "over" rD f fd) : FnOk P w K mg base jX 1 f fd ["weirs","waters","at"] (E5 K):=by
 refine F.ok2 AC fun vs H Q E h=>?_
 refine zB h fun wq wa rs ws n ms i₁ h=>?_
 refine zS h fun e_ hW hA hM h1 h2 q=>?_
 subst e_;refine ⟨rfl,fun _ _ _ _ hr=>?_⟩;refine ⟨_,(jG (jN 3 AC.nd (jH (jL K) (jH (kO K) (pv 0) (pv 2)) jC))
   (jM (zW (SC rfl) (by rfl) T.xaI PyProof.Rows.boot_max (jB jC (jB (jJ yE (jH (U2 K) (pv 1) (pv 2)) (pv 3)) jD))))),?_⟩
 try dsimp only [jU,jT]
 obtain ⟨ta,hat,hT,_⟩:=lN hA h1;refine (jA rfl (jA rfl (⟨wq,_,_,_,rfl,rfl,hW,hat,ta,_,_,_,rfl,rfl,hT,rfl,?_⟩)));refine (jA rfl (jA rfl (SN hM h2 ?_)));exact (jA rfl (jZ (⟨_,jA rfl (q)⟩)))
theorem M5:jS 1 ["weirs"] pX:=jR
include T in
theorem KQ (F:j7 K "last_first" pX f fd) : FnOk P w K mg base jX 1 f fd ["weirs"] (wC K):=by
 refine F.ok2 M5 fun vs H Q E h=>?_
 obtain ⟨wq,rs,rfl,hW,hn,q⟩:=h;refine ⟨rfl,fun _ _ _ _ hr=>?_⟩;refine ⟨_,(jM (vT (NZ rfl) (by rfl) T.xy aX (jB (vT OK (by rfl) T.xn PyProof.Rows.boot_range (j9 (jJ yE (qF K T.xk (pv 0)) jC) (gL gF jC) (gL gF jC))) jD))),?_⟩
 try dsimp only [jU,jT]
 refine (jA rfl (⟨wq,jA rfl (⟨.inl hW,_,_,rfl,rfl,jA rfl (jA rfl (⟨_,_,jA rfl (⟨(by decide),(by decide),fun p hp=>?_⟩)⟩))⟩)⟩));refine (vO p _ _ _ rs.length (qU rfl jF (BJ hn) (t7 _) hn (fun l hl=>?_)));refine q l _ ((jK hp _).trans (jK hl _)) ((jK hp _).free hl) ?_;rw [jF];exact bz (fun x=>some (HO.lst x)) (PL rs.length)
theorem lB:jS 2 ["weirs","waters","held","given","at"] rS:=jR
include T in
theorem LM (F:j7 K "spills" rS f fd) (vd:Def P w K mg base 1 "last_first" ["weirs"] [] (wC K)) (xbN:Def P w K mg base 1 "over" ["weirs","waters","at"] [] (E5 K)):FnOk P w K mg base jX 2 f fd ["weirs","waters"] (C1 K):=by
 refine F.ok2 lB fun vs H Q E h=>?_
 refine JF h fun wq wa rs ws ms h=>?_
 refine vF h fun e_ hRd q=>?_
 subst e_;refine ⟨rfl,fun _ _ _ _ hr=>?_⟩;refine tk fun x0=>?_
 let u0:=ru x0 [2,0,0] (jG (VZ (jQ xbN hr rfl (j9 (pv 0) (pv 2) (pv 4))) (V2 (pv 3) (pv 4) lW))
   (kF (uS (pv 2) (jH (jL K) (jH (kO K) (pv 0) (pv 4)) jC) uJ (jH (kO K) (pv 3) (pv 4)) FF lW)))
 let u1:=ru x0 [2] (jG (yX di rfl (vQ (jQ vd hr rfl (jB (pv 0) jD))) (kI (i:=4) lB.nd rfl (.inl rfl))
    u0.h)
   (jM (pv 3)))
 let u2:=ru x0 [1] (jG (jN 3 lB.nd (jJ FA (kU (jB jC jD)) (qF K T.xk (pv 0))))
   u1.h)
 refine ⟨_,(jG (jN 2 lB.nd (vT (QH K) (by rfl) T.xy aX (jB (pv 1) jD)))
   u2.h),?_⟩
 try dsimp only [jU,jT]
 obtain ⟨hW,hA,hM,hAh,hRn,hn⟩:=id hRd;have hAF:=SE hAh;refine (jA rfl (⟨wa,jA rfl (⟨hM,fun hl hhl=>?_⟩)⟩));have t1:=jK hhl (.lst (ms.map V.int));refine ⟨zz1,fun lp hlp=>?_⟩;have t2:=jK hlp (.lst [V.int 0]);refine (jA rfl (⟨wq,jA rfl (⟨.inl ((t1.trans t2).seq hW),lp,_,_,rfl,rfl,jF,by lia,by rw [hA.1];lia,?_,fun gp hgp=>?_⟩)⟩))
 ·rw [ax,aO,Nat.one_mul,hA.1];exact small (by lia)
 rw [ax,DF,hA.1];have t3:=jK hgp (.lst ((List.replicate ws.length (0:Int)).map V.int));have u3:=(t1.trans t2).trans t3;have hlp':hl≠gp:=kZ (t2 _ _ jF) hgp;refine (jA rfl (⟨wq,rs,rfl,u3.seq hW,by rw [hA.1];lia,fun df H1 s1 hdf0 hdf=>?_⟩));have hl1:=s1 _ _ (t3 _ _ (t2 _ _ (jF:upd H hl (.lst (ms.map V.int)) hl=_)));have gp1:=s1 _ _ (jF:upd _ gp (.lst ((List.replicate ws.length (0:Int)).map V.int)) gp=_);have dhl:hl≠df:=kZ (t3 _ _ (t2 _ _ jF)) hdf0;have dgp:gp≠df:=kZ jF hdf0;have gf:H gp=none:=(t1.trans t2).free hgp;refine ⟨df,rfl,⟨_,so hdf⟩,lY (K:=K) (a:=df) (xs:=(zR rs.length).map fun (i:Nat)=>V.int (i:Int)) (fun k σ Hi=>∃hs gs c,σ=[some (.ref wq),some (.ref wa),some (.ref hl),some (.ref gp),c]/\Hi hl=some (.lst (hs.map V.int))/\Hi gp=some (.lst (gs.map V.int))/\
   Hi df=some (.lst ((zR rs.length).map fun (i:Nat)=>V.int (i:Int)))/\SplInv ws ms hs gs k/\Same H Hi)
  ⟨ms,List.replicate ws.length 0,none,rfl,hl1,gp1,hdf,SplInv.start ws ms,u3.trans s1⟩ (fun i σ Hi _ ⟨_,_,_,_,_,_,hd,_⟩=>so hd) ?_ ?_⟩
 ·rintro k x σ Hi hx ⟨hs,gs,c,rfl,hH,hG,hD,hI,sm⟩;obtain ⟨hk,rfl⟩:=DQ hx;rw [hA.1] at hk ⊢;obtain ⟨i₁,hi₁⟩:∃i,i=ws.length - 1 - k:=⟨_,rfl⟩;have hi:i₁<ws.length:=by lia
  have hst:=hI.step hAF hRn hk (by rw [<- hi₁];exact BO hA i₁ hi);rw [<- hi₁] at hst ⊢;obtain ⟨ta,hat,hT,ht⟩:=lN (hA.same sm) hi;have hAl:WeirsAt K Hi rs ws hs.length:=by rw [hI.lh];exact hA.same sm
  refine (jA rfl (jA rfl (jA rfl (⟨wq,hl,rs,ws,_,hs,i₁,rfl,sm.seq hW,hAl,.inl (so hH),hi,by rw [hI.lh];lia,?_⟩))));refine (jA rfl (jA rfl (⟨gp,_,_,_,rfl,rfl,hG,mE (by rw [ac,hI.lg];exact hi),?_⟩)));rw [lE];have k1:∀o,Keep gp Hi (upd Hi gp o):=fun o=>(Keep.refl gp Hi).upd o
  have sG:∀o,Same H (upd Hi gp o):=fun o=>kY gf sm
  have hH':∀o,upd Hi gp o hl=some (.lst (hs.map V.int)):=fun o=>(k1 o) hl _ hlp' hH
  refine (jA rfl (jA rfl (jA rfl (⟨wq,_,_,_,rfl,rfl,(sG _).seq hW,hat,ta,_,_,_,rfl,rfl,(k1 _).sqt hG hT,rfl,qA (so (hH' _)) (yD (by rw [hI.lh];exact ht)) ((jA rfl (jA rfl (qA (so jF) (yD (by rw [dh,hI.lg];exact hi)) (jZ (⟨hl,_,_,_,rfl,rfl,hH' _,mE (by rw [ac,hI.lh];exact ht),?_⟩))))))⟩))));rw [lE];refine ⟨_,_,jA rfl (⟨jF,?_,?_,hst,kY hhl (sG _)⟩)⟩
  ·rw [jP (Ne.symm hlp'),jF]
  ·rw [jP (Ne.symm dhl),jP (Ne.symm dgp),hD,hA.1]
 ·rintro σ Hi ⟨hs,gs,c,rfl,hH,hG,hD,hI,sm⟩;rw [ac,dJ,hA.1] at hI;refine (jA rfl (?_));exact q gp Hi gs sm gf hG hI.spl
theorem AF:jS 2 ["weirs","waters","given"] iV:=jR
include T in
theorem LL (F:j7 K "spill_pours" iV f fd) (xbt:Def P w K mg base 2 "spills" ["weirs","waters"] [] (C1 K)) (vd:Def P w K mg base 1 "last_first" ["weirs"] [] (wC K)):FnOk P w K mg base jX 3 f fd ["weirs","waters"] (uE K):=by
 refine F.ok2 AF fun vs H Q E h=>?_
 refine JF h fun wq wa rs ws ms h=>?_
 refine vF h fun e_ hRd q=>?_
 subst e_;refine ⟨rfl,fun _ _ _ _ hr=>?_⟩;refine tk fun x0=>?_
 let u0:=ru x0 [1] (jM (nX ["at","given","weirs"] [2,0] (qX (j8 iV)) (vQ (jQ vd hr rfl (jB (pv 0) jD))) (fun _ _ _ _ _=>(Z6 (j5 ZF (jH (kO K) (pv 1) (pv 0)) jC))) (fun _ _ _ _ _=>(kR (j9 (pv 0) (jH (jL K) (jH (kO K) (pv 2) (pv 0)) jC) (jH (kO K) (pv 1) (pv 0)))))))
 refine ⟨_,(jG (jN 2 AF.nd (jQ xbt hr rfl (jB (pv 0) (jB (pv 1) jD))))
   u0.h),?_⟩
 try dsimp only [jU,jT]
 refine (jA rfl (jA rfl ((vO wq wa rs ws ms (kK rfl hRd (fun gp H1 gs s1 hgp0 hgp hS=>?_))))));obtain ⟨hW,hA,hM,hAh,hRn,hn⟩:=hRd.same s1;refine (jA rfl (⟨wq,rs,rfl,hW,by rw [hA.1];lia,fun df H2 s2 hdf0 hdf=>?_⟩));refine ⟨df,rfl,⟨_,so hdf⟩,fun D hD=>?_⟩;refine QF (K:=K) (a:=df) (xs:=(zR rs.length).map fun (i:Nat)=>V.int (i:Int)) (caps:=[some (.ref gp),some (.ref wq)]) (fun i ys Hi=>PoursH Hi ys (((yV (qK ws) (fun a=>gs.getD a 0) ws.length).take i).filter q9) ms.length) hD (so hdf) (PoursH.nil _ _) ?_ ?_
 ·rintro i x ys Hi hx hi hle sm hY hR;obtain ⟨hk,rfl⟩:=DQ hx;rw [hA.1] at hk ⊢;obtain ⟨i₁,hi₁⟩:∃i',i'=ws.length - 1 - i:=⟨_,rfl⟩;have hi':i₁<ws.length:=by lia
  rw [<- hi₁];have s12:=s2.trans sm;obtain ⟨ta,hat,hT,ht⟩:=lN (hA.same s12) hi';have ef:((yV (qK ws) (fun a=>gs.getD a 0) ws.length).take (i+1)).filter q9=((yV (qK ws) (fun a=>gs.getD a 0) ws.length).take i).filter q9++[(i₁,qK ws i₁,gs.getD i₁ 0)].filter q9:=by
   rw [aG,N9 hk,<- hi₁,gd];rfl
  refine (jA rfl (jA rfl (qA (so (s12 _ _ hgp)) (yD (by rw [hS.1];exact hi')) (⟨rfl,jA rfl (?_)⟩))))
  by_cases hz:gs.getD i₁ 0=0
  ·refine ZJ (bz V.int hz) (dP sm hY hle (Same.refl _) ?_);rw [ef,bx,if_neg (by unfold q9;rw [aV (show gs.getD i₁ 0=0 from hz)];decide)];show PoursH Hi ys (_++[]) _;rw [bb];exact hR
  refine ZI (fun e=>hz (V.int.inj e)) ?_;refine (jA rfl (jA rfl (jA rfl (⟨wq,_,_,_,rfl,rfl,s12.seq hW,hat,ta,_,_,_,rfl,rfl,hT,rfl,jA rfl (jA rfl (qA (so (s12 _ _ hgp)) (yD (by rw [hS.1];exact hi')) (⟨zz3,fun tp htp=>?_⟩)))⟩))));have st:=jK htp (.tup [.int (i₁:Int),.int (qK ws i₁:Int),.int (gs.getD i₁ 0)]);refine yS hD sm hY hle (by lia) st ?_;rw [ef,bx,if_pos (by unfold q9;rw [aH (show ¬gs.getD i₁ 0=0 from hz)];rfl)];exact ((hR.same st).snoc jF (by lia) ht).put (st _ _ hY)
 ·intro ys Hf sm hY hle hR;rw [ac,dJ,hA.1,cf (by unfold yV;rw [ac,dJ];exact aj _)] at hR;have s12:=s2.trans sm;exact q D Hf gs ys (s1.trans s12) ((s1.trans s2).free hD) hY hR hS
theorem NH:jS 2 ["weirs","waters"] rQ:=jR
include T in
theorem LJ (F:j7 K "settled" rQ f fd) (xw:Def P w K mg base 1 "poured_all" ["waters","pours"] [] (gK K)) (zx:Def P w K mg base 3 "spill_pours" ["weirs","waters"] [] (uE K)):FnOk P w K mg base jX 4 f fd ["weirs","waters"] (BY K):=by
 refine F.ok2 NH fun vs H Q E h=>?_
 refine JF h fun wq wa rs ws ms h=>?_
 refine vF h fun e_ hRd q=>?_
 subst e_;refine ⟨rfl,fun _ _ _ _ hr=>?_⟩;refine ⟨_,(jM (jQ xw hr rfl (jB (pv 1) (jB (jQ zx hr rfl (jB (pv 0) (jB (pv 1) jD))) jD)))),?_⟩
 try dsimp only [jU,jT]
 obtain ⟨hW,hA,hM,hAh,hRn,hn⟩:=id hRd;refine (jA rfl (jA rfl (jA rfl ((vO wq wa rs ws ms (kK rfl hRd (fun p H1 gs ys s1 hp0 hp hP hS=>?_)))))));refine ⟨wa,p,ms,ys,jA rfl (⟨hM.same s1,so hp,hP.pa,hn,fun r H' s' hr0 hr=>?_⟩)⟩;rw [OW (OQ hRn (BO hA))] at hr;exact q r H' gs (s1.trans s') (s1.free hr0) hr hS
theorem NP:jS 3 ["weirs","waters","pours"] sD:=jR
include T in
theorem L4 (F:j7 K "with_spills" sD f fd) (zx:Def P w K mg base 3 "spill_pours" ["weirs","waters"] [] (uE K)) (xw:Def P w K mg base 1 "poured_all" ["waters","pours"] [] (gK K)):FnOk P w K mg base jX 4 f fd ["weirs","waters","pours"] (l9 K):=by
 refine F.ok2 NP fun vs H Q E h=>?_
 refine JQ h fun wq wa p rs ps ws ms qs h=>?_
 refine zK h fun e_ hRd hp hP h500 q=>?_
 subst e_;refine ⟨rfl,fun _ _ _ _ hr=>?_⟩;refine ⟨_,(jM (jJ bB (pv 2) (jQ zx hr rfl (jB (pv 0) (jB (jQ xw hr rfl (jB (pv 1) (jB (pv 2) jD))) jD))))),?_⟩
 try dsimp only [jU,jT]
 obtain ⟨hW,hA,hM,hAh,hRn,hn⟩:=id hRd;refine (jA rfl (jA rfl (jA rfl (jA rfl ((vO wa p ms ps qs (qU rfl hM (so hp) hP.pa hn (fun wt H1 s1 hwt0 hwt=>?_))))))));have el:(qN ms qs).length=ms.length:=QG _ _;refine ⟨wq,wt,rs,ws,qN ms qs,rfl,⟨s1.seq hW,by rw [el];exact hA.same s1,.inr (SqT.of hwt),hAh,by rw [el];exact hRn,by rw [el];exact hn⟩,fun sp H2 gs ys s2 hsp0 hsp hPs hS=>?_⟩;rw [el] at hPs;have hl:=OA ws (fun a=>gs.getD a 0);refine ⟨p,sp,_,_,rfl,rfl,s2 _ _ (s1 _ _ hp),hsp,aK (show ps.length+ys.length<=1500 by rw [hPs.1];lia) (by decide),fun al hal=>?_⟩;have s3:=jK hal (.lst (ps++ys));have s12:=s1.trans s2;exact q al _ gs _ (s12.trans s3) (s12.free hal) jF ((hP.same (s12.trans s3)).append (hPs.same s3)) hS
theorem ND:jS 1 ["parts"] iT:=jR
include T in
theorem K5 (F:j7 K "parts_not_nought" iT f fd) : FnOk P w K mg base jX 1 f fd ["parts"] (eK K):=by
  refine F.ok2 ND fun vs H Q E h=>?_
  refine cQ h fun p rs ps h=>?_
  refine J4 h fun e_ hP hA hn q=>?_
  subst e_;refine ⟨rfl,fun _ _ _ _ hr=>?_⟩;refine ⟨_,(jM (nX ["part"] [] (qX (j8 iT)) (vQ (pv 0)) (fun _ _ _ _ _=>(Z6 (j5 ZF (jH (jL K) (pv 0) jC) jC))) (fun _ _ _ _ _=>(pv 0)))),?_⟩
  try dsimp only [jU,jT]
  refine (jA rfl (⟨p,rfl,⟨rs,hP⟩,fun l hl=>?_⟩));refine QF (K:=K) (a:=p) (xs:=rs) (caps:=[]) (fun i ys Hi=>PartsAt Hi ys ((ps.take i).filter zD)) hl hP PartsAt.nil ?_ ?_
  . rintro i x ys Hi hx hi hle sm hY hR
    obtain ⟨t,sN,nN,rfl,hps,hT⟩:=hA.2 i x hx;have et:(ps.take (i+1)).filter zD=(ps.take i).filter zD++[(sN,nN)].filter zD:=by
      rw [aG,hps,gd];rfl
    refine (jA rfl (jI (SqT.of (sm _ _ hT)) rfl (⟨rfl,jA rfl (?_)⟩)))
    by_cases hz:nN=0
    . refine ZJ (by rw [hz]) ?_
      refine dP sm hY hle (Same.refl _) ?_;have e2:[(sN,nN)].filter zD=[]:=by rw [hz];rfl
      rw [et,e2,bb];exact hR
    . refine ZI (fun e=>hz (V.int.inj e)) ?_
      refine (jA rfl (yS hl sm hY hle (by lia) (Same.refl _) ?_));have e2:[(sN,nN)].filter zD=[(sN,nN)]:=by
        rw [bx,if_pos (show zD (sN,nN)=true by unfold zD;rw [aH hz];rfl)];rfl
      rw [et,e2];exact (hR.snoc (sm _ _ hT)).keep ((Keep.refl l Hi).upd _) hY
  . intro ys Hf sm hY hle hR
    rw [hA.1,aW] at hR;exact q l Hf ys sm hl hY hR
theorem MP:jS 5 ["self","name","high","low","room"] o7:=jR
include T in
theorem IE (F:Fun K "__init__" "PlainLock.__init__" o7 f fd) : FnOk P w K mg base jX 1 f fd ["self","name","high","low","room"] (dY (jE cP cB cU)):=by
 refine F.ok2 MP fun vs H Q E h=>?_
 refine zB h fun kd x dx n h₁ l r h=>?_
 refine vF h fun e_ hx q=>?_
 subst e_;refine ⟨rfl,fun _ _ _ _ hr=>?_⟩;refine tk fun x0=>?_
 let u0:=ru x0 [1] (jG (vI (pv 0) (pv 2) rfl)
   (jG (vI (pv 0) (pv 3) rfl)
   (kF (vI (pv 0) (pv 4) rfl))))
 refine ⟨_,(jG (vI (pv 0) (pv 1) rfl)
   u0.h),?_⟩
 try dsimp only [jU,jT]
 refine (jA rfl (jA rfl (⟨x,_,dx,jA rfl (⟨hx,T.cl kd,T.vo kd,(by show 0<1000;decide),?_⟩)⟩)));refine (jA rfl (jA rfl (⟨x,_,dx,jA rfl (⟨jF,T.cl kd,T.vq kd,(by show 1<1000;decide),?_⟩)⟩)));refine (jA rfl (jA rfl (⟨x,_,dx,jA rfl (⟨jF,T.cl kd,T.ux kd,?_,?_⟩)⟩)))
 ·have:=zO "high" h₁ (jO "name" n []);have h2:(jO ("name":Str) n []).length=1:=rfl
  lia
 refine (jA rfl (jA rfl (⟨x,_,dx,jA rfl (⟨jF,T.cl kd,T.wg kd,?_,?_⟩)⟩)))
 ·have:=zO "low" l (jO "high" h₁ (jO "name" n []));have h1:=zO "high" h₁ (jO "name" n []);have h2:(jO ("name":Str) n []).length=1:=rfl
  lia
 exact q _ (((((Keep.refl x H).upd _).upd _).upd _).upd _) jF
theorem L7:jS 6 ["self","name","high","low","room","side"] oI:=jR
include T in
theorem HG (F:Fun K "__init__" "BasinLock.__init__" oI f fd) (xz:CmD P w K mg base 1 "PlainLock" cP "__init__" ["self","name","high","low","room"] (dY (jE cP cB cU))):FnOk P w K mg base jX 2 f fd ["self","name","high","low","room","side"] (dX (jE cP cB cU) .basin):=by
 refine F.ok2 L7 fun vs H Q E h=>?_
 refine zB h fun x dx n h₁ l r v h=>?_
 refine vF h fun e_ hx q=>?_
 subst e_;refine ⟨rfl,fun _ _ _ _ hr=>?_⟩;refine ⟨_,(jG (vB (EL xz hr rfl (fC (pv 0) (pv 1) (pv 2) (pv 3) (pv 4))))
   (kF (vI (pv 0) (pv 5) rfl))),?_⟩
 try dsimp only [jU,jT]
 refine (jA rfl (jA rfl (jA rfl (jA rfl (jA rfl (⟨.basin,x,dx,n,h₁,l,r,rfl,hx,fun H' kp hx'=>?_⟩))))));refine (jA rfl (jA rfl (⟨x,_,dx,jA rfl (⟨hx',T.cl .basin,T.xbb,BE _ _ _ _,?_⟩)⟩)));exact q _ (kp.upd _) jF
theorem MS:jS 6 ["self","name","high","low","room","lift"] pA:=jR
include T in
theorem IH (F:Fun K "__init__" "PumpLock.__init__" pA f fd) (xz:CmD P w K mg base 1 "PlainLock" cP "__init__" ["self","name","high","low","room"] (dY (jE cP cB cU))):FnOk P w K mg base jX 2 f fd ["self","name","high","low","room","lift"] (dX (jE cP cB cU) .pump):=by
 refine F.ok2 MS fun vs H Q E h=>?_
 refine zB h fun x dx n h₁ l r v h=>?_
 refine vF h fun e_ hx q=>?_
 subst e_;refine ⟨rfl,fun _ _ _ _ hr=>?_⟩;refine ⟨_,(jG (vB (EL xz hr rfl (fC (pv 0) (pv 1) (pv 2) (pv 3) (pv 4))))
   (kF (vI (pv 0) (pv 5) rfl))),?_⟩
 try dsimp only [jU,jT]
 refine (jA rfl (jA rfl (jA rfl (jA rfl (jA rfl (⟨.pump,x,dx,n,h₁,l,r,rfl,hx,fun H' kp hx'=>?_⟩))))));refine (jA rfl (jA rfl (⟨x,_,dx,jA rfl (⟨hx',T.cl .pump,T.xaN,BE _ _ _ _,?_⟩)⟩)));exact q _ (kp.upd _) jF
theorem MU:jS 7 ["self","name","least","crest","berths","water","target"] pC:=jR
include T in
theorem IJ (F:Fun K "__init__" "Reach.__init__" pC f fd) : FnOk P w K mg base jX 1 f fd ["self","name","least","crest","berths","water","target"] (tE cR):=by
 refine F.ok2 MU fun vs H Q E h=>?_
 refine JQ h fun x dx v_name v_least v_crest v_berths v_water v_target h=>?_
 refine vF h fun e_ hx q=>?_
 subst e_;refine ⟨rfl,fun _ _ _ _ hr=>?_⟩;refine tk fun x0=>?_
 let u0:=ru x0 [3] (jG (vI (pv 0) (pv 4) rfl)
   (jG (vI (pv 0) (pv 5) rfl)
   (kF (vI (pv 0) (pv 6) rfl))))
 let u1:=ru x0 [2] (jG (vI (pv 0) (pv 3) rfl)
   u0.h)
 let u2:=ru x0 [1] (jG (vI (pv 0) (pv 2) rfl)
   u1.h)
 refine ⟨_,(jG (vI (pv 0) (pv 1) rfl)
   u2.h),?_⟩
 try dsimp only [jU,jT]
 have ln:∀f z fs (m:Nat),fs.length<=m->(jO f z fs).length<=m+1:=fun f z fs m h=>aK (zO f z fs) (by lia)
 have l0:([]:List (Str×V)).length<=0:=aj _;refine (jA rfl (jA rfl (⟨x,cR,dx,jA rfl (⟨hx,T.clR,T.zp,by lia,?_⟩)⟩)));have l1:=ln "name" v_name _ _ l0;refine (jA rfl (jA rfl (⟨x,cR,dx,jA rfl (⟨jF,T.clR,T.zk,by lia,?_⟩)⟩)));have l2:=ln "least" v_least _ _ l1;refine (jA rfl (jA rfl (⟨x,cR,dx,jA rfl (⟨jF,T.clR,T.zq,by lia,?_⟩)⟩)));have l3:=ln "crest" v_crest _ _ l2;refine (jA rfl (jA rfl (⟨x,cR,dx,jA rfl (⟨jF,T.clR,T.zg,by lia,?_⟩)⟩)));have l4:=ln "berths" v_berths _ _ l3;refine (jA rfl (jA rfl (⟨x,cR,dx,jA rfl (⟨jF,T.clR,T.zr,by lia,?_⟩)⟩)));have l5:=ln "water" v_water _ _ l4;refine (jA rfl (jA rfl (⟨x,cR,dx,jA rfl (⟨jF,T.clR,T.ze,by lia,?_⟩)⟩)));have l6:=ln "target" v_target _ _ l5;exact q _ _ (((((((Keep.refl x H).upd _).upd _).upd _).upd _).upd _).upd _) jF (PR _ _ _ _ _ _)
theorem MQ:jS 2 ["self","basin"] o8:=jR
include T in
theorem IF (F:Fun K "fill_parts" "PlainLock.fill_parts" o8 f fd) (xh:Def P w K mg base 1 "parts_not_nought" ["parts"] [] (eK K)):FnOk P w K mg base jX 2 f fd ["self","basin"] (JL (jE cP cB cU) bH .plain):=by
 refine F.ok2 MQ fun vs H Q E h=>?_
 refine zB h fun x n h₁ l room v b h=>?_
 refine vF h fun e_ p0_ q=>?_
 subst e_;obtain ⟨dx,hx⟩:=p0_;refine ⟨rfl,fun _ _ _ _ hr=>?_⟩;refine ⟨_,(jM (jQ xh hr rfl (jB (kU (jB (kR (jB jV (jB (jY K (pv 0) rfl) jD))) jD)) jD))),?_⟩
 try dsimp only [jU,jT]
 refine (jA rfl (j0 hx (T.cl .plain) (T.wg .plain) (gD .plain _ _ _ _ _) (⟨zz2,fun tp htp=>⟨zz1,fun lp hlp=>?_⟩⟩)));have s1:=jK htp (.tup [.str "high",.int room]);have s2:=jK hlp (.lst [V.ref tp]);refine (vA lp ([.ref tp]) ([("high",room)]) (vG rfl (so jF) (PartsAt.nil.snoc (s2 _ _ jF)) (by show 1<=10;decide) (fun rr H' rs' sm hrr0 hrr hP=>?_)));exact q rr H' rs' ((s1.trans s2).trans sm) ((s1.trans s2).free hrr0) hrr hP
theorem L8:jS 2 ["self","basin"] oJ:=jR
include T in
theorem HH (F:Fun K "fill_parts" "BasinLock.fill_parts" oJ f fd) (xh:Def P w K mg base 1 "parts_not_nought" ["parts"] [] (eK K)):FnOk P w K mg base jX 2 f fd ["self","basin"] (JL (jE cP cB cU) bH .basin):=by
 refine F.ok2 L8 fun vs H Q E h=>?_
 refine zB h fun x n h₁ l room v b h=>?_
 refine vF h fun e_ p0_ q=>?_
 subst e_;obtain ⟨dx,hx0⟩:=p0_;refine ⟨rfl,fun _ _ _ _ hr=>?_⟩;refine ⟨_,(jM (jQ xh hr rfl (jB (kU (jB (kR (jB jV (jB (pv 1) jD))) (jB (kR (jB jV (jB (jJ yE (jY K (pv 0) rfl) (pv 1)) jD))) jD))) jD))),?_⟩
 try dsimp only [jU,jT]
 refine (jA rfl (⟨zz2,fun tp htp=>?_⟩));have s1:=jK htp (.tup [.str "basin",.int b]);have hx:=s1 _ _ hx0;refine (jA rfl (j0 hx (T.cl .basin) (T.wg .basin) (gD .basin _ _ _ _ _) ((jA rfl (jZ (⟨zz2,fun tq htq=>⟨zz2,fun lp hlp=>?_⟩⟩))))));have s2:=jK htq (.tup [.str "high",.int (room - b)]);have s3:=jK hlp (.lst [V.ref tp,V.ref tq]);refine (vA lp ([.ref tp,.ref tq]) ([("basin",b),("high",room - b)]) (vG rfl (so jF) ((PartsAt.nil.snoc (s3 _ _ (s2 _ _ jF))).snoc (s3 _ _ jF)) (by show 2<=10;decide) (fun rr H' rs' sm hrr0 hrr hP=>?_)));exact q rr H' rs' (((s1.trans s2).trans s3).trans sm) (((s1.trans s2).trans s3).free hrr0) hrr hP
theorem MT:jS 2 ["self","basin"] pB:=jR
include T in
theorem II (F:Fun K "fill_parts" "PumpLock.fill_parts" pB f fd) (xh:Def P w K mg base 1 "parts_not_nought" ["parts"] [] (eK K)):FnOk P w K mg base jX 2 f fd ["self","basin"] (JL (jE cP cB cU) bH .pump):=by
 refine F.ok2 MT fun vs H Q E h=>?_
 refine zB h fun x n h₁ l room v b h=>?_
 refine vF h fun e_ p0_ q=>?_
 subst e_;obtain ⟨dx,hx0⟩:=p0_;refine ⟨rfl,fun _ _ _ _ hr=>?_⟩;refine ⟨_,(jM (jQ xh hr rfl (jB (kU (jB (kR (jB jV (jB (jY K (pv 0) rfl) jD))) (jB (kR (jB jV (jB (jJ yE (jY K (pv 0) rfl) (jY K (pv 0) rfl)) jD))) jD))) jD))),?_⟩
 try dsimp only [jU,jT]
 refine (jA rfl (j0 hx0 (T.cl .pump) (T.xaN) (uO _ _ _ _ _ _) (⟨zz2,fun tp htp=>?_⟩)));have s1:=jK htp (.tup [.str "low",.int v]);have hx:=s1 _ _ hx0;refine (jA rfl (j0 hx (T.cl .pump) (T.wg .pump) (gD .pump _ _ _ _ _) ((jA rfl (j0 hx (T.cl .pump) (T.xaN) (uO _ _ _ _ _ _) (jZ (⟨zz2,fun tq htq=>⟨zz2,fun lp hlp=>?_⟩⟩)))))));have s2:=jK htq (.tup [.str "high",.int (room - v)]);have s3:=jK hlp (.lst [V.ref tp,V.ref tq]);refine (vA lp ([.ref tp,.ref tq]) ([("low",v),("high",room - v)]) (vG rfl (so jF) ((PartsAt.nil.snoc (s3 _ _ (s2 _ _ jF))).snoc (s3 _ _ jF)) (by show 2<=10;decide) (fun rr H' rs' sm hrr0 hrr hP=>?_)));exact q rr H' rs' (((s1.trans s2).trans s3).trans sm) (((s1.trans s2).trans s3).free hrr0) hrr hP
theorem MR:jS 2 ["self","basin"] o9:=jR
include T in
theorem IG (F:Fun K "let_parts" "PlainLock.let_parts" o9 f fd) (xh:Def P w K mg base 1 "parts_not_nought" ["parts"] [] (eK K)):FnOk P w K mg base jX 2 f fd ["self","basin"] (T6 (jE cP cB cU)):=by
 refine F.ok2 MR fun vs H Q E h=>?_
 refine JQ h fun kd x n h₁ l room v b h=>?_
 refine vF h fun e_ p0_ q=>?_
 subst e_;obtain ⟨dx,hx⟩:=p0_;refine ⟨rfl,fun _ _ _ _ hr=>?_⟩;refine ⟨_,(jM (jQ xh hr rfl (jB (kU (jB (kR (jB jV (jB (jY K (pv 0) rfl) jD))) jD)) jD))),?_⟩
 try dsimp only [jU,jT]
 refine (jA rfl (j0 hx (T.cl kd) (T.wg kd) (gD kd _ _ _ _ _) (⟨zz2,fun tp htp=>⟨zz1,fun lp hlp=>?_⟩⟩)));have s1:=jK htp (.tup [.str "low",.int room]);have s2:=jK hlp (.lst [V.ref tp]);refine (vA lp ([.ref tp]) ([("low",room)]) (vG rfl (so jF) (PartsAt.nil.snoc (s2 _ _ jF)) (by show 1<=10;decide) (fun rr H' rs' sm hrr0 hrr hP=>?_)));exact q rr H' rs' ((s1.trans s2).trans sm) ((s1.trans s2).free hrr0) hrr hP
theorem x6:jS 2 ["self","basin","saved"] oK:=jR
include T in
theorem HI (F:Fun K "let_parts" "BasinLock.let_parts" oK f fd) (xh:Def P w K mg base 1 "parts_not_nought" ["parts"] [] (eK K)):FnOk P w K mg base jX 2 f fd ["self","basin"] (JL (jE cP cB cU) QU .basin):=by
 refine F.ok2 x6 fun vs H Q E h=>?_
 refine zB h fun x n h₁ l room v b h=>?_
 refine vF h fun e_ p0_ q=>?_
 subst e_;obtain ⟨dx,hx0⟩:=p0_;refine ⟨rfl,fun _ _ _ _ hr=>?_⟩;refine tk fun x0=>?_
 let u0:=ru x0 [1] (jM (jQ xh hr rfl (jB (kU (jB (kR (jB jV (jB (pv 2) jD))) (jB (kR (jB jV (jB (jJ yE (jY K (pv 0) rfl) (pv 2)) jD))) jD))) jD)))
 refine ⟨_,(jG (jN 2 x6.nd (jJ yE (jY K (pv 0) rfl) (pv 1)))
   u0.h),?_⟩
 try dsimp only [jU,jT]
 have hx:=hx0;refine (jA rfl (j0 hx (T.cl .basin) (T.xbb) (uO _ _ _ _ _ _) ((jA rfl (jZ (?_))))));refine (jA rfl (⟨zz2,fun tp htp=>?_⟩));have s1:=jK htp (.tup [.str "basin",.int (v - b)]);have hx:=s1 _ _ hx0;refine (jA rfl (j0 hx (T.cl .basin) (T.wg .basin) (gD .basin _ _ _ _ _) ((jA rfl (jZ (⟨zz2,fun tq htq=>⟨zz2,fun lp hlp=>?_⟩⟩))))));have s2:=jK htq (.tup [.str "low",.int (room - (v - b))]);have s3:=jK hlp (.lst [V.ref tp,V.ref tq]);refine (vA lp ([.ref tp,.ref tq]) ([("basin",v - b),("low",room - (v - b))]) (vG rfl (so jF) ((PartsAt.nil.snoc (s3 _ _ (s2 _ _ jF))).snoc (s3 _ _ jF)) (by show 2<=10;decide) (fun rr H' rs' sm hrr0 hrr hP=>?_)));exact q rr H' rs' (((s1.trans s2).trans s3).trans sm) (((s1.trans s2).trans s3).free hrr0) hrr hP
theorem MF:jS 4 ["self","reaches","locks","nights"] bQ:=jR
include T in
theorem HS {ds:List Value} (F:FunD K "__init__" "Canal.__init__" bQ f fd ds) : FnOk P w K mg base jX 1 f fd ["self","reaches","locks","nights"] (tF (jE cP cB cU) cR cN):=by
 refine F.ok2 MF fun vs H Q E h=>?_
 refine gO h fun x dx rl ll nv rs ls R L N h=>?_
 refine ZS h fun e_ hx hrl hll hR hL hN q=>?_
 subst e_;refine ⟨rfl,fun _ _ _ _ hr=>?_⟩;refine tk fun x0=>?_
 let u0:=ru x0 [2] (kF (vI (pv 0) (yU (j5 V6 (pv 3) V4) (kU jD) (eY ["night"] [] (qX (j8 bQ)) (vQ (pv 3)) (fun _ _ _ _ _=>(vT (QH K) (by rfl) T.xy aX (jB (pv 0) jD))))) rfl))
 let u1:=ru x0 [1] (jG (vI (pv 0) (vT (QH K) (by rfl) T.xy aX (jB (pv 2) jD)) rfl)
   u0.h)
 refine ⟨_,(jG (vI (pv 0) (vT (QH K) (by rfl) T.xy aX (jB (pv 1) jD)) rfl)
   u1.h),?_⟩
 try dsimp only [jU,jT]
 have ln:∀f z fs (m:Nat),fs.length<=m->(jO f z fs).length<=m+1:=fun f z fs m h=>aK (zO f z fs) (by lia)
 have nrx:rl≠x:=vL hrl hx (fun z=>nomatch z);have nlx:ll≠x:=vL hll hx (fun z=>nomatch z);refine (jA rfl (⟨rl,jA rfl (⟨.inl (so hrl),fun r2 hr20=>?_⟩)⟩));have s1:=jK hr20 (.lst rs);have nr2:r2≠x:=(kZ hx hr20).symm;refine (jA rfl (⟨x,cN,dx,jA rfl (⟨s1 _ _ hx,T.clN,T.xf,(by show 0<1000;decide),?_⟩)⟩));have k1:Keep x H (upd (upd H r2 (.lst rs)) x (.ins cN dx (jO "reaches" (.ref r2) []))):=(Keep.of s1).upd _;have hr2:upd (upd H r2 (.lst rs)) x (.ins cN dx (jO "reaches" (.ref r2) [])) r2=some (.lst rs):=by rw [jP nr2];exact jF
 have hx1:upd (upd H r2 (.lst rs)) x (.ins cN dx (jO "reaches" (.ref r2) [])) x=some (.ins cN dx (jO "reaches" (.ref r2) [])):=jF;generalize upd (upd H r2 (.lst rs)) x (.ins cN dx (jO "reaches" (.ref r2) []))=H1 at k1 hr2 hx1 ⊢;have l1:=ln "reaches" (.ref r2) [] 0 (aj _);refine (jA rfl (⟨ll,jA rfl (⟨.inl (so (k1 _ _ nlx hll)),fun l2 hl20=>?_⟩)⟩));have s2:=jK hl20 (.lst ls);have nl2:l2≠x:=(kZ hx1 hl20).symm;refine (jA rfl (⟨x,cN,dx,jA rfl (⟨s2 _ _ hx1,T.clN,T.xg,by lia,?_⟩)⟩));have l2':=ln "locks" (.ref l2) _ _ l1;have k2:Keep x H (upd (upd H1 l2 (.lst ls)) x (.ins cN dx (jO "locks" (.ref l2) (jO "reaches" (.ref r2) [])))):=(k1.trans (Keep.of s2)).upd _;have hr2b:upd (upd H1 l2 (.lst ls)) x (.ins cN dx (jO "locks" (.ref l2) (jO "reaches" (.ref r2) []))) r2=some (.lst rs):=by rw [jP nr2];exact s2 _ _ hr2
 have hl2:upd (upd H1 l2 (.lst ls)) x (.ins cN dx (jO "locks" (.ref l2) (jO "reaches" (.ref r2) []))) l2=some (.lst ls):=by rw [jP nl2];exact jF
 have hx2:upd (upd H1 l2 (.lst ls)) x (.ins cN dx (jO "locks" (.ref l2) (jO "reaches" (.ref r2) []))) x=some (.ins cN dx (jO "locks" (.ref l2) (jO "reaches" (.ref r2) []))):=jF;generalize upd (upd H1 l2 (.lst ls)) x (.ins cN dx (jO "locks" (.ref l2) (jO "reaches" (.ref r2) [])))=H2 at k2 hr2b hl2 hx2 ⊢;have frR:∀D:List Addr,(∀d∈D,H d≠none)->r2∉D:=fun D hD z=>hD _ z hr20
 have frL:∀D:List Addr,(∀d∈D,H d≠none)->l2∉D:=fun D hD z=>by
  by_cases e:l2=x
  ·exact nl2 e
  ·cases hh:H l2 with
   |none=>exact hD _ z hh
   |some o=>rw [k1 _ _ e hh] at hl20;cases hl20
 have done:∀n2 ns H3,Keep x H2 H3->H2 n2=none->H3 x=some (.ins cN dx (jO "locks" (.ref l2) (jO "reaches" (.ref r2) [])))->H3 n2=some (.lst ns)->(∀D:List Addr,(∀d∈D,H2 d≠none)->AllAt (NAt D H3) ns N)->Q .non (upd H3 x (.ins cN dx (jO "nights" (.ref n2) (jO "locks" (.ref l2) (jO "reaches" (.ref r2) []))))):=by
  intro n2 ns H3 k3 hn20 hx3 hn2 hNs;have kf:Keep x H (upd H3 x (.ins cN dx (jO "nights" (.ref n2) (jO "locks" (.ref l2) (jO "reaches" (.ref r2) []))))):=(k2.trans k3).upd _;have kl:Keep x H3 (upd H3 x (.ins cN dx (jO "nights" (.ref n2) (jO "locks" (.ref l2) (jO "reaches" (.ref r2) []))))):=(Keep.refl x H3).upd _;have nn2:n2≠x:=fun z=>by rw [z,hx2] at hn20;cases hn20
  have old:∀d,H d≠none->H2 d≠none:=fun d hd=>by
   by_cases e:d=x
   ·rw [e,hx2];exact fun z=>nomatch z
   ·cases hh:H d with
    |none=>exact absurd hh hd
    |some o=>rw [k2 _ _ e hh];exact fun z=>nomatch z
  refine q _ kf fun D hD=>⟨dx,r2,l2,n2,_,rs,ls,ns,jF,PU _ _ _,?_,?_,?_,hR.mono (RcO.keepI kf hx),hL.mono (LkO.keepI kf hx),?_,frR D hD,frL D hD,fun z=>old _ (hD _ z) hn20⟩
  ·rw [jP nr2];exact k3 _ _ nr2 hr2b
  ·rw [jP nl2];exact k3 _ _ nl2 hl2
  ·rw [jP nn2];exact hn2
  ·refine (hNs D (fun d hd=>old d (hD d hd))).mono ?_;rintro v p ⟨l,qs,e1,e2,e3,e4⟩;exact ⟨l,qs,e1,kl _ _ (fun z=>by rw [z,hx3] at e2;cases e2) e2,e3.mono (QAt.keep kl hx3 (fun _ z=>nomatch z)),e4⟩
 refine ⟨_,rfl,rfl,jA rfl (?_)⟩
 rcases hN with ⟨rfl,rfl⟩|⟨nl,ns,rfl,hnl,hN,hnl100⟩
 ·refine kJ rfl ⟨zz0,fun n2 hn20=>?_⟩;have s3:=jK hn20 (.lst []);refine (jA rfl (⟨x,cN,dx,jA rfl (⟨s3 _ _ hx2,T.clN,T.xq,by lia,?_⟩)⟩));exact done n2 [] _ (Keep.of s3) hn20 (s3 _ _ hx2) jF (fun D _=>AllAt.nil)
 ·have nnx:nl≠x:=vL hnl hx (fun z=>nomatch z);have hnl2:=k2 _ _ nnx hnl;have hN2:AllAt (NAt [] H2) ns N:=hN.mono fun v p=>by
   rintro ⟨l,qs,e1,e2,e3,e4⟩;exact ⟨l,qs,e1,k2 _ _ (vL e2 hx (fun z=>nomatch z)) e2,e3.mono (QAt.keep k2 hx (fun _ z=>nomatch z)),e4⟩
  refine j4 (fun z=>nomatch z) (jA rfl (⟨nl,rfl,⟨_,so hnl2⟩,fun n2 hn20=>?_⟩));refine QF (K:=K) (a:=nl) (xs:=ns) (caps:=[]) (fun i ys Hi=>(∀D:List Addr,n2∈D->(∀d∈D,d≠n2->H2 d≠none)->AllAt (NAt D Hi) ys (N.take i))) hn20 (so hnl2) (fun D _ _=>AllAt.nil) ?_ ?_
  ·rintro i v ys Hi hv hi hle sm hY hI;obtain ⟨p,hp,l,qs,rfl,hl,hq,_⟩:=hN2.2 i v hv;refine vR (kW ?_);refine (jA rfl (⟨l,qs,rfl,.inl (so (sm _ _ hl)),fun c hc0=>?_⟩));have u:=jK hc0 (.lst qs);refine yS hn20 sm hY hle (by lia) u ?_;intro D hnD hD;rw [aG,hp];refine (((hI D hnD hD).mono (NAt.same u)).snoc (v:=.ref c) (x:=p) ⟨c,qs,rfl,jF,(hq.mono (QAt.same sm)).mono (QAt.same u),fun z=>?_⟩).mono (NAt.put (u _ _ hY) hnD)
   by_cases e:c=n2
   ·rw [e,hY] at hc0;cases hc0
   ·cases hh:H2 c with
    |none=>exact hD _ z e hh
    |some o=>rw [sm _ _ hh] at hc0;cases hc0
  rintro ys H3 s3 hY hle hI;rw [hN2.1,aW] at hI;refine (jA rfl (⟨x,cN,dx,jA rfl (⟨s3 _ _ hx2,T.clN,T.xq,by lia,?_⟩)⟩));exact done n2 ys H3 (Keep.of s3) hn20 (s3 _ _ hx2) hY (fun D hD=>(hI (n2::D) aY (fun d hd ne=>(ao.mp hd).elim (fun z=>absurd z ne) (hD d))).mono (NAt.less (fun d hd=>aI _ hd)))
theorem MM:jS 1 ["self"] o5:=jR
include T in
theorem IA (F:Fun K "sea" "Canal.sea" o5 f fd) : FnOk P w K mg base jX 1 f fd ["self"] (ZL (jE cP cB cU) cR cN JD):=by
 refine F.ok2 MM fun vs H Q E h=>?_
 refine JF h fun x D R L N h=>?_
 refine vF h fun e_ p0_ q=>?_
 subst e_;obtain ⟨dx,rl,ll,nl,fs,rs,ls,ns,hx,hf,hrl,hll,hnl,hR,hL,hN,d1,d2,d3⟩:=p0_;refine ⟨rfl,fun _ _ _ _ hr=>?_⟩;refine ⟨_,(jM (jJ kG (qF K T.xk (jY K (pv 0) rfl)) (jJ qD jC (qF K T.xk (jY K (pv 0) rfl))))),?_⟩
 try dsimp only [jU,jT]
 refine (jA rfl (j0 hx (T.clN) (T.xf) (hf.1) (⟨_,jA rfl (⟨.inl (so hrl),jA rfl (j0 hx (T.clN) (T.xg) (hf.2.1) (⟨_,jA rfl (⟨.inl (so hll),_,_,rfl,rfl,.inl ⟨by decide,by decide⟩,_,_,rfl,rfl,?_⟩)⟩))⟩)⟩)));rw [hR.1,hL.1];exact q
theorem MN:jS 1 ["self"] o6:=jR
include T in
theorem IB (F:Fun K "sky" "Canal.sky" o6 f fd) (ve:MeD P w K mg base 1 cN "sea" ["self"] (ZL (jE cP cB cU) cR cN JD)):FnOk P w K mg base jX 2 f fd ["self"] (ZL (jE cP cB cU) cR cN bL):=by
 refine F.ok2 MN fun vs H Q E h=>?_
 refine JF h fun x D R L N h=>?_
 refine vF h fun e_ hc q=>?_
 subst e_;refine ⟨rfl,fun _ _ _ _ hr=>?_⟩;refine ⟨_,(jM (jJ kG (kN ve hr (pv 0)) jC)),?_⟩
 try dsimp only [jU,jT]
 have hc0:=hc;obtain ⟨dx,rl,ll,nl,fs,rs,ls,ns,hx,hf,hrl,hll,hnl,hR,hL,hN,d1,d2,d3⟩:=hc;exact (jA rfl (⟨x,dx,jA rfl (⟨hx,hf.no3 (by decide +kernel),x,D,R,L,N,rfl,hc0,_,_,rfl,rfl,q⟩)⟩))
theorem MK:jS 1 ["self"] o0:=jR
include T in
theorem HY (F:Fun K "many" "Canal.many" o0 f fd) (zc:MeD P w K mg base 2 cN "sky" ["self"] (ZL (jE cP cB cU) cR cN bL)):FnOk P w K mg base jX 3 f fd ["self"] (ZL (jE cP cB cU) cR cN mW):=by
 refine F.ok2 MK fun vs H Q E h=>?_
 refine JF h fun x D R L N h=>?_
 refine vF h fun e_ hc q=>?_
 subst e_;refine ⟨rfl,fun _ _ _ _ hr=>?_⟩;refine ⟨_,(jM (jJ kG (kN zc hr (pv 0)) jC)),?_⟩
 try dsimp only [jU,jT]
 have hc0:=hc;obtain ⟨dx,rl,ll,nl,fs,rs,ls,ns,hx,hf,hrl,hll,hnl,hR,hL,hN,d1,d2,d3⟩:=hc;exact (jA rfl (⟨x,dx,jA rfl (⟨hx,hf.no3 (by decide +kernel),x,D,R,L,N,rfl,hc0,_,_,rfl,rfl,q⟩)⟩))
theorem MH:jS 2 ["self","k"] oX:=jR
include T in
theorem HV (F:Fun K "chamber" "Canal.chamber" oX f fd) : FnOk P w K mg base jX 1 f fd ["self","k"] (cD (jE cP cB cU) cR cN JP):=by
 refine F.ok2 MH fun vs H Q E h=>?_
 refine QV h fun x D R L N k h=>?_
 refine vF h fun e_ p0_ q=>?_
 subst e_;obtain ⟨dx,rl,ll,nl,fs,rs,ls,ns,hx,hf,hrl,hll,hnl,hR,hL,hN,d1,d2,d3⟩:=p0_;refine ⟨rfl,fun _ _ _ _ hr=>?_⟩;refine ⟨_,(jM (jJ kG (qF K T.xk (jY K (pv 0) rfl)) (pv 1))),?_⟩
 try dsimp only [jU,jT]
 refine (jA rfl (j0 hx (T.clN) (T.xf) (hf.1) (⟨_,jA rfl (⟨.inl (so hrl),jA rfl (jZ (?_))⟩)⟩)));rw [hR.1];exact q
theorem MG:jS 2 ["self","k"] oW:=jR
include T in
theorem HU (F:Fun K "basin" "Canal.basin" oW f fd) : FnOk P w K mg base jX 1 f fd ["self","k"] (cD (jE cP cB cU) cR cN zC):=by
 refine F.ok2 MG fun vs H Q E h=>?_
 refine QV h fun x D R L N k h=>?_
 refine vF h fun e_ p0_ q=>?_
 subst e_;obtain ⟨dx,rl,ll,nl,fs,rs,ls,ns,hx,hf,hrl,hll,hnl,hR,hL,hN,d1,d2,d3⟩:=p0_;refine ⟨rfl,fun _ _ _ _ hr=>?_⟩;refine ⟨_,(jM (jJ kG (jJ kG (qF K T.xk (jY K (pv 0) rfl)) (qF K T.xk (jY K (pv 0) rfl))) (pv 1))),?_⟩
 try dsimp only [jU,jT]
 refine (jA rfl (j0 hx (T.clN) (T.xf) (hf.1) (⟨_,jA rfl (⟨.inl (so hrl),jA rfl (j0 hx (T.clN) (T.xg) (hf.2.1) (⟨_,jA rfl (⟨.inl (so hll),_,_,rfl,rfl,jA rfl (jZ (?_))⟩)⟩))⟩)⟩)));rw [hR.1,hL.1];exact q
theorem MO:jS 1 ["self"] iJ:=jR
include T in
theorem ID (F:Fun K "weirs" "Canal.weirs" iJ f fd) (ve:MeD P w K mg base 1 cN "sea" ["self"] (ZL (jE cP cB cU) cR cN JD)):FnOk P w K mg base jX 2 f fd ["self"] (fT (jE cP cB cU) cR cN):=by
 refine F.ok2 MO fun vs H Q E h=>?_
 refine JF h fun x D R L N h=>?_
 refine zT h fun e_ hc hR100 q=>?_
 subst e_;refine ⟨rfl,fun _ _ _ _ hr=>?_⟩;refine ⟨_,(jM (eY ["reach","self"] [0] (qX (j8 iJ)) (vQ (jY K (pv 0) rfl)) (fun _ _ _ _ _=>(kR (jB (jY K (pv 0) rfl) (jB (yU (j5 kL (jY K (pv 0) rfl) (JN (v:=.int (-1)) rfl T.xbM ⟨_,rfl⟩)) (kN ve hr (pv 1)) (jY K (pv 0) rfl)) jD)))))),?_⟩
 try dsimp only [jU,jT]
 have hc0:=hc;obtain ⟨dx,rl,ll,nl,fs,rs,ls,ns,hx,hf,hrl,hll,hnl,hR,hL,hN,d1,d2,d3⟩:=hc;refine (jA rfl (j0 hx (T.clN) (T.xf) (hf.1) (⟨rl,rfl,⟨_,so hrl⟩,fun wl hwl0=>?_⟩)));refine QF (K:=K) (a:=rl) (xs:=rs) (caps:=[some (.ref x)]) (fun i ys Hi=>AllAt (QAt Hi) ys ((R.take i).map (JO (JD R.length L.length)))) hwl0 (so hrl) AllAt.nil ?_ ?_
 ·rintro i v ys Hi hv hi hle sm hY hW;obtain ⟨r,hr,y,rfl,dy,gs,hy,hg⟩:=hR.2 i v hv;have hy:=sm _ _ hy;have hi100:i<100:=by rw [hR.1] at hi;lia
  refine vR (kW ?_);refine (jA rfl (j0 hy (T.clR) (T.zq) (hg.2.2.1) ((jA rfl (j0 hy (T.clR) (T.ze) (hg.2.2.2.2.2) (⟨rfl,jA rfl (?_)⟩))))));have put:∀z:Int,z=(JO (JD R.length L.length) r).2->∀tp,Hi tp=none->∃ys',upd Hi tp (.tup [.int r.crest,.int z]) wl=some (.lst ys')/\ys'.length<sizeLine/\yG H wl [some (.ref x)] (fun i ys Hi=>AllAt (QAt Hi) ys ((R.take i).map (JO (JD R.length L.length)))) (i+1) [some (.ref y),some (.ref x)] (upd (upd Hi tp (.tup [.int r.crest,.int z])) wl (.lst (ys'++[.ref tp]))):=by
   intro z hz tp htp;have u:=jK htp (.tup [V.int r.crest,V.int z]);exact yS (R:=fun i ys Hi=>AllAt (QAt Hi) ys ((R.take i).map (JO (JD R.length L.length)))) (c:=some (.ref y)) (caps:=[some (.ref x)]) (v:=.ref tp) hwl0 sm hY hle (by lia) u (by
    rw [aG,hr,aw];exact ((hW.mono (QAt.same u)).snoc (v:=.ref tp) (x:=JO (JD R.length L.length) r) ⟨tp,rfl,by rw [<- hz];exact jF⟩).mono (QAt.put (u _ _ hY)))
  by_cases ht:r.target = -1
  ·refine kJ (bz V.int ht) (jA rfl (⟨x,dx,jA rfl (⟨(sm _ _ hx),hf.no3 (by decide +kernel),vO x D R L N (qI rfl (hc0.same sm) zz2 (fun tp htp=>?_))⟩)⟩));exact put _ (by unfold JO;rw [if_pos ht]) tp htp
  ·refine j4 (fun z=>ht (V.int.inj z)) (jA rfl (j0 hy (T.clR) (T.ze) (hg.2.2.2.2.2) (⟨zz2,fun tp htp=>?_⟩)));exact put _ (by unfold JO;rw [if_neg ht]) tp htp
 rintro ys Hf sm hY hle hW;rw [hR.1,aW] at hW;exact q wl ys Hf sm hwl0 hY hW
theorem MI:jS 3 ["self","waters","k"] oY:=jR
include T in
theorem HW (F:Fun K "full" "Canal.full" oY f fd) (zh:MeD P w K mg base 1 cN "chamber" ["self","k"] (cD (jE cP cB cU) cR cN JP)):FnOk P w K mg base jX 2 f fd ["self","waters","k"] (fZ (jE cP cB cU) cR cN):=by
 refine F.ok2 MI fun vs H Q E h=>?_
 refine JQ h fun x wa D R L N ms k h=>?_
 refine J4 h fun e_ hc hwa hk q=>?_
 subst e_;refine ⟨rfl,fun _ _ _ _ hr=>?_⟩;refine ⟨_,(jM (zV eR (jH (jL K) (pv 1) (ZM zh hr (pv 0) (jB (pv 2) jD))) jC)),?_⟩
 try dsimp only [jU,jT]
 have hc0:=hc;obtain ⟨dx,rl,ll,nl,fs,rs,ls,ns,hx,hf,hrl,hll,hnl,hR,hL,hN,d1,d2,d3⟩:=hc;have hat:qS (ms.map V.int) (JP R.length L.length (k:Int))=some (.int (ms.getD (R.length+k) 0)):=by
  rw [show JP R.length L.length (k:Int)=((R.length+k:Nat):Int) by unfold JP;lia];exact yD hk
 exact (jA rfl (jA rfl (⟨x,dx,jA rfl (⟨hx,hf.no3 (by decide +kernel),jA rfl (⟨x,D,R,L,N,jA rfl (⟨hc0,jI (SqT.of hwa) hat (jZ (q))⟩)⟩)⟩)⟩)))
theorem sF:jS 1 ["self","waters","others"] iI:=jR
include T in
theorem IC (F:Fun K "start" "Canal.start" iI f fd) (xaB:MeD P w K mg base 3 cN "many" ["self"] (ZL (jE cP cB cU) cR cN mW)) (xbl:Def P w K mg base 4 "settled" ["weirs","waters"] [] (BY K)) (xp:MeD P w K mg base 2 cN "weirs" ["self"] (fT (jE cP cB cU) cR cN)):FnOk P w K mg base jX 5 f fd ["self"] (CZ (jE cP cB cU) cR cN):=by
 refine F.ok2 sF fun vs H Q E h=>?_
 refine JF h fun x D R L N h=>?_
 refine zK h fun e_ hc hR100 hL100 hT q=>?_
 subst e_;refine ⟨rfl,fun _ _ _ _ hr=>?_⟩;refine tk fun x0=>?_
 let u0:=ru x0 [1] (jG (jN 2 sF.nd (jJ FA (kU (jB jC jD)) (jJ yE (kN xaB hr (pv 0)) (qF K T.xk (pv 1)))))
   (jM (jQ xbl hr rfl (jB (kN xp hr (pv 0)) (jB (jJ bB (pv 1) (pv 2)) jD)))))
 refine ⟨_,(jG (ZZ (i:=1) ["reach"] (qW 1 []) sF.nd rfl (.inl rfl) rfl (qX (j8 iI)) (cps 1 []) (vQ (jY K (pv 0) rfl)) (fun _ _ _ _ _=>(kI (i:=0) (show List.Nodup (["reach"]:List Str) from by decide +kernel) rfl (.inl rfl))) (fun _ _ _ _ _=>yT) (fun _ _ _ _ _=>(jY K (pv 0) rfl)))
   u0.h),?_⟩
 try dsimp only [jU,jT]
 have hc0:=hc;obtain ⟨dx,rl,ll,nl,fs,rs,ls,ns,hx,hf,hrl,hll,hnl,hR,hL,hN,d1,d2,d3⟩:=hc;refine (jA rfl (j0 hx (T.clN) (T.xf) (hf.1) (⟨rl,rfl,⟨_,so hrl⟩,fun wl hwl0=>?_⟩)));refine QF (K:=K) (a:=rl) (xs:=rs) (caps:=[]) (fun i ys Hi=>ys=((R.take i).map (·.water)).map V.int) hwl0 (so hrl) rfl ?_ ?_
 ·rintro i v ys Hi hv hi hle sm hY rfl;obtain ⟨r,hr,y,rfl,dy,gs,hy,hg⟩:=hR.2 i v hv;have hy:=sm _ _ hy;have hi100:i<100:=by rw [hR.1] at hi;lia
  refine vR (kW (jA rfl (j0 hy (T.clR) (T.zr) (hg.2.2.2.2.1) (yS hwl0 sm hY hle (by lia) (Same.refl _) ?_))));rw [aG,hr,aw,aw];rfl
 rintro ys H1 s1 hwl hle rfl;rw [hR.1,aW] at hwl;refine ⟨zz1,fun lp hlp=>?_⟩;have s2:=jK hlp (.lst [V.int 0]);have s12:=s1.trans s2;refine (jA rfl (⟨x,dx,jA rfl (⟨(s12 _ _ hx),hf.no3 (by decide +kernel),vO x D R L N (kK rfl (hc0.same s12) (jA rfl (⟨wl,jA rfl (⟨.inl (so (s2 _ _ hwl)),_,_,rfl,rfl,?_⟩)⟩)))⟩)⟩));have e1:mW R.length L.length - (((((R.map (·.water)).map V.int).length:Nat)):Int)=((2*L.length+2:Nat):Int):=by
  rw [ac,ac];unfold mW;lia
 try dsimp only
 rw [e1];refine ⟨lp,_,_,rfl,rfl,jF,by lia,by lia,?_,fun gp hgp=>?_⟩
 ·rw [ax,aO,Nat.one_mul];exact small (by lia)
 rw [ax,DF];have s3:=jK hgp (.lst ((List.replicate (2*L.length+2) (0:Int)).map V.int));have s13:=s12.trans s3;have hgp3:upd (upd H1 lp (.lst [V.int 0])) gp (.lst ((List.replicate (2*L.length+2) (0:Int)).map V.int)) gp=_:=jF;have hwl3:=s3 _ _ (s2 _ _ hwl);generalize upd (upd H1 lp (.lst [V.int 0])) gp (.lst ((List.replicate (2*L.length+2) (0:Int)).map V.int))=H3 at s3 s13 hgp3 hwl3 ⊢;refine (jA rfl (⟨x,dx,jA rfl (⟨(s13 _ _ hx),hf.no3 (by decide +kernel),vO x D R L N (qI rfl (hc0.same s13) hR100 (fun wq ws H4 s4 hwq0 hwq hW=>?_))⟩)⟩));refine (jA rfl (jA rfl (⟨wl,gp,_,_,rfl,rfl,s4 _ _ hwl3,s4 _ _ hgp3,?_,fun al hal=>?_⟩)))
 ·rw [ac,ac,ac,bw];exact small (by lia)
 have e2:(R.map (·.water)).map V.int++(List.replicate (2*L.length+2) (0:Int)).map V.int=(zY R L.length).map V.int:=by unfold zY;rw [aw]
 rw [e2];have s5:=jK hal (.lst ((zY R L.length).map V.int));have s15:=(s13.trans s4).trans s5;refine ⟨wq,al,ws,vD R L.length,zY R L.length,rfl,⟨so (s5 _ _ hwq),CT hT (hW.mono (QAt.same s5)),.inl (so jF),AM hT,by rw [fP,fQ];lia,by rw [fQ];lia⟩,fun r H' gs s' hr0 hr hSp=>?_⟩;exact q r H' gs (s15.trans s') (s15.free hr0) hr hSp
theorem M0:jS 2 ["lock","basin"] iO:=jR
include T in
theorem KL (F:j7 K "filling" iO f fd) (zy:MeK P w K mg base 2 (jE cP cB cU) "fill_parts" ["self","basin"] (JL (jE cP cB cU) bH)):FnOk P w K mg base jX 3 f fd ["lock","basin"] (fU (jE cP cB cU) zQ):=by
 refine F.ok2 M0 fun vs H Q E h=>?_
 refine JQ h fun x kd n h₁ l room v b h=>?_
 refine vF h fun e_ p0_ q=>?_
 subst e_;obtain ⟨dx,hx⟩:=p0_;refine ⟨rfl,fun _ _ _ _ hr=>?_⟩;refine ⟨_,(jM (JM ["giver","amount"] (qW 2 []) rfl (qX (j8 iO)) (cps 2 []) (vQ (FT zy hr (pv 0) (jB (pv 1) jD))) (fun _ _ _ _ _=>(zX (n:=2) K rfl (qB (kI (i:=0) (show List.Nodup (["giver","amount"]:List Str) from by decide +kernel) rfl (.inl rfl)) (qB (kI (i:=1) (show List.Nodup (["giver","amount"]:List Str) from by decide +kernel) rfl (.inl rfl)) yQ)))) (fun _ _ _ _ _=>yT) (fun _ _ _ _ _=>(kR (j9 (pv 0) jV (pv 1)))))),?_⟩
 try dsimp only [jU,jT]
 refine (jA rfl (⟨kd,x,dx,jA rfl (⟨hx,U6 kd _ _ _ _ _,jA rfl (⟨x,n,h₁,vY l room v b (kK rfl ⟨dx,hx⟩ (fun pl H1 rs s1 hpl0 hpl hP=>?_))⟩)⟩)⟩));have hplen:=CF kd room v b;refine ⟨pl,rfl,⟨_,so hpl⟩,fun D hD=>?_⟩;have u0:=jK hD (.lst []);refine Z0 (K:=K) (a:=pl) (xs:=rs) (fun i σ Hi=>∃c1 c2 ys,σ=[c1,c2]/\Hi D=some (.lst ys)/\PoursS Hi ys ((bH kd room v b).take i |>.map (fun p=>(p.1,"chamber",p.2)))/\Same H1 Hi)
  (vA none none ([]) (qI rfl jF PoursS.nil u0)) (fun i σ Hi _ ⟨_,_,_,_,_,_,s⟩=>so (s _ _ hpl)) ?_ ?_
 ·rintro i y σ Hi hy ⟨c1,c2,ys,rfl,hY,hA,sm⟩;have hi:i<rs.length:=(af.mp hy).1;obtain ⟨t,sN,nN,rfl,hps,hT⟩:=hP.2 i y hy;have hl:ys.length<=i:=by rw [hA.1,ac];exact gu _ _
  refine ⟨t,jA rfl (⟨SqT.of (sm _ _ hT),rfl,_,jA rfl (⟨_,_,rfl,rfl,?_⟩)⟩)⟩;refine vR (kW ?_);refine (jA rfl (jA rfl (⟨zz3,fun tp htp=>?_⟩)));have v1:∀o,Same Hi (upd Hi tp o):=fun o=>jK htp o
  refine ⟨ys,v1 _ _ _ hY,qJ (by rw [hP.1] at hi;lia),_,_,ys++[.ref tp],rfl,jF,?_,kY hD (sm.trans (v1 _))⟩;rw [AK hps];exact PoursS.keep ((Keep.refl D _).upd _) (v1 _ _ _ hY) ((hA.same (v1 _)).append (PoursS.one jF))
 ·rintro σ Hi ⟨c1,c2,ys,rfl,hY,hA,sm⟩;rw [hP.1,aW] at hA;exact q D Hi ys (s1.trans sm) (s1.free hD) hY hA
theorem M7:jS 2 ["lock","basin"] iQ:=jR
include T in
theorem KU (F:j7 K "letting" iQ f fd) (vf:MeK P w K mg base 2 (jE cP cB cU) "let_parts" ["self","basin"] (JL (jE cP cB cU) QU)):FnOk P w K mg base jX 3 f fd ["lock","basin"] (fU (jE cP cB cU) y9):=by
 refine F.ok2 M7 fun vs H Q E h=>?_
 refine JQ h fun x kd n h₁ l room v b h=>?_
 refine vF h fun e_ p0_ q=>?_
 subst e_;obtain ⟨dx,hx⟩:=p0_;refine ⟨rfl,fun _ _ _ _ hr=>?_⟩;refine ⟨_,(jM (JM ["taker","amount"] (qW 2 []) rfl (qX (j8 iQ)) (cps 2 []) (vQ (FT vf hr (pv 0) (jB (pv 1) jD))) (fun _ _ _ _ _=>(zX (n:=2) K rfl (qB (kI (i:=0) (show List.Nodup (["taker","amount"]:List Str) from by decide +kernel) rfl (.inl rfl)) (qB (kI (i:=1) (show List.Nodup (["taker","amount"]:List Str) from by decide +kernel) rfl (.inl rfl)) yQ)))) (fun _ _ _ _ _=>yT) (fun _ _ _ _ _=>(kR (j9 jV (pv 0) (pv 1)))))),?_⟩
 try dsimp only [jU,jT]
 refine (jA rfl (⟨kd,x,dx,jA rfl (⟨hx,WJ kd _ _ _ _ _,jA rfl (⟨x,n,h₁,vY l room v b (kK rfl ⟨dx,hx⟩ (fun pl H1 rs s1 hpl0 hpl hP=>?_))⟩)⟩)⟩));have hplen:=DL kd room v b;refine ⟨pl,rfl,⟨_,so hpl⟩,fun D hD=>?_⟩;have u0:=jK hD (.lst []);refine Z0 (K:=K) (a:=pl) (xs:=rs) (fun i σ Hi=>∃c1 c2 ys,σ=[c1,c2]/\Hi D=some (.lst ys)/\PoursS Hi ys ((QU kd room v b).take i |>.map (fun p=>("chamber",p.1,p.2)))/\Same H1 Hi)
  (vA none none ([]) (qI rfl jF PoursS.nil u0)) (fun i σ Hi _ ⟨_,_,_,_,_,_,s⟩=>so (s _ _ hpl)) ?_ ?_
 ·rintro i y σ Hi hy ⟨c1,c2,ys,rfl,hY,hA,sm⟩;have hi:i<rs.length:=(af.mp hy).1;obtain ⟨t,sN,nN,rfl,hps,hT⟩:=hP.2 i y hy;have hl:ys.length<=i:=by rw [hA.1,ac];exact gu _ _
  refine ⟨t,jA rfl (⟨SqT.of (sm _ _ hT),rfl,_,jA rfl (⟨_,_,rfl,rfl,?_⟩)⟩)⟩;refine vR (kW ?_);refine (jA rfl (jA rfl (⟨zz3,fun tp htp=>?_⟩)));have v1:∀o,Same Hi (upd Hi tp o):=fun o=>jK htp o
  refine ⟨ys,v1 _ _ _ hY,qJ (by rw [hP.1] at hi;lia),_,_,ys++[.ref tp],rfl,jF,?_,kY hD (sm.trans (v1 _))⟩;rw [AK hps];exact PoursS.keep ((Keep.refl D _).upd _) (v1 _ _ _ hY) ((hA.same (v1 _)).append (PoursS.one jF))
 ·rintro σ Hi ⟨c1,c2,ys,rfl,hY,hA,sm⟩;rw [hP.1,aW] at hA;exact q D Hi ys (s1.trans sm) (s1.free hD) hY hA
theorem M1:jS 2 ["vessel","pours"] iP:=jR
include T in
theorem KM (F:j7 K "given_by" iP f fd) : FnOk P w K mg base jX 1 f fd ["vessel","pours"] (EC):=by
 refine F.ok2 M1 fun vs H Q E h=>?_
 refine cM h fun s₁ p rs qs h=>?_
 refine J4 h fun e_ hP hA hn q=>?_
 subst e_;refine ⟨rfl,fun _ _ _ _ hr=>?_⟩;refine ⟨_,(jM (zW (CH rfl) (by rfl) T.jq PyProof.Rows.boot_sum (jB (JM ["source","target","amount","vessel"] (qW 3 [0]) rfl (qX (j8 iP)) (cps 3 [0]) (vQ (pv 1)) (fun _ _ _ _ _=>(zX (n:=3) K rfl (qB (kI (i:=0) (show List.Nodup (["source","target","amount","vessel"]:List Str) from by decide +kernel) rfl (.inl rfl)) (qB (kI (i:=1) (show List.Nodup (["source","target","amount","vessel"]:List Str) from by decide +kernel) rfl (.inl rfl)) (qB (kI (i:=2) (show List.Nodup (["source","target","amount","vessel"]:List Str) from by decide +kernel) rfl (.inl rfl)) yQ))))) (fun _ _ _ _ _=>(Z6 (j5 kL (pv 0) (pv 3)))) (fun _ _ _ _ _=>(pv 2))) jD))),?_⟩
 try dsimp only [jU,jT]
 refine (jA rfl (⟨p,rfl,⟨_,so hP⟩,fun D hD=>?_⟩));have u0:=jK hD (.lst []);refine Z0 (K:=K) (a:=p) (xs:=rs) (fun i σ Hi=>∃c1 c2 c3,σ=[c1,c2,c3,some (.str s₁)]/\Hi D=some (.lst ((ZK (gY s₁) (qs.take i)).map V.int))/\Same H Hi)
  (vA none none none (kK rfl jF u0)) (fun i σ Hi _ ⟨_,_,_,_,_,s⟩=>so (s _ _ hP)) ?_ ?_
 ·rintro i y σ Hi hy ⟨c1,c2,c3,rfl,hY,sm⟩;have hi:i<rs.length:=(af.mp hy).1;obtain ⟨t,sS,sT,nN,rfl,hq,hT⟩:=hA.2 i y hy;have hat:=BM (gY s₁) qs i _ hq;have hal:=CQ (gY s₁) qs i;refine ⟨t,jA rfl (⟨SqT.of (sm _ _ hT),rfl,_,jA rfl (⟨_,jA rfl (⟨_,_,rfl,rfl,?_⟩)⟩)⟩)⟩;refine (jA rfl (⟨_,rfl,rfl,jA rfl (?_)⟩));rw [DR]
  by_cases c:(gY s₁) (sS,sT,nN)=true
  ·rw [if_pos c] at hat
   have c':=ig c;refine kJ c' (jA rfl (⟨_,hY,qJ (by rw [ac];lia),_,_,jA rfl (⟨?_,kY hD sm⟩)⟩));rw [jF,hat,aw];rfl
  ·rw [if_neg c,bb] at hat
   have c':¬_:=of_decide_eq_false (dc.mpr c);refine j4 c' ⟨_,_,jA rfl (⟨?_,sm⟩)⟩;rw [hY,hat]
 ·rintro σ Hi ⟨c1,c2,c3,rfl,hY,sm⟩;rw [hA.1,aW] at hY;exact ⟨D,jA rfl (⟨so hY,q Hi sm⟩)⟩
theorem AB:jS 2 ["basin","pours","got"] iM:=jR
include T in
theorem KA (F:j7 K "basin_after" iM f fd) (xbc:Def P w K mg base 1 "given_by" ["vessel","pours"] [] (EC)):FnOk P w K mg base jX 2 f fd ["basin","pours"] (EE):=by
 refine F.ok2 AB fun vs H Q E h=>?_
 refine cM h fun b p rs qs h=>?_
 refine J4 h fun e_ hP hA hn q=>?_
 subst e_;refine ⟨rfl,fun _ _ _ _ hr=>?_⟩;refine ⟨_,(jG (jN 2 AB.nd (zW (CH rfl) (by rfl) T.jq PyProof.Rows.boot_sum (jB (JM ["source","target","amount"] (qW 3 []) rfl (qX (j8 iM)) (cps 3 []) (vQ (pv 1)) (fun _ _ _ _ _=>(zX (n:=3) K rfl (qB (kI (i:=0) (show List.Nodup (["source","target","amount"]:List Str) from by decide +kernel) rfl (.inl rfl)) (qB (kI (i:=1) (show List.Nodup (["source","target","amount"]:List Str) from by decide +kernel) rfl (.inl rfl)) (qB (kI (i:=2) (show List.Nodup (["source","target","amount"]:List Str) from by decide +kernel) rfl (.inl rfl)) yQ))))) (fun _ _ _ _ _=>(Z6 (j5 kL (pv 1) jV))) (fun _ _ _ _ _=>(pv 2))) jD)))
   (jM (jJ yE (jJ kG (pv 0) (pv 2)) (jQ xbc hr rfl (jB jV (jB (pv 1) jD)))))),?_⟩
 try dsimp only [jU,jT]
 refine (jA rfl (⟨p,rfl,⟨_,so hP⟩,fun D hD=>?_⟩));have u0:=jK hD (.lst []);refine Z0 (K:=K) (a:=p) (xs:=rs) (fun i σ Hi=>∃c1 c2 c3,σ=[c1,c2,c3]/\Hi D=some (.lst ((ZK (toS "basin") (qs.take i)).map V.int))/\Same H Hi)
  (vA none none none (kK rfl jF u0)) (fun i σ Hi _ ⟨_,_,_,_,_,s⟩=>so (s _ _ hP)) ?_ ?_
 ·rintro i y σ Hi hy ⟨c1,c2,c3,rfl,hY,sm⟩;have hi:i<rs.length:=(af.mp hy).1;obtain ⟨t,sS,sT,nN,rfl,hq,hT⟩:=hA.2 i y hy;have hat:=BM (toS "basin") qs i _ hq;have hal:=CQ (toS "basin") qs i;refine ⟨t,jA rfl (⟨SqT.of (sm _ _ hT),rfl,_,jA rfl (⟨_,jA rfl (⟨_,_,rfl,rfl,?_⟩)⟩)⟩)⟩;refine ⟨_,rfl,rfl,jA rfl (?_)⟩;rw [DR]
  by_cases c:(toS "basin") (sS,sT,nN)=true
  ·rw [if_pos c] at hat
   have c':=ig c;refine kJ c' (jA rfl (⟨_,hY,qJ (by rw [ac];lia),_,_,jA rfl (⟨?_,kY hD sm⟩)⟩));rw [jF,hat,aw];rfl
  ·rw [if_neg c,bb] at hat
   have c':¬_:=of_decide_eq_false (dc.mpr c);refine j4 c' ⟨_,_,jA rfl (⟨?_,sm⟩)⟩;rw [hY,hat]
 ·rintro σ Hi ⟨c1,c2,c3,rfl,hY,sm⟩;rw [hA.1,aW] at hY;refine ⟨D,jA rfl (⟨so hY,?_⟩)⟩;refine (jA rfl (jA rfl (jZ ((jA rfl (⟨"basin",vA p rs qs (vG rfl (sm _ _ hP) (hA.same sm) hn (fun H' s2=>⟨_,_,rfl,rfl,q H' (sm.trans s2)⟩))⟩))))))
theorem sL:jS 4 ["lock","full","basin","way","made_ready"] rG:=jR
include T in
theorem K8 (F:j7 K "passage" rG f fd) (wc:Def P w K mg base 3 "letting" ["lock","basin"] [] (fU (jE cP cB cU) y9)) (xaM:Def P w K mg base 3 "filling" ["lock","basin"] [] (fU (jE cP cB cU) zQ)) (wd:Def P w K mg base 2 "basin_after" ["basin","pours"] [] (EE)):FnOk P w K mg base jX 4 f fd ["lock","full","basin","way"] (B0 (jE cP cB cU)):=by
 refine F.ok2 sL fun vs H Q E h=>?_
 refine gO h fun x kd n h₁ l room v b f w h=>?_
 refine vF h fun e_ hx q=>?_
 subst e_;refine ⟨rfl,fun _ _ _ _ hr=>?_⟩;refine tk fun x0=>?_
 let u0:=ru x0 [0,0,0] (jG (jN 4 sL.nd (yU (vV (pv 1)) (jQ wc hr rfl (jB (pv 0) (jB (pv 2) jD))) (kU jD)))
   (jM (jJ bB (pv 4) (jQ xaM hr rfl (jB (pv 0) (jB (jQ wd hr rfl (jB (pv 2) (jB (pv 4) jD))) jD))))))
 let u1:=ru x0 [1] (jG (jN 4 sL.nd (yU (vV (pv 1)) (kU jD) (jQ xaM hr rfl (jB (pv 0) (jB (pv 2) jD)))))
   (jM (jJ bB (pv 4) (jQ wc hr rfl (jB (pv 0) (jB (jQ wd hr rfl (jB (pv 2) (jB (pv 4) jD))) jD))))))
 refine ⟨_,(jG (kB (j5 kL (pv 3) jV) u0.h kD)
   u1.h),?_⟩
 try dsimp only [jU,jT]
 cases w with
 |true =>
  refine ⟨_,rfl,rfl,jA rfl (kJ rfl ?_)⟩;cases f with
  |true =>
   refine (jA rfl (jA rfl (kW (jA rfl (jA rfl (⟨x,kd,n,h₁,vY l room v b (kK rfl hx (fun m H1 rs s1 hm0 hm hA=>?_))⟩))))));have hl:=bU kd room v b;have hl2:=fS kd room v (QO b (y9 kd room v b));refine (jA rfl (jA rfl (jA rfl (jA rfl (⟨b,m,rs,jA rfl (⟨hm,hA,by rw [hA.1];lia,fun H2 s2=>?_⟩)⟩)))));refine ⟨x,kd,n,h₁,l,room,v,jA rfl (⟨(hx.same s1).same s2,fun z H3 rs3 s3 hz0 hz hA3=>?_⟩)⟩;refine ⟨m,z,_,_,rfl,rfl,s3 _ _ (s2 _ _ hm),hz,small (by rw [hA.1,hA3.1];lia),fun y hy0=>?_⟩;have s4:=jK hy0 (.lst (rs++rs3));exact q y _ (rs++rs3) (((s1.trans s2).trans s3).trans s4) (((s1.trans s2).trans s3).free hy0) jF ((((hA.same s2).same s3).append hA3).same s4)
  |false =>
   refine (jA rfl (jA rfl (qV ⟨zz0,fun m hm0=>?_⟩)));have s1:=jK hm0 (.lst []);have hm:upd H m (.lst []) m=some (.lst []):=jF;generalize upd H m (.lst [])=H1 at s1 hm ⊢;refine (jA rfl (jA rfl (jA rfl (jA rfl ((vY b m ([]) ([]) (vG rfl hm PoursS.nil (by decide) (fun H2 s2=>?_))))))));rw [BN];refine ⟨x,kd,n,h₁,vY l room v b (kK rfl ((hx.same s1).same s2) (fun z H3 rs3 s3 hz0 hz hA3=>?_))⟩;refine ⟨m,z,_,_,rfl,rfl,s3 _ _ (s2 _ _ hm),hz,small (by rw [hA3.1];have:=fS kd room v b;have:=bU kd room v b;show 0+_<=1000;lia),fun y hy0=>?_⟩;have s4:=jK hy0 (.lst ([]++rs3));exact q y _ rs3 (((s1.trans s2).trans s3).trans s4) (((s1.trans s2).trans s3).free hy0) jF (hA3.same s4)
 |false =>
  refine ⟨_,rfl,rfl,jA rfl (j4 WO ?_)⟩;cases f with
  |false =>
   refine (jA rfl (jA rfl (qV (jA rfl (jA rfl (⟨x,kd,n,h₁,vY l room v b (kK rfl hx (fun m H1 rs s1 hm0 hm hA=>?_))⟩))))));have hl:=fS kd room v b;have hl2:=bU kd room v (QO b (zQ kd room v b));refine (jA rfl (jA rfl (jA rfl (jA rfl (⟨b,m,rs,jA rfl (⟨hm,hA,by rw [hA.1];lia,fun H2 s2=>?_⟩)⟩)))));refine ⟨x,kd,n,h₁,l,room,v,jA rfl (⟨(hx.same s1).same s2,fun z H3 rs3 s3 hz0 hz hA3=>?_⟩)⟩;refine ⟨m,z,_,_,rfl,rfl,s3 _ _ (s2 _ _ hm),hz,small (by rw [hA.1,hA3.1];lia),fun y hy0=>?_⟩;have s4:=jK hy0 (.lst (rs++rs3));exact q y _ (rs++rs3) (((s1.trans s2).trans s3).trans s4) (((s1.trans s2).trans s3).free hy0) jF ((((hA.same s2).same s3).append hA3).same s4)
  |true =>
   refine (jA rfl (jA rfl (kW ⟨zz0,fun m hm0=>?_⟩)));have s1:=jK hm0 (.lst []);have hm:upd H m (.lst []) m=some (.lst []):=jF;generalize upd H m (.lst [])=H1 at s1 hm ⊢;refine (jA rfl (jA rfl (jA rfl (jA rfl ((vY b m ([]) ([]) (vG rfl hm PoursS.nil (by decide) (fun H2 s2=>?_))))))));rw [BN];refine ⟨x,kd,n,h₁,vY l room v b (kK rfl ((hx.same s1).same s2) (fun z H3 rs3 s3 hz0 hz hA3=>?_))⟩;refine ⟨m,z,_,_,rfl,rfl,s3 _ _ (s2 _ _ hm),hz,small (by rw [hA3.1];have:=fS kd room v b;have:=bU kd room v b;show 0+_<=1000;lia),fun y hy0=>?_⟩;have s4:=jK hy0 (.lst ([]++rs3));exact q y _ rs3 (((s1.trans s2).trans s3).trans s4) (((s1.trans s2).trans s3).free hy0) jF (hA3.same s4)
theorem NJ:jS 2 ["lock","side"] rV:=jR
include T in
theorem LO (F:j7 K "step_ends" rV f fd) : FnOk P w K mg base jX 1 f fd ["lock","side"] (E6 (jE cP cB cU)):=by
 refine F.ok2 NJ fun vs H Q E h=>?_
 refine cQ h fun y l b h=>?_
 refine vF h fun e_ p0_ q=>?_
 subst e_;obtain ⟨y₂,e,dl,hl⟩:=p0_;refine ⟨rfl,fun _ _ _ _ hr=>?_⟩;refine ⟨_,(jM (yU (j5 kL (pv 1) jV) (kR (jB (jY K (pv 0) rfl) (jB (jY K (pv 0) rfl) jD))) (kR (jB (jY K (pv 0) rfl) (jB (jY K (pv 0) rfl) jD))))),?_⟩
 try dsimp only [jU,jT]
 cases e;refine ⟨_,rfl,rfl,jA rfl (?_)⟩;rw [FH];cases b with
 |true=>exact kW (jA rfl (j0 hl (T.cl l.kd) (T.ux l.kd) (eI l.kd _ _ _ _ _) ((jA rfl (j0 hl (T.cl l.kd) (T.vq l.kd) (eA l.kd _ _ _ _ _) (⟨zz2,fun t ht=>q t _ (jK ht _) ht jF⟩))))))
 |false=>exact qV (jA rfl (j0 hl (T.cl l.kd) (T.vq l.kd) (eA l.kd _ _ _ _ _) ((jA rfl (j0 hl (T.cl l.kd) (T.ux l.kd) (eI l.kd _ _ _ _ _) (⟨zz2,fun t ht=>q t _ (jK ht _) ht jF⟩))))))
theorem fL:jS 3 ["canal","start","steps","along","k","side","ends"] pZ:=jR
include T in
theorem KW (F:j7 K "linked" pZ f fd) (xa4:Def P w K mg base 1 "step_ends" ["lock","side"] [] (E6 (jE cP cB cU))):FnOk P w K mg base (kA P w) 2 f fd ["canal","start","steps"] (uF K (jE cP cB cU) cR cN eL):=by
 refine F.okX2 fL fun vs H Q E h=>?_
 refine zA h fun x st s₁ us ps D R L N h=>?_
 refine ZS h fun e_ p0_ hst hP hlt h100 qv qe=>?_
 subst e_;obtain ⟨dx,rl,ll,nl,fs,rs,ls,ns,hx,hf,hrl,hll,hnl,hR,hL,hN,d1,d2,d3⟩:=p0_;refine ⟨rfl,fun _ _ _ _ hr=>?_⟩;refine tk fun x0=>?_
 let u0:=ru x0 [1,0,1] (jG (kB (j5 ZF (jH (jL K) (pv 6) jC) (jH (kO K) (pv 3) (gL gF jC))) (kF (QJ QI rfl rfl T.uz T.jc (jB jV jD))) kD)
   (kF (vB (yH aF aQ aR zE (pv 3) (jB (jH (jL K) (pv 6) jC) jD)))))
 let u1:=ru x0 [1,0,0] (jG (jN 6 fL.nd (jQ xa4 hr rfl (jB (jH (kO K) (jY K (pv 0) rfl) (pv 4)) (jB (pv 5) jD))))
   u0.h)
 let u2:=ru x0 [1] (jG (yX bA rfl (wD (pv 2)) (gI rfl (qB (kI (i:=4) fL.nd rfl (.inl rfl)) (qB (kI (i:=5) fL.nd rfl (.inl rfl)) yQ)))
    u1.h)
   (jM (pv 3)))
 refine ⟨_,(jG (jN 3 fL.nd (kU (jB (pv 1) jD)))
   u2.h),?_⟩
 try dsimp only [jU,jT]
 refine (jA rfl (⟨zz1,fun al hal0=>?_⟩));have s1:=jK hal0 (.lst [V.int s₁]);refine ⟨_,rfl,st,rfl,⟨_,SqT.of (s1 _ _ hst)⟩,U5 (K:=K) (a:=st) (xs:=us) (fun i σ Hi=>∃c4 c5 c6:Option V,σ=[some (.ref x),some (.int s₁),some (.ref st),some (.ref al),c4,c5,c6]/\Hi al=some (.lst ((vC L s₁ (ps.take i)).map V.int))/\(∀(j:Nat) (p:Nat×Bool),j<i->ps[j]?=some p->(vC L s₁ ps)[j]?=some (v7 L p).1)/\Same H Hi)
  (vA none none none (qI rfl jF (fun j p hj=>absurd hj (iz j)) s1)) (fun i σ Hi _ ⟨_,_,_,_,_,_,s⟩=>SqT.of (s _ _ hst)) ?_ ?_⟩
 ·rintro i v σ Hi hv ⟨c4,c5,c6,rfl,hal,hok,sm⟩;obtain ⟨⟨pk,pb⟩,hp,t,rfl,ht⟩:=hP.2 i v hv;have hpl:pk<L.length:=hlt _ (av hp);have hi:i<ps.length:=(af.mp hp).1;obtain ⟨l,hl'⟩:∃l,L[pk]?=some l:=⟨_,aa hpl⟩;obtain ⟨w,hw,y,rfl,dl,hl⟩:=hL.get hl';have hdl:(vC L s₁ (ps.take i)).length=i+1:=by rw [fX,bg];lia
  obtain ⟨z,hz⟩:∃z,(vC L s₁ (ps.take i))[i]?=some z:=⟨_,aa (by lia)⟩;have hlast:qS ((vC L s₁ (ps.take i)).map V.int) (-1)=some (.int z):=atI_last (n:=i) (by rw [ac,hdl]) (by rw [ak,hz];rfl);refine ⟨t,jA rfl (⟨SqT.of (sm _ _ ht),rfl,_,jA rfl (⟨_,_,rfl,rfl,?_⟩)⟩)⟩;refine (jA rfl (j0 ((sm _ _ hx)) (T.clN) (T.xg) (hf.2.1) ((jA rfl (qA (so (sm _ _ hll)) (kQ hw) ((jA rfl ((vA y l pb (kK rfl ⟨y,rfl,dl,sm _ _ hl⟩ (fun te He se hte0 hte=>?_)))))))))));have smE:=sm.trans se;have halE:=se _ _ hal;have ee:v7 L (pk,pb)=(if pb then l.low else l.high,if pb then l.high else l.low):=by cases pb;exact Z1 hl';exact Z7 hl'
  have hdue:(vC L s₁ ps)[i]?=some z:=by rw [U8 (by lia)];exact hz
  refine (jA rfl (jI (SqT.of hte) rfl ((jA rfl (jA rfl (qA (so halE) hlast (⟨rfl,jA rfl (?_)⟩)))))))
  by_cases h:(if pb then l.low else l.high)=z
  ·refine ZJ (bz V.int h) ?_;refine (jA rfl (⟨.inl ⟨rfl,_,so halE⟩,jA rfl (jI (SqT.of hte) rfl (⟨al,_,_,rfl,rfl,halE,qJ (by rw [ac,hdl];lia),?_⟩))⟩));refine ⟨_,_,jA rfl (⟨?_,fun j p hj hpj=>?_,kY hal0 smE⟩)⟩
   ·rw [jF,aG,hp];show _=some (HO.lst ((vC L s₁ (ps.take i++[(pk,pb)])).map V.int));rw [t6,aw,ee];rfl
   ·by_cases c:j=i
    ·subst c;rw [hp] at hpj;cases hpj;rw [hdue,ee,h]
    ·exact hok j p (by lia) hpj
  ·refine ZI (fun e=>h (V.int.inj e)) ⟨by show 1<=sizeLine;decide,qe (fun ok=>h ?_) _ smE⟩;have:=ok i _ hp;rw [hdue,ee] at this;exact (az this).symm
 rintro σ Hi ⟨c4,c5,c6,rfl,hal,hok,sm⟩;rw [hP.1,aW] at hal;exact (jA rfl (qv (fun j p hp=>hok j p (by rw [hP.1];exact (af.mp hp).1) hp) al Hi sm hal0 hal))
theorem NK:jS 2 ["way","place"] rW:=jR
include T in
theorem LP (F:j7 K "steps_to_do" rW f fd) : FnOk P w K mg base jX 1 f fd ["way","place"] (wB):=by
 refine F.ok2 NK fun vs H Q E h=>?_
 refine cQ h fun t y p h=>?_
 refine vF h fun e_ p0_ q=>?_
 subst e_;obtain ⟨t₂,st,us,e,h1,h2,h3⟩:=p0_;refine ⟨rfl,fun _ _ _ _ hr=>?_⟩;refine ⟨_,(jM (jJ yE (qF K T.xk (jH (jL K) (pv 0) jC)) (pv 1))),?_⟩
 try dsimp only [jU,jT]
 cases e;refine (jA rfl (jI (SqT.of h1) rfl (⟨st,jA rfl (⟨.inr (SqT.of h2),jA rfl (jZ (?_))⟩)⟩)));rw [h3.1];exact q
theorem NF:jS 3 ["canal","way","place"] rM:=jR
include T in
theorem LF (F:j7 K "reach_of" rM f fd) (zz:Def P w K mg base 1 "steps_to_do" ["way","place"] [] (wB)) (xbu:Def P w K mg base 2 "linked" ["canal","start","steps"] [] (tX K (jE cP cB cU) cR cN)):FnOk P w K mg base jX 3 f fd ["canal","way","place"] (tV (jE cP cB cU) cR cN):=by
 refine F.ok2 NF fun vs H Q E h=>?_
 refine JQ h fun x t y p D R L N h=>?_
 refine zK h fun e_ hc hwy ok hp q=>?_
 subst e_;refine ⟨rfl,fun _ _ _ _ hr=>?_⟩;refine tk fun x0=>?_
 let u0:=ru x0 [1] (jM (jH (kO K) (jQ xbu hr rfl (j9 (pv 0) (jH (jL K) (pv 1) jC) (jH (jL K) (pv 1) jC))) (pv 2)))
 refine ⟨_,(jG (kB (j5 kL (jQ zz hr rfl (jB (pv 1) (jB (pv 2) jD))) jC) (jM (JN (v:=.int (-1)) rfl T.xaO ⟨_,rfl⟩)) kD)
   u0.h),?_⟩
 try dsimp only [jU,jT]
 obtain ⟨t₂,st,us,e,h1,h2,h3⟩:=id hwy;cases e;refine (jA rfl (jA rfl (⟨t,y,jA rfl (⟨hwy,rfl,jA rfl (?_)⟩)⟩)))
 by_cases h:p=y.2.length
 ·refine kJ (bz V.int (by lia)) ?_;have:=q H (Same.refl _);rw [show vK L y p = -1 from if_pos h] at this;exact this
 ·refine j4 (fun z=>h (by have:=V.int.inj z;lia)) ?_;have hle:=ok.le;refine (jA rfl (jA rfl (jI (SqT.of h1) rfl ((jA rfl (jI (SqT.of h1) rfl ((vM x st y.1 us y.2 D R L N (QE rfl hc h2 h3 ok.lt (by lia) ok.ok (fun r H' s' hr0 hr=>?_))))))))));have hl:p<(vC L y.1 y.2).length:=by rw [fX];lia
  refine (jA rfl (qA (so hr) (yD hl) (?_)));have:=q H' s';rw [show vK L y p=(vC L y.1 y.2).getD p 0 from if_neg h] at this;exact this
theorem M8:jS 4 ["canal","ways","state","reach"] iR:=jR
include T in
theorem KY (F:j7 K "lying" iR f fd) (vg:Def P w K mg base 3 "reach_of" ["canal","way","place"] [] (tV (jE cP cB cU) cR cN)):FnOk P w K mg base jX 4 f fd ["canal","ways","state","reach"] (D9 (jE cP cB cU) cR cN):=by
 refine F.ok2 M8 fun vs H Q E h=>?_
 refine wW h fun x wl st r us ys d ms pl D R L N h=>?_
 refine zS h fun e_ hc hwl hA p3_ hfl q=>?_
 subst e_;obtain ⟨wt,pt,hst,hwt,hpt⟩:=p3_;refine ⟨rfl,fun _ _ _ _ hr=>?_⟩;refine ⟨_,(jM (yH aF PySem.F.slot_list_count PySem.F.type_list_count S4 (JM ["way","place","canal"] (qW 2 [0]) rfl (qX (j8 iR)) (cps 2 [0]) (UG (by rfl) T.uw (jB (pv 1) (jB (jH (jL K) (pv 2) jC) jD))) (fun _ _ _ _ _=>(zX (n:=2) K rfl (qB (kI (i:=0) (show List.Nodup (["way","place","canal"]:List Str) from by decide +kernel) rfl (.inl rfl)) (qB (kI (i:=1) (show List.Nodup (["way","place","canal"]:List Str) from by decide +kernel) rfl (.inl rfl)) yQ)))) (fun _ _ _ _ _=>yT) (fun _ _ _ _ _=>(jQ vg hr rfl (j9 (pv 2) (pv 0) (pv 1))))) (jB (pv 3) jD))),?_⟩
 try dsimp only [jU,jT]
 refine (jA rfl (jA rfl (jI (SqT.of hst) rfl (⟨wl,pt,rfl,⟨_,so hwl⟩,⟨_,SqT.of hpt⟩,fun D₁ hD₁=>?_⟩))));refine AX (K:=K) (a1:=wl) (a2:=pt) (xs:=us) (ys:=pl.map fun (p:Nat)=>V.int (p:Int)) (fun i σ Hi=>∃c1 c2:Option V,σ=[c1,c2,some (.ref x)]/\Hi D₁=some (.lst (((y8 L ys pl).take i).map V.int))/\Same H Hi)
  ⟨none,none,rfl,by rw [jF,take_zero];rfl,jK hD₁ _⟩ (fun i σ Hi _ ⟨_,_,_,_,s⟩=>⟨so (s _ _ hwl),SqT.of (s _ _ hpt)⟩) (by rw [hA.1,ac,hfl.len]) ?_ ?_
 ·rintro i v z σ Hi T₁ hv hz ⟨c1,c2,rfl,hY,sm⟩ hT;obtain ⟨y,hy,hwy⟩:=hA.2 i v hv;have hi:i<ys.length:=(af.mp hy).1;obtain ⟨t,st₂,us₂,rfl,hw1,hw2,hw3⟩:=id hwy;have hip:i<pl.length:=by rw [hfl.len];exact hi
  rw [ak,aa hip] at hz;cases hz;have u:=jK hT (.tup [V.ref t,V.int ((pl[i]:Nat):Int)]);have smu:=sm.trans u;have hwy2:=WyAt.same smu _ _ hwy;have hp:=hfl.le i y pl[i] hy (aa hip);have hg1:ys.getD i (0,[])=y:=by rw [ad,hy];rfl
  have hg2:pl.getD i 0=pl[i]:=by rw [ad,aa hip];rfl
  have h10:=hfl.n10;have hYu:=u _ _ hY;refine ⟨T₁,jA rfl (⟨SqT.of jF,rfl,_,jA rfl (⟨_,_,rfl,rfl,?_⟩)⟩)⟩;generalize upd Hi T₁ (.tup [V.ref t,V.int ((pl[i]:Nat):Int)])=Hj at u smu hwy2 hYu ⊢;refine vR (kW ?_);refine (jA rfl (jA rfl (jA rfl (⟨x,t,y,pl[i],vY D R L N (qU rfl (hc.same smu) hwy2 (hfl.ok y (av hy)) hp (fun H' s'=>?_))⟩))));refine ⟨_,s' _ _ hYu,qJ (by rw [ac,bg];unfold y8;rw [ac,aT];lia),_,jA rfl (⟨?_,kY hD₁ (smu.trans s')⟩)⟩;rw [jF,aG,show (y8 L ys pl)[i]?=some (vK L y pl[i]) by unfold y8;rw [ak,ck hi,<- hg1,<- hg2];rfl,aw];rfl
 rintro σ Hf ⟨c1,c2,rfl,hY,sm⟩;rw [hA.1,cf (by unfold y8;rw [ac,aT];exact aj _)] at hY;refine ⟨.inl ⟨rfl,_,so hY⟩,jA rfl (⟨D₁,_,_,rfl,rfl,hY,rfl,PD _,?_⟩)⟩;have e:((y8 L ys pl).map V.int).countP (fun z=>yJ z (.int r))=(y8 L ys pl).countP fun z=>decide (z=r):=by rw [countP_map];rfl
 rw [e];exact q Hf sm
theorem MW:jS 2 ["canal","ways"] pO:=jR
include T in
theorem KB (F:j7 K "begun" pO f fd) (xaa:MeD P w K mg base 5 cN "start" ["self"] (CZ (jE cP cB cU) cR cN)):FnOk P w K mg base jX 6 f fd ["canal","ways"] (ED (jE cP cB cU) cR cN):=by
 refine F.ok2 MW fun vs H Q E h=>?_
 refine zB h fun x wl us D R L N h=>?_
 refine ZS h fun e_ hc hwl h100 b1 b2 hT q=>?_
 subst e_;refine ⟨rfl,fun _ _ _ _ hr=>?_⟩;refine ⟨_,(jM (kR (j9 jC (kN xaa hr (pv 0)) (jJ UO (kR (jB jC jD)) (qF K T.xk (pv 1)))))),?_⟩
 try dsimp only [jU,jT]
 have hc0:=hc;obtain ⟨dx,rl,ll,nl,fs,rs,ls,nv,hx,hf,hrl,hll,hnl,hR,hL,hN,d1,d2,d3⟩:=hc;refine (jA rfl (⟨x,dx,jA rfl (⟨hx,hf.no3 (by decide +kernel),vO x D R L N (qU rfl hc0 b1 b2 hT (fun wt H1 gs s1 hwt0 hwt hSp=>?_))⟩)⟩));refine ⟨zz1,fun p hp=>?_⟩;have s2:=jK hp (.tup [V.int 0]);refine (jA rfl (⟨wl,jA rfl (⟨.inl (so (s2 _ _ (s1 _ _ hwl))),?_⟩)⟩));have s12:=s1.trans s2;have fin:∀zt H3,Same (upd H1 p (.tup [V.int 0])) H3->H3 zt=some (.tup (List.replicate us.length (.int 0)))->(3<=sizeLine/\∀t,H3 t=none->Q (.ref t) (upd H3 t (.tup [.int 0,.ref wt,.ref zt]))):=fun zt H3 s3 hzt=>⟨by decide,fun t ht=>by
  have s4:=jK ht (.tup [V.int 0,V.ref wt,V.ref zt]);exact q t wt zt _ gs ((s12.trans s3).trans s4) jF (s4 _ _ (s3 _ _ (s2 _ _ hwt))) hSp (s4 _ _ hzt)⟩
 refine ⟨p,.int 0,us.length,rfl,rfl,jF,by lia,fun h1=>?_,fun h1 zt hzt=>?_⟩
 ·exact fin p _ (Same.refl _) (by rw [h1];exact jF)
 ·exact fin zt _ (jK hzt _) jF
theorem fM:jS 3 ["canal","state","weather","waters","sky","sun","rain"] dC:=jR
include T in
theorem K1 (F:j7 K "night_pours" dC f fd) (zc:MeD P w K mg base 2 cN "sky" ["self"] (ZL (jE cP cB cU) cR cN bL)) (zd:Def P w K mg base 4 "with_spills" ["weirs","waters","pours"] [] (l9 K)) (xp:MeD P w K mg base 2 cN "weirs" ["self"] (fT (jE cP cB cU) cR cN)):FnOk P w K mg base jX 5 f fd ["canal","state","weather"] (C8 K (jE cP cB cU) cR cN):=by
 refine F.ok2 fM fun vs H Q E h=>?_
 refine XG h fun x t wl d ms ps us W D R L N h=>?_
 refine XM h fun e_ hc p1_ hwl hA hWR hms hR100 hL100 hTg q=>?_
 subst e_;obtain ⟨wt,pt,h1,h2,h3⟩:=p1_;refine ⟨rfl,fun _ _ _ _ hr=>?_⟩;refine tk fun x0=>?_
 let u0:=ru x0 [4] (jM (jQ zd hr rfl (j9 (kN xp hr (pv 0)) (pv 3) (nX ["pour"] [] (qX (j8 dC)) (vQ (jJ bB (pv 5) (pv 6))) (fun _ _ _ _ _=>(Z6 (j5 ZF (jH (jL K) (pv 0) jC) jC))) (fun _ _ _ _ _=>(pv 0))))))
 let u1:=ru x0 [3] (jG (ZZ (i:=6) ["at","pair","sky"] (qW 2 [4]) fM.nd rfl (.inl rfl) rfl (qX (j8 dC)) (cps 2 [4]) (uH (by rfl) T.xt (jB (pv 2) jD)) (fun _ _ _ _ _=>(zX (n:=2) K rfl (qB (kI (i:=0) (show List.Nodup (["at","pair","sky"]:List Str) from by decide +kernel) rfl (.inl rfl)) (qB (kI (i:=1) (show List.Nodup (["at","pair","sky"]:List Str) from by decide +kernel) rfl (.inl rfl)) yQ)))) (fun _ _ _ _ _=>yT) (fun _ _ _ _ _=>(kR (j9 (pv 2) (pv 0) (jH (jL K) (pv 1) jC)))))
   u0.h)
 let u2:=ru x0 [2] (jG (ZZ (i:=5) ["at","pair","sky","waters"] (qW 2 [4,3]) fM.nd rfl (.inl rfl) rfl (qX (j8 dC)) (cps 2 [4,3]) (uH (by rfl) T.xt (jB (pv 2) jD)) (fun _ _ _ _ _=>(zX (n:=2) K rfl (qB (kI (i:=0) (show List.Nodup (["at","pair","sky","waters"]:List Str) from by decide +kernel) rfl (.inl rfl)) (qB (kI (i:=1) (show List.Nodup (["at","pair","sky","waters"]:List Str) from by decide +kernel) rfl (.inl rfl)) yQ)))) (fun _ _ _ _ _=>yT) (fun _ _ _ _ _=>(kR (j9 (pv 0) (pv 2) (zW (CI rfl) (by rfl) T.jr PyProof.Rows.boot_min (jB (jH (jL K) (pv 1) jC) (jB (jH (jL K) (pv 3) (pv 0)) jD)))))))
   u1.h)
 let u3:=ru x0 [1] (jG (jN 4 fM.nd (kN zc hr (pv 0)))
   u2.h)
 refine ⟨_,(jG (jN 3 fM.nd (jH (jL K) (pv 1) jC))
   u3.h),?_⟩
 try dsimp only [jU,jT]
 have hc0:=hc;obtain ⟨dx,rl,ll,nl,fs,rs,ls,nv,hx,hf,hrl,hll,hnl,hR,hL,hN,d1,d2,d3⟩:=hc;obtain ⟨sk,hsk⟩:∃sk,sk=R.length+2*L.length+1:=⟨_,rfl⟩;have esk:bL R.length L.length=(sk:Int):=by unfold bL;lia
 refine (jA rfl (jI (SqT.of h1) rfl (?_)));refine (jA rfl (⟨x,dx,jA rfl (⟨hx,hf.no3 (by decide +kernel),vO x D R L N (kK rfl hc0 (?_))⟩)⟩));rw [esk];refine (jA rfl (⟨wl,rfl,⟨_,SqT.of hwl⟩,fun D₁ hD₁=>?_⟩));refine tD (K:=K) (a:=wl) (xs:=us) (fun i σ Hi=>∃c1 c2:Option V,σ=[c1,c2,some (.int (sk:Int)),some (.ref wt)]/\∃ys:List V,Hi D₁=some (.lst ys)/\PoursH Hi ys ((cJ sk ms W R.length).take i) ms.length/\Same H Hi) ⟨none,none,rfl,[],jF,PoursH.nil _ _,jK hD₁ _⟩ (fun i σ Hi _ ⟨_,_,_,_,_,_,s⟩=>SqT.of (s _ _ hwl)) ?_ ?_
 ·rintro i v σ Hi T₁ hv ⟨c1,c2,rfl,ys,hY,hP,sm⟩ hT;have hi:i<us.length:=(af.mp hv).1;rw [hA.1] at hi;obtain ⟨y,hy,t1,rfl,ht1⟩:=hA.2 i v hv;have u:=jK hT (.tup [V.int (i:Int),V.ref t1]);have smu:=sm.trans u;have hYu:=u _ _ hY;refine ⟨T₁,jA rfl (⟨SqT.of jF,rfl,_,jA rfl (⟨_,_,rfl,rfl,?_⟩)⟩)⟩;generalize upd Hi T₁ (.tup [V.int (i:Int),V.ref t1])=Hj at u smu hYu ⊢;refine vR (kW ?_);refine (jA rfl (jA rfl (jA rfl (jI (SqT.of (smu _ _ ht1)) rfl ((jA rfl (jA rfl (jI (SqT.of (smu _ _ h2)) (yD (by lia)) (⟨_,jA rfl (?_)⟩)))))))))
  try dsimp only
  first|rw [<- DV hy]|rw [<- SJ hy]
  refine ⟨zz3,fun tp htp=>?_⟩;have u2:=jK htp (.tup [V.int (i:Int),V.int (sk:Int),V.int (eX ms W i)]);have hY2:=u2 _ _ hYu;have hlen:=hP.1;rw [bg,lV] at hlen;refine ⟨ys,hY2,qJ (by lia),_,jA rfl (⟨ys++[.ref tp],jF,?_,kY hD₁ (smu.trans u2)⟩)⟩;rw [P7 (by lia)];exact (((hP.same u).same u2).snoc jF (by lia) (by lia)).put hY2
 rintro σ H1 ⟨c1,c2,rfl,ys1,hY1,hP1,s1⟩;rw [hA.1,hWR,cf (by rw [lV];exact aj _)] at hP1;refine (jA rfl (⟨wl,rfl,⟨_,SqT.of (s1 _ _ hwl)⟩,fun D₂ hD₂=>?_⟩));refine tD (K:=K) (a:=wl) (xs:=us) (fun i σ Hi=>∃c1 c2:Option V,σ=[c1,c2,some (.int (sk:Int))]/\∃ys:List V,Hi D₂=some (.lst ys)/\PoursH Hi ys ((cE sk W R.length).take i) ms.length/\Same H1 Hi) ⟨none,none,rfl,[],jF,PoursH.nil _ _,jK hD₂ _⟩ (fun i σ Hi _ ⟨_,_,_,_,_,_,s⟩=>SqT.of (s _ _ (s1 _ _ hwl))) ?_ ?_
 ·rintro i v σ Hi T₁ hv ⟨c1,c2,rfl,ys,hY,hP,sm⟩ hT;have hi:i<us.length:=(af.mp hv).1;rw [hA.1] at hi;obtain ⟨y,hy,t1,rfl,ht1⟩:=hA.2 i v hv;have ht1:=s1 _ _ ht1;have u:=jK hT (.tup [V.int (i:Int),V.ref t1]);have smu:=sm.trans u;have hYu:=u _ _ hY;refine ⟨T₁,jA rfl (⟨SqT.of jF,rfl,_,jA rfl (⟨_,_,rfl,rfl,?_⟩)⟩)⟩;generalize upd Hi T₁ (.tup [V.int (i:Int),V.ref t1])=Hj at u smu hYu ⊢;refine vR (kW ?_);refine (jA rfl (jA rfl (jA rfl (jI (SqT.of (smu _ _ ht1)) rfl (?_)))));rw [show y.1=(W.getD i (0,0)).1 by rw [GQ hy]];refine ⟨zz3,fun tp htp=>?_⟩;have u2:=jK htp (.tup [V.int (sk:Int),V.int (i:Int),V.int (W.getD i (0,0)).1]);have hY2:=u2 _ _ hYu;have hlen:=hP.1;rw [bg,lQ] at hlen;refine ⟨ys,hY2,qJ (by lia),_,jA rfl (⟨ys++[.ref tp],jF,?_,kY hD₂ (smu.trans u2)⟩)⟩;rw [OV (by lia)];exact (((hP.same u).same u2).snoc jF (by lia) (by lia)).put hY2
 rintro σ H2 ⟨c1',c2',rfl,ys2,hY2,hP2,s2⟩;rw [hA.1,hWR,cf (by rw [lQ];exact aj _)] at hP2;have s12:=s1.trans s2;have hl1:=hP1.1;have hl2:=hP2.1;rw [lV] at hl1;rw [lQ] at hl2;refine (jA rfl (⟨x,dx,jA rfl (⟨(s12 _ _ hx),hf.no3 (by decide +kernel),vO x D R L N (qI rfl (hc0.same s12) hR100 (fun wq ws H3 s3 hwq0 hwq hW=>?_))⟩)⟩));have s13:=s12.trans s3;refine (jA rfl (jA rfl (jA rfl (⟨D₁,D₂,_,_,rfl,rfl,s3 _ _ (s2 _ _ hY1),s3 _ _ hY2,small (by lia),fun al hal=>?_⟩))));have s4:=jK hal (.lst (ys1++ys2));have hal4:upd H3 al (.lst (ys1++ys2)) al=_:=jF;have hP4:PoursH (upd H3 al (.lst (ys1++ys2))) (ys1++ys2) (QN sk ms W R.length) ms.length:=(((hP1.same s2).same s3).same s4).append ((hP2.same s3).same s4);have s14:=s13.trans s4;have hwq4:=s4 _ _ hwq;have hW4:=hW.mono (QAt.same s4);generalize upd H3 al (.lst (ys1++ys2))=H4 at s4 hal4 hP4 s14 hwq4 hW4 ⊢;refine ⟨al,rfl,⟨_,so hal4⟩,fun Df hDf=>?_⟩;refine QF (K:=K) (a:=al) (xs:=ys1++ys2) (caps:=[]) (fun i ys Hi=>PoursH Hi ys (((QN sk ms W R.length).take i).filter q9) ms.length) hDf (so hal4) (PoursH.nil _ _) ?_ ?_
 ·rintro i v ys Hi hv hi hle sm hY hP;rw [ag] at hi;obtain ⟨a,s,tt,m,rfl,hq,hT,hs,ht⟩:=hP4.2 i v hv;have ef:((QN sk ms W R.length).take (i+1)).filter q9=((QN sk ms W R.length).take i).filter q9++[(s,tt,m)].filter q9:=by
   rw [aG,hq,gd];rfl
  refine (jA rfl (jI (SqT.of (sm _ _ hT)) rfl (⟨rfl,jA rfl (?_)⟩)))
  by_cases hz:m=0
  ·refine ZJ (bz V.int hz) (dP sm hY hle (Same.refl _) ?_);rw [ef,bx,if_neg (by unfold q9;rw [aV (show m=0 from hz)];decide)];show PoursH Hi ys (_++[]) _;rw [bb];exact hP
  refine ZI (fun e=>hz (V.int.inj e)) (jA rfl (yS hDf sm hY hle (by lia) (Same.refl _) ?_));rw [ef,bx,if_pos (by unfold q9;rw [aH (show ¬m=0 from hz)];rfl)];exact (hP.snoc (sm _ _ hT) hs ht).put hY
 rintro ys H5 s5 hY5 hle5 hP5;rw [hP4.1,cf (aj _)] at hP5;have s15:=s14.trans s5;refine ⟨wq,wt,Df,ws,ys,vD R L.length,ms,jA rfl (⟨lC hTg (hW4.mono (QAt.same s5)) (s5 _ _ hwq4) (.inr (SqT.of (s15 _ _ h2))) hms hR100 hL100,hY5,hP5,?_,fun r H' gs zs s' hr0 hr hP' hS=>?_⟩)⟩
 ·rw [ag] at hle5
  lia
 subst hsk;exact q r H' gs zs (s15.trans s') (s15.free hr0) hr hP' hS
theorem NN:jS 2 ["weather","other"] iY:=jR
include T in
theorem LX (F:j7 K "wet_enough" iY f fd) : FnOk P w K mg base jX 1 f fd ["weather","other"] (E4):=by
 refine F.ok2 NN fun vs H Q E h=>?_
 refine QV h fun a b us ws p p' h=>?_
 refine ZS h fun e_ ha hb hA hB hpp h100 q=>?_
 subst e_;refine ⟨rfl,fun _ _ _ _ hr=>?_⟩;refine ⟨_,(jM (zW (CL rfl) (by rfl) T.jt PyProof.Rows.boot_all (jB (JM ["pair","wanted"] (qW 2 []) rfl (qX (j8 iY)) (cps 2 []) (UF (by rfl) T.uw (jB (pv 0) (jB (pv 1) jD))) (fun _ _ _ _ _=>(zX (n:=2) K rfl (qB (kI (i:=0) (show List.Nodup (["pair","wanted"]:List Str) from by decide +kernel) rfl (.inl rfl)) (qB (kI (i:=1) (show List.Nodup (["pair","wanted"]:List Str) from by decide +kernel) rfl (.inl rfl)) yQ)))) (fun _ _ _ _ _=>yT) (fun _ _ _ _ _=>(wF (zV wO (jH (jL K) (pv 0) jC) (jH (jL K) (pv 1) jC)) (wE (zV mV (jH (jL K) (pv 0) jC) (jH (jL K) (pv 1) jC)))))) jD))),?_⟩
 try dsimp only [jU,jT]
 refine (jA rfl (jA rfl (⟨a,b,rfl,⟨_,SqT.of ha⟩,⟨_,so hb⟩,fun D₁ hD₁=>?_⟩)));refine AX (K:=K) (a1:=a) (a2:=b) (xs:=us) (ys:=ws) (fun i σ Hi=>∃c1 c2:Option V,σ=[c1,c2]/\Hi D₁=some (.lst (((List.range i).map (cI p p')).map V.bl))/\Same H Hi) ⟨none,none,rfl,jF,jK hD₁ _⟩ (fun i σ Hi _ ⟨_,_,_,_,s⟩=>⟨SqT.of (s _ _ ha),so (s _ _ hb)⟩) (by rw [hA.1,hB.1,hpp]) ?_ ?_
 ·rintro i v z σ Hi T₁ hv hz ⟨c1,c2,rfl,hY,sm⟩ hT;have hi:i<us.length:=(af.mp hv).1;rw [hA.1] at hi;obtain ⟨y1,hy1,t1,rfl,ht1⟩:=hA.2 i v hv;obtain ⟨y2,hy2,t2,rfl,ht2⟩:=hB.2 i z hz;have hw:=T1 hy1 hy2;have u:=jK hT (.tup [V.ref t1,V.ref t2]);have smu:=sm.trans u;have hYu:=u _ _ hY;refine ⟨T₁,jA rfl (⟨SqT.of jF,rfl,_,jA rfl (⟨_,_,rfl,rfl,?_⟩)⟩)⟩;generalize upd Hi T₁ (.tup [V.ref t1,V.ref t2])=Hj at u smu hYu ⊢;refine vR (kW ?_);refine (jA rfl (jI (SqT.of (smu _ _ ht1)) rfl ((jA rfl (jI (SqT.of (smu _ _ ht2)) rfl (jZ ((jA rfl (?_)))))))))
  by_cases h:y2.1<=y1.1
  ·refine kJ h (jA rfl (jI (SqT.of (smu _ _ ht1)) rfl ((jA rfl (jI (SqT.of (smu _ _ ht2)) rfl (jZ (?_)))))));exact ⟨_,hYu,qJ (by rw [ac,ac,aT];lia),_,_,rfl,(by
    rw [jF,gh,aw,aw];show some (HO.lst (_++[V.bl _]))=some (HO.lst (_++[V.bl (cI p p' i)]));rw [hw]
    first|rw [aV h]|rw [aH h]
    rfl),kY hD₁ smu⟩
  ·refine j4 h ?_;exact ⟨_,hYu,qJ (by rw [ac,ac,aT];lia),_,_,rfl,(by
    rw [jF,gh,aw,aw];show some (HO.lst (_++[V.bl _]))=some (HO.lst (_++[V.bl (cI p p' i)]));rw [hw]
    first|rw [aV h]|rw [aH h]
    rfl),kY hD₁ smu⟩
 rintro σ Hf ⟨c1,c2,rfl,hY,sm⟩;rw [hA.1] at hY;refine ⟨D₁,jA rfl (⟨so hY,?_⟩)⟩;rw [all_map];exact q Hf sm
theorem M2:jS 4 ["canal","ways","state","reach"] pU:=jR
include T in
theorem KN (F:j7 K "has_no_berth" pU f fd) (xbG:Def P w K mg base 4 "lying" ["canal","ways","state","reach"] [] (D9 (jE cP cB cU) cR cN)):FnOk P w K mg base jX 5 f fd ["canal","ways","state","reach"] (tW (jE cP cB cU) cR cN):=by
 refine F.ok2 M2 fun vs H Q E h=>?_
 refine wV h fun x wl st b r us ys d ms pl D R L N h=>?_
 refine zT h fun e_ hG hrc q=>?_
 subst e_;refine ⟨rfl,fun _ _ _ _ hr=>?_⟩;refine ⟨_,(jM (zV wO (jQ xbG hr rfl (yB (pv 0) (pv 1) (pv 2) (pv 3))) (jY K (jH (kO K) (jY K (pv 0) rfl) (pv 3)) rfl))),?_⟩
 try dsimp only [jU,jT]
 obtain ⟨hc,hdr,hwl,hA,hst,hfl,hml⟩:=id hG;have hc0:=hc;obtain ⟨dx,rl,ll,nl,fs,rs,ls,nv,hx,hf,hrl,hll,hnl,hR,hL,hN,d1,d2,d3⟩:=hc;obtain ⟨z,hz,yr,rfl,dy,gs,hyr,hg⟩:=hR.get hrc;refine (jA rfl (jA rfl (jA rfl (jA rfl ((xB x wl st _ us ys d ms pl D R L N (zN rfl hc0 hwl hA hst hfl (fun H3 s3=>?_))))))));exact (jA rfl (j0 ((s3 _ _ hx)) (T.clN) (T.xf) (hf.1) ((jA rfl (qA (so (s3 _ _ hrl)) (kQ hz) (j0 ((s3 _ _ hyr)) (T.clR) (T.zg) (hg.2.2.2.1) (jZ (q H3 s3))))))))
theorem M9:jS 2 ["way","place"] rA:=jR
include T in
theorem KZ (F:j7 K "next_step" rA f fd) : FnOk P w K mg base jX 1 f fd ["way","place"] (mI):=by
 refine F.ok2 M9 fun vs H Q E h=>?_
 refine cM h fun t y p s₁ h=>?_
 refine zT h fun e_ p0_ hs q=>?_
 subst e_;obtain ⟨t₂,st₂,vs₂,e,hw1,hw2,hw3⟩:=p0_;refine ⟨rfl,fun _ _ _ _ hr=>?_⟩;refine ⟨_,(jM (jH (jL K) (jH (jL K) (pv 0) jC) (pv 1))),?_⟩
 try dsimp only [jU,jT]
 cases e;obtain ⟨v3,hv3,hP3⟩:=hw3.get hs;exact (jA rfl (jI (SqT.of hw1) rfl ((jA rfl (jI (SqT.of hw2) (kQ hv3) (q _ hP3))))))
theorem NC:jS 2 ["places","boat"] iS:=jR
include T in
theorem K3 (F:j7 K "one_step_on" iS f fd) : FnOk P w K mg base jX 1 f fd ["places","boat"] (CY):=by
 refine F.ok2 NC fun vs H Q E h=>?_
 refine cQ h fun pt pl b h=>?_
 refine zT h fun e_ hpt h100 q=>?_
 subst e_;refine ⟨rfl,fun _ _ _ _ hr=>?_⟩;refine ⟨_,(jM (vT (dI K) (by rfl) T.zf cy (jB (JM ["at","place","boat"] (qW 2 [1]) rfl (qX (j8 iS)) (cps 2 [1]) (uH (by rfl) T.xt (jB (pv 0) jD)) (fun _ _ _ _ _=>(zX (n:=2) K rfl (qB (kI (i:=0) (show List.Nodup (["at","place","boat"]:List Str) from by decide +kernel) rfl (.inl rfl)) (qB (kI (i:=1) (show List.Nodup (["at","place","boat"]:List Str) from by decide +kernel) rfl (.inl rfl)) yQ)))) (fun _ _ _ _ _=>yT) (fun _ _ _ _ _=>(yU (j5 kL (pv 0) (pv 2)) (jJ kG (pv 1) jC) (pv 1)))) jD))),?_⟩
 try dsimp only [jU,jT]
 refine (jA rfl (⟨pt,rfl,⟨_,SqT.of hpt⟩,fun D₁ hD₁=>?_⟩));refine tD (K:=K) (a:=pt) (xs:=pl.map fun (p:Nat)=>V.int (p:Int)) (fun i σ Hi=>∃c1 c2:Option V,σ=[c1,c2,some (.int (b:Int))]/\Hi D₁=some (.lst (((JV pl b).take i).map fun (p:Nat)=>V.int (p:Int)))/\Same H Hi) ⟨none,none,rfl,jF,jK hD₁ _⟩ (fun i σ Hi _ ⟨_,_,_,_,s⟩=>SqT.of (s _ _ hpt)) ?_ ?_
 ·rintro i v σ Hi T₁ hv ⟨c1,c2,rfl,hY,sm⟩ hT;have hi:i<pl.length:=by have:=(af.mp hv).1;rw [ac] at this;exact this
  rw [ak,aa hi] at hv;cases hv;have u:=jK hT (.tup [V.int (i:Int),V.int ((pl[i]:Nat):Int)]);have smu:=sm.trans u;have hYu:=u _ _ hY;refine ⟨T₁,jA rfl (⟨SqT.of jF,rfl,_,jA rfl (⟨_,_,rfl,rfl,?_⟩)⟩)⟩;generalize upd Hi T₁ (.tup [V.int (i:Int),V.int ((pl[i]:Nat):Int)])=Hj at u smu hYu ⊢;have eg:pl.getD i 0=pl[i]:=by rw [ad,aa hi];rfl
  refine vR (kW ?_);refine (jA rfl (⟨_,rfl,rfl,jA rfl (?_)⟩))
  by_cases h:i=b
  ·refine kJ (by rw [h]) (jA rfl (jZ (⟨_,hYu,qJ (by rw [ac,bg,lK];lia),_,jA rfl (⟨?_,kY hD₁ smu⟩)⟩)));rw [jF,AR hi,if_pos h,eg,aw];rfl
  ·refine j4 (fun e=>h (by have:=V.int.inj e;lia)) (jA rfl (⟨_,hYu,qJ (by rw [ac,bg,lK];lia),_,jA rfl (⟨?_,kY hD₁ smu⟩)⟩));rw [jF,AR hi,if_neg h,eg,aw];rfl
 rintro σ Hf ⟨c1,c2,rfl,hY,sm⟩;rw [ac,cf (by rw [lK];exact aj _)] at hY;refine ⟨D₁,jA rfl (.inl ⟨so hY,fun r hr0=>?_⟩)⟩;exact q r _ (sm.trans (jK hr0 _)) (sm.free hr0) jF
theorem MY:jS 3 ["state","deed","waters"] pQ:=jR
include T in
theorem KG (F:j7 K "counted_on" pQ f fd) (xaC:Def P w K mg base 1 "one_step_on" ["places","boat"] [] (CY)):FnOk P w K mg base jX 2 f fd ["state","deed","waters"] (B4):=by
 refine F.ok2 MY fun vs H Q E h=>?_
 refine JQ h fun st dd wo de d ms mo pl h=>?_
 refine zK h fun e_ hst hdd hwo h100 q=>?_
 subst e_;refine ⟨rfl,fun _ _ _ _ hr=>?_⟩;refine tk fun x0=>?_
 let u0:=ru x0 [1,0,0] (jM (kR (j9 (jH (jL K) (pv 0) jC) (pv 2) (jQ xaC hr rfl (jB (jH (jL K) (pv 0) jC) (jB (jH (jL K) (pv 1) jC) jD))))))
 let u1:=ru x0 [1] (jG (kB (j5 kL (jH (jL K) (pv 1) jC) jV) u0.h kD)
   (jM (kR (j9 (jH (jL K) (pv 0) jC) (pv 2) (jH (jL K) (pv 0) jC)))))
 refine ⟨_,(jG (kB (j5 kL (jH (jL K) (pv 1) jC) jV) (jM (kR (j9 (jJ kG (jH (jL K) (pv 0) jC) jC) (pv 2) (jH (jL K) (pv 0) jC)))) kD)
   u1.h),?_⟩
 try dsimp only [jU,jT]
 obtain ⟨wt,pt,hst1,hwt,hpt⟩:=id hst;cases de with
 |night =>
  refine (jA rfl (jI (SqT.of hdd) rfl (⟨rfl,jA rfl (kJ rfl ?_)⟩)));refine (jA rfl (jI (SqT.of hst1) rfl (jZ ((jA rfl (jA rfl (jI (SqT.of hst1) rfl (⟨zz3,fun t3 ht3=>?_⟩))))))));have s3:=jK ht3 (.tup [V.int (d+1),V.ref wo,V.ref pt]);exact q t3 _ s3 ht3 ⟨wo,pt,jF,s3 _ _ hwo,s3 _ _ hpt⟩
 |pass b =>
  refine (jA rfl (jI (SqT.of hdd) rfl (⟨rfl,jA rfl (j4 (qR (by decide +kernel)) ?_)⟩)));refine (jA rfl (jI (SqT.of hdd) rfl (⟨rfl,jA rfl (kJ rfl ?_)⟩)));refine (jA rfl (jI (SqT.of hst1) rfl ((jA rfl (jA rfl (jI (SqT.of hst1) rfl ((jA rfl (jI (SqT.of hdd) rfl ((vA pt pl b (qI rfl hpt h100 (fun po H3 s3 hpo0 hpo=>?_)))))))))))));refine ⟨zz3,fun t3 ht3=>?_⟩;have s4:=jK ht3 (.tup [V.int d,V.ref wo,V.ref po]);exact q t3 _ (s3.trans s4) (s3.free ht3) ⟨wo,po,jF,s4 _ _ (s3 _ _ hwo),s4 _ _ hpo⟩
 |«let» k =>
  refine (jA rfl (jI (SqT.of hdd) rfl (⟨rfl,jA rfl (j4 (qR (by decide +kernel)) ?_)⟩)));refine (jA rfl (jI (SqT.of hdd) rfl (⟨rfl,jA rfl (j4 (qR (by decide +kernel)) ?_)⟩)));refine (jA rfl (jI (SqT.of hst1) rfl ((jA rfl (jA rfl (jI (SqT.of hst1) rfl (⟨zz3,fun t3 ht3=>?_⟩)))))));have s3:=jK ht3 (.tup [V.int d,V.ref wo,V.ref pt]);exact q t3 _ s3 ht3 ⟨wo,pt,jF,s3 _ _ hwo,s3 _ _ hpt⟩
theorem sJ:jS 3 ["canal","k","named","lock","vessel"] iN:=jR
include T in
theorem KD (F:j7 K "by_number" iN f fd) (za:MeD P w K mg base 1 cN "basin" ["self","k"] (cD (jE cP cB cU) cR cN zC)) (zh:MeD P w K mg base 1 cN "chamber" ["self","k"] (cD (jE cP cB cU) cR cN JP)):FnOk P w K mg base jX 2 f fd ["canal","k","named"] (uR (jE cP cB cU) cR cN):=by
 refine F.ok2 sJ fun vs H Q E h=>?_
 refine gO h fun x p k l rp ps D R L N h=>?_
 refine xD h fun e_ hc hl' hg hp hP hok h10 q=>?_
 subst e_;refine ⟨rfl,fun _ _ _ _ hr=>?_⟩;have hu1:=wT hr;refine tk fun x0=>?_
 let u0:=ru x0 [2] (jM (JM ["source","target","amount","vessel"] (qW 3 [4]) rfl (qX (j8 iN)) (cps 3 [4]) (vQ (pv 2)) (fun _ _ _ _ _=>(zX (n:=3) K rfl (qB (kI (i:=0) (show List.Nodup (["source","target","amount","vessel"]:List Str) from by decide +kernel) rfl (.inl rfl)) (qB (kI (i:=1) (show List.Nodup (["source","target","amount","vessel"]:List Str) from by decide +kernel) rfl (.inl rfl)) (qB (kI (i:=2) (show List.Nodup (["source","target","amount","vessel"]:List Str) from by decide +kernel) rfl (.inl rfl)) yQ))))) (fun _ _ _ _ _=>yT) (fun _ _ _ _ _=>(kR (j9 (gB hu1 (pv 3) (pv 0) (fun _ _=>rfl)) (gB hu1 (pv 3) (pv 1) (fun _ _=>rfl)) (pv 2))))))
 let u1:=ru x0 [1] (jG (jN 4 sJ.nd (EK (dS jV (jY K (pv 3) rfl) (dS jV (jY K (pv 3) rfl) (dS jV (ZM zh hr (pv 0) (jB (pv 1) jD)) (dS jV (ZM za hr (pv 0) (jB (pv 1) jD)) EG)))) rfl rfl (cons_ne_nil _ _) (by decide)))
   u0.h)
 refine ⟨_,(jG (jN 3 sJ.nd (jH (kO K) (jY K (pv 0) rfl) (pv 1)))
   u1.h),?_⟩
 try dsimp only [jU,jT]
 have hc0:=hc;obtain ⟨dx,rl,ll,nl,fs,rs,ls,nv,hx,hf,hrl,hll,hnl,hR,hL,hN,d1,d2,d3⟩:=hc;obtain ⟨v,hv,y,rfl,dl,hl⟩:=hL.get hl';have hkL:k<L.length:=(af.mp hl').1;refine (jA rfl (j0 hx (T.clN) (T.xg) (hf.2.1) ((jA rfl (qA (so hll) (kQ hv) (?_))))));refine fun w hw0=>?_
 have s0:=jK hw0 (.dK []);refine (jA rfl (j0 ((s0 _ _ hl)) (T.cl l.kd) (T.vq l.kd) (eA l.kd _ _ _ _ _) ((jA rfl (j0 ((s0 _ _ hl)) (T.cl l.kd) (T.ux l.kd) (eI l.kd _ _ _ _ _) ((jA rfl (⟨x,dx,jA rfl (⟨(s0 _ _ hx),hf.no3 (by decide +kernel),jA rfl (⟨x,D,R,L,N,jA rfl (⟨hc0.same s0,jA rfl (⟨x,dx,jA rfl (⟨(s0 _ _ hx),hf.no3 (by decide +kernel),jA rfl (⟨x,D,R,L,N,jA rfl (⟨hc0.same s0,?_⟩)⟩)⟩)⟩)⟩)⟩)⟩)⟩))))))));refine ⟨jF,[(.inr "high",.int l.high),(.inr "low",.int l.low),(.inr "chamber",.int (JP R.length L.length (k:Int))),(.inr "basin",.int (zC R.length L.length (k:Int)))],rfl,(by show 4<=15;decide),?_⟩;rw [WA];have s1:Same H (upd (upd H w (.dK [])) w (.dK (d4 (.int l.high) (.int l.low) (.int (JP R.length L.length (k:Int))) (.int (zC R.length L.length (k:Int)))))):=kY hw0 s0;have hw:upd (upd H w (.dK [])) w (.dK (d4 (.int l.high) (.int l.low) (.int (JP R.length L.length (k:Int))) (.int (zC R.length L.length (k:Int))))) w=_:=jF;generalize upd (upd H w (.dK [])) w (.dK (d4 (.int l.high) (.int l.low) (.int (JP R.length L.length (k:Int))) (.int (zC R.length L.length (k:Int)))))=H1 at s1 hw ⊢;have hdg:∀Hi s,Same H1 Hi->okW s->DGet Hi w (.str s) (some (.int ((JB R.length L.length k l s:Nat):Int))):=fun Hi s sm hs=>by
  obtain ⟨e1,e2,e3,e4⟩:=XI (sm _ _ hw);obtain ⟨g1,g2,g3,g4,_⟩:=hg;cases hs
  ·rw [CU,show ((l.high.toNat:Nat):Int)=l.high by lia];exact e1
  ·rw [DU,show ((l.low.toNat:Nat):Int)=l.low by lia];exact e2
  ·rw [BP,show ((R.length+k:Nat):Int)=JP R.length L.length (k:Int) by unfold JP;lia];exact e3
  ·rw [BQ,show ((R.length+L.length+k:Nat):Int)=zC R.length L.length (k:Int) by unfold zC;lia];exact e4
 refine (jA rfl (⟨p,rfl,⟨_,so (s1 _ _ hp)⟩,fun D₁ hD₁=>?_⟩));refine Z0 (K:=K) (a:=p) (xs:=rp) (fun i σ Hi=>∃c1 c2 c3 zs,σ=[c1,c2,c3,some (.ref w)]/\Hi D₁=some (.lst zs)/\PoursH Hi zs ((ps.take i).map (nI R.length L.length k l)) (R.length+2*L.length+2)/\Same H1 Hi)
  (vY none none none ([]) (qI rfl jF (PoursH.nil _ _) (jK hD₁ _))) (fun i σ Hi _ ⟨_,_,_,_,_,_,_,s⟩=>so (s _ _ (s1 _ _ hp))) ?_ ?_
 ·rintro i v σ Hi hv ⟨c1,c2,c3,zs,rfl,hY,hA,sm⟩;have hi:i<rp.length:=(af.mp hv).1;rw [hP.1] at hi;obtain ⟨t,sS,sT,nN,rfl,hps,hT⟩:=hP.2 i v hv;obtain ⟨o1,o2⟩:=hok _ (av hps);have hlz:zs.length<=i:=by rw [hA.1,ac];exact gu _ _
  refine ⟨t,jA rfl (⟨SqT.of (sm _ _ (s1 _ _ hT)),rfl,_,jA rfl (⟨_,jA rfl (⟨_,_,rfl,rfl,?_⟩)⟩)⟩)⟩;refine vR (kW ?_);refine (jA rfl (jA rfl (⟨w,jA rfl (⟨hdg Hi _ sm o1,jA rfl (jA rfl (⟨w,jA rfl (⟨hdg Hi _ sm o2,jA rfl (⟨zz3,fun tp htp=>?_⟩)⟩)⟩))⟩)⟩)));have u:=jK htp (.tup [V.int ((JB R.length L.length k l sS:Nat):Int),V.int ((JB R.length L.length k l sT:Nat):Int),V.int nN]);refine ⟨zs,u _ _ hY,qJ (by lia),_,_,_,zs++[.ref tp],rfl,jF,?_,kY hD₁ (sm.trans u)⟩;rw [aG,hps,aw];exact ((hA.same u).snoc jF (EZ o1 hg hkL) (EZ o2 hg hkL)).put (u _ _ hY)
 rintro σ Hf ⟨c1,c2,c3,zs,rfl,hY,hA,sm⟩;rw [hP.1,aW] at hA;exact q D₁ Hf zs (s1.trans sm) (s1.free hD₁) hY hA
theorem i7:jS 4 ["canal","ways","state","boat","step","k","basin"] rE:=jR
include T in
theorem K6 (F:j7 K "pass_pours" rE f fd) (zm:Def P w K mg base 1 "next_step" ["way","place"] [] (mI)) (za:MeD P w K mg base 1 cN "basin" ["self","k"] (cD (jE cP cB cU) cR cN zC)) (vv:Def P w K mg base 2 "by_number" ["canal","k","named"] [] (uR (jE cP cB cU) cR cN)) (xbm:Def P w K mg base 4 "passage" ["lock","full","basin","way"] [] (B0 (jE cP cB cU))) (xv:MeD P w K mg base 2 cN "full" ["self","waters","k"] (fZ (jE cP cB cU) cR cN)):FnOk P w K mg base jX 6 f fd ["canal","ways","state","boat"] (uQ (jE cP cB cU) cR cN):=by
 refine F.ok2 i7 fun vs H Q E h=>?_
 refine FX h fun x wl st b us ys y p s₁ d ms pl D R L N h=>?_
 refine zK h fun e_ hG hy hpp hs q=>?_
 subst e_;refine ⟨rfl,fun _ _ _ _ hr=>?_⟩;refine tk fun x0=>?_
 let u0:=ru x0 [3] (jM (jQ vv hr rfl (j9 (pv 0) (pv 5) (jQ xbm hr rfl (yB (jH (kO K) (jY K (pv 0) rfl) (pv 5)) (ZM xv hr (pv 0) (jB (jH (jL K) (pv 2) jC) (jB (pv 5) jD))) (pv 6) (jH (jL K) (pv 4) jC))))))
 let u1:=ru x0 [2] (jG (jN 6 i7.nd (jH (jL K) (jH (jL K) (pv 2) jC) (ZM za hr (pv 0) (jB (pv 5) jD))))
   u0.h)
 let u2:=ru x0 [1] (jG (jN 5 i7.nd (jH (jL K) (pv 4) jC))
   u1.h)
 refine ⟨_,(jG (jN 4 i7.nd (jQ zm hr rfl (jB (jH (kO K) (pv 1) (pv 3)) (jB (jH (jL K) (jH (jL K) (pv 2) jC) (pv 3)) jD))))
   u2.h),?_⟩
 try dsimp only [jU,jT]
 obtain ⟨hc,hdr,hwl,hA,⟨wt,pt,hst1,hwt,hpt⟩,hfl,hml⟩:=id hG;have hc0:=hc;obtain ⟨dx,rl,ll,nl,fs,rs,ls,nv,hx,hf,hrl,hll,hnl,hR,hL,hN,d1,d2,d3⟩:=hc;obtain ⟨v,hvy,t,st₂,vs₂,rfl,hw1,hw2,hw3⟩:=hA.get hy;have hyok:=hfl.ok y (av hy);have hkL:=hyok.lt s₁ (av hs);obtain ⟨l,hl'⟩:∃l,L[s₁.1]?=some l:=⟨_,aa hkL⟩;obtain ⟨v4,hv4,y4,rfl,dl,hl⟩:=hL.get hl';have hgd:=hdr.lock _ _ hl';have ebas:zC R.length L.length (s₁.1:Int)=((R.length+L.length+s₁.1:Nat):Int):=by unfold zC;lia
 have hat:qS (ms.map V.int) (zC R.length L.length (s₁.1:Int))=some (.int (ms.getD (R.length+L.length+s₁.1) 0)):=by rw [ebas];exact yD (by lia)
 refine (jA rfl (jA rfl (⟨wl,_,_,_,rfl,rfl,so hwl,kQ hvy,jA rfl (⟨st,_,_,_,rfl,rfl,SqT.of hst1,rfl,jA rfl (⟨pt,_,_,_,rfl,rfl,SqT.of hpt,kQ (v:=.int (p:Int)) (by rw [ak,hpp];rfl),vY t y p s₁ (qI rfl (vA t st₂ vs₂ (qI rfl hw1 hw2 hw3)) hs (fun v3 ⟨t3,e3,ht3⟩=>?_))⟩)⟩)⟩)));subst e3;refine (jA rfl (⟨t3,_,_,_,rfl,rfl,SqT.of ht3,rfl,?_⟩));refine (jA rfl (⟨st,_,_,_,rfl,rfl,SqT.of hst1,rfl,jA rfl (⟨x,dx,jA rfl (⟨hx,hf.no3 (by decide +kernel),jA rfl (⟨x,D,R,L,N,jA rfl (⟨hc0,wt,_,_,_,rfl,rfl,SqT.of hwt,hat,?_⟩)⟩)⟩)⟩)⟩));refine (jA rfl (jA rfl (jA rfl (⟨x,cN,dx,_,jA rfl (⟨hx,T.clN,T.xg,hf.2.1,jA rfl (⟨ll,_,_,_,rfl,rfl,so hll,kQ hv4,jA rfl (⟨x,dx,jA rfl (⟨hx,hf.no3 (by decide +kernel),jA rfl (⟨st,_,_,_,rfl,rfl,SqT.of hst1,rfl,jA rfl ((JT x wt D R L N ms s₁.1 (vG rfl hc0 hwt (by lia) (jA rfl (jA rfl (⟨t3,_,_,_,rfl,rfl,SqT.of ht3,rfl,y4,l.kd,_,_,_,l.room,l.extra,_,_,s₁.2,(by rw [FM];rfl),⟨dl,hl⟩,fun r H1 rs s1 hr0 hr hP=>?_⟩))))))⟩)⟩)⟩)⟩)⟩)⟩))));refine (gR x r s₁.1 l rs _ D R L N (oA rfl (hc0.same s1) hl' hgd hr hP (SU _ _ _ _ _ _) (aK (B7 _ _ _ _ _ _) (by decide)) (fun r2 H2 zs s2 hr20 hr2 hP2=>?_)));refine q r2 H2 zs (s1.trans s2) (s1.free hr20) hr2 ?_;unfold QR bG;rw [hl',hml];exact hP2
theorem M6:jS 3 ["canal","state","k"] pY:=jR
include T in
theorem KS (F:j7 K "let_pours" pY f fd) (vv:Def P w K mg base 2 "by_number" ["canal","k","named"] [] (uR (jE cP cB cU) cR cN)) (wc:Def P w K mg base 3 "letting" ["lock","basin"] [] (fU (jE cP cB cU) y9)) (za:MeD P w K mg base 1 cN "basin" ["self","k"] (cD (jE cP cB cU) cR cN zC)):FnOk P w K mg base jX 4 f fd ["canal","state","k"] (EB (jE cP cB cU) cR cN):=by
 refine F.ok2 M6 fun vs H Q E h=>?_
 refine wW h fun x wl st k us ys d ms pl D R L N h=>?_
 refine zT h fun e_ hG hkL q=>?_
 subst e_;refine ⟨rfl,fun _ _ _ _ hr=>?_⟩;refine ⟨_,(jM (jQ vv hr rfl (j9 (pv 0) (pv 2) (jQ wc hr rfl (jB (jH (kO K) (jY K (pv 0) rfl) (pv 2)) (jB (jH (jL K) (jH (jL K) (pv 1) jC) (ZM za hr (pv 0) (jB (pv 2) jD))) jD)))))),?_⟩
 try dsimp only [jU,jT]
 obtain ⟨hc,hdr,hwl,hA,⟨wt,pt,hst1,hwt,hpt⟩,hfl,hml⟩:=id hG;have hc0:=hc;obtain ⟨dx,rl,ll,nl,fs,rs,ls,nv,hx,hf,hrl,hll,hnl,hR,hL,hN,d1,d2,d3⟩:=hc;obtain ⟨l,hl'⟩:∃l,L[k]?=some l:=⟨_,aa hkL⟩;obtain ⟨v4,hv4,y4,rfl,dl,hl⟩:=hL.get hl';have hgd:=hdr.lock _ _ hl';have hat:qS (ms.map V.int) (zC R.length L.length (k:Int))=some (.int (ms.getD (R.length+L.length+k) 0)):=by
  rw [show zC R.length L.length (k:Int)=((R.length+L.length+k:Nat):Int) by unfold zC;lia];exact yD (by lia)
 refine (jA rfl (jA rfl (jA rfl (j0 hx (T.clN) (T.xg) (hf.2.1) ((jA rfl (qA (so hll) (kQ hv4) ((jA rfl (jI (SqT.of hst1) rfl ((jA rfl (⟨x,dx,jA rfl (⟨hx,hf.no3 (by decide +kernel),jA rfl (⟨x,D,R,L,N,jA rfl (⟨hc0,jI (SqT.of hwt) hat (⟨y4,l.kd,_,_,_,l.room,l.extra,jA rfl (⟨⟨dl,hl⟩,fun r H1 rs s1 hr0 hr hP=>?_⟩)⟩)⟩)⟩)⟩)⟩)))))))))))));refine (gR x r k l rs _ D R L N (oA rfl (hc0.same s1) hl' hgd hr hP (mD _ _ _ _) (aK (bU _ _ _ _) (by decide)) (fun r2 H2 zs s2 hr20 hr2 hP2=>?_)));refine q r2 H2 zs (s1.trans s2) (s1.free hr20) hr2 ?_;unfold gP;rw [hl',hml];exact hP2
theorem M3:jS 3 ["canal","waters","vessel"] pV:=jR
include T in
theorem KO (F:j7 K "is_below_least" pV f fd) : FnOk P w K mg base jX 1 f fd ["canal","waters","vessel"] (FR (jE cP cB cU) cR cN):=by
 refine F.ok2 M3 fun vs H Q E h=>?_
 refine JQ h fun x w v ms D R L N h=>?_
 refine J4 h fun e_ hc hw hv q=>?_
 subst e_;refine ⟨rfl,fun _ _ _ _ hr=>?_⟩;refine ⟨_,(jM (wF (zV ZG (pv 2) (qF K T.xk (jY K (pv 0) rfl))) (wE (zV ZG (jH (jL K) (pv 1) (pv 2)) (jY K (jH (kO K) (jY K (pv 0) rfl) (pv 2)) rfl))))),?_⟩
 try dsimp only [jU,jT]
 obtain ⟨dx,rl,ll,nl,fs,rs,ls,nv,hx,hf,hrl,hll,hnl,hR,hL,hN,d1,d2,d3⟩:=hc;refine (jA rfl (jA rfl (j0 hx (T.clN) (T.xf) (hf.1) (⟨rl,jA rfl (⟨.inl (so hrl),_,_,rfl,rfl,jA rfl (?_)⟩)⟩))));rw [hR.1]
 by_cases h:v<R.length
 ·obtain ⟨r,hr⟩:∃r,R[v]?=some r:=⟨_,aa h⟩;obtain ⟨z,hz,y,rfl,dy,gs,hy,hg⟩:=hR.get hr;refine kJ (by lia) (jA rfl (jA rfl (jI (SqT.of hw) (yD hv) ((jA rfl (j0 hx (T.clN) (T.xf) (hf.1) ((jA rfl (qA (so hrl) (kQ hz) (j0 hy (T.clR) (T.zk) (hg.2.1) (jZ (?_))))))))))));rw [show ZO R ms v=decide (ms.getD v 0<r.least) by unfold ZO;rw [hr]] at q;exact q
 ·refine j4 (by lia) ?_;rw [show ZO R ms v=false by unfold ZO;rw [bh (by lia)]] at q;exact q
theorem i6:jS 3 ["canal","waters","moved","held","pour"] pT:=jR
include T in
theorem KK (F:j7 K "falls_short" pT f fd) (xw:Def P w K mg base 1 "poured_all" ["waters","pours"] [] (gK K)) (uk:Def P w K mg base 1 "is_below_least" ["canal","waters","vessel"] [] (FR (jE cP cB cU) cR cN)):FnOk P w K mg base jX 2 f fd ["canal","waters","moved"] (C3 (jE cP cB cU) cR cN):=by
 refine F.ok2 i6 fun vs H Q E h=>?_
 refine gO h fun x w p ms zs qs D R L N h=>?_
 refine zS h fun e_ hc hw hp hP h1000 q=>?_
 subst e_;refine ⟨rfl,fun _ _ _ _ hr=>?_⟩;refine tk fun x0=>?_
 let u0:=ru x0 [1,0,0] (jG (jN 3 i6.nd (jQ xw hr rfl (jB (pv 3) (jB (kU (jB (pv 4) jD)) jD))))
   (kF (kB (vV (jQ uk hr rfl (j9 (pv 0) (pv 3) (jH (jL K) (pv 4) jC)))) (jM cF) kD)))
 let u1:=ru x0 [1] (jG (yX di rfl (vQ (pv 2)) (kI (i:=4) i6.nd rfl (.inl rfl))
    u0.h)
   (jM cF))
 refine ⟨_,(jG (jN 3 i6.nd (pv 1))
   u1.h),?_⟩
 try dsimp only [jU,jT]
 refine (jA rfl (?_));refine ⟨_,rfl,p,rfl,⟨_,so hp⟩,lY (K:=K) (a:=p) (xs:=zs) (fun i σ Hi=>∃h c,σ=[some (.ref x),some (.ref w),some (.ref p),some (.ref h),c]/\Hi h=some (.tup ((qN ms (qs.take i)).map V.int))/\QL R ms qs=QL R (qN ms (qs.take i)) (qs.drop i)/\Same H Hi)
  ⟨w,none,rfl,hw,rfl,Same.refl _⟩ (fun i σ Hi _ ⟨_,_,_,_,_,s⟩=>so (s _ _ hp)) ?_ ?_⟩
 ·rintro i v σ Hi hv ⟨h,c,rfl,hh,he,sm⟩;obtain ⟨a,s,t,m,rfl,hq,hT,hs,ht⟩:=hP.2 i v hv;have el:(qN ms (qs.take i)).length=ms.length:=QG _ _;refine (jA rfl (jA rfl (⟨zz1,fun lp hlp=>?_⟩)));have u:=jK hlp (.lst [V.ref a]);refine ⟨h,vY lp _ ([.ref a]) ([(s,t,m)]) (qU rfl (.inr (SqT.of (u _ _ hh))) (so jF) ((PoursH.nil _ _ |>.snoc (u _ _ (sm _ _ hT)) (by rw [el];exact hs) (by rw [el];exact ht)).pa) (by rw [el];exact h1000) (fun r H' s' hr0 hr=>?_))⟩;have sm2:=(sm.trans u).trans s';have ep:qN (qN ms (qs.take i)) [(s,t,m)]=qN ms (qs.take (i+1)):=by rw [sY ms qs i _ hq];rfl
  rw [ep] at hr;have ed:qs.drop i=(s,t,m)::qs.drop (i+1):=(drop_eq_getElem_cons (af.mp hq).1).trans (by rw [(af.mp hq).2]);have he2:QL R ms qs=(ZO R (qN ms (qs.take (i+1))) s||QL R (qN ms (qs.take (i+1))) (qs.drop (i+1))):=by
   rw [he,ed];show (ZO R (pour (qN ms (qs.take i)) (s,t,m)) s||QL R (pour (qN ms (qs.take i)) (s,t,m)) (qs.drop (i+1)))=_;rw [sY ms qs i _ hq]
  have el2:(qN ms (qs.take (i+1))).length=ms.length:=QG _ _;refine (jA rfl (jA rfl (jA rfl (jI (SqT.of (sm2 _ _ hT)) rfl ((JT x r s _ D R L N (vG rfl (hc.same sm2) hr (by rw [el2];exact hs) (jA rfl (?_)))))))));cases hb:ZO R (qN ms (qs.take (i+1))) s with
  |true =>
   refine kW ?_;have:=q H' sm2;rw [he2,hb] at this;exact this
  |false =>
   refine qV ⟨r,jA rfl (⟨hr,?_,sm2⟩)⟩;rw [he2,hb];rfl
 rintro σ Hi ⟨h,c,rfl,hh,he,sm⟩;rw [hP.1,drop_length] at he;have:=q Hi sm;rw [he] at this;exact this
theorem sR:jS 4 ["canal","ways","state","boat","place","target"] sB:=jR
include T in
theorem LZ (F:j7 K "why_no_pass" sB f fd) (vg:Def P w K mg base 3 "reach_of" ["canal","way","place"] [] (tV (jE cP cB cU) cR cN)) (zu:Def P w K mg base 5 "has_no_berth" ["canal","ways","state","reach"] [] (tW (jE cP cB cU) cR cN)) (xaD:Def P w K mg base 2 "falls_short" ["canal","waters","moved"] [] (C3 (jE cP cB cU) cR cN)) (vh:Def P w K mg base 6 "pass_pours" ["canal","ways","state","boat"] [] (uQ (jE cP cB cU) cR cN)):FnOk P w K mg base jX 7 f fd ["canal","ways","state","boat"] (E3 (jE cP cB cU) cR cN):=by
  refine F.ok2 sR fun vs H Q E h=>?_
  refine wW h fun x wl st b us ys d ms pl D R L N h=>?_
  refine zT h fun e_ hG hb q=>?_
  subst e_;refine ⟨rfl,fun _ _ _ _ hr=>?_⟩;refine tk fun x0=>?_
  let u0:=ru x0 [4] (jG (kB (vV (jQ xaD hr rfl (j9 (pv 0) (jH (jL K) (pv 2) jC) (jQ vh hr rfl (yB (pv 0) (pv 1) (pv 2) (pv 3)))))) (jM jV) kD)
      (jM jV))
  let u1:=ru x0 [3] (bV (kB (PW.pt (eE (j5 ZF (pv 5) (JN (v:=.int (-1)) rfl T.xaO ⟨_,rfl⟩)) (dZ (vV (jQ zu hr rfl (yB (pv 0) (pv 1) (pv 2) (pv 5))))))) (jM jV) kD)
      u0.h)
  let u2:=ru x0 [2] (jG (jN 5 sR.nd (jQ vg hr rfl (j9 (pv 0) (jH (kO K) (pv 1) (pv 3)) (jJ kG (pv 4) jC))))
      u1.h)
  let u3:=ru x0 [1] (jG (kB (j5 kL (jQ vg hr rfl (j9 (pv 0) (jH (kO K) (pv 1) (pv 3)) (pv 4))) (JN (v:=.int (-1)) rfl T.xaO ⟨_,rfl⟩)) (jM jV) kD)
      u2.h)
  refine ⟨_,(jG (jN 4 sR.nd (jH (jL K) (jH (jL K) (pv 2) jC) (pv 3)))
      u3.h),?_⟩
  try dsimp only [jU,jT]
  obtain ⟨hc,hdr,hwl,hA,hst,hfl,hml⟩:=id hG;obtain ⟨wt,pt,hst1,hwt,hpt⟩:=id hst;have hc0:=hc;obtain ⟨dx,rl,ll,nl,fs,rs,ls,nv,hx,hf,hrl,hll,hnl,hR,hL,hN,d1,d2,d3⟩:=hc;have b1:=hdr.r8;have b2:=hdr.l8;obtain ⟨y,hy⟩:∃y,ys[b]?=some y:=⟨_,aa hb⟩;obtain ⟨p,hp⟩:∃p,pl[b]?=some p:=⟨_,aa (by rw [hfl.len];exact hb)⟩;obtain ⟨v,hvy,hwy⟩:=hA.get hy;obtain ⟨t,st₂,vs₂,rfl,hw1,hw2,hw3⟩:=id hwy;have hple:=hfl.le b y p hy hp;have hyok:=hfl.ok y (av hy);have ey:ys.getD b (0,[])=y:=by rw [ad,hy];rfl
  have ep:pl.getD b 0=p:=by rw [ad,hp];rfl
  unfold cH at q;rw [ey,ep] at q;refine (jA rfl (jI (SqT.of hst1) rfl ((jA rfl (jI (SqT.of hpt) (kQ (v:=.int (p:Int)) (by rw [ak,hp];rfl)) (?_))))));refine (jA rfl (jA rfl (jA rfl (qA (so hwl) (kQ hvy) ((jA rfl ((JT x t y p D R L N (qU rfl hc0 hwy hyok hple (fun H1 s1=>⟨rfl,jA rfl (?_)⟩))))))))))
  by_cases h0:p=y.2.length
  . refine kJ (by rw [h0,EH]) ?_
    have:=q H1 s1;rw [if_pos h0] at this;exact this
  have hlt:p<y.2.length:=by lia
  have hpin:=E9 hdr hyok hlt;refine j4 (fun e=>by have:=V.int.inj e;lia) ?_;have q:∀H',Same H H'->Q (.str (if ¬vK L y (p+1) = -1/\fY R (vK L y (p+1))<=(((y8 L ys pl).countP fun z=>decide (z=vK L y (p+1)):Nat):Int) then "berth" else if QL R ms (QR R.length L ms (y.2.getD p (0,true)))=true then "water" else "")) H':=fun H' s'=>by
    have:=q H' s';rw [if_neg h0] at this;exact this
  have s01:=s1;refine (jA rfl (jA rfl (jA rfl (qA (so (s1 _ _ hwl)) (kQ hvy) ((jA rfl (jZ ((JT x t y (p+1) D R L N (qU rfl (hc0.same s1) (WyAt.same s1 _ _ hwy) hyok (by lia) (fun H2 s2=>?_)))))))))));have s02:=s1.trans s2;refine ⟨fun σ' Ha=>σ'=[some (.ref x),some (.ref wl),some (.ref st),some (.int (b:Int)),some (.int (p:Int)),some (.int (vK L y (p+1)))]/\Same H Ha/\¬(¬vK L y (p+1) = -1/\fY R (vK L y (p+1))<=(((y8 L ys pl).countP fun z=>decide (z=vK L y (p+1)):Nat):Int)),?_,?_⟩
  . refine ⟨_,rfl,rfl,jA rfl (?_)⟩
    by_cases h1:vK L y (p+1) = -1
    . exact ZJ (bz V.int h1) (qV ⟨rfl,s02,fun z=>z.1 h1⟩)
    refine ZI (fun e=>h1 (V.int.inj e)) ?_;have hlt2:p+1<y.2.length:=by
      by_cases e:p+1=y.2.length
      . rw [e,EH] at h1;exact absurd rfl h1
      . lia
    have hpin2:=E9 hdr hyok hlt2;obtain ⟨tn,htn⟩:∃tn:Nat,vK L y (p+1)=(tn:Int):=⟨(vK L y (p+1)).toNat,by lia⟩;rw [htn] at h1 ⊢;obtain ⟨r,hr⟩:∃r,R[tn]?=some r:=⟨_,aa (by lia)⟩;have eb:fY R (tn:Int)=r.berths:=by unfold fY;rw [show ((tn:Nat):Int).toNat=tn from rfl,hr]
    refine (jA rfl (jA rfl (jA rfl (jA rfl ((gQ x wl st tn r us ys d ms pl D R L N (qI rfl (hG.same s02) hr (fun H3 s3=>(jA rfl (?_))))))))));have s03:=s02.trans s3
    by_cases h2:r.berths<=(((y8 L ys pl).countP fun z=>decide (z=(tn:Int)):Nat):Int)
    . rw [aV h2]
      refine kW ?_;have:=q H3 s03;rw [htn,eb,if_pos ⟨h1,h2⟩] at this;exact this
    . rw [aH h2]
      exact qV ⟨rfl,s03,fun z=>h2 (by rw [eb] at z;exact z.2)⟩
  rintro σ' H3 ⟨rfl,s03,hno⟩;obtain ⟨s₁,hs⟩:∃s,y.2[p]?=some s:=⟨_,aa hlt⟩;have es:y.2.getD p (0,true)=s₁:=by rw [ad,hs];rfl
  refine (jA rfl (jA rfl (jI (SqT.of (s03 _ _ hst1)) rfl ((jA rfl (jA rfl (jA rfl (jA rfl ((xA x wl st b us ys y p s₁ d ms pl D R L N (qU rfl (hG.same s03) hy hp hs (fun r H4 zs s4 hr0 hr hP=>?_))))))))))));have s04:=s03.trans s4;refine (gR x wt r ms zs _ D R L N (zN rfl (hc0.same s04) (s04 _ _ hwt) hr hP (by lia) (fun H5 s5=>(jA rfl (?_)))));have:=q H5 (s04.trans s5);rw [if_neg hno,es] at this;cases hsb:QL R ms (QR R.length L ms s₁) with
  |true =>
    refine kW ?_;rw [hsb,if_pos rfl] at this;exact this
  |false =>
    refine qV ?_;rw [hsb,if_neg (by decide)] at this;exact this
theorem NO:jS 4 ["canal","ways","state","deed"] sC:=jR
include T in
theorem L3 (F:j7 K "why_not" sC f fd) (xaE:Def P w K mg base 7 "why_no_pass" ["canal","ways","state","boat"] [] (E3 (jE cP cB cU) cR cN)) (xv:MeD P w K mg base 2 cN "full" ["self","waters","k"] (fZ (jE cP cB cU) cR cN)):FnOk P w K mg base jX 8 f fd ["canal","ways","state","deed"] (uZ (jE cP cB cU) cR cN):=by
 refine F.ok2 NO fun vs H Q E h=>?_
 refine wV h fun x wl st dd de us ys d ms pl D R L N h=>?_
 refine J4 h fun e_ hG hdd hin q=>?_
 subst e_;refine ⟨rfl,fun _ _ _ _ hr=>?_⟩;refine tk fun x0=>?_
 let u0:=ru x0 [1,0,0] (jM (yU (vV (ZM xv hr (pv 0) (jB (jH (jL K) (pv 2) jC) (jB (jH (jL K) (pv 3) jC) jD)))) jV jV))
 let u1:=ru x0 [2] (jM (yU (j5 ZG (jH (jL K) (pv 2) jC) (qF K T.xk (jY K (pv 0) rfl))) jV jV))
 let u2:=ru x0 [1] (jG (kB (j5 kL (jH (jL K) (pv 3) jC) jV) u0.h kD)
   u1.h)
 refine ⟨_,(jG (kB (j5 kL (jH (jL K) (pv 3) jC) jV) (jM (jQ xaE hr rfl (yB (pv 0) (pv 1) (pv 2) (jH (jL K) (pv 3) jC)))) kD)
   u2.h),?_⟩
 try dsimp only [jU,jT]
 obtain ⟨hc,hdr,hwl,hA,hst,hfl,hml⟩:=id hG;obtain ⟨wt,pt,hst1,hwt,hpt⟩:=id hst;have hc0:=hc;obtain ⟨dx,rl,ll,nl,fs,rs,ls,nv,hx,hf,hrl,hll,hnl,hR,hL,hN,d1,d2,d3⟩:=hc;cases de with
 |pass b =>
  refine (jA rfl (jI (SqT.of hdd) rfl (⟨rfl,jA rfl (kJ rfl ?_)⟩)));exact (jA rfl (jA rfl (jA rfl (jA rfl (jI (SqT.of hdd) rfl ((xB x wl st b us ys d ms pl D R L N (qI rfl hG hin q))))))))
 |«let» k =>
  have hk:k<L.length:=hin;refine (jA rfl (jI (SqT.of hdd) rfl (⟨rfl,jA rfl (j4 (qR (by decide +kernel)) ?_)⟩)));refine (jA rfl (jI (SqT.of hdd) rfl (⟨rfl,jA rfl (kJ rfl ?_)⟩)));refine (jA rfl (⟨x,dx,jA rfl (⟨hx,hf.no3 (by decide +kernel),jA rfl (jI (SqT.of hst1) rfl ((jA rfl (jI (SqT.of hdd) rfl ((JT x wt D R L N ms k (vG rfl hc0 hwt (by lia) (jA rfl (?_)))))))))⟩)⟩));have:=q H (Same.refl _)
  change Q (.str (if bG R.length ms k=true then "" else "empty")) H at this
  unfold bG at this
  by_cases h:0<ms.getD (R.length+k) 0
  ·rw [if_pos (aV h)] at this;exact kJ h this
  ·rw [if_neg (by rw [fi];exact h)] at this;exact j4 h this
 |night =>
  refine (jA rfl (jI (SqT.of hdd) rfl (⟨rfl,jA rfl (j4 (qR (by decide +kernel)) ?_)⟩)));refine (jA rfl (jI (SqT.of hdd) rfl (⟨rfl,jA rfl (j4 (qR (by decide +kernel)) ?_)⟩)));refine (jA rfl (jI (SqT.of hst1) rfl ((jA rfl (j0 hx (T.clN) (T.xq) (hf.2.2.1) (⟨nl,jA rfl (⟨.inl (so hnl),_,_,rfl,rfl,jA rfl (?_)⟩)⟩))))));rw [hN.1];have:=q H (Same.refl _)
  change Q (.str (if d<(N.length:Int) then "" else "over")) H at this
  by_cases h:d<(N.length:Int)
  ·rw [if_pos h] at this;exact kJ h this
  ·rw [if_neg h] at this;exact j4 h this
theorem lA:jS 4 ["canal","ways","state","deed","word","passes","moved"] rL:=jR
include T in
theorem LE (F:j7 K "pours" rL f fd) (ul:Def P w K mg base 8 "why_not" ["canal","ways","state","deed"] [] (uZ (jE cP cB cU) cR cN)) (vh:Def P w K mg base 6 "pass_pours" ["canal","ways","state","boat"] [] (uQ (jE cP cB cU) cR cN)) (xa5:Def P w K mg base 4 "let_pours" ["canal","state","k"] [] (EB (jE cP cB cU) cR cN)) (zd:Def P w K mg base 4 "with_spills" ["weirs","waters","pours"] [] (l9 K)) (xp:MeD P w K mg base 2 cN "weirs" ["self"] (fT (jE cP cB cU) cR cN)):FnOk P w K mg base (kA P w) 9 f fd ["canal","ways","state","deed"] (C5 (jE cP cB cU) cR cN eW):=by
 refine F.okX2 lA fun vs H Q E h=>?_
 refine wV h fun x wl st dd de us ys d ms pl D R L N h=>?_
 refine ZS h fun e_ hG hdd hin hd0 hnn qv qe=>?_
 subst e_;refine ⟨rfl,fun _ _ _ _ hr=>?_⟩;refine tk fun x0=>?_
 let u0:=ru x0 [4] (jG (jN 6 lA.nd (yU (vV (pv 5)) (jQ vh hr rfl (yB (pv 0) (pv 1) (pv 2) (jH (jL K) (pv 3) jC))) (jQ xa5 hr rfl (j9 (pv 0) (pv 2) (jH (jL K) (pv 3) jC)))))
   (jM (jQ zd hr rfl (j9 (kN xp hr (pv 0)) (jH (jL K) (pv 2) jC) (pv 6)))))
 let u1:=ru x0 [3] (jG (jN 5 lA.nd (zV kL (jH (jL K) (pv 3) jC) jV))
   u0.h)
 let u2:=ru x0 [2] (jG (kB (j5 kL (jH (jL K) (pv 3) jC) jV) E8 kD)
   u1.h)
 let u3:=ru x0 [1] (jG (kB (j5 ZF (pv 4) jV) (kF (QJ QI rfl rfl T.ua T.jz (jB (pv 4) jD))) kD)
   u2.h)
 refine ⟨_,(jG (jN 4 lA.nd (jQ ul hr rfl (yB (pv 0) (pv 1) (pv 2) (pv 3))))
   u3.h),?_⟩
 try dsimp only [jU,jT]
 obtain ⟨hc,hdr,hwl,hA,hst,hfl,hml⟩:=id hG;obtain ⟨wt,pt,hst1,hwt,hpt⟩:=id hst;have hc0:=hc;obtain ⟨dx,rl,ll,nl,fs,rs,ls,nv,hx,hf,hrl,hll,hnl,hR,hL,hN,d1,d2,d3⟩:=hc;have b1:=hdr.r8;have b2:=hdr.l8;have hTg:=tH hdr;refine (jA rfl (jA rfl (jA rfl (jA rfl ((gQ x wl st dd de us ys d ms pl D R L N (vG rfl hG hdd hin (fun H1 s1=>?_))))))));refine ⟨_,rfl,rfl,jA rfl (?_)⟩
 by_cases hw:QT R L N.length ys d ms pl de=""
 rotate_left
 ·exact ZI (fun e=>hw (V.str.inj e)) (jA rfl (⟨by show 1<=sizeLine;decide,qe hw _ s1⟩))
 refine ZJ (bz V.str hw) ?_;have qv:=qv hw;have hdd1:=s1 _ _ hdd;have hst11:=s1 _ _ hst1;cases de with
 |night =>
  exact absurd rfl hnn
 |pass b =>
  have hb:b<ys.length:=hin;obtain ⟨y,hy⟩:∃y,ys[b]?=some y:=⟨_,aa hb⟩;obtain ⟨p,hp⟩:∃p,pl[b]?=some p:=⟨_,aa (by rw [hfl.len];exact hb)⟩;have hple:=hfl.le b y p hy hp;have ey:ys.getD b (0,[])=y:=by rw [ad,hy];rfl
  have ep:pl.getD b 0=p:=by rw [ad,hp];rfl
  have hne:=uB hw;rw [ey,ep] at hne;obtain ⟨s₁,hs⟩:∃s,y.2[p]?=some s:=⟨_,aa (by lia)⟩;have es:y.2.getD p (0,true)=s₁:=by rw [ad,hs];rfl
  refine (jA rfl (jI (SqT.of hdd1) rfl (⟨rfl,jA rfl (j4 (qR (by decide +kernel)) ?_)⟩)));refine (jA rfl (jI (SqT.of hdd1) rfl (⟨rfl,?_⟩)));rw [aV rfl];refine (jA rfl (jA rfl (kW ?_)));refine (jA rfl (jA rfl (jA rfl (jA rfl (jI (SqT.of hdd1) rfl ((xA x wl st b us ys y p s₁ d ms pl D R L N (qU rfl (hG.same s1) hy hp hs (fun m H2 zs s2 hm0 hm hP=>?_)))))))));have s12:=s1.trans s2;refine (jA rfl (⟨x,dx,jA rfl (⟨(s12 _ _ hx),hf.no3 (by decide +kernel),vO x D R L N (qI rfl (hc0.same s12) (by lia) (fun wq ws H3 s3 hwq0 hwq hW=>?_))⟩)⟩));have s13:=s12.trans s3;have hl:=hP.1;refine (jA rfl (jI (SqT.of (s13 _ _ hst1)) rfl ((jA rfl (⟨wq,wt,m,ws,zs,vD R L.length,ms,jA rfl (⟨lC hTg hW hwq (.inr (SqT.of (s13 _ _ hwt))) hml (by lia) (by lia),s3 _ _ hm,hP.same s3,?_,fun r H4 gs zs4 s4 hr0 hr hP4 hS=>?_⟩)⟩)))))
  ·rw [hl];exact aK (B6 _ _ _ _) (by decide)
  have e:nB R L N ys d ms pl (.pass b)=QR R.length L ms s₁:=by show QR R.length L ms _=_;rw [ey,ep,es]
  refine qv r H4 gs zs4 (s13.trans s4) (s13.free hr0) hr ?_ ?_
  ·unfold uX;rw [e];exact hP4
  ·rw [e];exact hS
 |«let» k =>
  have hk:k<L.length:=hin;refine (jA rfl (jI (SqT.of hdd1) rfl (⟨rfl,jA rfl (j4 (qR (by decide +kernel)) ?_)⟩)));refine (jA rfl (jI (SqT.of hdd1) rfl (⟨rfl,?_⟩)));rw [aH (fun e=>absurd (V.str.inj e) (show ¬("let":Str)="pass" by decide +kernel))];refine (jA rfl (jA rfl (qV ?_)));refine (jA rfl (jA rfl (jA rfl (jI (SqT.of hdd1) rfl ((xB x wl st k us ys d ms pl D R L N (qI rfl (hG.same s1) hk (fun m H2 zs s2 hm0 hm hP=>?_))))))));have s12:=s1.trans s2;refine (jA rfl (⟨x,dx,jA rfl (⟨(s12 _ _ hx),hf.no3 (by decide +kernel),vO x D R L N (qI rfl (hc0.same s12) (by lia) (fun wq ws H3 s3 hwq0 hwq hW=>?_))⟩)⟩));have s13:=s12.trans s3;have hl:=hP.1;refine (jA rfl (jI (SqT.of (s13 _ _ hst1)) rfl ((jA rfl (⟨wq,wt,m,ws,zs,vD R L.length,ms,jA rfl (⟨lC hTg hW hwq (.inr (SqT.of (s13 _ _ hwt))) hml (by lia) (by lia),s3 _ _ hm,hP.same s3,?_,fun r H4 gs zs4 s4 hr0 hr hP4 hS=>?_⟩)⟩)))))
  ·rw [hl];exact aK (DK _ _ _ _) (by decide)
  exact qv r H4 gs zs4 (s13.trans s4) (s13.free hr0) hr hP4 hS
theorem sO:jS 2 ["name","things","place","thing"] rJ:=jR
include T in
theorem LA (F:j7 K "place_called" rJ f fd) : FnOk P w K mg base (kA P w) 1 f fd ["name","things"] (uP K eU):=by
 refine F.okX2 sO fun vs H Q E h=>?_
 refine cM h fun nm l us zs h=>?_
 refine zK h fun e_ hl hA h100 qv qe=>?_
 subst e_;refine ⟨rfl,fun _ _ _ _ hr=>?_⟩;refine ⟨_,(jG (yX bA rfl (UI (by rfl) T.xt (jB (pv 1) jD)) (gI rfl (qB (kI (i:=2) sO.nd rfl (.inl rfl)) (qB (kI (i:=3) sO.nd rfl (.inl rfl)) yQ)))
    (kF (kB (j5 kL (jY K (pv 3) rfl) (pv 0)) (jM (pv 2)) kD)))
   (kF (QJ QI rfl rfl T.vc T.wb (jB jV jD)))),?_⟩
 try dsimp only [jU,jT]
 refine (jA rfl (⟨l,rfl,⟨_,so hl⟩,TC (K:=K) (a:=l) (xs:=us) (fun i σ Hi=>∃c2 c3:Option V,σ=[some (.str nm),some (.ref l),c2,c3]/\(∀j:Nat,j<i->zs[j]?≠some nm)/\Same H Hi) ⟨none,none,rfl,fun j hj=>absurd hj (iz j),Same.refl _⟩ (fun i σ Hi _ ⟨_,_,_,_,s⟩=>so (s _ _ hl)) ?_ ?_⟩))
 ·rintro i v σ Hi T₁ hv ⟨c2,c3,rfl,hno,sm⟩ hT;obtain ⟨z,hz,x,C,dx,fs,rfl,hx,cC,nC,lk⟩:=hA.2 i v hv;have u:=jK hT (.tup [V.int (i:Int),V.ref x]);have smu:=sm.trans u;refine ⟨T₁,jA rfl (⟨SqT.of jF,rfl,_,jA rfl (⟨_,_,rfl,rfl,?_⟩)⟩)⟩;refine (jA rfl (⟨x,C,dx,_,jA rfl (⟨smu _ _ hx,cC,nC,lk,_,rfl,rfl,jA rfl (?_)⟩)⟩))
  by_cases h:z=nm
  ·exact kJ (bz V.str h) (jA rfl (qv i ⟨by rw [<- h];exact hz,hno⟩ _ smu))
  ·refine j4 (fun e=>h (V.str.inj e)) ⟨_,jA rfl (⟨fun j hj=>?_,smu⟩)⟩
   by_cases c:j=i
   ·rw [c,hz];exact fun e=>h (az e)
   ·exact hno j (by lia)
 rintro σ Hi ⟨c2,c3,rfl,hno,sm⟩;refine ⟨by show 1<=sizeLine;decide,qe (fun i hi=>?_) _ sm⟩;have hl':i<zs.length:=(af.mp hi).1;exact hno i (by rw [hA.1];exact hl') hi
theorem ML:jS 2 ["self","name"] o4:=jR
include T in
theorem HZ (F:Fun K "reach_at" "Canal.reach_at" o4 f fd) (zn:DefX P w K mg base 1 "place_called" ["name","things"] [] (uP K eU)):FnOk P w K mg base (kA P w) 2 f fd ["self","name"] (JZ (jE cP cB cU) cR cN eU 0):=by
 refine F.okX2 ML fun vs H Q E h=>?_
 refine QV h fun x D R L N nm h=>?_
 refine zK h fun e_ p0_ b1 b2 qv qe=>?_
 subst e_;obtain ⟨dx,rl,ll,nl,fs,rs,ls,ns,hx,hf,hrl,hll,hnl,hR,hL,hN,d1,d2,d3⟩:=p0_;refine ⟨rfl,fun _ _ _ _ hr=>?_⟩;refine ⟨_,(jM (k7 zn kP hr rfl (jB (pv 1) (jB (jY K (pv 0) rfl) jD)))),?_⟩
 try dsimp only [jU,jT]
 exact (jA rfl (jA rfl (j0 hx (T.clN) (T.xf) (hf.1) (⟨nm,rl,rs,mK 0 R L,rfl,hrl,OC T.clR T.zp hR,by rw [hR.1];lia,qv,qe⟩))))
theorem MJ:jS 2 ["self","name"] oZ:=jR
include T in
theorem HX (F:Fun K "lock_at" "Canal.lock_at" oZ f fd) (zn:DefX P w K mg base 1 "place_called" ["name","things"] [] (uP K eU)):FnOk P w K mg base (kA P w) 2 f fd ["self","name"] (JZ (jE cP cB cU) cR cN eU 1):=by
 refine F.okX2 MJ fun vs H Q E h=>?_
 refine QV h fun x D R L N nm h=>?_
 refine zK h fun e_ p0_ b1 b2 qv qe=>?_
 subst e_;obtain ⟨dx,rl,ll,nl,fs,rs,ls,ns,hx,hf,hrl,hll,hnl,hR,hL,hN,d1,d2,d3⟩:=p0_;refine ⟨rfl,fun _ _ _ _ hr=>?_⟩;refine ⟨_,(jM (k7 zn kP hr rfl (jB (pv 1) (jB (jY K (pv 0) rfl) jD)))),?_⟩
 try dsimp only [jU,jT]
 exact (jA rfl (jA rfl (j0 hx (T.clN) (T.xg) (hf.2.1) (⟨nm,ll,ls,mK 1 R L,rfl,hll,OZ T.cl T.vo hL,by rw [hL.1];lia,qv,qe⟩))))
theorem AH:jS 2 ["canal","entry","start"] iX:=jR
include T in
theorem LV (F:j7 K "way_told" iX f fd) (xu:MeX P w K mg base 2 cN "reach_at" ["self","name"] (JZ (jE cP cB cU) cR cN eU 0)) (xm:MeX P w K mg base 2 cN "lock_at" ["self","name"] (JZ (jE cP cB cU) cR cN eU 1)):FnOk P w K mg base (kA P w) 3 f fd ["canal","entry"] (tU (jE cP cB cU) cR cN eU):=by
 refine F.okX2 AH fun vs H Q E h=>?_
 refine zB h fun x t e D R L N h=>?_
 refine ZS h fun e_ hc b1 b2 p3_ h100 qv qe=>?_
 subst e_;obtain ⟨st,us,h1,h2,h3⟩:=p3_;refine ⟨rfl,fun _ _ _ _ hr=>?_⟩;refine tk fun x0=>?_
 let u0:=ru x0 [1] (jM (kR (jB (pv 2) (jB (vT (dI K) (by rfl) T.zf cy (jB (SS ["name","side","canal"] (qW 2 [0]) (qX (j8 iX)) (cps 2 [0]) (wD (jH (jL K) (pv 1) jC)) (fun _ _ _ _ _=>(zX (n:=2) K rfl (qB (kI (i:=0) (show List.Nodup (["name","side","canal"]:List Str) from by decide +kernel) rfl (.inl rfl)) (qB (kI (i:=1) (show List.Nodup (["name","side","canal"]:List Str) from by decide +kernel) rfl (.inl rfl)) yQ)))) (fun _ _ _ _ _=>yT) (fun _ _ _ _ _=>(kR (jB (JC xm PF hr (pv 2) (jB (pv 0) jD)) (jB (pv 1) jD))))) jD)) jD))))
 refine ⟨_,(jG (jN 2 AH.nd (JC xu kP hr (pv 0) (jB (jH (jL K) (pv 1) jC) jD)))
   u0.h),?_⟩
 try dsimp only [jU,jT]
 have hc0:=hc;obtain ⟨dx,rl,ll,nl,fs,rs,ls,nv,hx,hf,hrl,hll,hnl,hR,hL,hN,d1,d2,d3⟩:=hc;refine (jA rfl (⟨x,dx,jA rfl (⟨hx,hf.no3 (by decide +kernel),jA rfl (jI (SqT.of h1) rfl ((JI x D R L N e.start (qU rfl hc0 b1 b2 (fun a ha H1 s1=>?_) (fun hno H1 s1=>qe ?_ H1 s1)))))⟩)⟩))
 case refine_2 =>
  unfold y6;rw [Q6 (show QK (R.map (·.name)) e.start from hno)]
 have ha:kH (R.map (·.name)) e.start=some a:=Q5 ha;have hus:=h3.1;refine (jA rfl (jA rfl (jI (SqT.of (s1 _ _ h1)) rfl (⟨st,rfl,⟨_,SqT.of (s1 _ _ h2)⟩,fun bt hbt=>?_⟩))));refine BT (K:=K) (a:=st) (xs:=us) (fun i σ Hi=>∃c1 c2 zs ps,σ=[c1,c2,some (.ref x)]/\vZ (L.map (·.name)) (e.steps.take i)=some ps/\Hi bt=some (.lst zs)/\AllAt (PAt Hi) zs ps/\Same H Hi) ⟨none,none,[],[],rfl,rfl,jF,AllAt.nil,s1.trans (jK hbt _)⟩ (fun i σ Hi _ ⟨_,_,_,_,_,_,_,_,s⟩=>SqT.of (s _ _ h2)) ?_ ?_
 ·rintro i v σ Hi hv ⟨c1,c2,zs,ps,rfl,hps,hY,hA,sm⟩;obtain ⟨p,hp,tp,rfl,htp⟩:=h3.2 i v hv;have hi:i<e.steps.length:=(af.mp hp).1;have ht:e.steps.take (i+1)=e.steps.take i++[p]:=by rw [aG,hp];rfl
  have hpl:=(tT hps).1;rw [bg] at hpl;refine ⟨tp,jA rfl (⟨SqT.of (sm _ _ htp),rfl,_,jA rfl (⟨_,_,rfl,rfl,?_⟩)⟩)⟩;refine vR (kW (jA rfl (⟨x,dx,jA rfl (⟨(sm _ _ hx),hf.no3 (by decide +kernel),jA rfl ((JI x D R L N p.1 (qU rfl (hc0.same sm) b1 b2 (fun k hk H2 s2=>?_) (fun hno H2 s2=>qe ?_ H2 (sm.trans s2)))))⟩)⟩)))
  case refine_2 =>
   unfold y6;rw [ha];show (vZ (L.map (·.name)) e.steps).map _=none;rw [AZ (Q6 (show QK (L.map (·.name)) p.1 from hno)) (av hp)];rfl
  have hk:kH (L.map (·.name)) p.1=some k:=Q5 hk;refine (jA rfl (⟨zz2,fun t2 ht2=>?_⟩));have u:=jK ht2 (.tup [V.int (k:Int),V.str (yI p.2)]);have hY2:=u _ _ (s2 _ _ hY);refine ⟨zs,hY2,qJ (by rw [hA.1];lia),_,_,zs++[.ref t2],ps++[(k,p.2)],rfl,by rw [ht];exact AQ hk hps,jF,?_,kY (s1.free hbt) ((sm.trans s2).trans u)⟩;exact ((hA.mono (PAt.same (s2.trans u))).snoc (v:=.ref t2) (x:=(k,p.2)) ⟨t2,rfl,jF⟩).mono (PAt.put hY2)
 rintro σ Hf ⟨c1,c2,zs,ps,rfl,hps,hY,hA,sm⟩;rw [hus,aW] at hps;refine ⟨bt,zs,rfl,.inl ⟨so hY,fun w1 hw1=>?_⟩⟩;have v1:=jK hw1 (.tup zs);refine ⟨zz2,fun w2 hw2=>?_⟩;have v2:=jK hw2 (.tup [V.int (a:Int),V.ref w1]);refine qv ((a:Int),ps) ?_ w2 _ ((sm.trans v1).trans v2) ((sm.trans v1).free hw2) (vA w2 w1 zs (qI rfl jF (v2 _ _ jF) (hA.mono (PAt.same (v1.trans v2)))));unfold y6;rw [ha];show (vZ (L.map (·.name)) e.steps).map _=_;rw [hps];rfl
theorem MA:jS 1 ["self"] oO:=jR
include T in
theorem HL (F:Fun K "canal" "Book.canal" oO f fd) : FnOk P w K mg base jX 1 f fd ["self"] (JY (jE cP cB cU) cR cN cO):=by
 refine F.ok2 MA fun vs H Q E h=>?_
 refine zB h fun b x A R L N B h=>?_
 refine vF h fun e_ hq q=>?_
 subst e_;refine ⟨rfl,fun _ _ _ _ hr=>?_⟩;refine ⟨_,(jM (jY K (pv 0) rfl)),?_⟩
 try dsimp only [jU,jT]
 obtain ⟨db,nl,wl,pl,ql,el,fs,hA,hb,hfl,hf,hnl,hpl,hql,hel,hnd,hwl⟩:=hq.ob;exact (jA rfl (j0 hb (T.clO) (T.nO_kept_canal) (hf.1) (q)))
theorem MD:jS 1 ["self"] oS:=jR
include T in
theorem HQ (F:Fun K "state" "Book.state" oS f fd) : FnOk P w K mg base jX 1 f fd ["self"] (vJ (jE cP cB cU) cR cN cO JW):=by
 refine F.ok2 MD fun vs H Q E h=>?_
 refine zB h fun b x A R L N B h=>?_
 refine vF h fun e_ hq q=>?_
 subst e_;refine ⟨rfl,fun _ _ _ _ hr=>?_⟩;refine ⟨_,(jM (jY K (pv 0) rfl)),?_⟩
 try dsimp only [jU,jT]
 obtain ⟨db,nl,wl,pl,ql,el,fs,hA,hb,hfl,hf,hnl,hpl,hql,hel,hnd,hwl⟩:=hq.ob;exact (jA rfl (j0 hb (T.clO) (T.nO_kept_state) (hf.2.2.2.1) (q)))
theorem MC:jS 1 ["self"] oR:=jR
include T in
theorem HP (F:Fun K "names" "Book.names" oR f fd) : FnOk P w K mg base jX 1 f fd ["self"] (vJ (jE cP cB cU) cR cN cO (JE fun B=>B.zs.map V.str)):=by
 refine F.ok2 MC fun vs H Q E h=>?_
 refine zB h fun b x A R L N B h=>?_
 refine vF h fun e_ hq q=>?_
 subst e_;refine ⟨rfl,fun _ _ _ _ hr=>?_⟩;refine ⟨_,(jM (vT (QH K) (by rfl) T.xy aX (jB (jY K (pv 0) rfl) jD))),?_⟩
 try dsimp only [jU,jT]
 obtain ⟨db,nl,wl,pl,ql,el,fs,hA,hb,hfl,hf,hnl,hpl,hql,hel,hnd,hwl⟩:=hq.ob;exact (jA rfl (j0 hb (T.clO) (T.nO_kept_names) (hf.2.1) (⟨nl,jA rfl (⟨.inl (so hnl),fun l hl=>q l _ (jK hl _) hl jF⟩)⟩)))
theorem ME:jS 1 ["self"] oV:=jR
include T in
theorem HR (F:Fun K "ways" "Book.ways" oV f fd) : FnOk P w K mg base jX 1 f fd ["self"] (vJ (jE cP cB cU) cR cN cO (JE BkS.us)):=by
 refine F.ok2 ME fun vs H Q E h=>?_
 refine zB h fun b x A R L N B h=>?_
 refine vF h fun e_ hq q=>?_
 subst e_;refine ⟨rfl,fun _ _ _ _ hr=>?_⟩;refine ⟨_,(jM (vT (QH K) (by rfl) T.xy aX (jB (jY K (pv 0) rfl) jD))),?_⟩
 try dsimp only [jU,jT]
 obtain ⟨db,nl,wl,pl,ql,el,fs,hA,hb,hfl,hf,hnl,hpl,hql,hel,hnd,hwl⟩:=hq.ob;exact (jA rfl (j0 hb (T.clO) (T.nO_kept_ways) (hf.2.2.1) (⟨wl,jA rfl (⟨.inl (so (ZA _ _ _ _ hwl)),fun l hl=>q l _ (jK hl _) hl jF⟩)⟩)))
theorem L9:jS 2 ["self","canal"] oM:=jR
include T in
theorem HJ (F:Fun K "__init__" "Book.__init__" oM f fd) (xbH:Def P w K mg base 6 "begun" ["canal","ways"] [] (ED (jE cP cB cU) cR cN)):FnOk P w K mg base jX 7 f fd ["self","canal"] (tL (jE cP cB cU) cR cN cO):=by
 refine F.ok2 L9 fun vs H Q E h=>?_
 refine QV h fun b db x R L N h=>?_
 refine J4 h fun e_ hb hcn hdr q=>?_
 subst e_;refine ⟨rfl,fun _ _ _ _ hr=>?_⟩;refine tk fun x0=>?_
 let u0:=ru x0 [4] (jG (vI (pv 0) (kU jD) rfl)
   (jG (vI (pv 0) (kU jD) rfl)
   (kF (vI (pv 0) (kU jD) rfl))))
 let u1:=ru x0 [3] (jG (vI (pv 0) (jQ xbH hr rfl (jB (pv 1) (jB (kU jD) jD))) rfl)
   u0.h)
 let u2:=ru x0 [2] (jG (vI (pv 0) (kU jD) rfl)
   u1.h)
 let u3:=ru x0 [1] (jG (vI (pv 0) (kU jD) rfl)
   u2.h)
 refine ⟨_,(jG (vI (pv 0) (pv 1) rfl)
   u3.h),?_⟩
 try dsimp only [jU,jT]
 have hT:=tH hdr;have r1:R.length<=100:=by have:=hdr.r8;lia
 have l1₀:L.length<=100:=by have:=hdr.l8;lia
 have J:IniJ H H b db cO [] 0 []:=⟨hb,aj _,(fun c hc=>by cases hc),du,Same.refl _⟩;refine (jA rfl (jA rfl (⟨b,cO,db,jA rfl (⟨hb,T.clO,T.nO_kept_canal,(by show 0<1000;decide),?_⟩)⟩)));obtain ⟨G0,e0,J,k0⟩:=J.set "kept_canal" (.ref x);rw [e0];refine ⟨aL _,fun nl hnl0=>(jA rfl (⟨b,cO,db,jA rfl (⟨(jK hnl0 _) _ _ J.jb,T.clO,T.nO_kept_names,cx J.jn (by decide),?_⟩)⟩))⟩;obtain ⟨G1,e1,J,k1⟩:=J.step hnl0 "kept_names";rw [e1];refine ⟨aL _,fun wl hwl0=>(jA rfl (⟨b,cO,db,jA rfl (⟨(jK hwl0 _) _ _ J.jb,T.clO,T.nO_kept_ways,cx J.jn (by decide),?_⟩)⟩))⟩;obtain ⟨G2,e2,J,k2⟩:=J.step hwl0 "kept_ways";rw [e2];refine (jA rfl (⟨aL _,fun ex hex=>?_⟩));have u1:=jK hex (.lst []);have hc3:CnAt (jE cP cB cU) cR cN [] (upd G2 ex (.lst [])) x R L N:=(hcn.same J.jd).same ((ZA _ _).trans u1);refine (kS x ex ([]) ([]) R L N (QE rfl hc3 jF (aL _) r1 l1₀ hT (fun st wt zt Hs gs s4 g1 g2 hsp g3=>?_)));have hst:StAt Hs st 0 (cK (zY R L.length) (vD R L.length) gs) (List.replicate 0 0):=⟨wt,zt,g1,g2,g3⟩
 replace J:=J.same (u1.trans s4)
 refine (jA rfl (⟨b,cO,db,jA rfl (⟨J.jb,T.clO,T.nO_kept_state,cx J.jn (by decide),?_⟩)⟩));have hb3:=J.jb;obtain ⟨G3,e3,J,k3⟩:=J.set "kept_state" (.ref st);rw [e3]
 replace hst:=hst.tup fun t l ht=>k3 _ _ (vL ht hb3 (fun z=>nomatch z)) ht
 refine ⟨aL _,fun pl hpl0=>(jA rfl (⟨b,cO,db,jA rfl (⟨(jK hpl0 _) _ _ J.jb,T.clO,T.nO_kept_pours,cx J.jn (by decide),?_⟩)⟩))⟩;obtain ⟨G4,e4,J,k4⟩:=J.step hpl0 "kept_pours";rw [e4]
 replace hst:=hst.tup k4
 refine ⟨aL _,fun ql hql0=>(jA rfl (⟨b,cO,db,jA rfl (⟨(jK hql0 _) _ _ J.jb,T.clO,T.nO_kept_words,cx J.jn (by decide),?_⟩)⟩))⟩;obtain ⟨G5,e5,J,k5⟩:=J.step hql0 "kept_words";rw [e5]
 replace hst:=hst.tup k5
 refine ⟨aL _,fun el hel0=>(jA rfl (⟨b,cO,db,jA rfl (⟨(jK hel0 _) _ _ J.jb,T.clO,T.nO_kept_entries,cx J.jn (by decide),?_⟩)⟩))⟩;obtain ⟨G6,e6,J,k6⟩:=J.step hel0 "kept_entries";rw [e6]
 replace hst:=hst.tup k6
 have nd:=J.jnd;simp only [cu,ao,ay,bo,not_or,not_false_eq_true,du,and_true] at nd;obtain ⟨⟨a1,a2,a3,a4⟩,⟨b1,b2,b3⟩,⟨c1,c2⟩,c3⟩:=nd;have nd:[nl,pl,ql,el].Nodup:=by
  simp only [cu,ao,ay,bo,not_or,not_false_eq_true,du,and_true];exact ⟨⟨Ne.symm c2,Ne.symm b3,Ne.symm a4⟩,⟨Ne.symm b1,Ne.symm a2⟩,Ne.symm a1⟩
 have d8:Same (kX H [b]) (kX G6 [b,nl,pl,ql,el]):=J.jd.trans (TQ fun a h=>by simp only [ao,ay,bo] at h ⊢;rcases h with h|h|h|h|h<;>simp [h]);have lst:=fun c hc=>J.jl c hc
 have nT:∀a∈[b,nl,pl,ql,el],∀l,G6 a≠some (.tup l):=fun a h l e=>by
  rcases ao.mp h with rfl|h
  ·rw [J.jb] at e;cases e
  ·rw [lst a (by simp only [ao,ay,bo] at h ⊢;rcases h with h|h|h|h<;>simp [h])] at e;cases e
 have hwl':kX G6 [b,nl,pl,ql,el] wl=some (.lst []):=by
  rw [yO]
  ·exact lst wl (by simp)
  ·simp only [ao,ay,bo,not_or];exact ⟨vL (lst wl (by simp)) J.jb (fun z=>nomatch z),c3,Ne.symm c1,Ne.symm b2,Ne.symm a3⟩
 refine q [b,nl,pl,ql,el] ⟨[],[],0,cK (zY R L.length) (vD R L.length) gs,[],[],st,[],[],[]⟩ G6 ⟨⟨db,nl,wl,pl,ql,el,jA rfl (⟨J.jb,J.jn,VI _ _ _ _ _ _ _,lst nl (by simp),lst pl (by simp),lst ql (by simp),lst el (by simp),nd,hwl'⟩)⟩,hcn.same d8,AllAt.nil,StAt.del nT hst,?_⟩ rfl rfl d8;exact ⟨hdr,⟨rfl,aL _,(fun y hy=>by cases hy),fun i y p hy=>by cases hy⟩,by show (cK _ _ _).length=_;unfold cK;rw [QG,fQ],Int.le_refl _,rfl,aL _,aL _,aL _,aL _⟩
theorem NR:jS 2 ["word","signs"] iZ:=jR
include T in
theorem L6 (F:j7 K "written_with" iZ f fd) : FnOk P w K mg base jX 1 f fd ["word","signs"] (E2):=by
 refine F.ok2 NR fun vs H Q E h=>?_
 obtain ⟨w,S,rfl,hw,q⟩:=h;refine ⟨rfl,fun _ _ _ _ hr=>?_⟩;refine ⟨_,(jM (wF (ST mV mV jC (zW N5 (by rfl) T.xk PySem.boot_len (jB (pv 0) jD)) (JN (v:=.int 12) rfl T.ud ⟨_,rfl⟩)) (wE (zW (CL rfl) (by rfl) T.jt PyProof.Rows.boot_all (jB (eY ["sign","signs"] [1] (qX (j8 iZ)) (V1 (pv 0)) (fun _ _ _ _ _=>(zV RE (pv 0) (pv 1)))) jD))))),?_⟩
 try dsimp only [jU,jT]
 have hws:w.length<=sizeLine:=small (by lia);refine (jA rfl (⟨w,rfl,hws,_,_,rfl,rfl,jA rfl (?_)⟩));have bad:∀H':Hp,Same H H'->zH S w=false->Q (.bl false) H':=fun H' s e=>by
  have:=q H' s;rw [e] at this;exact this
 by_cases h1:(1:Int)<=((w.length:Nat):Int)
 ·refine kJ h1 ⟨_,_,rfl,rfl,jA rfl (?_)⟩
  by_cases h2:((w.length:Nat):Int)<=12
  ·refine kJ h2 (jA rfl (⟨w,rfl,fun D hD=>?_⟩));refine R8 (z:=w) (caps:=[some (.str S)]) (fun i ys Hi=>∃bs:List Bool,ys=bs.map V.bl/\bs.length=i/\bs.all id=cT S w i) hD ⟨[],rfl,rfl,rfl⟩ ?_ ?_
   ·rintro i c ys Hi hc hle sm hY ⟨bs,rfl,hbl,hba⟩;have hi:i<w.length:=(eh.mp hc).1;refine vR (kW (jA rfl (jA rfl (⟨(⟨#[c]⟩:Str),S,rfl,rfl,?_⟩))));refine yS hD sm hY hle (by lia) (Same.refl _) ⟨bs++[mY S c],by rw [aw];rfl,by rw [ag,hbl];rfl,?_⟩;rw [SD hc,all_append,hba];simp
   ·rintro ys Hf sm hY hle ⟨bs,rfl,hbl,hba⟩;refine ⟨D,bs,rfl,so hY,?_⟩;have e:bs.all id=zH S w:=by
     unfold zH;rw [hba,aV (show 0<w.length by lia),aV (show w.length<13 by lia)];rfl
    rw [e];exact q Hf sm
  ·refine j4 h2 (bad H (Same.refl _) ?_);unfold zH;rw [aH (show ¬w.length<13 by lia),Bool.and_false];rfl
 ·refine j4 h1 (jA rfl (qV (bad H (Same.refl _) ?_)));unfold zH;rw [aH (show ¬0<w.length by lia)];rfl
theorem M4:jS 1 ["word"] pW:=jR
include T in
theorem KP (F:j7 K "is_name" pW f fd) (xab:Def P w K mg base 1 "written_with" ["word","signs"] [] (E2)):FnOk P w K mg base jX 2 f fd ["word"] (C9):=by
 refine F.ok2 M4 fun vs H Q E h=>?_
 obtain ⟨w,rfl,hw,q⟩:=h;refine ⟨rfl,fun _ _ _ _ hr=>?_⟩;refine ⟨_,(jM (jQ xab hr rfl (jB (pv 0) (jB (JN (v:=.str lettersS) rfl T.xaL ⟨_,rfl⟩) jD)))),?_⟩
 try dsimp only [jU,jT]
 exact (jA rfl (⟨w,lettersS,rfl,hw,q⟩))
theorem MX:jS 2 ["name","names"] pP:=jR
include T in
theorem KC (F:j7 K "boat_called" pP f fd) : FnOk P w K mg base (kA P w) 1 f fd ["name","names"] (E7 eU):=by
 refine F.okX2 MX fun vs H Q E h=>?_
 refine cQ h fun nm l zs h=>?_
 refine J4 h fun e_ hl h100 qv qe=>?_
 subst e_;refine ⟨rfl,fun _ _ _ _ hr=>?_⟩;refine ⟨_,(jG (kB (j5 N3 (pv 0) (pv 1)) (kF (QJ QI rfl rfl T.vc T.wb (jB jV jD))) kD)
   (jM (yH aF PySem.F.slot_list_index PySem.F.type_list_index S0 (pv 1) (jB (pv 0) jD)))),?_⟩
 try dsimp only [jU,jT]
 refine (jA rfl (jA rfl (⟨l,jA rfl (⟨.inl (so hl),rfl,tS zs,jA rfl (?_)⟩)⟩)));show if (!QY (V.str nm) (zs.map V.str))=true then _ else _
 cases hf:kH zs nm with
 |none =>
  rw [dc.mpr fun h=>absurd (in_iff.mp h) (fun z=>z (lF hf))];exact kW ⟨by show 1<=sizeLine;decide,qe hf⟩
 |some i =>
  rw [mem_inV.mpr (av (dM hf).1)];obtain ⟨f1,f2,f3⟩:=RT (dM hf);exact qV (jA rfl (⟨.inl ⟨rfl,_,so hl⟩,jA rfl (⟨l,_,_,i,rfl,rfl,hl,rfl,tS _,f1,by rw [ac] at f1;lia,f2,f3,qv i hf⟩)⟩))
theorem NB:jS 2 ["book","entry"] rC:=jR
include T in
theorem K2 (F:j7 K "number_named" rC f fd) (xac:DefX P w K mg base 1 "boat_called" ["name","names"] [] (E7 eU)) (xl:MeD P w K mg base 1 cO "names" ["self"] (vJ (jE cP cB cU) cR cN cO (JE fun B=>B.zs.map V.str))) (xm:MeX P w K mg base 2 cN "lock_at" ["self","name"] (JZ (jE cP cB cU) cR cN eU 1)) (xa:MeD P w K mg base 1 cO "canal" ["self"] (JY (jE cP cB cU) cR cN cO)) (xu:MeX P w K mg base 2 cN "reach_at" ["self","name"] (JZ (jE cP cB cU) cR cN eU 0)):FnOk P w K mg base (kA P w) 3 f fd ["book","entry"] (qQ (jE cP cB cU) cR cN cO (cL eU)):=by
 refine F.okX2 NB fun vs H Q E h=>?_
 refine zA h fun b t x A R L N B e h=>?_
 refine zS h fun e_ hq hen hsm hnum qv qe=>?_
 subst e_;refine ⟨rfl,fun _ _ _ _ hr=>?_⟩;refine tk fun x0=>?_
 let u0:=ru x0 [1] (jG (kB (j5 kL (jH (jL K) (pv 1) jC) jV) (jM (JC xm kP hr (kN xa hr (pv 0)) (jB (jH (jL K) (pv 1) jC) jD))) kD)
   (jM (JC xu kP hr (kN xa hr (pv 0)) (jB (jH (jL K) (pv 1) jC) jD))))
 refine ⟨_,(jG (kB (j5 kL (jH (jL K) (pv 1) jC) jV) (jM (k7 xac kP hr rfl (jB (jH (jL K) (pv 1) jC) (jB (kN xl hr (pv 0)) jD)))) kD)
   u0.h),?_⟩
 try dsimp only [jU,jT]
 obtain ⟨db,fs,hb,hno⟩:=hq.ins;have hcn:=hq.cnH;have hcn0:=hcn;have r8:=hq.ok.dr.r8;have l8:=hq.ok.dr.l8;have z9:=hq.ok.z9;cases e with
 |come e=>cases hnum
 |night W=>cases hnum
 |pas n =>
  refine (jA rfl (jI (SqT.of hen) rfl (⟨rfl,jA rfl (kJ rfl (jA rfl (jI (SqT.of hen) rfl ((jA rfl (⟨b,db,jA rfl (⟨hb,hno _ (by decide +kernel),kS b x A R L N B (kK rfl hq (fun l H1 s1 hl0 hl=>?_))⟩)⟩))))))⟩)));exact (vA n l B.zs (vG rfl hl (by lia) (fun i hi=>qv i hi H1 s1) (fun hi=>qe hi H1 s1)))
 |lt n =>
  refine (jA rfl (jI (SqT.of hen) rfl (⟨rfl,jA rfl (j4 (qR (by decide +kernel)) (jA rfl (jI (SqT.of hen) rfl (⟨rfl,jA rfl (kJ rfl ?_)⟩))))⟩)));refine (jA rfl (⟨b,db,jA rfl (⟨hb,hno _ (by decide +kernel),kS b x A R L N B (kK rfl hq (?_))⟩)⟩));obtain ⟨dx,rl,ll,nl,gs,rs,ls,nv,hx,hf,hrl,hll,hnl,hR,hL,hN,d1,d2,d3⟩:=hcn;exact ⟨x,dx,jA rfl (⟨hx,hf.no3 (by decide +kernel),jA rfl (jI (SqT.of hen) rfl ((JI x ([]) R L N n (qU rfl hcn0 (c8 r8) (c8 l8) (fun i hi H1 s1=>qv i (Q5 hi) H1 s1) (fun hi H1 s1=>qe (Q6 hi) H1 s1)))))⟩)⟩
 |take n a =>
  refine (jA rfl (jI (SqT.of hen) rfl (⟨rfl,jA rfl (j4 (qR (by decide +kernel)) (jA rfl (jI (SqT.of hen) rfl (⟨rfl,jA rfl (j4 (qR (by decide +kernel)) ?_)⟩))))⟩)));refine (jA rfl (⟨b,db,jA rfl (⟨hb,hno _ (by decide +kernel),kS b x A R L N B (kK rfl hq (?_))⟩)⟩));obtain ⟨dx,rl,ll,nl,gs,rs,ls,nv,hx,hf,hrl,hll,hnl,hR,hL,hN,d1,d2,d3⟩:=hcn;exact ⟨x,dx,jA rfl (⟨hx,hf.no3 (by decide +kernel),jA rfl (jI (SqT.of hen) rfl ((JI x ([]) R L N n (qU rfl hcn0 (c8 r8) (c8 l8) (fun i hi H1 s1=>qv i (Q5 hi) H1 s1) (fun hi H1 s1=>qe (Q6 hi) H1 s1)))))⟩)⟩
 |rain n a =>
  refine (jA rfl (jI (SqT.of hen) rfl (⟨rfl,jA rfl (j4 (qR (by decide +kernel)) (jA rfl (jI (SqT.of hen) rfl (⟨rfl,jA rfl (j4 (qR (by decide +kernel)) ?_)⟩))))⟩)));refine (jA rfl (⟨b,db,jA rfl (⟨hb,hno _ (by decide +kernel),kS b x A R L N B (kK rfl hq (?_))⟩)⟩));obtain ⟨dx,rl,ll,nl,gs,rs,ls,nv,hx,hf,hrl,hll,hnl,hR,hL,hN,d1,d2,d3⟩:=hcn;exact ⟨x,dx,jA rfl (⟨hx,hf.no3 (by decide +kernel),jA rfl (jI (SqT.of hen) rfl ((JI x ([]) R L N n (qU rfl hcn0 (c8 r8) (c8 l8) (fun i hi H1 s1=>qv i (Q5 hi) H1 s1) (fun hi H1 s1=>qe (Q6 hi) H1 s1)))))⟩)⟩
theorem AE:jS 2 ["book","entry","way"] rO:=jR
include T in
theorem LH (F:j7 K "refuse_wrong_come" rO f fd) (xbn:Def P w K mg base 2 "is_name" ["word"] [] (C9)) (xl:MeD P w K mg base 1 cO "names" ["self"] (vJ (jE cP cB cU) cR cN cO (JE fun B=>B.zs.map V.str))) (vx:DefX P w K mg base 3 "way_told" ["canal","entry"] [] (tU (jE cP cB cU) cR cN eU)) (xa:MeD P w K mg base 1 cO "canal" ["self"] (JY (jE cP cB cU) cR cN cO)) (xbo:DefX P w K mg base 2 "linked" ["canal","start","steps"] [] (uF K (jE cP cB cU) cR cN eL)):FnOk P w K mg base (kA P w) 4 f fd ["book","entry"] (BZ (jE cP cB cU) cR cN cO eB eT eM eU eL):=by
 refine F.okX2 AE fun vs H Q E h=>?_
 refine zA h fun b t x A R L N B e h=>?_
 refine zK h fun e_ hq hco p2_ qv qe=>?_
 subst e_;obtain ⟨hl1,hl2,hl3⟩:=p2_;refine ⟨rfl,fun _ _ _ _ hr=>?_⟩;refine tk fun x0=>?_
 let u0:=ru x0 [4] (kF (vB (k7 xbo kP hr rfl (j9 (kN xa hr (pv 0)) (jH (jL K) (pv 2) jC) (jH (jL K) (pv 2) jC)))))
 let u1:=ru x0 [3] (jG (jN 2 AE.nd (k7 vx kP hr rfl (jB (kN xa hr (pv 0)) (jB (pv 1) jD))))
   u0.h)
 let u2:=ru x0 [2] (jG (kB (j5 wO (qF K T.xk (kN xl hr (pv 0))) (JN (v:=.int 9) rfl T.uf ⟨_,rfl⟩)) (kF (QJ QI rfl rfl T.xaJ T.xaK (jB jV jD))) kD)
   u1.h)
 let u3:=ru x0 [1] (jG (kB (j5 RF (jH (jL K) (pv 1) jC) (kN xl hr (pv 0))) (kF (QJ QI rfl rfl T.xbj T.xbk (jB jV jD))) kD)
   u2.h)
 refine ⟨_,(jG (kB (b4 (vV (jQ xbn hr rfl (jB (jH (jL K) (pv 1) jC) jD)))) (kF (QJ QI rfl rfl T.xa0 T.xa2 (jB jV jD))) kD)
   u3.h),?_⟩
 try dsimp only [jU,jT]
 obtain ⟨db,fs,hb,hno⟩:=hq.ins;obtain ⟨st,us,h1,h2,h3⟩:=id hco;have r8:=hq.ok.dr.r8;have l8:=hq.ok.dr.l8;have bad:∀(n:Nat) H',Same H H'->qZ R L B.zs e=n->n≠0->E (.ref (nJ eB eT eM eU eL n)) none H':=fun n H' s h1 h2=>by
  rw [<- h1];exact qe (by rw [h1];exact h2) H' s
 refine (jA rfl (jI (SqT.of h1) rfl (⟨e.name,rfl,hl1,fun H1 s1=>(jA rfl (?_))⟩)));cases hg:zH lettersS e.name with
 |false =>
  have hc:qZ R L B.zs e=1:=by unfold qZ;rw [if_pos hg]
  exact kW ⟨by show 1<=sizeLine;decide,bad 1 H1 s1 hc (by decide)⟩
 |true =>
  have hg':¬zH lettersS e.name=false:=by rw [hg];decide
  refine qV (jA rfl (jI (SqT.of (s1 _ _ h1)) rfl ((jA rfl (⟨b,db,jA rfl (⟨(s1 _ _ hb),hno _ (by decide +kernel),kS b x A R L N B (kK rfl (hq.same s1) (fun l H2 s2 hl0 hl=>?_))⟩)⟩)))));have s12:=s1.trans s2;refine ⟨l,jA rfl (⟨.inl (so hl),rfl,tS B.zs,jA rfl (?_)⟩)⟩;show if QY (V.str e.name) (B.zs.map V.str)=true then _ else _
  by_cases hz:e.name∈B.zs
  ·have hc:qZ R L B.zs e=2:=by unfold qZ;rw [if_neg hg',if_pos hz]
   rw [mem_inV.mpr hz];exact kW ⟨by show 1<=sizeLine;decide,bad 2 H2 s12 hc (by decide)⟩
  rw [dc.mpr fun h=>hz (mem_inV.mp h)];refine qV (jA rfl (⟨b,db,jA rfl (⟨(s12 _ _ hb),hno _ (by decide +kernel),kS b x A R L N B (kK rfl (hq.same s12) (fun l2 H3 s3 hl20 hl2'=>?_))⟩)⟩));have s13:=s12.trans s3;refine ⟨l2,jA rfl (⟨.inl (so hl2'),_,_,rfl,rfl,jA rfl (?_)⟩)⟩;rw [ac]
  by_cases h9:9<=B.zs.length
  ·have hc:qZ R L B.zs e=3:=by unfold qZ;rw [if_neg hg',if_neg hz,if_pos h9]
   exact kJ (by lia) ⟨by show 1<=sizeLine;decide,bad 3 H3 s13 hc (by decide)⟩
  refine j4 (by lia) (jA rfl (⟨b,db,jA rfl (⟨(s13 _ _ hb),hno _ (by decide +kernel),kS b x A R L N B (kK rfl (hq.same s13) (jA rfl ((kS x t e ([]) R L N (QE rfl ((hq.same s13).cnH) (c8 r8) (c8 l8) (hco.same s13) (by lia) (fun y hy w1 H4 s4 hw0 hwy=>?_) (fun hn H4 s4=>?_))))))⟩)⟩))
  case refine_2 =>
   have hc:qZ R L B.zs e=4:=by unfold qZ;rw [if_neg hg',if_neg hz,if_neg h9,hn]
   exact bad 4 H4 (s13.trans s4) hc (by decide)
  have s14:=s13.trans s4;obtain ⟨tw,sw,vs,ew,g1,g2,g3⟩:=id hwy;cases ew;obtain ⟨a,_,_,_,hyl,hlt⟩:=tP hy;refine (jA rfl (⟨b,db,jA rfl (⟨(s14 _ _ hb),hno _ (by decide +kernel),kS b x A R L N B (kK rfl (hq.same s14) (jA rfl (jI (SqT.of g1) rfl ((jA rfl (jI (SqT.of g1) rfl ((vM x sw y.1 vs y.2 ([]) R L N (QE rfl ((hq.same s14).cnH) g2 g3 hlt (by lia) (fun hok r H5 s5 hr0 hr=>?_) (fun hnok H5 s5=>?_))))))))))⟩)⟩))
  ·have hc:qZ R L B.zs e=0:=by unfold qZ;rw [if_neg hg',if_neg hz,if_neg h9,hy];exact if_pos hok
   exact qv hc H5 (s14.trans s5)
  ·have hc:qZ R L B.zs e=5:=by unfold qZ;rw [if_neg hg',if_neg hz,if_neg h9,hy];exact if_neg hnok
   exact bad 5 H5 (s14.trans s5) hc (by decide)
theorem sP:jS 2 ["book","weather","canal","day"] rP:=jR
include T in
theorem LI (F:j7 K "refuse_wrong_night" rP f fd) (xa:MeD P w K mg base 1 cO "canal" ["self"] (JY (jE cP cB cU) cR cN cO)) (xb:MeD P w K mg base 1 cO "state" ["self"] (vJ (jE cP cB cU) cR cN cO JW)) (xaP:Def P w K mg base 1 "wet_enough" ["weather","other"] [] (E4)):FnOk P w K mg base (kA P w) 3 f fd ["book","weather"] (BA (jE cP cB cU) cR cN cO eN eD):=by
 refine F.okX2 sP fun vs H Q E h=>?_
 refine gO h fun b wt x A R L N B us W h=>?_
 refine ZS h fun e_ hq hwt hA h100 q0 q7 q8=>?_
 subst e_;refine ⟨rfl,fun _ _ _ _ hr=>?_⟩;refine tk fun x0=>?_
 let u0:=ru x0 [3] (kF (kB (PW.pt (eE (j5 ZG (pv 3) (qF K T.xk (jY K (pv 2) rfl))) (dZ (b4 (vV (jQ xaP hr rfl (jB (pv 1) (jB (jH (kO K) (jY K (pv 2) rfl) (pv 3)) jD)))))))) (kF (QJ QI rfl rfl T.xa1 T.xa3 (jB jV jD))) kD))
 let u1:=ru x0 [2] (jG (kB (j5 ZF (qF K T.xk (pv 1)) (qF K T.xk (jY K (pv 2) rfl))) (kF (QJ QI rfl rfl T.ja T.je (jB jV jD))) kD)
   u0.h)
 let u2:=ru x0 [1] (jG (jN 3 sP.nd (jH (jL K) (kN xb hr (pv 0)) jC))
   u1.h)
 refine ⟨_,(jG (jN 2 sP.nd (kN xa hr (pv 0)))
   u2.h),?_⟩
 try dsimp only [jU,jT]
 obtain ⟨db,fs,hb,hno⟩:=hq.ins;have hcn:=hq.cnH;obtain ⟨dx,rl,ll,nl,gs,rs,ls,nv,hx,hf,hrl,hll,hnl,hR,hL,hN,d1,d2,d3⟩:=id hcn;have hst:=hq.stH;obtain ⟨ww,pt,g1,g2,g3⟩:=hst;have r8:=hq.ok.dr.r8;have d0:=hq.ok.d0;refine (jA rfl (⟨b,db,jA rfl (⟨hb,hno _ (by decide +kernel),kS b x A R L N B (kK rfl hq (?_))⟩)⟩));refine (jA rfl (⟨b,db,jA rfl (⟨hb,hno _ (by decide +kernel),kS b x A R L N B (kK rfl hq (jI (SqT.of g1) rfl (?_)))⟩)⟩));refine (jA rfl (⟨wt,jA rfl (⟨.inr (SqT.of hwt),jA rfl (j0 hx (T.clN) (T.xf) (hf.1) (⟨rl,jA rfl (⟨.inl (so hrl),rfl,jA rfl (?_)⟩)⟩))⟩)⟩));have hul:=hA.1;have hrl':=hR.1;have hc:qH R L N B (.night W)=if W.length=R.length then (if B.d<(N.length:Int)/\bJ W (N.getD B.d.toNat [])=false then 8 else 0) else 7:=rfl
 by_cases hw:W.length=R.length
 case neg =>
  rw [if_neg hw] at hc;exact ZI (fun z=>hw (by have:=V.int.inj z;lia)) ⟨by show 1<=sizeLine;decide,q7 hc H (Same.refl _)⟩
 rw [if_pos hw] at hc;refine ZJ (bz V.int (by lia)) ?_;have hnl':=hN.1;refine (jA rfl (jA rfl (j0 hx (T.clN) (T.xq) (hf.2.2.1) (⟨nl,jA rfl (⟨.inl (so hnl),_,_,rfl,rfl,jA rfl (?_)⟩)⟩))))
 by_cases hd:B.d<(N.length:Int)
 case neg =>
  rw [if_neg (fun z=>hd z.1)] at hc;exact j4 (by lia) (q0 hc H (Same.refl _))
 obtain ⟨dn,hdn⟩:∃dn:Nat,B.d=(dn:Int):=⟨B.d.toNat,by lia⟩;obtain ⟨W',hW'⟩:∃W',N[dn]?=some W':=⟨_,aa (by lia)⟩;obtain ⟨v,hv,wn,qs,rfl,hwn,hqs,_⟩:=hN.get hW';have eW:N.getD B.d.toNat []=W':=by rw [hdn,ax,ad,hW'];rfl
 rw [eW] at hc;have hWl:=hq.ok.dr.night W' (av hW');refine kJ (by lia) (jA rfl (jA rfl (j0 hx (T.clN) (T.xq) (hf.2.2.1) ((jA rfl (⟨nl,_,_,jA rfl (⟨by rw [hdn],so hnl,kQ hv,JI wt wn us qs W W' (QE rfl hwt hwn hA hqs (by lia) h100 (fun H1 s1=>(jA rfl (?_))))⟩)⟩))))));cases hb2:bJ W W' with
 |true =>
  rw [hb2,if_neg (fun z=>nomatch z.2)] at hc;exact qV (q0 hc H1 s1)
 |false =>
  rw [hb2,if_pos ⟨hd,rfl⟩] at hc;exact kW ⟨by show 1<=sizeLine;decide,q8 hc H1 s1⟩
theorem NG:jS 2 ["book","entry"] rN:=jR
include T in
theorem LG (F:j7 K "refuse_wrong" rN f fd) (vy:DefX P w K mg base 4 "refuse_wrong_come" ["book","entry"] [] (BZ (jE cP cB cU) cR cN cO eB eT eM eU eL)) (vn:DefX P w K mg base 3 "refuse_wrong_night" ["book","weather"] [] (BA (jE cP cB cU) cR cN cO eN eD)) (xi:DefX P w K mg base 3 "number_named" ["book","entry"] [] (qQ (jE cP cB cU) cR cN cO (cL eU))):FnOk P w K mg base (kA P w) 5 f fd ["book","entry"] (qQ (jE cP cB cU) cR cN cO (GJ eB eT eM eU eL eN eD)):=by
 refine F.okX2 NG fun vs H Q E h=>?_
 refine zA h fun b t x A R L N B e h=>?_
 refine zK h fun e_ hq hen hsm qv qe=>?_
 subst e_;refine ⟨rfl,fun _ _ _ _ hr=>?_⟩;refine tk fun x0=>?_
 let u0:=ru x0 [0,1,0] (kF (kB (j5 kL (jH (jL K) (pv 1) jC) jV) (kF (vB (k7 vn kP hr rfl (jB (pv 0) (jB (jH (jL K) (pv 1) jC) jD))))) (kF (vB (k7 xi kP hr rfl (jB (pv 0) (jB (pv 1) jD)))))))
 refine ⟨_,(kF (kB (j5 kL (jH (jL K) (pv 1) jC) jV) (kF (vB (k7 vy kP hr rfl (jB (pv 0) (jB (pv 1) jD))))) u0.h)),?_⟩
 try dsimp only [jU,jT]
 have num:bF e=true->cL eU R L N B t e H (fun _ H'=>Q .non H') E:=fun h=>by
  have hc:qH R L N B e=if ZN R L B.zs e=none then 4 else 0:=by cases e<;>first|rfl|cases h
  refine ⟨h,fun i hi H' s=>qv (by rw [hc,if_neg (by rw [hi];simp)]) H' s,fun hi H' s=>?_⟩;rw [if_pos hi] at hc;have:=qe (by rw [hc];decide) H' s;rw [hc] at this;exact this
 by_cases hnum:bF e=true
 ·obtain ⟨tl,hh⟩:=hen.head;obtain ⟨k1,k2⟩:=DO hnum;exact (jA rfl (jI (SqT.of hh) yW (⟨rfl,jA rfl (j4 (fun z=>k1 (V.str.inj z)) (jA rfl (jI (SqT.of hh) yW (⟨rfl,jA rfl (j4 (fun z=>k2 (V.str.inj z)) (jA rfl (jA rfl ((vM b t x A R L N B e (vG rfl hq hen hsm (num hnum)))))))⟩))))⟩)))
 cases e with
 |pas n=>exact absurd rfl hnum
 |lt n=>exact absurd rfl hnum
 |take n a=>exact absurd rfl hnum
 |rain n a=>exact absurd rfl hnum
 |come e =>
  obtain ⟨st,us,h1,h2,h3⟩:=id hen;refine (jA rfl (jI (SqT.of h1) rfl (⟨rfl,jA rfl (kJ rfl (jA rfl (jA rfl ((vM b t x A R L N B e (qU rfl hq hen hsm qv (fun hc H' s=>?_)))))))⟩)));have:=qe hc H' s;have hE:cS eB eT eM eU eL eN eD (qH R L N B (.come e))=nJ eB eT eM eU eL (qZ R L B.zs e):=by
   show cS eB eT eM eU eL eN eD (qZ R L B.zs e)=_;have:=TX R L B.zs e;unfold cS;rw [if_neg (by lia),if_neg (by lia)]
  rw [hE] at this;exact this
 |night W =>
  obtain ⟨wt,us,h1,h2,h3⟩:=id hen;refine (jA rfl (jI (SqT.of h1) rfl (⟨rfl,jA rfl (j4 (qR (by decide +kernel)) (jA rfl (jI (SqT.of h1) rfl (⟨rfl,jA rfl (kJ rfl (jA rfl (jA rfl (jI (SqT.of h1) rfl ((gR b wt x A R L N B us W (QE rfl hq h2 h3 hsm qv (fun hc H' s=>?_) (fun hc H' s=>?_))))))))⟩))))⟩)))
  ·have:=qe (by rw [hc];decide) H' s;rw [hc] at this;exact this
  ·have:=qe (by rw [hc];decide) H' s;rw [hc] at this;exact this
theorem MZ:jS 2 ["book","entry"] pR:=jR
include T in
theorem KH (F:j7 K "deed_of" pR f fd) (xi:DefX P w K mg base 3 "number_named" ["book","entry"] [] (qQ (jE cP cB cU) cR cN cO (cL eU))):FnOk P w K mg base (kA P w) 4 f fd ["book","entry"] (qQ (jE cP cB cU) cR cN cO mX):=by
 refine F.okX2 MZ fun vs H Q E h=>?_
 refine zA h fun b t x A R L N B e h=>?_
 refine J4 h fun e_ hq hen hsm p3_=>?_
 subst e_;obtain ⟨de,hde,q⟩:=p3_;refine ⟨rfl,fun _ _ _ _ hr=>?_⟩;refine tk fun x0=>?_
 let u0:=ru x0 [1] (jG (kB (PW.pt (mT (j5 kL (jH (jL K) (pv 1) jC) jV) (mJ (j5 kL (jH (jL K) (pv 1) jC) jV)))) (jM (kR (jB (jH (jL K) (pv 1) jC) (jB (k7 xi kP hr rfl (jB (pv 0) (jB (pv 1) jD))) jD)))) kD)
   E8)
 refine ⟨_,(jG (kB (j5 kL (jH (jL K) (pv 1) jC) jV) (jM (kR (jB jV jD))) kD)
   u0.h),?_⟩
 try dsimp only [jU,jT]
 cases e with
 |come e=>cases hde
 |take n a=>cases hde
 |rain n a=>cases hde
 |night W =>
  cases hde;obtain ⟨wt,us,h1,h2,h3⟩:=id hen;exact (jA rfl (jI (SqT.of h1) rfl (⟨rfl,jA rfl (kJ rfl ⟨zz1,fun dd hdd=>q dd _ (jK hdd _) jF⟩)⟩)))
 |pas n =>
  obtain ⟨i,hi,rfl⟩:=aP.mp hde;refine (jA rfl (jI (SqT.of hen) rfl (⟨rfl,jA rfl (j4 (qR (by decide +kernel)) (jA rfl (jI (SqT.of hen) rfl (⟨rfl,jA rfl (kJ rfl (jA rfl (jI (SqT.of hen) rfl ((jA rfl (jA rfl (⟨b,t,x,A,R,L,N,B,.pas n,rfl,hq,hen,hsm,rfl,fun j hj H1 s1=>⟨zz2,fun dd hdd=>?_⟩,fun hn=>absurd (hi.symm.trans hn) (by simp)⟩)))))))⟩))))⟩)));cases hi.symm.trans hj;exact q dd _ (s1.trans (jK hdd _)) jF
 |lt n =>
  obtain ⟨i,hi,rfl⟩:=aP.mp hde;refine (jA rfl (jI (SqT.of hen) rfl (⟨rfl,jA rfl (j4 (qR (by decide +kernel)) (jA rfl (jI (SqT.of hen) rfl (⟨rfl,jA rfl (j4 (qR (by decide +kernel)) (jA rfl (jI (SqT.of hen) rfl (⟨rfl,jA rfl (kJ rfl (jA rfl (jI (SqT.of hen) rfl ((jA rfl (jA rfl (⟨b,t,x,A,R,L,N,B,.lt n,rfl,hq,hen,hsm,rfl,fun j hj H1 s1=>⟨zz2,fun dd hdd=>?_⟩,fun hn=>absurd (hi.symm.trans hn) (by simp)⟩)))))))⟩))))⟩))))⟩)));cases hi.symm.trans hj;exact q dd _ (s1.trans (jK hdd _)) jF
theorem AG:jS 2 ["book","entry","at"] rX:=jR
include T in
theorem LQ (F:j7 K "takes_too_much" rX f fd) (xi:DefX P w K mg base 3 "number_named" ["book","entry"] [] (qQ (jE cP cB cU) cR cN cO (cL eU))) (xb:MeD P w K mg base 1 cO "state" ["self"] (vJ (jE cP cB cU) cR cN cO JW)) (xa:MeD P w K mg base 1 cO "canal" ["self"] (JY (jE cP cB cU) cR cN cO)):FnOk P w K mg base (kA P w) 4 f fd ["book","entry"] (qQ (jE cP cB cU) cR cN cO FW):=by
 refine F.okX2 AG fun vs H Q E h=>?_
 obtain ⟨b,t,x,A,R,L,N,B,e,rfl,hq,hen,hsm,n,a,i,rfl,hi,q⟩:=h;refine ⟨rfl,fun _ _ _ _ hr=>?_⟩;refine tk fun x0=>?_
 let u0:=ru x0 [1] (jM (zV ZG (jJ yE (jH (jL K) (jH (jL K) (kN xb hr (pv 0)) jC) (pv 2)) (jH (jL K) (pv 1) jC)) (jY K (jH (kO K) (jY K (kN xa hr (pv 0)) rfl) (pv 2)) rfl)))
 refine ⟨_,(jG (jN 2 AG.nd (k7 xi kP hr rfl (jB (pv 0) (jB (pv 1) jD))))
   u0.h),?_⟩
 try dsimp only [jU,jT]
 obtain ⟨db,fs,hb,hno⟩:=hq.ins;refine (jA rfl (jA rfl (⟨b,t,x,A,R,L,N,B,.take n a,rfl,hq,hen,hsm,rfl,fun j hj H1 s1=>?_,fun hn=>absurd (hi.symm.trans hn) (by simp)⟩)));cases hi.symm.trans hj;have hcn:=(hq.same s1).cnH;obtain ⟨dx,rl,ll,nl,gs,rs,ls,nv,hx,hf,hrl,hll,hnl,hR,hL,hN,d1,d2,d3⟩:=id hcn;obtain ⟨ww,pt,g1,g2,g3⟩:=(hq.same s1).stH;have ml:=hq.ok.ml;have hiR:=Q7 hi;rw [ac] at hiR;obtain ⟨r,hr⟩:∃r,R[i]?=some r:=⟨_,aa hiR⟩;obtain ⟨z,hz,yr,rfl,dy,hs,hyr,hg⟩:=hR.get hr;have hen1:=s1 _ _ hen;refine (jA rfl (⟨b,db,jA rfl (⟨(s1 _ _ hb),hno _ (by decide +kernel),kS b x A R L N B (kK rfl (hq.same s1) (jI (SqT.of g1) rfl ((jA rfl (jI (SqT.of g2) (yD (by lia)) ((jA rfl (jI (SqT.of hen1) rfl (jZ (?_))))))))))⟩)⟩));refine (jA rfl (⟨b,db,jA rfl (⟨(s1 _ _ hb),hno _ (by decide +kernel),kS b x A R L N B (kK rfl (hq.same s1) (j0 hx (T.clN) (T.xf) (hf.1) ((jA rfl (qA (so hrl) (kQ hz) (j0 hyr (T.clR) (T.zk) (hg.2.1) (jZ (?_))))))))⟩)⟩));have q:=q H1 s1;rw [hr] at q;exact q
theorem AI:jS 2 ["book","entry","start"] sA:=jR
include T in
theorem LY (F:j7 K "why_no_entry" sA f fd) (xu:MeX P w K mg base 2 cN "reach_at" ["self","name"] (JZ (jE cP cB cU) cR cN eU 0)) (xa:MeD P w K mg base 1 cO "canal" ["self"] (JY (jE cP cB cU) cR cN cO)) (zu:Def P w K mg base 5 "has_no_berth" ["canal","ways","state","reach"] [] (tW (jE cP cB cU) cR cN)) (xj:MeD P w K mg base 1 cO "ways" ["self"] (vJ (jE cP cB cU) cR cN cO (JE BkS.us))) (xb:MeD P w K mg base 1 cO "state" ["self"] (vJ (jE cP cB cU) cR cN cO JW)) (ug:DefX P w K mg base 4 "takes_too_much" ["book","entry"] [] (qQ (jE cP cB cU) cR cN cO FW)) (ul:Def P w K mg base 8 "why_not" ["canal","ways","state","deed"] [] (uZ (jE cP cB cU) cR cN)) (zv:DefX P w K mg base 4 "deed_of" ["book","entry"] [] (qQ (jE cP cB cU) cR cN cO mX)):FnOk P w K mg base (kA P w) 9 f fd ["book","entry"] (qQ (jE cP cB cU) cR cN cO GI):=by
 refine F.okX2 AI fun vs H Q E h=>?_
 refine zA h fun b t x A R L N B e h=>?_
 refine zK h fun e_ hq hen hsm hc q=>?_
 subst e_;refine ⟨rfl,fun _ _ _ _ hr=>?_⟩;refine tk fun x0=>?_
 let u0:=ru x0 [0,0,1] (jM (yU (vV (jQ zu hr rfl (yB (kN xa hr (pv 0)) (kN xj hr (pv 0)) (kN xb hr (pv 0)) (pv 2)))) jV jV))
 let u1:=ru x0 [0,0,0] (jG (jN 2 AI.nd (JC xu kP hr (kN xa hr (pv 0)) (jB (jH (jL K) (pv 1) jC) jD)))
   u0.h)
 let u2:=ru x0 [3] (jM (jQ ul hr rfl (yB (kN xa hr (pv 0)) (kN xj hr (pv 0)) (kN xb hr (pv 0)) (k7 zv kP hr rfl (jB (pv 0) (jB (pv 1) jD))))))
 let u3:=ru x0 [2] (jG (kB (j5 kL (jH (jL K) (pv 1) jC) jV) (jM jV) kD)
   u2.h)
 let u4:=ru x0 [1] (jG (kB (j5 kL (jH (jL K) (pv 1) jC) jV) (jM (yU (vV (k7 ug kP hr rfl (jB (pv 0) (jB (pv 1) jD)))) jV jV)) kD)
   u3.h)
 refine ⟨_,(jG (kB (j5 kL (jH (jL K) (pv 1) jC) jV) u1.h kD)
   u4.h),?_⟩
 try dsimp only [jU,jT]
 obtain ⟨db,fs,hb,hno⟩:=hq.ins;have r8:=hq.ok.dr.r8;have l8:=hq.ok.dr.l8
 by_cases hdd:eG e=true
 ·obtain ⟨tl,hh⟩:=hen.head;obtain ⟨k1,k2,k3⟩:=tZ hdd;obtain ⟨de,hde,hin,hwy,_⟩:=uW hq.ok.zl hdd hc;rw [hwy] at q;refine (jA rfl (jI (SqT.of hh) yW (⟨rfl,jA rfl (j4 (fun z=>k1 (V.str.inj z)) (jA rfl (jI (SqT.of hh) yW (⟨rfl,jA rfl (j4 (fun z=>k2 (V.str.inj z)) (jA rfl (jI (SqT.of hh) yW (⟨rfl,jA rfl (j4 (fun z=>k3 (V.str.inj z)) ?_)⟩))))⟩))))⟩)));refine (jA rfl (⟨b,db,jA rfl (⟨hb,hno _ (by decide +kernel),kS b x A R L N B (kK rfl hq (jA rfl (⟨b,db,jA rfl (⟨hb,hno _ (by decide +kernel),kS b x A R L N B (kK rfl hq (fun wl H2 s2 hwl0 hwl=>?_))⟩)⟩)))⟩)⟩));refine (jA rfl (⟨b,db,jA rfl (⟨(s2 _ _ hb),hno _ (by decide +kernel),kS b x A R L N B (kK rfl (hq.same s2) (jA rfl (jA rfl ((vM b t x A R L N B e (vG rfl (hq.same s2) (hen.same s2) hsm ⟨de,hde,fun dd H3 s3 hdd=>?_⟩))))))⟩)⟩));have s23:=s2.trans s3;exact (gQ x wl B.st dd de B.us B.ys B.d B.ms B.pl ([]) R L N (vG rfl ((hq.same s23).stage (s3 _ _ hwl)) hdd hin (fun H4 s4=>q H4 (s23.trans s4))))
 cases e with
 |pas n=>exact absurd rfl hdd
 |lt n=>exact absurd rfl hdd
 |night W=>exact absurd rfl hdd
 |come e =>
  obtain ⟨st0,fB,h1,h2,h3⟩:=id hen;obtain ⟨y,hy,hok,hnz,h9⟩:=uM (show qZ R L B.zs e=0 from hc);obtain ⟨a,ha,hfa,haR,hyl,hlt⟩:=tP hy;obtain ⟨r,hr⟩:∃r,R[a]?=some r:=⟨_,aa haR⟩;have hcn:=hq.cnH;refine (jA rfl (jI (SqT.of h1) rfl (⟨rfl,jA rfl (kJ rfl (jA rfl (⟨b,db,jA rfl (⟨hb,hno _ (by decide +kernel),kS b x A R L N B (kK rfl hq (?_))⟩)⟩)))⟩)));obtain ⟨dx,rl,ll,nl,gs,rs,ls,nv,hx,hf,hrl,hll,hnl,hR,hL,hN,d1,d2,d3⟩:=id hcn;refine ⟨x,dx,jA rfl (⟨hx,hf.no3 (by decide +kernel),jA rfl (jI (SqT.of h1) rfl ((JI x ([]) R L N e.start (qU rfl hcn (c8 r8) (c8 l8) (fun i hi H1 s1=>?_) (fun hn=>absurd (Q6 (show QK (R.map (·.name)) e.start from hn)) (by rw [hfa];simp))))))⟩)⟩;have hi:kH (R.map (·.name)) e.start=some i:=Q5 hi;rw [hfa] at hi;cases hi;refine (jA rfl (⟨b,db,jA rfl (⟨(s1 _ _ hb),hno _ (by decide +kernel),kS b x A R L N B (kK rfl (hq.same s1) (jA rfl (⟨b,db,jA rfl (⟨(s1 _ _ hb),hno _ (by decide +kernel),kS b x A R L N B (kK rfl (hq.same s1) (fun wl H2 s2 hwl0 hwl=>?_))⟩)⟩)))⟩)⟩));have s12:=s1.trans s2;refine (jA rfl (⟨b,db,jA rfl (⟨(s12 _ _ hb),hno _ (by decide +kernel),kS b x A R L N B (kK rfl (hq.same s12) (jA rfl ((gQ x wl B.st a r B.us B.ys B.d B.ms B.pl ([]) R L N (qI rfl ((hq.same s12).stage hwl) hr (fun H3 s3=>(jA rfl (?_))))))))⟩)⟩));have hb2:mP R L B e=decide (r.berths<=(((y8 L B.ys B.pl).countP fun z=>decide (z=(a:Int)):Nat):Int)):=by
   unfold mP;rw [hy];show decide (((R[y.1.toNat]?).map (·.berths)).getD 0<=_)=_;rw [ha,ax,hr];rfl
  have q:=q H3 (s12.trans s3);have q:Q (.str (if mP R L B e=true then "berth" else "")) H3:=q;rw [hb2] at q;cases hd:decide (r.berths<=(((y8 L B.ys B.pl).countP fun z=>decide (z=(a:Int)):Nat):Int)) with
  |true=>rw [hd] at q;exact kW q
  |false=>rw [hd] at q;exact qV q
 |take n a =>
  obtain ⟨i,hi⟩:=Z4 (e:=.take n a) rfl hc;have hi:kH (R.map (·.name)) n=some i:=hi;refine (jA rfl (jI (SqT.of hen) rfl (⟨rfl,jA rfl (j4 (qR (by decide +kernel)) (jA rfl (jI (SqT.of hen) rfl (⟨rfl,jA rfl (kJ rfl (jA rfl (jA rfl (⟨b,t,x,A,R,L,N,B,.take n a,rfl,hq,hen,hsm,vA n a i (kK rfl hi (fun H1 s1=>(jA rfl (?_))))⟩))))⟩))))⟩)));have q:=q H1 s1;have q:Q (.str (match kH (R.map (·.name)) n with|some i=>if B.ms.getD i 0 - a<((R[i]?).map (·.least)).getD 0 then "water" else ""|none=>"")) H1:=q;rw [hi] at q
  by_cases hw:B.ms.getD i 0 - a<((R[i]?).map (·.least)).getD 0
  ·rw [aV hw];have q:Q (.str (if B.ms.getD i 0 - a<((R[i]?).map (·.least)).getD 0 then "water" else "")) H1:=q;rw [if_pos hw] at q;exact kW q
  ·rw [aH hw];have q:Q (.str (if B.ms.getD i 0 - a<((R[i]?).map (·.least)).getD 0 then "water" else "")) H1:=q;rw [if_neg hw] at q;exact qV q
 |rain n a =>
  exact (jA rfl (jI (SqT.of hen) rfl (⟨rfl,jA rfl (j4 (qR (by decide +kernel)) (jA rfl (jI (SqT.of hen) rfl (⟨rfl,jA rfl (j4 (qR (by decide +kernel)) (jA rfl (jI (SqT.of hen) rfl (⟨rfl,jA rfl (kJ rfl (q H (Same.refl _)))⟩))))⟩))))⟩)))
theorem NI:jS 3 ["source","target","amount"] rR:=jR
include T in
theorem LK (F:j7 K "single_pour" rR f fd) : FnOk P w K mg base jX 1 f fd ["source","target","amount"] (C2):=by
 refine F.ok2 NI fun vs H Q E h=>?_
 refine cM h fun s t m a h=>?_
 refine zT h fun e_ hs ht q=>?_
 subst e_;refine ⟨rfl,fun _ _ _ _ hr=>?_⟩;refine ⟨_,(jM (yU (j5 kL (pv 2) jC) (kU jD) (kU (jB (kR (j9 (pv 0) (pv 1) (pv 2))) jD)))),?_⟩
 try dsimp only [jU,jT]
 refine ⟨_,rfl,rfl,jA rfl (?_)⟩
 by_cases h:a=0
 ·exact kJ (bz V.int h) ⟨aL _,fun r hr=>q r [] [] _ (jK hr _) hr jF (PoursH.nil _ _) (aL _)⟩
 refine j4 (fun z=>h (V.int.inj z)) (jA rfl (jA rfl (jA rfl (⟨zz3,fun p hp=>⟨zz1,fun r hr=>?_⟩⟩))));have u1:=jK hp (.tup [V.int (s:Int),V.int (t:Int),V.int a]);have u2:=jK hr (.lst [V.ref p]);exact q r [.ref p] [(s,t,a)] _ (u1.trans u2) (u1.free hr) jF ((PoursH.nil _ _).snoc (u2 _ _ jF) hs ht) (aj _)
theorem sK:jS 2 ["book","entry","canal","fallen"] pS:=jR
include T in
theorem KJ (F:j7 K "entry_pours" pS f fd) (xa:MeD P w K mg base 1 cO "canal" ["self"] (JY (jE cP cB cU) cR cN cO)) (we:Def P w K mg base 1 "single_pour" ["source","target","amount"] [] (C2)) (xi:DefX P w K mg base 3 "number_named" ["book","entry"] [] (qQ (jE cP cB cU) cR cN cO (cL eU))) (zc:MeD P w K mg base 2 cN "sky" ["self"] (ZL (jE cP cB cU) cR cN bL)) (zd:Def P w K mg base 4 "with_spills" ["weirs","waters","pours"] [] (l9 K)) (xp:MeD P w K mg base 2 cN "weirs" ["self"] (fT (jE cP cB cU) cR cN)) (xb:MeD P w K mg base 1 cO "state" ["self"] (vJ (jE cP cB cU) cR cN cO JW)) (xaF:Def P w K mg base 5 "night_pours" ["canal","state","weather"] [] (C8 K (jE cP cB cU) cR cN)) (xbv:DefX P w K mg base 9 "pours" ["canal","ways","state","deed"] [] (C5 (jE cP cB cU) cR cN eW)) (xj:MeD P w K mg base 1 cO "ways" ["self"] (vJ (jE cP cB cU) cR cN cO (JE BkS.us))) (zv:DefX P w K mg base 4 "deed_of" ["book","entry"] [] (qQ (jE cP cB cU) cR cN cO mX)):FnOk P w K mg base (kA P w) 10 f fd ["book","entry"] (qQ (jE cP cB cU) cR cN cO wH):=by
 refine F.okX2 sK fun vs H Q E h=>?_
 refine zA h fun b t x A R L N B e h=>?_
 refine zS h fun e_ hq hen hsm hc hw q=>?_
 subst e_;refine ⟨rfl,fun _ _ _ _ hr=>?_⟩;refine tk fun x0=>?_
 let u0:=ru x0 [2,0,0] (jM (jQ we hr rfl (j9 (k7 xi kP hr rfl (jB (pv 0) (jB (pv 1) jD))) (kN zc hr (pv 2)) (jH (jL K) (pv 1) jC))))
 let u1:=ru x0 [3,0,1] (jM (jQ zd hr rfl (j9 (kN xp hr (pv 2)) (jH (jL K) (kN xb hr (pv 0)) jC) (pv 3))))
 let u2:=ru x0 [3,0,0] (jG (jN 3 sK.nd (jQ we hr rfl (j9 (kN zc hr (pv 2)) (k7 xi kP hr rfl (jB (pv 0) (jB (pv 1) jD))) (jH (jL K) (pv 1) jC))))
   u1.h)
 let u3:=ru x0 [5] (jM (k7 xbv kP hr rfl (yB (pv 2) (kN xj hr (pv 0)) (kN xb hr (pv 0)) (k7 zv kP hr rfl (jB (pv 0) (jB (pv 1) jD))))))
 let u4:=ru x0 [4] (jG (kB (j5 kL (jH (jL K) (pv 1) jC) jV) (jM (jQ xaF hr rfl (j9 (pv 2) (kN xb hr (pv 0)) (jH (jL K) (pv 1) jC)))) kD)
   u3.h)
 let u5:=ru x0 [3] (jG (kB (j5 kL (jH (jL K) (pv 1) jC) jV) u2.h kD)
   u4.h)
 let u6:=ru x0 [2] (jG (kB (j5 kL (jH (jL K) (pv 1) jC) jV) u0.h kD)
   u5.h)
 let u7:=ru x0 [1] (jG (kB (j5 kL (jH (jL K) (pv 1) jC) jV) (jM (kU jD)) kD)
   u6.h)
 refine ⟨_,(jG (jN 2 sK.nd (kN xa hr (pv 0)))
   u7.h),?_⟩
 try dsimp only [jU,jT]
 obtain ⟨db,fs,hb,hno⟩:=hq.ins;have hcn:=hq.cnH;have dr:=hq.ok.dr;have r8:=dr.r8;have l8:=dr.l8;have ml:=hq.ok.ml;have hTg:=tH dr;obtain ⟨ww,pt,g1,g2,g3⟩:=hq.stH;obtain ⟨dx,rl,ll,nl,gs,rs,ls,nv,hx,hf,hrl,hll,hnl,hR,hL,hN,d1,d2,d3⟩:=id hcn;have esk:bL R.length L.length=((R.length+2*L.length+1:Nat):Int):=by unfold bL;lia
 refine (jA rfl (⟨b,db,jA rfl (⟨hb,hno _ (by decide +kernel),kS b x A R L N B (kK rfl hq (?_))⟩)⟩))
 by_cases hdd:eG e=true/\bF e=true
 ·obtain ⟨tl,hh⟩:=hen.head;obtain ⟨k1,k2,k3⟩:=tZ hdd.1;obtain ⟨_,k4⟩:=DO hdd.2;obtain ⟨de,hde,hin,hwy,hdn⟩:=uW hq.ok.zl hdd.1 hc;obtain ⟨hnn,h4⟩:=hdn hdd.2;rw [hwy] at hw;refine (jA rfl (jI (SqT.of hh) yW (⟨rfl,jA rfl (j4 (fun z=>k1 (V.str.inj z)) (jA rfl (jI (SqT.of hh) yW (⟨rfl,jA rfl (j4 (fun z=>k2 (V.str.inj z)) (jA rfl (jI (SqT.of hh) yW (⟨rfl,jA rfl (j4 (fun z=>k3 (V.str.inj z)) (jA rfl (jI (SqT.of hh) yW (⟨rfl,jA rfl (j4 (fun z=>k4 (V.str.inj z)) ?_)⟩))))⟩))))⟩))))⟩)));refine (jA rfl (jA rfl (⟨b,db,jA rfl (⟨hb,hno _ (by decide +kernel),kS b x A R L N B (kK rfl hq (fun wl H2 s2 hwl0 hwl=>?_))⟩)⟩)));refine (jA rfl (⟨b,db,jA rfl (⟨(s2 _ _ hb),hno _ (by decide +kernel),kS b x A R L N B (kK rfl (hq.same s2) (jA rfl (jA rfl ((vM b t x A R L N B e (vG rfl (hq.same s2) (hen.same s2) hsm ⟨de,hde,fun dd H3 s3 hdd=>?_⟩))))))⟩)⟩));have s23:=s2.trans s3;refine (gQ x wl B.st dd de B.us B.ys B.d B.ms B.pl ([]) R L N (QE rfl ((hq.same s23).stage (s3 _ _ hwl)) hdd hin hq.ok.d0 hnn (fun _ r H4 gs' zs s4 hr0 hr hP hS=>?_) (fun h=>absurd hw h)));refine q r zs _ H4 (s23.trans s4) (s23.free hr0) hr hP ?_;rw [hP.1];unfold uX;rw [ag];have h1:=@uD R L.length fun a=>gs'.getD a 0
  lia
 cases e with
 |pas n=>exact absurd ⟨rfl,rfl⟩ hdd
 |lt n=>exact absurd ⟨rfl,rfl⟩ hdd
 |come e =>
  obtain ⟨st0,fB,h1,h2,h3⟩:=id hen;exact (jA rfl (jI (SqT.of h1) rfl (⟨rfl,jA rfl (kJ rfl ⟨aL _,fun r hr=>q r [] [] _ (jK hr _) hr jF (PoursH.nil _ _) (aL _)⟩)⟩)))
 |take n a =>
  obtain ⟨i,hi⟩:=Z4 (e:=.take n a) rfl hc;have hi':=Q7 (show kH (R.map (·.name)) n=some i from hi);rw [ac] at hi';refine (jA rfl (jI (SqT.of hen) rfl (⟨rfl,jA rfl (j4 (qR (by decide +kernel)) (jA rfl (jI (SqT.of hen) rfl (⟨rfl,jA rfl (kJ rfl (jA rfl (jA rfl (⟨b,t,x,A,R,L,N,B,.take n a,rfl,hq,hen,hsm,rfl,fun j hj H1 s1=>?_,fun hn=>absurd (hi.symm.trans hn) (by simp)⟩))))⟩))))⟩)));cases hi.symm.trans hj;have hen1:=s1 _ _ hen;refine (jA rfl (⟨x,dx,jA rfl (⟨(s1 _ _ hx),hf.no3 (by decide +kernel),vO x ([]) R L N (kK rfl (hcn.same s1) (?_))⟩)⟩));rw [esk];exact (jA rfl (jI (SqT.of hen1) rfl (⟨i,R.length+2*L.length+1,B.ms.length,a,rfl,by lia,by lia,fun r zs qs H2 s2 hr0 hr hP hl=>q r zs qs H2 (s1.trans s2) (s1.free hr0) hr hP (by lia)⟩)))
 |rain n a =>
  obtain ⟨i,hi⟩:=Z4 (e:=.rain n a) rfl hc;have hi':=Q7 (show kH (R.map (·.name)) n=some i from hi);rw [ac] at hi';refine (jA rfl (jI (SqT.of hen) rfl (⟨rfl,jA rfl (j4 (qR (by decide +kernel)) (jA rfl (jI (SqT.of hen) rfl (⟨rfl,jA rfl (j4 (qR (by decide +kernel)) (jA rfl (jI (SqT.of hen) rfl (⟨rfl,jA rfl (kJ rfl ?_)⟩))))⟩))))⟩)));refine (jA rfl (⟨x,dx,jA rfl (⟨hx,hf.no3 (by decide +kernel),vO x ([]) R L N (kK rfl hcn (?_))⟩)⟩));rw [esk];refine (jA rfl (jA rfl (⟨b,t,x,A,R,L,N,B,.rain n a,rfl,hq,hen,hsm,rfl,fun j hj H1 s1=>?_,fun hn=>absurd (hi.symm.trans hn) (by simp)⟩)));cases hi.symm.trans hj;have hen1:=s1 _ _ hen;refine (jA rfl (jI (SqT.of hen1) rfl (⟨R.length+2*L.length+1,vA i B.ms.length a (qI rfl (by lia) (by lia) (fun fl zs qs H2 s2 hr0 hr hP hl=>?_))⟩)));have s12:=s1.trans s2;refine (jA rfl (⟨x,dx,jA rfl (⟨(s12 _ _ hx),hf.no3 (by decide +kernel),vO x ([]) R L N (qI rfl (hcn.same s12) (by lia) (fun wq ws H3 s3 hwq0 hwq hW=>?_))⟩)⟩));have s13:=s12.trans s3;refine (jA rfl (⟨b,db,jA rfl (⟨(s13 _ _ hb),hno _ (by decide +kernel),kS b x A R L N B (kK rfl (hq.same s13) (jI (SqT.of (s13 _ _ g1)) rfl ((jA rfl (⟨wq,ww,fl,ws,zs,vD R L.length,B.ms,qs,rfl,lC hTg hW hwq (.inr (SqT.of (s13 _ _ g2))) ml (by lia) (by lia),s3 _ _ hr,hP.same s3,by lia,fun r H4 gs' zs4 s4 hr40 hr4 hP4 hS=>?_⟩)))))⟩)⟩));refine q r zs4 _ H4 (s13.trans s4) (s13.free hr40) hr4 hP4 ?_;rw [hP4.1,ag,<- hP.1];have:=@uD R L.length fun a=>gs'.getD a 0
  lia
 |night W =>
  obtain ⟨wt,us,h1,h2,h3⟩:=id hen;have hWl:=SY hc;refine (jA rfl (jI (SqT.of h1) rfl (⟨rfl,jA rfl (j4 (qR (by decide +kernel)) (jA rfl (jI (SqT.of h1) rfl (⟨rfl,jA rfl (j4 (qR (by decide +kernel)) (jA rfl (jI (SqT.of h1) rfl (⟨rfl,jA rfl (j4 (qR (by decide +kernel)) (jA rfl (jI (SqT.of h1) rfl (⟨rfl,jA rfl (kJ rfl ?_)⟩))))⟩))))⟩))))⟩)));refine (jA rfl (jA rfl (⟨b,db,jA rfl (⟨hb,hno _ (by decide +kernel),kS b x A R L N B (kK rfl hq (jA rfl (jI (SqT.of h1) rfl ((YB x B.st wt _ B.ms _ us W ([]) R L N (YD rfl hcn hq.stH.toI h2 h3 hWl ml (by lia) (by lia) hTg (fun r H2 gs' zs s2 hr0 hr hP hS=>?_)))))))⟩)⟩)));refine q r zs _ H2 s2 hr0 hr hP ?_;rw [hP.1];unfold DJ;rw [ag];have h1:=@uD R L.length fun a=>gs'.getD a 0
  have h2:=bf q9 (QN (R.length+2*L.length+1) B.ms W R.length);rw [OX] at h2
  lia
theorem sM:jS 2 ["full","way","made_ready"] rH:=jR
include T in
theorem K9 (F:j7 K "passing" rH f fd) : FnOk P w K mg base jX 1 f fd ["full","way"] (C7):=by
 refine F.ok2 sM fun vs H Q E h=>?_
 obtain ⟨f,w₁,rfl,q⟩:=h;refine ⟨rfl,fun _ _ _ _ hr=>?_⟩;refine tk fun x0=>?_
 let u0:=ru x0 [0,0,0] (jG (jN 2 sM.nd (yU (vV (pv 0)) (kU (jB jV jD)) (kU jD)))
   (jM (jJ bB (pv 2) (vT (QH K) (by rfl) T.xy aX (jB (JN (v:=.ref aU) rfl T.xcp rfl) jD)))))
 let u1:=ru x0 [1] (jG (jN 2 sM.nd (yU (vV (pv 0)) (kU jD) (kU (jB jV jD))))
   (jM (jJ bB (pv 2) (vT (QH K) (by rfl) T.xy aX (jB (JN (v:=.ref aD) rfl T.xbs rfl) jD)))))
 refine ⟨_,(jG (kB (j5 kL (pv 1) jV) u0.h kD)
   u1.h),?_⟩
 try dsimp only [jU,jT]
 cases w₁ with
 |true =>
  refine ⟨_,rfl,rfl,jA rfl (kJ rfl ?_)⟩;cases f with
  |true =>
   refine (jA rfl (jA rfl (kW ?_)));refine ⟨(by show _<=sizeLine;decide),fun m hm0=>?_⟩;have s1:=jK hm0 (.lst ((["let"]:List Str).map V.str));refine (jA rfl (⟨aU,jA rfl (⟨.inr (T.up _),fun c hc=>?_⟩)⟩));have s2:=jK hc (.lst (upT.map V.str));refine ⟨m,c,_,_,rfl,rfl,s2 _ _ jF,jF,(by show _<=sizeLine;decide),fun r hr=>?_⟩;exact q r _ ((s1.trans s2).trans (jK hr _))
  |false =>
   refine (jA rfl (jA rfl (qV ?_)));refine ⟨(by show _<=sizeLine;decide),fun m hm0=>?_⟩;have s1:=jK hm0 (.lst (([]:List Str).map V.str));refine (jA rfl (⟨aU,jA rfl (⟨.inr (T.up _),fun c hc=>?_⟩)⟩));have s2:=jK hc (.lst (upT.map V.str));refine ⟨m,c,_,_,rfl,rfl,s2 _ _ jF,jF,(by show _<=sizeLine;decide),fun r hr=>?_⟩;exact q r _ ((s1.trans s2).trans (jK hr _))
 |false =>
  refine ⟨_,rfl,rfl,jA rfl (j4 (qR (by decide +kernel)) ?_)⟩;cases f with
  |true =>
   refine (jA rfl (jA rfl (kW ?_)));refine ⟨(by show _<=sizeLine;decide),fun m hm0=>?_⟩;have s1:=jK hm0 (.lst (([]:List Str).map V.str));refine (jA rfl (⟨aD,jA rfl (⟨.inr (T.down _),fun c hc=>?_⟩)⟩));have s2:=jK hc (.lst (downT.map V.str));refine ⟨m,c,_,_,rfl,rfl,s2 _ _ jF,jF,(by show _<=sizeLine;decide),fun r hr=>?_⟩;exact q r _ ((s1.trans s2).trans (jK hr _))
  |false =>
   refine (jA rfl (jA rfl (qV ?_)));refine ⟨(by show _<=sizeLine;decide),fun m hm0=>?_⟩;have s1:=jK hm0 (.lst ((["fill"]:List Str).map V.str));refine (jA rfl (⟨aD,jA rfl (⟨.inr (T.down _),fun c hc=>?_⟩)⟩));have s2:=jK hc (.lst (downT.map V.str));refine ⟨m,c,_,_,rfl,rfl,s2 _ _ jF,jF,(by show _<=sizeLine;decide),fun r hr=>?_⟩;exact q r _ ((s1.trans s2).trans (jK hr _))
theorem AD:jS 4 ["canal","ways","state","boat","step"] rF:=jR
include T in
theorem K7 (F:j7 K "pass_worked" rF f fd) (zm:Def P w K mg base 1 "next_step" ["way","place"] [] (mI)) (xbp:Def P w K mg base 1 "passing" ["full","way"] [] (C7)) (xv:MeD P w K mg base 2 cN "full" ["self","waters","k"] (fZ (jE cP cB cU) cR cN)):FnOk P w K mg base jX 3 f fd ["canal","ways","state","boat"] (CW (jE cP cB cU) cR cN):=by
 refine F.ok2 AD fun vs H Q E h=>?_
 refine FX h fun x wl st b us ys y p s₁ d ms pl D R L N h=>?_
 refine zK h fun e_ hG hy hpp hs q=>?_
 subst e_;refine ⟨rfl,fun _ _ _ _ hr=>?_⟩;refine tk fun x0=>?_
 let u0:=ru x0 [1] (jM (kR (jB (jY K (jH (kO K) (jY K (pv 0) rfl) (jH (jL K) (pv 4) jC)) rfl) (jB (jQ xbp hr rfl (jB (ZM xv hr (pv 0) (jB (jH (jL K) (pv 2) jC) (jB (jH (jL K) (pv 4) jC) jD))) (jB (jH (jL K) (pv 4) jC) jD))) jD))))
 refine ⟨_,(jG (jN 4 AD.nd (jQ zm hr rfl (jB (jH (kO K) (pv 1) (pv 3)) (jB (jH (jL K) (jH (jL K) (pv 2) jC) (pv 3)) jD))))
   u0.h),?_⟩
 try dsimp only [jU,jT]
 obtain ⟨hc,hdr,hwl,hA,hst,hfl,hml⟩:=id hG;obtain ⟨wt,pt,hst1,hwt,hpt⟩:=id hst;have hc0:=hc;obtain ⟨dx,rl,ll,nl,fs,rs,ls,nv,hx,hf,hrl,hll,hnl,hR,hL,hN,d1,d2,d3⟩:=hc;obtain ⟨v,hv,hWy⟩:=hA.get hy;obtain ⟨t₁,st₁,us₁,rfl,g1,g2,g3⟩:=id hWy;have hkL:s₁.1<L.length:=(hfl.ok y (av hy)).lt s₁ (av hs);obtain ⟨l,hl'⟩:∃l,L[s₁.1]?=some l:=⟨_,aa hkL⟩;obtain ⟨vl,hvl,yl,rfl,dl,hl⟩:=hL.get hl';refine (jA rfl (jA rfl (qA (so hwl) (kQ hv) ((jA rfl (jI (SqT.of hst1) rfl ((jA rfl (jI (SqT.of hpt) (kQ (v:=.int (p:Int)) (by rw [ak,hpp];rfl)) ((vY t₁ y p s₁ (qI rfl hWy hs (fun v₂ hPs=>?_)))))))))))));obtain ⟨ts,rfl,hts⟩:=hPs;refine (jA rfl (j0 hx (T.clN) (T.xg) (hf.2.1) ((jA rfl (jI (SqT.of hts) rfl (qA (so hll) (kQ hvl) (j0 hl (T.cl l.kd) (T.vo l.kd) (bY l.kd _ _ _ _ _) (?_))))))));refine (jA rfl (⟨x,dx,jA rfl (⟨hx,hf.no3 (by decide +kernel),jA rfl (jI (SqT.of hst1) rfl ((jA rfl (jI (SqT.of hts) rfl ((JT x wt D R L N ms s₁.1 (vG rfl hc0 hwt (by lia) (jA rfl (jI (SqT.of hts) rfl (⟨bG R.length ms s₁.1,s₁.2,rfl,fun lw H1 s1=>⟨zz2,fun tt htt=>q tt _ (s1.trans (jK htt _))⟩⟩))))))))))⟩)⟩))
theorem NM:jS 2 ["book","entry"] r9:=jR
include T in
theorem LW (F:j7 K "ways_behind" r9 f fd) (xj:MeD P w K mg base 1 cO "ways" ["self"] (vJ (jE cP cB cU) cR cN cO (JE BkS.us))) (vx:DefX P w K mg base 3 "way_told" ["canal","entry"] [] (tU (jE cP cB cU) cR cN eU)) (xa:MeD P w K mg base 1 cO "canal" ["self"] (JY (jE cP cB cU) cR cN cO)):FnOk P w K mg base (kA P w) 4 f fd ["book","entry"] (qQ (jE cP cB cU) cR cN cO FE):=by
 refine F.okX2 NM fun vs H Q E h=>?_
 refine zA h fun b t x A R L N B e h=>?_
 refine zK h fun e_ hq hen hsm hc q=>?_
 subst e_;refine ⟨rfl,fun _ _ _ _ hr=>?_⟩;refine tk fun x0=>?_
 let u0:=ru x0 [0,0,0] (jM (jJ bB (kN xj hr (pv 0)) (kU (jB (k7 vx kP hr rfl (jB (kN xa hr (pv 0)) (jB (pv 1) jD))) jD))))
 refine ⟨_,(jG (kB (j5 kL (jH (jL K) (pv 1) jC) jV) u0.h kD)
   (jM (kN xj hr (pv 0)))),?_⟩
 try dsimp only [jU,jT]
 obtain ⟨db,fs,hb,hno⟩:=hq.ins;have r8:=hq.ok.dr.r8;have l8:=hq.ok.dr.l8;have z9:=hq.ok.z9;have zl:=hq.ok.zl
 rcases B9 e with hk|⟨e,rfl⟩
 ·obtain ⟨tl,hh⟩:=hen.head;refine (jA rfl (jI (SqT.of hh) yW (⟨rfl,jA rfl (j4 (fun z=>hk (V.str.inj z)) (jA rfl (⟨b,db,jA rfl (⟨hb,hno _ (by decide +kernel),kS b x A R L N B (kK rfl hq (fun l H1 s1 hl0 hl=>q l _ H1 s1 hl0 hl ?_))⟩)⟩)))⟩)));have he:bD R L B e=B.ys:=by cases e<;>first|rfl|exact absurd rfl hk
  rw [he];exact (hq.same s1).wyH
 obtain ⟨st0,fB,h1,h2,h3⟩:=id hen;obtain ⟨y,hy,hok,hnz,h9⟩:=uM (show qZ R L B.zs e=0 from hc);have hl8:=hsm.2.1;have hwe:bD R L B (.come e)=B.ys++[y]:=by show B.ys++(y6 R L e).toList=_;rw [hy];rfl
 refine (jA rfl (jI (SqT.of h1) rfl (⟨rfl,jA rfl (kJ rfl (jA rfl (⟨b,db,jA rfl (⟨hb,hno _ (by decide +kernel),kS b x A R L N B (kK rfl hq (fun wl H1 s1 hwl0 hwl=>?_))⟩)⟩)))⟩)));have hA:=(hq.same s1).wyH;refine (jA rfl (⟨b,db,jA rfl (⟨(s1 _ _ hb),hno _ (by decide +kernel),kS b x A R L N B (kK rfl (hq.same s1) (jA rfl ((kS x t e ([]) R L N (QE rfl ((hq.same s1).cnH) (c8 r8) (c8 l8) (CoAt.same s1 hen) (by lia) (fun y' hy' w1 H2 s2 hw0 hwy=>?_) (fun hn=>absurd hn (by rw [hy];simp)))))))⟩)⟩));rw [hy] at hy';cases hy';refine ⟨zz1,fun l2 hl20=>?_⟩;have u:=jK hl20 (.lst [V.ref w1]);have hul:=hA.1;refine ⟨wl,l2,_,_,rfl,rfl,u _ _ (s2 _ _ hwl),jF,dL (by rw [aO];lia),fun p hp=>?_⟩;have v:=jK hp (.lst (B.us++[V.ref w1]));have w2:=(s2.trans u).trans v;refine q p _ _ ((s1.trans s2).trans (u.trans v)) (((s1.trans s2).trans u).free hp) jF ?_;rw [hwe];exact (hA.mono (WyAt.same w2)).snoc (WyAt.same (u.trans v) _ _ hwy)
theorem sQ:jS 2 ["book","entry","state","waters"] rT:=jR
include T in
theorem LN (F:j7 K "state_behind" rT f fd) (xb:MeD P w K mg base 1 cO "state" ["self"] (vJ (jE cP cB cU) cR cN cO JW)) (xw:Def P w K mg base 1 "poured_all" ["waters","pours"] [] (gK K)) (zw:DefX P w K mg base 10 "entry_pours" ["book","entry"] [] (qQ (jE cP cB cU) cR cN cO wH)) (xaQ:Def P w K mg base 2 "counted_on" ["state","deed","waters"] [] (B4)) (zv:DefX P w K mg base 4 "deed_of" ["book","entry"] [] (qQ (jE cP cB cU) cR cN cO mX)):FnOk P w K mg base (kA P w) 11 f fd ["book","entry"] (qQ (jE cP cB cU) cR cN cO EO):=by
 refine F.okX2 sQ fun vs H Q E h=>?_
 refine zA h fun b t x A R L N B e h=>?_
 refine zS h fun e_ hq hen hsm hc hw q=>?_
 subst e_;refine ⟨rfl,fun _ _ _ _ hr=>?_⟩;refine tk fun x0=>?_
 let u0:=ru x0 [2,0,0] (jM (kR (j9 (jH (jL K) (pv 2) jC) (pv 3) (jJ SV (jH (jL K) (pv 2) jC) (kR (jB jC jD))))))
 let u1:=ru x0 [3] (jG (kB (PW.pt (mT (j5 kL (jH (jL K) (pv 1) jC) jV) (mJ (j5 kL (jH (jL K) (pv 1) jC) jV)))) (jM (kR (j9 (jH (jL K) (pv 2) jC) (pv 3) (jH (jL K) (pv 2) jC)))) kD)
   (jM (jQ xaQ hr rfl (j9 (pv 2) (k7 zv kP hr rfl (jB (pv 0) (jB (pv 1) jD))) (pv 3)))))
 let u2:=ru x0 [2] (jG (kB (j5 kL (jH (jL K) (pv 1) jC) jV) u0.h kD)
   u1.h)
 let u3:=ru x0 [1] (jG (jN 3 sQ.nd (jQ xw hr rfl (jB (jH (jL K) (pv 2) jC) (jB (k7 zw kP hr rfl (jB (pv 0) (jB (pv 1) jD))) jD))))
   u2.h)
 refine ⟨_,(jG (jN 2 sQ.nd (kN xb hr (pv 0)))
   u3.h),?_⟩
 try dsimp only [jU,jT]
 obtain ⟨db,fs,hb,hno⟩:=hq.ins;obtain ⟨wt,pt,g1,g2,g3⟩:=hq.stH;have ml:=hq.ok.ml;have r8:=hq.ok.dr.r8;have l8:=hq.ok.dr.l8;have hpl:=hq.ok.fl.len;have hp10:=hq.ok.fl.n10;refine (jA rfl (⟨b,db,jA rfl (⟨hb,hno _ (by decide +kernel),kS b x A R L N B (kK rfl hq (?_))⟩)⟩));refine (jA rfl (jI (SqT.of g1) rfl ((jA rfl (jA rfl ((vM b t x A R L N B e (zN rfl hq hen hsm hc hw (fun l zs qs H1 s1 hl0 hl hP hzl=>?_)))))))));refine (vO wt l B.ms zs qs (qU rfl (.inr (SqT.of (s1 _ _ g2))) (so hl) hP.pa (by lia) (fun r H2 s2 hr0 hr=>?_)));have s12:=s1.trans s2;obtain ⟨tl,hh⟩:=(EnAt.same s12 hen).head;have g1':=s12 _ _ g1
 by_cases hdd:eG e=true
 ·obtain ⟨k1,k2,k3⟩:=tZ hdd;obtain ⟨de,hde,_⟩:=uW hq.ok.zl hdd hc;refine (jA rfl (jI (SqT.of hh) yW (⟨rfl,jA rfl (j4 (fun z=>k1 (V.str.inj z)) (jA rfl (jI (SqT.of hh) yW (⟨rfl,jA rfl (j4 (fun z=>k2 (V.str.inj z)) (jA rfl (jI (SqT.of hh) yW (⟨rfl,jA rfl (j4 (fun z=>k3 (V.str.inj z)) ?_)⟩))))⟩))))⟩)));refine (jA rfl (jA rfl (jA rfl ((vM b t x A R L N B e (vG rfl (hq.same s12) (hen.same s12) hsm ⟨de,hde,fun dd H3 s3 hdd=>?_⟩))))));have s13:=s12.trans s3;refine (jA rfl ((JT B.st dd r de B.d B.ms _ B.pl (qU rfl ((hq.same s13).stH) hdd (s3 _ _ hr) (by lia) (fun st H4 s4 hst0 hst=>?_)))));have e1:=WN (e:=e) ‹_› hde;rw [e1.1,e1.2] at q;exact q st (qN B.ms qs) H4 (s13.trans s4) hst (QG _ _)
 have tr:(e=e/\QA R L B e=B.pl/\eZ B e=B.d)->(3<=sizeLine/\∀t3,H2 t3=none->Q (.ref t3) (upd H2 t3 (.tup [.int B.d,.ref r,.ref pt]))):=fun ⟨_,p1,p2⟩=>⟨by decide,fun t3 ht3=>by
  have v:=jK ht3 (.tup [V.int B.d,V.ref r,V.ref pt]);rw [p1,p2] at q;exact q t3 _ _ (s12.trans v) ⟨r,pt,jF,v _ _ hr,v _ _ (s12 _ _ g3)⟩ (QG _ _)⟩
 cases e with
 |pas n=>exact absurd rfl hdd
 |lt n=>exact absurd rfl hdd
 |night W=>exact absurd rfl hdd
 |take n a=>exact (jA rfl (jI (SqT.of (s12 _ _ hen)) rfl (⟨rfl,jA rfl (j4 (qR (by decide +kernel)) (jA rfl (jI (SqT.of (s12 _ _ hen)) rfl (⟨rfl,jA rfl (kJ rfl (jA rfl (jI (SqT.of g1') rfl ((jA rfl (jA rfl (jI (SqT.of g1') rfl (tr ⟨rfl,rfl,rfl⟩))))))))⟩))))⟩)))
 |rain n a=>exact (jA rfl (jI (SqT.of (s12 _ _ hen)) rfl (⟨rfl,jA rfl (j4 (qR (by decide +kernel)) (jA rfl (jI (SqT.of (s12 _ _ hen)) rfl (⟨rfl,jA rfl (j4 (qR (by decide +kernel)) (jA rfl (jI (SqT.of (s12 _ _ hen)) rfl (⟨rfl,jA rfl (kJ rfl (jA rfl (jI (SqT.of g1') rfl ((jA rfl (jA rfl (jI (SqT.of g1') rfl (tr ⟨rfl,rfl,rfl⟩))))))))⟩))))⟩))))⟩)))
 |come e =>
  obtain ⟨st0,fB,h1,h2,h3⟩:=id hen;refine (jA rfl (jI (SqT.of (s12 _ _ h1)) rfl (⟨rfl,jA rfl (kJ rfl ?_)⟩)));refine (jA rfl (jI (SqT.of g1') rfl ((jA rfl (jA rfl (jI (SqT.of g1') rfl (⟨zz1,fun p hp=>?_⟩)))))));have u:=jK hp (.tup [V.int 0]);have fin:∀pt2 H3,Same (upd H2 p (.tup [V.int 0])) H3->H3 pt2=some (.tup ((B.pl++[0]).map fun (p:Nat)=>V.int (p:Int)))->(3<=sizeLine/\∀t3,H3 t3=none->Q (.ref t3) (upd H3 t3 (.tup [.int B.d,.ref r,.ref pt2]))):=fun pt2 H3 s3 h=>⟨by decide,fun t3 ht3=>by
   have v:=jK ht3 (.tup [V.int B.d,V.ref r,V.ref pt2]);exact q t3 _ _ ((s12.trans u).trans (s3.trans v)) ⟨r,pt2,jF,v _ _ (s3 _ _ (u _ _ hr)),v _ _ h⟩ (QG _ _)⟩
  refine ⟨pt,p,_,_,rfl,rfl,SqT.of (u _ _ (s12 _ _ g3)),SqT.of jF,(by simp),dL (by rw [ac];show B.pl.length+1<=1000;lia),fun hn=>?_,fun hn p2 hp2=>?_⟩
  ·have h0:B.pl=[]:=map_eq_nil_iff.mp hn;exact fin p _ (Same.refl _) (by rw [h0];exact jF)
  ·have v:=jK hp2 (.tup ((B.pl.map fun (p:Nat)=>V.int (p:Int))++[V.int 0]));exact fin p2 _ v (by rw [jF,aw];rfl)
theorem NQ:jS 2 ["book","entry"] sE:=jR
include T in
theorem L5 (F:j7 K "words_worked" sE f fd) (xaG:Def P w K mg base 3 "pass_worked" ["canal","ways","state","boat"] [] (CW (jE cP cB cU) cR cN)) (xa:MeD P w K mg base 1 cO "canal" ["self"] (JY (jE cP cB cU) cR cN cO)) (xj:MeD P w K mg base 1 cO "ways" ["self"] (vJ (jE cP cB cU) cR cN cO (JE BkS.us))) (xb:MeD P w K mg base 1 cO "state" ["self"] (vJ (jE cP cB cU) cR cN cO JW)) (xi:DefX P w K mg base 3 "number_named" ["book","entry"] [] (qQ (jE cP cB cU) cR cN cO (cL eU))):FnOk P w K mg base (kA P w) 4 f fd ["book","entry"] (qQ (jE cP cB cU) cR cN cO FV):=by
 refine F.okX2 NQ fun vs H Q E h=>?_
 refine zA h fun b t x A R L N B e h=>?_
 refine zS h fun e_ hq hen hsm hc hw q=>?_
 subst e_;refine ⟨rfl,fun _ _ _ _ hr=>?_⟩;refine tk fun x0=>?_
 let u0:=ru x0 [1,0,0] (jM (kU (jB (jQ xaG hr rfl (yB (kN xa hr (pv 0)) (kN xj hr (pv 0)) (kN xb hr (pv 0)) (k7 xi kP hr rfl (jB (pv 0) (jB (pv 1) jD))))) jD)))
 let u1:=ru x0 [1] (jG (kB (j5 kL (jH (jL K) (pv 1) jC) jV) u0.h kD)
   (jM (kU jD)))
 refine ⟨_,(jG (kB (j5 kL (jH (jL K) (pv 1) jC) jV) (jM (kU (jB (kR (jB (jH (jL K) (pv 1) jC) (jB (kU (jB jV jD)) jD))) jD))) kD)
   u1.h),?_⟩
 try dsimp only [jU,jT]
 obtain ⟨db,fs,hb,hno⟩:=hq.ins
 rcases RN e with hk|⟨n,rfl⟩|⟨n,rfl⟩
 ·obtain ⟨tl,hh⟩:=hen.head;exact (jA rfl (jI (SqT.of hh) yW (⟨rfl,jA rfl (j4 (fun z=>hk.1 (V.str.inj z)) (jA rfl (jI (SqT.of hh) yW (⟨rfl,jA rfl (j4 (fun z=>hk.2 (V.str.inj z)) ⟨aL _,fun l hl=>q l [] _ (jK hl _) hl jF (aL _)⟩)⟩))))⟩)))
 ·have h1:=id hen;obtain ⟨i,hi⟩:=Z4 (e:=.pas n) rfl hc;have hi:kH B.zs n=some i:=hi;have hiz:=Q7 hi;have zl:=hq.ok.zl;have fl:=hq.ok.fl;have hwd:cH R L B.ys B.ms B.pl i="":=by
   have e1:y0 R L N B (.pas n)=match yZ R L B.zs (.pas n) with|some de=>QT R L N.length B.ys B.d B.ms B.pl de|none=>"":=rfl
   rw [e1,(show yZ R L B.zs (.pas n)=some (.pass i) from by show (kH B.zs n).map Deed.pass=_;rw [hi];rfl)] at hw;exact hw
  obtain ⟨y,hy⟩:∃y,B.ys[i]?=some y:=⟨_,aa (by lia)⟩;obtain ⟨p,hp⟩:∃p,B.pl[i]?=some p:=⟨_,aa (by rw [fl.len];lia)⟩;have hple:=fl.le i y p hy hp;have hne:=uB hwd;rw [show B.ys.getD i (0,[])=y by rw [ad,hy];rfl,show B.pl.getD i 0=p by rw [ad,hp];rfl] at hne;obtain ⟨s₁,hs⟩:∃s,y.2[p]?=some s:=⟨_,aa (by lia)⟩;refine (jA rfl (jI (SqT.of h1) rfl (⟨rfl,jA rfl (j4 (qR (by decide +kernel)) (jA rfl (jI (SqT.of h1) rfl (⟨rfl,jA rfl (kJ rfl (jA rfl (⟨b,db,jA rfl (⟨hb,hno _ (by decide +kernel),kS b x A R L N B (kK rfl hq (jA rfl (⟨b,db,jA rfl (⟨hb,hno _ (by decide +kernel),kS b x A R L N B (kK rfl hq (fun wl H2 s2 hwl0 hwl=>?_))⟩)⟩)))⟩)⟩)))⟩))))⟩)));refine (jA rfl (⟨b,db,jA rfl (⟨(s2 _ _ hb),hno _ (by decide +kernel),kS b x A R L N B (kK rfl (hq.same s2) (jA rfl (jA rfl (⟨b,t,x,A,R,L,N,B,.pas n,rfl,hq.same s2,EnAt.same s2 hen,hsm,rfl,fun j hj H3 s3=>?_,fun hn=>absurd (hi.symm.trans hn) (by simp)⟩))))⟩)⟩));cases hi.symm.trans hj;have s23:=s2.trans s3;refine (xA x wl B.st i B.us B.ys y p s₁ B.d B.ms B.pl ([]) R L N (qU rfl ((hq.same s23).stage (s3 _ _ hwl)) hy hp hs (fun tt H4 s4=>⟨zz1,fun l hl=>?_⟩)));have v:=jK hl (.lst [V.ref tt]);have s24:=s23.trans s4;exact q l [.ref tt] _ (s24.trans v) (s24.free hl) jF (aj _)
 ·have h1:=id hen;refine (jA rfl (jI (SqT.of h1) rfl (⟨rfl,jA rfl (kJ rfl (jA rfl (jI (SqT.of h1) rfl (⟨zz1,fun lw hlw=>⟨zz2,fun tt htt=>⟨zz1,fun l hl=>?_⟩⟩⟩))))⟩)));have u1:=jK hlw (.lst [V.str "let"]);have u2:=jK htt (.tup [V.str n,V.ref lw]);have u3:=jK hl (.lst [V.ref tt]);exact q l [.ref tt] _ ((u1.trans u2).trans u3) ((u1.trans u2).free hl) jF (aj _)
theorem MB:jS 2 ["self","entry"] oQ:=jR
include T in
theorem HN (F:Fun K "fault" "Book.fault" oQ f fd) (jf:DefX P w K mg base 5 "refuse_wrong" ["book","entry"] [] (qQ (jE cP cB cU) cR cN cO (GJ eB eT eM eU eL eN eD))) (jg:DefX P w K mg base 9 "why_no_entry" ["book","entry"] [] (qQ (jE cP cB cU) cR cN cO GI)):FnOk P w K mg base (kA P w) 10 f fd ["self","entry"] (qQ (jE cP cB cU) cR cN cO (mM eB eT eM eU eL eN eD)):=by
 refine F.okX2 MB fun vs H Q E h=>?_
 refine zA h fun b t x A R L N B e h=>?_
 refine zK h fun e_ hq hen hsm qv qe=>?_
 subst e_;refine ⟨rfl,fun _ _ _ _ hr=>?_⟩;refine ⟨_,(jG (vB (k7 jf kP hr rfl (jB (pv 0) (jB (pv 1) jD))))
   (jM (k7 jg kP hr rfl (jB (pv 0) (jB (pv 1) jD))))),?_⟩
 try dsimp only [jU,jT]
 refine (jA rfl (jA rfl ((vM b t x A R L N B e (qU rfl hq hen hsm (fun h0 H1 s1=>?_) qe)))));exact (jA rfl (jA rfl ((vM b t x A R L N B e (qU rfl (hq.same s1) (hen.same s1) hsm h0 (fun H2 s2=>qv h0 H2 (s1.trans s2)))))))
theorem x8:jS 2 ["self","entry","word"] oN:=jR
include T in
theorem HK (F:Fun K "behind" "Book.behind" oN f fd) (zj:MeX P w K mg base 10 cO "fault" ["self","entry"] (qQ (jE cP cB cU) cR cN cO (mM eB eT eM eU eL eN eD))) (jh:DefX P w K mg base 11 "state_behind" ["book","entry"] [] (qQ (jE cP cB cU) cR cN cO EO)) (xad:DefX P w K mg base 4 "ways_behind" ["book","entry"] [] (qQ (jE cP cB cU) cR cN cO FE)):FnOk P w K mg base (kA P w) 12 f fd ["self","entry"] (qQ (jE cP cB cU) cR cN cO (uU eB eT eM eU eL eN eD eW)):=by
 refine F.okX2 x8 fun vs H Q E h=>?_
 refine zA h fun b t x A R L N B e h=>?_
 refine zS h fun e_ hq hen hsm qv qn qe=>?_
 subst e_;refine ⟨rfl,fun _ _ _ _ hr=>?_⟩;refine tk fun x0=>?_
 let u0:=ru x0 [1] (jG (kB (j5 ZF (pv 2) jV) (kF (QJ QI rfl rfl T.ua T.jz (jB (pv 2) jD))) kD)
   (jM (kR (jB (k7 xad kP hr rfl (jB (pv 0) (jB (pv 1) jD))) (jB (k7 jh kP hr rfl (jB (pv 0) (jB (pv 1) jD))) jD)))))
 refine ⟨_,(jG (jN 2 x8.nd (JC zj kP hr (pv 0) (jB (pv 1) jD)))
   u0.h),?_⟩
 try dsimp only [jU,jT]
 obtain ⟨db,fs,hb,hno⟩:=hq.ins;refine (jA rfl (⟨b,db,jA rfl (⟨hb,hno _ (by decide +kernel),jA rfl ((vM b t x A R L N B e (qU rfl hq hen hsm (fun h0 H1 s1=>?_) qe)))⟩)⟩))
 by_cases hw:y0 R L N B e=""
 case neg=>exact ⟨_,rfl,rfl,jA rfl (ZI (fun z=>hw (V.str.inj z)) (jA rfl (⟨by show 1<=sizeLine;decide,qn h0 hw H1 s1⟩)))⟩
 refine ⟨_,rfl,rfl,jA rfl (ZJ (bz V.str hw) ?_)⟩;refine (jA rfl (jA rfl ((vM b t x A R L N B e (qU rfl (hq.same s1) (hen.same s1) hsm h0 (fun l us H2 s2 hl0 hl hA=>?_))))));have s12:=s1.trans s2;refine (jA rfl (jA rfl ((vM b t x A R L N B e (zN rfl (hq.same s12) (hen.same s12) hsm h0 hw (fun st ms H3 s3 hst hms=>?_))))));refine ⟨zz2,fun p hp=>?_⟩;have u:=jK hp (.tup [V.ref l,V.ref st]);have s3u:=s3.trans u;exact qv h0 hw p l st us ms _ (s12.trans s3u) jF (s1.free hl0) (s3u _ _ hl) (hA.mono (WyAt.same s3u)) (hst.same u) hms
theorem i0:jS 2 ["self","entry","come_to","poured","worked"] oP:=jR
include T in
theorem HM (F:Fun K "do" "Book.do" oP f fd) (xae:MeX P w K mg base 12 cO "behind" ["self","entry"] (qQ (jE cP cB cU) cR cN cO (uU eB eT eM eU eL eN eD eW))) (zw:DefX P w K mg base 10 "entry_pours" ["book","entry"] [] (qQ (jE cP cB cU) cR cN cO wH)) (ji:DefX P w K mg base 4 "words_worked" ["book","entry"] [] (qQ (jE cP cB cU) cR cN cO FV)):FnOk P w K mg base (kA P w) 13 f fd ["self","entry"] (w5 (jE cP cB cU) cR cN cO eB eT eM eU eL eN eD eW):=by
 refine F.okX2 i0 fun vs H Q E h=>?_
 refine zA h fun b t x A R L N B e h=>?_
 refine zS h fun e_ hq hen hsm qv qn qe=>?_
 subst e_;refine ⟨rfl,fun _ _ _ _ hr=>?_⟩;refine tk fun x0=>?_
 let u0:=ru x0 [7] (jG (vB (yH aF PySem.F.slot_list_extend PySem.F.type_list_extend B8 (jY K (pv 0) rfl) (jB (pv 4) jD)))
   (kF (vB (yH aF aQ aR zE (jY K (pv 0) rfl) (jB (pv 1) jD)))))
 let u1:=ru x0 [6] (jG (vB (yH aF PySem.F.slot_list_extend PySem.F.type_list_extend B8 (jY K (pv 0) rfl) (jB (pv 3) jD)))
   u0.h)
 let u2:=ru x0 [5] (jG (vI (pv 0) (jH (jL K) (pv 2) jC) rfl)
   u1.h)
 let u3:=ru x0 [4] (jG (vI (pv 0) (jH (jL K) (pv 2) jC) rfl)
   u2.h)
 let u4:=ru x0 [3] (bV (kB (j5 kL (jH (jL K) (pv 1) jC) jV) (kF (vB (yH aF aQ aR zE (jY K (pv 0) rfl) (jB (jH (jL K) (pv 1) jC) jD)))) kD)
   u3.h)
 let u5:=ru x0 [2] (jG (jN 4 i0.nd (k7 ji kP hr rfl (jB (pv 0) (jB (pv 1) jD))))
   u4.h)
 let u6:=ru x0 [1] (jG (jN 3 i0.nd (k7 zw kP hr rfl (jB (pv 0) (jB (pv 1) jD))))
   u5.h)
 refine ⟨_,(jG (jN 2 i0.nd (JC xae kP hr (pv 0) (jB (pv 1) jD)))
   u6.h),?_⟩
 try dsimp only [jU,jT]
 obtain ⟨db,fs,hb,hno⟩:=hq.ins;obtain ⟨db',nl,wl,pl,ql,el,fs',hA,hb',hfl,hf,hnl,hpl,hql,hel,hnd,hwl⟩:=hq.ob;obtain ⟨rfl,rfl⟩:db=db'/\fs=fs':=by rw [hb] at hb';cases hb';exact ⟨rfl,rfl⟩
 clear hb' hwl;have z9:=hq.ok.z9;have o1:=hq.ok.pn;have o2:=hq.ok.qn;refine (jA rfl (⟨b,db,jA rfl (⟨hb,hno _ (by decide +kernel),jA rfl ((vM b t x A R L N B e (zN rfl hq hen hsm (fun hc hw p l st us ms' H1 s1 hp hl0 hl hAw hst hms=>?_) qn qe)))⟩)⟩));obtain ⟨he15,qv⟩:=qv hc hw;refine (jA rfl (jA rfl ((vM b t x A R L N B e (zN rfl (hq.same s1) (hen.same s1) hsm hc hw (fun l1 ps1 qs1 H2 s2 hl10 hl1 hP hp1=>?_))))));have s12:=s1.trans s2;refine (jA rfl (jA rfl ((vM b t x A R L N B e (zN rfl (hq.same s12) (hen.same s12) hsm hc hw (fun l2 vs H3 s3 hl20 hl2 hv1=>?_))))));have s13:=s12.trans s3;have s23:=s2.trans s3
 replace hl1:=s3 _ _ hl1
 replace hp:=s23 _ _ hp
 replace hl:=s23 _ _ hl
 replace hAw:=hAw.mono (WyAt.same s23)
 replace hst:=hst.same s23
 replace hP:=hP.same s3
 have hb3:=s13 _ _ hb;have hnl3:=s13 _ _ hnl;have hpl3:=s13 _ _ hpl;have hql3:=s13 _ _ hql;have hel3:=s13 _ _ hel;have old:∀(a c:Addr) (o:HO) (G:Hp),H a=some o->Same H G->G c=none->c≠a:=fun a c o G h s hc=>(kZ (s _ _ h) hc).symm
 have nn:=hnd;simp only [cu,ao,ay,bo,not_or,not_false_eq_true,du,and_true] at nn;obtain ⟨⟨n12,n13,n14⟩,⟨n23,n24⟩,n34⟩:=nn;have nnb:nl≠b:=vL hnl hb (fun z=>nomatch z);have npb:pl≠b:=vL hpl hb (fun z=>nomatch z);have nqb:ql≠b:=vL hql hb (fun z=>nomatch z);have neb:el≠b:=vL hel hb (fun z=>nomatch z);have np:p≠nl:=vL hp hnl3 (fun z=>nomatch z);have npB:p≠b:=vL hp hb3 (fun z=>nomatch z);refine ⟨fun σ Hj=>σ=[some (.ref b),some (.ref t),some (.ref p),some (.ref l1),some (.ref l2)]/\Hj nl=some (.lst ((QX B e).map V.str))/\∀a,a≠nl->Hj a=H3 a,?_,?_⟩
 ·have hen3:=EnAt.same s13 hen
  rcases B9 e with hk|⟨e,rfl⟩
  ·obtain ⟨tl,hh⟩:=hen3.head;have he:QX B e=B.zs:=by cases e<;>first|rfl|exact absurd rfl hk
   exact (jA rfl (jI (SqT.of hh) yW (⟨rfl,jA rfl (j4 (fun z=>hk (V.str.inj z)) ⟨rfl,by rw [he];exact hnl3,fun _ _=>rfl⟩)⟩)))
  obtain ⟨st0,fB,h1,h2,h3⟩:=id hen3;refine (jA rfl (jI (SqT.of h1) rfl (⟨rfl,jA rfl (kJ rfl (jA rfl (j0 hb3 (T.clO) (T.nO_kept_names) (hf.2.1) (⟨.inl ⟨rfl,_,so hnl3⟩,jA rfl (jI (SqT.of h1) rfl (⟨nl,_,_,rfl,rfl,hnl3,qJ (by rw [ac];lia),rfl,?_,fun a ha=>jP ha⟩))⟩))))⟩)));rw [jF];show some (HO.lst _)=some (HO.lst ((B.zs++[e.name]).map V.str));rw [aw];rfl
 rintro σ H4 ⟨rfl,hnl4,g4⟩;refine (jA rfl (jI (SqT.of (show H4 p=_ by rw [g4 p np];exact hp)) rfl ((jA rfl ((vY b cO db fs (qU rfl (by rw [g4 b nnb.symm];exact hb3) T.clO T.nO_kept_ways (by lia) (?_))))))));refine (jA rfl (jI (SqT.of (show upd H4 b _ p=_ by rw [jP npB,g4 p np];exact hp)) rfl ((jA rfl (⟨b,cO,db,jO "kept_ways" (.ref l) fs,rfl,jF,T.clO,T.nO_kept_state,(by have:=zO "kept_ways" (.ref l) fs;lia),?_⟩)))));have F:=(hf.put2 (.ref l)).put3 (.ref st);have hb6:upd (upd H4 b (.ins cO db (jO "kept_ways" (.ref l) fs))) b (.ins cO db (jO "kept_state" (.ref st) (jO "kept_ways" (.ref l) fs))) b=some (.ins cO db (jO "kept_state" (.ref st) (jO "kept_ways" (.ref l) fs))):=jF;have g6:∀a,a≠nl->a≠b->upd (upd H4 b (.ins cO db (jO "kept_ways" (.ref l) fs))) b (.ins cO db (jO "kept_state" (.ref st) (jO "kept_ways" (.ref l) fs))) a=H3 a:=fun a h1 h2=>by rw [jP h2,jP h2,g4 a h1]
 have n6:upd (upd H4 b (.ins cO db (jO "kept_ways" (.ref l) fs))) b (.ins cO db (jO "kept_state" (.ref st) (jO "kept_ways" (.ref l) fs))) nl=some (.lst ((QX B e).map V.str)):=by rw [jP nnb,jP nnb];exact hnl4
 generalize upd (upd H4 b (.ins cO db (jO "kept_ways" (.ref l) fs))) b (.ins cO db (jO "kept_state" (.ref st) (jO "kept_ways" (.ref l) fs)))=H6 at hb6 g6 n6 ⊢;have lf:(jO "kept_state" (.ref st) (jO "kept_ways" (.ref l) fs)).length<=7+2*(B.es.length+1):=by
  have h1:=zO "kept_ways" (.ref l) fs;have h2:=zO "kept_state" (.ref st) (jO "kept_ways" (.ref l) fs)
  lia
 generalize jO "kept_state" (.ref st) (jO "kept_ways" (.ref l) fs)=fs6 at hb6 F lf;have p6:H6 pl=some (.lst B.ps):=by rw [g6 pl (Ne.symm n12) npb];exact hpl3
 have l16:H6 l1=some (.lst ps1):=by rw [g6 l1 (old _ _ _ _ hnl s1 hl10) (old _ _ _ _ hb s1 hl10)];exact hl1
 refine (jA rfl (j0 hb6 (T.clO) (T.nO_kept_pours) (F.2.2.2.2.1) (⟨.inl ⟨rfl,_,so p6⟩,jA rfl (⟨pl,l1,B.ps,ps1,rfl,rfl,p6,l16,dL (by lia),?_⟩)⟩)));have q7:upd H6 pl (.lst (B.ps++ps1)) ql=some (.lst B.qs):=by rw [jP (Ne.symm n23),g6 ql (Ne.symm n13) nqb];exact hql3
 have l27:upd H6 pl (.lst (B.ps++ps1)) l2=some (.lst vs):=by rw [jP (old _ _ _ _ hpl s12 hl20),g6 l2 (old _ _ _ _ hnl s12 hl20) (old _ _ _ _ hb s12 hl20)];exact hl2
 refine (jA rfl (j0 (by rw [jP (Ne.symm npb)];exact hb6) (T.clO) (T.nO_kept_words) (F.2.2.2.2.2.1) (⟨.inl ⟨rfl,_,so q7⟩,jA rfl (⟨ql,l2,B.qs,vs,rfl,rfl,q7,l27,dL (by lia),?_⟩)⟩)));have e8:upd (upd H6 pl (.lst (B.ps++ps1))) ql (.lst (B.qs++vs)) el=some (.lst B.es):=by rw [jP (Ne.symm n34),jP (Ne.symm n24),g6 el (Ne.symm n14) neb];exact hel3
 refine (jA rfl (j0 (by rw [jP (Ne.symm nqb),jP (Ne.symm npb)];exact hb6) (T.clO) (T.nO_kept_entries) (F.2.2.2.2.2.2.1) (⟨.inl ⟨rfl,_,so e8⟩,jA rfl (⟨el,_,_,rfl,rfl,e8,qJ (by lia),?_⟩)⟩)));have memA:∀a,a∉A->a≠b/\a≠nl/\a≠pl/\a≠ql/\a≠el:=fun a h=>by
  rw [hA] at h;simp only [ao,ay,bo,not_or] at h;exact h
 have hd9:kX (upd (upd (upd H6 pl (.lst (B.ps++ps1))) ql (.lst (B.qs++vs))) el (.lst (B.es++[.ref t]))) A=kX H3 A:=VB fun a ha=>by
  obtain ⟨m1,m2,m3,m4,m5⟩:=memA a ha;rw [jP m5,jP m4,jP m3,g6 a m2 m1]
 have inA:∀a∈A,∃o,H a=some o/\∀l',o≠.tup l':=fun a h=>by
  rw [hA] at h;simp only [ao,ay,bo] at h
  rcases h with rfl|rfl|rfl|rfl|rfl
  ·exact ⟨_,hb,fun _ z=>nomatch z⟩
  ·exact ⟨_,hnl,fun _ z=>nomatch z⟩
  ·exact ⟨_,hpl,fun _ z=>nomatch z⟩
  ·exact ⟨_,hql,fun _ z=>nomatch z⟩
  ·exact ⟨_,hel,fun _ z=>nomatch z⟩
 have nT:∀a∈A,∀l',H3 a≠some (.tup l'):=fun a h l' e=>by
  obtain ⟨o,ho,hn⟩:=inA a h;rw [s13 _ _ ho] at e;exact hn l' (az e)
 have nF:∀a G,Same H G->G a=none->a∉A:=fun a G s h z=>by
  obtain ⟨o,ho,_⟩:=inA a z;rw [s _ _ ho] at h;cases h
 obtain ⟨fl',zl',z9'⟩:=TD hq.ok hsm hc hw;refine qv ⟨QX B e,bD R L B e,eZ B e,ms',QA R L B e,us,st,B.ps++ps1,B.qs++vs,B.es++[.ref t]⟩ _ ⟨⟨db,nl,l,pl,ql,el,fs6,hA,?_,?_,F,?_,?_,?_,jF,hnd,?_⟩,?_,?_,?_,?_⟩ rfl (by show (B.es++[_]).length=_;rw [ag];rfl) ?_
 ·rw [jP (Ne.symm neb),jP (Ne.symm nqb),jP (Ne.symm npb)];exact hb6
 ·show fs6.length<=7+2*(B.es++[V.ref t]).length;rw [ag];exact lf
 ·rw [jP n14,jP n13,jP n12];exact n6
 ·rw [jP n24,jP n23];exact jF
 ·rw [jP n34];exact jF
 ·rw [hd9,yO (nF l H (Same.refl _) hl0)];exact hl
 ·rw [hd9];exact hq.cn.same (JJ s13)
 ·rw [hd9];exact hAw.mono (WyAt.del nT)
 ·rw [hd9];exact StAt.del nT hst
 ·refine ⟨hq.ok.dr,fl',by show ms'.length=_;rw [hms];exact hq.ok.ml,TU hq.ok.d0,zl',z9',by show (B.es++[_]).length<=20;rw [ag];exact he15,?_,?_⟩
  ·show (B.ps++ps1).length<=24*(B.es++[_]).length;rw [ag,ag,aO]
   lia
  ·show (B.qs++vs).length<=(B.es++[_]).length;rw [ag,ag,aO]
   lia
 ·rw [hd9];exact JJ s13
theorem NE:jS 2 ["row","way"] iU:=jR
include T in
theorem LB (F:j7 K "places_last_first" iU f fd) : FnOk P w K mg base jX 1 f fd ["row","way"] (C6 K):=by
 refine F.ok2 NE fun vs H Q E h=>?_
 refine cQ h fun r bs b h=>?_
 refine zT h fun e_ hR hn q=>?_
 subst e_;refine ⟨rfl,fun _ _ _ _ hr=>?_⟩;refine ⟨_,(jM (nX ["place","way","row"] [1,0] (qX (j8 iU)) (UJ (by rfl) T.xn (j9 (jJ yE (qF K T.xk (pv 0)) jC) (gL gF jC) (gL gF jC))) (fun _ _ _ _ _=>(Z6 (j5 kL (jH (kO K) (pv 2) (pv 0)) (pv 1)))) (fun _ _ _ _ _=>(pv 0)))),?_⟩
 try dsimp only [jU,jT]
 refine (jA rfl (⟨r,jA rfl (⟨.inl hR,_,_,rfl,rfl,jA rfl (jA rfl (⟨(bs.map wv).length,rfl,by rw [ac];exact hn,fun l hl=>?_⟩))⟩)⟩));refine PN (n:=(bs.map wv).length) (caps:=[some (wv b),some (.ref r)]) (fun i ys Hi=>ys=((((List.range bs.length).drop (bs.length - i)).filter fun k=>bs.getD k false == b).reverse).map vS) hl (by rw [Nat.sub_zero,drop_of_length_le (by rw [aT];exact aj _)];rfl) ?_ ?_
 ·rintro i ys Hi hi hle sm hY rfl;rw [ac] at hi;have e:(((bs.map wv).length:Nat):Int) - 1 - (i:Int)=((bs.length - 1 - i:Nat):Int):=by rw [ac];lia
  rw [e];refine (jA rfl (jA rfl (⟨r,_,_,_,rfl,rfl,sm.seq hR,TZ (by lia),jA rfl (⟨UA _ _,jA rfl (?_)⟩)⟩)));rw [WM]
  by_cases hc:(bs.getD (bs.length - 1 - i) false == b)=true
  ·rw [hc];refine kW (jA rfl (yS hl sm hY hle (by lia) (Same.refl _) ?_));rw [BI hi,bx,if_pos hc,reverse_cons,aw];rfl
  ·rw [dc.mpr hc];refine qV (dP sm hY hle (Same.refl _) ?_);rw [BI hi,bx,if_neg hc]
 ·rintro ys Hf sm hY hle rfl;rw [ac,ij,drop_zero] at hY;exact q l Hf sm hl hY
theorem NA:jS 2 ["full","waiting"] rB:=jR
include T in
theorem K0 (F:j7 K "next_way" rB f fd) : FnOk P w K mg base jX 1 f fd ["full","waiting"] (D8):=by
 refine F.ok2 NA fun vs H Q E h=>?_
 refine QV h fun f w x y xs ys h=>?_
 refine J4 h fun e_ hw hx hy q=>?_
 subst e_;refine ⟨rfl,fun _ _ _ _ hr=>?_⟩;have hu1:=wT hr;refine ⟨_,(jG (kB (vV (pv 0)) (jM (yU (DG (gB hu1 (pv 1) jV (fun _ _=>rfl)) (fun _=>rfl)) jV jV)) kD)
   (jM (yU (DG (gB hu1 (pv 1) jV (fun _ _=>rfl)) (fun _=>rfl)) jV jV))),?_⟩
 try dsimp only [jU,jT]
 refine (jA rfl (jA rfl (?_)));cases f with
 |true =>
  refine kW (jA rfl (⟨w,jA rfl (⟨mG false hw,_,.inl ⟨ys,so hy,rfl⟩,?_⟩)⟩))
  change (fun v=>Q v H) (wv (ys.isEmpty)) at q
  cases e:ys.isEmpty
  ·rw [e] at q;exact kW q
  ·rw [e] at q;exact qV q
 |false =>
  refine qV (jA rfl (⟨w,jA rfl (⟨mG true hw,_,.inl ⟨xs,so hx,rfl⟩,?_⟩)⟩))
  change (fun v=>Q v H) (wv (!xs.isEmpty)) at q
  cases e:xs.isEmpty
  ·rw [e] at q;exact kW q
  ·rw [e] at q;exact qV q
theorem bR:jS 2 ["full","row","waiting","order","stands_full","turn","way"] rY:=jR
include T in
theorem LR (F:j7 K "thrifty" rY f fd) (zo:Def P w K mg base 1 "places_last_first" ["row","way"] [] (C6 K)) (xbd:Def P w K mg base 1 "next_way" ["full","waiting"] [] (D8)):FnOk P w K mg base jX 3 f fd ["full","row"] (BX K):=by
 refine F.ok2 bR fun vs H Q E h=>?_
 refine cQ h fun f r bs h=>?_
 refine zT h fun e_ hR hn q=>?_
 subst e_;refine ⟨rfl,fun _ _ _ _ hr=>?_⟩;have hu1:=wT hr;refine tk fun x0=>?_
 let u0:=ru x0 [3,0,1] (jG (vB (yH aF aQ aR zE (pv 3) (jB (V5 aF PySem.F.slot_list_pop PySem.F.type_list_pop V9 (gB hu1 (pv 2) (pv 6) (fun _ _=>rfl))) jD)))
   (kF (jN 4 bR.nd (zV kL (pv 6) jV))))
 let u1:=ru x0 [3,0,0] (jG (jN 6 bR.nd (jQ xbd hr rfl (jB (pv 4) (jB (pv 2) jD))))
   u0.h)
 let u2:=ru x0 [3] (jG (yX di rfl (JK (by rfl) T.xn (jB (qF K T.xk (pv 1)) jD)) (kI (i:=5) bR.nd rfl (.inl rfl))
    u1.h)
   (jM (pv 3)))
 let u3:=ru x0 [2] (jG (jN 4 bR.nd (pv 0))
   u2.h)
 let u4:=ru x0 [1] (jG (jN 3 bR.nd (kU jD))
   u3.h)
 refine ⟨_,(jG (jN 2 bR.nd (EK (dS jV (jQ zo hr rfl (jB (pv 1) (jB jV jD))) (dS jV (jQ zo hr rfl (jB (pv 1) (jB jV jD))) EG)) rfl rfl (cons_ne_nil _ _) (by decide)))
   u4.h),?_⟩
 try dsimp only [jU,jT]
 refine fun w hw0=>?_
 have s0:=jK hw0 (.dK []);refine (jA rfl ((vA r bs true (qI rfl (s0.seq hR) hn (fun x H1 s1 hx0 hx=>?_)))));refine (jA rfl ((vA r bs false (qI rfl (s1.seq (s0.seq hR)) hn (fun y H2 s2 hy0 hy=>?_)))));have hw2:H2 w=some (.dK []):=s2 _ _ (s1 _ _ jF);refine ⟨hw2,[(.inr "up",.ref x),(.inr "down",.ref y)],rfl,(by show 2<=15;decide),?_⟩;rw [S5];have hx2:=s2 _ _ hx;have nwx:x≠w:=vL hx2 hw2 (fun z=>nomatch z);have nwy:y≠w:=vL hy hw2 (fun z=>nomatch z);have nxy:x≠y:=kZ hx hy0;have sH:Same H (upd H2 w (.dK (QC (.ref x) (.ref y)))):=kY hw0 ((s0.trans s1).trans s2);have fx:H x=none:=s0.free hx0;have fy:H y=none:=(s0.trans s1).free hy0;have hw3:upd H2 w (.dK (QC (.ref x) (.ref y))) w=some (.dK (QC (.ref x) (.ref y))):=jF;have hx3:upd H2 w (.dK (QC (.ref x) (.ref y))) x=some (.lst ((yP true bs).reverse.map vS)):=by rw [jP nwx];exact hx2
 have hy3:upd H2 w (.dK (QC (.ref x) (.ref y))) y=some (.lst ((yP false bs).reverse.map vS)):=by rw [jP nwy];exact hy
 generalize upd H2 w (.dK (QC (.ref x) (.ref y)))=H3 at sH hw3 hx3 hy3 ⊢;refine ⟨zz0,fun ol hol0=>?_⟩;have s4:=jK hol0 (.lst []);have nox:x≠ol:=kZ hx3 hol0;have noy:y≠ol:=kZ hy3 hol0;have now:w≠ol:=kZ hw3 hol0;have fo:H ol=none:=sH.free hol0;refine ⟨_,rfl,_,rfl,r,_,rfl,.inl (s4.seq (sH.seq hR)),_,rfl,by lia,by rw [ac];lia,Q4 (n:=(((bs.map wv).length:Nat):Int).toNat)
  (fun i σ Hi=>∃f' us ds o c1 c2,σ=[some (.bl f),some (.ref r),some (.ref w),some (.ref ol),some (.bl f'),c1,c2]/\Hi w=some (.dK (QC (.ref x) (.ref y)))/\Hi x=some (.lst (us.reverse.map vS))/\Hi y=some (.lst (ds.reverse.map vS))/\Hi ol=some (.lst (o.map vS))/\o.length=i/\us.length+ds.length+i=bs.length/\
   (∀o',Thr f' us ds o'->Thr f (yP true bs) (yP false bs) (o++o'))/\Same H Hi)
  ⟨f,yP true bs,yP false bs,[],none,none,rfl,s4 _ _ hw3,s4 _ _ hx3,s4 _ _ hy3,jF,rfl,by rw [Nat.add_zero];exact AN bs,fun o' h=>h,sH.trans s4⟩ ?_ ?_⟩
 ·rintro i σ Hi hi ⟨f',us,ds,o,c1,c2,rfl,jw,jx,jy,jo,hol,htot,hthr,sm⟩;have hi':i<bs.length:=by rw [ac] at hi;lia
  refine (jA rfl (jA rfl (⟨f',w,x,y,_,jA rfl (⟨jw,jx,jy,?_⟩)⟩)))
  rcases OY f' us ds (by lia) with ⟨u,us',rfl,en,hc⟩|⟨d,ds',rfl,en,hc⟩
  ·rw [en];have jx':Hi x=some (.lst (us'.reverse.map vS++[vS u])):=by rw [jx,reverse_cons,aw];rfl
   refine (jA rfl (⟨.inl ⟨rfl,_,so jo⟩,jA rfl (jA rfl (⟨w,jA rfl (⟨mG true jw,.inl ⟨rfl,_,so jx'⟩,x,_,vS u,rfl,rfl,jx',by simp,?_⟩)⟩))⟩));rw [dropLast_concat];refine ⟨ol,_,_,rfl,rfl,by rw [jP nox.symm];exact jo,qJ (by rw [ac];lia),?_⟩;refine ⟨_,rfl,rfl,?_⟩;rw [show decide (wv true=V.str "up")=true from wK true];refine ⟨true,us',ds,o++[u],_,jA rfl (⟨?_,?_,?_,?_,by rw [ag,hol];rfl,by rw [aZ] at htot;lia,fun o' h=>?_,kY fo (kY fx sm)⟩)⟩
   ·rw [jP now,jP nwx.symm];exact jw
   ·rw [jP nox,jF]
   ·rw [jP noy,jP nxy.symm];exact jy
   ·rw [jF,DC]
   ·rw [fh];exact hthr (u::o') (.up hc h)
  ·rw [en];have jy':Hi y=some (.lst (ds'.reverse.map vS++[vS d])):=by rw [jy,reverse_cons,aw];rfl
   refine (jA rfl (⟨.inl ⟨rfl,_,so jo⟩,jA rfl (jA rfl (⟨w,jA rfl (⟨mG false jw,.inl ⟨rfl,_,so jy'⟩,y,_,vS d,rfl,rfl,jy',by simp,?_⟩)⟩))⟩));rw [dropLast_concat];refine ⟨ol,_,_,rfl,rfl,by rw [jP noy.symm];exact jo,qJ (by rw [ac];lia),?_⟩;refine ⟨_,rfl,rfl,?_⟩;rw [show decide (wv false=V.str "up")=false from wK false];refine ⟨false,us,ds',o++[d],_,jA rfl (⟨?_,?_,?_,?_,by rw [ag,hol];rfl,by rw [aZ] at htot;lia,fun o' h=>?_,kY fo (kY fy sm)⟩)⟩
   ·rw [jP now,jP nwy.symm];exact jw
   ·rw [jP nox,jP nxy];exact jx
   ·rw [jP noy,jF]
   ·rw [jF,DC]
   ·rw [fh];exact hthr (d::o') (.down hc h)
 ·rintro σ Hi ⟨f',us,ds,o,c1,c2,rfl,jw,jx,jy,jo,hol,htot,hthr,sm⟩;rw [ac,ax] at htot;have eu:us=[]:=eq_nil_of_length_eq_zero (by lia);have ed:ds=[]:=eq_nil_of_length_eq_zero (by lia);subst eu ed;have ht:=hthr [] (.nil f');rw [bb] at ht;exact (jA rfl (q ol Hi o sm fo jo ht))
theorem bS:jS 2 ["book","name","k","row","boat","way","place","step"] rZ:=jR
include T in
theorem LU (F:j7 K "waiting_sides" rZ f fd) (xm:MeX P w K mg base 2 cN "lock_at" ["self","name"] (JZ (jE cP cB cU) cR cN eU 1)) (xa:MeD P w K mg base 1 cO "canal" ["self"] (JY (jE cP cB cU) cR cN cO)) (xl:MeD P w K mg base 1 cO "names" ["self"] (vJ (jE cP cB cU) cR cN cO (JE fun B=>B.zs.map V.str))) (xj:MeD P w K mg base 1 cO "ways" ["self"] (vJ (jE cP cB cU) cR cN cO (JE BkS.us))) (xb:MeD P w K mg base 1 cO "state" ["self"] (vJ (jE cP cB cU) cR cN cO JW)) (zz:Def P w K mg base 1 "steps_to_do" ["way","place"] [] (wB)) (zm:Def P w K mg base 1 "next_step" ["way","place"] [] (mI)):FnOk P w K mg base (kA P w) 3 f fd ["book","name"] (ZB (jE cP cB cU) cR cN cO eU wG):=by
 refine F.okX2 bS fun vs H Q E h=>?_
 refine JQ h fun b x nm A R L N B h=>?_
 refine zT h fun e_ hq qv qe=>?_
 subst e_;refine ⟨rfl,fun _ _ _ _ hr=>?_⟩;refine tk fun x0=>?_
 let u0:=ru x0 [2,0,0,0,1] (kF (kB (j5 kL (jH (jL K) (pv 7) jC) (pv 2)) (kF (vB (yH aF aQ aR zE (pv 3) (jB (kR (jB (pv 4) (jB (jH (jL K) (pv 7) jC) jD))) jD)))) kD))
 let u1:=ru x0 [2,0,0,0,0] (jG (jN 7 bS.nd (jQ zm hr rfl (jB (pv 5) (jB (pv 6) jD))))
   u0.h)
 let u2:=ru x0 [2,0,0] (kF (kB (j5 eR (jQ zz hr rfl (jB (pv 5) (jB (pv 6) jD))) jC) u1.h kD))
 let u3:=ru x0 [2] (jG (yX bA rfl (UH (by rfl) T.uw (j9 (kN xl hr (pv 0)) (kN xj hr (pv 0)) (jH (jL K) (kN xb hr (pv 0)) jC))) (gI rfl (qB (kI (i:=4) bS.nd rfl (.inl rfl)) (qB (kI (i:=5) bS.nd rfl (.inl rfl)) (qB (kI (i:=6) bS.nd rfl (.inl rfl)) yQ))))
    u2.h)
   (jM (pv 3)))
 let u4:=ru x0 [1] (jG (jN 3 bS.nd (kU jD))
   u3.h)
 refine ⟨_,(jG (jN 2 bS.nd (JC xm kP hr (kN xa hr (pv 0)) (jB (pv 1) jD)))
   u4.h),?_⟩
 try dsimp only [jU,jT]
 obtain ⟨db,fs,hb,hno⟩:=hq.ins;have hcn:=hq.cnH;obtain ⟨dx,rl,ll,nl,gs,rs,ls,nv,hx,hf,hrl,hll,hnl,hR,hL,hN,d1,d2,d3⟩:=id hcn;have r8:=hq.ok.dr.r8;have l8:=hq.ok.dr.l8;have z9:=hq.ok.z9;have zl:=hq.ok.zl;have fl:=hq.ok.fl;refine (jA rfl (⟨b,db,jA rfl (⟨hb,hno _ (by decide +kernel),kS b x A R L N B (kK rfl hq (?_))⟩)⟩));refine ⟨x,dx,jA rfl (⟨hx,hf.no3 (by decide +kernel),jA rfl ((JI x ([]) R L N nm (qU rfl hcn (c8 r8) (c8 l8) (fun k hk H1 s1=>?_) (fun hn H1 s1=>qe (Q6 hn) H1 s1))))⟩)⟩;have hk:kH (L.map (·.name)) nm=some k:=Q5 hk;have qv:=qv k hk;refine ⟨aL _,fun rw₁ hrw0=>?_⟩;have u1:=jK hrw0 (.lst []);have t1:=s1.trans u1;refine (jA rfl (⟨b,db,jA rfl (⟨(t1 _ _ hb),hno _ (by decide +kernel),kS b x A R L N B (kK rfl (hq.same t1) (fun nl₁ H2 s2 hnl0 hnl₁=>?_))⟩)⟩));have t2:=t1.trans s2;refine (jA rfl (⟨b,db,jA rfl (⟨(t2 _ _ hb),hno _ (by decide +kernel),kS b x A R L N B (kK rfl (hq.same t2) (fun wl H3 s3 hwl0 hwl=>?_))⟩)⟩));have t3:=t2.trans s3;obtain ⟨wt,pt,g1,g2,g3⟩:=(hq.same t3).stH;have hul:=hq.wy.1;have hA:=(hq.same t3).wyH;have fr:=s1.free hrw0;have hrw3:H3 rw₁=some (.lst []):=s3 _ _ (s2 _ _ jF);have n1:nl₁≠rw₁:=(kZ (jF (H:=H1) (a:=rw₁)) hnl0).symm;have n2:wl≠rw₁:=(kZ (s2 _ _ (jF (H:=H1) (a:=rw₁))) hwl0).symm;have tn:∀a l,H3 a=some (.tup l)->a≠rw₁:=fun a l h=>vL h hrw3 (fun z=>nomatch z)
 refine (jA rfl (⟨b,db,jA rfl (⟨(t3 _ _ hb),hno _ (by decide +kernel),kS b x A R L N B (kK rfl (hq.same t3) (jI (SqT.of g1) rfl ((vA nl₁ wl pt (vG rfl ⟨_,so (s3 _ _ hnl₁)⟩ ⟨_,so hwl⟩ ⟨_,SqT.of g3⟩ (TB (K:=K) (a1:=nl₁) (a2:=wl) (a3:=pt) (xs:=B.zs.map V.str) (ys:=B.us) (zs:=B.pl.map fun (p:Nat)=>V.int (p:Int)) (fun i σ Hi=>∃us c4 c5 c6 c7,σ=[some (.ref b),some (.str nm),some (.int ((k:Nat):Int)),some (.ref rw₁),c4,c5,c6,c7]/\Hi rw₁=some (.lst us)/\AllAt (SAt Hi) us (J3 B.zs B.ys B.pl k i)/\(∀a o,a≠rw₁->H3 a=some o->Hi a=some o)/\Same H Hi) (vO ([]) none none none none (vG rfl hrw3 AllAt.nil (fun _ _ _ h=>h) t3)) (fun i σ Hi _ ⟨_,_,_,_,_,_,_,_,kp,_⟩=>⟨so (kp _ _ n1 (s3 _ _ hnl₁)),so (kp _ _ n2 hwl),SqT.of (kp _ _ (tn _ _ g3) g3)⟩) (by rw [hul,ac,zl]) (by rw [ac,ac,fl.len,zl]) ?_ ?_))))))⟩)⟩))
 ·rintro i vb vw vp σ Hi T₁ hvb hvw hvp ⟨us,c4,c5,c6,c7,rfl,hrw,hR0,kp,sm⟩ hT;rw [ak] at hvb hvp;obtain ⟨z,hz,rfl⟩:=aP.mp hvb;obtain ⟨p,hp,rfl⟩:=aP.mp hvp;obtain ⟨y,hy,hWy⟩:=hA.2 i vw hvw;obtain ⟨tw,sw,vs,rfl,w1,w2,w3⟩:=hWy;have hi:=(af.mp hz).1;have u:=jK hT (.tup [V.str z,V.ref tw,V.int (p:Int)]);have ey:B.ys.getD i (0,[])=y:=by rw [ad,hy];rfl
  have ep:B.pl.getD i 0=p:=by rw [ad,hp];rfl
  have ez:B.zs.getD i ""=z:=by rw [ad,hz];rfl
  have hul2:=hR0.1;have hrl:=fV B.zs B.ys B.pl k i;have ew:zP B.ys B.pl k i=match y.2[p]? with|some s=>if s.1=k then some s.2 else none|none=>none:=by unfold zP;rw [ey,ep];try rfl
  refine ⟨T₁,jA rfl (⟨SqT.of jF,rfl,_,jA rfl (⟨_,jA rfl (⟨_,_,rfl,rfl,?_⟩)⟩)⟩)⟩;have hrw':=u _ _ hrw;have kp':∀a o,a≠rw₁->H3 a=some o->upd Hi T₁ (.tup [V.str z,V.ref tw,V.int (p:Int)]) a=some o:=fun a o h1 h2=>u _ _ (kp a o h1 h2)
  have sm':=sm.trans u;have hR1:=hR0.mono (SAt.same u);generalize upd Hi T₁ (.tup [V.str z,V.ref tw,V.int (p:Int)])=Hj at hrw' kp' sm' hR1 ⊢;have kt:∀a l,H3 a=some (.tup l)->Hj a=some (.tup l):=fun a l h=>kp' a _ (tn a l h) h
  have hWj:WyAt Hj (.ref tw) y:=(vA tw sw vs (qI rfl (kt _ _ w1) (kt _ _ w2) (w3.mono fun v q ⟨t,e,h⟩=>⟨t,e,kt _ _ h⟩)));have skip:zP B.ys B.pl k i=none->AllAt (SAt Hj) us (J3 B.zs B.ys B.pl k (i+1)):=fun h=>by
   rw [dO,h];show AllAt (SAt Hj) us (_++[]);rw [bb];exact hR1
  refine (jA rfl (jA rfl (⟨tw,y,(p:Int),rfl,hWj,_,_,rfl,rfl,jA rfl (?_)⟩)))
  by_cases hpl:p<y.2.length
  case neg =>
   rw [bh (by lia)] at ew;exact j4 (by lia) ⟨us,_,_,_,jA rfl (⟨hrw',skip ew,kp',sm'⟩)⟩
  obtain ⟨s₁,hs⟩:∃s,y.2[p]?=some s:=⟨_,aa hpl⟩;rw [hs] at ew;have ew:zP B.ys B.pl k i=if s₁.1=k then some s₁.2 else none:=ew
  refine kJ (by lia) (jA rfl (jA rfl ((vY tw y p s₁ (qI rfl hWj hs (fun v₂ hPs=>?_))))));obtain ⟨ts,rfl,hts⟩:=hPs;refine (jA rfl (jI (SqT.of hts) rfl (⟨_,rfl,rfl,jA rfl (?_)⟩)))
  by_cases hsk:s₁.1=k
  case neg =>
   rw [if_neg hsk] at ew;exact j4 (fun z=>hsk (by have:=V.int.inj z;lia)) ⟨us,_,_,_,jA rfl (⟨hrw',skip ew,kp',sm'⟩)⟩
  rw [if_pos hsk] at ew;refine kJ (by rw [hsk]) (jA rfl (⟨.inl ⟨rfl,_,so hrw'⟩,jA rfl (jA rfl (jI (SqT.of hts) rfl (⟨zz2,fun t2 ht2=>?_⟩)))⟩));have v2:=jK ht2 (.tup [V.str z,V.str (yI s₁.2)]);refine ⟨rw₁,_,_,rfl,rfl,v2 _ _ hrw',qJ (by lia),us++[.ref t2],_,_,_,jA rfl (⟨jF,?_,(fun a o h1 h2=>by rw [jP h1];exact v2 _ _ (kp' a o h1 h2)),kY fr (sm'.trans v2)⟩)⟩;rw [dO,ew,ez];exact ((hR1.mono (SAt.same v2)).snoc (v:=.ref t2) (x:=(z,s₁.2)) ⟨t2,rfl,jF⟩).mono (SAt.put (v2 _ _ hrw'))
 rintro σ Hi ⟨us,c4,c5,c6,c7,rfl,hrw,hR0,kp,sm⟩;rw [ac] at hR0;exact (jA rfl (qv rw₁ us Hi sm fr hrw hR0))
theorem NL:jS 2 ["book","name"] iW:=jR
include T in
theorem LS (F:j7 K "waiting" iW f fd) (zi:DefX P w K mg base 3 "waiting_sides" ["book","name"] [] (ZB (jE cP cB cU) cR cN cO eU wG)):FnOk P w K mg base (kA P w) 4 f fd ["book","name"] (ZB (jE cP cB cU) cR cN cO eU wQ):=by
 refine F.okX2 NL fun vs H Q E h=>?_
 refine JQ h fun b x nm A R L N B h=>?_
 refine zT h fun e_ hq qv qe=>?_
 subst e_;refine ⟨rfl,fun _ _ _ _ hr=>?_⟩;refine ⟨_,(jM (JM ["boat","side"] (qW 2 []) rfl (qX (j8 iW)) (cps 2 []) (vQ (k7 zi kP hr rfl (jB (pv 0) (jB (pv 1) jD)))) (fun _ _ _ _ _=>(zX (n:=2) K rfl (qB (kI (i:=0) (show List.Nodup (["boat","side"]:List Str) from by decide +kernel) rfl (.inl rfl)) (qB (kI (i:=1) (show List.Nodup (["boat","side"]:List Str) from by decide +kernel) rfl (.inl rfl)) yQ)))) (fun _ _ _ _ _=>yT) (fun _ _ _ _ _=>(pv 0)))),?_⟩
 try dsimp only [jU,jT]
 refine (jA rfl (jA rfl ((JT b x nm A R L N B (qI rfl hq (fun k hk l us H1 s1 hl0 hl hR=>?_) qe)))));have z9:=hq.ok.z9;have hrl:=fV B.zs B.ys B.pl k B.zs.length;have hul:=hR.1;have hbk:(vX B k).length<=9:=by unfold vX;lia
 refine ⟨l,rfl,⟨_,so hl⟩,fun bt hbt=>?_⟩;refine Z0 (K:=K) (a:=l) (xs:=us) (fun i σ Hi=>∃c1 c2,σ=[c1,c2]/\Hi bt=some (.lst (((vX B k).take i).map fun p=>V.str p.1))/\Same H1 Hi) ⟨none,none,rfl,jF,jK hbt _⟩ (fun i σ Hi _ ⟨_,_,_,_,s⟩=>so (s _ _ hl)) ?_ ?_
 ·rintro i v σ Hi hv ⟨c1,c2,rfl,hY,sm⟩;have hi:=(af.mp hv).1;obtain ⟨p,hp,t,rfl,ht⟩:=hR.2 i v hv;refine ⟨t,jA rfl (⟨SqT.of (sm _ _ ht),rfl,_,jA rfl (⟨_,_,rfl,rfl,vR (kW (jA rfl (⟨_,hY,qJ (by rw [ac,bg];lia),_,jA rfl (⟨?_,kY hbt sm⟩)⟩)))⟩)⟩)⟩;rw [jF,aG,hp,aw];rfl
 rintro σ Hf ⟨c1,c2,rfl,hY,sm⟩;rw [hul,aW] at hY;exact qv k hk bt Hf (s1.trans sm) (s1.free hbt) hY
theorem i5:jS 2 ["book","name","row","canal","full"] fG:=jR
include T in
theorem IZ (F:j7 K "advice" fG f fd) (zi:DefX P w K mg base 3 "waiting_sides" ["book","name"] [] (ZB (jE cP cB cU) cR cN cO eU wG)) (xa:MeD P w K mg base 1 cO "canal" ["self"] (JY (jE cP cB cU) cR cN cO)) (xv:MeD P w K mg base 2 cN "full" ["self","waters","k"] (fZ (jE cP cB cU) cR cN)) (xm:MeX P w K mg base 2 cN "lock_at" ["self","name"] (JZ (jE cP cB cU) cR cN eU 1)) (xb:MeD P w K mg base 1 cO "state" ["self"] (vJ (jE cP cB cU) cR cN cO JW)) (xbq:Def P w K mg base 3 "thrifty" ["full","row"] [] (BX K)):FnOk P w K mg base (kA P w) 4 f fd ["book","name"] (ZB (jE cP cB cU) cR cN cO eU w9):=by
 refine F.okX2 i5 fun vs H Q E h=>?_
 refine JQ h fun b x nm A R L N B h=>?_
 refine zT h fun e_ hq qv qe=>?_
 subst e_;refine ⟨rfl,fun _ _ _ _ hr=>?_⟩;refine tk fun x0=>?_
 let u0:=ru x0 [3] (jM (eY ["place","row"] [2] (qX (j8 fG)) (vQ (jQ xbq hr rfl (jB (pv 4) (jB (JM ["boat","side"] (qW 2 []) rfl (qX (j8 fG)) (cps 2 []) (vQ (pv 2)) (fun _ _ _ _ _=>(zX (n:=2) K rfl (qB (kI (i:=0) (show List.Nodup (["boat","side"]:List Str) from by decide +kernel) rfl (.inl rfl)) (qB (kI (i:=1) (show List.Nodup (["boat","side"]:List Str) from by decide +kernel) rfl (.inl rfl)) yQ)))) (fun _ _ _ _ _=>yT) (fun _ _ _ _ _=>(pv 1))) jD)))) (fun _ _ _ _ _=>(jH (jL K) (jH (kO K) (pv 1) (pv 0)) jC))))
 let u1:=ru x0 [2] (jG (jN 4 i5.nd (ZM xv hr (pv 3) (jB (jH (jL K) (kN xb hr (pv 0)) jC) (jB (JC xm kP hr (pv 3) (jB (pv 1) jD)) jD))))
   u0.h)
 let u2:=ru x0 [1] (jG (jN 3 i5.nd (kN xa hr (pv 0)))
   u1.h)
 refine ⟨_,(jG (jN 2 i5.nd (k7 zi kP hr rfl (jB (pv 0) (jB (pv 1) jD))))
   u2.h),?_⟩
 try dsimp only [jU,jT]
 obtain ⟨db,fs,hb,hno⟩:=hq.ins;have hcn:=hq.cnH;have r8:=hq.ok.dr.r8;have l8:=hq.ok.dr.l8;have ml:=hq.ok.ml;refine (jA rfl (jA rfl ((JT b x nm A R L N B (qI rfl hq (fun k hk rl₁ us H1 s1 hrl0 hrl₁ hR=>?_) qe)))));have z9:=hq.ok.z9;have hrw:=fV B.zs B.ys B.pl k B.zs.length;have hul:=hR.1;have hbk:(vX B k).length<=9:=by unfold vX;lia
 have hkL:=Q7 hk;rw [ac] at hkL;have qv:=qv k hk;refine (jA rfl (⟨b,db,jA rfl (⟨(s1 _ _ hb),hno _ (by decide +kernel),kS b x A R L N B (kK rfl (hq.same s1) (?_))⟩)⟩));obtain ⟨wt,pt,g1,g2,g3⟩:=(hq.same s1).stH;have hcn1:=(hq.same s1).cnH;obtain ⟨dx,rl,ll,nl,gs,rs,ls,nv,hx,hf,hrl,hll,hnl,hR',hL,hN,d1,d2,d3⟩:=id hcn1;refine (jA rfl (⟨x,dx,jA rfl (⟨hx,hf.no3 (by decide +kernel),jA rfl (⟨b,db,jA rfl (⟨(s1 _ _ hb),hno _ (by decide +kernel),kS b x A R L N B (kK rfl (hq.same s1) (jI (SqT.of g1) rfl ((jA rfl (⟨x,dx,jA rfl (⟨hx,hf.no3 (by decide +kernel),jA rfl ((JI x ([]) R L N nm (qU rfl hcn1 (c8 r8) (c8 l8) (fun i hi H2 s2=>?_) (fun hn=>absurd (hk.symm.trans (Q6 hn)) (by simp)))))⟩)⟩)))))⟩)⟩)⟩)⟩));cases hk.symm.trans (Q5 hi);refine (JT x wt ([]) R L N B.ms k (vG rfl (hcn1.same s2) (s2 _ _ g2) (by lia) (?_)));have hl2:=s2 _ _ hrl₁;have hR2:=hR.mono (SAt.same s2);refine (jA rfl (jA rfl (⟨rl₁,rfl,⟨_,so hl2⟩,fun bt hbt=>?_⟩)));refine Z0 (K:=K) (a:=rl₁) (xs:=us) (fun i σ Hi=>∃c1 c2,σ=[c1,c2]/\Hi bt=some (.lst (((vX B k).take i).map fun p=>V.str (yI p.2)))/\Same H2 Hi) ⟨none,none,rfl,jF,jK hbt _⟩ (fun i σ Hi _ ⟨_,_,_,_,s⟩=>so (s _ _ hl2)) ?_ ?_
 ·rintro i v σ Hi hv ⟨c1,c2,rfl,hY,sm⟩;have hi:=(af.mp hv).1;obtain ⟨p,hp,t,rfl,ht⟩:=hR2.2 i v hv;refine ⟨t,jA rfl (⟨SqT.of (sm _ _ ht),rfl,_,jA rfl (⟨_,_,rfl,rfl,vR (kW (jA rfl (⟨_,hY,qJ (by rw [ac,bg];lia),_,jA rfl (⟨?_,kY hbt sm⟩)⟩)))⟩)⟩)⟩;rw [jF,aG,hp,aw];rfl
 rintro σ H3 ⟨c1,c2,rfl,hY,s3⟩;rw [hul,aW,SK] at hY;refine (vA _ bt ((vX B k).map (·.2)) (qI rfl (so hY) (by rw [ac];lia) (fun ol H4 o s4 hol0 hol hT=>⟨ol,rfl,⟨_,so hol⟩,fun ct hct=>?_⟩)));have hlt:∀p∈o,p<us.length:=fun p hp=>by
  rw [hul,<- ac (f:=fun p:Str×Bool=>p.2)];exact (T2 hT p hp).elim (B5 p) (B5 p)
 have hol9:o.length<=9:=by
  rw [T3 hT,AN,ac];exact hbk
 have hl4:=s4 _ _ (s3 _ _ hl2);refine QF (K:=K) (a:=ol) (xs:=o.map vS) (caps:=[some (.ref rl₁)]) (fun i ys Hi=>ys=(o.take i).map (zJ (vX B k))) hct (so hol) rfl ?_ ?_
 ·rintro i v ys Hi hv hi hle sm hY rfl;rw [ak] at hv;obtain ⟨p,hp,rfl⟩:=aP.mp hv;obtain ⟨v1,hv1⟩:∃v1,us[p]?=some v1:=⟨_,aa (hlt p (av hp))⟩;obtain ⟨q,hq1,t,rfl,ht⟩:=hR2.2 p v1 hv1;have ht:=sm _ _ (s4 _ _ (s3 _ _ ht));refine vR (kW (jA rfl (jA rfl (qA (so (sm _ _ hl4)) (kQ hv1) (jI (SqT.of ht) rfl (yS hct sm hY hle (by rw [ac] at hi;lia) (Same.refl _) ?_))))));rw [aG,hp,aw];show _=_++[zJ (vX B k) p];unfold zJ;rw [ad (l:=vX B k),hq1];rfl
 rintro ys Hg sg hg hleg rfl;rw [ac,aW] at hg;exact qv ct o Hg (((s1.trans s2).trans (s3.trans s4)).trans sg) (((s1.trans s2).trans (s3.trans s4)).free hct) hg hT
def zI (ns:List Int) (k m:Int):Int:=if ns.length=0 then (k*k*7+3*k)%m else (ns.getD (k%(((ns.map V.int).length:Nat):Int)).toNat 0%1000003*(k*k+48271)+k*7919)%2147483647%m
theorem Z2 (ns:List Int) (k:Int) {m:Int} (h:1<=m):0<=zI ns k m/\zI ns k m<m:=by
 unfold zI
 split
 ·exact ⟨cm _ (by lia),bi _ (by lia)⟩
 ·exact ⟨cm _ (by lia),bi _ (by lia)⟩
def mB (K:W.Frag):Sp:=fun vs H Q _=>∃s ns,∃(k:Int) (m:Int),vs=[.ref s,.int k,.int m]/\SqL K H s (ns.map V.int)/\ns.length<=63/\0<=k/\k<=100000/\1<=m/\Q (.int (zI ns k m)) H
theorem TM {K:W.Frag}:∀vs H Q E,bZ K vs H Q E->mB K vs H Q (fun _ _ _=>False):=by
 rintro vs H Q E ⟨s,ns,k,m,e,h1,h2,h3,h4,h5,q⟩;exact ⟨s,ns,k,m,e,h1,h2,h3,h4,h5,q _ (Z2 ns k h5).1 (Z2 ns k h5).2⟩
theorem dQ (c n:Nat):(qE ⟨#[c]⟩ n).cps.toList=List.replicate n c:=by
 rw [uG];show (List.replicate n [c]).flatten=_;simp
theorem CS:("xyz":Str).cps.toList=[120,121,122]:=by decide +kernel
theorem lP (c s a b:Nat):(qE ⟨#[c]⟩ a++(⟨#[s]⟩:Str)++qE ⟨#[c]⟩ b).cps.toList=List.replicate a c++[s]++List.replicate b c:=by
 show ((qE ⟨#[c]⟩ a).cps++#[s]++(qE ⟨#[c]⟩ b).cps).toList=_;rw [Array.toList_append,Array.toList_append,dQ,dQ]
theorem VT (c n:Nat):qE ⟨#[c]⟩ n≠"xyz":=fun h=>by
 have h1:(qE ⟨#[c]⟩ n).cps.toList=[120,121,122]:=by rw [h];exact CS
 rw [dQ] at h1;have a1:(120:Nat)=c:=bu (n:=n) (by rw [h1];simp);have a2:(121:Nat)=c:=bu (n:=n) (by rw [h1];simp)
 lia
theorem UC (c s a b:Nat):qE ⟨#[c]⟩ a++(⟨#[s]⟩:Str)++qE ⟨#[c]⟩ b≠"xyz":=fun h=>by
 have h2:(qE ⟨#[c]⟩ a++(⟨#[s]⟩:Str)++qE ⟨#[c]⟩ b).cps.toList=[120,121,122]:=by rw [h];exact CS
 rw [lP] at h2
 match a,h2 with
 |0,h2 =>
  have h3:s::List.replicate b c=[120,121,122]:=h2;have h4:=(fm h3).2;have a1:(121:Nat)=c:=bu (n:=b) (by rw [h4];simp);have a2:(122:Nat)=c:=bu (n:=b) (by rw [h4];simp)
  lia
 |1,h2 =>
  have h3:c::s::List.replicate b c=[120,121,122]:=h2;have h4:=(fm (fm h3).2).2;have a1:(122:Nat)=c:=bu (n:=b) (by rw [h4];simp);have a2:=(fm h3).1
  lia
 |a+2,h2 =>
  have h3:c::c::(List.replicate a c++[s]++List.replicate b c)=[120,121,122]:=h2;have a1:=(fm h3).1;have a2:=(fm (fm h3).2).1
  lia
def xH (z:Str):Prop:=zH lettersS z=true/\z≠"xyz"/\z.length<=50
def NmsOk (zs:List Str):Prop:=zs.Nodup/\∀z∈zs,xH z
theorem NmsOk.take {zs:List Str} (h:NmsOk zs) (n:Nat):NmsOk (zs.take n):=⟨h.1.sublist (take_sublist n zs),fun z hz=>h.2 z (iq hz)⟩
theorem BF:∀z:Nat,z<26->mC z=97+z/\mY lettersS (97+z)=true:=by decide +kernel
theorem ER {z:Str} (h1:1<=z.length) (h2:z.length<=12) (h:∀c∈z.cps.toList,97<=c/\c<123):zH lettersS z=true:=by
 unfold zH;rw [aV (show 0<z.length by lia),aV (show z.length<13 by lia)];show cT lettersS z z.cps.size=true;unfold cT;rw [cw];intro c hc;obtain ⟨g1,g2⟩:=h c (iq hc);have:=(BF (c - 97) (by lia)).2
 rwa [show 97+(c - 97)=c by lia] at this
def QB (br:Bool) (ch a b e:Nat) (j:Nat):Str:=if br=true then qE ⟨#[97+ch]⟩ (j+1) else qE ⟨#[97+ch]⟩ a++(⟨#[97+(e+j)%26]⟩:Str)++qE ⟨#[97+ch]⟩ b
theorem tK (a b:Str):(a++b).length=a.length+b.length:=by
 show (a.cps++b.cps).size=a.cps.size+b.cps.size;exact Array.size_append
theorem V7 {br:Bool} {ch a b e j:Nat} (hc:ch<26) (hab:a+b<=11) (hj:j<12):xH (QB br ch a b e j):=by
 have one:∀(c n:Nat),(qE ⟨#[c]⟩ n).length=n:=fun c n=>by rw [lX];show n*1=n;lia
 unfold QB
 split
 ·refine ⟨ER (by rw [one];lia) (by rw [one];lia) fun c h=>?_,VT _ _,by rw [one];lia⟩;rw [dQ] at h;rw [bu h]
  lia
 ·have hl:(qE ⟨#[97+ch]⟩ a++(⟨#[97+(e+j)%26]⟩:Str)++qE ⟨#[97+ch]⟩ b).length=a+1+b:=by rw [tK,tK,one,one];rfl
  refine ⟨ER (by lia) (by lia) fun c h=>?_,UC _ _ _ _,by lia⟩;rw [lP] at h
  rcases ba.mp h with h|h
  ·rcases ba.mp h with h|h
   ·rw [bu h];lia
   ·rw [aS.mp h];lia
  ·rw [bu h];lia
theorem UW {br:Bool} {ch a b e i j:Nat} (hi:i<12) (hj:j<12) (h:QB br ch a b e i=QB br ch a b e j):i=j:=by
 unfold QB at h;have h:=bz (fun z:Str=>z.cps.toList) h;cases br
 ·simp only [hX,if_false] at h;rw [lP,lP] at h;have h:=append_cancel_left (append_cancel_right h);have h:=(fm h).1
  lia
 ·simp only [if_true] at h;rw [dQ,dQ] at h;have:=bz List.length h;rw [bw,bw] at this
  lia
theorem UX {br:Bool} {ch a b e m:Nat} (hc:ch<26) (hab:a+b<=11) (hm:m<=12):NmsOk ((List.range m).map (QB br ch a b e)):=by
 refine ⟨?_,fun z hz=>?_⟩
 ·refine pairwise_map.mpr (List.Pairwise.imp_of_mem (fun {i j} hi hj h z=>h (UW (e:=e) ?_ ?_ z)) nodup_range)
  ·have:=dq.mp hi;lia
  ·have:=dq.mp hj;lia
 ·obtain ⟨j,hj,rfl⟩:=gz.mp hz;have:=dq.mp hj;exact V7 hc hab (by lia)
def dN (K:W.Frag):Sp:=fun vs H Q _=>∃s,∃(ns:List Int) (k:Int) (m:Nat),vs=[.ref s,.int k,.int (m:Int)]/\SqL K H s (ns.map V.int)/\ns.length<=63/\0<=k/\k<=90000/\m<=12/\∀l zs H',Same H H'->H l=none->H' l=some (.lst (zs.map V.str))->zs.length=m->NmsOk zs->Q (.ref l) H'
theorem RI {K:W.Frag}:∀vs H Q E,dN K vs H Q E->dN K vs H Q (fun _ _ _=>False):=fun vs H Q E h=>h
theorem EW {i:Int} (h0:0<=i) (h1:i<26):qS ("abcdefghijklmnopqrstuvwxyz":Str).cps.toList i=some (97+i.toNat):=by
 rw [<- (BF i.toNat (by lia)).1];exact PQ h0 h1
def C4 (K:W.Frag) (cR:Addr):Sp:=fun vs H Q _=>∃s,∃(ns:List Int) (k:Nat) (u:Int) (nm:Str),vs=[.ref s,.int (k:Int),.int u,.str nm]/\SqL K H s (ns.map V.int)/\ns.length<=63/\k<8/\1<=u/\u<=10000000000/\∀x r H',r.good k->r.name=nm->Same H H'->H x=none->RcAt cR H' x r->Q (.ref x) H'
def EA (K:W.Frag) (cs:Kd->Addr):Sp:=fun vs H Q _=>∃s,∃(ns:List Int) (k n:Nat) (u:Int) (nm:Str),vs=[.ref s,.int (k:Int),.int (n:Int),.int u,.str nm]/\SqL K H s (ns.map V.int)/\ns.length<=63/\k<4/\2<=n/\n<=8/\1<=u/\u<=10000000000/\∀x l H',l.good n->l.name=nm->Same H H'->H x=none->LkO cs H' (.ref x) l->Q (.ref x) H'
def DB (K:W.Frag) (cs:Kd->Addr) (cR cN:Addr):Sp:=fun vs H Q _=>∃s,∃(ns:List Int) (mr ml mn:Nat),vs=[.ref s,.int (mr:Int),.int (ml:Int),.int (mn:Int)]/\SqL K H s (ns.map V.int)/\ns.length<=63/\2<=mr/\mr<=8/\1<=ml/\ml<=4/\mn<=5/\∀x R L N H',Drawn R L N->(∀p∈N,∀q∈p,0<=q.1/\0<=q.2)->NmsOk (R.map (·.name))->NmsOk (L.map (·.name))->R.length<=mr->L.length<=ml->N.length<=mn->2<=R.length->1<=L.length->Same H H'->H x=none->CnAt cs cR cN [] H' x R L N->Q (.ref x) H'
theorem R6 {zs:List Str} {c:Nat} (h:c<=zs.length):bM (zs.map V.str) none (some (c:Int))=(zs.take c).map V.str:=by
 unfold bM;rw [ac,HT.sIx_none,HT.sIx_nat,Nat.min_eq_left h,drop_zero,Nat.sub_zero,map_take]
def DY (K:W.Frag) (cs:Kd->Addr) (cR cN:Addr):Sp:=fun vs H Q _=>∃s x,∃(ns:List Int) (k mo:Nat),∃D R L N,vs=[.ref s,.int (k:Int),.ref x,.int (mo:Int)]/\SqL K H s (ns.map V.int)/\ns.length<=63/\k<20/\1<=mo/\mo<=8/\CnAt cs cR cN D H x R L N/\Drawn R L N/\1<=L.length/\∀t y H',WyOk L y->1<=y.2.length->(∃a:Nat,y.1=(a:Int)/\a<R.length)->Same H H'->H t=none->WyAt H' (.ref t) y->Q (.ref t) H'
theorem R1 {R:List RC} {L:List LC} {N:List (List (Int×Int))} (d:Drawn R L N) {a:Int} (h:EndAt L a):∃n:Nat,a=(n:Int)/\n<R.length:=by
 obtain ⟨⟨k,b⟩,h1,h2⟩:=h;obtain ⟨l,hl,hg⟩:=tO d h1;have hl:L[k]?=some l:=hl;obtain ⟨g1,g2,g3,g4,_⟩:=hg;cases b
 ·rw [Z1 hl] at h2;have h2:l.high=a:=h2;exact ⟨a.toNat,by lia,by lia⟩
 ·rw [Z7 hl] at h2;have h2:l.low=a:=h2;exact ⟨a.toNat,by lia,by lia⟩
def z3 (L:List LC) (k:Nat):Str:=((L[k]?).map (·.name)).getD ""
def QM (R:List RC) (k:Nat):Str:=((R[k]?).map (·.name)).getD ""
def DA (cs:Kd->Addr) (cR cN:Addr):Sp:=fun vs H Q _=>∃x t nm y,∃(a:Nat),∃D R L N,vs=[.ref x,.str nm,.ref t]/\CnAt cs cR cN D H x R L N/\WyAt H (.ref t) y/\WyOk L y/\y.1=(a:Int)/\a<R.length/\
 ∀e H',Same H H'->H e=none->CoAt H' e ⟨nm,QM R a,y.2.map fun p=>(z3 L p.1,p.2)⟩->Q (.ref e) H'
theorem Q2 {zs:List Str} {n:Str} {i:Nat} (h:zs.Nodup) (hi:zs[i]?=some n):kH zs n=some i:=by
 refine Q5 ⟨hi,fun j hj e=>?_⟩;obtain ⟨h1,e1⟩:=af.mp hi;obtain ⟨h2,e2⟩:=af.mp e;have:=(pairwise_iff_getElem.mp h) j i h2 h1 hj;exact this (by rw [e1,e2])
theorem tM {zs:List Str} {n:Str} (h:n∈zs):∃i,kH zs n=some i:=by
 cases hf:kH zs n with
 |some i=>exact ⟨i,rfl⟩
 |none =>
  obtain ⟨i,hi⟩:=gk.mp h;exact absurd hi (lF hf i)
theorem PJ {zs:List Str} {n:Str} (h:n∉zs):kH zs n=none:=Q6 fun i hi=>h (av hi)
theorem RM {L:List LC} {k:Nat} (h:k<L.length):(L.map (·.name))[k]?=some (z3 L k):=by
 unfold z3;rw [ak,aa h];rfl
theorem RA {R:List RC} {k:Nat} (h:k<R.length):(R.map (·.name))[k]?=some (QM R k):=by
 unfold QM;rw [ak,aa h];rfl
theorem AY {L:List LC} (h:(L.map (·.name)).Nodup):∀{ps:List (Nat×Bool)},(∀p∈ps,p.1<L.length)->vZ (L.map (·.name)) (ps.map fun p=>(z3 L p.1,p.2))=some ps
 |[],_=>rfl
 |p::ps,hp=>by
  rw [fj];unfold vZ;rw [Q2 h (RM (hp p aY)),AY h fun q hq=>hp q (aI _ hq)];rfl
theorem R9 {R:List RC} {L:List LC} (nR:NmsOk (R.map (·.name))) (nL:NmsOk (L.map (·.name))) {y:qL} {a:Nat} (ok:WyOk L y) (ha:y.1=(a:Int)) (haR:a<R.length) {nm:Str} {zs:List Str} (hn:xH nm) (hz:nm∉zs) (h9:zs.length<9):qZ R L zs ⟨nm,QM R a,y.2.map fun p=>(z3 L p.1,p.2)⟩=0:=by
 have hy:y6 R L ⟨nm,QM R a,y.2.map fun p=>(z3 L p.1,p.2)⟩=some y:=by
  unfold y6;show (match kH (R.map fun r:RC=>r.name) (QM R a) with|none=>none|some a=>(vZ (L.map fun l:LC=>l.name) (y.2.map fun p:Nat×Bool=>(z3 L p.1,p.2))).map fun ps=>((a:Int),ps))=_;rw [Q2 nR.1 (RA haR),AY nL.1 ok.lt];show some ((a:Int),y.2)=some y;rw [<- ha]
 unfold qZ;rw [if_neg (show ¬zH lettersS nm=false by rw [hn.1];decide),if_neg hz,if_neg (by lia),hy];exact if_pos ok.ok
def GS (N:List (List (Int×Int))):Prop:=∀p∈N,∀q∈p,0<=q.1/\0<=q.2
def zZ (N:List (List (Int×Int))) (d:Int) (r:Nat):Int×Int:=if d<(N.length:Int) then (N.getD d.toNat []).getD r (0,0) else (0,0)
def AS (cs:Kd->Addr) (cR cN:Addr):Sp:=fun vs H Q _=>∃x,∃(d mo:Int),∃R L N,vs=[.ref x,.int d,.int mo]/\CnAt cs cR cN [] H x R L N/\Drawn R L N/\GS N/\0<=d/\0<=mo/\mo<=100000000000/\
 ∀wt us W H',Same H H'->H wt=none->H' wt=some (.tup us)->AllAt (QAt H') us W->W.length=R.length->(d<(N.length:Int)->bJ W (N.getD d.toNat [])=true)->Q (.ref wt) H'
def B3 (cs:Kd->Addr) (cR cN:Addr):Sp:=fun vs H Q _=>∃x nl zs,∃(d c u:Int),∃R L N,vs=[.ref x,.ref nl,.int d,.int c,.int u]/\CnAt cs cR cN [] H x R L N/\Drawn R L N/\GS N/\1<=R.length/\1<=L.length/\0<=d/\1<=u/\u<=10000000000/\H nl=some (.lst (zs.map V.str))/\zs.length<=100/\
 ∀t e H',Same H H'->EnAt H' t e->e9 e->(∀B:BkS,B.zs=zs->B.d=d->qH R L N B e=0)->(∀B:BkS,QX B e=B.zs)->Q (.ref t) H'
theorem VE (zs:List Str) {d:Int} (h0:0<=d) (h1:d<(zs.length:Int)):∃z,z∈zs/\qS (zs.map V.str) d=some (.str z):=by
 obtain ⟨k,rfl⟩:∃k:Nat,d=(k:Int):=⟨d.toNat,by lia⟩;have hk:k<zs.length:=by lia
 exact ⟨zs[k],fu hk,kQ (by rw [ak,aa hk];rfl)⟩
theorem lI {R:List RC} {L:List LC} {N:List (List (Int×Int))} {B:BkS} {e:Ent} {i:Nat} (h:bF e=true) (hi:ZN R L B.zs e=some i):qH R L N B e=0:=by
 have:qH R L N B e=if ZN R L B.zs e=none then 4 else 0:=by cases e<;>first|rfl|cases h
 rw [this,hi,if_neg (by simp)]
def gS (rw:List (Str×Bool)) (p:Nat):Bool:=(rw.map (·.2)).getD p false
def QQ (g:Nat->Bool) (f:Bool) (ps:List Nat):Nat:=match ps.filter (fun p=>g p == !f) with
 |p::_=>p
 |[]=>ps.headD 0
theorem lH {g:Nat->Bool} {b:Bool} {u:Nat} (ps:List Nat):(ps.filter fun p=>decide (p≠u)).filter (fun p=>g p == b)=(ps.filter fun p=>g p == b).filter fun p=>decide (p≠u):=by
 rw [filter_filter,filter_filter];exact filter_congr fun p _=>Bool.and_comm _ _
theorem tN {u:Nat} {l:List Nat} (h:u∉l):l.filter (fun p=>decide (p≠u))=l:=filter_eq_self.mpr fun p hp=>aV fun e=>h (e▸hp)
theorem AW {u:Nat} {l:List Nat} (h:(u::l).Nodup):(u::l).filter (fun p=>decide (p≠u))=l:=by
 rw [bx,if_neg (by simp)];exact tN (cu.mp h).1
theorem SH {g:Nat->Bool} {f:Bool} {ps o:List Nat} (hnd:ps.Nodup) (hne:ps≠[]) (h:Thr f (ps.filter fun p=>g p == true) (ps.filter fun p=>g p == false) o):∃o',o=QQ g f ps::o'/\QQ g f ps∈ps/\Thr (g (QQ g f ps)) ((ps.filter fun p=>decide (p≠QQ g f ps)).filter fun p=>g p == true) ((ps.filter fun p=>decide (p≠QQ g f ps)).filter fun p=>g p == false) o':=by
 have side:∀(b:Bool) (u:Nat) (us:List Nat),(ps.filter fun p=>g p == b)=u::us->u∈ps/\g u=b/\(u::us).Nodup:=fun b u us e=>by
  have hm:u∈ps.filter fun p=>g p == b:=by rw [e];exact aY
  obtain ⟨h1,h2⟩:=bp.mp hm;exact ⟨h1,by simpa using h2,e▸hnd.filter _⟩
 have allS:∀b:Bool,(ps.filter fun p=>g p == !b)=[]->(ps.filter fun p=>g p == b)=ps:=fun b e=>filter_eq_self.mpr fun p hp=>by
  have:=filter_eq_nil_iff.mp e p hp;cases hg:g p<;>cases b<;>simp_all
 have fin:∀(b:Bool) (u:Nat) (us:List Nat),(ps.filter fun p=>g p == b)=u::us->(f = !b\/(ps.filter fun p=>g p == !b)=[])->QQ g f ps=u:=fun b u us e hc=>by
  unfold QQ
  rcases hc with rfl|hc
  ·rw [show (!!b)=b by cases b<;>rfl,e]
  ·by_cases hf:f = !b
   ·subst hf;rw [show (!!b)=b by cases b<;>rfl,e]
   ·have hf:f=b:=by cases f<;>cases b<;>simp_all
    subst hf;rw [hc];have:=allS f hc;rw [e] at this;rw [<- this];rfl
 generalize hu:(ps.filter fun p=>g p == true)=us at h;generalize hd:(ps.filter fun p=>g p == false)=ds at h;cases h with
 |nil =>
  exfalso
  have:=allS true hd;rw [hu] at this;exact hne this.symm
 |@up _ u us' ds' o' hc t =>
  obtain ⟨h1,h2,h3⟩:=side true u us' hu;have hp:=fin true u us' hu (hc.imp id fun e=>by rw [<- e];exact hd);rw [hp];refine ⟨o',rfl,h1,?_⟩;rw [h2,lH,lH,hu,hd,AW h3,tN]
  ·exact t
  ·intro hm;rw [<- hd] at hm;have:=(bp.mp hm).2;rw [h2] at this;cases this
 |@down _ u us' ds' o' hc t =>
  obtain ⟨h1,h2,h3⟩:=side false u ds' hd;have hp:=fin false u ds' hd (hc.imp id fun e=>by rw [<- e];exact hu);rw [hp];refine ⟨o',rfl,h1,?_⟩;rw [h2,lH,lH,hu,hd,AW h3,tN]
  ·exact t
  ·intro hm;rw [<- hu] at hm;have:=(bp.mp hm).2;rw [h2] at this;cases this
def B2:Sp:=fun vs H Q _=>∃f wl us rw o,vs=[.bl f,.ref wl]/\H wl=some (.lst us)/\AllAt (SAt H) us rw/\rw.length<=100/\(rw.map (·.1)).Nodup/\Thr f (yP true (rw.map (·.2))) (yP false (rw.map (·.2))) o/\∀l H',Same H H'->H l=none->H' l=some (.lst (o.map (zJ rw)))->Q (.ref l) H'
theorem OU (us:List V):(List.range us.length).map (fun p=>us.getD p .non)=us:=by
 refine ext_getElem? fun i=>?_
 rw [ak]
 by_cases h:i<us.length
 ·rw [ck h,aa h];show some (us.getD i .non)=_;rw [ad,aa h];rfl
 ·rw [bh (by simpa using h),bh (by lia)];rfl
theorem lG {l:List Nat} {c:Nat->Bool} {i p:Nat} (h:l[i]?=some p):(l.take (i+1)).filter c=(l.take i).filter c++(if c p=true then [p] else []):=by
 rw [aG,h,gd]
 congr 1
 show [p].filter c=_;rw [bx];rfl
theorem T8 (f:Bool):qS [V.str "up",V.str "down"] (if f=true then (1:Int) else 0)=some (.str (yI !f)):=by cases f<;>rfl
theorem sd_eq {a b:Bool}:V.str (yI a)=V.str (yI b)↔a=b:=by
 constructor
 ·intro h;have h:=V.str.inj h;cases a<;>cases b<;>first|rfl|exact absurd h (by decide +kernel)
 ·intro h;rw [h]
theorem OB {H:Hp} {a b:Addr} {o:HO} (h:H a=some o) (h':H b=none):b≠a:=(kZ h h').symm
theorem OS (rw:List (Str×Bool)):(rw.map fun p=>V.str p.1).all mZ=true:=by rw [all_map];exact cw.mpr fun z _=>rfl
theorem OT (rw:List (Str×Bool)) (o:List Nat):(o.map (zJ rw)).all mZ=true:=by rw [all_map];exact cw.mpr fun z _=>rfl
theorem DE {zs:List Str} {ys:List qL} {pl:List Nat} {k:Nat}:∀{n:Nat} {z:Str},z∈(J3 zs ys pl k n).map (·.1)->∃j,j<n/\z=zs.getD j ""
 |0,z,h=>by cases h
 |n+1,z,h=>by
  rw [dO,aw] at h
  rcases ba.mp h with h|h
  ·obtain ⟨j,hj,e⟩:=DE h;exact ⟨j,by lia,e⟩
  ·cases hw:zP ys pl k n with
   |none=>rw [hw] at h;cases h
   |some b =>
    rw [hw] at h;have h:z∈[zs.getD n ""]:=h;exact ⟨n,by lia,aS.mp h⟩
theorem BB {zs:List Str} {ys:List qL} {pl:List Nat} {k:Nat} (hz:zs.Nodup):∀{n:Nat},n<=zs.length->((J3 zs ys pl k n).map (·.1)).Nodup
 |0,_=>du
 |n+1,h=>by
  rw [dO,aw];refine nodup_append.mpr ⟨BB hz (by lia),?_,fun a ha b hb e=>?_⟩
  ·cases zP ys pl k n with
   |none=>exact du
   |some b=>exact cu.mpr ⟨(fun h=>by cases h),du⟩
  ·obtain ⟨j,hj,ej⟩:=DE ha;cases hw:zP ys pl k n with
   |none=>rw [hw] at hb;cases hb
   |some c =>
    rw [hw] at hb;have hb:b∈[zs.getD n ""]:=hb;have hb:=aS.mp hb;have g:∀i,i<zs.length->zs[i]?=some (zs.getD i ""):=fun i hi=>by rw [ad,aa hi];rfl
    have h1:=Q2 hz (g j (by lia));have h2:=Q2 hz (g n (by lia));rw [<- ej,e,hb,h2] at h1;have:=az h1
    lia
def FQ (cs:Kd->Addr) (cR cN cO:Addr):Sp:=fun vs H Q _=>∃b x A R L N B,vs=[.ref b]/\BkAt cs cR cN cO A H b x R L N B/\("xyz":Str)∉L.map (·.name)/\∀H',Same H H'->Q (.bl true) H'
def gA (cs:Kd->Addr) (cR cN cO:Addr):Sp:=fun vs H Q _=>∃b x A R L N B,vs=[.ref b,.ref x]/\BkAt cs cR cN cO A H b x R L N B/\NmsOk (L.map (·.name))/\B.zs.Nodup/\∀H',Same H H'->Q (.bl true) H'
theorem VF {cs:Kd->Addr} {cR cN cO:Addr}:∀vs H Q E,gA cs cR cN cO vs H Q E->gA cs cR cN cO vs H Q (fun _ _ _=>False):=fun vs H Q E h=>h
theorem U1 {K:W.Frag}:∀vs H Q E,cA K vs H Q E->cA K vs H Q (fun _ _ _=>False):=fun vs H Q E h=>h
theorem BkAt.out {cs:Kd->Addr} {cR cN cO:Addr} {A:List Addr} {H:Hp} {b x a:Addr} {R:List RC} {L:List LC} {N:List (List (Int×Int))} {B:BkS} (h:BkAt cs cR cN cO A H b x R L N B) (ha:H a=none):a∉A:=fun z=>by
 obtain ⟨db,nl,wl,pl,ql,el,fs,h0,h1,h2,h3,h4,h5,h6,h7,h8,h9⟩:=h.ob;rw [h0] at z;simp only [ao,ay,bo] at z
 rcases z with rfl|rfl|rfl|rfl|rfl
 ·rw [h1] at ha;cases ha
 ·rw [h4] at ha;cases ha
 ·rw [h5] at ha;cases ha
 ·rw [h6] at ha;cases ha
 ·rw [h7] at ha;cases ha
theorem XJ (ns:List Int):bM (ns.map V.int) none (some 12)=(ns.take 12).map V.int:=by
 unfold bM;rw [HT.sIx_none,show (some (12:Int))=some ((12:Nat):Int) from rfl,HT.sIx_nat,ac,drop_zero,Nat.sub_zero,map_take]
 by_cases h:12<=ns.length
 ·rw [Nat.min_eq_left h]
 ·rw [Nat.min_eq_right (by lia),cf (by rw [ac];exact aj _),cf (by rw [ac];lia)]
theorem AA:jS 3 ["script","k","many","cell"] pD:=jR
include T in
theorem IN (F:j7 K "_law_draw" pD f fd) : FnOk P w K mg base (kA P w) 1 f fd ["script","k","many"] (mB K):=by
 refine F.okX2 AA fun vs H Q E h=>?_
 refine cM h fun s ns k m h=>?_
 refine zS h fun e_ hS h63 hk0 hk1 hm q=>?_
 subst e_;refine ⟨rfl,fun _ _ _ _ hr=>?_⟩;refine tk fun x0=>?_
 let u0:=ru x0 [0,0,0] (jM (jJ yY (jJ kG (jJ qD (jJ qD (pv 1) (pv 1)) jC) (jJ qD jC (pv 1))) (pv 2)))
 let u1:=ru x0 [2] (jM (jJ yY (jJ yY (jJ kG (jJ qD (pv 3) (jJ kG (jJ qD (pv 1) (pv 1)) jC)) (jJ qD (pv 1) jC)) jC) (pv 2)))
 let u2:=ru x0 [1] (jG (jN 3 AA.nd (jJ yY (jH (kO K) (pv 0) (jJ yY (pv 1) (qF K T.xk (pv 0)))) jC))
   u1.h)
 refine ⟨_,(jG (kB (j5 kL (qF K T.xk (pv 0)) jC) u0.h kD)
   u2.h),?_⟩
 try dsimp only [jU,jT]
 have hml:(ns.map V.int).length=ns.length:=ac _;obtain ⟨kk0,kk1⟩:=W8 hk0 hk1;have hm0:(0:Int)<m:=by lia
 refine (jA rfl (⟨s,jA rfl (⟨.inl hS,rfl,jA rfl (?_)⟩)⟩))
 by_cases h0:ns.length=0
 ·refine kJ (by rw [hml,h0];rfl) ?_;refine (jA rfl (jA rfl (jZ (⟨.inl ⟨by lia,by lia⟩,_,_,rfl,rfl,.inr ⟨by decide,by decide⟩,jA rfl (jZ (⟨.inl ⟨by decide,by decide⟩,_,_,rfl,rfl,jA rfl (jZ (⟨hm0,?_⟩))⟩))⟩))));unfold zI at q;rw [if_pos h0] at q;exact q
 refine j4 (fun z=>h0 (by have:=V.int.inj z;rw [hml] at this;lia)) ?_;have hl0:(0:Int)<(((ns.map V.int).length:Nat):Int):=by rw [hml];lia
 obtain ⟨j,ej,lj⟩:=tR (a:=k) hl0;have lj:j<ns.length:=by rw [hml] at lj;lia
 refine (jA rfl (jA rfl (jA rfl (⟨s,jA rfl (⟨.inl hS,_,_,rfl,rfl,hl0,?_⟩)⟩))))
 try dsimp only
 rw [ej];have eF:zI ns k m=(ns.getD j 0%1000003*(k*k+48271)+k*7919)%2147483647%m:=by unfold zI;rw [if_neg h0,ej,ax]
 refine ⟨s,_,_,_,rfl,rfl,hS,yD lj,_,_,rfl,rfl,(by show (0:Int)<1000003;decide),?_⟩;have c0:=cm (ns.getD j 0) (by decide:(1000003:Int)≠0);have c1:=bi (ns.getD j 0) (by decide:(0:Int)<1000003)
 try dsimp only
 generalize ns.getD j 0%1000003=cell at c0 c1 eF ⊢;refine (jA rfl (jA rfl (jA rfl (jZ (⟨.inl ⟨by lia,by lia⟩,_,_,rfl,rfl,_,_,rfl,rfl,.inl ⟨by lia,by lia⟩,jA rfl (jZ (⟨.inr ⟨by decide,by decide⟩,_,_,rfl,rfl,_,_,rfl,rfl,(by show (0:Int)<2147483647;decide),jA rfl (jZ (⟨hm0,?_⟩))⟩))⟩)))));rw [eF] at q;exact q
theorem MV:jS 1 ["script"] pJ:=jR
include T in
theorem IU (F:j7 K "_law_unit" pJ f fd) : FnOk P w K mg base jX 1 f fd ["script"] (wA K):=by
 refine F.ok2 MV fun vs H Q E h=>?_
 obtain ⟨s,ns,rfl,hS,h63,q⟩:=h;refine ⟨rfl,fun _ _ _ _ hr=>?_⟩;refine ⟨_,(jG (kB (j5 kL (qF K T.xk (pv 0)) jC) (jM jC) kD)
   (jM (jJ kG jC (jJ yY (jH (kO K) (pv 0) jC) (jJ FB jC jC))))),?_⟩
 try dsimp only [jU,jT]
 have hml:(ns.map V.int).length=ns.length:=ac _;refine (jA rfl (⟨s,jA rfl (⟨.inl hS,rfl,jA rfl (?_)⟩)⟩))
 by_cases h0:ns.length=0
 ·exact kJ (by rw [hml,h0];rfl) (q 1 (by decide) (by decide))
 refine j4 (fun z=>h0 (by have:=V.int.inj z;rw [hml] at this;lia)) ?_;have e10:(10:Int) ^ Int.toNat 10=10000000000:=by decide +kernel
 have u0:=cm (ns.getD 0 0) (show (10:Int) ^ Int.toNat 10≠0 from by decide +kernel);have u1:=bi (ns.getD 0 0) (show (0:Int)<10 ^ Int.toNat 10 from by decide +kernel);refine (jA rfl (⟨s,_,_,_,rfl,rfl,hS,yD (s:=0) (by lia),_,_,rfl,rfl,⟨by decide,by decide,by decide⟩,_,_,rfl,rfl,(show (0:Int)<10 ^ Int.toNat 10 from by decide +kernel),_,_,rfl,rfl,?_⟩));rw [e10] at u0 u1
 try dsimp only
 rw [e10];exact q _ (by lia) (by lia)
theorem ZW:jS 3 ["script","k","many","signs","size","at","letter","some","j","sign"] pG:=jR
include T in
theorem IQ (F:j7 K "_law_names" pG f fd) (xx:DefX P w K mg base 1 "_law_draw" ["script","k","many"] [] (mB K)):FnOk P w K mg base (kA P w) 2 f fd ["script","k","many"] (dN K):=by
  refine F.okX2 ZW fun vs H Q E h=>?_
  refine cM h fun s ns k m h=>?_
  refine zS h fun e_ hS h63 hk0 hk1 hm q=>?_
  subst e_;refine ⟨rfl,fun _ _ _ _ hr=>?_⟩;refine tk fun x0=>?_
  let u0:=ru x0 [5,0,0,1,1] (kF (vB (yH aF aQ aR zE (pv 7) (jB (jJ BC (jJ BC (jJ uT (pv 6) (pv 5)) (pv 9)) (jJ uT (pv 6) (jJ yE (jJ yE (pv 4) jC) (pv 5)))) jD))))
  let u1:=ru x0 [5,0,0,1,0] (jG (jN 9 ZW.nd (jH wI (pv 3) (jJ yY (jJ kG (k7 xx kP hr rfl (j9 (pv 0) (jJ kG (pv 1) jC) jC)) (pv 8)) jC)))
      u0.h)
  let u2:=ru x0 [5,0,0] (kF (kB (j5 kL (k7 xx kP hr rfl (j9 (pv 0) (jJ kG (pv 1) jC) jC)) jC) (kF (vB (yH aF aQ aR zE (pv 7) (jB (jJ uT (pv 6) (jJ kG (pv 8) jC)) jD)))) u1.h))
  let u3:=ru x0 [5] (jG (yX bA rfl (JK (by rfl) T.xn (jB (pv 2) jD)) (kI (i:=8) ZW.nd rfl (.inl rfl))
        u2.h)
      (jM (pv 7)))
  let u4:=ru x0 [4] (jG (jN 7 ZW.nd (kU jD))
      u3.h)
  let u5:=ru x0 [3] (jG (jN 6 ZW.nd (jH wI (pv 3) (k7 xx kP hr rfl (j9 (pv 0) (jJ kG (pv 1) jC) jC))))
      u4.h)
  let u6:=ru x0 [2] (jG (jN 5 ZW.nd (k7 xx kP hr rfl (j9 (pv 0) (jJ kG (pv 1) jC) (pv 4))))
      u5.h)
  let u7:=ru x0 [1] (jG (jN 4 ZW.nd (jJ kG jC (k7 xx kP hr rfl (j9 (pv 0) (pv 1) jC))))
      u6.h)
  refine ⟨_,(jG (jN 3 ZW.nd jV)
      u7.h),?_⟩
  try dsimp only [jU,jT]
  obtain ⟨sz0,sz1⟩:=Z2 ns k (show (1:Int)<=12 by decide);refine (jA rfl (jA rfl (⟨s,ns,_,jA rfl (⟨hS,h63,by lia,by lia,by lia,_,_,rfl,rfl,?_⟩)⟩)));generalize zI ns k 12=sz at sz0 sz1 ⊢;obtain ⟨a0,a1⟩:=Z2 ns (k+1) (show (1:Int)<=1+sz by lia);refine (jA rfl (jA rfl (jZ ((jA rfl (⟨s,ns,_,jA rfl (⟨hS,h63,by lia,by lia,by lia,?_⟩)⟩))))));generalize zI ns (k+1) (1+sz)=a at a0 a1 ⊢;obtain ⟨c0,c1⟩:=Z2 ns (k+2) (show (1:Int)<=26 by decide);refine (jA rfl (jA rfl (jA rfl (jZ (⟨s,ns,_,jA rfl (⟨hS,h63,by lia,by lia,by lia,?_⟩)⟩)))));generalize zI ns (k+2) 26=c at c0 c1 ⊢;refine ⟨_,_,97+c.toNat,rfl,rfl,(by decide +kernel),EW c0 c1,?_⟩;obtain ⟨ch,rfl⟩:∃ch:Nat,c=(ch:Int):=⟨c.toNat,by lia⟩;rw [ax];have hch:ch<26:=by lia
  refine ⟨aL _,fun l hl0=>?_⟩;have l1:(⟨#[97+ch]⟩:Str).length=1:=rfl;obtain ⟨d0,d1⟩:=Z2 ns (k+3) (show (1:Int)<=3 by decide);obtain ⟨e0,e1⟩:=Z2 ns (k+4) (show (1:Int)<=26 by decide);obtain ⟨eN,heN⟩:∃eN:Nat,zI ns (k+4) 26=(eN:Int):=⟨(zI ns (k+4) 26).toNat,by lia⟩;generalize hbr:decide (zI ns (k+3) 3=0)=br;refine (jA rfl (jA rfl (⟨by lia,by lia,Q4 (n:=((m:Nat):Int).toNat) (fun i σ Hi=>∃zs c8 c9,σ=[some (.ref s),some (.int k),some (.int (m:Int)),some (.str "abcdefghijklmnopqrstuvwxyz"),some (.int (1+sz)),some (.int a),some (.str ⟨#[97+ch]⟩),some (.ref l),c8,c9]/\Hi l=some (.lst (zs.map V.str))/\zs=(List.range i).map (QB br ch a.toNat (1+sz - 1 - a).toNat eN)/\Same H Hi) ⟨[],none,none,rfl,jF,rfl,jK hl0 _⟩ ?_ ?_⟩)))
  . rintro i σ Hi hi ⟨zs,c8,c9,rfl,hl,hzs,sm⟩
    rw [ax] at hi;rw [dv];have hzl:zs.length=i:=by rw [hzs,ac,aT]
    have put:∀z:Str,z=QB br ch a.toNat (1+sz - 1 - a).toNat eN i->zs++[z]=(List.range (i+1)).map (QB br ch a.toNat (1+sz - 1 - a).toNat eN):=fun z h=>by rw [gh,aw,<- hzs,h];rfl
    refine (jA rfl (jA rfl (jZ (⟨s,ns,_,jA rfl (⟨sm.seq hS,h63,by lia,by lia,by lia,rfl,jA rfl (?_)⟩)⟩))))
    by_cases hd:zI ns (k+3) 3=0
    . have hb:br=true:=by rw [<- hbr,aV hd]
      refine kJ (by rw [hd]) (jA rfl (⟨.inl ⟨rfl,_,so hl⟩,jA rfl (jA rfl (jZ (⟨(⟨#[97+ch]⟩:Str),_,rfl,rfl,by lia,by lia,by rw [l1];decide,?_⟩)))⟩));refine ⟨l,_,_,rfl,rfl,hl,qJ (by rw [ac];lia),zs++[qE ⟨#[97+ch]⟩ ((i:Int)+1).toNat],_,jA rfl (⟨?_,put _ ?_,kY hl0 sm⟩)⟩
      . rw [jF,aw];rfl
      . unfold QB;rw [if_pos hb,show ((i:Int)+1).toNat=i+1 by lia]
    have hb:¬br=true:=by rw [<- hbr,aH hd];decide
    refine j4 (fun z=>hd (V.int.inj z)) (jA rfl (jA rfl (jA rfl (jZ (⟨s,ns,_,jA rfl (⟨sm.seq hS,h63,by lia,by lia,by lia,?_⟩)⟩)))));rw [heN];refine (jA rfl (jZ (jZ (⟨(show (0:Int)<26 from by decide),?_⟩))));have hc2:=EW (cm ((eN:Int)+(i:Int)) (by decide:(26:Int)≠0)) (bi ((eN:Int)+(i:Int)) (by decide:(0:Int)<26));have hc3:(((eN:Int)+(i:Int))%26).toNat=(eN+i)%26:=by lia
    rw [hc3] at hc2;have l2:(⟨#[97+(eN+i)%26]⟩:Str).length=1:=rfl;have r1:(qE ⟨#[97+ch]⟩ a.toNat).length=a.toNat:=by rw [lX,l1,Nat.mul_one]
    have r2:(qE ⟨#[97+ch]⟩ (1+sz - 1 - a).toNat).length=(1+sz - 1 - a).toNat:=by rw [lX,l1,Nat.mul_one]
    have w1:(qE ⟨#[97+ch]⟩ a.toNat++(⟨#[97+(eN+i)%26]⟩:Str)).length=a.toNat+1:=by rw [tK,r1,l2]
    refine ⟨_,_,97+(eN+i)%26,rfl,rfl,(by decide +kernel),hc2,?_⟩;refine (jA rfl (⟨.inl ⟨rfl,_,so hl⟩,jA rfl (jA rfl (⟨(⟨#[97+ch]⟩:Str),_,rfl,rfl,by lia,by lia,by rw [l1];decide,jA rfl (⟨(qE ⟨#[97+ch]⟩ a.toNat),_,rfl,rfl,dL (by rw [r1,l2];lia),jA rfl (jA rfl (jZ ((jA rfl (jZ (⟨(⟨#[97+ch]⟩:Str),_,rfl,rfl,by lia,by lia,by rw [l1];decide,(qE ⟨#[97+ch]⟩ a.toNat++(⟨#[97+(eN+i)%26]⟩:Str)),_,rfl,rfl,dL (by rw [w1,r2];lia),?_⟩))))))⟩)⟩))⟩));refine ⟨l,_,_,rfl,rfl,hl,qJ (by rw [ac];lia),zs++[qE ⟨#[97+ch]⟩ a.toNat++(⟨#[97+(eN+i)%26]⟩:Str)++qE ⟨#[97+ch]⟩ (1+sz - 1 - a).toNat],_,jA rfl (⟨?_,put _ ?_,kY hl0 sm⟩)⟩
    . rw [jF,aw];rfl
    . unfold QB;rw [if_neg hb]
  rintro σ Hi ⟨zs,c8,c9,rfl,hl,hzs,sm⟩;rw [ax] at hzs;exact (jA rfl (q l zs Hi sm hl0 hl (by rw [hzs,ac,aT]) (by rw [hzs];exact UX hch (by lia) hm)))
theorem fI:jS 4 ["script","k","unit","named","least","crest","water","berths"] pH:=jR
include T in
theorem IS (F:j7 K "_law_reach" pH f fd) (xc:Def P w K mg base 1 "_law_draw" ["script","k","many"] [] (bZ K)) (xbI:MkD P w K mg base 1 "Reach" cR ["self","name","least","crest","berths","water","target"] (tE cR)):FnOk P w K mg base jX 3 f fd ["script","k","unit","named"] (C4 K cR):=by
 refine F.ok2 fI fun vs H Q E h=>?_
 refine JF h fun s ns k u nm h=>?_
 refine zS h fun e_ hS h63 hk hv0 hv1 q=>?_
 subst e_;refine ⟨rfl,fun _ _ _ _ hr=>?_⟩;refine tk fun x0=>?_
 let u0:=ru x0 [4] (jM (eO xbI hr rfl (YU (pv 3) (pv 4) (pv 5) (pv 7) (pv 6) (jJ yE (jQ xc hr rfl (j9 (pv 0) (jJ kG (jJ qD jC (pv 1)) jC) (jJ kG (pv 1) jC))) jC))))
 let u1:=ru x0 [3] (jG (jN 7 fI.nd (jH (kO K) (kU (yB jC jC jC jC)) (jQ xc hr rfl (j9 (pv 0) (jJ kG (jJ qD jC (pv 1)) jC) jC))))
   u0.h)
 let u2:=ru x0 [2] (jG (jN 6 fI.nd (jJ kG (jJ qD (jQ xc hr rfl (j9 (pv 0) (jJ kG (jJ qD jC (pv 1)) jC) jC)) (pv 2)) (jQ xc hr rfl (j9 (pv 0) (jJ kG (jJ qD jC (pv 1)) jC) jC))))
   u1.h)
 let u3:=ru x0 [1] (jG (jN 5 fI.nd (jJ kG (jJ kG (pv 4) (jJ qD (jQ xc hr rfl (j9 (pv 0) (jJ kG (jJ qD jC (pv 1)) jC) jC)) (pv 2))) (jQ xc hr rfl (j9 (pv 0) (jJ kG (jJ qD jC (pv 1)) jC) jC))))
   u2.h)
 refine ⟨_,(jG (jN 4 fI.nd (jJ qD (jQ xc hr rfl (j9 (pv 0) (jJ kG (jJ qD jC (pv 1)) jC) jC)) (pv 2)))
   u3.h),?_⟩
 try dsimp only [jU,jT]
 refine (jA rfl (jA rfl (jZ (⟨.inl ⟨by decide,by decide⟩,_,_,rfl,rfl,s,ns,_,jA rfl (⟨hS,h63,by lia,by lia,by lia,fun d1 d10 d11=>?_⟩)⟩))));obtain ⟨a1,a2⟩:=b5 d10 (show d1<=3 by lia) hv0 hv1 (by decide);refine (jA rfl (jZ (⟨.inl ⟨by lia,by lia⟩,?_⟩)))
 try dsimp only
 generalize d1*u=le at a1 a2 ⊢;refine (jA rfl (jA rfl (jA rfl (jZ (⟨.inl ⟨by decide,by decide⟩,_,_,rfl,rfl,s,ns,_,jA rfl (⟨hS,h63,by lia,by lia,by lia,fun d2 d20 d21=>?_⟩)⟩)))));obtain ⟨b1,b2⟩:=b5 d20 (show d2<=15 by lia) hv0 hv1 (by decide);refine (jA rfl (jZ (⟨.inl ⟨by lia,by lia⟩,_,_,rfl,rfl,?_⟩)))
 try dsimp only
 generalize d2*u=cr at b1 b2 ⊢;refine (jA rfl (jA rfl (jZ (⟨.inl ⟨by decide,by decide⟩,_,_,rfl,rfl,s,ns,_,jA rfl (⟨hS,h63,by lia,by lia,by lia,fun d3 d30 d31=>?_⟩)⟩))));refine ⟨_,_,rfl,rfl,?_⟩;refine (jA rfl (jA rfl (jZ (⟨.inl ⟨by decide,by decide⟩,_,_,rfl,rfl,s,ns,_,jA rfl (⟨hS,h63,by lia,by lia,by lia,fun d4 d40 d41=>?_⟩)⟩))));obtain ⟨c1,c2⟩:=b5 d40 (show d4<=24 by lia) hv0 hv1 (by decide);refine (jA rfl (jZ (⟨.inl ⟨by lia,by lia⟩,?_⟩)))
 try dsimp only
 generalize d4*u=wa at c1 c2 ⊢;refine (jA rfl (jA rfl (jZ (⟨.inl ⟨by decide,by decide⟩,_,_,rfl,rfl,s,ns,_,jA rfl (⟨hS,h63,by lia,by lia,by lia,fun d5 d50 d51=>?_⟩)⟩))));refine ⟨_,_,rfl,rfl,?_⟩;refine ⟨zz4,fun p2 hp2=>?_⟩;have s2:=jK hp2 (.lst ([(1:Int),2,2,9].map V.int));have hS2:=s2.seq hS;refine (jA rfl (jA rfl (jZ (⟨.inl ⟨by decide,by decide⟩,_,_,rfl,rfl,s,ns,_,jA rfl (⟨hS2,h63,by lia,by lia,by lia,fun d6 d60 d61=>?_⟩)⟩))));obtain ⟨be,hbe,hat⟩:=FJ [(1:Int),2,2,9] d60 d61;refine (qA (so jF) hat (?_));have hbe':1<=be/\be<=9:=by
  simp only [ao,ay,bo] at hbe
  rcases hbe with rfl|rfl|rfl|rfl<;>decide
 obtain ⟨hb1,hb2⟩:=hbe';have hS3:=hS2;have s3:=s2;refine (jA rfl (jA rfl (jA rfl (jA rfl (jA rfl (?_))))));refine (jA rfl (jA rfl (jZ (⟨.inl ⟨by decide,by decide⟩,_,_,rfl,rfl,jA rfl (jZ (⟨s,ns,_,jA rfl (⟨hS3,h63,by lia,by lia,by lia,fun d7 d70 d71=>?_⟩)⟩))⟩))));refine ⟨_,_,rfl,rfl,?_⟩;intro x dx nx ndx nex;refine ⟨x,dx,_,_,_,_,_,jA rfl (⟨jF,fun H' fs kp hx hfl=>⟨rfl,?_⟩⟩)⟩;exact q x ⟨nm,le,le+cr+d3,be,wa+d5,d7 - 1⟩ H' ⟨a1,by show le<=le+cr+d3;lia,by show le+cr+d3<=999999999999;lia,hb1,hb2,by show 0<=wa+d5;lia,by show wa+d5<=999999999999;lia,by show -1<=d7 - 1;lia,by show d7 - 1<(k:Int);lia⟩ rfl (s3.trans (fW nx (gC nx ndx) kp)) (s3.free nx) ⟨dx,fs,hx,hfl⟩
theorem dE:jS 5 ["script","k","reaches","unit","named","high","low","room","part","made"] pF:=jR
include T in
theorem IP (F:j7 K "_law_lock" pF f fd) (xc:Def P w K mg base 1 "_law_draw" ["script","k","many"] [] (bZ K)) (xa6:MkD P w K mg base 2 "BasinLock" cB ["self","name","high","low","room","side"] (dX (jE cP cB cU) .basin)) (xbe:MkD P w K mg base 2 "PumpLock" cU ["self","name","high","low","room","lift"] (dX (jE cP cB cU) .pump)) (xa7:MkD P w K mg base 1 "PlainLock" cP ["self","name","high","low","room"] (dY (jE cP cB cU))):FnOk P w K mg base jX 4 f fd ["script","k","reaches","unit","named"] (EA K (jE cP cB cU)):=by
 refine F.ok2 dE fun vs H Q E h=>?_
 refine QV h fun s ns k n u nm h=>?_
 refine xD h fun e_ hS h63 hk hn2 hn8 hv0 hv1 q=>?_
 subst e_;refine ⟨rfl,fun _ _ _ _ hr=>?_⟩;refine tk fun x0=>?_
 let u0:=ru x0 [6] (jG (kB (j5 kL (pv 9) jC) (jM (eO xbe hr rfl (fC (pv 4) (pv 5) (pv 6) (pv 7) (pv 8)))) kD)
   (jM (eO xa7 hr rfl (yB (pv 4) (pv 5) (pv 6) (pv 7)))))
 let u1:=ru x0 [5] (jG (kB (j5 kL (pv 9) jC) (jM (eO xa6 hr rfl (fC (pv 4) (pv 5) (pv 6) (pv 7) (pv 8)))) kD)
   u0.h)
 let u2:=ru x0 [4] (jG (jN 9 dE.nd (jQ xc hr rfl (j9 (pv 0) (jJ kG jC (jJ qD jC (pv 1))) jC)))
   u1.h)
 let u3:=ru x0 [3] (jG (jN 8 dE.nd (jH (kO K) (kU (yB jC (pv 7) (jJ kG jC (jJ bW (pv 7) jC)) (jJ yE (pv 7) (jJ bW (pv 7) jC)))) (jQ xc hr rfl (j9 (pv 0) (jJ kG jC (jJ qD jC (pv 1))) jC))))
   u2.h)
 let u4:=ru x0 [2] (jG (jN 7 dE.nd (jJ kG (jJ qD (jJ kG jC (jQ xc hr rfl (j9 (pv 0) (jJ kG jC (jJ qD jC (pv 1))) jC))) (pv 3)) (jQ xc hr rfl (j9 (pv 0) (jJ kG jC (jJ qD jC (pv 1))) jC))))
   u3.h)
 let u5:=ru x0 [1] (jG (jN 6 dE.nd (jQ xc hr rfl (j9 (pv 0) (jJ kG jC (jJ qD jC (pv 1))) (pv 5))))
   u4.h)
 refine ⟨_,(jG (jN 5 dE.nd (jJ kG jC (jQ xc hr rfl (j9 (pv 0) (jJ kG jC (jJ qD jC (pv 1))) (jJ yE (pv 2) jC)))))
   u5.h),?_⟩
 try dsimp only [jU,jT]
 refine (jA rfl (jA rfl (jZ (⟨.inl ⟨by decide,by decide⟩,_,_,rfl,rfl,jA rfl (jZ (⟨s,ns,_,jA rfl (⟨hS,h63,by lia,by lia,by lia,fun h1 h10 h11=>?_⟩)⟩))⟩))));refine ⟨_,_,rfl,rfl,?_⟩;refine (jA rfl (jA rfl (jZ (⟨.inl ⟨by decide,by decide⟩,_,_,rfl,rfl,jA rfl (⟨s,ns,_,jA rfl (⟨hS,h63,by lia,by lia,by lia,fun lo lo0 lo1=>?_⟩)⟩)⟩))));refine (jA rfl (jA rfl (jZ (⟨.inl ⟨by decide,by decide⟩,_,_,rfl,rfl,s,ns,_,jA rfl (⟨hS,h63,by lia,by lia,by lia,fun d2 d20 d21=>?_⟩)⟩))));obtain ⟨b1,b2⟩:=b5 (a:=1+d2) (by lia) (show 1+d2<=4 by lia) hv0 hv1 (by decide);refine ⟨_,_,rfl,rfl,jA rfl (jZ (⟨.inl ⟨by lia,by lia⟩,?_⟩))⟩;have b3:1<=(1+d2)*u:=by
  have:=Int.mul_le_mul (show (1:Int)<=1+d2 by lia) hv0 (by decide) (by lia)
  lia
 try dsimp only
 generalize (1+d2)*u=r0 at b1 b2 b3 ⊢;refine (jA rfl (jA rfl (jZ (⟨.inl ⟨by decide,by decide⟩,_,_,rfl,rfl,s,ns,_,jA rfl (⟨hS,h63,by lia,by lia,by lia,fun d3 d30 d31=>?_⟩)⟩))));refine ⟨_,_,rfl,rfl,?_⟩;have ro1:1<=r0+d3:=by lia
 have ro2:r0+d3<=999999999999:=by lia
 try dsimp only
 generalize r0+d3=ro at ro1 ro2 ⊢;refine (jA rfl (jA rfl (jZ (⟨⟨by decide,by decide⟩,_,_,rfl,rfl,jA rfl (jA rfl (jZ (⟨⟨by decide,by decide⟩,_,_,rfl,rfl,zz4,fun p2 hp2=>?_⟩)))⟩))));have s2:=jK hp2 (.lst ([(1:Int),ro,1+ro / 2,ro - ro / 3].map V.int));have hS2:=s2.seq hS;refine (jA rfl (jA rfl (jZ (⟨.inl ⟨by decide,by decide⟩,_,_,rfl,rfl,s,ns,_,jA rfl (⟨hS2,h63,by lia,by lia,by lia,fun d4 d40 d41=>?_⟩)⟩))));obtain ⟨pa,hpa,hat⟩:=FJ [(1:Int),ro,1+ro / 2,ro - ro / 3] d40 d41;refine (qA (so jF) hat (?_));have hpa:1<=pa/\pa<=ro:=by
  simp only [ao,ay,bo] at hpa
  rcases hpa with rfl|rfl|rfl|rfl<;>lia
 refine (jA rfl (jA rfl (jZ (⟨.inl ⟨by decide,by decide⟩,_,_,rfl,rfl,s,ns,_,jA rfl (⟨hS2,h63,by lia,by lia,by lia,fun d5 d50 d51=>?_⟩)⟩))));have w12:=s2;refine ⟨_,rfl,rfl,jA rfl (ZP (fun _=>?_) (fun _=>?_))⟩
 ·refine (jA rfl (jA rfl (jA rfl (jA rfl (jA rfl (?_))))));intro x dx nx ndx nex;refine ⟨x,dx,_,_,_,_,jA rfl (⟨jF,fun H' kp hx=>⟨rfl,?_⟩⟩)⟩;refine q x ⟨nm,1+h1,lo,ro,.basin,pa⟩ H' ⟨by show 1<=1+h1;lia,by show 1+h1<(n:Int);lia,lo0,by show lo<1+h1;lia,ro1,ro2,(fun z=>nomatch z),fun _=>hpa⟩ rfl (w12.trans (fW nx (gC nx ndx) kp)) (w12.free nx) ⟨x,rfl,dx,hx⟩
 refine ⟨_,rfl,rfl,jA rfl (ZP (fun _=>?_) (fun _=>?_))⟩
 ·refine (jA rfl (jA rfl (jA rfl (jA rfl (jA rfl (?_))))));intro x dx nx ndx nex;refine ⟨x,dx,_,_,_,_,jA rfl (⟨jF,fun H' kp hx=>⟨rfl,?_⟩⟩)⟩;refine q x ⟨nm,1+h1,lo,ro,.pump,pa⟩ H' ⟨by show 1<=1+h1;lia,by show 1+h1<(n:Int);lia,lo0,by show lo<1+h1;lia,ro1,ro2,(fun z=>nomatch z),fun _=>hpa⟩ rfl (w12.trans (fW nx (gC nx ndx) kp)) (w12.free nx) ⟨x,rfl,dx,hx⟩
 refine (jA rfl (jA rfl (jA rfl (jA rfl (?_)))));intro x dx nx ndx nex;refine ⟨.plain,x,dx,_,_,_,jA rfl (⟨jF,fun H' kp hx=>⟨rfl,?_⟩⟩)⟩;refine q x ⟨nm,1+h1,lo,ro,.plain,0⟩ H' ⟨by show 1<=1+h1;lia,by show 1+h1<(n:Int);lia,lo0,by show lo<1+h1;lia,ro1,ro2,fun _=>rfl,fun z=>absurd rfl z⟩ rfl (w12.trans (fW nx (gC nx ndx) kp)) (w12.free nx) ⟨x,rfl,dx,hx⟩
theorem i4:jS 4 ["script","k","reaches","unit","some","r","comes"] pM:=jR
include T in
theorem IX (F:j7 K "_law_weather" pM f fd) (xc:Def P w K mg base 1 "_law_draw" ["script","k","many"] [] (bZ K)):FnOk P w K mg base jX 2 f fd ["script","k","reaches","unit"] (BW K):=by
 refine F.ok2 i4 fun vs H Q E h=>?_
 refine JF h fun s ns k n u h=>?_
 refine ZS h fun e_ hS h63 hk hn8 hv0 hv1 q=>?_
 subst e_;refine ⟨rfl,fun _ _ _ _ hr=>?_⟩;refine tk fun x0=>?_
 let u0:=ru x0 [1,0,1] (kF (vB (yH aF aQ aR zE (pv 4) (jB (kR (jB (pv 6) (jB (jJ bW (jJ qD (jQ xc hr rfl (j9 (pv 0) (jJ kG (jJ kG jC (jJ qD jC (pv 1))) (jJ qD jC (pv 5))) jC)) (pv 3)) jC) jD))) jD))))
 let u1:=ru x0 [1,0,0] (jG (jN 6 i4.nd (jJ qD (jQ xc hr rfl (j9 (pv 0) (jJ kG (jJ kG jC (jJ qD jC (pv 1))) (jJ qD jC (pv 5))) jC)) (pv 3)))
   u0.h)
 let u2:=ru x0 [1] (jG (yX di rfl (JK (by rfl) T.xn (jB (pv 2) jD)) (kI (i:=5) i4.nd rfl (.inl rfl))
    u1.h)
   (jM (pv 4)))
 refine ⟨_,(jG (jN 4 i4.nd (kU jD))
   u2.h),?_⟩
 try dsimp only [jU,jT]
 refine ⟨zz0,fun l hl0=>?_⟩;refine ⟨_,rfl,_,rfl,by lia,by lia,Q4 (n:=((n:Nat):Int).toNat) (fun i σ Hi=>∃us p c5 c6,σ=[some (.ref s),some (.int (k:Int)),some (.int (n:Int)),some (.int u),some (.ref l),c5,c6]/\Hi l=some (.lst us)/\AllAt (QAt Hi) us p/\p.length=i/\(∀q∈p,0<=q.1/\0<=q.2)/\Same H Hi)
  ⟨[],[],none,none,rfl,jF,AllAt.nil,rfl,(fun q hq=>by cases hq),jK hl0 _⟩ ?_ ?_⟩
 ·rintro i σ Hi hi ⟨us,p,c5,c6,rfl,hl,hA,hp,hnn,sm⟩;rw [ax] at hi;rw [dv];have hSi:=sm.seq hS;refine (jA rfl (jA rfl (jZ (⟨.inl ⟨by decide,by decide⟩,_,_,rfl,rfl,jA rfl (jZ (⟨.inl ⟨by decide,by decide⟩,_,_,rfl,rfl,s,ns,_,jA rfl (⟨hSi,h63,by lia,by lia,by lia,fun d1 d10 d11=>?_⟩)⟩))⟩))));refine (jA rfl (jZ (⟨.inl ⟨by lia,by lia⟩,?_⟩)));refine (jA rfl (⟨.inl ⟨rfl,_,so hl⟩,jA rfl (jA rfl (jA rfl (jZ (⟨.inl ⟨by decide,by decide⟩,_,_,rfl,rfl,jA rfl (jZ (⟨.inl ⟨by decide,by decide⟩,_,_,rfl,rfl,s,ns,_,jA rfl (⟨hSi,h63,by lia,by lia,by lia,fun d2 d20 d21=>?_⟩)⟩))⟩))))⟩));refine (jA rfl (jZ (⟨.inl ⟨by lia,by lia⟩,_,_,rfl,rfl,⟨by decide,by decide⟩,zz2,fun tp htp=>?_⟩)));have v:=jK htp (.tup [V.int (d1*u),V.int (d2*u / 2)]);refine ⟨l,_,_,rfl,rfl,v _ _ hl,qJ (by rw [hA.1];lia),?_⟩;refine ⟨us++[.ref tp],p++[(d1*u,d2*u / 2)],_,jA rfl (⟨jF,?_,by rw [ag,hp];rfl,fun q hq=>?_,kY hl0 (sm.trans v)⟩)⟩
  rotate_left
  ·rcases ba.mp hq with h|h
   ·exact hnn q h
   ·rw [aS.mp h];have m1:=(b5 d10 (show d1<=3 by lia) hv0 hv1 (by decide)).1;have m2:=(b5 d20 (show d2<=3 by lia) hv0 hv1 (by decide)).1;exact ⟨m1,by show 0<=d2*u / 2;lia⟩
  exact ((hA.mono (QAt.same v)).snoc (v:=.ref tp) (x:=(d1*u,d2*u / 2)) ⟨tp,rfl,jF⟩).mono (QAt.put (v _ _ hl))
 rintro σ Hi ⟨us,p,c5,c6,rfl,hl,hA,hp,hnn,sm⟩;rw [ax] at hp;exact (jA rfl (q l p Hi hp hnn sm hl0 ⟨l,us,rfl,hl,hA,by simp⟩))
theorem Q0:jS 4 ["script","most_reaches","most_locks","most_nights","unit","many","locks","called","named","nights","reaches"] dB:=jR
include T in
theorem IL (F:j7 K "_law_canal" dB f fd) (vz:Def P w K mg base 1 "_law_unit" ["script"] [] (wA K)) (xc:Def P w K mg base 1 "_law_draw" ["script","k","many"] [] (bZ K)) (uh:Def P w K mg base 2 "_law_names" ["script","k","many"] [] (dN K)) (xaf:Def P w K mg base 2 "_law_weather" ["script","k","reaches","unit"] [] (BW K)) (xaR:Def P w K mg base 3 "_law_reach" ["script","k","unit","named"] [] (C4 K cR)) (xbJ:MkD P w K mg base 1 "Canal" cN ["self","reaches","locks","nights"] (tF (jE cP cB cU) cR cN)) (xa8:Def P w K mg base 4 "_law_lock" ["script","k","reaches","unit","named"] [] (EA K (jE cP cB cU))):FnOk P w K mg base jX 6 f fd ["script","most_reaches","most_locks","most_nights"] (DB K (jE cP cB cU) cR cN):=by
 refine F.ok2 Q0 fun vs H Q E h=>?_
 refine JF h fun s ns mr ml mn h=>?_
 refine xD h fun e_ hS h63 hr2 hr8 hl1 hl4 hn5 q=>?_
 subst e_;refine ⟨rfl,fun _ _ _ _ hr=>?_⟩;refine tk fun x0=>?_
 let u0:=ru x0 [8] (jM (eO xbJ hr rfl (j9 (pv 10) (eY ["k","script","many","unit","named"] [0,5,4,8] (qX (j8 dB)) (JK (by rfl) T.xn (jB (pv 6) jD)) (fun _ _ _ _ _=>(jQ xa8 hr rfl (fC (pv 1) (pv 0) (pv 2) (pv 3) (jH (kO K) (pv 4) (pv 0)))))) (pv 9))))
 let u1:=ru x0 [7] (jG (ZZ (i:=10) ["k","script","unit","called"] (qW 1 [0,4,7]) Q0.nd rfl (.inl rfl) rfl (qX (j8 dB)) (cps 1 [0,4,7]) (JK (by rfl) T.xn (jB (pv 5) jD)) (fun _ _ _ _ _=>(kI (i:=0) (show List.Nodup (["k","script","unit","called"]:List Str) from by decide +kernel) rfl (.inl rfl))) (fun _ _ _ _ _=>yT) (fun _ _ _ _ _=>(jQ xaR hr rfl (yB (pv 1) (pv 0) (pv 2) (jH (kO K) (pv 3) (pv 0))))))
   u0.h)
 let u2:=ru x0 [6] (jG (ZZ (i:=9) ["k","script","many","unit"] (qW 1 [0,5,4]) Q0.nd rfl (.inl rfl) rfl (qX (j8 dB)) (cps 1 [0,5,4]) (JK (by rfl) T.xn (jB (jQ xc hr rfl (j9 (pv 0) jC (jJ kG (pv 3) jC))) jD)) (fun _ _ _ _ _=>(kI (i:=0) (show List.Nodup (["k","script","many","unit"]:List Str) from by decide +kernel) rfl (.inl rfl))) (fun _ _ _ _ _=>yT) (fun _ _ _ _ _=>(jQ xaf hr rfl (yB (pv 1) (pv 0) (pv 2) (pv 3)))))
   u1.h)
 let u3:=ru x0 [5] (bV (kB (PW.pt (eE (j5 mV (pv 6) (pv 5)) (dZ (j5 kL (jQ xc hr rfl (j9 (pv 0) jC jC)) jC)))) (kF (jN 8 Q0.nd (DH (DD K) (pv 7) EI (xZ (pv 6))))) kD)
   u2.h)
 let u4:=ru x0 [4] (jG (jN 8 Q0.nd (jQ uh hr rfl (j9 (pv 0) jC (pv 6))))
   u3.h)
 let u5:=ru x0 [3] (jG (jN 7 Q0.nd (jQ uh hr rfl (j9 (pv 0) jC (pv 5))))
   u4.h)
 let u6:=ru x0 [2] (jG (jN 6 Q0.nd (jJ kG jC (jQ xc hr rfl (j9 (pv 0) jC (pv 2)))))
   u5.h)
 let u7:=ru x0 [1] (jG (jN 5 Q0.nd (jJ kG jC (jQ xc hr rfl (j9 (pv 0) jC (jJ yE (pv 1) jC)))))
   u6.h)
 refine ⟨_,(jG (jN 4 Q0.nd (jQ vz hr rfl (jB (pv 0) jD)))
   u7.h),?_⟩
 try dsimp only [jU,jT]
 refine (jA rfl (⟨s,ns,rfl,hS,h63,fun u hv0 hv1=>?_⟩));refine (jA rfl (jA rfl (jZ (⟨s,ns,_,jA rfl (⟨hS,h63,by lia,by lia,by lia,fun m0 m00 m01=>⟨_,_,rfl,rfl,?_⟩⟩)⟩))));obtain ⟨n,hn⟩:∃n:Nat,2+m0=(n:Int):=⟨(2+m0).toNat,by lia⟩
 try dsimp only
 rw [hn];have hn2:2<=n:=by lia
 have hn8:n<=8:=by lia
 refine (jA rfl (jA rfl (⟨s,ns,_,jA rfl (⟨hS,h63,by lia,by lia,by lia,fun m1 m10 m11=>⟨_,_,rfl,rfl,?_⟩⟩)⟩)));obtain ⟨m,hm⟩:∃m:Nat,1+m1=(m:Int):=⟨(1+m1).toNat,by lia⟩
 try dsimp only
 rw [hm];refine (jA rfl (jA rfl ((vY s ns _ n (zN rfl hS h63 (by decide) (by decide) (by lia) (fun cl cs H1 s1 hcl0 hcl hcsl hcs50=>?_))))));refine (jA rfl (jA rfl ((vY s ns _ m (zN rfl (s1.seq hS) h63 (by decide) (by decide) (by lia) (fun n0 z0 H2 s2 hn00 hn0 hz0l hz050=>?_))))));have s12:=s1.trans s2;refine ⟨fun σ Hj=>∃na zs,σ=[some (.ref s),some (.int (mr:Int)),some (.int (ml:Int)),some (.int (mn:Int)),some (.int u),some (.int (n:Int)),some (.int (m:Int)),some (.ref cl),some (.ref na),none,none]/\Hj na=some (.lst (zs.map V.str))/\zs.length=m/\NmsOk zs/\Hj cl=some (.lst (cs.map V.str))/\Same H Hj,?_,?_⟩
 ·refine (jA rfl (jA rfl (jZ ((jA rfl (ZP (fun c=>?_) (fun c=>⟨n0,z0,rfl,hn0,hz0l,hz050,s2 _ _ hcl,s12⟩)))))));have hle:m<=n:=by have:(m:Int)<=(n:Int):=ig c;lia
  refine (jA rfl (⟨s,ns,_,jA rfl (⟨s12.seq hS,h63,by decide,by decide,by decide,fun d d0 d1=>⟨rfl,jA rfl (ZP (fun c=>?_) (fun c=>⟨n0,z0,rfl,hn0,hz0l,hz050,s2 _ _ hcl,s12⟩))⟩⟩)⟩));refine (jA rfl (jA rfl (jA rfl (⟨cl,jA rfl (⟨so (s2 _ _ hcl),fun p hp=>?_⟩)⟩))));rw [R6 (show m<=cs.length by lia)];have u:=jK hp (.lst ((cs.take m).map V.str));exact ⟨p,cs.take m,rfl,jF,by rw [bg];lia,hcs50.take m,u _ _ (s2 _ _ hcl),s12.trans u⟩
 rintro σ H3 ⟨na,zs,rfl,hna,hzl,hzx,hcl3,s3⟩;refine (jA rfl (jA rfl (jZ (⟨s,ns,_,jA rfl (⟨s3.seq hS,h63,by lia,by lia,by lia,fun m2 m20 m21=>?_⟩)⟩))));obtain ⟨c,hc⟩:∃c:Nat,m2=(c:Int):=⟨m2.toNat,by lia⟩;rw [hc];refine (jA rfl (⟨by lia,by lia,fun nl hnl0=>?_⟩));refine tI (n:=((c:Nat):Int).toNat) (caps:=[some (.ref s),some (.int (n:Int)),some (.int u)]) (fun i ys Hi=>∃N:List (List (Int×Int)),AllAt (NAt [nl] Hi) ys N/\N.length=i/\(∀p∈N,∀q∈p,0<=q.1/\0<=q.2)/\∀p∈N,p.length=n) hnl0 ⟨[],AllAt.nil,rfl,(fun l hl=>by cases hl),fun l hl=>by cases hl⟩ ?_ ?_
 ·rintro i ys Hi hi hle sm hY ⟨N,hN,hNl,hNn,hNg⟩;rw [ax] at hi;rw [dv];refine vR (kW (jA rfl (jA rfl (jA rfl (jA rfl ((vO s ns i n u (QE rfl ((s3.trans sm).seq hS) h63 (by lia) hn8 hv0 hv1 (fun l p H' hg hgn s' hl0 hl=>yS hnl0 sm hY hle (by lia) s' ?_)))))))));obtain ⟨l',qs,e,h1,h2,_⟩:=hl;cases e;refine ⟨N++[p],((hN.mono (NAt.same s')).snoc (v:=.ref l) (x:=p) ⟨l,qs,rfl,h1,h2,fun z=>kZ hY hl0 (aS.mp z).symm⟩).mono (NAt.put (s' _ _ hY) (by simp)),by rw [ag,hNl];rfl,(fun p' hp'=>(ba.mp hp').elim (hNn p') fun h=>by rw [aS.mp h];exact hgn),fun p' hp'=>?_⟩
  rcases ba.mp hp' with hp'|hp'
  ·exact hNg p' hp'
  ·rw [aS.mp hp'];exact hg
 rintro nv H4 s4 hnl hle3 ⟨N,hN,hNl,hNn,hNg⟩;rw [ax] at hNl;have s34:=s3.trans s4;refine (jA rfl (jA rfl (⟨by lia,by lia,fun rl hrl0=>?_⟩)));refine tI (n:=((n:Nat):Int).toNat) (caps:=[some (.ref s),some (.int u),some (.ref cl)]) (fun i ys Hi=>∃R:List RC,AllAt (RcO cR Hi) ys R/\R.length=i/\R.map (·.name)=cs.take i/\∀(j:Nat) r,R[j]?=some r->r.good j) hrl0 ⟨[],AllAt.nil,rfl,rfl,fun j r hj=>by cases hj⟩ ?_ ?_
 ·rintro i ys Hi hi hle sm hY ⟨R,hR,hRl,hRx,hRg⟩;rw [ax] at hi;rw [dv];obtain ⟨nm,hnc⟩:∃nm,cs[i]?=some nm:=⟨_,aa (show i<cs.length by lia)⟩;have hnm:(cs.map V.str)[i]?=some (.str nm):=by rw [ak,hnc];rfl
  refine vR (kW (jA rfl (jA rfl (jA rfl (jA rfl (jA rfl (qA (so (sm _ _ (s4 _ _ hcl3))) (kQ hnm) ((vO s ns i u nm (zN rfl ((s34.trans sm).seq hS) h63 (by lia) hv0 hv1 (fun x r H' hg hrn s' hx0 hx=>yS hrl0 sm hY hle (by lia) s' ?_)))))))))));refine ⟨R++[r],((hR.mono (RcO.same s')).snoc (v:=.ref x) (x:=r) ⟨x,rfl,hx⟩).mono (RcO.keep ((Keep.refl rl H').upd _) (s' _ _ hY)),by rw [ag,hRl];rfl,(by rw [aw,hRx,aG,hnc,<- hrn];rfl),fun j r' hj=>?_⟩
  by_cases hl:j<R.length
  ·rw [aC hl] at hj;exact hRg j r' hj
  ·rw [aE (by lia)] at hj;have hz:j - R.length=0:=by
    have:=(af.mp hj).1;rw [aO] at this
    lia
   rw [hz] at hj;cases hj;rw [show j=i by lia];exact hg
 rintro rs H5 s5 hrl hle1 ⟨R,hR,hRl,hRx,hRg⟩;rw [ax] at hRl;have s45:=s4.trans s5;have s35:=s3.trans s45;refine (jA rfl (jA rfl (jA rfl (⟨by lia,by lia,fun ll hll0=>?_⟩))));refine tI (n:=((m:Nat):Int).toNat) (caps:=[some (.ref s),some (.int (n:Int)),some (.int u),some (.ref na)]) (fun i ys Hi=>∃L:List LC,AllAt (LkO (jE cP cB cU) Hi) ys L/\L.length=i/\L.map (·.name)=zs.take i/\∀l∈L,l.good n) hll0 ⟨[],AllAt.nil,rfl,rfl,fun l hl=>by cases hl⟩ ?_ ?_
 ·rintro i ys Hi hi hle sm hY ⟨L,hL,hLl,hLx,hLg⟩;rw [ax] at hi;rw [dv];obtain ⟨nm,hnc⟩:∃nm,zs[i]?=some nm:=⟨_,aa (show i<zs.length by lia)⟩;have hnm:(zs.map V.str)[i]?=some (.str nm):=by rw [ak,hnc];rfl
  refine vR (kW (jA rfl (jA rfl (jA rfl (jA rfl (jA rfl (jA rfl (qA (so (sm _ _ (s45 _ _ hna))) (kQ hnm) ((JI s ns i n u nm (oA rfl ((s35.trans sm).seq hS) h63 (by lia) hn2 hn8 hv0 hv1 (fun x l H' hg hln s' hx0 hx=>yS hll0 sm hY hle (by lia) s' ?_))))))))))));refine ⟨L++[l],((hL.mono (LkO.same s')).snoc (v:=.ref x) (x:=l) hx).mono (LkO.keep ((Keep.refl ll H').upd _) (s' _ _ hY)),by rw [ag,hLl];rfl,(by rw [aw,hLx,aG,hnc,<- hln];rfl),fun l' hl'=>?_⟩
  rcases ba.mp hl' with hl'|hl'
  ·exact hLg l' hl'
  ·rw [aS.mp hl'];exact hg
 rintro ls H6 s6 hll hle2 ⟨L,hL,hLl,hLx,hLg⟩;rw [ax] at hLl;refine (jA rfl (?_));intro x dx nx ndx nex;have v:=fun o o'=>gC (o:=o) (o':=o') nx ndx
 refine (gR x dx rl ll _ rs ls R L N (QE rfl jF (v _ _ _ _ (s6 _ _ hrl)) (v _ _ _ _ hll) ((hR.mono (RcO.same s6)).mono (RcO.same (v _ _))) (hL.mono (LkO.same (v _ _))) (.inr ⟨nl,nv,rfl,v _ _ _ _ (s6 _ _ (s5 _ _ hnl)),(hN.mono (NAt.same (s5.trans s6))).mono (NAt.same (v _ _)) |>.mono (NAt.less (by simp)),by rw [hN.1];lia⟩) (fun H' kp hC=>⟨rfl,?_⟩)));have w:=s35.trans s6;exact q x R L N H' ⟨by lia,by lia,by lia,by lia,hRg,fun i l hl=>by rw [hRl];exact hLg l (av hl),fun p hp=>by rw [hRl];exact hNg p hp⟩ hNn (by rw [hRx,ax];exact hcs50.take n) (by rw [hLx,ax];exact hzx.take m) (by lia) (by lia) (by lia) (by lia) (by lia) (w.trans (fW nx (v _ _) kp)) (w.free nx) (hC [] (fun d hd=>nomatch hd))
theorem sI:jS 2 ["canal","reach","some","k"] pI:=jR
include T in
theorem IT (F:j7 K "_law_turns" pI f fd) : FnOk P w K mg base jX 1 f fd ["canal","reach"] (DZ (jE cP cB cU) cR cN):=by
 refine F.ok2 sI fun vs H Q E h=>?_
 refine QV h fun x r D R L N h=>?_
 refine zT h fun e_ p0_ b8 q=>?_
 subst e_;obtain ⟨dx,rl,ll,nl,fs,rs,ls,ns,hx,hf,hrl,hll,hnl,hR,hL,hN,d1,d2,d3⟩:=p0_;refine ⟨rfl,fun _ _ _ _ hr=>?_⟩;refine tk fun x0=>?_
 let u0:=ru x0 [1,0,1] (kF (kB (j5 kL (jY K (jH (kO K) (jY K (pv 0) rfl) (pv 3)) rfl) (pv 1)) (kF (vB (yH aF aQ aR zE (pv 2) (jB (kR (jB (pv 3) (jB jV jD))) jD)))) kD))
 let u1:=ru x0 [1,0,0] (bV (kB (j5 kL (jY K (jH (kO K) (jY K (pv 0) rfl) (pv 3)) rfl) (pv 1)) (kF (vB (yH aF aQ aR zE (pv 2) (jB (kR (jB (pv 3) (jB jV jD))) jD)))) kD)
   u0.h)
 let u2:=ru x0 [1] (jG (yX di rfl (JK (by rfl) T.xn (jB (qF K T.xk (jY K (pv 0) rfl)) jD)) (kI (i:=3) sI.nd rfl (.inl rfl))
    u1.h)
   (jM (pv 2)))
 refine ⟨_,(jG (jN 2 sI.nd (kU jD))
   u2.h),?_⟩
 try dsimp only [jU,jT]
 refine ⟨zz0,fun ol hol0=>?_⟩;have s1:=jK hol0 (.lst []);refine ⟨_,rfl,x,cN,dx,_,_,rfl,(s1 _ _ hx),T.clN,T.xg,hf.2.1,ll,_,rfl,.inl (so (s1 _ _ hll)),_,rfl,by lia,by rw [hL.1];lia,Q4 (n:=((ls.length:Nat):Int).toNat) (fun i σ Hi=>∃us c,σ=[some (.ref x),some (.int r),some (.ref ol),c]/\Hi ol=some (.lst us)/\AllAt (PAt Hi) us (Z5 L r i)/\Same H Hi)
  ⟨[],none,rfl,jF,AllAt.nil,s1⟩ ?_ ?_⟩
 ·rintro i σ Hi hi ⟨us,c,rfl,hol,hA,sm⟩;rw [ax,hL.1] at hi;rw [dv];obtain ⟨l,hl'⟩:∃l,L[i]?=some l:=⟨_,aa hi⟩;obtain ⟨v,hv,y,rfl,dl,hl⟩:=hL.get hl';have hlen:=N8 L r i;have ek:bE L r i=(if l.low=r then [(i,true)] else [])++(if l.high=r then [(i,false)] else []):=by unfold bE;rw [hl']
  refine ⟨fun σ' H'=>∃us:List V,σ'=[some (.ref x),some (.int r),some (.ref ol),some (.int (i:Int))]/\H' ol=some (.lst us)/\AllAt (PAt H') us (Z5 L r i++(if l.low=r then [(i,true)] else []))/\Same H H',?_,?_⟩
  ·refine (jA rfl (j0 ((sm _ _ hx)) (T.clN) (T.xg) (hf.2.1) ((jA rfl (qA (so (sm _ _ hll)) (kQ hv) (j0 ((sm _ _ hl)) (T.cl l.kd) (T.ux l.kd) (eI l.kd _ _ _ _ _) (⟨_,rfl,rfl,jA rfl (?_)⟩)))))))
   by_cases h:l.low=r
   ·refine kJ (bz V.int h) (jA rfl (⟨.inl ⟨rfl,_,so hol⟩,jA rfl (⟨zz2,fun tp htp=>?_⟩)⟩));have u:=jK htp (.tup [V.int (i:Int),V.str "up"]);refine ⟨ol,_,_,rfl,rfl,u _ _ hol,qJ (by rw [hA.1];lia),jA rfl (⟨jF,?_,kY hol0 (sm.trans u)⟩)⟩;rw [if_pos h];exact ((hA.mono (PAt.same u)).snoc (v:=.ref tp) (x:=(i,true)) ⟨tp,rfl,jF⟩).mono (PAt.put (u _ _ hol))
   ·refine j4 (fun z=>h (V.int.inj z)) ⟨us,rfl,hol,?_,sm⟩;rw [if_neg h,bb];exact hA
  rintro σ' H' ⟨us,rfl,hol,hA,sm⟩;have hl2:(if l.low=r then [(i,true)] else ([]:List (Nat×Bool))).length<=1:=by split<;>simp
  refine (jA rfl (j0 ((sm _ _ hx)) (T.clN) (T.xg) (hf.2.1) ((jA rfl (qA (so (sm _ _ hll)) (kQ hv) (j0 ((sm _ _ hl)) (T.cl l.kd) (T.vq l.kd) (eA l.kd _ _ _ _ _) (⟨_,rfl,rfl,jA rfl (?_)⟩)))))))
  by_cases h:l.high=r
  ·refine kJ (bz V.int h) (jA rfl (⟨.inl ⟨rfl,_,so hol⟩,jA rfl (⟨zz2,fun tp htp=>?_⟩)⟩));have u:=jK htp (.tup [V.int (i:Int),V.str "down"]);refine ⟨ol,_,_,rfl,rfl,u _ _ hol,qJ (by rw [hA.1,ag];lia),_,jA rfl (⟨jF,?_,kY hol0 (sm.trans u)⟩)⟩;rw [sX,ek,if_pos h,<- fh];exact ((hA.mono (PAt.same u)).snoc (v:=.ref tp) (x:=(i,false)) ⟨tp,rfl,jF⟩).mono (PAt.put (u _ _ hol))
  ·refine j4 (fun z=>h (V.int.inj z)) ⟨us,jA rfl (⟨hol,?_,sm⟩)⟩;rw [sX,ek,if_neg h,bb];exact hA
 rintro σ Hi ⟨us,c,rfl,hol,hA,sm⟩;rw [ax,hL.1] at hA;exact (jA rfl (q ol us Hi sm hol0 hol hA))
theorem Q1:jS 4 ["script","k","canal","most","lock","at","start","steps","j","some","step"] pL:=jR
include T in
theorem IW (F:j7 K "_law_way" pL f fd) (xc:Def P w K mg base 1 "_law_draw" ["script","k","many"] [] (bZ K)) (xaS:Def P w K mg base 1 "_law_turns" ["canal","reach"] [] (DZ (jE cP cB cU) cR cN)):FnOk P w K mg base jX 2 f fd ["script","k","canal","most"] (DY K (jE cP cB cU) cR cN):=by
 refine F.ok2 Q1 fun vs H Q E h=>?_
 refine zA h fun s x ns k mo D R L N h=>?_
 refine XN h fun e_ hS h63 hk hm1 hm8 hc hdr b1 q=>?_
 subst e_;refine ⟨rfl,fun _ _ _ _ hr=>?_⟩;refine tk fun x0=>?_
 let u0:=ru x0 [4,0,3] (kF (jN 5 Q1.nd (jH (kO K) (kU (jB (jY K (jH (kO K) (jY K (pv 2) rfl) (jH (jL K) (pv 10) jC)) rfl) (jB (jY K (jH (kO K) (jY K (pv 2) rfl) (jH (jL K) (pv 10) jC)) rfl) jD))) (vT CK (by rfl) T.ju PyProof.Rows.boot_int (jB (zV kL (jH (jL K) (pv 10) jC) jV) jD)))))
 let u1:=ru x0 [4,0,2] (jG (vB (yH aF aQ aR zE (pv 7) (jB (pv 10) jD)))
   u0.h)
 let u2:=ru x0 [4,0,1] (jG (jN 10 Q1.nd (jH (kO K) (pv 9) (jQ xc hr rfl (j9 (pv 0) (jJ kG (jJ kG jC (jJ qD jC (pv 1))) (pv 8)) (qF K T.xk (pv 9))))))
   u1.h)
 let u3:=ru x0 [4,0,0] (jG (jN 9 Q1.nd (jQ xaS hr rfl (jB (pv 2) (jB (pv 5) jD))))
   u2.h)
 let u4:=ru x0 [4] (jG (yX di rfl (JK (by rfl) T.xn (jB (jJ kG jC (jQ xc hr rfl (j9 (pv 0) (jJ kG jC (jJ qD jC (pv 1))) (pv 3)))) jD)) (kI (i:=8) Q1.nd rfl (.inl rfl))
    u3.h)
   (jM (kR (jB (pv 6) (jB (vT (dI K) (by rfl) T.zf cy (jB (pv 7) jD)) jD)))))
 let u5:=ru x0 [3] (jG (jN 7 Q1.nd (kU jD))
   u4.h)
 let u6:=ru x0 [2] (jG (jN 6 Q1.nd (pv 5))
   u5.h)
 let u7:=ru x0 [1] (jG (jN 5 Q1.nd (jH (kO K) (kU (jB (jY K (pv 4) rfl) (jB (jY K (pv 4) rfl) jD))) (jQ xc hr rfl (j9 (pv 0) (jJ kG jC (jJ qD jC (pv 1))) jC))))
   u6.h)
 refine ⟨_,(jG (jN 4 Q1.nd (jH (kO K) (jY K (pv 2) rfl) (jQ xc hr rfl (j9 (pv 0) (jJ kG jC (jJ qD jC (pv 1))) (qF K T.xk (jY K (pv 2) rfl))))))
   u7.h),?_⟩
 try dsimp only [jU,jT]
 have hc0:=hc;obtain ⟨dx,rl,ll,nl,fs,rs,ls,nv,hx,hf,hrl,hll,hnl,hR,hL,hN,d1,d2,d3⟩:=hc;have b8:=hdr.l8;refine (jA rfl (j0 hx (T.clN) (T.xg) (hf.2.1) ((jA rfl (jA rfl (jZ (⟨.inl ⟨by decide,by decide⟩,_,_,rfl,rfl,jA rfl (j0 hx (T.clN) (T.xg) (hf.2.1) (⟨ll,jA rfl (⟨.inl (so hll),s,ns,_,jA rfl (⟨hS,h63,by lia,by lia,by rw [hL.1];lia,fun d1 d10 d11=>?_⟩)⟩)⟩))⟩)))))));obtain ⟨k1,hk1⟩:∃k1:Nat,d1=(k1:Int):=⟨d1.toNat,by lia⟩;subst hk1;have hk1L:k1<L.length:=by rw [hL.1] at d11;lia
 obtain ⟨l0,hl0⟩:∃l,L[k1]?=some l:=⟨_,aa hk1L⟩;obtain ⟨v,hv,yl,rfl,dl,hl⟩:=hL.get hl0;refine (qA (so hll) (kQ hv) (?_));refine (jA rfl (j0 hl (T.cl l0.kd) (T.ux l0.kd) (eI l0.kd _ _ _ _ _) ((jA rfl (j0 hl (T.cl l0.kd) (T.vq l0.kd) (eA l0.kd _ _ _ _ _) (⟨zz2,fun p1 hp1=>?_⟩))))));have s1:=jK hp1 (.lst [V.int l0.low,V.int l0.high]);refine (jA rfl (jA rfl (jZ (⟨.inl ⟨by decide,by decide⟩,_,_,rfl,rfl,s,ns,_,jA rfl (⟨s1.seq hS,h63,by lia,by lia,by lia,fun d2 d20 d21=>?_⟩)⟩))));obtain ⟨a0,hat,hend⟩:∃a0:Int,qS [V.int l0.low,V.int l0.high] d2=some (.int a0)/\EndAt L a0:=by
  obtain ⟨k2,hk2⟩:∃k2:Nat,d2=(k2:Int):=⟨d2.toNat,by lia⟩;subst hk2
  rcases k2 with _|_|k2
  ·exact ⟨l0.low,rfl,(k1,true),hk1L,by rw [Z7 hl0]⟩
  ·exact ⟨l0.high,rfl,(k1,false),hk1L,by rw [Z1 hl0]⟩
  ·lia
 refine (qA (so jF) hat (?_));refine (jA rfl (⟨zz0,fun sp hsp0=>?_⟩));have s2:=jK hsp0 (.lst []);have s12:=s1.trans s2;have hsp:upd (upd H p1 (.lst [V.int l0.low,V.int l0.high])) sp (.lst []) sp=some (.lst []):=jF;have hspf:=s1.free hsp0;generalize upd (upd H p1 (.lst [V.int l0.low,V.int l0.high])) sp (.lst [])=H2 at s2 s12 hsp ⊢;refine (jA rfl (jA rfl (jZ (⟨.inl ⟨by decide,by decide⟩,_,_,rfl,rfl,jA rfl (⟨s,ns,_,jA rfl (⟨s12.seq hS,h63,by lia,by lia,by lia,fun m0 m00 m01=>?_⟩)⟩)⟩))));obtain ⟨n,hn⟩:∃n:Nat,1+m0=(n:Int):=⟨(1+m0).toNat,by lia⟩;refine ⟨_,_,rfl,rfl,(n:Int),(by show [V.int (1+m0)]=_;rw [hn]),by lia,by lia,?_⟩;refine Q4 (n:=((n:Nat):Int).toNat) (fun i σ Hi=>∃(a:Int),∃ps us c8 c9 c10,σ=[some (.ref s),some (.int (k:Int)),some (.ref x),some (.int (mo:Int)),some (.ref yl),some (.int a),some (.int a0),some (.ref sp),c8,c9,c10]/\Hi sp=some (.lst us)/\AllAt (PAt Hi) us ps/\(∀p∈ps,p.1<L.length)/\ps.length=i/\(vC L a0 ps)[ps.length]?=some a/\JR L a0 ps/\EndAt L a/\Same H Hi)
  ⟨a0,[],[],none,none,none,rfl,hsp,AllAt.nil,fun p hp=>(by cases hp),rfl,rfl,UR _ _,hend,s12⟩ ?_ ?_
 ·rintro i σ Hi hi ⟨a,ps,us,c8,c9,c10,rfl,hsp,hA,hlt,hpl,hlast,hok,hen,sm⟩;rw [ax] at hi;rw [dv];refine (jA rfl (jA rfl ((JI x a _ R L N (qI rfl (hc0.same sm) b8 (fun sOo tus H4 s4 hso0 hso hTA=>?_))))));have sm4:=sm.trans s4;have htl:=hen.turns;refine (jA rfl (jA rfl (jA rfl (jZ (⟨.inl ⟨by decide,by decide⟩,_,_,rfl,rfl,jA rfl (jZ ((jA rfl (⟨sOo,jA rfl (⟨.inl (so hso),s,ns,_,jA rfl (⟨sm4.seq hS,h63,by lia,by lia,by rw [hTA.1];lia,fun d4 d40 d41=>?_⟩)⟩)⟩))))⟩)))));obtain ⟨m,hm⟩:∃m:Nat,d4=(m:Int):=⟨d4.toNat,by lia⟩;subst hm;have hml:m<tus.length:=by lia
  obtain ⟨p,hp,t,et,ht⟩:=hTA.2 m _ (aa hml);obtain ⟨hpL,hpe⟩:=turns_mem.mp (av hp);refine (qA (so hso) (kQ (v:=.ref t) (by rw [aa hml,et])) (?_));have hsp4:=s4 _ _ hsp;refine (jA rfl (⟨.inl ⟨rfl,_,so hsp4⟩,jA rfl (⟨sp,_,_,rfl,rfl,hsp4,qJ (by rw [hA.1];lia),?_⟩)⟩));have hA5:AllAt (PAt (upd H4 sp (.lst (us++[.ref t])))) (us++[.ref t]) (ps++[p]):=((hA.mono (PAt.same s4)).snoc ⟨t,rfl,ht⟩).mono (PAt.put hsp4);have sm5:Same H (upd H4 sp (.lst (us++[.ref t]))):=kY hspf sm4;have hsp5:upd H4 sp (.lst (us++[.ref t])) sp=some (.lst (us++[.ref t])):=jF;have ht:upd H4 sp (.lst (us++[.ref t])) t=some (.tup [.int (p.1:Int),.str (yI p.2)]):=by rw [jP (fun z=>by rw [z,hsp4] at ht;cases ht)];exact ht
  generalize upd H4 sp (.lst (us++[.ref t]))=H5 at hA5 sm5 hsp5 ht ⊢;obtain ⟨l,hl',hlg⟩:=tO hdr hpL;obtain ⟨w,hw,y,rfl,dl,hl⟩:=hL.get hl';refine (jA rfl (j0 ((sm5 _ _ hx)) (T.clN) (T.xg) (hf.2.1) ((jA rfl (jI (SqT.of ht) rfl (qA (so (sm5 _ _ hll)) (kQ hw) (j0 ((sm5 _ _ hl)) (T.cl l.kd) (T.ux l.kd) (eI l.kd _ _ _ _ _) ((jA rfl (j0 ((sm5 _ _ hx)) (T.clN) (T.xg) (hf.2.1) ((jA rfl (jI (SqT.of ht) rfl (qA (so (sm5 _ _ hll)) (kQ hw) (j0 ((sm5 _ _ hl)) (T.cl l.kd) (T.vq l.kd) (eA l.kd _ _ _ _ _) (⟨zz2,fun pl hpl0=>?_⟩))))))))))))))));have u:=jK hpl0 (.lst [V.int l.low,V.int l.high]);refine (jA rfl (jI (SqT.of (u _ _ ht)) rfl (⟨rfl,.inr (jA rfl (?_))⟩)));rw [FH];have hat:qS [V.int l.low,V.int l.high] (if p.2=true then 1 else 0)=some (.int (v7 L p).2):=by
   obtain ⟨pk,pb⟩:=p;cases pb
   ·rw [Z1 hl'];rfl
   ·rw [Z7 hl'];rfl
  refine (qA (so jF) hat (?_));refine ⟨_,ps++[p],us++[.ref t],_,_,jA rfl (⟨u _ _ hsp5,hA5.mono (PAt.same u),fun p' hp'=>?_,by rw [ag,hpl];rfl,?_,(SW hlast).mpr ⟨hok,hpe⟩,EndAt.next hpL,sm5.trans u⟩)⟩
  ·rcases ba.mp hp' with h|h
   ·exact hlt p' h
   ·rw [aS.mp h];exact hpL
  ·rw [t6,ag,aE (by rw [fX];exact aj _),fX];show [(v7 L p).2][ps.length+1 - (ps.length+1)]?=_;rw [ij];rfl
 rintro σ Hi ⟨a,ps,us,c8,c9,c10,rfl,hsp,hA,hlt,hpl,hlast,hok,hen,sm⟩;rw [ax] at hpl;refine (jA rfl (jA rfl (⟨sp,us,rfl,.inl ⟨so hsp,fun st hst0=>?_⟩⟩)));have v1:=jK hst0 (.tup us);refine ⟨zz2,fun t ht0=>?_⟩;have v2:=jK ht0 (.tup [V.int a0,V.ref st]);have w:=(sm.trans v1).trans v2;exact q t (a0,ps) _ ⟨hlt,hok,by show ps.length<=8;lia⟩ (by show 1<=ps.length;lia) (R1 hdr hend) w ((sm.trans v1).free ht0) (vA t st us (qI rfl jF (v2 _ _ jF) (hA.mono (PAt.same (v1.trans v2)))))
theorem x9:jS 3 ["canal","name","way","steps"] iL:=jR
include T in
theorem IM (F:j7 K "_law_come" iL f fd) : FnOk P w K mg base jX 1 f fd ["canal","name","way"] (DA (jE cP cB cU) cR cN):=by
 refine F.ok2 x9 fun vs H Q E h=>?_
 refine zA h fun x t nm y a D R L N h=>?_
 refine zS h fun e_ hc p1_ ok ha haR q=>?_
 subst e_;obtain ⟨t₂,st,us,e,h1,h2,h3⟩:=p1_;refine ⟨rfl,fun _ _ _ _ hr=>?_⟩;refine tk fun x0=>?_
 let u0:=ru x0 [1] (jM (kR (yB jV (pv 1) (jY K (jH (kO K) (jY K (pv 0) rfl) (jH (jL K) (pv 2) jC)) rfl) (vT (dI K) (by rfl) T.zf cy (jB (pv 3) jD)))))
 refine ⟨_,(jG (ZZ (i:=3) ["step","canal"] (qW 1 [0]) x9.nd rfl (.inl rfl) rfl (qX (j8 iL)) (cps 1 [0]) (wD (jH (jL K) (pv 2) jC)) (fun _ _ _ _ _=>(kI (i:=0) (show List.Nodup (["step","canal"]:List Str) from by decide +kernel) rfl (.inl rfl))) (fun _ _ _ _ _=>yT) (fun _ _ _ _ _=>(kR (jB (jY K (jH (kO K) (jY K (pv 1) rfl) (jH (jL K) (pv 0) jC)) rfl) (jB (jH (jL K) (pv 0) jC) jD)))))
   u0.h),?_⟩
 try dsimp only [jU,jT]
 cases e;have hc0:=hc;obtain ⟨dx,rl,ll,nl,fs,rs,ls,nv,hx,hf,hrl,hll,hnl,hR,hL,hN,d1,d2,d3⟩:=hc;have hus:=h3.1;have h8:=ok.le;refine (jA rfl (jI (SqT.of h1) rfl (⟨st,rfl,⟨_,SqT.of h2⟩,fun bt hbt=>?_⟩)));refine R7 (K:=K) (a:=st) (xs:=us) (caps:=[some (.ref x)]) (fun i zs Hi=>AllAt (SAt Hi) zs ((y.2.take i).map fun p=>(z3 L p.1,p.2))) hbt h2 AllAt.nil ?_ ?_
 ·rintro i v zs Hi hv hi hle sm hY hR0;obtain ⟨p,hp,tp,rfl,htp⟩:=h3.2 i v hv;obtain ⟨l,hl'⟩:∃l,L[p.1]?=some l:=⟨_,aa (ok.lt p (av hp))⟩;obtain ⟨w,hw,yl,rfl,dl,hl⟩:=hL.get hl';refine vR (kW (jA rfl (j0 ((sm _ _ hx)) (T.clN) (T.xg) (hf.2.1) ((jA rfl (jI (SqT.of (sm _ _ htp)) rfl (qA (so (sm _ _ hll)) (kQ hw) (j0 ((sm _ _ hl)) (T.cl l.kd) (T.vo l.kd) (bY l.kd _ _ _ _ _) ((jA rfl (jI (SqT.of (sm _ _ htp)) rfl (⟨zz2,fun t3 ht3=>?_⟩))))))))))));have u:=jK ht3 (.tup [V.str l.name,V.str (yI p.2)]);refine yS hbt sm hY hle (by lia) u ?_;rw [aG,hp,aw];refine ((hR0.mono (SAt.same u)).snoc (v:=.ref t3) (x:=(z3 L p.1,p.2)) ⟨t3,rfl,?_⟩).mono (SAt.put (u _ _ hY));rw [jF];unfold z3;rw [hl'];rfl
 rintro zs Hg sg hbg hleg hR0;rw [hus,aW] at hR0;obtain ⟨r,hr⟩:∃r,R[a]?=some r:=⟨_,aa haR⟩;obtain ⟨w,hw,xr,rfl,dr,gs,hxr,hg⟩:=hR.get hr;refine (jA rfl (jA rfl (j0 ((sg _ _ hx)) (T.clN) (T.xf) (hf.1) ((jA rfl (jI (SqT.of (sg _ _ h1)) rfl (⟨rl,_,_,jA rfl (⟨by rw [ha],so (sg _ _ hrl),kQ hw,j0 (sg _ _ hxr) (T.clR) (T.zp) (hg.1) ((jA rfl (⟨bt,zs,rfl,.inl ⟨so hbg,fun s2 hs2=>?_⟩⟩)))⟩)⟩)))))));have u1:=jK hs2 (.tup zs);refine ⟨zz4,fun t4 ht4=>?_⟩;have u2:=jK ht4 (.tup [V.str "come",V.str nm,V.str r.name,V.ref s2]);have w2:=(sg.trans u1).trans u2;refine q t4 _ w2 ((sg.trans u1).free ht4) ⟨s2,zs,?_,u2 _ _ jF,(hR0.mono (SAt.same u1)).mono (SAt.same u2)⟩;rw [jF];unfold QM;rw [hr];rfl
theorem fK:jS 3 ["canal","day","more","some","r","told"] pN:=jR
include T in
theorem IY (F:j7 K "_law_weather_of" pN f fd) : FnOk P w K mg base jX 1 f fd ["canal","day","more"] (AS (jE cP cB cU) cR cN):=by
 refine F.ok2 fK fun vs H Q E h=>?_
 refine QV h fun x d mo R L N h=>?_
 refine ZS h fun e_ hcn hdr hnn hd0 hm0 hm1 q=>?_
 subst e_;refine ⟨rfl,fun _ _ _ _ hr=>?_⟩;refine tk fun x0=>?_
 let u0:=ru x0 [1,0,2] (kF (vB (yH aF aQ aR zE (pv 3) (jB (kR (jB (jJ kG (jH (jL K) (pv 5) jC) (jJ qD (pv 2) (jJ yY (pv 4) jC))) (jB (jJ yE (jH (jL K) (pv 5) jC) (zW (CI rfl) (by rfl) T.jr PyProof.Rows.boot_min (jB (jH (jL K) (pv 5) jC) (jB (pv 2) jD)))) jD))) jD))))
 let u1:=ru x0 [1,0,1] (bV (kB (j5 ZG (pv 1) (qF K T.xk (jY K (pv 0) rfl))) (kF (jN 5 fK.nd (jH (kO K) (jH (kO K) (jY K (pv 0) rfl) (pv 1)) (pv 4)))) kD)
   u0.h)
 let u2:=ru x0 [1,0,0] (jG (jN 5 fK.nd (kR (jB jC (jB jC jD))))
   u1.h)
 let u3:=ru x0 [1] (jG (yX di rfl (JK (by rfl) T.xn (jB (qF K T.xk (jY K (pv 0) rfl)) jD)) (kI (i:=4) fK.nd rfl (.inl rfl))
    u2.h)
   (jM (vT (dI K) (by rfl) T.zf cy (jB (pv 3) jD))))
 refine ⟨_,(jG (jN 3 fK.nd (kU jD))
   u3.h),?_⟩
 try dsimp only [jU,jT]
 obtain ⟨dx,rl,ll,nl,gs,rs,ls,nv,hx,hf,hrl,hll,hnl,hR,hL,hN,d1,d2,d3⟩:=id hcn;have r8:=hdr.r8;have hrl':=hR.1;have hnl':=hN.1;refine ⟨aL _,fun l hl0=>?_⟩;have u0:=jK hl0 (.lst []);refine (jA rfl (j0 ((u0 _ _ hx)) (T.clN) (T.xf) (hf.1) (⟨rl,jA rfl (⟨.inl (so (u0 _ _ hrl)),jA rfl (⟨by lia,by lia,Q4 (n:=((rs.length:Nat):Int).toNat) (fun i σ Hi=>∃us W c4 c5,σ=[some (.ref x),some (.int d),some (.int mo),some (.ref l),c4,c5]/\Hi l=some (.lst us)/\AllAt (QAt Hi) us W/\W.length=i/\(∀(j:Nat) (p:Int×Int),W[j]?=some p->d<(N.length:Int)->(zZ N d j).1<=p.1/\p.2<=(zZ N d j).2)/\Same H Hi) ⟨[],[],none,none,rfl,jF,AllAt.nil,rfl,(fun j p hj=>by cases hj),u0⟩ ?_ ?_⟩)⟩)⟩)))
 ·rintro i σ Hi hi ⟨us,W,c4,c5,rfl,hl,hA,hWl,hwet,sm⟩;rw [ax] at hi;rw [dv];have hpn:0<=(zZ N d i).1/\0<=(zZ N d i).2:=by
   unfold zZ
   by_cases hd:d<(N.length:Int)
   ·rw [if_pos hd];obtain ⟨W',hW'⟩:∃W',N[d.toNat]?=some W':=⟨_,aa (by lia)⟩;rw [ad (l:=N),hW'];show 0<=(W'.getD i (0,0)).1/\0<=(W'.getD i (0,0)).2;have hWl':=hdr.night W' (av hW');rw [ad,aa (show i<W'.length by lia)];exact hnn W' (av hW') _ (fu _)
   ·rw [if_neg hd];exact ⟨Int.le_refl _,Int.le_refl _⟩
  refine ⟨zz2,fun t0 ht0=>?_⟩;have u1:=jK ht0 (.tup [V.int 0,V.int 0]);have smu:=sm.trans u1;refine ⟨fun σ Hj=>∃tt:Addr,σ=[some (.ref x),some (.int d),some (.int mo),some (.ref l),some (.int (i:Int)),some (.ref tt)]/\Hj tt=some (.tup [.int (zZ N d i).1,.int (zZ N d i).2])/\Hj l=some (.lst us)/\Same Hi Hj,?_,?_⟩
  ·refine (jA rfl (jA rfl (j0 ((smu _ _ hx)) (T.clN) (T.xq) (hf.2.2.1) (⟨nl,jA rfl (⟨.inl (so (smu _ _ hnl)),_,_,rfl,rfl,jA rfl (?_)⟩)⟩))))
   by_cases hd:d<(N.length:Int)
   case neg =>
    refine j4 (by lia) ⟨t0,rfl,?_,u1 _ _ hl,u1⟩;unfold zZ;rw [if_neg hd];exact jF
   obtain ⟨dn,rfl⟩:∃dn:Nat,d=(dn:Int):=⟨d.toNat,by lia⟩;obtain ⟨W',hW'⟩:∃W',N[dn]?=some W':=⟨_,aa (by lia)⟩;obtain ⟨v,hv,wn,qs,rfl,hwn,hqs,_⟩:=hN.get hW';have hWl':=hdr.night W' (av hW');obtain ⟨p,hp⟩:∃p,W'[i]?=some p:=⟨_,aa (by lia)⟩;obtain ⟨v2,hv2,tp,rfl,htp⟩:=hqs.get hp;refine kJ (by lia) (jA rfl (j0 ((smu _ _ hx)) (T.clN) (T.xq) (hf.2.2.1) ((jA rfl (qA (so (smu _ _ hnl)) (kQ hv) ((jA rfl (qA (so (smu _ _ hwn)) (kQ hv2) (⟨tp,rfl,?_,u1 _ _ hl,u1⟩)))))))));have e:zZ N (dn:Int) i=p:=by
    unfold zZ;rw [if_pos hd,ax,ad (l:=N),hW'];show W'.getD i (0,0)=p;rw [ad,hp];rfl
   rw [e];exact smu _ _ htp
  rintro σ Hj ⟨tt,rfl,htt,hl2,sij⟩;generalize hP:zZ N d i=P at htt hpn;obtain ⟨p1,p2⟩:=P;have m2:=cm (i:Int) (by decide:(2:Int)≠0);have m3:=bi (i:Int) (by decide:(0:Int)<2);refine (jA rfl (⟨.inl ⟨rfl,_,so hl2⟩,jA rfl (jI (SqT.of htt) rfl ((jA rfl (jA rfl (jZ (⟨(by show (0:Int)<2;decide),_,_,rfl,rfl,.inr ⟨by lia,by lia⟩,_,_,rfl,rfl,?_⟩))))))⟩));refine (jA rfl (jI (SqT.of htt) rfl ((jA rfl (jI (SqT.of htt) rfl ((jA rfl (⟨_,jA rfl (⟨_,_,rfl,rfl,zz2,fun tp htp=>?_⟩)⟩))))))));have v:=jK htp (.tup [V.int (p1+mo*((i:Int)%2)),V.int (p2 - (if mo<p2 then mo else p2))]);refine ⟨l,_,_,rfl,rfl,v _ _ hl2,qJ (by rw [hA.1];lia),?_⟩;refine ⟨us++[.ref tp],W++[(p1+mo*((i:Int)%2),p2 - (if mo<p2 then mo else p2))],_,jA rfl (⟨jF,?_,by rw [ag,hWl];rfl,fun j p hj hd=>?_,kY hl0 ((sm.trans sij).trans v)⟩)⟩
  ·exact ((hA.mono (QAt.same (sij.trans v))).snoc (v:=.ref tp) (x:=(p1+mo*((i:Int)%2),p2 - (if mo<p2 then mo else p2))) ⟨tp,rfl,jF⟩).mono (QAt.put (v _ _ hl2))
  ·by_cases hji:j<W.length
   ·rw [aC hji] at hj;exact hwet j p hj hd
   ·rw [aE (by lia)] at hj;have h0:j - W.length=0:=by
     have:=(af.mp hj).1;rw [aO] at this
     lia
    rw [h0] at hj;cases hj;rw [show j=i by lia,hP];have hpn:0<=p1/\0<=p2:=hpn;have hmm:0<=mo*((i:Int)%2):=Int.mul_nonneg hm0 m2;show p1<=p1+mo*((i:Int)%2)/\p2 - (if mo<p2 then mo else p2)<=p2
    split<;>lia
 rintro σ Hi ⟨us,W,c4,c5,rfl,hl,hA,hWl,hwet,sm⟩;rw [ax] at hWl;refine (jA rfl (⟨l,us,rfl,.inl ⟨so hl,fun wt hwt=>?_⟩⟩));have u:=jK hwt (.tup us);refine q wt us W _ (sm.trans u) (sm.free hwt) jF (hA.mono (QAt.same u)) (by lia) fun hd=>?_
 unfold bJ;rw [cw];intro j hj;have hj:=dq.mp hj;obtain ⟨p,hp⟩:∃p,W[j]?=some p:=⟨_,aa hj⟩;obtain ⟨h1,h2⟩:=hwet j p hp hd;have e:zZ N d j=(N.getD d.toNat []).getD j (0,0):=by unfold zZ;rw [if_pos hd]
 rw [e] at h1 h2;unfold cI;rw [show W.getD j (0,0)=p by rw [ad,hp];rfl,aV h1,aV h2];rfl
theorem fH:jS 5 ["canal","names","day","cell","unit","what","k","amount","name"] pE:=jR
include T in
theorem IO (F:j7 K "_law_entry" pE f fd) (ui:Def P w K mg base 1 "_law_weather_of" ["canal","day","more"] [] (AS (jE cP cB cU) cR cN)):FnOk P w K mg base jX 2 f fd ["canal","names","day","cell","unit"] (B3 (jE cP cB cU) cR cN):=by
 refine F.ok2 fH fun vs H Q E h=>?_
 refine zA h fun x nl₁ zs d c u R L N h=>?_
 refine XL h fun e_ hcn hdr hnn hr1 hl1 hd0 hu0 hu1₀ hnz hz100 q=>?_
 subst e_;refine ⟨rfl,fun _ _ _ _ hr=>?_⟩;refine tk fun x0=>?_
 let u0:=ru x0 [4,0,0] (jM (kR (jB jV (jB (jY K (jH (kO K) (jY K (pv 0) rfl) (jJ yY (pv 6) (qF K T.xk (jY K (pv 0) rfl)))) rfl) jD))))
 let u1:=ru x0 [7] (jG (kB (j5 kL (pv 5) jC) (jM (kR (j9 jV (pv 8) (pv 7)))) kD)
   (jM (kR (j9 jV (pv 8) (jJ yY (jJ bW (pv 3) jC) (jJ FB jC jC))))))
 let u2:=ru x0 [6] (jG (jN 8 fH.nd (jY K (jH (kO K) (jY K (pv 0) rfl) (jJ yY (pv 6) (qF K T.xk (jY K (pv 0) rfl)))) rfl))
   u1.h)
 let u3:=ru x0 [5] (jG (kB (j5 kL (pv 5) jC) (jM (kR (jB jV (jB (jQ ui hr rfl (j9 (pv 0) (pv 2) (pv 7))) jD)))) kD)
   u2.h)
 let u4:=ru x0 [4] (jG (kB (j5 ZG (pv 5) jC) u0.h kD)
   u3.h)
 let u5:=ru x0 [3] (bV (kB (PW.pt (eE (j5 ZG (pv 5) jC) (dZ (j5 eR (qF K T.xk (pv 1)) jC)))) (jM (kR (jB jV (jB (jH (kO K) (pv 1) (jJ yY (pv 6) (qF K T.xk (pv 1)))) jD)))) kD)
   u4.h)
 let u6:=ru x0 [2] (jG (jN 7 fH.nd (jJ kG (jJ qD (jJ yY (jJ bW (pv 3) jC) jC) (pv 4)) (jJ yY (jJ bW (pv 3) jC) jC)))
   u5.h)
 let u7:=ru x0 [1] (jG (jN 6 fH.nd (jJ yY (jJ bW (pv 3) jC) jC))
   u6.h)
 refine ⟨_,(jG (jN 5 fH.nd (jJ yY (pv 3) jC))
   u7.h),?_⟩
 try dsimp only [jU,jT]
 obtain ⟨dx,rl,ll,nl,gs,rs,ls,nv,hx,hf,hrl,hll,hnl,hR,hL,hN,d1,d2,d3⟩:=id hcn;have r8:=hdr.r8;have l8:=hdr.l8;have hrl':=hR.1;have hll':=hL.1;have YW:(10:Int) ^ Int.toNat 12=1000000000000:=by decide +kernel
 have w0:=cm c (by decide:(8:Int)≠0);have w1:=bi c (by decide:(0:Int)<8);have k0:=cm (c / 8) (by decide:(97:Int)≠0);have k1:=bi (c / 8) (by decide:(0:Int)<97);have a0:=cm (c / 776) (by decide:(3:Int)≠0);have a1:=bi (c / 776) (by decide:(0:Int)<3);have b0:=cm (c / 2328) (by decide:(2:Int)≠0);have b1:=bi (c / 2328) (by decide:(0:Int)<2);obtain ⟨m1,m2⟩:=b5 a0 (show c / 776%3<=2 by lia) hu0 hu1₀ (by decide);refine (jA rfl (jZ (⟨(by show (0:Int)<8;decide),?_⟩)));refine (jA rfl (jZ (⟨⟨by decide,by decide⟩,_,_,rfl,rfl,(by show (0:Int)<97;decide),?_⟩)));refine (jA rfl (jZ (⟨⟨by decide,by decide⟩,_,_,rfl,rfl,(by show (0:Int)<3;decide),jA rfl (jZ (⟨.inl ⟨by lia,by lia⟩,jA rfl (jZ (⟨⟨by decide,by decide⟩,_,_,rfl,rfl,(by show (0:Int)<2;decide),_,_,rfl,rfl,?_⟩))⟩))⟩)));have am0:0<=c / 776%3*u+c / 2328%2:=by lia
 have am1:c / 776%3*u+c / 2328%2<=100000000000:=by lia
 try dsimp only
 generalize c / 776%3*u+c / 2328%2=am at am0 am1 ⊢;generalize c / 8%97=k at k0 k1 ⊢;generalize c%8=wh at w0 w1 ⊢;have hzl:(zs.map V.str).length=zs.length:=ac _;refine ⟨fun σ Hj=>σ=[some (.ref x),some (.ref nl₁),some (.int d),some (.int c),some (.int u),some (.int wh),some (.int k),some (.int am),none]/\Hj=H,?_,?_⟩
 ·refine (jA rfl (jZ ((jA rfl (ZP (fun _=>?_) (fun _=>⟨rfl,rfl⟩))))));refine (jA rfl (⟨nl₁,jA rfl (⟨.inl (so hnz),_,_,rfl,rfl,jA rfl (ZP (fun h=>?_) (fun _=>⟨rfl,rfl⟩))⟩)⟩));have h:=ig h;have hz0:(0:Int)<(((zs.map V.str).length:Nat):Int):=by lia
  obtain ⟨z,hz,hat⟩:=VE zs (cm k (by lia:(((zs.map V.str).length:Nat):Int)≠0)) (by have:=bi k hz0;lia);refine (jA rfl (jA rfl (jA rfl (⟨nl₁,jA rfl (⟨.inl (so hnz),_,_,rfl,rfl,hz0,qA (so hnz) hat (⟨zz2,fun t ht=>?_⟩)⟩)⟩))));obtain ⟨i,hi⟩:=tM hz;exact q t (.pas z) _ (jK ht _) jF trivial (fun B e1 e2=>lI (i:=i) rfl (by show kH B.zs z=some i;rw [e1];exact hi)) fun _=>rfl
 rintro σ Hj ⟨rfl,rfl⟩;refine (jA rfl (jZ ((jA rfl (ZP (fun _=>?_) (fun _=>?_))))))
 ·have hp:(0:Int)<((ls.length:Nat):Int):=by lia
  obtain ⟨j,ej,lj⟩:=tR (a:=k) hp;obtain ⟨l,hl⟩:∃l,L[j]?=some l:=⟨_,aa (by lia)⟩;obtain ⟨v,hv,yl,rfl,dl,hyl⟩:=hL.get hl;refine (jA rfl (j0 hx (T.clN) (T.xg) (hf.2.1) ((jA rfl (jA rfl (j0 hx (T.clN) (T.xg) (hf.2.1) (⟨ll,jA rfl (⟨.inl (so hll),_,_,rfl,rfl,hp,?_⟩)⟩)))))))
  try dsimp only
  rw [ej];refine (qA (so hll) (kQ hv) (j0 hyl (T.cl l.kd) (T.vo l.kd) (bY l.kd _ _ _ _ _) (⟨zz2,fun t ht=>?_⟩)));obtain ⟨i,hi⟩:=tM (zs:=L.map (·.name)) (n:=l.name) (gz.mpr ⟨l,av hl,rfl⟩);exact q t (.lt l.name) _ (jK ht _) jF trivial (fun B e1 e2=>lI (i:=i) rfl hi) fun _=>rfl
 refine ⟨_,rfl,rfl,jA rfl (ZP (fun _=>?_) (fun _=>?_))⟩
 ·refine (jA rfl (jA rfl (jA rfl ((JI x d am R L N (QE rfl hcn hdr hnn hd0 am0 am1 (fun wt us W H1 s1 hwt0 hwt hA hWl hwet=>⟨zz2,fun t ht=>?_⟩)))))));have v:=jK ht (.tup [V.str "night",V.ref wt]);refine q t (.night W) _ (s1.trans v) ⟨wt,us,jF,v _ _ hwt,hA.mono (QAt.same v)⟩ (by show W.length<=100;lia) (fun B e1 e2=>?_) fun _=>rfl
  show (if W.length=R.length then (if B.d<(N.length:Int)/\bJ W (N.getD B.d.toNat [])=false then 8 else 0) else 7)=0;rw [if_pos hWl,e2,if_neg fun z=>by rw [hwet z.1] at z;exact nomatch z.2]
 have hp:(0:Int)<((rs.length:Nat):Int):=by lia
 obtain ⟨j,ej,lj⟩:=tR (a:=k) hp;obtain ⟨r,hr⟩:∃r,R[j]?=some r:=⟨_,aa (by lia)⟩;obtain ⟨v,hv,xr,rfl,dr,fs',hxr,hg⟩:=hR.get hr;obtain ⟨i,hi⟩:=tM (zs:=R.map (·.name)) (n:=r.name) (gz.mpr ⟨r,av hr,rfl⟩);refine (jA rfl (j0 hx (T.clN) (T.xf) (hf.1) ((jA rfl (jA rfl (j0 hx (T.clN) (T.xf) (hf.1) (⟨rl,jA rfl (⟨.inl (so hrl),_,_,rfl,rfl,hp,?_⟩)⟩)))))))
 try dsimp only
 rw [ej];refine (qA (so hrl) (kQ hv) (j0 hxr (T.clR) (T.zp) (hg.1) (?_)));refine ⟨_,rfl,rfl,jA rfl (ZP (fun _=>?_) (fun _=>?_))⟩
 ·refine (jA rfl (jA rfl (⟨zz3,fun t ht=>?_⟩)));exact q t (.take r.name am) _ (jK ht _) jF trivial (fun B e1 e2=>lI (i:=i) rfl hi) fun _=>rfl
 refine (jA rfl (jA rfl (jZ (⟨⟨by decide,by decide⟩,_,_,rfl,rfl,⟨by decide,by decide,by decide⟩,_,_,rfl,rfl,(show (0:Int)<10 ^ Int.toNat 12 from by decide +kernel),zz3,fun t ht=>?_⟩))));exact q t (.rain r.name _) _ (jK ht _) jF trivial (fun B e1 e2=>lI (i:=i) rfl hi) fun _=>rfl
theorem ZX:jS 2 ["full","waits","left","order","ready","one"] fF:=jR
include T in
theorem IR (F:j7 K "_law_ordered" fF f fd) : FnOk P w K mg base jX 1 f fd ["full","waits"] (B2):=by
 refine F.ok2 ZX fun vs H Q E h=>?_
 refine JF h fun f wl us rw o h=>?_
 refine zS h fun e_ hwl hA h100 hnd hT q=>?_
 subst e_;refine ⟨rfl,fun _ _ _ _ hr=>?_⟩;refine tk fun x0=>?_
 let u0:=ru x0 [2,0,5] (kF (ZZ (i:=2) ["other","one"] (qW 1 [5]) ZX.nd rfl (.inl rfl) rfl (qX (j8 fF)) (cps 1 [5]) (vQ (pv 2)) (fun _ _ _ _ _=>(kI (i:=0) (show List.Nodup (["other","one"]:List Str) from by decide +kernel) rfl (.inl rfl))) (fun _ _ _ _ _=>(Z6 (j5 ZF (jH (jL K) (pv 0) jC) (jH (jL K) (pv 1) jC)))) (fun _ _ _ _ _=>(pv 0))))
 let u1:=ru x0 [2,0,4] (jG (jN 0 ZX.nd (zV kL (jH (jL K) (pv 5) jC) jV))
   u0.h)
 let u2:=ru x0 [2,0,3] (jG (vB (yH aF aQ aR zE (pv 3) (jB (jH (jL K) (pv 5) jC) jD)))
   u1.h)
 let u3:=ru x0 [2,0,2] (bV (kB (j5 eR (qF K T.xk (pv 4)) jC) (kF (jN 5 ZX.nd (jH (kO K) (pv 4) jC))) kD)
   u2.h)
 let u4:=ru x0 [2,0,1] (jG (jN 5 ZX.nd (jH (kO K) (pv 2) jC))
   u3.h)
 let u5:=ru x0 [2,0,0] (jG (ZZ (i:=4) ["one","full"] (qW 1 [0]) ZX.nd rfl (.inl rfl) rfl (qX (j8 fF)) (cps 1 [0]) (vQ (pv 2)) (fun _ _ _ _ _=>(kI (i:=0) (show List.Nodup (["one","full"]:List Str) from by decide +kernel) rfl (.inl rfl))) (fun _ _ _ _ _=>(Z6 (j5 kL (jH (jL K) (pv 0) jC) (jH (kO K) (kU (jB jV (jB jV jD))) (vT CK (by rfl) T.ju PyProof.Rows.boot_int (jB (pv 1) jD)))))) (fun _ _ _ _ _=>(pv 0)))
   u4.h)
 let u6:=ru x0 [2] (jG (SO di (j5 eR (qF K T.xk (pv 2)) jC) u5.h)
   (jM (pv 3)))
 let u7:=ru x0 [1] (jG (jN 3 ZX.nd (kU jD))
   u6.h)
 refine ⟨_,(jG (jN 2 ZX.nd (vT (QH K) (by rfl) T.xy aX (jB (pv 1) jD)))
   u7.h),?_⟩
 try dsimp only [jU,jT]
 have hul:=hA.1;refine (jA rfl (⟨wl,us,rfl,.inl (so hwl),fun l0 hl00=>?_⟩));have u1:=jK hl00 (.lst us);refine ⟨aL _,fun ol hol0=>?_⟩;have u2:=jK hol0 (.lst []);have u12:=u1.trans u2;have ne0:l0≠ol:=kZ (jF (H:=H) (a:=l0)) hol0;have hol:upd (upd H l0 (.lst us)) ol (.lst []) ol=some (.lst []):=jF;have hl0:=u2 _ _ (jF (H:=H) (a:=l0) (o:=.lst us));have fo:=u1.free hol0;generalize upd (upd H l0 (.lst us)) ol (.lst [])=H2 at u12 hol hl0 ⊢;clear u1 u2 hol0;have hel:∀p,p<rw.length->∃t nm b,us.getD p .non=.ref t/\rw[p]?=some (nm,b)/\gS rw p=b/\zJ rw p=.str nm/\H t=some (.tup [.str nm,.str (yI b)]):=fun p hp=>by
  obtain ⟨v,hv⟩:∃v,us[p]?=some v:=⟨_,aa (by lia)⟩;obtain ⟨⟨nm,b⟩,hq,t,rfl,ht⟩:=hA.2 p v hv;refine ⟨t,nm,b,by rw [ad,hv];rfl,hq,?_,?_,ht⟩
  ·unfold gS;rw [ad,ak,hq];rfl
  ·unfold zJ;rw [ad,hq];rfl
 obtain ⟨W,hW⟩:∃W:Nat->St->Hp->Prop,W=fun m σ Hi=>∃(f':Bool) (ps done o':List Nat) (ll:Addr) (c4 c5:Option V),m=ps.length/\σ=[some (.bl f'),some (.ref wl),some (.ref ll),some (.ref ol),c4,c5]/\Hi ll=some (.lst (ps.map fun p=>us.getD p .non))/\Hi ol=some (.lst (done.map (zJ rw)))/\ll≠ol/\ps.Nodup/\(∀p∈ps,p<rw.length)/\Thr f' (ps.filter fun p=>gS rw p == true) (ps.filter fun p=>gS rw p == false) o'/\o=done++o'/\done.length+ps.length<=100/\Same H Hi:=⟨_,rfl⟩
 refine ⟨W,⟨rw.length,?_⟩,?_⟩
 ·rw [hW];refine ⟨f,List.range rw.length,[],o,l0,none,none,by rw [aT],rfl,?_,hol,ne0,nodup_range,(fun p hp=>dq.mp hp),?_,rfl,by rw [aT];simpa using h100,u12⟩
  ·rw [<- hul,OU];exact hl0
  ·have:rw.length=(rw.map (·.2)).length:=(ac _).symm;rw [this];exact hT
 rintro m σ Hi hw;have hw':=hw;rw [hW] at hw';obtain ⟨f',ps,done,o',ll,c4,c5,rfl,rfl,hll,hol,nlo,hps,hlt,hT,ho,hlen,sm⟩:=hw';clear hw;have hml:(ps.map fun p=>us.getD p .non).length=ps.length:=ac _;refine (jA rfl (⟨ll,jA rfl (⟨.inl (so hll),_,_,rfl,rfl,jA rfl (?_)⟩)⟩))
 by_cases hne:ps=[]
 ·subst hne;refine j4 (by simp) (jA rfl (?_));have:o'=[]:=by cases hT;rfl
  subst this;rw [bb] at ho;subst ho;exact q ol Hi sm fo hol
 obtain ⟨o'',rfl,hpk,hT'⟩:=SH hps hne hT;have pos:0<ps.length:=by cases ps with|nil=>exact absurd rfl hne|cons _ _=>simp
 refine kJ (by rw [hml];lia) ⟨fun σ' H'=>∃m',m'<ps.length/\W m' σ' H',fun σ' H' h=>h,?_⟩;refine (jA rfl (⟨ll,rfl,⟨_,so hll⟩,fun rd hrd=>?_⟩));refine QF (K:=K) (a:=ll) (xs:=ps.map fun p=>us.getD p .non) (caps:=[some (.bl f')]) (fun i ys Hj=>ys=((ps.take i).filter fun p=>gS rw p == !f').map fun p=>us.getD p .non) hrd (so hll) rfl ?_ ?_
 ·rintro i v ys Hj hv hi hle sm1 hY rfl;rw [ak] at hv;obtain ⟨p,hp,rfl⟩:=aP.mp hv;obtain ⟨t,nm,b,e1,e2,e3,e4,ht⟩:=hel p (hlt p (av hp));rw [hml] at hi;show _;simp only [e1];have ht:=sm1 _ _ (sm _ _ ht);refine (jA rfl (jI (SqT.of ht) rfl (⟨zz2,fun lp hlp=>?_⟩)));have u:=jK hlp (.lst [V.str "up",V.str "down"]);refine (jA rfl (.inr (jA rfl (qA (so jF) (T8 f') (⟨rfl,jA rfl (?_)⟩)))))
  by_cases hb:b = !f'
  ·refine kJ (sd_eq.mpr hb) (jA rfl (yS hrd sm1 hY hle (by lia) u ?_));rw [lG hp,if_pos (by rw [e3,hb];simp),aw];show _=_++[us.getD p .non];rw [e1]
  ·refine j4 (fun z=>hb (sd_eq.mp z)) (dP sm1 hY hle u ?_);rw [lG hp,if_neg (by rw [e3];cases b<;>cases f'<;>simp_all),bb]
 rintro ys H3 s3 hrd3 hle3 rfl;rw [hml,aW] at hrd3;have hll3:=s3 _ _ hll;obtain ⟨p0,ps',hp0⟩:∃p0 ps',ps=p0::ps':=by cases ps with|nil=>exact absurd rfl hne|cons a b=>exact ⟨a,b,rfl⟩
 refine (jA rfl (⟨ll,_,_,us.getD p0 .non,rfl,rfl,so hll3,kQ (j:=0) (by rw [hp0];rfl),?_⟩));generalize hpk':QQ (gS rw) f' ps=pk at hpk hT' ⊢;refine ⟨fun σ Hj=>σ=[some (.bl f'),some (.ref wl),some (.ref ll),some (.ref ol),some (.ref rd),some (us.getD pk .non)]/\Hj=H3,?_,?_⟩
 ·refine (jA rfl (⟨rd,jA rfl (⟨.inl (so hrd3),_,_,rfl,rfl,jA rfl (?_)⟩)⟩));cases hf:ps.filter fun p=>gS rw p == !f' with
  |nil =>
   have e:pk=p0:=by rw [<- hpk'];unfold QQ;rw [hf,hp0];rfl
   exact j4 (by simp) ⟨by rw [e];rfl,rfl⟩
  |cons a b =>
   have e:pk=a:=by rw [<- hpk'];unfold QQ;rw [hf]
   rw [hf] at hrd3;exact kJ (by simp) (jA rfl (⟨rd,_,_,us.getD a .non,rfl,rfl,so hrd3,kQ (j:=0) rfl,by rw [e];rfl,rfl⟩))
 rintro σ H3 ⟨rfl,rfl⟩;obtain ⟨t,nm,b,e1,e2,e3,e4,ht⟩:=hel pk (hlt pk hpk);have ht3:=s3 _ _ (sm _ _ ht);rw [e1];refine (jA rfl (⟨.inl ⟨rfl,_,so (s3 _ _ hol)⟩,jA rfl (jI (SqT.of ht3) rfl (⟨ol,_,_,rfl,rfl,s3 _ _ hol,qJ (by rw [ac];lia),?_⟩))⟩));have sm4:=kY (o:=.lst (done.map (zJ rw)++[V.str nm])) fo (sm.trans s3);have hol4:upd H3 ol (.lst (done.map (zJ rw)++[V.str nm])) ol=some (.lst ((done++[pk]).map (zJ rw))):=by rw [jF,aw];show _=some (HO.lst (_++[zJ rw pk]));rw [e4]
 have hll4:upd H3 ol (.lst (done.map (zJ rw)++[V.str nm])) ll=some (.lst (ps.map fun p=>us.getD p .non)):=by rw [jP nlo];exact hll3
 generalize upd H3 ol (.lst (done.map (zJ rw)++[V.str nm]))=H4 at sm4 hol4 hll4 ⊢;have ht4:=sm4 _ _ ht;refine (jA rfl (jI (SqT.of ht4) rfl (⟨rfl,?_⟩)));have eb:decide (V.str (yI b)=V.str "up")=b:=by cases b<;>first|exact aV rfl|exact aH (qR (by decide +kernel))
 rw [eb];refine (jA rfl (⟨ll,rfl,⟨_,so hll4⟩,fun nw hnw=>?_⟩));refine QF (K:=K) (a:=ll) (xs:=ps.map fun p=>us.getD p .non) (caps:=[some (.ref t)]) (fun i ys Hj=>ys=((ps.take i).filter fun p=>decide (p≠pk)).map fun p=>us.getD p .non) hnw (so hll4) rfl ?_ ?_
 ·rintro i v ys Hj hv hi hle sm1 hY rfl;rw [ak] at hv;obtain ⟨p,hp,rfl⟩:=aP.mp hv;obtain ⟨t',nm',b',f1,f2,f3,f4,ht'⟩:=hel p (hlt p (av hp));rw [hml] at hi;simp only [f1];refine (jA rfl (jI (SqT.of (sm1 _ _ (sm4 _ _ ht'))) rfl ((jA rfl (jI (SqT.of (sm1 _ _ ht4)) rfl (⟨rfl,jA rfl (?_)⟩))))))
  by_cases hpp:p=pk
  ·subst hpp;rw [e2] at f2;cases f2;refine ZJ rfl (dP sm1 hY hle (Same.refl _) ?_);rw [lG hp,if_neg (by simp),bb]
  ·have hn:nm'≠nm:=fun e=>hpp (by
    have h1:=Q2 hnd (n:=nm') (i:=p) (by rw [ak,f2];rfl);have h2:=Q2 hnd (n:=nm) (i:=pk) (by rw [ak,e2];rfl);rw [e,h2] at h1;exact (az h1).symm)
   refine ZI (fun z=>hn (V.str.inj z)) (jA rfl (yS hnw sm1 hY hle (by lia) (Same.refl _) ?_));rw [lG hp,if_pos (by simpa using hpp),aw];show _=_++[us.getD p .non];rw [f1]
 rintro ys H5 s5 hnw5 hle5 rfl;rw [hml,aW] at hnw5;have hlt5:(ps.filter fun p=>decide (p≠pk)).length<ps.length:=by
  refine Nat.lt_of_le_of_ne (bf _ _) fun e=>?_
  have:=length_filter_eq_length_iff.mp e pk hpk;simp at this
 refine ⟨_,hlt5,?_⟩;rw [hW];exact ⟨b,ps.filter fun p=>decide (p≠pk),done++[pk],o'',nw,_,_,rfl,rfl,hnw5,s5 _ _ hol4,OB hol4 hnw,hps.filter _,(fun p hp=>hlt p (bp.mp hp).1),e3▸hT',by rw [ho,fh,hpk'];rfl,by rw [ag,aO];lia,sm4.trans s5⟩
theorem fJ:jS 1 ["book","refused","e"] pK:=jR
include T in
theorem IV (F:j7 K "_law_unknown" pK f fd) (wm:DefX P w K mg base 4 "waiting" ["book","name"] [] (ZB (jE cP cB cU) cR cN cO eU wQ)) (um:DefX P w K mg base 4 "advice" ["book","name"] [] (ZB (jE cP cB cU) cR cN cO eU w9)):FnOk P w K mg base jX 6 f fd ["book"] (FQ (jE cP cB cU) cR cN cO):=by
 refine F.ok2 fJ fun vs H Q E h=>?_
 refine zB h fun b x A R L N B h=>?_
 refine zT h fun e_ hq hxl q=>?_
 subst e_;refine ⟨rfl,fun _ _ _ _ hr=>?_⟩;refine tk fun x0=>?_
 let u0:=ru x0 [2] (jG (VY rfl rfl rfl rfl T.vc T.wb (fun _ _ hx=>(kF (vB (k7 um hx hr rfl (jB (pv 0) (jB jV jD)))))) (fun _=>(kF (jN 1 fJ.nd (jJ kG (pv 1) jC)))))
   (jM (zV kL (pv 1) jC)))
 let u1:=ru x0 [1] (jG (SQ (i:=2) rfl rfl rfl fJ.nd rfl rfl rfl T.wz (fun _ _ hx=>(kF (vB (k7 wm hx hr rfl (jB (pv 0) (jB jV jD)))))) (fun _=>(kF (kB (PW.pt (eE (vV (zW (DT (K:=K)) (by rfl) T.xo dm (jB (pv 2) (jB (JN (v:=.ref eU) rfl T.vc rfl) jD)))) (dZ (b4 (vV (zW (DT (K:=K)) (by rfl) T.xo dm (jB (pv 2) (jB (JN (v:=.ref eW) rfl T.ua rfl) jD)))))))) (kF (jN 1 fJ.nd (jJ kG (pv 1) jC))) kD))))
   u0.h)
 refine ⟨_,(jG (jN 1 fJ.nd jC)
   u1.h),?_⟩
 try dsimp only [jU,jT]
 have hno:=PJ hxl;refine ⟨fun σ' k H'=>σ'=[some (.ref b),some (.int 0),none]/\k=.ref eU/\Same H H',(jA rfl (⟨b,x,"xyz",vO A R L N B (qI rfl hq (fun k hk=>absurd (hno.symm.trans hk) (by simp)) (fun _ H1 s1=>⟨rfl,rfl,s1⟩))⟩)),?_⟩;rintro σ' k H' ⟨rfl,rfl,s1⟩;refine ⟨eU,rfl,T.exm_Unknown,fun ex hex=>?_⟩;have u:=jK hex (cV ex eU);refine (jA rfl ((vY ex eU (.ref eU) true (qU rfl jF T.at_Unknown T.wj (.inl (jA rfl (T.k_Unknown_Unknown))) (jA rfl (kW (jA rfl ((vY ex eU (.ref eW) false (qU rfl jF T.at_Unknown T.wj (.inl (jA rfl (T.k_Unknown_NotNow))) (jA rfl (kW (jA rfl (jZ (?_)))))))))))))));have s2:=s1.trans u;refine ⟨fun σ' k H'=>σ'=[some (.ref b),some (.int 1),none]/\k=.ref eU/\Same H H',(jA rfl (⟨b,x,"xyz",vO A R L N B (qI rfl (hq.same s2) (fun k hk=>absurd (hno.symm.trans hk) (by simp)) (fun _ H1 s1=>⟨rfl,rfl,s2.trans s1⟩))⟩)),?_⟩;rintro σ' k H' ⟨rfl,rfl,s3⟩;exact ⟨rfl,jA rfl (jZ (⟨_,rfl,rfl,q H' s3⟩))⟩
theorem JU:jS 2 ["book","canal","names","ways","state","k","waits","boat","steps","found","full"] iK:=jR
include T in
theorem IK (F:j7 K "_law_asked" iK f fd) (xl:MeD P w K mg base 1 cO "names" ["self"] (vJ (jE cP cB cU) cR cN cO (JE fun B=>B.zs.map V.str))) (xj:MeD P w K mg base 1 cO "ways" ["self"] (vJ (jE cP cB cU) cR cN cO (JE BkS.us))) (xb:MeD P w K mg base 1 cO "state" ["self"] (vJ (jE cP cB cU) cR cN cO JW)) (wm:DefX P w K mg base 4 "waiting" ["book","name"] [] (ZB (jE cP cB cU) cR cN cO eU wQ)) (um:DefX P w K mg base 4 "advice" ["book","name"] [] (ZB (jE cP cB cU) cR cN cO eU w9)) (xag:Def P w K mg base 1 "_law_ordered" ["full","waits"] [] (B2)) (xah:Def P w K mg base 6 "_law_unknown" ["book"] [] (FQ (jE cP cB cU) cR cN cO)):FnOk P w K mg base (kA P w) 7 f fd ["book","canal"] (gA (jE cP cB cU) cR cN cO):=by
 refine F.okX2 JU fun vs H Q E h=>?_
 refine zB h fun b x A R L N B h=>?_
 refine J4 h fun e_ hq nL hzd q=>?_
 subst e_;refine ⟨rfl,fun _ _ _ _ hr=>?_⟩;have hu:_<cLine:=hr.units0;refine tk fun x0=>?_
 let u0:=ru x0 [3,0,1,0,1,0,0] (kF (vB (yH aF aQ aR zE (pv 6) (jB (kR (jB (jH (kO K) (pv 2) (pv 7)) (jB (jH (jL K) (jH (jL K) (pv 8) (jH (jL K) (jH (jL K) (pv 4) jC) (pv 7))) jC) jD))) jD))))
 let u1:=ru x0 [3,0,1,0,1] (kF (kB (PW.pt (eE (j5 ZG (jH (jL K) (jH (jL K) (pv 4) jC) (pv 7)) (qF K T.xk (pv 8))) (dZ (j5 kL (jH (jL K) (jH (jL K) (pv 8) (jH (jL K) (jH (jL K) (pv 4) jC) (pv 7))) jC) (pv 5))))) u0.h kD))
 let u2:=ru x0 [3,0,1,0,0] (jG (jN 8 JU.nd (jH (jL K) (jH (kO K) (pv 3) (pv 7)) jC))
   u1.h)
 let u3:=ru x0 [3,0,6] (kF (kB (PW.pt (mT (b4 (vV (zW (CJ (K:=K)) (by rfl) T.xo dm (jB (pv 9) (jB (EM (v:=.ty "list") rfl T.xy aX rfl) jD))))) (mJ (j5 (FC hu) (pv 9) (jQ xag hr rfl (jB (pv 10) (jB (pv 6) jD))))))) (jM cF) kD))
 let u4:=ru x0 [3,0,5] (jG (jN 10 JU.nd (zV eR (jH (jL K) (jH (jL K) (pv 4) jC) (jJ kG (qF K T.xk (jY K (pv 1) rfl)) (pv 5))) jC))
   u3.h)
 let u5:=ru x0 [3,0,4] (jG (jN 9 JU.nd (k7 um kP hr rfl (jB (pv 0) (jB (jY K (jH (kO K) (jY K (pv 1) rfl) (pv 5)) rfl) jD))))
   u4.h)
 let u6:=ru x0 [3,0,3] (jG (kB (PW.pt (mT (b4 (vV (zW (CJ (K:=K)) (by rfl) T.xo dm (jB (pv 9) (jB (EM (v:=.ty "list") rfl T.xy aX rfl) jD))))) (mJ (j5 (FC hu) (pv 9) (eY ["one"] [] (qX (j8 iK)) (vQ (pv 6)) (fun _ _ _ _ _=>(jH (jL K) (pv 0) jC))))))) (jM cF) kD)
   u5.h)
 let u7:=ru x0 [3,0,2] (jG (jN 9 JU.nd (k7 wm kP hr rfl (jB (pv 0) (jB (jY K (jH (kO K) (jY K (pv 1) rfl) (pv 5)) rfl) jD))))
   u6.h)
 let u8:=ru x0 [3,0,1] (jG (yX bA rfl (JK (by rfl) T.xn (jB (qF K T.xk (pv 2)) jD)) (kI (i:=7) JU.nd rfl (.inl rfl))
    u2.h)
   u7.h)
 let u9:=ru x0 [3,0,0] (jG (jN 6 JU.nd (kU jD))
   u8.h)
 let u10:=ru x0 [3] (jG (yX bA rfl (JK (by rfl) T.xn (jB (qF K T.xk (jY K (pv 1) rfl)) jD)) (kI (i:=5) JU.nd rfl (.inl rfl))
    u9.h)
   (jM (jQ xah hr rfl (jB (pv 0) jD))))
 let u11:=ru x0 [2] (jG (jN 4 JU.nd (kN xb hr (pv 0)))
   u10.h)
 let u12:=ru x0 [1] (jG (jN 3 JU.nd (kN xj hr (pv 0)))
   u11.h)
 refine ⟨_,(jG (jN 2 JU.nd (kN xl hr (pv 0)))
   u12.h),?_⟩
 try dsimp only [jU,jT]
 obtain ⟨db,fs,hb,hno⟩:=hq.ins;have r8:=hq.ok.dr.r8;have l8:=hq.ok.dr.l8;have z9:=hq.ok.z9;have zl:=hq.ok.zl;have ml:=hq.ok.ml;have fl:=hq.ok.fl;refine (jA rfl (⟨b,db,jA rfl (⟨hb,hno _ (by decide +kernel),kS b x A R L N B (kK rfl hq (fun l1 H1 s1 n1 h1=>?_))⟩)⟩));refine (jA rfl (⟨b,db,jA rfl (⟨(s1 _ _ hb),hno _ (by decide +kernel),kS b x A R L N B (kK rfl (hq.same s1) (fun l2 H2 s2 n2 h2=>?_))⟩)⟩));have t2:=s1.trans s2;refine (jA rfl (⟨b,db,jA rfl (⟨(t2 _ _ hb),hno _ (by decide +kernel),kS b x A R L N B (kK rfl (hq.same t2) (?_))⟩)⟩));have h1:=s2 _ _ h1;have hq2:=hq.same t2;have hcn:=hq2.cnH;obtain ⟨dx,rl,ll,nl,gs,rs,ls,nv,hx,hf,hrl,hll,hnl,hR,hL,hN,d1,d2,d3⟩:=id hcn;have hll':=hL.1;have hA:=hq2.wyH;obtain ⟨wt,pt,g1,g2,g3⟩:=hq2.stH;have xL:("xyz":Str)∉L.map (·.name):=fun h=>(nL.2 _ h).2.1 rfl
 have hzl:(B.zs.map V.str).length=B.zs.length:=ac _;refine (jA rfl (j0 hx (T.clN) (T.xg) (hf.2.1) (⟨ll,jA rfl (⟨.inl (so hll),jA rfl (⟨by lia,by lia,Q4 (n:=((ls.length:Nat):Int).toNat) (fun i σ Hi=>∃c5 c6 c7 c8 c9 c10,σ=[some (.ref b),some (.ref x),some (.ref l1),some (.ref l2),some (.ref B.st),c5,c6,c7,c8,c9,c10]/\Same H2 Hi) ⟨none,none,none,none,none,none,rfl,Same.refl _⟩ ?_ ?_⟩)⟩)⟩)))
 case refine_2 =>
  rintro σ Hi ⟨c5,c6,c7,c8,c9,c10,rfl,sm⟩;exact (jA rfl ((kS b x A R L N B (qI rfl (hq2.same sm) xL (fun H' s'=>q H' ((t2.trans sm).trans s'))))))
 rintro i σ Hi hi ⟨c5,c6,c7,c8,c9,c10,rfl,sm⟩;rw [ax] at hi;rw [dv];refine ⟨aL _,fun wl hwl0=>?_⟩;have u0:=jK hwl0 (.lst []);refine (jA rfl (⟨l1,jA rfl (⟨.inl (so (u0 _ _ (sm _ _ h1))),jA rfl (⟨by lia,by rw [hzl];lia,Q4 (n:=(((B.zs.map V.str).length:Nat):Int).toNat) (fun j σ Hj=>∃us c7 c8,σ=[some (.ref b),some (.ref x),some (.ref l1),some (.ref l2),some (.ref B.st),some (.int (i:Int)),some (.ref wl),c7,c8,c9,c10]/\Hj wl=some (.lst us)/\AllAt (SAt Hj) us (J3 B.zs B.ys B.pl i j)/\Same Hi Hj) (vA ([]) c7 c8 (qI rfl jF AllAt.nil u0)) ?_ ?_⟩)⟩)⟩))
 ·rintro j σ Hj hj ⟨us,c7,c8,rfl,hwl,hR0,sj⟩;rw [ax,hzl] at hj;rw [dv];obtain ⟨z,hz⟩:∃z,B.zs[j]?=some z:=⟨_,aa hj⟩;obtain ⟨y,hy⟩:∃y,B.ys[j]?=some y:=⟨_,aa (by lia)⟩;obtain ⟨p,hp⟩:∃p,B.pl[j]?=some p:=⟨_,aa (by rw [fl.len];lia)⟩;obtain ⟨v,hv,tw,sw,vs,rfl,w1,w2,w3⟩:=hA.get hy;have sk:=sm.trans sj;have ey:B.ys.getD j (0,[])=y:=by rw [ad,hy];rfl
  have ep:B.pl.getD j 0=p:=by rw [ad,hp];rfl
  have ez:B.zs.getD j ""=z:=by rw [ad,hz];rfl
  have hul2:=hR0.1;have hrl:=fV B.zs B.ys B.pl i j;have hvl:=w3.1;have ew:zP B.ys B.pl i j=match y.2[p]? with|some s=>if s.1=i then some s.2 else none|none=>none:=by unfold zP;rw [ey,ep];try rfl
  have hpt:qS (B.pl.map fun (p:Nat)=>V.int (p:Int)) (j:Int)=some (.int (p:Int)):=kQ (by rw [ak,hp];rfl);have skip:zP B.ys B.pl i j=none->AllAt (SAt Hj) us (J3 B.zs B.ys B.pl i (j+1)):=fun h=>by
   rw [dO,h];show AllAt (SAt Hj) us (_++[]);rw [bb];exact hR0
  refine (jA rfl (jA rfl (qA (so (sk _ _ h2)) (kQ hv) (jI (SqT.of (sk _ _ w1)) rfl (?_)))));refine (jA rfl (jI (SqT.of (sk _ _ g1)) rfl ((jA rfl (jI (SqT.of (sk _ _ g3)) hpt ((jA rfl (⟨sw,jA rfl (⟨.inr (SqT.of (sk _ _ w2)),_,_,rfl,rfl,jA rfl (?_)⟩)⟩))))))))
  by_cases hpl:p<y.2.length
  case neg =>
   rw [bh (by lia)] at ew;exact j4 (by lia) ⟨us,_,jA rfl (⟨hwl,skip ew,sj⟩)⟩
  obtain ⟨s₁,hs⟩:∃s,y.2[p]?=some s:=⟨_,aa hpl⟩;obtain ⟨v3,hv3,ts,rfl,hts⟩:=w3.get hs;rw [hs] at ew;have ew:zP B.ys B.pl i j=if s₁.1=i then some s₁.2 else none:=ew
  refine kJ (by lia) (jA rfl (jA rfl (jI (SqT.of (sk _ _ g1)) rfl ((jA rfl (jI (SqT.of (sk _ _ g3)) hpt (jI (SqT.of (sk _ _ w2)) (kQ hv3) (jI (SqT.of (sk _ _ hts)) rfl (⟨_,rfl,rfl,jA rfl (?_)⟩)))))))))
  by_cases hsk:s₁.1=i
  case neg =>
   rw [if_neg hsk] at ew;exact j4 (fun z=>hsk (by have:=V.int.inj z;lia)) ⟨us,_,jA rfl (⟨hwl,skip ew,sj⟩)⟩
  rw [if_pos hsk] at ew;refine kJ (by rw [hsk]) (jA rfl (⟨.inl ⟨rfl,_,so hwl⟩,jA rfl (jA rfl (qA (so (sk _ _ h1)) (kQ (v:=.str z) (by rw [ak,hz];rfl)) ((jA rfl (jA rfl (jI (SqT.of (sk _ _ g1)) rfl ((jA rfl (jI (SqT.of (sk _ _ g3)) hpt (jI (SqT.of (sk _ _ w2)) (kQ hv3) (jI (SqT.of (sk _ _ hts)) rfl (⟨zz2,fun t2 ht2=>?_⟩))))))))))))⟩));have v2:=jK ht2 (.tup [V.str z,V.str (yI s₁.2)]);refine ⟨wl,_,_,rfl,rfl,v2 _ _ hwl,qJ (by lia),us++[.ref t2],_,jA rfl (⟨jF,?_,kY hwl0 (sj.trans v2)⟩)⟩;rw [dO,ew,ez];exact ((hR0.mono (SAt.same v2)).snoc (v:=.ref t2) (x:=(z,s₁.2)) ⟨t2,rfl,jF⟩).mono (SAt.put (v2 _ _ hwl))
 rintro σ Hj ⟨us,c7,c8,rfl,hwl,hR0,sj⟩;rw [ax,hzl] at hR0;have hR0:AllAt (SAt Hj) us (vX B i):=hR0;have sk:=sm.trans sj;have hbk:(vX B i).length<=9:=by have:=fV B.zs B.ys B.pl i B.zs.length;unfold vX;lia
 have hul:=hR0.1;obtain ⟨l,hl⟩:∃l,L[i]?=some l:=⟨_,aa (by lia)⟩;obtain ⟨v,hv,yl,rfl,dl,hyl⟩:=hL.get hl;have hfi:kH (L.map (·.name)) l.name=some i:=Q2 nL.1 (by rw [ak,hl];rfl);have hqj:=hq2.same sk;refine (jA rfl (jA rfl (j0 ((sk _ _ hx)) (T.clN) (T.xg) (hf.2.1) ((jA rfl (qA (so (sk _ _ hll)) (kQ hv) (j0 ((sk _ _ hyl)) (T.cl l.kd) (T.vo l.kd) (bY l.kd _ _ _ _ _) ((JT b x l.name A R L N B (qI rfl hqj (fun k' hk' lf H3 s3 hlf0 hlf=>?_) (fun hn=>absurd (hfi.symm.trans hn) (by simp))))))))))));cases hfi.symm.trans hk';refine (jA rfl (⟨_,_,_,_,_,rfl,rfl,TyOf.lst hlf,DN "list",jA rfl (qV (jA rfl (jA rfl (⟨wl,rfl,⟨_,so (s3 _ _ hwl)⟩,fun bt hbt=>?_⟩))))⟩));refine QF (K:=K) (a:=wl) (xs:=us) (caps:=[]) (fun i' ys Hg=>ys=((vX B i).take i').map fun p=>V.str p.1) hbt (so (s3 _ _ hwl)) rfl ?_ ?_
 ·rintro i' v ys Hg hv hi' hle sg hY rfl;obtain ⟨p,hp,t,rfl,ht⟩:=hR0.2 i' v hv;refine vR (kW (jA rfl (jI (SqT.of (sg _ _ (s3 _ _ ht))) rfl (yS hbt sg hY hle (by lia) (Same.refl _) ?_))));rw [aG,hp,aw];rfl
 rintro ys H4 s4 hbt4 hle4 rfl;rw [hul,aW] at hbt4;refine ⟨lf,bt,_,rfl,rfl,so (s4 _ _ hlf),so hbt4,OS _,jA rfl (qV ?_)⟩;have sk4:=sk.trans (s3.trans s4);have s34:=s3.trans s4;refine (jA rfl (jA rfl (j0 ((sk4 _ _ hx)) (T.clN) (T.xg) (hf.2.1) ((jA rfl (qA (so (sk4 _ _ hll)) (kQ hv) (j0 ((sk4 _ _ hyl)) (T.cl l.kd) (T.vo l.kd) (bY l.kd _ _ _ _ _) ((JT b x l.name A R L N B (qI rfl (hq2.same sk4) (fun k' hk' la o H5 s5 hla0 hla hT=>?_) (fun hn=>absurd (hfi.symm.trans hn) (by simp))))))))))));cases hfi.symm.trans hk';have sk5:=sk4.trans s5;have eix:((rs.length:Nat):Int)+(i:Int)=((R.length+i:Nat):Int):=by rw [hR.1];lia
 refine (jA rfl (jI (SqT.of (sk5 _ _ g1)) rfl ((jA rfl (j0 ((sk5 _ _ hx)) (T.clN) (T.xf) (hf.1) (⟨rl,jA rfl (⟨.inl (so (sk5 _ _ hrl)),jA rfl (jZ (⟨wt,_,_,jA rfl (⟨bz V.int eix,SqT.of (sk5 _ _ g2),yD (by lia),_,_,rfl,rfl,?_⟩)⟩))⟩)⟩))))));have s45:=s34.trans s5;refine (jA rfl (⟨_,_,_,_,_,rfl,rfl,TyOf.lst hla,DN "list",jA rfl (qV (jA rfl (jA rfl (jA rfl (⟨bG R.length B.ms i,wl,us,vX B i,o,rfl,s45 _ _ hwl,hR0.mono (SAt.same s45),by lia,BB hzd (aj _),hT,fun lo H6 s6 hlo0 hlo=>?_⟩)))))⟩));refine ⟨la,lo,_,rfl,rfl,so (s6 _ _ hla),so hlo,OT _ _,jA rfl (qV ?_)⟩;exact ⟨_,_,_,_,_,jA rfl (sk5.trans s6)⟩
theorem ZY:jS 1 ["script","canal","book","called","k","entry","cell"] QZ:=jR
include T in
theorem KR (F:j7 K "law" QZ f fd) (xaT:Def P w K mg base 6 "_law_canal" ["script","most_reaches","most_locks","most_nights"] [] (DB K (jE cP cB cU) cR cN)) (xbO:MkD P w K mg base 7 "Book" cO ["self","canal"] (tL (jE cP cB cU) cR cN cO)) (xaH:DefX P w K mg base 2 "_law_names" ["script","k","many"] [] (dN K)) (xx:DefX P w K mg base 1 "_law_draw" ["script","k","many"] [] (mB K)) (xa9:Def P w K mg base 1 "_law_come" ["canal","name","way"] [] (DA (jE cP cB cU) cR cN)) (xbf:Def P w K mg base 2 "_law_way" ["script","k","canal","most"] [] (DY K (jE cP cB cU) cR cN)) (zj:MeX P w K mg base 10 cO "fault" ["self","entry"] (qQ (jE cP cB cU) cR cN cO (mM eB eT eM eU eL eN eD))) (xai:MeX P w K mg base 13 cO "do" ["self","entry"] (w5 (jE cP cB cU) cR cN cO eB eT eM eU eL eN eD eW)) (wf:DefX P w K mg base 7 "_law_asked" ["book","canal"] [] (gA (jE cP cB cU) cR cN cO)) (xaU:Def P w K mg base 2 "_law_entry" ["canal","names","day","cell","unit"] [] (B3 (jE cP cB cU) cR cN)) (xl:MeD P w K mg base 1 cO "names" ["self"] (vJ (jE cP cB cU) cR cN cO (JE fun B=>B.zs.map V.str))) (xb:MeD P w K mg base 1 cO "state" ["self"] (vJ (jE cP cB cU) cR cN cO JW)) (vz:Def P w K mg base 1 "_law_unit" ["script"] [] (wA K)):FnOk P w K mg base (kA P w) 14 f fd ["script"] (cA K):=by
 refine F.okX2 ZY fun vs H Q E h=>?_
 obtain ⟨s,ns,rfl,hS,h63,q⟩:=h;refine ⟨rfl,fun _ _ _ _ hr=>?_⟩;refine tk fun x0=>?_
 let u0:=ru x0 [3,0,1] (kF (kB (j5 kL (JC zj kP hr (pv 2) (jB (pv 5) jD)) jV) (kF (vB (JC xai kP hr (pv 2) (jB (pv 5) jD)))) kD))
 let u1:=ru x0 [3,0,0] (jG (jN 5 ZY.nd (jQ xa9 hr rfl (j9 (pv 1) (jH (kO K) (pv 3) (pv 4)) (jQ xbf hr rfl (yB (pv 0) (pv 4) (pv 1) jC)))))
   u0.h)
 let u2:=ru x0 [5,0,1,0,0] (jG (vB (JC xai kP hr (pv 2) (jB (pv 5) jD)))
   (kF (kB (b4 (vV (k7 wf kP hr rfl (jB (pv 2) (jB (pv 1) jD))))) (jM cF) kD)))
 let u3:=ru x0 [5,0,1] (kF (kB (j5 kL (JC zj kP hr (pv 2) (jB (pv 5) jD)) jV) u2.h kD))
 let u4:=ru x0 [5,0,0] (jG (jN 5 ZY.nd (jQ xaU hr rfl (fC (pv 1) (kN xl hr (pv 2)) (jH (jL K) (kN xb hr (pv 2)) jC) (pv 6) (jQ vz hr rfl (jB (pv 0) jD)))))
   u3.h)
 let u5:=ru x0 [5] (jG (yX bA rfl (vQ (DH (DD K) (pv 0) EI (xZ jC))) (kI (i:=6) ZY.nd rfl (.inl rfl))
    u4.h)
   (jM cF))
 let u6:=ru x0 [4] (jG (kB (b4 (vV (k7 wf kP hr rfl (jB (pv 2) (jB (pv 1) jD))))) (jM cF) kD)
   u5.h)
 let u7:=ru x0 [3] (jG (yX bA rfl (JK (by rfl) T.xn (jB (k7 xx kP hr rfl (j9 (pv 0) jC jC)) jD)) (kI (i:=4) ZY.nd rfl (.inl rfl))
    u1.h)
   u6.h)
 let u8:=ru x0 [2] (jG (jN 3 ZY.nd (k7 xaH kP hr rfl (j9 (pv 0) jC jC)))
   u7.h)
 let u9:=ru x0 [1] (jG (jN 2 ZY.nd (eO xbO hr rfl (jB (pv 1) jD)))
   u8.h)
 refine ⟨_,(jG (jN 1 ZY.nd (jQ xaT hr rfl (yB (pv 0) jC jC jC)))
   u9.h),?_⟩
 try dsimp only [jU,jT]
 refine (jA rfl ((vO s ns 4 3 1 (oA rfl hS h63 (by decide) (by decide) (by decide) (by decide) (by decide) (fun x R L N H1 hdr hnn nR nL hR4 hL3 hN2 hr2 hl1 s1 hx0 hcn=>?_)))));refine (jA rfl (?_));intro b db nb ndb neb;have m1:Same H1 (kX (upd (upd H1 db (.own b)) b (.ins cO db [])) [b]):=fun a o e=>by
  rw [yO (fun z=>kZ e nb (aS.mp z)),jP (kZ e nb),jP (kZ e ndb)];exact e
 refine (JI b db x R L N (vG rfl jF (hcn.same m1) hdr (fun A B H2 hB hz0 he0 hd=>⟨rfl,?_⟩)));have s12:=s1.trans (m1.trans hd);refine (jA rfl ((vY s ns _ 7 (zN rfl ((s12.trans (ZA _ _)).seq hS) h63 (by decide) (by decide) (by decide) (fun cl cs H3 s3 hcl0 hcl hcsl hcs=>?_)))));have hB3:=hB.same s3;have sc:=s12.trans (JJ s3);have hclG:kX H3 A cl=some (.lst (cs.map V.str)):=by rw [yO (hB.out hcl0)];exact hcl
 clear hcl hcl0 s12 hd m1 hB neb ndb nb hcn hx0 s1 s3;generalize hG:kX H3 A=G at sc hclG;have hSi:∀Hi,Same G (kX Hi A)->SqL K Hi s (ns.map V.int):=fun Hi sG=>((sc.trans sG).trans (ZA _ _)).seq hS
 have hci:∀Hi,Same G (kX Hi A)->Hi cl=some (.lst (cs.map V.str)):=fun Hi sG=>(sG.trans (ZA _ _)) _ _ hclG
 have sG3:Same G (kX H3 A):=fun a o e=>by rw [hG];exact e
 obtain ⟨d0,d1⟩:=Z2 ns 93 (show (1:Int)<=8 by decide);refine (jA rfl (⟨s,ns,_,jA rfl (⟨(hSi _ sG3),h63,by decide,by decide,by decide,?_⟩)⟩));generalize zI ns 93 8=d at d0 d1 ⊢;refine (jA rfl (⟨by lia,by lia,Q4 (n:=d.toNat) (fun i σ Hi=>∃B c4 c5,σ=[some (.ref s),some (.ref x),some (.ref b),some (.ref cl),c4,c5,none]/\BkAt (jE cP cB cU) cR cN cO A Hi b x R L N B/\(∀z∈B.zs,z∈cs.take i)/\B.zs.Nodup/\B.zs.length<=i/\B.es.length<=i/\Same G (kX Hi A)) (vA B none none (zN rfl hB3 (fun z hz=>by rw [hz0] at hz;cases hz) (by rw [hz0];exact du) (by rw [hz0];exact aj _) (by rw [he0];exact aj _) sG3)) ?_ ?_⟩))
 ·rintro i σ Hi hi ⟨B,c4,c5,rfl,hq,hz,hzd,hzl,hel,sG⟩;rw [dv];have hic:i<cs.length:=by lia
  obtain ⟨nm,hnm⟩:∃nm,cs[i]?=some nm:=⟨_,aa hic⟩;have hnmV:(cs.map V.str)[i]?=some (.str nm):=by rw [ak,hnm];rfl
  refine (jA rfl (jA rfl (jA rfl (qA (so (hci _ sG)) (kQ hnmV) ((jA rfl (jA rfl (jA rfl ((vM s x ns i 4 ([]) R L N (YE rfl (hSi _ sG) h63 (by lia) (by decide) (by decide) hq.cnH hdr hl1 (fun t y H7 hyo hy1 hya s7 ht0 hwy=>?_))))))))))));obtain ⟨a,ha,haR⟩:=hya;refine (vM x t nm y a ([]) R L N (zN rfl (hq.cnH.same s7) hwy hyo ha haR (fun te H8 s8 he0 hco=>?_)));have s78:=s7.trans s8;have hin:nm∉B.zs:=fun h=>by
   obtain ⟨j,hj⟩:=gk.mp (hz nm h);have hji:j<i:=by have:=(af.mp hj).1;rw [bg] at this;lia
   rw [List.getElem?_take_of_lt hji] at hj;have f1:=Q2 hcs.1 hj;rw [Q2 hcs.1 hnm] at f1;have:=az f1
   lia
  have hc0:qH R L N B (.come ⟨nm,QM R a,y.2.map fun p=>(z3 L p.1,p.2)⟩)=0:=R9 nR nL hyo ha haR (hcs.2 nm (av hnm)) hin (by lia);have hsm:e9 (.come ⟨nm,QM R a,y.2.map fun p=>(z3 L p.1,p.2)⟩):=⟨by show nm.length<=100;have:=(hcs.2 nm (av hnm)).2.2;lia,by show (y.2.map _).length<=8;rw [ac];exact hyo.le,by show 1<=(y.2.map _).length;rw [ac];exact hy1⟩;have htk:∀z∈cs.take i,z∈cs.take (i+1):=fun z h=>by rw [aG];exact gl _ h
  obtain ⟨db,fs,hb,hno⟩:=hq.ins;generalize hE:Ent.come ⟨nm,QM R a,y.2.map fun p=>(z3 L p.1,p.2)⟩=e at hc0 hsm;have hen:EnAt H8 te e:=by rw [<- hE];exact hco
  have hze:QX B e=B.zs++[nm]:=by rw [<- hE];rfl
  refine (jA rfl (⟨b,db,jA rfl (⟨(s78 _ _ hb),hno _ (by decide +kernel),jA rfl ((vM b te x A R L N B e (qU rfl (hq.same s78) hen hsm (fun _ H9 s9=>⟨rfl,jA rfl (?_)⟩) (fun h=>absurd hc0 h))))⟩)⟩));have s79:=s78.trans s9
  by_cases hw:y0 R L N B e=""
  case neg=>exact j4 (fun z=>hw (V.str.inj z)) ⟨B,_,jA rfl (⟨hq.same s79,(fun z h=>htk z (hz z h)),hzd,by lia,by lia,sG.trans (JJ s79)⟩)⟩
  refine kJ (bz V.str hw) (jA rfl (⟨b,db,jA rfl (⟨(s79 _ _ hb),hno _ (by decide +kernel),jA rfl ((vM b te x A R L N B e (zN rfl (hq.same s79) (hen.same s9) hsm (fun _ _=>⟨by lia,fun B' H10 hB' hz' he' hd'=>?_⟩) (fun _ h=>absurd hw h) (fun h=>absurd hc0 h))))⟩)⟩));refine ⟨B',_,jA rfl (⟨hB',fun z h=>?_,by rw [hz',hze];exact nodup_append.mpr ⟨hzd,cu.mpr ⟨(fun h=>by cases h),du⟩,fun a ha c hc e=>hin (by rw [<- aS.mp hc,<- e];exact ha)⟩,by rw [hz',hze,ag];show B.zs.length+1<=i+1;lia,by lia,(sG.trans (JJ s79)).trans hd'⟩)⟩;rw [hz',hze] at h
  rcases ba.mp h with h|h
  ·exact htk z (hz z h)
  ·rw [aS.mp h,aG,hnm];exact bd _ (by simp)
 rintro σ Hi ⟨B,c4,c5,rfl,hq,hz,hzd,hzl,hel,sG⟩;have hzc:∀z∈B.zs,z∈cs:=fun z h=>iq (hz z h)
 have hel:B.es.length<=7:=by lia
 clear hz hzl;refine (jA rfl (jA rfl ((kS b x A R L N B (vG rfl hq nL hzd (fun H4 s4=>(jA rfl (qV ?_))))))));have sG4:=sG.trans (JJ s4);have hq4:=hq.same s4;clear hq sG s4;refine (jA rfl (jA rfl (⟨s,jA rfl (⟨hSi _ sG4,fun p hp=>?_⟩)⟩)));rw [XJ];have u5:=jK hp (.lst ((ns.take 12).map V.int));have hq5:=hq4.same u5;have sG5:=sG4.trans (JJ u5);have hpA:=hq4.out hp;have hp5:upd H4 p (.lst ((ns.take 12).map V.int)) p=some (.lst ((ns.take 12).map V.int)):=jF;generalize upd H4 p (.lst ((ns.take 12).map V.int))=H5 at u5 hq5 sG5 hp5 ⊢;have hpG:∀Hi,Same (kX H5 A) (kX Hi A)->Hi p=some (.lst ((ns.take 12).map V.int)):=fun Hi s=>(s.trans (ZA _ _)) _ _ (by rw [yO hpA];exact hp5)
 refine ⟨p,rfl,⟨_,so hp5⟩,lY (K:=K) (a:=p) (xs:=(ns.take 12).map V.int) (fun i σ Hi=>∃B c5 c6,σ=[some (.ref s),some (.ref x),some (.ref b),some (.ref cl),c4,c5,c6]/\BkAt (jE cP cB cU) cR cN cO A Hi b x R L N B/\B.zs.Nodup/\B.es.length<=7+i/\Same (kX H5 A) (kX Hi A)) (vA B c5 none (vG rfl hq5 hzd (by lia) (Same.refl _))) (fun i σ Hi _ ⟨_,_,_,_,_,_,_,s⟩=>so (hpG Hi s)) ?_ ?_⟩
 ·rintro i v σ Hi hv ⟨B,c5,c6,rfl,hq,hzd,hel,sH⟩;have sG:=sG5.trans sH;have hi:i<12:=by
   have:=(af.mp hv).1;rw [ac,bg] at this
   lia
  obtain ⟨c,rfl⟩:∃c:Int,v=.int c:=by
   rw [ak] at hv;obtain ⟨c,_,rfl⟩:=aP.mp hv;exact ⟨c,rfl⟩
  obtain ⟨db,fs,hb,hno⟩:=hq.ins;have z9:=hq.ok.z9;refine (jA rfl (jA rfl (⟨b,db,jA rfl (⟨hb,hno _ (by decide +kernel),kS b x A R L N B (kK rfl hq (fun l6 H6 s6 hl60 hl6=>?_))⟩)⟩)));obtain ⟨ww,pt,g1,g2,g3⟩:=(hq.same s6).stH;refine (jA rfl (⟨b,db,jA rfl (⟨(s6 _ _ hb),hno _ (by decide +kernel),kS b x A R L N B (kK rfl (hq.same s6) (jI (SqT.of g1) rfl ((jA rfl (jA rfl (⟨s,ns,rfl,s6.seq (hSi _ sG),h63,fun u hv0 hv1=>?_⟩))))))⟩)⟩));refine (vM x l6 B.zs B.d c u R L N (YC rfl ((hq.same s6).cnH) hdr hnn (by lia) hl1 hq.ok.d0 hv0 hv1 hl6 (by lia) (fun te e H8 s8 hen hsm hcode hze=>?_)));have hc0:=hcode B rfl rfl;have hze:=hze B;have s78:=s6.trans s8;refine (jA rfl (⟨b,db,jA rfl (⟨(s78 _ _ hb),hno _ (by decide +kernel),jA rfl ((vM b te x A R L N B e (qU rfl (hq.same s78) hen hsm (fun _ H9 s9=>⟨rfl,jA rfl (?_)⟩) (fun h=>absurd hc0 h))))⟩)⟩));have s79:=s78.trans s9
  by_cases hw:y0 R L N B e=""
  case neg=>exact j4 (fun z=>hw (V.str.inj z)) ⟨B,_,jA rfl (⟨hq.same s79,hzd,by lia,sH.trans (JJ s79)⟩)⟩
  refine kJ (bz V.str hw) (jA rfl (⟨b,db,jA rfl (⟨(s79 _ _ hb),hno _ (by decide +kernel),jA rfl ((vM b te x A R L N B e (zN rfl (hq.same s79) (hen.same s9) hsm (fun _ _=>⟨by lia,fun B' H10 hB' hz' he' hd'=>?_⟩) (fun _ h=>absurd hw h) (fun h=>absurd hc0 h))))⟩)⟩));have hzd':B'.zs.Nodup:=by rw [hz',hze];exact hzd
  exact (jA rfl (jA rfl ((kS b x A R L N B' (vG rfl hB' nL hzd' (fun H11 s11=>(jA rfl (qV ⟨B',_,jA rfl (⟨hB'.same s11,hzd',by lia,((sH.trans (JJ s79)).trans hd').trans (JJ s11)⟩)⟩))))))))
 rintro σ Hf _;exact q _
end
theorem all_mk {l:W.OpenLaw} {w:World} {h:Heap} {mg:Str->Option Value} {fa f8 f9 f10 f11 f15 f17 f101:Addr} {cP cB cU:Addr} {dn0:Nat} {tkS:Tok} {eC eB eT eM eU eL eW eN eD:Addr} {cd_eU:ClassData} {tkH:Tok} {cO:Addr} {dF:Tok} {dH:Tok} {dG:Tok} {aU aD:Addr} {oU oD:Obj} {nU nD:Nat} {tu0 td0 tu1 td1 tu2 td2 tu3 td3 tu4 td4 tu5 td5 tu6 td6:Tok} (X:K.In h) (G:h.Ns mainGlobals mg) (hfa:mg "law"=some (.ref fa))
 {od17 an17 od101 an101:Option Addr} {sl17 sl101:Array (Option Value)} {oc17 kV17 dc17 pm17 cd17 ct17 oc101 kV101 dc101 pm101 cd101 ct101:Value} {T17:Addr} {oT17:Obj}
  (xbP:qG K "PlainLock" (some (.ref cP)))
  (xbQ:qG K "BasinLock" (some (.ref cB)))
  (xbR:qG K "PumpLock" (some (.ref cU)))
  (xbS:qG K "Reach" (some (.ref cR)))
  (xbT:qG K "Canal" (some (.ref cN)))
  (va:qG K "CanalError" (some (.ref eC)))
  (uo:qG K "BadRow" (some (.ref eB)))
  (xaj:qG K "Twice" (some (.ref eT)))
  (wp:qG K "TooMany" (some (.ref eM)))
  (wr:qG K "Unknown" (some (.ref eU)))
  (vi:qG K "NotLinked" (some (.ref eL)))
  (uq:qG K "NotNow" (some (.ref eW)))
  (vj:qG K "BadNumber" (some (.ref eN)))
  (ur:qG K "TooDry" (some (.ref eD)))
  (xbU:qG K "Book" (some (.ref cO)))
  (p0:j6 K "poured_all" rK)
  (p1:j6 K "over" rD)
  (p2:j6 K "last_first" pX)
  (p3:j6 K "spills" rS)
  (p4:j6 K "spill_pours" iV)
  (p5:j6 K "settled" rQ)
  (p6:j6 K "with_spills" sD)
  (p7:j6 K "parts_not_nought" iT)
  (a8:kT K cP "__init__" (some (.ref f8)))
  (i8:W.isFn K (.ref f8)=true)
  (ac8:W.findCls K (.ref cP) (.type "type") "__init__"=some (.val (.ref f8)))
  (p8:iG K "__init__" "PlainLock.__init__" o7 f8)
  (a9:kT K cB "__init__" (some (.ref f9)))
  (i9:W.isFn K (.ref f9)=true)
  (p9:iG K "__init__" "BasinLock.__init__" oI f9)
  (a10:kT K cU "__init__" (some (.ref f10)))
  (i10:W.isFn K (.ref f10)=true)
  (p10:iG K "__init__" "PumpLock.__init__" pA f10)
  (a11:kT K cR "__init__" (some (.ref f11)))
  (i11:W.isFn K (.ref f11)=true)
  (p11:iG K "__init__" "Reach.__init__" pC f11)
  (p12:vN K cP "fill_parts" "PlainLock.fill_parts" o8)
  (p13:vN K cB "fill_parts" "BasinLock.fill_parts" oJ)
  (p14:vN K cU "fill_parts" "PumpLock.fill_parts" pB)
  (a15:kT K cP "let_parts" (some (.ref f15)))
  (a15_U:kT K cU "let_parts" (some (.ref f15)))
  (i15:W.isFn K (.ref f15)=true)
  (p15:iG K "let_parts" "PlainLock.let_parts" o9 f15)
  (p16:vN K cB "let_parts" "BasinLock.let_parts" oK)
  (a17:kT K cN "__init__" (some (.ref f17)))
  (i17:W.isFn K (.ref f17)=true)
  (l17:K.lookup f17=some ⟨oc17,od17,.func (W.fnOf "__init__" "Canal.__init__" (vH bQ) (qT bQ) (j8 bQ) (.ref T17) kV17 dc17 pm17 an17 cd17 ct17),sl17⟩)
  (c17:W.codeIn K cd17 "Canal.__init__"=true)
  (k17:W.keepIn K (.ref f17)=true)
  (lT17:K.lookup T17=some oT17)
  (dT17:oT17.data=.seq ([.none]:List Value).toArray dn0)
  (p18:vN K cN "sea" "Canal.sea" o5)
  (p19:vN K cN "sky" "Canal.sky" o6)
  (p20:vN K cN "many" "Canal.many" o0)
  (p21:vN K cN "chamber" "Canal.chamber" oX)
  (p22:vN K cN "basin" "Canal.basin" oW)
  (p23:vN K cN "weirs" "Canal.weirs" iJ)
  (p24:vN K cN "full" "Canal.full" oY)
  (p25:vN K cN "start" "Canal.start" iI)
  (p26:j6 K "filling" iO)
  (p27:j6 K "letting" iQ)
  (p28:j6 K "given_by" iP)
  (p29:j6 K "basin_after" iM)
  (p30:j6 K "passage" rG)
  (p31:j6 K "step_ends" rV)
  (p32:j6 K "linked" pZ)
  (p33:j6 K "steps_to_do" rW)
  (p34:j6 K "reach_of" rM)
  (p35:j6 K "lying" iR)
  (p36:j6 K "begun" pO)
  (p37:j6 K "night_pours" dC)
  (p38:j6 K "wet_enough" iY)
  (p39:j6 K "has_no_berth" pU)
  (p40:j6 K "next_step" rA)
  (p41:j6 K "one_step_on" iS)
  (p42:j6 K "counted_on" pQ)
  (p43:j6 K "by_number" iN)
  (p44:j6 K "pass_pours" rE)
  (p45:j6 K "let_pours" pY)
  (p46:j6 K "is_below_least" pV)
  (p47:j6 K "falls_short" pT)
  (p48:j6 K "why_no_pass" sB)
  (p49:j6 K "why_not" sC)
  (p50:j6 K "pours" rL)
  (p51:j6 K "place_called" rJ)
  (p52:vN K cN "reach_at" "Canal.reach_at" o4)
  (p53:vN K cN "lock_at" "Canal.lock_at" oZ)
  (p54:j6 K "way_told" iX)
  (p55:vN K cO "canal" "Book.canal" oO)
  (p56:vN K cO "state" "Book.state" oS)
  (p57:vN K cO "names" "Book.names" oR)
  (p58:vN K cO "ways" "Book.ways" oV)
  (p59:vN K cO "__init__" "Book.__init__" oM)
  (p60:j6 K "written_with" iZ)
  (p61:j6 K "is_name" pW)
  (p62:j6 K "boat_called" pP)
  (p63:j6 K "number_named" rC)
  (p64:j6 K "refuse_wrong_come" rO)
  (p65:j6 K "refuse_wrong_night" rP)
  (p66:j6 K "refuse_wrong" rN)
  (p67:j6 K "deed_of" pR)
  (p68:j6 K "takes_too_much" rX)
  (p69:j6 K "why_no_entry" sA)
  (p70:j6 K "single_pour" rR)
  (p71:j6 K "entry_pours" pS)
  (p72:j6 K "passing" rH)
  (p73:j6 K "pass_worked" rF)
  (p74:j6 K "ways_behind" r9)
  (p75:j6 K "state_behind" rT)
  (p76:j6 K "words_worked" sE)
  (p77:vN K cO "fault" "Book.fault" oQ)
  (p78:vN K cO "behind" "Book.behind" oN)
  (p79:vN K cO "do" "Book.do" oP)
  (p80:j6 K "places_last_first" iU)
  (p81:j6 K "next_way" rB)
  (p82:j6 K "thrifty" rY)
  (p83:j6 K "waiting_sides" rZ)
  (p84:j6 K "waiting" iW)
  (p85:j6 K "advice" fG)
  (p86:j6 K "_law_draw" pD)
  (p87:j6 K "_law_unit" pJ)
  (p88:j6 K "_law_names" pG)
  (p89:j6 K "_law_reach" pH)
  (p90:j6 K "_law_lock" pF)
  (p91:j6 K "_law_weather" pM)
  (p92:j6 K "_law_canal" dB)
  (p93:j6 K "_law_turns" pI)
  (p94:j6 K "_law_way" pL)
  (p95:j6 K "_law_come" iL)
  (p96:j6 K "_law_weather_of" pN)
  (p97:j6 K "_law_entry" pE)
  (p98:j6 K "_law_ordered" fF)
  (p99:j6 K "_law_unknown" pK)
  (p100:j6 K "_law_asked" iK)
  (a101:qG K "law" (some (.ref f101)))
  (l101:K.lookup f101=some ⟨oc101,od101,.func (W.fnOf "law" "law" (vH QZ) (qT QZ) (j8 QZ) .none kV101 dc101 pm101 an101 cd101 ct101),sl101⟩)
  (c101:W.codeIn K cd101 "law"=true)
  (k101:W.keepIn K (.ref f101)=true)
  (xy:qG K "list" none)
  (zf:qG K "tuple" none)
  (xaI:qG K "max" none)
  (xn:qG K "range" none)
  (xk:qG K "len" none)
  (jq:qG K "sum" none)
  (uw:qG K "zip" none)
  (xt:qG K "enumerate" none)
  (jr:qG K "min" none)
  (jt:qG K "all" none)
  (ju:qG K "int" none)
  (xo:qG K "isinstance" none)
  (xbV:W.plainGet K cP Str.empty=true)
  (xbw:W.hasDictIn K cP=true)
  (xbW:W.plainOver K cP=true)
  (xbX:kT K cP "__setattr__" (some (.builtin "object.__setattr__")))
  (xbY:W.makesIn K cP=true)
  (xbZ:W.keepIn K (.ref cP)=true)
  (xak:kT K cP "name" none)
  (xal:kT K cP "high" none)
  (xaV:kT K cP "low" none)
  (xam:kT K cP "room" none)
  (xb0:W.plainGet K cB Str.empty=true)
  (xbx:W.hasDictIn K cB=true)
  (xb1:W.plainOver K cB=true)
  (xb2:kT K cB "__setattr__" (some (.builtin "object.__setattr__")))
  (xb3:W.makesIn K cB=true)
  (xb4:W.keepIn K (.ref cB)=true)
  (xan:kT K cB "name" none)
  (xao:kT K cB "high" none)
  (xaW:kT K cB "low" none)
  (xap:kT K cB "room" none)
  (xaq:kT K cB "side" none)
  (xb5:W.plainGet K cU Str.empty=true)
  (xby:W.hasDictIn K cU=true)
  (xb6:W.plainOver K cU=true)
  (xb7:kT K cU "__setattr__" (some (.builtin "object.__setattr__")))
  (xb8:W.makesIn K cU=true)
  (xb9:W.keepIn K (.ref cU)=true)
  (xar:kT K cU "name" none)
  (xas:kT K cU "high" none)
  (xaX:kT K cU "low" none)
  (xat:kT K cU "room" none)
  (xau:kT K cU "lift" none)
  (g1:W.specialIn K (.ref cP) "__getattribute__"=some (some (.builtin "type.__getattribute__")))
  (g2:W.readsIn K cP (.type "type")=true)
  (xca:W.plainGet K cR Str.empty=true)
  (xbz:W.hasDictIn K cR=true)
  (xcb:W.plainOver K cR=true)
  (xcc:kT K cR "__setattr__" (some (.builtin "object.__setattr__")))
  (xcd:W.makesIn K cR=true)
  (xce:W.keepIn K (.ref cR)=true)
  (zp:kT K cR "name" none)
  (zk:kT K cR "least" none)
  (zq:kT K cR "crest" none)
  (zg:kT K cR "berths" none)
  (zr:kT K cR "water" none)
  (ze:kT K cR "target" none)
  (xcf:W.plainGet K cN Str.empty=true)
  (xbA:W.hasDictIn K cN=true)
  (xcg:W.plainOver K cN=true)
  (xch:kT K cN "__setattr__" (some (.builtin "object.__setattr__")))
  (xci:W.makesIn K cN=true)
  (xcj:W.keepIn K (.ref cN)=true)
  (xf:kT K cN "reaches" none)
  (xg:kT K cN "locks" none)
  (xq:kT K cN "nights" none)
  (gSEA:qG K "SEA" (some (.int (-1) tkS)))
  (ut:W.excIn K eB [.type "ValueError",.type "Exception",.type "BaseException",.type "object"] "ValueError.__new__"=true)
  (xav:W.excIn K eT [.type "ValueError",.type "Exception",.type "BaseException",.type "object"] "ValueError.__new__"=true)
  (wu:W.excIn K eM [.type "ValueError",.type "Exception",.type "BaseException",.type "object"] "ValueError.__new__"=true)
  (wx:W.excIn K eU [.type "ValueError",.type "Exception",.type "BaseException",.type "object"] "ValueError.__new__"=true)
  (vk:W.excIn K eL [.type "ValueError",.type "Exception",.type "BaseException",.type "object"] "ValueError.__new__"=true)
  (uu:W.excIn K eW [.type "ValueError",.type "Exception",.type "BaseException",.type "object"] "ValueError.__new__"=true)
  (vm:W.excIn K eN [.type "ValueError",.type "Exception",.type "BaseException",.type "object"] "ValueError.__new__"=true)
  (uv:W.excIn K eD [.type "ValueError",.type "Exception",.type "BaseException",.type "object"] "ValueError.__new__"=true)
  (eg_eU:kT K eU "__getattribute__" (some (.builtin "BaseException.__getattribute__")))
  (en_eU:kT K eU "__getattr__" none)
  (ec_eU:kT K eU "__class__" (some (.builtin "object.__class__")))
  (eo_eU:W.mroIn K eU (.type "object")=some true)
  (eb_eU:W.subIn K (.ref eU) (.type "BaseException")=some true)
  (cX_eU:W.clsIn K eU=some cd_eU)
  (exmX_eU:W.exmOne K (.ref eU) (.ref eC)=some true)
  (kX_eU_0:W.kitOne K (.ref eU) (.ref eU)=some true)
  (kX_eU_1:W.kitOne K (.ref eU) (.ref eW)=some false)
  (gHOME:qG K "HOME" (some (.int (-1) tkH)))
  (xck:W.plainGet K cO Str.empty=true)
  (xbB:W.hasDictIn K cO=true)
  (xcl:W.plainOver K cO=true)
  (xcm:kT K cO "__setattr__" (some (.builtin "object.__setattr__")))
  (xcn:W.makesIn K cO=true)
  (xco:W.keepIn K (.ref cO)=true)
  (nO_kept_canal:kT K cO "kept_canal" none)
  (nO_kept_names:kT K cO "kept_names" none)
  (nO_kept_ways:kT K cO "kept_ways" none)
  (nO_kept_state:kT K cO "kept_state" none)
  (nO_kept_pours:kT K cO "kept_pours" none)
  (nO_kept_words:kT K cO "kept_words" none)
  (nO_kept_entries:kT K cO "kept_entries" none)
  (gLETTERS:qG K "LETTERS" (some (.str lettersS dF)))
  (gMOST_SIGNS:qG K "MOST_SIGNS" (some (.int 12 dH)))
  (gMOST_BOATS:qG K "MOST_BOATS" (some (.int 9 dG)))
  (agU:qG K "UP" (some (.ref aU)))
  (agD:qG K "DOWN" (some (.ref aD)))
  (lU:K.lookup aU=some oU)
  (lD:K.lookup aD=some oD)
  (cU_:oU.cls=.type "tuple")
  (cD_:oD.cls=.type "tuple")
  (dU:oU.data=.seq ([.str "open low" tu0,.str "in low" tu1,.str "shut low" tu2,.str "fill" tu3,.str "open high" tu4,.str "out high" tu5,.str "shut high" tu6]:List Value).toArray nU)
  (dD:oD.data=.seq ([.str "open high" td0,.str "in high" td1,.str "shut high" td2,.str "let" td3,.str "open low" td4,.str "out low" td5,.str "shut low" td6]:List Value).toArray nD) :
  ∃fd:FuncData,(∀(s:Shared) (v:Value),BindsTo s fd ⟨[v],[]⟩ [("script",v)])/\∀base:Heap,K.In base->base.Ns mainGlobals mg->FnOk l.prog w K mg base jX 14 fa fd ["script"] (cA K):=by
 have e:=hfa.symm.trans (aN X G a101);cases e;obtain ⟨_,_,a0,F0⟩:=p0;obtain ⟨_,_,a1,F1⟩:=p1;obtain ⟨_,_,a2,F2⟩:=p2;obtain ⟨_,_,a3,F3⟩:=p3;obtain ⟨_,_,a4,F4⟩:=p4;obtain ⟨_,_,a5,F5⟩:=p5;obtain ⟨_,_,a6,F6⟩:=p6;obtain ⟨_,_,a7,F7⟩:=p7;obtain ⟨_,F8⟩:=p8;have k8:=F8.kp;have b8:=F8.binds (ps:=["self","name","high","low","room"]) fun _ _ _ _ _ _=>xM fun _ _ _ _ _=>rfl
 obtain ⟨_,F9⟩:=p9;have k9:=F9.kp;have b9:=F9.binds (ps:=["self","name","high","low","room","side"]) fun _ _ _ _ _ _=>xK fun _ _ _ _ _ _=>rfl
 obtain ⟨_,F10⟩:=p10;have k10:=F10.kp;have b10:=F10.binds (ps:=["self","name","high","low","room","lift"]) fun _ _ _ _ _ _=>xK fun _ _ _ _ _ _=>rfl
 obtain ⟨_,F11⟩:=p11;have k11:=F11.kp;have b11:=F11.binds (ps:=["self","name","least","crest","berths","water","target"]) fun _ _ _ _ _ _=>YK fun _ _ _ _ _ _ _=>rfl
 obtain ⟨_,_,a12,i12,F12⟩:=p12;obtain ⟨_,_,a13,i13,F13⟩:=p13;obtain ⟨_,_,a14,i14,F14⟩:=p14;obtain ⟨_,F15⟩:=p15;have k15:=F15.kp;have b15:=F15.binds (ps:=["self","basin"]) fun _ _ _ _ _ _=>J9 fun _ _=>rfl
 obtain ⟨_,_,a16,i16,F16⟩:=p16;have F17:=U4 (st:=bQ) (ds:=[.none]) (n:=dn0) l17 c17 k17 lT17 (by first|exact dT17|rfl);have b17:Binds K _ ["self","reaches","locks","nights"] []:=F17.binds [] 4 rfl fun _ _ _ _ _ _ _=>nV fun _ _ _ _=>⟨_,rfl,rfl⟩
 have b17_1:Binds K _ ["self","reaches","locks","nights"] [.none]:=F17.binds [.none] 3 rfl fun _ _ _ _ _ _ _=>gX fun _ _ _=>⟨_,rfl,rfl⟩
 obtain ⟨_,_,a18,i18,F18⟩:=p18;obtain ⟨_,_,a19,i19,F19⟩:=p19;obtain ⟨_,_,a20,i20,F20⟩:=p20;obtain ⟨_,_,a21,i21,F21⟩:=p21;obtain ⟨_,_,a22,i22,F22⟩:=p22;obtain ⟨_,_,a23,i23,F23⟩:=p23;obtain ⟨_,_,a24,i24,F24⟩:=p24;obtain ⟨_,_,a25,i25,F25⟩:=p25;obtain ⟨_,_,a26,F26⟩:=p26;obtain ⟨_,_,a27,F27⟩:=p27;obtain ⟨_,_,a28,F28⟩:=p28;obtain ⟨_,_,a29,F29⟩:=p29;obtain ⟨_,_,a30,F30⟩:=p30;obtain ⟨_,_,a31,F31⟩:=p31;obtain ⟨_,_,a32,F32⟩:=p32;obtain ⟨_,_,a33,F33⟩:=p33;obtain ⟨_,_,a34,F34⟩:=p34;obtain ⟨_,_,a35,F35⟩:=p35;obtain ⟨_,_,a36,F36⟩:=p36;obtain ⟨_,_,a37,F37⟩:=p37;obtain ⟨_,_,a38,F38⟩:=p38;obtain ⟨_,_,a39,F39⟩:=p39;obtain ⟨_,_,a40,F40⟩:=p40;obtain ⟨_,_,a41,F41⟩:=p41;obtain ⟨_,_,a42,F42⟩:=p42;obtain ⟨_,_,a43,F43⟩:=p43;obtain ⟨_,_,a44,F44⟩:=p44;obtain ⟨_,_,a45,F45⟩:=p45;obtain ⟨_,_,a46,F46⟩:=p46;obtain ⟨_,_,a47,F47⟩:=p47;obtain ⟨_,_,a48,F48⟩:=p48;obtain ⟨_,_,a49,F49⟩:=p49;obtain ⟨_,_,a50,F50⟩:=p50;obtain ⟨_,_,a51,F51⟩:=p51;obtain ⟨_,_,a52,i52,F52⟩:=p52;have k52:=F52.kp;have b52:=F52.binds (ps:=["self","name"]) fun _ _ _ _ _ _=>J9 fun _ _=>rfl
 obtain ⟨_,_,a53,i53,F53⟩:=p53;have k53:=F53.kp;have b53:=F53.binds (ps:=["self","name"]) fun _ _ _ _ _ _=>J9 fun _ _=>rfl
 obtain ⟨_,_,a54,F54⟩:=p54;obtain ⟨_,_,a55,i55,F55⟩:=p55;obtain ⟨_,_,a56,i56,F56⟩:=p56;obtain ⟨_,_,a57,i57,F57⟩:=p57;obtain ⟨_,_,a58,i58,F58⟩:=p58;obtain ⟨_,_,a59,i59,F59⟩:=p59;have b59:=F59.binds (ps:=["self","canal"]) fun _ _ _ _ _ _=>J9 fun _ _=>rfl
 obtain ⟨_,_,a60,F60⟩:=p60;obtain ⟨_,_,a61,F61⟩:=p61;obtain ⟨_,_,a62,F62⟩:=p62;obtain ⟨_,_,a63,F63⟩:=p63;obtain ⟨_,_,a64,F64⟩:=p64;obtain ⟨_,_,a65,F65⟩:=p65;obtain ⟨_,_,a66,F66⟩:=p66;obtain ⟨_,_,a67,F67⟩:=p67;obtain ⟨_,_,a68,F68⟩:=p68;obtain ⟨_,_,a69,F69⟩:=p69;obtain ⟨_,_,a70,F70⟩:=p70;obtain ⟨_,_,a71,F71⟩:=p71;obtain ⟨_,_,a72,F72⟩:=p72;obtain ⟨_,_,a73,F73⟩:=p73;obtain ⟨_,_,a74,F74⟩:=p74;obtain ⟨_,_,a75,F75⟩:=p75;obtain ⟨_,_,a76,F76⟩:=p76;obtain ⟨_,_,a77,i77,F77⟩:=p77;have k77:=F77.kp;have b77:=F77.binds (ps:=["self","entry"]) fun _ _ _ _ _ _=>J9 fun _ _=>rfl
 obtain ⟨_,_,a78,i78,F78⟩:=p78;have k78:=F78.kp;have b78:=F78.binds (ps:=["self","entry"]) fun _ _ _ _ _ _=>J9 fun _ _=>rfl
 obtain ⟨_,_,a79,i79,F79⟩:=p79;have k79:=F79.kp;have b79:=F79.binds (ps:=["self","entry"]) fun _ _ _ _ _ _=>J9 fun _ _=>rfl
 obtain ⟨_,_,a80,F80⟩:=p80;obtain ⟨_,_,a81,F81⟩:=p81;obtain ⟨_,_,a82,F82⟩:=p82;obtain ⟨_,_,a83,F83⟩:=p83;obtain ⟨_,_,a84,F84⟩:=p84;obtain ⟨_,_,a85,F85⟩:=p85;obtain ⟨_,_,a86,F86⟩:=p86;obtain ⟨_,_,a87,F87⟩:=p87;obtain ⟨_,_,a88,F88⟩:=p88;obtain ⟨_,_,a89,F89⟩:=p89;obtain ⟨_,_,a90,F90⟩:=p90;obtain ⟨_,_,a91,F91⟩:=p91;obtain ⟨_,_,a92,F92⟩:=p92;obtain ⟨_,_,a93,F93⟩:=p93;obtain ⟨_,_,a94,F94⟩:=p94;obtain ⟨_,_,a95,F95⟩:=p95;obtain ⟨_,_,a96,F96⟩:=p96;obtain ⟨_,_,a97,F97⟩:=p97;obtain ⟨_,_,a98,F98⟩:=p98;obtain ⟨_,_,a99,F99⟩:=p99;obtain ⟨_,_,a100,F100⟩:=p100;have F101:=iH (st:=QZ) l101 c101 k101;have b101:=F101.binds (ps:=["script"]) fun _ _ _ _ _ _=>nW fun _=>rfl
 refine ⟨W.fnOf "law" "law" (vH QZ) (qT QZ) (j8 QZ) .none kV101 dc101 pm101 an101 cd101 ct101,fun s v=>.of_eq rfl,fun base _ _=>?_⟩;have T:Txt l.prog w base K mg cP cB cU cR cN tkS eC eB eT eM eU eL eW eN eD tkH cO dF dH dG aU aD:={xy:=bj X G xy,zf:=bj X G zf,xaI:=bj X G xaI,xn:=bj X G xn,xk:=bj X G xk,jq:=bj X G jq,uw:=bj X G uw,xt:=bj X G xt,jr:=bj X G jr,jt:=bj X G jt,ju:=bj X G ju,xo:=bj X G xo,cl:=fun kd=>match kd with|.plain=>⟨xbV,xbw,xbW,xbX⟩|.basin=>⟨xb0,xbx,xb1,xb2⟩|.pump=>⟨xb5,xby,xb6,xb7⟩,vo:=fun kd=>match kd with|.plain=>xak|.basin=>xan|.pump=>xar,vq:=fun kd=>match kd with|.plain=>xal|.basin=>xao|.pump=>xas,ux:=fun kd=>match kd with|.plain=>xaV|.basin=>xaW|.pump=>xaX,wg:=fun kd=>match kd with|.plain=>xam|.basin=>xap|.pump=>xat,xbb:=xaq,xaN:=xau,vt:=aN X G xbP,uy:=aN X G xbQ,jv:=aN X G xbR,clR:=⟨xca,xbz,xcb,xcc⟩,zp:=zp,zk:=zk,zq:=zq,zg:=zg,zr:=zr,ze:=ze,xbh:=aN X G xbS,clN:=⟨xcf,xbA,xcg,xch⟩,xf:=xf,xg:=xg,xq:=xq,xbi:=aN X G xbT,xbM:=aN X G gSEA,wz:=aN X G va,xa0:=aN X G uo,xbj:=aN X G xaj,xaJ:=aN X G wp,vc:=aN X G wr,uz:=aN X G vi,ua:=aN X G uq,ja:=aN X G vj,xa1:=aN X G ur,xa2:=ut,xbk:=xav,xaK:=wu,wb:=wx,jc:=vk,jz:=uu,je:=vm,xa3:=uv,at_Unknown:=⟨eg_eU,en_eU,ec_eU,eo_eU,eb_eU⟩,wj:=by rw [cX_eU];rfl,exm_Unknown:=exmX_eU,k_Unknown_Unknown:=kX_eU_0,k_Unknown_NotNow:=kX_eU_1,xaO:=aN X G gHOME,clO:=⟨xck,xbB,xcl,xcm⟩,nO_kept_canal:=nO_kept_canal,nO_kept_names:=nO_kept_names,nO_kept_ways:=nO_kept_ways,nO_kept_state:=nO_kept_state,nO_kept_pours:=nO_kept_pours,nO_kept_words:=nO_kept_words,nO_kept_entries:=nO_kept_entries,xbr:=aN X G xbU,xaL:=aN X G gLETTERS,ud:=aN X G gMOST_SIGNS,uf:=aN X G gMOST_BOATS,xcp:=aN X G agU,xbs:=aN X G agD,up:=fun H=>DX (its:=[.str "open low" tu0,.str "in low" tu1,.str "shut low" tu2,.str "fill" tu3,.str "open high" tu4,.str "out high" tu5,.str "shut high" tu6]) lU cU_ dU zz7 (.cons ⟨_,rfl⟩ (.cons ⟨_,rfl⟩ (.cons ⟨_,rfl⟩ (.cons ⟨_,rfl⟩ (.cons ⟨_,rfl⟩ (.cons ⟨_,rfl⟩ (.cons ⟨_,rfl⟩ .nil))))))),down:=fun H=>DX (its:=[.str "open high" td0,.str "in high" td1,.str "shut high" td2,.str "let" td3,.str "open low" td4,.str "out low" td5,.str "shut low" td6]) lD cD_ dD zz7 (.cons ⟨_,rfl⟩ (.cons ⟨_,rfl⟩ (.cons ⟨_,rfl⟩ (.cons ⟨_,rfl⟩ (.cons ⟨_,rfl⟩ (.cons ⟨_,rfl⟩ (.cons ⟨_,rfl⟩ .nil)))))))};have D0:=vP X G a0 F0 (LD T F0);have D1:=zM X G a1 F1 (K4 T F1);have D2:=gZ X G a2 F2 (KQ T F2);have D3:=vP X G a3 F3 (LM T F3 D2 D1);have D4:=vP X G a4 F4 (LL T F4 D3 D2);have D5:=vP X G a5 F5 (LJ T F5 D0 D4);have D6:=zM X G a6 F6 (L4 T F6 D4 D0);have D7:=gZ X G a7 F7 (K5 T F7);have G8:=IE T F8;have xaY:MkD l.prog w K mg base 1 "PlainLock" cP ["self","name","high","low","room"] (dY (jE cP cB cU)):=⟨T.vt,_,_,⟨xbY,a8,i8,xbZ⟩,G8,b8⟩;have CM8:CmD l.prog w K mg base 1 "PlainLock" cP "__init__" ["self","name","high","low","room"] (dY (jE cP cB cU)):=⟨T.vt,_,_,⟨g1,g2,ac8,k8⟩,G8,b8⟩;have G9:=HG T F9 CM8;have xaZ:MkD l.prog w K mg base 2 "BasinLock" cB ["self","name","high","low","room","side"] (dX (jE cP cB cU) .basin):=⟨T.uy,_,_,⟨xb3,a9,i9,xb4⟩,G9,b9⟩
 have G10:=IH T F10 CM8;have xba:MkD l.prog w K mg base 2 "PumpLock" cU ["self","name","high","low","room","lift"] (dX (jE cP cB cU) .pump):=⟨T.jv,_,_,⟨xb8,a10,i10,xb9⟩,G10,b10⟩;have G11:=IJ T F11;have xbC:MkD l.prog w K mg base 1 "Reach" cR ["self","name","least","crest","berths","water","target"] (tE cR):=⟨T.xbh,_,_,⟨xcd,a11,i11,xce⟩,G11,b11⟩;have G12:=IF T F12 D7;have jj:=fD (T.cl .plain) a12 i12 F12 G12;have G13:=HH T F13 D7;have jk:=fD (T.cl .basin) a13 i13 F13 G13;have G14:=II T F14 D7;have jm:=fD (T.cl .pump) a14 i14 F14 G14;have zy:MeK l.prog w K mg base 2 (jE cP cB cU) "fill_parts" ["self","basin"] (JL (jE cP cB cU) bH):=⟨fun kd=>by cases kd;exact jj;exact jk;exact jm⟩;have G15:=IG T F15 D7;have xaw:MeD l.prog w K mg base 2 cP "let_parts" ["self","basin"] (JL (jE cP cB cU) QU .plain):=⟨T.cl .plain,_,_,⟨a15,i15,k15⟩,(G15.imp (sp':=JL (jE cP cB cU) QU .plain) (fun vs H Q E ⟨x,n,h,l,room,v,b,e,a,q⟩=>⟨.plain,x,n,h,l,room,v,b,e,a,q⟩)),b15⟩;have xax:MeD l.prog w K mg base 2 cU "let_parts" ["self","basin"] (JL (jE cP cB cU) QU .pump):=⟨T.cl .pump,_,_,⟨a15_U,i15,k15⟩,(G15.imp (sp':=JL (jE cP cB cU) QU .pump) (fun vs H Q E ⟨x,n,h,l,room,v,b,e,a,q⟩=>⟨.pump,x,n,h,l,room,v,b,e,a,q⟩)),b15⟩;have G16:=HI T F16 D7;have xay:=fD (T.cl .basin) a16 i16 F16 G16;have vf:MeK l.prog w K mg base 2 (jE cP cB cU) "let_parts" ["self","basin"] (JL (jE cP cB cU) QU):=⟨fun kd=>by cases kd;exact xaw;exact xay;exact xax⟩;have G17:=HS T F17;have xbD:MkD l.prog w K mg base 1 "Canal" cN ["self","reaches","locks","nights"] (tF (jE cP cB cU) cR cN):=⟨T.xbi,_,_,⟨xci,a17,i17,xcj⟩,G17,b17⟩;have G18:=IA T F18;have xbE:=ZU T.clN a18 i18 F18 G18;have G19:=IB T F19 xbE;have xbg:=ZU T.clN a19 i19 F19 G19;have G20:=HY T F20 xbg;have xbK:=ZU T.clN a20 i20 F20 G20;have G21:=HV T F21;have xaz:=fD T.clN a21 i21 F21 G21;have G22:=HU T F22;have xaA:=fD T.clN a22 i22 F22 G22;have G23:=ID T F23 xbE;have uj:=ZU T.clN a23 i23 F23 G23;have G24:=HW T F24 xaz;have jp:=YV T.clN a24 i24 F24 G24;have G25:=IC T F25 xbK D5 uj;have xbF:=ZU T.clN a25 i25 F25 G25;have D26:=vP X G a26 F26 (KL T F26 zy);have D27:=vP X G a27 F27 (KU T F27 vf);have D28:=vP X G a28 F28 (KM T F28);have D29:=vP X G a29 F29 (KA T F29 D28);have D30:=QD X G a30 F30 (K8 T F30 D27 D26 D29);have D31:=vP X G a31 F31 (LO T F31);have GX32:=(KW T F32 D31);have DX32:=xR X G a32 F32 GX32;have D32:=zM X G a32 F32 (GX32.noX (sp':=tX K (jE cP cB cU) cR cN) O9);have D33:=vP X G a33 F33 (LP T F33);have D34:=zM X G a34 F34 (LF T F34 D33 D32);have D35:=QD X G a35 F35 (KY T F35 D34);have D36:=vP X G a36 F36 (KB T F36 xbF);have D37:=zM X G a37 F37 (K1 T F37 xbg D6 uj);have D38:=vP X G a38 F38 (LX T F38);have D39:=QD X G a39 F39 (KN T F39 D35);have D40:=vP X G a40 F40 (KZ T F40);have D41:=vP X G a41 F41 (K3 T F41);have D42:=zM X G a42 F42 (KG T F42 D41);have D43:=zM X G a43 F43 (KD T F43 xaA xaz);have D44:=QD X G a44 F44 (K6 T F44 D40 xaA D43 D30 jp);have D45:=zM X G a45 F45 (KS T F45 D43 D27 xaA);have D46:=zM X G a46 F46 (KO T F46);have D47:=zM X G a47 F47 (KK T F47 D0 D46)
 have D48:=QD X G a48 F48 (LZ T F48 D34 D39 D47 D44);have D49:=QD X G a49 F49 (L3 T F49 D48 jp);have GX50:=(LE T F50 D49 D44 D45 D6 uj);have DX50:=YX X G a50 F50 GX50;have GX51:=(LA T F51);have DX51:=yK X G a51 F51 GX51;have G52:=HZ T F52 DX51;have GX52:=G52;have MXN_reach_at:MeX l.prog w K mg base 2 cN "reach_at" ["self","name"] (JZ (jE cP cB cU) cR cN eU 0):=⟨T.clN,_,_,⟨a52,i52,k52⟩,GX52,b52⟩;have G53:=HX T F53 DX51;have GX53:=G53;have MXN_lock_at:MeX l.prog w K mg base 2 cN "lock_at" ["self","name"] (JZ (jE cP cB cU) cR cN eU 1):=⟨T.clN,_,_,⟨a53,i53,k53⟩,GX53,b53⟩;have GX54:=(LV T F54 MXN_reach_at MXN_lock_at);have DX54:=yK X G a54 F54 GX54;have G55:=HL T F55;have MB_canal:=ZU T.clO a55 i55 F55 G55;have G56:=HQ T F56;have MB_state:=ZU T.clO a56 i56 F56 G56;have G57:=HP T F57;have MB_names:=ZU T.clO a57 i57 F57 G57;have G58:=HR T F58;have MB_ways:=ZU T.clO a58 i58 F58 G58;have G59:=HJ T F59 D36;have xbL:MkD l.prog w K mg base 7 "Book" cO ["self","canal"] (tL (jE cP cB cU) cR cN cO):=⟨T.xbr,_,_,⟨xcn,a59,i59,xco⟩,G59,b59⟩;have D60:=vP X G a60 F60 (L6 T F60);have D61:=gZ X G a61 F61 (KP T F61 D60);have GX62:=(KC T F62);have DX62:=yK X G a62 F62 GX62;have GX63:=(K2 T F63 DX62 MB_names MXN_lock_at MB_canal MXN_reach_at);have DX63:=yK X G a63 F63 GX63;have GX64:=(LH T F64 D61 MB_names DX54 MB_canal DX32);have DX64:=yK X G a64 F64 GX64;have GX65:=(LI T F65 MB_canal MB_state D38);have DX65:=yK X G a65 F65 GX65;have GX66:=(LG T F66 DX64 DX65 DX63);have DX66:=yK X G a66 F66 GX66;have GX67:=(KH T F67 DX63);have DX67:=yK X G a67 F67 GX67;have GX68:=(LQ T F68 DX63 MB_state MB_canal);have DX68:=yK X G a68 F68 GX68;have GX69:=(LY T F69 MXN_reach_at MB_canal D39 MB_ways MB_state DX68 D49 DX67);have DX69:=yK X G a69 F69 GX69;have D70:=zM X G a70 F70 (LK T F70);have GX71:=(KJ T F71 MB_canal D70 DX63 xbg D6 uj MB_state D37 DX50 MB_ways DX67);have DX71:=yK X G a71 F71 GX71;have D72:=vP X G a72 F72 (K9 T F72);have D73:=QD X G a73 F73 (K7 T F73 D40 D72 jp);have GX74:=(LW T F74 MB_ways DX54 MB_canal);have DX74:=yK X G a74 F74 GX74;have GX75:=(LN T F75 MB_state D0 DX71 D42 DX67);have DX75:=yK X G a75 F75 GX75;have GX76:=(L5 T F76 D73 MB_canal MB_ways MB_state DX63);have DX76:=yK X G a76 F76 GX76;have G77:=HN T F77 DX66 DX69;have GX77:=G77;have MXB_fault:MeX l.prog w K mg base 10 cO "fault" ["self","entry"] (qQ (jE cP cB cU) cR cN cO (mM eB eT eM eU eL eN eD)):=⟨T.clO,_,_,⟨a77,i77,k77⟩,GX77,b77⟩;have G78:=HK T F78 MXB_fault DX75 DX74;have GX78:=G78;have MXB_behind:MeX l.prog w K mg base 12 cO "behind" ["self","entry"] (qQ (jE cP cB cU) cR cN cO (uU eB eT eM eU eL eN eD eW)):=⟨T.clO,_,_,⟨a78,i78,k78⟩,GX78,b78⟩;have G79:=HM T F79 MXB_behind DX71 DX76;have GX79:=G79;have MXB_do:MeX l.prog w K mg base 13 cO "do" ["self","entry"] (w5 (jE cP cB cU) cR cN cO eB eT eM eU eL eN eD eW):=⟨T.clO,_,_,⟨a79,i79,k79⟩,GX79,b79⟩;have D80:=vP X G a80 F80 (LB T F80);have D81:=vP X G a81 F81 (K0 T F81);have D82:=vP X G a82 F82 (LR T F82 D80 D81);have GX83:=(LU T F83 MXN_lock_at MB_canal MB_names MB_ways MB_state D33 D40)
 have DX83:=yK X G a83 F83 GX83;have GX84:=(LS T F84 DX83);have DX84:=yK X G a84 F84 GX84;have GX85:=(IZ T F85 DX83 MB_canal jp MXN_lock_at MB_state D82);have DX85:=yK X G a85 F85 GX85;have GX86:=(IN T F86);have DX86:=xR X G a86 F86 GX86;have D86:=zM X G a86 F86 (GX86.noX (sp':=bZ K) TM);have D87:=gZ X G a87 F87 (IU T F87);have GX88:=(IQ T F88 DX86);have DX88:=xR X G a88 F88 GX88;have D88:=zM X G a88 F88 (GX88.noX (sp':=dN K) RI);have D89:=QD X G a89 F89 (IS T F89 D86 xbC);have D90:=GU X G a90 F90 (IP T F90 D86 xaZ xba xaY);have D91:=QD X G a91 F91 (IX T F91 D86);have D92:=QD X G a92 F92 (IL T F92 D87 D86 D88 D91 D89 xbD D90);have D93:=vP X G a93 F93 (IT T F93);have D94:=QD X G a94 F94 (IW T F94 D86 D93);have D95:=zM X G a95 F95 (IM T F95);have D96:=zM X G a96 F96 (IY T F96);have D97:=GU X G a97 F97 (IO T F97 D96);have D98:=vP X G a98 F98 (IR T F98);have D99:=gZ X G a99 F99 (IV T F99 DX84 DX85);have GX100:=(IK T F100 MB_names MB_ways MB_state DX84 DX85 D98 D99);have DX100:=yK X G a100 F100 GX100;have D100:=vP X G a100 F100 (GX100.noX (sp':=gA (jE cP cB cU) cR cN cO) VF);have G101:=KR T F101 D92 xbL DX88 DX86 D95 D94 MXB_fault MXB_do DX100 D97 MB_names MB_state D87;have GX101:=G101;have DX101:=mL GX101 (aN X G a101) k101 b101;have G101:=GX101.noX (sp':=cA K) U1;exact G101
theorem walk {l:W.OpenLaw} {q:Program} {loose:List Str} {XP:(Str->Option Value)->Heap->Prop} {YP:World->Heap->Prop} {d:DefRec} {K:Params->W.Frag} (hn:l.most=some 63) (hdf:d.params.defaults=[])
  (hY:∀(w:World) (h:Heap),YP w h->(K w.params).In h)
  (F:∀(w:World) (mg:Str->Option Value) (fa:Addr) (h:Heap),(K w.params).In h->h.Ns mainGlobals mg->mg d.name=some (.ref fa)->
   ∃fd:FuncData,(∀(s:Shared) (u:Value),BindsTo s fd ⟨[u],[]⟩ [("script",u)])/\∀base:Heap,(K w.params).In base->base.Ns mainGlobals mg->FnOk l.prog w (K w.params) mg base jX 14 fa fd ["script"] (cA (K w.params))) :
  W.WalkO q loose XP YP l.row.toRowW d [] (fun f vs=>PySem.call f vs) :=
 L2.walk_of (n:=63) (k:=14) (x:="script") (CX:=fun _=>jX) (sp:=fun w=>cA (K w.params)) hn (by decide) hdf ⟨rfl,by decide,by decide⟩ hY F (fun _ _ a ns hl _ hS=>⟨a,ns,rfl,hS,hl,fun _=>rfl⟩) fun _ _ _ _ _ z=>z
end My
/- These names are taken here so that the head below leaves out its twins of whole states (they are not needed,and make the compiled file larger than a hand-in may be). -/
namespace PySem.W.Fast
def tw2493674042200211686:=0
def tw18443774872467199412:=0
def tw6639720170110876679:=0
def tw1453948340511771889:=0
def tw9962046584463262046:=0
def tw8734139651507676085:=0
def tw2802817502471555581:=0
def tw16588163663281700520:=0
def tw2344641669327621262:=0
def tw17702544865977535738:=0
def tw18366113182538163917:=0
def tw9536652313187267994:=0
def tw5676618564995259979:=0
def tw8140507342827835488:=0
def tw15023134248185532426:=0
def tw14799300228256522107:=0
def tw6000142530772854913:=0
def tw4746034404267359816:=0
def tw1831590385296023363:=0
def tw3772723633288354931:=0
def tw3524467140668154625:=0
def tw1985402728741349751:=0
def tw1922751159364029760:=0
def tw14428146054720732905:=0
def tw16204932787357326849:=0
def tw15552399364575530792:=0
def tw8857834781321394586:=0
def tw5255718030087156599:=0
def tw2866927760879023397:=0
def tw1283601310674836751:=0
def tw14393026599394953791:=0
def tw14771720949314565935:=0
def tw420743200191920318:=0
def tw9060643323105139868:=0
def tw5076605741795224496:=0
def tw15063134012579057832:=0
def tw14133460452385573996:=0
def tw9350567800763403849:=0
def tw66215206681172762:=0
def tw14698694800841075524:=0
def tw9706397908574362625:=0
def tw11883779899340184498:=0
def tw15897255223833780420:=0
def tw16072201127795100417:=0
def tw9837769914764194792:=0
def tw12008561591943913079:=0
def tw14928377612151732275:=0
def tw7728116297363108142:=0
def tw16199612775449200293:=0
def tw17451201621299753371:=0
def tw12363157061725781521:=0
def tw2589795486654493144:=0
def tw3070950970859979919:=0
def tw3743668722343533259:=0
def tw12267522045849667519:=0
def tw7575974718448554199:=0
def tw1048113099731142182:=0
def tw3721542269723668442:=0
def tw8861033926817000055:=0
def tw9414589640678846808:=0
def tw2591801386157506012:=0
def tw10763241313562097689:=0
def tw9466024886783616138:=0
def tw9874452528191097130:=0
def tw3586986859706309593:=0
def tw2158688005344375386:=0
def tw7236043128396772935:=0
def tw9646557112599786286:=0
def tw15098573018782655257:=0
def tw15171957064072793144:=0
def tw12248844613623763562:=0
def tw16239314391000139394:=0
def tw281616164544227951:=0
def tw1872129605801871130:=0
def tw13940855930293957910:=0
def tw4555456677000648415:=0
def tw10813992503927589390:=0
def tw15625749467018504076:=0
def tw10158653439122247401:=0
def tw14494102484334096215:=0
def tw524218201660711687:=0
def tw115514726810024792:=0
def tw1564196014247705324:=0
def tw7005176931891080391:=0
def tw11586542672464199897:=0
def tw3115552971615456052:=0
def tw17916622244491884055:=0
def tw12703392969228975779:=0
def tw17908771286198640537:=0
def tw15462235288268886871:=0
def tw9487941200471502489:=0
def tw8019898426185512815:=0
def tw9079235014525619429:=0
def tw952047539880080839:=0
def tw6666029443177121416:=0
def tw11376327615441431499:=0
def tw8545261950152179568:=0
def tw6638096914138761098:=0
def tw9521570607669414018:=0
def tw12909286387425137757:=0
def tw2928379856336893374:=0
def tw217412319028299742:=0
def tw3666439106677985508:=0
def tw5024597174659634638:=0
def tw7872645193311994882:=0
def tw10751581779664044806:=0
def tw17372538879288804859:=0
def tw8368270826978577455:=0
def tw5417407414098421409:=0
def tw7269754300832171116:=0
def tw2844432007773815342:=0
def tw11316642968323307345:=0
def tw13684999507599768202:=0
def tw3178427077854289280:=0
def tw13934986205389999220:=0
def tw13831319741804011678:=0
def tw3551878153201734359:=0
def tw1494552245191488694:=0
def tw13968594529145571186:=0
def tw9283572875332526383:=0
def tw4783126686187062594:=0
def tw4207669813244718897:=0
def tw6657729945009890557:=0
def tw5805492421928088833:=0
def tw7644522134674827950:=0
def tw8993381370430383424:=0
def tw6383158925705199806:=0
def tw2330325581946119759:=0
def tw17659296492797119659:=0
def tw14852877169972733280:=0
def tw3036400436063208878:=0
def tw2214065909910108779:=0
def tw9587298626440141455:=0
def tw5459358076919446373:=0
def tw16083043726079647718:=0
def tw16295094215333334856:=0
def tw4488672403375826177:=0
def tw5509816556715221166:=0
def tw14420322714333024414:=0
def tw15402894233217167983:=0
def tw10554832323973281801:=0
def tw6829661683856638357:=0
def tw10951148399825684950:=0
def tw9480208049705617179:=0
def tw10076019686171617978:=0
def tw17351540758826952255:=0
def tw4083235702702648981:=0
def tw13439932254825399902:=0
def tw9305391533535778551:=0
def tw3157936025792190898:=0
def tw15730062311944340974:=0
def tw1748081998714771675:=0
def tw8600746548767429838:=0
def tw13515471815003579723:=0
def tw14714138902933260615:=0
def tw17751812081764963876:=0
def tw8686194221804792722:=0
def tw14219604292671855129:=0
def tw17734937892177900356:=0
def tw1562083294999109445:=0
def tw9176427388793256911:=0
def tw13108243514197637511:=0
def tw12792852611918025617:=0
def tw3386310939529185050:=0
def tw6304600501013472431:=0
def tw6703690351523333757:=0
def tw14682014742103695761:=0
def tw3524589823032617173:=0
def tw17462837571426749178:=0
def tw14244680835153772715:=0
def tw612644532209050507:=0
def tw10628636805580227493:=0
def tw1680643490266309536:=0
def tw17677686291892172876:=0
def tw13797026272563746828:=0
def tw11319923918298843043:=0
def tw18176076229489759993:=0
def tw18218803681055463106:=0
def tw13818209896892445067:=0
def tw16049080694004512343:=0
def tw1853717050437393545:=0
def tw10486164579649479776:=0
def tw13117075535175848396:=0
def tw14598466757853481580:=0
def tw8013729880263535511:=0
def tw8878162612806252453:=0
def tw8923441976505869542:=0
def tw12891508032315406040:=0
def tw6996315482872219201:=0
def tw7109642995489566349:=0
def tw2667055465875320810:=0
def tw8716371946661875469:=0
def tw7998878722152879695:=0
def tw1043043781536971309:=0
def tw16993942272270912648:=0
def tw14762352098525096858:=0
def tw15898349134947224554:=0
def tw13793201847197374804:=0
def tw2985354801925493852:=0
def tw4123942746680333627:=0
def tw15832216607954017106:=0
def tw16006592411722608425:=0
def tw13897346850943708173:=0
def tw13139710515902018930:=0
def tw12422985376934365343:=0
def tw12906706845280897072:=0
def tw11221827572504142921:=0
def tw17988871266278979420:=0
def tw8797843750147987727:=0
def tw2719850154344146144:=0
def tw18365255037346960003:=0
def tw2170824862019061282:=0
def tw12285873657152206934:=0
def tw2889538710116651159:=0
def tw18178265461251186125:=0
def tw11197344604832589812:=0
def tw5369808227009906125:=0
def tw16544604859177214720:=0
def tw11347428962890847032:=0
def tw2489092160618664634:=0
def tw4006572961084500738:=0
def tw1626074287075424284:=0
def tw9318947445382278186:=0
def tw12888805805326613154:=0
def tw14691710411484655986:=0
def tw288613610037642008:=0
def tw15233094534044601567:=0
def tw5923437199498976535:=0
def tw17286971177061751891:=0
def tw15114957557493687888:=0
def tw16769817336313953119:=0
def tw18407233003216275537:=0
def tw847316606852308979:=0
def tw17431878820523064991:=0
def tw17926179793313630544:=0
def tw2895513789929144549:=0
def tw4192836080888720217:=0
def tw16805807043837629613:=0
def tw5264868517966470470:=0
def tw4588921710690445597:=0
def tw2670104518973068215:=0
def tw174808697164922768:=0
def tw6094983017689239921:=0
def tw12797604540274419689:=0
def tw11389399096702952596:=0
def tw14843131030608829482:=0
def tw790579100429660928:=0
def tw16241653196852267047:=0
def tw3616791633255420209:=0
def tw8084233916524499466:=0
def tw4642974171228649324:=0
def tw5555487652554700611:=0
def tw39233340731409626:=0
def tw13353259355385592249:=0
def tw2741316590767766430:=0
def tw11296184210536842010:=0
def tw5176097988392295704:=0
def tw2206253233358918973:=0
def tw1036254026587531856:=0
def tw6590739077059776239:=0
def tw2015213337356599590:=0
def tw1777874757372633501:=0
def tw8607223195364420524:=0
def tw15160327837789679818:=0
def tw13532709822049790907:=0
def tw1061477649679028197:=0
def tw18072909138438924249:=0
def tw13382938501246969265:=0
def tw3770365679426900636:=0
def tw9549063769825859220:=0
def tw10536586716453580714:=0
def tw2875194361968790738:=0
def tw14956194197421219896:=0
def tw12888720354381470523:=0
def tw3179224370891085046:=0
def tw13184513587611661336:=0
def tw13761369181401780869:=0
def tw12157951670810930000:=0
def tw347003890287095636:=0
def tw17038245943338801962:=0
def tw15297618182555088807:=0
def tw6978807721518229274:=0
def tw10861044488214663608:=0
def tw15495751056001671385:=0
def tw15778725842982606790:=0
def tw4019005880909107393:=0
def tw477079324198752596:=0
def tw817112400160685967:=0
def tw4546281090918313120:=0
def tw143975536629885258:=0
def tw6466151824592929713:=0
def tw8181492070337380902:=0
def tw1273051598695402938:=0
def tw8483272762062255085:=0
def tw7821463989663074718:=0
def tw16511829922504002329:=0
def tw7641855553859658538:=0
def tw15998362976729611279:=0
def tw12887782753624903855:=0
def tw9885989848484406304:=0
def tw5575565345954763016:=0
def tw9399117772994892703:=0
def tw6434671999766010656:=0
def tw7923237667702774365:=0
def tw16887876324488206045:=0
def tw7793516372453789553:=0
def tw15401449128187033340:=0
def tw15942683137087181908:=0
def tw10571355184386316638:=0
def tw4101240245688903095:=0
def tw15467291953379564189:=0
def tw8131705022031202846:=0
def tw11293341811547534371:=0
def tw5012465348104827737:=0
def tw16875818962139143508:=0
def tw13633753162553733830:=0
def tw16658776263698837176:=0
def tw9121197111422269021:=0
def tw18306256216261940936:=0
def tw17981098173882682831:=0
def tw18429984584567613118:=0
def tw6450182573234400680:=0
def tw10415128816103696085:=0
def tw487040952084409934:=0
def tw8427606971508995000:=0
def tw8713535126165373966:=0
def tw3888551797040665576:=0
def tw10050069442803016619:=0
def tw8160635577691922467:=0
def tw10680000365767553438:=0
def tw26175078617896676:=0
def tw14223361912772465889:=0
def tw6103615451231958024:=0
def tw10424769741206182602:=0
def tw4906044467063300511:=0
def tw752553305618869863:=0
def tw17054745893325585140:=0
def tw9804524429940954051:=0
def tw10652894439215510165:=0
def tw17662964602813012861:=0
def tw18000454958743080151:=0
def tw4282575896834208814:=0
def tw9657199378275400508:=0
def tw1583501281205388861:=0
def tw4443617933211407993:=0
def tw12594061522200903825:=0
def tw14037632960182984761:=0
def tw1396333934088776119:=0
def tw3971474091644224061:=0
def tw17245993001144239693:=0
def tw7714755032064752095:=0
def tw8251468216807722432:=0
def tw12256076854266151710:=0
def tw7453095398531629202:=0
def tw13331657820015032370:=0
def tw544649416208984873:=0
def tw13408517504130952399:=0
def tw14743212067849602678:=0
def tw12264060251010517149:=0
def tw13872743538852226125:=0
def tw691916895335773091:=0
def tw3907876006655805129:=0
def tw15567184413194396780:=0
def tw12784745519150199988:=0
def tw12135842272570682638:=0
def tw880424855968025919:=0
def tw3751122106224182635:=0
def tw6557990341409778757:=0
def tw860601663645333945:=0
def tw14605837023597534922:=0
def tw6284974144401109926:=0
def tw2842889895464250149:=0
def tw16399856119221912363:=0
def tw13975129107698596441:=0
def tw17083831756196487429:=0
def tw8094716580684283033:=0
def tw14461140719008340611:=0
def tw8387633914076579078:=0
def tw14761812831636223364:=0
def tw4954382279918383761:=0
def tw14851391108711331191:=0
def tw17542380470586138034:=0
def tw94665704162948440:=0
def tw14828887656775473160:=0
def tw17560116492640114718:=0
def tw957528029956543048:=0
def tw6356821041643524123:=0
def tw9466880078187136724:=0
def tw4449959963816969519:=0
def tw10617756518195601696:=0
def tw3416527172629828476:=0
def tw15730519581588065410:=0
def tw18238544148420903839:=0
def tw16889363760162526639:=0
def tw3942026729779749221:=0
def tw190195447709327049:=0
def tw14803534278635376082:=0
def tw6982747719524839144:=0
def tw360508132029807234:=0
def tw4573706542278842819:=0
def tw153349272688318806:=0
def tw4633758412468719539:=0
def tw15247872050694228670:=0
def tw13032943575820318838:=0
def tw14869095604264364750:=0
def tw8732511081150320219:=0
def tw18132138777417149019:=0
def tw12722438998291749036:=0
def tw16904009574168074267:=0
def tw16288256084526337731:=0
def tw579892418551644084:=0
def tw10227814214987520687:=0
def tw6786496699537532720:=0
def tw8607517475156440793:=0
def tw17701775022875938091:=0
def tw12271762314338851167:=0
def tw5597466340204791494:=0
def tw3280446268947513386:=0
def tw3374474211822500145:=0
def tw16059570799711398191:=0
def tw13417591690460390637:=0
def tw4103225430719337910:=0
def tw2411292276753608610:=0
def tw6577419285217747165:=0
def tw12961136297942755839:=0
def tw12610632941699015409:=0
def tw16026917815110898488:=0
def tw16737955508925174328:=0
def tw2514447682413955106:=0
def tw13639351349042055532:=0
def tw17551882451659852359:=0
def tw2268343573396518191:=0
def tw11198740090743353402:=0
def tw5270831213441262062:=0
def tw4856201782913309966:=0
def tw16917874188181946266:=0
def tw5660923521408509121:=0
def tw9720049191228932487:=0
def tw6760202037755540221:=0
def tw7587053856152960563:=0
def tw83112878838941427:=0
def tw17576010497046205838:=0
def tw2349365478600352893:=0
def tw16551559031933809972:=0
def tw8331024670229161493:=0
def tw9803897557012613571:=0
def tw8882277779327723945:=0
def tw14859812272879245547:=0
def tw6678778378942272307:=0
def tw9415150211076521208:=0
def tw8977484340206900766:=0
def tw10884166531586357500:=0
def tw14787838207339649693:=0
def tw17800405270769932058:=0
def tw5161813611789177667:=0
def tw12208594379247501302:=0
def tw10529937752226762627:=0
def tw18263380434760145021:=0
def tw5242003863097042937:=0
def tw15007389324496753789:=0
def tw16384726938615354654:=0
def tw17217554314523001311:=0
def tw4976491776360748483:=0
def tw14732266850067359758:=0
def tw2642707099123366106:=0
def tw15391187503668137209:=0
def tw9850662185271217581:=0
def tw10385065757708780777:=0
def tw2992594777137332961:=0
def tw10273112131015037184:=0
def tw5111372188404730012:=0
def tw2719209869126603866:=0
def tw9643951483010374845:=0
def tw8619488701976746366:=0
def tw7607993099193330232:=0
def tw1751740409502153103:=0
def tw10024607729831030245:=0
def tw8266734173529393812:=0
def tw12772052460312248666:=0
def tw228285340032445034:=0
def tw11456947945477659976:=0
def tw6411747664985386609:=0
def tw13733800038468235715:=0
def tw1374442109347888099:=0
def tw17380546816962057750:=0
def tw18339386886392266965:=0
def tw7992329451409543935:=0
def tw18220020874417395815:=0
def tw3041164200838809614:=0
def tw6895212328526969529:=0
def tw6982311357571693116:=0
def tw1338762067553159452:=0
def tw8153292580429833338:=0
def tw13596883163387005975:=0
def tw9930193555223183141:=0
def tw15873169122503705224:=0
def tw8845748415084760798:=0
def tw13477770687340701818:=0
def tw16438913579266196628:=0
def tw5722711044141989940:=0
def tw14202009815597840921:=0
def tw14714498088611041741:=0
def tw16529109050388554385:=0
def tw9734008385002382371:=0
def tw14807080409448431523:=0
end PySem.W.Fast
open PySem PySem.W PyProof.Rows
set_option maxRecDepth 100000 in
set_option maxHeartbeats 0 in
theorem PySem.Challenge.cw_lockhouse_k65_advice_holds : PySem.Challenge.rw_lockhouse_k65_advice.Holds := by
 w_on;o_law;k_head;(case hw=>w_witness2)
 k_fill
 refine My.walk (l:=PySem.Challenge.rw_lockhouse_k65_advice) rfl rfl (fun w h Y=>PySem.W.kIn_of Y) ?F
 case F =>
  intro w mg fa h KX G hmg
  refine' My.all_mk KX G hmg ?xbP ?xbQ ?xbR ?xbS ?xbT ?va ?uo ?xaj ?wp ?wr ?vi ?uq ?vj ?ur ?xbU ?p0 ?p1 ?p2 ?p3 ?p4 ?p5 ?p6 ?p7 ?a8 ?i8 ?ac8 ?p8 ?a9 ?i9 ?p9 ?a10 ?i10 ?p10 ?a11 ?i11 ?p11 ?p12 ?p13 ?p14 ?a15 ?a15_U ?i15 ?p15 ?p16 ?a17 ?i17 ?l17 ?c17 ?k17 ?lT17 ?dT17 ?p18 ?p19 ?p20 ?p21 ?p22 ?p23 ?p24 ?p25 ?p26 ?p27 ?p28 ?p29 ?p30 ?p31 ?p32 ?p33 ?p34 ?p35 ?p36 ?p37 ?p38 ?p39 ?p40 ?p41 ?p42 ?p43 ?p44 ?p45 ?p46 ?p47 ?p48 ?p49 ?p50 ?p51 ?p52 ?p53 ?p54 ?p55 ?p56 ?p57 ?p58 ?p59 ?p60 ?p61 ?p62 ?p63 ?p64 ?p65 ?p66 ?p67 ?p68 ?p69 ?p70 ?p71 ?p72 ?p73 ?p74 ?p75 ?p76 ?p77 ?p78 ?p79 ?p80 ?p81 ?p82 ?p83 ?p84 ?p85 ?p86 ?p87 ?p88 ?p89 ?p90 ?p91 ?p92 ?p93 ?p94 ?p95 ?p96 ?p97 ?p98 ?p99 ?p100 ?a101 ?l101 ?c101 ?k101 ?xy ?zf ?xaI ?xn ?xk ?jq ?uw ?xt ?jr ?jt ?ju ?xo ?xbV ?xbw ?xbW ?xbX ?xbY ?xbZ ?xak ?xal ?xaV ?xam ?xb0 ?xbx ?xb1 ?xb2 ?xb3 ?xb4 ?xan ?xao ?xaW ?xap ?xaq ?xb5 ?xby ?xb6 ?xb7 ?xb8 ?xb9 ?xar ?xas ?xaX ?xat ?xau ?g1 ?g2 ?xca ?xbz ?xcb ?xcc ?xcd ?xce ?zp ?zk ?zq ?zg ?zr ?ze ?xcf ?xbA ?xcg ?xch ?xci ?xcj ?xf ?xg ?xq ?gSEA ?ut ?xav ?wu ?wx ?vk ?uu ?vm ?uv ?eg_eU ?en_eU ?ec_eU ?eo_eU ?eb_eU ?cX_eU ?exmX_eU ?kX_eU_0 ?kX_eU_1 ?gHOME ?xck ?xbB ?xcl ?xcm ?xcn ?xco ?nO_kept_canal ?nO_kept_names ?nO_kept_ways ?nO_kept_state ?nO_kept_pours ?nO_kept_words ?nO_kept_entries ?gLETTERS ?gMOST_SIGNS ?gMOST_BOATS ?agU ?agD ?lU ?lD ?cU_ ?cD_ ?dU ?dD
  (case xbP|xbQ|xbR|xbS|xbT|va|uo|xaj|wp|wr|vi|uq|vj|ur|xbU|a101|xy|zf|xaI|xn|xk|jq|uw|xt|jr|jt|ju|xo|gSEA|gHOME|gLETTERS|gMOST_SIGNS|gMOST_BOATS|agU|agD=>refine' L2.nsP_mk ?_;first|k_is|k_exc|kit_is|kts_exm|rfl)
  (case a8|a9|a10|a11|a15|a15_U|a17|xbX|xak|xal|xaV|xam|xb2|xan|xao|xaW|xap|xaq|xb7|xar|xas|xaX|xat|xau|xcc|zp|zk|zq|zg|zr|ze|xch|xf|xg|xq|eg_eU|en_eU|ec_eU|xcm|nO_kept_canal=>refine' L2.fnP_mk ?_;first|k_is|k_exc|kit_is|kts_exm|rfl)
  (case nO_kept_names|nO_kept_ways|nO_kept_state|nO_kept_pours|nO_kept_words|nO_kept_entries=>refine' L2.fnP_mk ?_;first|k_is|k_exc|kit_is|kts_exm|rfl)
  (case i8|ac8|i9|i10|i11|i15|i17|l17|c17|k17|lT17|dT17|l101|c101|k101|xbV|xbw|xbW|xbY|xbZ|xb0|xbx|xb1|xb3|xb4|xb5|xby|xb6|xb8|xb9|g1|g2|xca|xbz|xcb|xcd|xce|xcf|xbA|xcg=>first|k_is|k_exc|kit_is|kts_exm|rfl)
  (case xci|xcj|ut|xav|wu|wx|vk|uu|vm|uv|eo_eU|eb_eU|cX_eU|exmX_eU|kX_eU_0|kX_eU_1|xck|xbB|xcl|xcn|xco|lU|lD|cU_|cD_|dU|dD=>first|k_is|k_exc|kit_is|kts_exm|rfl)
  (case p8|p9|p10|p11|p15=>refine' ⟨_,L2.iH ?l ?c ?k⟩;(case l=>k_is);(case c=>k_is);(case k=>k_is))
  (case p0|p1|p2|p3|p4|p5|p6|p7|p26|p27|p28|p29|p30|p31|p32|p33|p34|p35|p36|p37|p38|p39|p40|p41|p42|p43|p44|p45|p46|p47|p48|p49|p50|p51|p54|p60|p61|p62|p63|p64=>refine' L2.fnT_mk ?a ?l ?c ?k;(case a=>k_is);(case l=>k_is);(case c=>k_is);(case k=>k_is))
  (case p65|p66|p67|p68|p69|p70|p71|p72|p73|p74|p75|p76|p80|p81|p82|p83|p84|p85|p86|p87|p88|p89|p90|p91|p92|p93|p94|p95|p96|p97|p98|p99|p100=>refine' L2.fnT_mk ?a ?l ?c ?k;(case a=>k_is);(case l=>k_is);(case c=>k_is);(case k=>k_is))
  (case p12|p13|p14|p16|p18|p19|p20|p21|p22|p23|p24|p25|p52|p53|p55|p56|p57|p58|p59|p77|p78|p79=>refine' L2.fnC_mk ?a ?i ?l ?c ?k;(case a=>k_is);(case i=>first|k_is|rfl);(case l=>k_is);(case c=>k_is);(case k=>k_is))
