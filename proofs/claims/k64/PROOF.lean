import PyProof.Rows.All
import Wide.All
import OpenK.AllK
import Wide.FinOn
import Lean
import PyProof.EqAt
import PyProof.EqKinds
import PyProof.TupleCall
import PyProof.NeKinds
import OpenK.KOwn
import KE.KTryMore
import KE.RegKTryMore
import PyProof.NsDelKeeps
import KE.KIntText
import PySem.Challenge.RW_lockhouse_k64_whole_water_and_gates
set_option Elab.async false
set_option linter.all false
set_option maxRecDepth 100000
local macro_rules|`(tactic|trivial)=>`(tactic|decide +kernel)
namespace L2
abbrev aa:=@List.getElem?_eq_getElem
abbrev ac:=@List.getD_eq_getElem?_getD
abbrev ad:=@List.getElem?_eq_some_iff
abbrev ae:=@List.length_map
abbrev af:=@List.length_append
abbrev ag:=@List.mem_of_getElem?
abbrev ai:=@PySem.wpAny_bind
abbrev aj:=@List.mem_cons
abbrev ak:=@PySem.Heap.get?_push_of_some
abbrev ao:=@Nat.le_refl
abbrev ap:=@List.getElem?_map
abbrev aq:=@List.size_toArray
abbrev ar:=@List.getElem?_append_right
abbrev au:=@List.mem_nil_iff
abbrev av:=@List.mem_singleton
abbrev aw:=@List.getElem?_append_left
abbrev ax:=@decide_eq_false
abbrev ay:=@Int.toNat_natCast
abbrev az:=@PySem.Heap.lt_size
abbrev aA:=@Option.some.inj
abbrev aB:=@decide_eq_true
abbrev aC:=@PySem.Heap.get?_push_size
abbrev aE:=@List.length_singleton
abbrev aF:=@List.mem_cons_of_mem
abbrev aG:=@PyProof.Rows.boot_list
abbrev aH:=@Bool.false_ne_true
abbrev aI:=@List.mem_append
abbrev aJ:=@List.map_append
abbrev aK:=@List.take_add_one
abbrev aL:=@Nat.lt_of_lt_of_le
abbrev aM:=@Nat.le_trans
abbrev aN:=@Nat.zero_le
abbrev aO:=@List.mem_map
abbrev aP:=@PySem.W.mg_of
abbrev aQ:=@PySem.F.plainAttrs_list
abbrev aR:=@List.filter_cons
abbrev aS:=@Nat.ne_of_lt
abbrev aT:=@List.mem_cons_self
abbrev aV:=@List.mem_filter
abbrev aW:=@List.take_length
abbrev aX:=@PySem.wpAny_pure
abbrev aY:=@PySem.F.slot_list_append
abbrev aZ:=@PySem.F.type_list_append
abbrev ba:=@Option.map_eq_some_iff
abbrev bb:=@or_false
abbrev bc:=@of_decide_eq_true
abbrev bd:=@List.length_take
abbrev bf:=@congrArg
abbrev bg:=@List.length_range
abbrev bh:=@PySem.W.mg_none_of
abbrev bi:=@List.mem_append_right
abbrev bj:=@PySem.PassesOwn.never
abbrev bn:=@List.take_of_length_le
abbrev bp:=@List.mem_range
abbrev bq:=@Nat.lt_irrefl
abbrev bu:=@Int.emod_lt_of_pos
abbrev bw:=@List.length_filter_le
abbrev bx:=@PyProof.Rows.boot_tuple
abbrev bz:=@List.replicate_succ
abbrev ca:=@List.eq_of_mem_replicate
abbrev cb:=@List.length_replicate
abbrev cc:=@List.mem_iff_getElem?
abbrev cf:=@List.map_cons
abbrev cg:=@List.getElem?_range
abbrev ci:=@Int.emod_nonneg
abbrev ck:=@Int.zero_add
abbrev cm:=@PyProof.Rows.boot_isinstance
abbrev cp:=@List.getElem?_take_of_lt
abbrev cq:=@List.append_nil
abbrev cu:=@List.nodup_cons
abbrev cv:=@List.length_set
abbrev cw:=@List.getElem_mem
abbrev cx:=@PySem.wpAny_field
abbrev cy:=@Nat.lt_of_le_of_lt
abbrev da:=@PySem.W.kia_one
abbrev dc:=@List.lookup_cons
abbrev dg:=@List.getElem?_eq_none
abbrev dh:=@PySem.Heap.size_push
abbrev di:=@PyProof.Rows.callWith_type1
abbrev dm:=@List.getElem?_replicate
abbrev dq:=@Int.le_refl
abbrev du:=@PySem.wpAny_mono
abbrev dv:=@List.length_cons
abbrev dw:=@List.all_eq_true
abbrev dz:=@beq_eq_false_iff_ne
abbrev eh:=@decide_eq_true_eq
abbrev ei:=@List.range_succ
abbrev em:=@PySem.W.callWith_K
abbrev eo:=@PySem.wpAny_callSpecial?_slot
abbrev fb:=@Int.add_zero
abbrev fe:=@List.nodup_nil
abbrev ff:=@PySem.wpAny_truthy_bool
abbrev fg:=@Bool.eq_false_iff
abbrev fh:=@PySem.F.slot_tuple_iterator_next
abbrev fi:=@Array.getElem?_eq_some_iff
abbrev fj:=@Nat.lt_succ_self
abbrev fk:=@Bool.and_eq_true
abbrev fm:=@PySem.wpAny_pyIter_tuple
abbrev fo:=@List.mem_filterMap
abbrev fq:=@PySem.W.methodCall_KW
abbrev ft:=@PySem.wpAny_setField_rec
abbrev fw:=@List.filter_append
abbrev fz:=@PySem.wpAny_seqItems
abbrev ga:=@PySem.wpAny_pyIter_list
abbrev gb:=@List.flatten_cons
abbrev gc:=@Nat.not_lt_zero
abbrev gd:=@not_false_eq_true
abbrev ge:=@Nat.ne_of_gt
abbrev gg:=@PySem.mem_of_lookup
abbrev gh:=@List.cons.inj
abbrev gj:=@PySem.Heap.get?_update_other
abbrev gk:=@PySem.wpAny_Call_Name_kw
abbrev gl:=@of_decide_eq_false
abbrev gm:=@Nat.sub_self
abbrev gn:=@List.find?_cons
abbrev gq:=@PyProof.Rows.boot_sum
abbrev gr:=@PyProof.Rows.boot_min
abbrev gt:=@PyProof.Rows.boot_int
abbrev gu:=@PySem.call_meets
abbrev gv:=@beq_self_eq_true
abbrev gw:=@PySem.wpAny_call_entry
abbrev gx:=@Array.length_toList
abbrev gy:=@List.length_take_le
abbrev gz:=@PySem.AutoSeq1.wpAny_loadPart'
abbrev hJ:=@PySem.wpAny_comprehension_free
abbrev hU:=@Nat.succ.inj
abbrev hV:=@PySem.wpAny_passesOwn
abbrev hX:=@Bool.eq_iff_iff
abbrev hZ:=@Option.map_some
abbrev ia:=@PySem.Obj.data_mapFields
abbrev ib:=@List.getElem?_set_self
abbrev ic:=@List.filter_eq_nil_iff
abbrev ie:=@beq_iff_eq
abbrev ig:=@List.append_assoc
abbrev ii:=@Nat.lt_succ_of_lt
abbrev ij:=@PySem.wpAny_pyIter_enum
abbrev ik:=@PySem.wpAny_newObj_type
abbrev il:=@List.foldl_append
abbrev im:=@Nat.le_of_lt
abbrev io:=@PySem.Heap.get?_update_self
abbrev ip:=@List.countP_cons
abbrev iq:=@PySem.Around.in1_units
abbrev ir:=@List.mem_append_left
abbrev iu:=@List.getElem?_set_ne
abbrev iw:=@List.mem_iff_getElem
abbrev ix:=@PySem.wpAny_updateSeq_pair
abbrev iy:=@List.any_cons
abbrev iz:=@PySem.F.slot_int_rmul
abbrev ka:=@PySem.F.slot_zip_next
abbrev kb:=@PySem.codeAny_mono
open PySem PySem.Spec PyProof.Rows
abbrev kY:=Sum Int Str
def gB:kY->Value->Bool
 |.inl k,v=>Value.isInt k v
 |.inr x,v=>Value.isStrOf x v
def jCm (w:World):kY->Int
 |.inl k=>hashInt k
 |.inr x=>hashStr w x
theorem ZZ:∀{k:kY} {v:Value},gB k v=true->(∃i t,k=Sum.inl i/\v=Value.int i t)\/(∃x t,k=Sum.inr x/\v=Value.str x t)
 |.inl i,v,h=>by
  obtain ⟨t,e⟩:=Value.isInt_shape (k:=i) (v:=v) h;exact .inl ⟨i,t,rfl,e⟩
 |.inr x,v,h=>by
  obtain ⟨t,e⟩:=Value.isStrOf_shape (x:=x) (v:=v) h;exact .inr ⟨x,t,rfl,e⟩
theorem UY (i:Int) (t:Tok):gB (.inl i) (.int i t)=true:=by simp [gB,Value.isInt]
theorem UX (x:Str) (t:Tok):gB (.inr x) (.str x t)=true:=by simp [gB,Value.isStrOf]
theorem jAg (a b:Int):decide ((Sum.inl a:kY)=Sum.inl b)=(a == b):=by
 by_cases e:a=b
 ·subst e;simp
 ·have h:¬(Sum.inl a:kY)=Sum.inl b:=fun q=>e (Sum.inl.inj q)
  rw [ax h];exact (dz.mpr e).symm
theorem jAd (a b:Str):decide ((Sum.inr a:kY)=Sum.inr b)=decide (a=b):=by
 by_cases e:a=b
 ·subst e;simp
 ·have h:¬(Sum.inr a:kY)=Sum.inr b:=fun q=>e (Sum.inr.inj q)
  rw [ax h,ax e]
theorem jAf (a:Int) (b:Str):decide ((Sum.inl a:kY)=Sum.inr b)=false:=ax (fun q=>nomatch q)
theorem jAe (a:Str) (b:Int):decide ((Sum.inr a:kY)=Sum.inl b)=false:=ax (fun q=>nomatch q)
def JI (prog:Program) (w:World):PySem.KeyKind prog w kY where
 is:=gB
 hash:=jCm w
 inj:=fun v a b F E=>by
  rcases ZZ F with ⟨i,t,rfl,rfl⟩|⟨x,t,rfl,rfl⟩
  ·rcases ZZ E with ⟨j,u,rfl,e⟩|⟨y,u,rfl,e⟩
   ·injection e with e1 _;rw [e1]
   ·exact nomatch e
  ·rcases ZZ E with ⟨j,u,rfl,e⟩|⟨y,u,rfl,e⟩
   ·exact nomatch e
   ·injection e with e1 _;rw [e1]
 byValue:=fun k v h=>by
  rcases ZZ h with ⟨i,t,rfl,rfl⟩|⟨x,t,rfl,rfl⟩<;>rfl
 pyHash:=fun D h=>by
  rcases ZZ D with ⟨i,t,rfl,rfl⟩|⟨x,t,rfl,rfl⟩
  ·exact wpAny_pyHash_int h
  ·exact wpAny_pyHash_str h
 eqBool:=fun G D h=>by
  rcases ZZ G with ⟨i,t,rfl,rfl⟩|⟨x,t,rfl,rfl⟩
  ·rcases ZZ D with ⟨j,u,rfl,rfl⟩|⟨y,u,rfl,rfl⟩
   ·rw [jAg] at h;exact wpAny_eqBool_int h
   ·rw [jAf] at h;exact SeqAt.EqAt.int_str i t y u _ _ _ _ h
  ·rcases ZZ D with ⟨j,u,rfl,rfl⟩|⟨y,u,rfl,rfl⟩
   ·rw [jAe] at h;exact SeqAt.EqAt.str_int x t j u _ _ _ _ h
   ·rw [jAd] at h;exact wpAny_eqBool_str h
 «strs»:=fun k x t v h=>by
  rcases ZZ h with ⟨i,u,rfl,e⟩|⟨y,u,rfl,e⟩
  ·exact nomatch e
  ·injection e with e1 _
   subst e1;cases v<;>rfl
theorem SM (prog:Program) (w:World) (i:Int) (t:Tok):(JI prog w).is (.inl i) (.int i t)=true:=UY i t
theorem SL (prog:Program) (w:World) (x:Str) (t:Tok):(JI prog w).is (.inr x) (.str x t)=true:=UX x t
inductive V where
 |non|bl (b:Bool)|int (i:Int)|str (x:Str)|byt (b:Array UInt8)|flt (b:UInt64)|ref (a:Addr)|ty (n:String)
 deriving DecidableEq
def RelV:V->Value->Prop
 |.non,u=>u=Value.none
 |.bl b,u=>u=Value.bool b
 |.int i,u=>∃t,u=Value.int i t
 |.str x,u=>∃t,u=Value.str x t
 |.byt b,u=>∃t,u=Value.bytes b t
 |.flt b,u=>∃t,u=Value.float b t
 |.ref a,u=>u=Value.ref a
 |.ty n,u=>u=Value.type n
abbrev Vals:List V->List Value->Prop:=Paired RelV
theorem Vals.length {xs:List V} {us:List Value} (r:Vals xs us):xs.length=us.length:=Paired.length r
theorem Vals.get:∀{xs:List V} {us:List Value} {i:Nat} {x:V},Vals xs us->xs[i]?=some x->∃u,us[i]?=some u/\RelV x u
 |_,_,_,_,.nil,e=>by simp at e
 |_,_,0,_,.cons r _,e=>by simp at e;subst e;exact ⟨_,rfl,r⟩
 |_,_,i+1,x,.cons _ t,e=>by
  obtain ⟨u,h,D⟩:=Vals.get (i:=i) (x:=x) t (by simpa using e);exact ⟨u,by simpa using h,D⟩
theorem Vals.set {x:V} {u:Value} (r:RelV x u):∀{xs:List V} {us:List Value} (i:Nat),Vals xs us->Vals (xs.set i x) (us.set i u)
 |_,_,_,.nil=>.nil
 |_,_,0,.cons _ t=>.cons r t
 |_,_,i+1,.cons q t=>.cons q (Vals.set r i t)
theorem Vals.append:∀{xs ys:List V} {us h:List Value},Vals xs us->Vals ys h->Vals (xs++ys) (us++h)
 |_,_,_,_,.nil,s=>s
 |_,_,_,_,.cons r t,s=>.cons r (Vals.append t s)
theorem Vals.take:∀{xs:List V} {us:List Value} (n:Nat),Vals xs us->Vals (xs.take n) (us.take n)
 |_,_,0,_=>.nil
 |_,_,_+1,.nil=>.nil
 |_,_,n+1,.cons r t=>.cons r (Vals.take n t)
theorem Vals.drop:∀{xs:List V} {us:List Value} (n:Nat),Vals xs us->Vals (xs.drop n) (us.drop n)
 |_,_,0,r=>r
 |_,_,_+1,.nil=>.nil
 |_,_,n+1,.cons _ t=>Vals.drop n t
def RelO:Option V->Option Value->Prop
 |some v,some u=>RelV v u
 |none,none=>True
 |_,_=>False
def KV {h:Type}:List (h×V)->List (h×Value)->Prop:=Paired fun (p:h×V) (q:h×Value)=>p.1=q.1/\RelV p.2 q.2
def kV:kY->V
 |.inl i=>.int i
 |.inr x=>.str x
inductive HO where
 /-- a list -/
 |lst (xs:List V)
 /-- a tuple (never changes) -/
 |tup (xs:List V)
 /-- a dict whose keys are ints and texts;one whose keys are tuples of ints and texts (the empty one is both) -/
 |dK (kj:List (kY×V))|dT (kj:List (List kY×V))
 /-- a set of ints: its members,its size -/
 |set (S:Int->Bool) (n:Nat)
 /-- an instance of the class at C,its dict at dx,its attributes -/
 |ins (C dx:Addr) (fs:List (Str×V))
 /-- the dict of the instance at x -/
 |own (x:Addr)
 /-- the dict of an exception -/
 |xd (fs:List (Str×V))
 /-- a bound method,f of x -/
 |met (f x:Addr)
 /-- a range object lo,lo+1,.. below hi -/
 |rng (lo hi:Int)
 /-- a thing that is known to the object (the script;a dict while a loop walks it): read,never written while it is so -/
 |frz (o:Obj) (u:HO)
 /-- a code object's table -/
 |tbl (ps:Array Value)
 /-- any other thing,by what is true of its one object (a def of one's own: SetO a S n:=HO.ext fun h=>..) -/
 |ext (φ:Heap->Prop)
abbrev Hp:=Addr->Option HO
def upd (H:Hp) (a:Addr) (o:HO):Hp:=fun b=>if b=a then some o else H b
variable {H:Hp} {a:Addr} {o:HO}
theorem jF:upd H a o a=some o:=by unfold upd;rw [if_pos rfl]
variable {b:Addr}
theorem j7 (h:b≠a):upd H a o b=H b:=by unfold upd;rw [if_neg h]
theorem yP {u:HO} (h:H a=some o) (h':H b=some u) (d:o≠u):a≠b:=by
 intro e;subst e;rw [h] at h';exact d (aA h')
theorem q9 (h:H a=some o) (h':H b=none):a≠b:=by
 intro e;subst e;rw [h] at h';cases h'
section
variable (P:Program) (w:World)
def ObjOk (H:Hp) (h:Heap) (a:Addr):HO->Prop
 |.lst xs=>xs.length<=sizeLine/\∃(its:List Value) (n:Nat),Vals xs its/\h.get? a=some {cls:=.type "list",data:=.seq its.toArray n}
 |.tup xs=>xs.length<=sizeLine/\∃its:List Value,Vals xs its/\IsTup h a its.toArray
 |.dK F=>F.length<=sizeLine/\(a == sysModules)=false/\∃vs,KV F vs/\h.DictOf (JI P w) a vs
 |.dT F=>F.length<=sizeLine/\(a == sysModules)=false/\∃xs:List (List kY×Addr×Value),
   Paired (fun (p:List kY×V) (q:List kY×Addr×Value)=>p.1=q.1/\H q.2.1=some (.tup (p.1.map kV))/\RelV p.2 q.2.2) F xs/\
   ∃o L O,h.get? a=some o/\o.ExactDict/\o.data=.dict L O/\L.toList=xs.map (entryOfKey (tupleKind (JI P w)))/\(xs.map (·.1)).Nodup
 |.set S n=>h.SetOf (intKind P w) a S n
 |.ins C G E=>H G=some (.own a)/\E.length<=1000/\G≠a/\h.get? a=some (PySem.W.instObj C G)/\
   ∃D,h.Ns1 G D/\(∀f,RelO (E.lookup f) (D f))/\PySem.Within D (E.map (·.1))
 |.own _=>∃o,h.get? a=some o
 |.xd E=>∃D,h.Ns1 a D/\∀f,RelO (E.lookup f) (D f)
 |.rng lo hi=>∃t u v,h.get? a=some {cls:=.type "range",data:=.fields #[.int lo t,.int hi u,.int 1 v]}
 |.frz o u=>h.get? a=some o/\ObjOk H h a u
 |.tbl ps=>h.get? a=some {cls:=.none,data:=.fields ps}
 |.met f x=>h.get? a=some (PySem.W.methodObj (.ref f) (.ref x))
 |.ext I=>I h/\(∃o,h.get? a=some o)/\∀M J:Heap,I M->(∀o,M.get? a=some o->J.get? a=some o)->I J
def HOk (H:Hp) (h:Heap):Prop:=∀a o,H a=some o->ObjOk P w H h a o
end
section
variable {P:Program} {w:World} {H H':Hp} {h h':Heap} {a:Addr} {o:HO}
theorem ObjOk.lt (x:ObjOk P w H h a o):a<h.objs.size:=by
 cases o with
 |lst D=>obtain ⟨_,_,_,_,e⟩:=x;exact az e
 |tup D=>obtain ⟨_,_,_,p⟩:=x;exact p.lt
 |dK F=>obtain ⟨_,_,_,_,o,_,_,e,_⟩:=x;exact az e
 |dT F=>obtain ⟨_,_,_,_,o,_,_,e,_⟩:=x;exact az e
 |set S n=>obtain ⟨o,_,_,_,e,_⟩:=x;exact az e
 |ins C L E=>obtain ⟨_,_,_,e,_⟩:=x;exact az e
 |own y=>obtain ⟨_,e⟩:=x;exact az e
 |xd E=>obtain ⟨_,⟨_,_,_,e,_⟩,_⟩:=x;exact az e
 |rng M O=>obtain ⟨_,_,_,e⟩:=x;exact az e
 |frz J u=>obtain ⟨e,_⟩:=x;exact az e
 |tbl G=>exact az (show h.get? a=some _ from x)
 |met f y=>exact az (show h.get? a=some _ from x)
 |ext I=>obtain ⟨_,⟨_,e⟩,_⟩:=x;exact az e
theorem Paired.mapP {I J:Type} {F G:I->J->Prop}:∀{E:List I} {D:List J},Paired F E D->(∀a b,F a b->G a b)->Paired G E D
 |_,_,.nil,_=>.nil
 |_,_,.cons r t,f=>.cons (f _ _ r) (Paired.mapP t f)
theorem ObjOk.stay (x:ObjOk P w H h a o) (k:∀b u,(b=a\/H b=some (.own a))->h.get? b=some u->h'.get? b=some u)
  (ho:∀b,H b=some (.own a)->H' b=some (.own a)) (Y:∀b xs,H b=some (.tup xs)->H' b=some (.tup xs)):ObjOk P w H' h' a o:=by
 induction o with
 |lst xs=>obtain ⟨z,G,n,r,e⟩:=x;exact ⟨z,G,n,r,k _ _ (.inl rfl) e⟩
 |tup xs=>obtain ⟨z,G,r,D,e,c⟩:=x;exact ⟨z,G,r,D,k _ _ (.inl rfl) e,c⟩
 |dK kj=>obtain ⟨z,y,vs,r,D,E,F,e,c⟩:=x;exact ⟨z,y,vs,r,D,E,F,k _ _ (.inl rfl) e,c⟩
 |dT kj =>
  obtain ⟨z,y,xs,r,D,E,F,e,c⟩:=x;exact ⟨z,y,xs,Paired.mapP r fun p q z=>⟨z.1,Y _ _ z.2.1,z.2.2⟩,D,E,F,k _ _ (.inl rfl) e,c⟩
 |set S n=>obtain ⟨D,E,F,t,e,c⟩:=x;exact ⟨D,E,F,t,k _ _ (.inl rfl) e,c⟩
 |ins C dx V =>
  obtain ⟨d,z,Z,e,J,⟨I,E,F,O,c⟩,r⟩:=x;exact ⟨ho _ d,z,Z,k _ _ (.inl rfl) e,J,⟨I,E,F,k _ _ (.inr d) O,c⟩,r⟩
 |own y=>obtain ⟨D,e⟩:=x;exact ⟨D,k _ _ (.inl rfl) e⟩
 |xd V=>obtain ⟨J,⟨I,E,F,e,c⟩,r⟩:=x;exact ⟨J,⟨I,E,F,k _ _ (.inl rfl) e,c⟩,r⟩
 |rng lo hi=>obtain ⟨t,u,v,e⟩:=x;exact ⟨t,u,v,k _ _ (.inl rfl) e⟩
 |frz D u ih=>obtain ⟨e,q⟩:=x;exact ⟨k _ _ (.inl rfl) e,ih q⟩
 |tbl L =>
  have e:h.get? a=some {cls:=.none,data:=.fields L}:=x;show h'.get? a=some {cls:=.none,data:=.fields L};exact k a _ (.inl rfl) e
 |met f y =>
  have e:h.get? a=some (PySem.W.methodObj (.ref f) (.ref y)):=x;show h'.get? a=some (PySem.W.methodObj (.ref f) (.ref y));exact k a _ (.inl rfl) e
 |ext φ=>obtain ⟨p,⟨o,e⟩,M⟩:=x;exact ⟨M _ _ p fun o q=>k _ _ (.inl rfl) q,⟨o,k _ _ (.inl rfl) e⟩,M⟩
theorem HOk.lt (x:HOk P w H h) (e:H a=some o):a<h.objs.size:=(x a o e).lt
theorem HOk.fresh (x:HOk P w H h) (e:h.objs.size<=a):H a=none:=by
 cases q:H a with
 |none=>rfl
 |some u=>exact absurd (aL (x.lt q) e) (bq _)
theorem HOk.kept (x:HOk P w H h) (k:∀b u,h.get? b=some u->h'.get? b=some u):HOk P w H h':=fun a o e =>
 (x a o e).stay (fun b u _ q=>k b u q) (fun _ q=>q) fun _ _ q=>q
theorem HOk.laid (x:HOk P w H h) (k:∀b u,h.get? b=some u->h'.get? b=some u) (G:h.objs.size<=a) (D:ObjOk P w (upd H a o) h' a o):HOk P w (upd H a o) h':=fun b u e=>by
 have F:=x.fresh G
 by_cases E:b=a
 ·subst E;rw [jF] at e;cases e;exact D
 ·rw [j7 E] at e;exact (x b u e).stay (fun c v _ q=>k c v q) (fun c q=>by rw [j7 (q9 q F)];exact q) fun c I q=>by rw [j7 (q9 q F)];exact q
end
def Rd (H:Hp) (a:Addr) (u:HO):Prop:=H a=some u\/∃o,H a=some (.frz o u)
variable {h:Heap}
theorem Rd.ok {P:Program} {w:World} {u:HO} (r:Rd H a u) (x:HOk P w H h):ObjOk P w H h a u:=by
 rcases r with r|⟨o,r⟩
 ·exact x a u r
 ·obtain ⟨_,q⟩:=x a _ r;exact q
def lN:Option HO->Prop
 |some (.lst _)=>True
 |some (.dK _)=>True
 |some (.dT _)=>True
 |some (.set _ _)=>True
 |some (.ins _ _ _)=>True
 |some (.ext _)=>True
 |_=>False
section
variable {P:Program} {w:World} {H:Hp} {h h':Heap} {x e:Addr} {o':HO}
theorem HOk.write (V:HOk P w H h) (J:lN (H x)) (he:e=x\/H e=some (.own x)) (k:∀b u,b≠e->h.get? b=some u->h'.get? b=some u) (M:∃u,h'.get? e=some u)
  (O:ObjOk P w (upd H x o') h' x o'):HOk P w (upd H x o') h':=fun b u q=>by
 have E:∀c y,H c=some (.own y)->c≠x:=fun c y r z=>by subst z;rw [r] at J;exact J
 have F:∀c I,H c=some (.tup I)->c≠x:=fun c I r z=>by subst z;rw [r] at J;exact J
 by_cases L:b=x
 ·subst L;rw [jF] at q;cases q;exact O
 ·rw [j7 L] at q
  by_cases D:b=e
  ·have S:H b=some (.own x):=by
    rcases he with z|z
    ·exact absurd (D.trans z) L
    ·rw [D];exact z
   rw [q] at S;cases S
   obtain ⟨v,Y⟩:=M;exact ⟨v,by rw [D];exact Y⟩
  ·refine (V b u q).stay (fun c v G r=>k c v ?_ r) (fun c r=>by rw [j7 (E c b r)];exact r) fun c I r=>by rw [j7 (F c I r)];exact r
   rcases G with rfl|G
   ·exact D
   ·rintro rfl
    rcases he with z|z
    ·exact E c b G z
    ·rw [G] at z;cases z;exact L rfl
end
structure Un (fs ex:List Addr) (H H':Hp) (h h':Heap):Prop where
 keep:∀b o,h.get? b=some o->H b=none->b∉fs->b∉ex->h'.get? b=some o
 slot:∀b o,h.get? b=some o->H b=none->b∈fs->b∉ex->∃sl,h'.get? b=some {o with slots:=sl}
 free:∀b o,h.get? b=some o->H b=none->b∉ex->H' b=none
 there:∀b o,h.get? b=some o->b∉ex->∃o',h'.get? b=some o'
 tups:∀b xs,H b=some (.tup xs)->H' b=some (.tup xs)
 frzs:∀b o u,H b=some (.frz o u)->H' b=some (.frz o u)
 tbls:∀b ps,H b=some (.tbl ps)->∃more,H' b=some (.tbl (ps++more))
section
variable {fs fs' ex ex':List Addr} {H H1 H2:Hp} {h h1 h2 h':Heap} {a x e:Addr} {o:HO}
theorem Un.any (u:Un fs ex H H1 h h1) {b:Addr} {D:Obj} (q:h.get? b=some D) (n:H b=none) (F:b∉ex):∃G,h1.get? b=some {D with slots:=G}:=by
 by_cases E:b∈fs
 ·exact u.slot b D q n E F
 ·exact ⟨D.slots,u.keep b D q n E F⟩
theorem Un.kept (k:∀b u,h.get? b=some u->h'.get? b=some u):Un fs ex H H h h' :=
 ⟨fun b D q _ _ _=>k b D q,fun b D q _ _ _=>⟨D.slots,k b D q⟩,fun _ _ _ n _=>n,fun b D q _=>⟨D,k b D q⟩,fun _ _ q=>q,fun _ _ _ q=>q,fun _ E q=>⟨#[],by rw [q];simp⟩⟩
theorem Un.refl:Un fs ex H H h h:=Un.kept fun _ _ q=>q
theorem Un.laid (k:∀b u,h.get? b=some u->h'.get? b=some u) (F:h.objs.size<=a) (D:H a=none):Un fs ex H (upd H a o) h h' where
 keep:=fun b u q _ _ _=>k b u q
 slot:=fun b u q _ _ _=>⟨u.slots,k b u q⟩
 free:=fun b u q n _=>by rw [j7 (aS (aL (az q) F))];exact n
 there:=fun b u q _=>⟨u,k b u q⟩
 tups:=fun b E q=>by rw [j7 (q9 q D)];exact q
 frzs:=fun b u E q=>by rw [j7 (q9 q D)];exact q
 tbls:=fun b G q=>⟨#[],by rw [j7 (q9 q D),q];simp⟩
theorem Un.write (E:lN (H x)) (he:e=x\/H e=some (.own x)) (k:∀b u,b≠e->h.get? b=some u->h'.get? b=some u) (F:∃u,h'.get? e=some u):Un fs ex H (upd H x o) h h':=by
 have I:∀b,H b=none->b≠x:=fun b n z=>by subst z;rw [n] at E;exact E
 have J:∀b,H b=none->b≠e:=fun b n z=>by
  subst z
  rcases he with r|r
  ·exact I b n r
  ·rw [n] at r;cases r
 have G:∀b u,H b=some u->¬lN (some u)->b≠x:=fun b u q L z=>by subst z;rw [q] at E;exact L E
 refine ⟨fun b u q n _ _=>k b u (J b n) q,fun b u q n _ _=>⟨u.slots,k b u (J b n) q⟩,fun b u q n _=>by rw [j7 (I b n)];exact n,fun b u q _=>?_,
  fun b M q=>by rw [j7 (G b _ q fun z=>z)];exact q,fun b u M q=>by rw [j7 (G b _ q fun z=>z)];exact q,fun b O q=>⟨#[],by rw [j7 (G b _ q fun z=>z),q];simp⟩⟩
 by_cases D:b=e
 ·subst D;exact F
 ·exact ⟨u,k b u D q⟩
end
def QF (h:Heap) (H:Hp):List Addr:=(List.range h.objs.size).filter fun a=>(H a).isSome
def bH (h:Heap) (H:Hp):Heap:=PySem.W.hideAll h (QF h H)
theorem U3 (h:Heap) (H:Hp):(bH h H).objs.size=h.objs.size:=PySem.W.hideAll_size _ _
theorem WJ {o:Obj} (e:h.get? b=some o) (n:H b=none):(bH h H).get? b=some o :=
 PySem.W.hideAll_get _ e fun D=>by
  have q:(H b).isSome=true:=(aV.mp D).2;rw [n] at q;simp at q
theorem XV {o:Obj} (e:(bH h H).get? b=some o):h.get? b=some o/\H b=none:=by
 have D:h.get? b=some o:=PySem.W.of_hideAll (QF h H) e;refine ⟨D,?_⟩;cases q:H b with
 |none=>rfl
 |some x =>
  have E:b∈QF h H:=aV.mpr ⟨bp.mpr (az D),by simp [q]⟩;have z:(bH h H).get? b=none:=PySem.W.hideAll_none (QF h H) E;rw [z] at e;cases e
def YJ (g h:Heap) (L:Addr):List (Addr×Obj):=(List.range h.objs.size).filterMap fun a=>if a=L\/(g.get? a).isSome=true then none else (h.get? a).map fun o=>(a,o)
def rest (g h:Heap) (L d:Addr):List (Addr×Obj):=(YJ g h L).filter fun p=>decide (p.1≠d)
end L2
namespace L2
open PySem PySem.Spec PyProof.Rows
structure Mod (K:PySem.W.Frag) (mg:Str->Option Value) (base:Heap):Prop where
 kin:K.In base
 glob:base.Ns mainGlobals mg
 blt:∃mb,base.Ns builtinsNs mb/\∀x:Str,x≠"__name__"->mb x=bootBuiltins x
 nolimit:base.NoLimit
structure Cx where
 prog:Program
 w:World
 K:PySem.W.Frag
 mg:Str->Option Value
 base:Heap
 A:Around
 N:List Str
 s₀:Shared
 H₀:Hp
 env:Env
 outer:List Env
 stack:List Env
 ex:List Addr
 fn:Str->Bool
 calm:Bool
 pn:List (Addr×Obj)
 xe:Value->Shared->Prop
def qE (l:List Env):List Addr:=l.filterMap (·.frame)
abbrev Cx.fs (X:Cx):List Addr:=qE X.outer
def lL (h:Scope) (x:Str):Prop:=h.names.lookup x=some .local\/h.names.lookup x=some .cell\/h.names.lookup x=some .free
def gL (h:Scope) (x:Str):Prop:=h.names.lookup x=some .local\/h.names.lookup x=some .cell
def jCv (D:Env) (h:Heap) (m:Str->Option Value) (x:Str) (u:Value):Prop :=
 (D.kindOf x=some .local/\m x=some u)\/((D.kindOf x=some .cell\/D.kindOf x=some .free)/\∃c,D.cells.lookup x=some c/\h.IsCell c (some u))
structure Cx.Ok (X:Cx):Prop where
 mod:Mod X.K X.mg X.base
 kind:X.env.scope.kind=.function
 glob:X.env.globals=mainGlobals
 blt:X.env.builtins=builtinsNs
 above:X.s₀.heap.objs.size<=X.env.locals
 inj:∀x y c,X.env.cells.lookup x=some c->X.env.cells.lookup y=some c->x=y
 has:∀x,(X.env.kindOf x=some .cell\/X.env.kindOf x=some .free)->∃c,X.env.cells.lookup x=some c
 cab:∀x c,X.fn x=true->X.env.cells.lookup x=some c->X.s₀.heap.objs.size<=c
 hd:X.calm=true->X.A.handled=none
 frames:X.A.frames=some X.stack
 stk:X.stack=X.outer\/(X.stack=X.env::X.outer/\X.env.frame=some X.env.locals)
 exf:∀b∈X.ex,b≠X.env.locals/\∀x c,X.env.cells.lookup x=some c->c≠b
 bs:∀b o,X.base.get? b=some o->X.s₀.heap.get? b=some o/\X.H₀ b=none
 bsz:X.base.objs.size<=X.s₀.heap.objs.size
 noex:∀b o,X.base.get? b=some o->b∉X.ex
 exfs:∀b∈X.ex,b∉X.fs
 funs:X.s₀.heap.FunFrames X.base X.outer
 frf:∀b∈X.fs,X.H₀ b=none
structure Inv (X:Cx) (kc:List (Addr×Obj)) (σ:List (Option V)) (H:Hp) (s:Shared):Prop where
 ok:X.Ok
 os:s.os=X.s₀.os
 bare:AllBare s.gens
 base:Un X.fs X.ex X.H₀ H X.s₀.heap s.heap
 loc:∃m,s.heap.Ns X.env.locals m/\∀(i:Nat) (x:Str) (v:V),X.N[i]?=some x->σ[i]?=some (some v)->lL X.env.scope x->∃u,RelV v u/\jCv X.env s.heap m x u
 cell:∀x c,X.env.cells.lookup x=some c->∃v,s.heap.IsCell c v
 free:H X.env.locals=none
 freeC:∀x c,X.env.cells.lookup x=some c->H c=none
 pin:∀p∈X.pn++kc,s.heap.get? p.1=some p.2/\H p.1=none/\p.1≠X.env.locals/\p.1∉X.fs/\∀v,p.2.data≠.cell v
 hok:HOk X.prog X.w H s.heap
 len:σ.length=X.N.length
section
variable {X:Cx} {kc:List (Addr×Obj)} {σ:List (Option V)} {H H':Hp} {s:Shared} {h':Heap}
theorem Cx.Ok.nofr (D:X.Ok) {b:Addr} {o:Obj} (e:X.base.get? b=some o):b∉X.fs:=fun h=>by
 have:=(D.funs.mem h).1;rw [e] at this;cases this
theorem Inv.bs (I:Inv X kc σ H s):∀b o,X.base.get? b=some o->s.heap.get? b=some o/\H b=none:=fun b o e =>
 ⟨I.base.keep b o (I.ok.bs b o e).1 (I.ok.bs b o e).2 (I.ok.nofr e) (I.ok.noex b o e),I.base.free b o (I.ok.bs b o e).1 (I.ok.bs b o e).2 (I.ok.noex b o e)⟩
theorem Inv.bk (I:Inv X kc σ H s):∀b o,X.base.get? b=some o->s.heap.get? b=some o:=fun b o e=>(I.bs b o e).1
theorem Inv.mod (I:Inv X kc σ H s):Mod X.K X.mg X.base:=I.ok.mod
theorem Inv.kIn (I:Inv X kc σ H s):X.K.In s.heap:=I.ok.mod.kin.keeps I.bk
theorem Inv.lt (I:Inv X kc σ H s):X.env.locals<s.heap.objs.size:=let ⟨_,h,_⟩:=I.loc;h.lt
theorem Inv.sz (I:Inv X kc σ H s):X.s₀.heap.objs.size<=s.heap.objs.size:=aM I.ok.above (im I.lt)
theorem Inv.nofs (I:Inv X kc σ H s) {a:Addr} (h:s.heap.objs.size<=a):a∉X.fs:=fun E=>by
 obtain ⟨_,o,D,_⟩:=I.ok.funs.mem E;exact absurd (aL (az D) (aM I.sz h)) (bq _)
theorem Inv.cne (I:Inv X kc σ H s):∀x c,X.env.cells.lookup x=some c->c≠X.env.locals:=fun x c e z=>by
 obtain ⟨v,o,F,E⟩:=I.cell x c e;obtain ⟨m,⟨G,J,L,h,D,_⟩,_⟩:=I.loc;rw [z,h] at F;cases F;rw [D] at E;cases E
theorem Inv.funs (I:Inv X kc σ H s):s.heap.FunFrames X.base X.outer:=by
 have h:∀(l:List Env),(∀b∈qE l,b∈X.fs)->X.s₀.heap.FunFrames X.base l->s.heap.FunFrames X.base l:=by
  intro l
  induction l with
  |nil=>intro _ _;trivial
  |cons ah r M =>
   intro G S;obtain ⟨V,⟨L,o,F,O,Z,J⟩,Y⟩:=S;have D:L∈X.fs:=G L (by unfold qE;rw [List.filterMap_cons,F];exact aT);obtain ⟨sl,e⟩:=I.base.slot L o Z (I.ok.frf L D) D fun z=>I.ok.exfs L z D
   exact ⟨V,⟨L,_,F,O,e,J⟩,M (fun b E=>G b (by unfold qE;rw [List.filterMap_cons,F];exact aF _ E)) Y⟩
 exact h X.outer (fun _ E=>E) I.ok.funs
theorem Inv.stack (I:Inv X kc σ H s):s.heap.FunFrames X.base X.stack:=by
 rcases I.ok.stk with e|⟨e,D⟩
 ·rw [e];exact I.funs
 ·rw [e];obtain ⟨m,h,_⟩:=I.loc;refine .cons (by rw [I.ok.kind];decide) D h ?_ I.funs;exact Heap.get?_none_of_le (aM I.ok.bsz I.ok.above)
theorem Inv.stkSub (I:Inv X kc σ H s):∀b∈qE X.stack,b∈X.env.locals::X.fs:=fun b h=>by
 rcases I.ok.stk with e|⟨e,D⟩
 ·rw [e] at h;exact aF _ h
 ·rw [e] at h;unfold qE at h;rw [List.filterMap_cons,D] at h;exact h
theorem Inv.stkFree (I:Inv X kc σ H s):∀b∈qE X.stack,H b=none:=fun b h=>by
 rcases aj.mp (I.stkSub b h) with e|h
 ·rw [e];exact I.free
 ·obtain ⟨_,o,D,_⟩:=I.ok.funs.mem h;exact I.base.free b o D (I.ok.frf b h) fun z=>I.ok.exfs b z h
theorem Inv.step {g':Array GenState} {t':Nat} {d':Drawn} {ch:List Addr} (I:Inv X kc σ H s)
  (E:∀b∈ch,(b∈X.ex\/X.s₀.heap.objs.size<=b)/\b≠X.env.locals/\(∀x c,X.env.cells.lookup x=some c->c≠b)/\∀p∈X.pn++kc,p.1≠b)
  (F:∀b o,b≠X.env.locals->b∉X.fs->b∉ch->s.heap.get? b=some o->H b=none->h'.get? b=some o)
  (O:∀b o,b≠X.env.locals->b∈X.fs->b∉ch->s.heap.get? b=some o->H b=none->∃sl,h'.get? b=some {o with slots:=sl}) (D:∀b o,b∉ch->s.heap.get? b=some o->H b=none->H' b=none)
  (S:∀b o,b∉ch->s.heap.get? b=some o->∃o',h'.get? b=some o')
  (ah:∀b xs,H b=some (.tup xs)->H' b=some (.tup xs)) (am:∀b o u,H b=some (.frz o u)->H' b=some (.frz o u)) (al:∀b ps,H b=some (.tbl ps)->∃an,H' b=some (.tbl (ps++an)))
  (ns:∀m,s.heap.Ns X.env.locals m->h'.Ns X.env.locals m) (aU:HOk X.prog X.w H' h') (hg:AllBare g') :
  Inv X kc σ H' {s with heap:=h',gens:=g',drawn:=d',toks:=t'}:=by
 have Z:∀b o,X.s₀.heap.get? b=some o->b≠X.env.locals:=fun b o e=>aS (aL (az e) I.ok.above)
 have L:∀b o,X.s₀.heap.get? b=some o->b∉X.ex->b∉ch:=fun b o e h V=>by
  rcases (E b V).1 with z|z
  ·exact h z
  ·exact absurd (aL (az e) z) (bq _)
 have G:∀x c,X.env.cells.lookup x=some c->∀v,s.heap.IsCell c v->h'.IsCell c v:=fun x c e v ⟨o,Y,hd⟩=>by
  have J:c∉ch:=fun z=>(E c z).2.2.1 x c e rfl
  by_cases hc:c∈X.fs
  ·obtain ⟨sl,q⟩:=O c o (I.cne x c e) hc J Y (I.freeC x c e);exact ⟨_,q,hd⟩
  ·exact ⟨o,F c o (I.cne x c e) hc J Y (I.freeC x c e),hd⟩
 refine ⟨I.ok,I.os,hg,⟨fun b o e n V h=>?_,fun b o e n V h=>?_,fun b o e n h=>?_,fun b o e h=>?_,fun b xs e=>ah b xs (I.base.tups b xs e),fun b o xs e=>am b o xs (I.base.frzs b o xs e),fun b ps e=>?_⟩,?_,fun x c e=>?_,?_,fun x c e=>?_,fun p hp=>?_,aU,I.len⟩
 ·exact F b o (Z b o e) V (L b o e h) (I.base.keep b o e n V h) (I.base.free b o e n h)
 ·obtain ⟨sl,M⟩:=I.base.slot b o e n V h;obtain ⟨aD,e2⟩:=O b _ (Z b o e) V (L b o e h) M (I.base.free b o e n h);exact ⟨aD,e2⟩
 ·obtain ⟨o',M⟩:=I.base.there b o e h;exact D b o' (L b o e h) M (I.base.free b o e n h)
 ·obtain ⟨o',M⟩:=I.base.there b o e h;exact S b o' (L b o e h) M
 ·obtain ⟨m1,M⟩:=I.base.tbls b ps e;obtain ⟨m2,e2⟩:=al b _ M;exact ⟨m1++m2,by rw [e2,Array.append_assoc]⟩
 ·obtain ⟨m,hn,hl⟩:=I.loc;refine ⟨m,ns m hn,fun i x v M e2 e3=>?_⟩;obtain ⟨u,r,l⟩:=hl i x v M e2 e3;refine ⟨u,r,?_⟩
  rcases l with l|⟨k,c,e,z⟩
  ·exact .inl l
  ·exact .inr ⟨k,c,e,G x c e _ z⟩
 ·obtain ⟨v,z⟩:=I.cell x c e;exact ⟨v,G x c e v z⟩
 ·obtain ⟨m,⟨o,_,_,Y,_⟩,_⟩:=I.loc;exact D _ o (fun z=>(E _ z).2.1 rfl) Y I.free
 ·obtain ⟨v,o,Y,hd⟩:=I.cell x c e;exact D c o (fun z=>(E c z).2.2.1 x c e rfl) Y (I.freeC x c e)
 ·obtain ⟨e,n,ne,nf,d⟩:=I.pin p hp;have J:p.1∉ch:=fun z=>(E p.1 z).2.2.2 p hp rfl
  exact ⟨F p.1 p.2 ne nf J e n,D p.1 p.2 J e n,ne,nf,d⟩
theorem Inv.un {t':Nat} (I:Inv X kc σ H s) (u:Un X.fs [] H H' s.heap h') (G:HOk X.prog X.w H' h'):Inv X kc σ H' {s with heap:=h',toks:=t'}:=by
  obtain ⟨m,⟨o,V,Y,J,r⟩,_⟩:=id I.loc;obtain ⟨sl,M⟩:=u.any J I.free (by simp);exact I.step (g':=s.gens) (d':=s.drawn) (ch:=[]) (fun _ z=>nomatch z) (fun b o _ F _ e n=>u.keep b o e n F (by simp)) (fun b o _ F _ e n=>u.slot b o e n F (by simp)) (fun b o _ e n=>u.free b o e n (by simp)) (fun b o _ e=>u.there b o e (by simp)) u.tups u.frzs u.tbls (fun S L=>by
    obtain ⟨Z,E,D,h,O⟩:=L;rw [J] at h;cases h
    exact ⟨_,E,D,M,O⟩) G I.bare
theorem Inv.call {g':Array GenState} {t':Nat} {d':Drawn} {ch:List Addr} (I:Inv X kc σ H s) (u:Un (qE X.stack) ch H H' s.heap h') (L:HOk X.prog X.w H' h') (S:AllBare g')
  (D:∀b∈ch,(b∈X.ex\/X.s₀.heap.objs.size<=b)/\b≠X.env.locals/\(∀x c,X.env.cells.lookup x=some c->c≠b)/\∀p∈X.pn++kc,p.1≠b) :
  Inv X kc σ H' {s with heap:=h',gens:=g',drawn:=d',toks:=t'}:=by
 obtain ⟨m,⟨o,es,ep,M,r⟩,_⟩:=id I.loc;obtain ⟨sl,J⟩:=u.any M I.free fun z=>(D _ z).2.1 rfl
 exact I.step (ch:=ch) D (fun b o J V h e n=>u.keep b o e n (fun z=>(aj.mp (I.stkSub b z)).elim J V) h) (fun b o _ _ h e n=>u.any e n h) (fun b o h e n=>u.free b o e n h) (fun b o h e=>u.there b o e h) u.tups u.frzs u.tbls (fun Z O=>by
  obtain ⟨o',G,F,E,Y⟩:=O;rw [M] at E;cases E
  exact ⟨_,G,F,J,Y⟩) L S
theorem Inv.turned {t':Nat} {it:Addr} (I:Inv X kc σ H s) (k:∀b o,b≠it->s.heap.get? b=some o->h'.get? b=some o) (L:H it=none) (E:it≠X.env.locals)
    (F:it∈X.ex\/X.s₀.heap.objs.size<=it) (S:∀x c,X.env.cells.lookup x=some c->c≠it) (M:∀p∈X.pn++kc,p.1≠it):Inv X kc σ H {s with heap:=h',toks:=t'}:=by
  have D:∀b u,H b=some u->b≠it:=fun b u e z=>by rw [z,L] at e;cases e
  refine I.step (g':=s.gens) (d':=s.drawn) (ch:=[it]) (fun b O=>?_) (fun b o _ _ h e _=>k b o (fun z=>h (by simp [z])) e) (fun b o _ _ h e _=>⟨o.slots,k b o (fun z=>h (by simp [z])) e⟩) (fun _ _ _ _ n=>n)
    (fun b o h e=>⟨o,k b o (fun z=>h (by simp [z])) e⟩) (fun _ _ e=>e) (fun _ _ _ e=>e) (fun b Z e=>⟨#[],by rw [e];simp⟩) (fun m J=>?_) (fun b u e=>?_) I.bare
  . have e:b=it:=by simpa using O
    subst e;exact ⟨F,E,S,M⟩
  . obtain ⟨o,G,V,Y,r⟩:=J
    exact ⟨o,G,V,k _ o (Ne.symm E) Y,r⟩
  . refine (I.hok b u e).stay (fun c v h q=>k c v ?_ q) (fun _ q=>q) fun _ _ q=>q
    rcases h with z|z
    . rw [z];exact D b u e
    . exact D c _ z
theorem Inv.tok (I:Inv X kc σ H s) (t:Nat):Inv X kc σ H {s with toks:=t}:=I.un (h':=s.heap) (t':=t) Un.refl I.hok
theorem Inv.kept {t':Nat} (I:Inv X kc σ H s) (k:∀b u,s.heap.get? b=some u->h'.get? b=some u):Inv X kc σ H {s with heap:=h',toks:=t'}:=I.un (Un.kept k) (I.hok.kept k)
theorem Inv.laid {a:Addr} {o:HO} {t':Nat} (I:Inv X kc σ H s) (k:∀b u,s.heap.get? b=some u->h'.get? b=some u) (h:s.heap.objs.size<=a) (D:ObjOk X.prog X.w (upd H a o) h' a o) :
  Inv X kc σ (upd H a o) {s with heap:=h',toks:=t'}:=I.un (Un.laid k h (I.hok.fresh h)) (I.hok.laid k h D)
theorem Inv.write {x e:Addr} {o:HO} {t':Nat} (I:Inv X kc σ H s) (E:lN (H x)) (he:e=x\/H e=some (.own x)) (k:∀b u,b≠e->s.heap.get? b=some u->h'.get? b=some u) (h:∃u,h'.get? e=some u)
  (D:ObjOk X.prog X.w (upd H x o) h' x o):Inv X kc σ (upd H x o) {s with heap:=h',toks:=t'}:=I.un (Un.write E he k h) (I.hok.write E he k h D)
theorem Inv.pins_of {pins':List (Addr×Obj)} (I:Inv X kc σ H s) (h:∀p∈pins',s.heap.get? p.1=some p.2/\H p.1=none/\p.1≠X.env.locals/\p.1∉X.fs/\∀v,p.2.data≠.cell v):Inv X pins' σ H s :=
 ⟨I.ok,I.os,I.bare,I.base,I.loc,I.cell,I.free,I.freeC,fun p D=>(aI.mp D).elim (fun z=>I.pin p (ir _ z)) (h p),I.hok,I.len⟩
theorem FX {N:List Str} (E:N.Nodup) {i j:Nat} {x:Str} (a:N[i]?=some x) (b:N[j]?=some x):i=j:=by
 obtain ⟨F,D⟩:=ad.mp a;obtain ⟨G,h⟩:=ad.mp b;exact (List.getElem_inj E).mp (D.trans h.symm)
theorem D9 {M:Model} {A:Around} {E:Value->Shared->Prop} {i:Nat} {x:Str} {v:V} {u:Value} {Q:Unit->Shared->Prop} (I:Inv X kc σ H s) (hN:X.N.Nodup) (hi:X.N[i]?=some x) (L:gL X.env.scope x) (r:RelV v u)
  (h:∀s',Inv X kc (σ.set i (some v)) H s'->(∃a,Heap.SameBut a s.heap s'.heap/\(a=X.env.locals\/X.env.cells.lookup x=some a))->Q () s') (hf:X.fn x=true\/X.env.scope.names.lookup x=some .local:=by first|exact .inl rfl|exact .inr rfl|assumption):wpAny M A (storeName X.env x u) Q E s:=by
 obtain ⟨m,hn,hl⟩:=id I.loc;have an:(X.env.scope.kind == .class||(X.env.scope.kind == .module&&X.env.locals != X.env.globals))=false:=by rw [I.ok.kind];rfl
 have Y:i<σ.length:=by rw [I.len];exact (ad.mp hi).1
 have al:=I.cne;have F:∀{a:Addr} {h':Heap},(∃o,s.heap.get? a=some o/\H a=none)->Heap.SameBut a s.heap h'->HOk X.prog X.w H h':=fun {a h'} ha D b ob e=>by
  obtain ⟨_,_,O⟩:=ha;refine (I.hok b ob e).stay (fun c w' J q=>(D.2 c ?_).trans q) (fun _ q=>q) fun _ _ q=>q
  rintro rfl
  rcases J with rfl|J
  ·rw [O] at e;cases e
  ·rw [O] at J;cases J
 rcases L with Z|Z
 ·refine wpAny_storeName_local Z hn (fun h' a3 D=>?_) an;obtain ⟨oL,_,_,a4,_⟩:=id hn;refine h _ ⟨I.ok,I.os,I.bare,⟨fun b o e n hb L=>?_,fun b o e n hb L=>?_,I.base.free,fun b o e L=>?_,I.base.tups,I.base.frzs,I.base.tbls⟩,⟨_,a3,fun j y v' G S e3=>?_⟩,fun y c e=>?_,I.free,I.freeC,fun p hp=>?_,F ⟨oL,a4,I.free⟩ D,by simpa using I.len⟩ ⟨_,D,.inl rfl⟩
  ·exact (D.2 b (aS (aL (az e) I.ok.above))).trans (I.base.keep b o e n hb L)
  ·obtain ⟨sl,G⟩:=I.base.slot b o e n hb L;exact ⟨sl,(D.2 b (aS (aL (az e) I.ok.above))).trans G⟩
  ·obtain ⟨o',G⟩:=I.base.there b o e L;exact ⟨o',(D.2 b (aS (aL (az e) I.ok.above))).trans G⟩
  ·by_cases hj:j=i
   ·subst hj;rw [hi] at G;cases G
    rw [ib Y] at S;cases S;exact ⟨u,r,.inl ⟨Z,by simp⟩⟩
   ·rw [iu (Ne.symm hj)] at S;obtain ⟨u',r',q⟩:=hl j y v' G S e3;refine ⟨u',r',?_⟩
    rcases q with ⟨k,e⟩|⟨k,c,e,z⟩
    ·refine .inl ⟨k,?_⟩;have:y≠x:=fun e=>hj (FX hN G (e▸hi))
     simp [this,e]
    ·exact .inr ⟨k,c,e,z.sameBut D (al y c e)⟩
  ·obtain ⟨w',z⟩:=I.cell y c e;exact ⟨w',z.sameBut D (al y c e)⟩
  ·obtain ⟨e,n,ne,nf,d⟩:=I.pin p hp;exact ⟨(D.2 p.1 ne).trans e,n,ne,nf,d⟩
 ·have ah:X.fn x=true:=by
   rcases hf with z|z
   ·exact z
   ·rw [z] at Z;cases Z
  obtain ⟨c,J⟩:=I.ok.has x (.inl Z);obtain ⟨w',z⟩:=I.cell x c J;refine wpAny_storeName_cell I.ok.kind Z J z (fun h' aU D=>?_);obtain ⟨oc,a0,aD⟩:=id z;refine h {s with heap:=h'} ⟨I.ok,I.os,I.bare,⟨fun b o e n hb L=>?_,fun b o e n hb L=>?_,I.base.free,fun b o e L=>?_,I.base.tups,I.base.frzs,I.base.tbls⟩,⟨m,hn.sameBut D (Ne.symm (al x c J)),fun j y v' G S e3=>?_⟩,fun y c' e=>?_,I.free,I.freeC,fun p hp=>?_,F ⟨oc,a0,I.freeC x c J⟩ D,by simpa using I.len⟩ ⟨c,D,.inr J⟩
  ·exact (D.2 b (aS (aL (az e) (I.ok.cab x c ah J)))).trans (I.base.keep b o e n hb L)
  ·obtain ⟨sl,G⟩:=I.base.slot b o e n hb L;exact ⟨sl,(D.2 b (aS (aL (az e) (I.ok.cab x c ah J)))).trans G⟩
  ·obtain ⟨o',G⟩:=I.base.there b o e L;exact ⟨o',(D.2 b (aS (aL (az e) (I.ok.cab x c ah J)))).trans G⟩
  ·by_cases hj:j=i
   ·subst hj;rw [hi] at G;cases G
    rw [ib Y] at S;cases S;exact ⟨u,r,.inr ⟨.inl Z,c,J,aU⟩⟩
   ·rw [iu (Ne.symm hj)] at S;obtain ⟨u',r',q⟩:=hl j y v' G S e3;refine ⟨u',r',?_⟩
    rcases q with q|⟨k,c',e,z'⟩
    ·exact .inl q
    ·refine .inr ⟨k,c',e,z'.sameBut D ?_⟩;rintro rfl;exact hj (FX hN G (I.ok.inj _ _ _ e J▸hi))
  ·by_cases am:c'=c
   ·subst am;exact ⟨_,aU⟩
   ·obtain ⟨w2,z2⟩:=I.cell y c' e;exact ⟨w2,z2.sameBut D am⟩
  ·obtain ⟨e,n,ne,nf,d⟩:=I.pin p hp;refine ⟨(D.2 p.1 ?_).trans e,n,ne,nf,d⟩;intro q;rw [q,a0] at e;have q':oc=p.2:=aA e;exact d w' (by rw [<- q'];exact aD)
theorem FB {M:Model} {A:Around} {E:Value->Shared->Prop} {i:Nat} {x:Str} {v:V} {u:Value} {Q:Unit->Shared->Prop} (I:Inv X kc σ H s) (J:X.N.Nodup) (hi:X.N[i]?=some x) (G:gL X.env.scope x) (r:RelV v u)
  (h:∀D,Inv X kc (σ.set i (some v)) H D->Q () D) (L:X.fn x=true\/X.env.scope.names.lookup x=some .local:=by first|exact .inl rfl|exact .inr rfl|assumption):wpAny M A (storeName X.env x u) Q E s :=
 D9 I J hi G r (fun D F _=>h D F) L
theorem Inv.call' {h:Shared} {ch:List Addr} (I:Inv X kc σ H s) (J:h.os=s.os) (u:Un (qE X.stack) ch H H' s.heap h.heap) (E:HOk X.prog X.w H' h.heap) (G:AllBare h.gens)
  (D:∀b∈ch,(b∈X.ex\/X.s₀.heap.objs.size<=b)/\b≠X.env.locals/\(∀x c,X.env.cells.lookup x=some c->c≠b)/\∀p∈X.pn++kc,p.1≠b):Inv X kc σ H' h:=by
 obtain ⟨h',g',d',t',F⟩:=h;have e:F=s.os:=J;subst e;exact I.call (g':=g') (t':=t') (d':=d') u E G D
end
abbrev XK:=Value->Option Addr->Hp->Prop
abbrev St:=List (Option V)
abbrev VK:=V->Hp->Prop
abbrev TE:=St->Hp->VK->Prop
abbrev TT:=St->Hp->(Bool->Hp->Prop)->Prop
abbrev TA:=St->Hp->(List V->Hp->Prop)->Prop
structure Ends where
 nx:St->Hp->Prop
 rt:VK
 bk:St->Hp->Prop:=fun _ _=>False
 ct:St->Hp->Prop:=fun _ _=>False
abbrev TS:=Ends->St->Hp->Prop
def EP (X:Cx) (F:List (Addr×Obj)) (E:St) (Q:VK) (u:Value) (D:Shared):Prop:=∃v h,Inv X F E h D/\RelV v u/\Q v h
def TP (X:Cx) (F:List (Addr×Obj)) (E:St) (Q:Bool->Hp->Prop) (b:Bool) (D:Shared):Prop:=∃h,Inv X F E h D/\Q b h
def AP (X:Cx) (G:List (Addr×Obj)) (F:St) (Q:List V->Hp->Prop) (us:List Value) (E:Shared):Prop:=∃D h,Inv X G F h E/\Vals D us/\Q D h
def SP (X:Cx) (G:List (Addr×Obj)) (D:Ends) (f:Flow) (F:Shared):Prop :=
 match f with
 |.next=>∃h E,Inv X G h E F/\D.nx h E
 |.brk=>∃h E,Inv X G h E F/\D.bk h E
 |.cont=>∃h E,Inv X G h E F/\D.ct h E
 |.ret u=>∃v h E,Inv X G h E F/\RelV v u/\D.rt v E
def PE (X:Cx) (e:Expr) (t:TE):Prop :=
 ∀(D:List (Addr×Obj)) (s:Shared) (h:St) (H:Hp) (Q:VK),Inv X D h H s->t h H Q->wpAny (model X.prog X.w) X.A (eval e X.env) (EP X D h Q) X.xe s
def PT (X:Cx) (e:Expr) (t:TT):Prop :=
 ∀(D:List (Addr×Obj)) (s:Shared) (h:St) (H:Hp) (Q:Bool->Hp->Prop),Inv X D h H s->t h H Q->wpAny (model X.prog X.w) X.A (isTrue e X.env (eval e X.env)) (TP X D h Q) X.xe s
def PW (X:Cx) (e:Expr) (t:TT):Prop :=
 ∀(h:Sem Value) (E:List (Addr×Obj)) (s:Shared) (D:St) (H:Hp) (Q:Bool->Hp->Prop),Inv X E D H s->t D H Q->wpAny (model X.prog X.w) X.A (isTrue e X.env h) (TP X E D Q) X.xe s
theorem PW.pt {X:Cx} {e:Expr} {t:TT} (h:PW X e t):PT X e t:=h _
def PA (X:Cx) (E:List Expr) (t:TA):Prop :=
 ∀(F:Pos) (D:List (Addr×Obj)) (s:Shared) (h:St) (H:Hp) (Q:List V->Hp->Prop),Inv X D h H s->t h H Q->wpAny (model X.prog X.w) X.A (spliced (backTo F (starEach E X.env))) (AP X D h Q) X.xe s
def PS (X:Cx) (st:Stmt) (t:TS):Prop :=
 ∀(E:List (Addr×Obj)) (s:Shared) (h:St) (H:Hp) (D:Ends),Inv X E h H s->t D h H->wpAny (model X.prog X.w) X.A (exec st X.env) (SP X E D) X.xe s
def PSs (X:Cx) (st:List Stmt) (t:TS):Prop :=
 ∀(E:List (Addr×Obj)) (s:Shared) (h:St) (H:Hp) (D:Ends),Inv X E h H s->t D h H->wpAny (model X.prog X.w) X.A (execs st X.env) (SP X E D) X.xe s
theorem jZ {D:Type} {t:Sem D} {Q F:D->Shared->Prop} {M:Model} {A:Around} {E:Value->Shared->Prop} {s:Shared} (h:wpAny M A t Q E s) (G:∀a s,Q a s->F a s):wpAny M A t F E s:=du h G fun _ _ x=>x
section
variable {X:Cx}
def BW (i:Nat):TE:=fun h H Q=>∃v,h[i]?=some (some v)/\Q v H
def tC (v:V):TE:=fun _ H Q=>Q v H
theorem Y5 {i:Nat} {x:Str} {kn:Pos} (hN:X.N[i]?=some x) (Y:lL X.env.scope x) (G:(x == ("__debug__":Str))=false:=by decide) (J:(x == ("__classdict__":Str))=false:=by decide):PE X (.Name x kn) (BW i):=by
 intro Z s M H Q I h;obtain ⟨v,e,h⟩:=h;obtain ⟨m,S,V⟩:=I.loc;obtain ⟨u,r,l⟩:=V i x v hN e Y;have F:EP X Z M Q u s:=⟨v,H,I,r,h⟩
 rcases l with ⟨E,O⟩|⟨E,c,L,D⟩
 ·exact wpAny_Name (wpAny_loadName_local I.ok.kind E S O F) G
 ·rcases E with E|E
  ·exact wpAny_Name (wpAny_loadName_cell I.ok.kind E L D F) G
  ·exact wpAny_Name (wpAny_loadName_free I.ok.kind E L D F J) G
theorem jD {i j D}:PE X (.Constant (.int i) j D) (tC (.int i)):=fun _ _ _ H _ I h=>wpAny_Constant_int ⟨.int i,H,I.tok _,⟨_,rfl⟩,h⟩
theorem vW {b j D}:PE X (.Constant (.bool b) j D) (tC (.bl b)):=fun _ _ _ H _ I h=>Constant_bool ⟨.bl b,H,I,rfl,h⟩
theorem Y6 {j D}:PE X (.Constant .none j D) (tC .non):=fun _ _ _ H _ I h=>Constant_none ⟨.non,H,I,rfl,h⟩
theorem jP {x j D}:PE X (.Constant (.str x) j D) (tC (.str x)):=fun _ _ _ H _ I h=>Calls.Constant_str ⟨.str x,H,I.tok _,⟨_,rfl⟩,h⟩
def Gl (X:Cx) (x:Str):Prop:=X.env.kindOf x=some .globalImplicit
theorem iL {E:Value->Shared->Prop} {J:List (Addr×Obj)} {s:Shared} {G:St} {H:Hp} {x:Str} {u:Value} {M:Pos} {Q:Value->Shared->Prop} (I:Inv X J G H s) (F:Gl X x) (L:X.mg x=some u) (h:Q u s)
  (D:(x == ("__debug__":Str))=false:=by decide):wpAny (model X.prog X.w) X.A (eval (.Name x M) X.env) Q E s :=
 Calls.Name_function_global I.ok.kind F (Calls.loadGlobal_global (by rw [I.ok.glob];exact I.mod.glob.keeps I.bk) L h) D
theorem dN {E:Value->Shared->Prop} {O:List (Addr×Obj)} {s:Shared} {L:St} {H:Hp} {x:Str} {u:Value} {Y:Pos} {Q:Value->Shared->Prop} (I:Inv X O L H s) (G:Gl X x) (S:X.mg x=none) (M:bootBuiltins x=some u) (h:Q u s)
  (V:x≠"__name__":=by decide) (D:(x == ("__debug__":Str))=false:=by decide):wpAny (model X.prog X.w) X.A (eval (.Name x Y) X.env) Q E s:=by
 obtain ⟨Z,J,F⟩:=I.mod.blt;exact Calls.Name_function_global I.ok.kind G (Calls.loadGlobal_builtin (by rw [I.ok.glob];exact I.mod.glob.keeps I.bk) S (by rw [I.ok.blt];exact J.keeps I.bk) ((F x V).trans M) h) D
theorem ZK {x:Str} {v:V} {u:Value} {G:Pos} (E:Gl X x) (F:X.mg x=some u) (r:RelV v u) (D:(x == ("__debug__":Str))=false:=by decide):PE X (.Name x G) (tC v) :=
 fun _ _ _ H _ I h=>iL I E F ⟨v,H,I,r,h⟩ D
theorem fT {x:Str} {v:V} {u:Value} {L:Pos} (F:Gl X x) (E:X.mg x=none) (G:bootBuiltins x=some u) (r:RelV v u) (J:x≠"__name__":=by decide) (D:(x == ("__debug__":Str))=false:=by decide):PE X (.Name x L) (tC v) :=
 fun _ _ _ H _ I h=>dN I F E G ⟨v,H,I,r,h⟩ J D
variable {a b:Expr} {ta tb:TE} {kn:Pos}
def PC (X:Cx) (G:CmpOp) (a b:Expr) (t:TE):Prop :=
 ∀(F:List (Addr×Obj)) (s:Shared) (E:St) (H:Hp) (Q:VK),Inv X F E H s->t E H Q->
  wpAny (model X.prog X.w) X.A (eval a X.env) (fun v h=>wpAny (model X.prog X.w) X.A (eval b X.env) (fun u D=>wpAny (model X.prog X.w) X.A (compareOp G v u) (EP X F E Q) X.xe D) X.xe h) X.xe s
theorem WB (b:Expr) {D:CmpOp} (h:D≠.In) (G:D≠.NotIn):behindInMarks D b=false:=by
 have F:(D == CmpOp.In)=false:=by cases D<;>first|rfl|exact absurd rfl h
 have E:(D == CmpOp.NotIn)=false:=by cases D<;>first|rfl|exact absurd rfl G
 cases b<;>simp [behindInMarks,F,E]
def tB (t:TE):TT:=fun h H Q=>t h H fun x D=>∃c,x=.bl c/\Q c D
theorem Y2 {E:CmpOp} {t:TE} (h:PC X E a b t) (D:behindInMarks E b=false:=by first|exact WB _ (by decide) (by decide)|rfl):PT X (.Compare a [E] [b] kn) (tB t):=by
 intro M s G H Q I F;refine wpAny_isTrue_Compare1 (jZ (h M s G H _ I F) fun v s1 D=>jZ D fun u Y S=>jZ S fun c Z ⟨x,J,L,O,V⟩=>?_) D;obtain ⟨d,rfl,q⟩:=V;cases O;exact ff ⟨J,L,q⟩
theorem vQ {e:Expr} {t:TE} (h:PE X e t) (he:∀D,isTrue e X.env D=(do let v <- D;standAt e.pos;holding [v] (truthy v)):=by intro _;rfl):PT X e (tB t):=by
 intro M s J H Q I F;refine isTrue_plain (jZ (h M s J H _ I F) fun v S ⟨x,L,O,G,E⟩=>?_) (he _);obtain ⟨d,rfl,q⟩:=E;cases G;exact ff ⟨L,O,q⟩
variable {tA tB':TT} {rest:List Expr}
def jCd (t u:TT):TT:=fun h H Q=>t h H fun c D=>if c=true then u h D Q else Q false D
def tOr (t u:TT):TT:=fun h H Q=>t h H fun c D=>if c=true then Q true D else u h D Q
def jBy (t:TT):TT:=fun h H Q=>t h H fun c D=>Q (!c) D
theorem iI (E:PT X a tA):PW X (.BoolOp .And [a] kn) tA:=by
 intro J D s F H Q I h;refine isTrue_and (jZ (E D s F H Q I h) fun c G e=>?_);cases c with
 |true=>exact isTrue_and_nil e
 |false=>exact e
theorem QM (E:PT X a tA):PW X (.BoolOp .Or [a] kn) tA:=by
 intro J D s F H Q I h;refine isTrue_or (jZ (E D s F H Q I h) fun c G e=>?_);cases c with
 |false=>exact isTrue_or_nil e
 |true=>exact e
theorem iR (M:PT X a tA) (S:PW X (.BoolOp .And (b::rest) kn) tB'):PW X (.BoolOp .And (a::b::rest) kn) (jCd tA tB'):=by
 intro O G s E H Q I h;refine isTrue_and (jZ (M G s E H _ I h) fun c L ⟨F,J,D⟩=>?_);cases c with
 |true=>exact S O G L E F Q J D
 |false=>exact ⟨F,J,D⟩
theorem y6 (M:PT X a tA) (S:PW X (.BoolOp .Or (b::rest) kn) tB'):PW X (.BoolOp .Or (a::b::rest) kn) (tOr tA tB'):=by
 intro O G s E H Q I h;refine isTrue_or (jZ (M G s E H _ I h) fun c L ⟨F,J,D⟩=>?_);cases c with
 |true=>exact ⟨F,J,D⟩
 |false=>exact S O G L E F Q J D
theorem J8 (D:PT X a tA):PT X (.UnaryOp .Not a kn) (jBy tA):=by
 intro G s E H Q I h;exact isTrue_not (D G s E H (fun c F=>Q (!c) F) I h)
def jAy (ta tb:TE):TE:=fun h H Q=>ta h H fun x D=>∃c,x=.bl c/\if c=true then tb h D Q else Q (.bl false) D
def jAs (ta:TE):TE:=fun h H Q=>ta h H fun x D=>∃c,x=.bl c/\Q (.bl (!c)) D
theorem bV {G} {t:TE} (h:PE X a t):PE X (.BoolOp G [a] kn) t:=fun F s E H Q I D=>BoolOp_one (h F s E H Q I D)
theorem ZN (M:PE X a ta) (O:PE X (.BoolOp .And (b::rest) kn) tb):PE X (.BoolOp .And (a::b::rest) kn) (jAy ta tb):=by
 intro E s F H Q I h;refine BoolOp_and (jZ (M E s F H _ I h) fun v L ⟨x,G,J,S,D⟩=>?_);obtain ⟨c,rfl,D⟩:=D;cases S;refine ff ?_;cases c with
 |true=>exact O E L F G Q J D
 |false=>exact ⟨.bl false,G,J,rfl,D⟩
theorem o7 (F:PE X a ta):PE X (.UnaryOp .Not a kn) (jAs ta):=by
 intro E s G H Q I h;refine UnaryOp_ (jZ (F E s G H _ I h) fun v O ⟨x,J,M,L,D⟩=>?_);obtain ⟨c,rfl,D⟩:=D;cases L;exact not_of (ff ⟨.bl (!c),J,M,rfl,D⟩)
def tIf (t:TT) (ta tb:TE):TE:=fun h H Q=>t h H fun c D=>if c=true then ta h D Q else tb h D Q
theorem JR {c:Expr} (M:PT X c tA) (O:PE X a ta) (S:PE X b tb):PE X (.IfExp c a b kn) (tIf tA ta tb):=by
 intro E s D H Q I h;refine wpAny_IfExp (jZ (M E s D H _ I h) fun d G ⟨J,L,F⟩=>?_);cases d with
 |true=>exact O E G D J Q L F
 |false=>exact S E G D J Q L F
end
def SqL (K:PySem.W.Frag) (H:Hp) (a:Addr) (xs:List V):Prop :=
 Rd H a (.lst xs)\/
  ∃(o:Obj) (h:Array Value) (n:Nat),K.lookup a=some o/\o.cls=.type "list"/\o.dict=none/\o.data=.seq h n/\h.size<=sizeLine/\Vals xs h.toList
def SqT (K:PySem.W.Frag) (H:Hp) (a:Addr) (xs:List V):Prop :=
 Rd H a (.tup xs)\/
  ∃(o:Obj) (h:Array Value) (n:Nat),K.lookup a=some o/\o.cls=.type "tuple"/\o.data=.seq h n/\h.size<=sizeLine/\Vals xs h.toList
def jCu:Value->Option V
 |.none=>some .non
 |.bool b=>some (.bl b)
 |.int i _=>some (.int i)
 |.str x _=>some (.str x)
 |.bytes b _=>some (.byt b)
 |.float b _=>some (.flt b)
 |.ref a=>some (.ref a)
 |.type n=>some (.ty n)
 |_=>none
variable {u:Value}
theorem RelV.abs {x:V} (r:RelV x u):jCu u=some x:=by
 cases x with
 |non=>cases r;rfl
 |bl _=>cases r;rfl
 |int _=>obtain ⟨t,rfl⟩:=r;rfl
 |str _=>obtain ⟨t,rfl⟩:=r;rfl
 |byt _=>obtain ⟨t,rfl⟩:=r;rfl
 |flt _=>obtain ⟨t,rfl⟩:=r;rfl
 |ref _=>cases r;rfl
 |ty _=>cases r;rfl
theorem RelV.inj {x y:V} (r:RelV x u) (q:RelV y u):x=y:=aA (r.abs.symm.trans q.abs)
theorem Vals.inj:∀{xs ys:List V} {us:List Value},Vals xs us->Vals ys us->xs=ys
 |_,_,_,.nil,.nil=>rfl
 |_,_,_,.cons r t,.cons h t'=>by rw [r.inj h,Vals.inj t t']
section
variable {X:Cx} {kc:List (Addr×Obj)} {σ:St} {H:Hp} {s:Shared} {a:Addr} {xs ys:List V}
theorem SqL.of {K:PySem.W.Frag} (h:H a=some (.lst xs)):SqL K H a xs:=.inl (.inl h)
theorem SqT.of {K:PySem.W.Frag} (h:H a=some (.tup xs)):SqT K H a xs:=.inl (.inl h)
theorem Inv.list (I:Inv X kc σ H s) (h:SqL X.K H a xs):∃its:List Value,Vals xs its/\PlainL s.heap a its.toArray/\xs.length<=sizeLine:=by
 rcases h with h|⟨o,its,n,F,E,D,G,J,r⟩
 ·obtain ⟨z,its,n,r,e⟩:=h.ok I.hok;exact ⟨its,r,⟨_,n,e,rfl,rfl,rfl⟩,z⟩
 ·refine ⟨its.toList,r,⟨o,n,I.kIn a o F,E,D,by simpa using G⟩,?_⟩;have e:=r.length;simp only [gx] at e
  lia
theorem Inv.tuple (I:Inv X kc σ H s) (h:SqT X.K H a xs):∃its:List Value,Vals xs its/\IsTup s.heap a its.toArray/\xs.length<=sizeLine:=by
 rcases h with h|⟨o,its,n,E,D,F,G,r⟩
 ·obtain ⟨z,its,r,p⟩:=h.ok I.hok;exact ⟨its,r,p,z⟩
 ·refine ⟨its.toList,r,⟨o,I.kIn a o E,D,n,by simpa using F⟩,?_⟩;have e:=r.length;simp only [gx] at e
  lia
theorem Inv.list_inj (I:Inv X kc σ H s) (h:SqL X.K H a xs) (h':SqL X.K H a ys):xs=ys:=by
 obtain ⟨D,r,⟨o,n,e,_,_,d⟩,_⟩:=I.list h;obtain ⟨its',G,⟨J,L,F,_,_,E⟩,_⟩:=I.list h';rw [e] at F;cases F
 rw [d] at E;injection E with d1 _
 have:D=its':=by simpa using bf Array.toList d1
 subst this;exact r.inj G
theorem Inv.tuple_inj (I:Inv X kc σ H s) (h:SqT X.K H a xs) (h':SqT X.K H a ys):xs=ys:=by
 obtain ⟨D,r,⟨o,e,_,n,d⟩,_⟩:=I.tuple h;obtain ⟨its',G,⟨J,F,_,L,E⟩,_⟩:=I.tuple h';rw [e] at F;cases F
 rw [d] at E;injection E with d1 _
 have:D=its':=by simpa using bf Array.toList d1
 subst this;exact r.inj G
end
abbrev Cx.wish (X:Cx) (E:Value->Shared->Prop):Cx:={X with xe:=E}
abbrev Cx.nox (X:Cx):Cx:=X.wish fun _ _=>False
variable {X:Cx}
theorem Cx.Ok.wish (h:X.Ok) (E:Value->Shared->Prop):(X.wish E).Ok :=
 ⟨h.mod,h.kind,h.glob,h.blt,h.above,h.inj,h.has,h.cab,h.hd,h.frames,h.stk,h.exf,h.bs,h.bsz,h.noex,h.exfs,h.funs,h.frf⟩
theorem Cx.Ok.unwish {E:Value->Shared->Prop} (h:(X.wish E).Ok):X.Ok :=
 ⟨h.mod,h.kind,h.glob,h.blt,h.above,h.inj,h.has,h.cab,h.hd,h.frames,h.stk,h.exf,h.bs,h.bsz,h.noex,h.exfs,h.funs,h.frf⟩
section
variable {X:Cx} {kc:List (Addr×Obj)} {σ:St} {H:Hp} {s:Shared} {E:Value->Shared->Prop}
theorem Inv.wish (I:Inv X kc σ H s) (E:Value->Shared->Prop):Inv (X.wish E) kc σ H s:=⟨I.ok.wish E,I.os,I.bare,I.base,I.loc,I.cell,I.free,I.freeC,I.pin,I.hok,I.len⟩
theorem Inv.unwish (I:Inv (X.wish E) kc σ H s):Inv X kc σ H s:=⟨I.ok.unwish,I.os,I.bare,I.base,I.loc,I.cell,I.free,I.freeC,I.pin,I.hok,I.len⟩
theorem SP.unwish {D:Ends} {f:Flow} {J:Shared} (h:SP (X.wish E) kc D f J):SP X kc D f J:=by
 cases f with
 |next=>obtain ⟨F,G,I,q⟩:=h;exact ⟨F,G,I.unwish,q⟩
 |brk=>obtain ⟨F,G,I,q⟩:=h;exact ⟨F,G,I.unwish,q⟩
 |cont=>obtain ⟨F,G,I,q⟩:=h;exact ⟨F,G,I.unwish,q⟩
 |ret u=>obtain ⟨v,F,G,I,r,q⟩:=h;exact ⟨v,F,G,I.unwish,r,q⟩
theorem PE.nox {e:Expr} {t:TE} (h:PE X.nox e t):PE X e t:=fun kc s σ H Q I D =>
 du (h kc s σ H Q (I.wish _) D) (fun _ _ ⟨v,G,F,r,q⟩=>⟨v,G,F.unwish,r,q⟩) fun _ _ z=>False.elim z
theorem PSs.nox {st:List Stmt} {t:TS} (h:PSs X.nox st t):PSs X st t:=fun kc s σ H D I F =>
 du (h kc s σ H D (I.wish _) F) (fun _ _ q=>q.unwish) fun _ _ z=>False.elim z
end
section
variable {X:Cx} {st:Stmt} {rest:List Stmt} {t u:TS} {e:Expr} {te:TE} {kn:Pos}
def jAt:TS:=fun D h H=>D.nx h H
def jBx (t u:TS):TS:=fun D h H=>t {D with nx:=u D} h H
theorem kI:PSs X [] jAt:=fun _ _ D H _ I h=>wpAny_execs_nil ⟨D,H,I,h⟩
theorem jI (M:PS X st t) (S:PSs X rest u):PSs X (st::rest) (jBx t u):=by
 intro F s O H D I h;refine wpAny_execs_cons (jZ (M F s O H {D with nx:=u D} I h) fun f J q=>?_);cases f with
 |next =>
  obtain ⟨E,G,L,q⟩:=q;exact S F J E G D L q
 |ret v=>exact q
 |brk=>exact q
 |cont=>exact q
theorem kU (E:PS X st t):PSs X [st] t:=by
 intro G s F H D I h;refine wpAny_execs_cons (jZ (E G s F H D I h) fun f J q=>?_);cases f with
 |next=>exact wpAny_execs_nil q
 |ret v=>exact q
 |brk=>exact q
 |cont=>exact q
theorem Inv.quiet {D:List (Addr×Obj)} {h:St} {H:Hp} {s:Shared} (I:Inv X D h H s):interactive X.env=false:=by simp [interactive,I.ok.kind]
def jAu (te:TE):TS:=fun D h H=>te h H fun _ E=>D.nx h E
theorem yH (he:PE X e te) (J:swapsWith e none kn.line X.env=pure false:=by rfl):PS X (.Expr e kn) (jAu te):=by
 intro G s E H D I h;exact wpAny_Expr_any (jZ (he G s E H _ I h) fun v O ⟨x,L,M,S,F⟩=>⟨E,L,M,F⟩) I.quiet J
def K3 (te:TE):TS:=fun D h H=>te h H D.rt
theorem LR (he:PE X e te):PS X (.Return (some e) kn) (K3 te):=by
 intro G s E H D I h;exact wpAny_Return_some (jZ (he G s E H _ I h) fun v O ⟨x,J,M,L,F⟩=>⟨x,E,J,M,L,F⟩)
def jCa (c:TT) (t u:TS):TS:=fun D h H=>c h H fun b E=>if b=true then t D h E else u D h E
theorem kE {c:Expr} {a b:List Stmt} {L:TT} (S:PT X c L) (V:PSs X a t) (Y:PSs X b u):PS X (.If c a b kn) (jCa L t u):=by
 intro F s E H D I h;refine wpAny_If (jZ (S F s E H _ I h) fun d J ⟨M,O,G⟩=>?_);cases d with
 |true=>exact V F J E M D O G
 |false=>exact Y F J E M D O G
end
abbrev TG:=V->St->Hp->(St->Hp->Prop)->Prop
abbrev cQ:=List V->St->Hp->(St->Hp->Prop)->Prop
def PG (X:Cx) (h:Expr) (t:TG):Prop :=
 ∀(G:List (Addr×Obj)) (s:Shared) (F:St) (H:Hp) (v:V) (u:Value) (Q:St->Hp->Prop),Inv X G F H s->RelV v u->t v F H Q->
  wpAny (model X.prog X.w) X.A (assign h X.env u) (fun _ I=>∃D E,Inv X G D E I/\Q D E) X.xe s
def lM (X:Cx) (J:List Expr) (t:cQ):Prop :=
 ∀(F:List (Addr×Obj)) (s:Shared) (E:St) (H:Hp) (G:List V) (I:List Value) (Q:St->Hp->Prop),Inv X F E H s->Vals G I->t G E H Q->
  wpAny (model X.prog X.w) X.A (assignInOrder ((assignEach J X.env).map (·.2)) I) (fun _ L=>∃h D,Inv X F h D L/\Q h D) X.xe s
abbrev lI:=V->V->V->Hp->(Hp->Prop)->Prop
def B6 (X:Cx) (t:lI):Prop :=
 ∀(F:List (Addr×Obj)) (s:Shared) (D:St) (H:Hp) (o i v:V) (E G u:Value) (Q:Hp->Prop),Inv X F D H s->RelV o E->RelV i G->RelV v u->t o i v H Q->
  wpAny (model X.prog X.w) X.A (setItem E G u) (fun _ I=>∃h,Inv X F D h I/\Q h) X.xe s
abbrev rN:=V->V->Hp->VK->Prop
def CK (X:Cx) (E:Operator) (t:rN):Prop :=
 ∀(D:List (Addr×Obj)) (s:Shared) (h:St) (H:Hp) (x y:V) (v u:Value) (Q:VK),Inv X D h H s->RelV x v->RelV y u->t x y H Q->
  wpAny (model X.prog X.w) X.A (inplaceOp E v u) (EP X D h Q) X.xe s
section
variable {X:Cx} {kn:Pos}
def bD (i:Nat):TG:=fun v h H Q=>Q (h.set i (some v)) H
theorem kT {i:Nat} {x:Str} (E:X.N.Nodup) (hi:X.N[i]?=some x) (F:gL X.env.scope x) (G:X.fn x=true\/X.env.scope.names.lookup x=some .local:=by first|exact .inl rfl|exact .inr rfl|assumption):PG X (.Name x kn) (bD i):=by
 intro M s L H v u Q I r h;exact wpAny_assign_Name (FB I E hi F r (fun J D=>⟨_,H,D,h⟩) G)
def jCq:cQ:=fun h D H Q=>h=[]/\Q D H
def jBr (t:TG) (u:cQ):cQ:=fun F E H Q=>∃v r,F=v::r/\t v E H fun h D=>u r h D Q
theorem JH:lM X [] jCq:=by
 intro E s D H F G Q I r h;obtain ⟨e,h⟩:=h;subst e;cases r;exact assignInOrder_nil ⟨D,H,I,h⟩
theorem qZ {e:Expr} {D:List Expr} {t:TG} {u:cQ} (G:PG X e t) (S:lM X D u)
  (Z:(assignEach (e::D) X.env).map (·.2)=assign e X.env::(assignEach D X.env).map (·.2):=by rfl):lM X (e::D) (jBr t u):=by
 intro F s L H vs us Q I r h;obtain ⟨v,vr,e1,h⟩:=h;subst e1;cases r with
 |cons r V =>
  rw [Z];refine assignInOrder_cons (jZ (G F s L H _ _ _ I r h) fun _ J ⟨E,M,O,Y⟩=>?_);exact S F J E M _ _ Q O V Y
def LD (K:PySem.W.Frag) (n:Nat) (t:cQ):TG:=fun v D H Q=>∃a h,v=.ref a/\SqT K H a h/\h.length=n/\t h D H Q
theorem o6 {D:List Expr} {k:Nat} {t:cQ} {n:Nat} (Z:X.calm=true) (h:lM X D t)
  (V:(assignEach D X.env).length=n:=by rfl) (F:(assignEach D X.env).findIdx? (·.1)=none:=by rfl):PG X (.Tuple D k kn) (LD X.K n t):=by
 intro L s G H v u Q I r E;obtain ⟨a,xs,e1,hq,Y,E⟩:=E;subst e1;cases r;obtain ⟨ah,J,O,hz⟩:=I.tuple hq;refine assign_Tuple_tuple (I.ok.hd Z) O (by simp [V,<- Y,J.length]) F fun h' M=>?_
 have S:Inv X L G H {s with heap:=h'}:=I.kept (t':=s.toks) fun b o e=>M b o (aS (az e)) e
 exact h L _ G H xs _ Q S (by simpa using J) E
def jCp (to D:TE) (t:lI):TG:=fun v h H Q=>to h H fun o E=>D h E fun i F=>t o i v F fun G=>Q h G
theorem BD {o i:Expr} {to J:TE} {t:lI} (ho:PE X o to) (hi:PE X i J) (hs:B6 X t)
  (M:∀v,assign (.Subscript o i kn) X.env v=(do
   let D <- holding [v] (eval o X.env)
   let E <- holding [v,D] (eval i X.env)
   standAt kn
   holding [v,D,E] (setItem D E v)
   release [v,D,E] []):=by intro _;rfl):PG X (.Subscript o i kn) (jCp to J t):=by
 intro G s F H v u Q I r h;rw [M];refine ai (wpAny_holding (jZ (ho G s F H _ I h) fun D S ⟨x,Y,Z,r1,q1⟩=>?_));refine ai (wpAny_holding (jZ (hi G S F Y _ Z q1) fun E L ⟨y,H2,I2,O,V⟩=>?_));refine ai (wpAny_standAt (ai (wpAny_holding (jZ (hs G L F H2 x y v D E u _ I2 r1 O r V) fun _ s3 ⟨H3,I3,q3⟩=>?_))));exact wpAny_release ⟨F,H3,I3,q3⟩
def BX (E:TE) (g:TG):TS:=fun D h H=>E h H fun x F=>g x h F D.nx
theorem BB {E e:Expr} {J:TE} {g:TG} (he:PE X e J) (Y:PG X E g) (hs:swapsWithSole [E] e kn.line X.env=pure false:=by rfl) (M:swappedStores [E] e X.env=pure none:=by rfl)
  (L:(assignEach [E] X.env).map (·.2)=[assign E X.env]:=by rfl):PS X (.Assign [E] e kn) (BX J g):=by
 intro G s F H D I h;refine wpAny_Assign_stores (jZ (he G s F H _ I h) fun v O ⟨x,S,V,Z,q1⟩=>?_) hs M;rw [L];exact jZ (Y G O F S x v _ V Z q1) fun _ s2 q=>q
theorem LS {i:Nat} {x:Str} {e:Expr} {F:TE} {E:Pos} (hN:X.N.Nodup) (hi:X.N[i]?=some x) (G:gL X.env.scope x) (he:PE X e F) (Z:swapsWith e (some (.Name x E)) kn.line X.env=pure false:=by rfl) (V:X.fn x=true\/X.env.scope.names.lookup x=some .local:=by first|exact .inl rfl|exact .inr rfl|assumption) :
  PS X (.Assign [.Name x E] e kn) (BX F (bD i)):=by
 intro O s J H D I h;refine wpAny_Assign_Name (jZ (he O s J H _ I h) fun v s1 ⟨y,L,M,S,Y⟩=>?_) Z;exact FB M hN hi G S (fun s2 I2=>⟨_,L,I2,Y⟩) V
def jAx (to M O:TE) (E:V->V->Hp->VK->Prop) (G:rN) (h:lI):TS:=fun D F H=>to F H fun o J=>M F J fun i S=>E o i S fun x Z=>O F Z fun y Y=>G x y Y fun z I=>h o i z I fun L=>D.nx F L
def LF (X:Cx) (t:V->V->Hp->VK->Prop):Prop :=
 ∀(E:List (Addr×Obj)) (s:Shared) (h:St) (H:Hp) (o i:V) (D F:Value) (Q:VK),Inv X E h H s->RelV o D->RelV i F->t o i H Q->
  wpAny (model X.prog X.w) X.A (getItem D F) (EP X E h Q) X.xe s
theorem AQ {o i e:Expr} {to ti te:TE} {G:V->V->Hp->VK->Prop} {S:rN} {F:lI} {op:Operator} {kg:Pos} (ho:PE X o to) (hi:PE X i ti) (hg:LF X G) (he:PE X e te) (hp:CK X op S) (hs:B6 X F)
  (ha:∀J M E,augStore i J M E=(do holding [E,J,M] (setItem J M E);release [E,J,M] [];pure .next):=by intros;rfl):PS X (.AugAssign (.Subscript o i kg) op e kn) (jAx to ti te G S F):=by
 intro O s L H D I h;refine wpAny_AugAssign_SubscriptAny (jZ (ho O s L H _ I h) fun J s1 ⟨x1,H1,I1,r1,q1⟩=>?_) ha;refine jZ (hi O s1 L H1 _ I1 q1) fun M s2 ⟨x2,H2,I2,Z,q2⟩=>?_
 refine jZ (hg O s2 L H2 x1 x2 J M _ I2 r1 Z q2) fun Y s3 ⟨x3,H3,I3,r3,q3⟩=>?_
 refine jZ (he O s3 L H3 _ I3 q3) fun v s4 ⟨x4,H4,I4,r4,q4⟩=>?_
 refine jZ (hp O s4 L H4 x3 x4 Y v _ I4 r3 r4 q4) fun E s5 ⟨x5,H5,I5,r5,q5⟩=>?_
 exact jZ (hs O s5 L H5 x1 x2 x5 J M E _ I5 r1 Z r5 q5) fun _ s6 ⟨H6,I6,q6⟩=>⟨L,H6,I6,q6⟩
def LK (f:Int->Int->Int):rN:=fun x y H Q=>∃i j,x=.int i/\y=.int j/\Q (.int (f i j)) H
theorem KA:CK X .Add (LK fun i j=>i+j):=by
 intro M s J H x y v u Q I E G h;obtain ⟨i,j,F,D,q⟩:=h;subst F;subst D
 obtain ⟨t,rfl⟩:=E;obtain ⟨L,rfl⟩:=G;exact iadd_int ⟨.int _,H,I.tok _,⟨_,rfl⟩,q⟩
theorem jAi:CK X .Sub (LK fun i j=>i - j):=by
 intro M s J H x y v u Q I E G h;obtain ⟨i,j,F,D,q⟩:=h;subst F;subst D
 obtain ⟨t,rfl⟩:=E;obtain ⟨L,rfl⟩:=G;exact isub_int ⟨.int _,H,I.tok _,⟨_,rfl⟩,q⟩
end
structure It where
 go:Nat->Hp->Prop
 yld:Nat->Hp->V->Hp->Prop
 stop:Nat->Hp->Prop
def QE (X:Cx) (h:List (Addr×Obj)) (H:Hp) (b:Addr):Prop :=
 H b=none/\b≠X.env.locals/\b∉X.fs/\(b∈X.ex\/X.s₀.heap.objs.size<=b)/\(∀x c,X.env.cells.lookup x=some c->c≠b)/\∀p∈X.pn++h,p.1≠b
theorem Inv.fpOk {E:List (Addr×Obj)} {G:St} {H D:Hp} {s:Shared} {b:Addr} (I:Inv X E G H s) (h:s.heap.objs.size<=b) (J:D b=none):QE X E D b:=by
 refine ⟨J,ge (aL I.lt h),I.nofs h,.inr (aM I.sz h),fun x c e z=>?_,fun p F z=>?_⟩
 ·obtain ⟨v,q⟩:=I.cell x c e;exact absurd (aL q.lt (by rw [z];exact h)) (bq _)
 ·exact absurd (aL (az (I.pin p F).1) (by rw [z];exact h)) (bq _)
structure Turn (P:Program) (w:World) (K:PySem.W.Frag) (tg:Expr) (J:It) (fp:List Addr) (it:Addr) (tn:Nat->Heap->Prop):Prop where
 mem:it∈fp
 obj:∀i h,tn i h->∀b∈fp,∃o,h.get? b=some o/\∀v,o.data≠.cell v
 keep:∀i h h',tn i h->(∀b∈fp,∀o,h.get? b=some o->h'.get? b=some o)->tn i h'
 item:∀(X:Cx),X.prog=P->X.w=w->X.K=K->X.calm=true->∀(i:Nat) (kc:List (Addr×Obj)) (s:Shared) (σ:St) (H:Hp) (E:Value->Shared->Prop),Inv X kc σ H s->(∀b∈fp,QE X kc H b)->tn i s.heap->J.go i H->
  wpAny (model P w) X.A (pyNext (.ref it)) (fun r s1=>∃u,r=some u/\
   wpAny (model P w) X.A (letOwnedTupleGo tg (.ref it) u) (fun _ s2=>∃x H',Inv X kc σ H' s2/\RelV x u/\J.yld i H x H'/\tn (i+1) s2.heap/\∀b∈fp,H' b=none) E s1) E s
 done:∀(X:Cx),X.prog=P->X.w=w->X.K=K->X.calm=true->∀(i:Nat) (kc:List (Addr×Obj)) (s:Shared) (σ:St) (H:Hp) (E:Value->Shared->Prop),Inv X kc σ H s->(∀b∈fp,QE X kc H b)->tn i s.heap->J.stop i H->
  wpAny (model P w) X.A (pyNext (.ref it)) (fun r s1=>r=none/\Inv X kc σ H s1) E s
 self:∀(A:Around) (i:Nat) (s:Shared) (Q:Value->Shared->Prop) (E:Value->Shared->Prop),tn i s.heap->Q (.ref it) s->wpAny (model P w) A (pyIter (.ref it)) Q E s
abbrev TI:=St->Hp->(It->Hp->Prop)->Prop
def CL (X:Cx) (I:List (Addr×Obj)) (O:St) (M:Expr) (R:It->Hp->Prop) (D:Value) (E:Shared):Prop :=
 ∃(L:Addr) (F:List Addr) (G:Nat->Heap->Prop) (J:It) (h:Hp),D=.ref L/\Inv X I O h E/\Turn X.prog X.w X.K M J F L G/\G 0 E.heap/\(∀b∈F,QE X I h b)/\R J h
def PI (X:Cx) (F I:Expr) (G:TI):Prop :=
 ∀(D:List (Addr×Obj)) (s:Shared) (h:St) (H:Hp) (R:It->Hp->Prop),Inv X D h H s->G h H R->
  wpAny (model X.prog X.w) X.A (eval I X.env) (fun v E=>wpAny (model X.prog X.w) X.A (pyIter v) (CL X D h F R) X.xe E) X.xe s
variable {tg:Expr}
theorem pO {M:Model} {A:Around} {E:Value->Shared->Prop} {s:Shared} {it:Addr} {o:Obj} {n:String} {vs:Array Value} {Q:Unit->Shared->Prop} (I:s.heap.get? it=some o) (G:o.cls=.type n) (F:o.data=.fields vs)
    (J:["enumerate","zip","dict_itemiterator","dict_reverseitemiterator","odict_iterator","itertools.zip_longest","itertools.pairwise"].contains n=false) (D:Q () s):wpAny M A (letOwnedTupleGo tg (.ref it) u) Q E s:=by
  unfold letOwnedTupleGo;cases tg<;>first
    |exact aX D
    | (cases u<;>first
        |exact aX D
        | (refine ai (wpAny_load I ?_)
           rw [G,F];show wpAny M A (if (["enumerate","zip","dict_itemiterator","dict_reverseitemiterator","odict_iterator","itertools.zip_longest","itertools.pairwise"].contains n&&vs[0]? == some (rawInt _))=true then _ else _) Q E s;rw [if_neg (by intro h;rw [J,Bool.false_and] at h;cases h)];exact aX D))
def eP (K:PySem.W.Frag) (a:Addr):It :=
 ⟨fun i H=>∃h x,SqL K H a h/\h[i]?=some x,fun i H x D=>D=H/\∀h,SqL K H a h->h[i]?=some x,fun i H=>∃h,SqL K H a h/\h.length<=i⟩
def eO (K:PySem.W.Frag) (a:Addr):It :=
 ⟨fun i H=>∃h x,SqT K H a h/\h[i]?=some x,fun i H x D=>D=H/\∀h,SqT K H a h->h[i]?=some x,fun i H=>∃h,SqT K H a h/\h.length<=i⟩
def cS (lo:Int) (n:Nat):It:=⟨fun i _=>i<n,fun i H x h=>h=H/\x=.int (lo+i),fun i _=>n<=i⟩
variable {P:Program} {w:World} {K:PySem.W.Frag}
theorem T4 (a it:Addr):Turn P w K tg (eP K a) [it] it (fun i h=>h.IsListIter it a i) where
 mem:=by simp
 obj:=fun i h D b F=>by
  have e:b=it:=by simpa using F
  subst e;obtain ⟨o,e,c,d⟩:=D;exact ⟨o,e,fun v z=>by rw [d] at z;cases z⟩
 keep:=fun i h J D k=>D.at fun o e=>k it (by simp) o e
 item:=by
  intro X hP V O hc i kc s σ H E I L D hg;subst hP V O;obtain ⟨xs,x,M,S⟩:=hg;obtain ⟨Z,rv,p,hz⟩:=I.list M;obtain ⟨u,hu,ru⟩:=rv.get S;obtain ⟨f0,f1,f2,f3,f4,Y⟩:=L it (by simp);refine wpAny_pyNext_list_item D p.isList (x:=u) (by simpa using hu) fun J G sb=>?_
  have I1:Inv X kc σ H {s with heap:=J}:=I.turned (t':=s.toks) (fun b o F e=>(sb.2 b F).trans e) f0 f1 f3 f4 Y;obtain ⟨o,e,c,d⟩:=id G;exact ⟨u,rfl,pO (s:={s with heap:=J}) e c d (by decide) ⟨x,H,I1,ru,⟨rfl,fun ys hy=>by rw [I.list_inj hy M];exact S⟩,G,fun b F=>(L b F).1⟩⟩
 done:=by
  intro X hP V O hc i kc s σ H E I L D hg;subst hP V O;obtain ⟨xs,M,S⟩:=hg;obtain ⟨Z,rv,p,hz⟩:=I.list M;obtain ⟨f0,f1,f2,f3,f4,Y⟩:=L it (by simp);have hl:=rv.length;exact wpAny_pyNext_list_end (I.ok.hd hc) D p.isList (by simp;lia) fun J eb=>⟨rfl,I.turned (t':=s.toks) (fun b o F e=>eb b o F e) f0 f1 f3 f4 Y⟩
 self:=fun _ _ _ _ _ D h=>wpAny_pyIter_listiter D h
theorem SY (a it:Addr):Turn P w K tg (eO K a) [it] it (fun i h=>h.IsTupleIter it a i) where
 mem:=by simp
 obj:=fun i h D b G=>by
  have e:b=it:=by simpa using G
  subst e;obtain ⟨o,e,c,d⟩:=D;exact ⟨o,e,fun v z=>by rw [d] at z;cases z⟩
 keep:=fun i h L D k=>D.at fun o e=>k it (by simp) o e
 item:=by
  intro X hP Y S hc i kc s σ H E I M D hg;subst hP Y S;obtain ⟨xs,x,O,V⟩:=hg;obtain ⟨F,rv,p,hz⟩:=I.tuple O;obtain ⟨u,hu,ru⟩:=rv.get V;obtain ⟨f0,f1,f2,f3,f4,Z⟩:=M it (by simp);refine wpAny_pyNext_tuple_item D (show s.heap.IsTuple a F.toArray from p) (x:=u) (by simpa using hu) fun L J sb=>?_
  have I1:Inv X kc σ H {s with heap:=L}:=I.turned (t':=s.toks) (fun b o G e=>(sb.2 b G).trans e) f0 f1 f3 f4 Z;obtain ⟨o,e,c,d⟩:=id J;exact ⟨u,rfl,pO (s:={s with heap:=L}) e c d (by decide) ⟨x,H,I1,ru,⟨rfl,fun ys hy=>by rw [I.tuple_inj hy O];exact V⟩,J,fun b G=>(M b G).1⟩⟩
 done:=by
  intro X hP Y S hc i kc s σ H E I M D hg;subst hP Y S;obtain ⟨xs,O,V⟩:=hg;obtain ⟨F,rv,p,hz⟩:=I.tuple O;obtain ⟨f0,f1,f2,f3,f4,Z⟩:=M it (by simp);have hl:=rv.length;exact wpAny_pyNext_tuple_end (I.ok.hd hc) D (show s.heap.IsTuple a F.toArray from p) (by simp;lia) fun L eb=>⟨rfl,I.turned (t':=s.toks) (fun b o G e=>eb b o G e) f0 f1 f3 f4 Z⟩
 self:=fun _ _ _ _ _ D h=>wpAny_pyIter_tupleiter D h
theorem SZ (it:Addr) (lo:Int) (n:Nat):Turn P w K tg (cS lo n) [it] it (fun i h=>IsRangeIter h it (lo+(i:Nat)*1) ((n:Int) - (i:Nat)) 1) where
 mem:=by simp
 obj:=fun i h D b F=>by
  have e:b=it:=by simpa using F
  subst e;exact ⟨_,D,fun v z=>by
   have z':Data.fields _=Data.cell v:=z;cases z'⟩
 keep:=fun i h J D k=>k it (by simp) _ D
 item:=by
  intro X hP O M V i kc s σ H E I L D Z;subst hP O M;obtain ⟨f0,f1,f2,f3,Y,S⟩:=L it (by simp);have W:=Walks.range (prog:=X.prog) (w:=X.w) (I.ok.hd V) it lo 1 n;refine W.item i s _ _ Z D fun v J tk hv G kk=>?_
  obtain ⟨t,rfl⟩:=hv;have I1:Inv X kc σ H {s with heap:=J,toks:=tk}:=I.turned (fun b o F e=>kk b o (by simpa using F) e) f0 f1 f3 Y S;refine ⟨_,rfl,pO (s:={s with heap:=J,toks:=tk}) (n:="range_iterator") G rfl rfl (by decide) ⟨.int (lo+i),H,I1,⟨t,?_⟩,⟨rfl,rfl⟩,G,fun b F=>(L b F).1⟩⟩;rw [Int.mul_one]
 done:=by
  intro X hP O M V i kc s σ H E I L D Z;subst hP O M;obtain ⟨f0,f1,f2,f3,Y,S⟩:=L it (by simp);exact wpAny_pyNext_range_end (I.ok.hd V) D (by have:n<=i:=Z;lia) fun J eb=>⟨rfl,I.turned (t':=s.toks) (fun b o F e=>eb b o F e) f0 f1 f3 Y S⟩
 self:=fun _ _ _ _ _ D h=>wpAny_pyIter_rangeiter D h
end L2
namespace L2
open PySem PySem.Spec PyProof.Rows
section
variable {X:Cx} {tg:Expr}
def jBp (K:PySem.W.Frag) (E:TE):TI:=fun F H R=>E F H fun x h=>∃a,x=.ref a/\(∃D,SqL K h a D)/\R (eP K a) h
def jCn (K:PySem.W.Frag) (E:TE):TI:=fun F H R=>E F H fun x h=>∃a,x=.ref a/\(∃D,SqT K h a D)/\R (eO K a) h
theorem yE {l:Expr} {F:TE} (L:PE X l F):PI X tg l (jBp X.K F):=by
 intro S s G H R I h;refine jZ (L S s G H _ I h) fun v D ⟨x,J,E,V,Z⟩=>?_
 obtain ⟨a,e,⟨xs,Y⟩,q⟩:=Z;subst e;cases V;obtain ⟨M,rv,p,hz⟩:=E.list Y;refine ga p.isList ?_;refine ⟨D.heap.objs.size,[D.heap.objs.size],_,_,J,rfl,E.kept (t':=D.toks) fun b o e=>ak _ e,T4 a _,⟨_,aC _ rfl,rfl,rfl⟩,fun b O=>?_,q⟩;have e:b=D.heap.objs.size:=by simpa using O
 subst e;exact E.fpOk (ao _) (E.hok.fresh (ao _))
theorem BC {l:Expr} {G:TE} (M:PE X l G):PI X tg l (jCn X.K G):=by
 intro S s J H R I h;refine jZ (M S s J H _ I h) fun v D ⟨x,L,E,V,Z⟩=>?_
 obtain ⟨a,e,⟨xs,Y⟩,q⟩:=Z;subst e;cases V;obtain ⟨F,rv,p,hz⟩:=E.tuple Y;refine fm (show D.heap.IsTuple a F.toArray from p) ?_;refine ⟨D.heap.objs.size,[D.heap.objs.size],_,_,L,rfl,E.kept (t':=D.toks) fun b o e=>ak _ e,SY a _,⟨_,aC _ rfl,rfl,rfl⟩,fun b O=>?_,q⟩;have e:b=D.heap.objs.size:=by simpa using O
 subst e;exact E.fpOk (ao _) (E.hok.fresh (ao _))
theorem VX {F:List (Addr×Obj)} {D:St} {H:Hp} {s:Shared} {R:It->Hp->Prop} {E:Value->Shared->Prop} {lo hi:Int} {t u v:Tok} {h:Nat} (I:Inv X F D H s) (O : -(2 ^ 62)<=lo) (J:lo<2 ^ 62) (M : -(2 ^ 62)<=hi) (S:hi<2 ^ 62)
    (q:R (cS lo (hi - lo).toNat) H):wpAny (model X.prog X.w) X.A (pyIter (.ref s.heap.objs.size)) (CL X F D tg R) E {s with heap:=s.heap.push {cls:=.type "range",data:=.fields #[.int lo t,.int hi u,.int 1 v]},toks:=h}:=by
  refine wpAny_pyIter_range (IsRange.new ..) (small_one O J M S) ?_;have G:Inv X F D H {s with heap:=s.heap.push {cls:=.type "range",data:=.fields #[.int lo t,.int hi u,.int 1 v]},toks:=h}:=I.kept fun b o e=>ak _ e
  refine ⟨(s.heap.push {cls:=.type "range",data:=.fields #[.int lo t,.int hi u,.int 1 v]}).objs.size,[(s.heap.push {cls:=.type "range",data:=.fields #[.int lo t,.int hi u,.int 1 v]}).objs.size],_,_,H,rfl,
    G.kept (t':=h) fun b o e=>ak _ e,SZ _ lo (hi - lo).toNat,?_,fun b V=>?_,q⟩
  . have Y:lo+((0:Nat):Int)*1=lo:=by simp
    have L:(((hi - lo).toNat:Nat):Int) - ((0:Nat):Int)=Builtin.Range.rangeSize lo hi 1:=by rw [rangeSize_one];split<;>lia
    show IsRangeIter _ _ (lo+((0:Nat):Int)*1) ((((hi - lo).toNat:Nat):Int) - ((0:Nat):Int)) 1;rw [Y,L];exact aC _ rfl
  . have e:b=(s.heap.push {cls:=.type "range",data:=.fields #[.int lo t,.int hi u,.int 1 v]}).objs.size:=by simpa using V
    subst e;exact G.fpOk (ao _) (G.hok.fresh (ao _))
def jBo (h:TA):TI:=fun D H R=>h D H fun F E=>∃j:Int,F=[.int j]/\-(2 ^ 62)<=j/\j<2 ^ 62/\R (cS 0 j.toNat) E
theorem J6 {a:Expr} {E:TA} {p F:Pos} (S:Gl X "range") (O:X.mg "range"=none) (G:PA X [a] E) (hs:starEach [a] X.env=[(false,eval a X.env)]:=by rfl):PI X tg (.Call (.Name "range" p) [a] [] F) (jBo E):=by
 intro Y s L H R I h;refine Call_ (dN I S O boot_range (di (jZ (G F Y s L H _ I h) fun us s1 ⟨vs,H1,M,V,D⟩=>?_) hs rfl));obtain ⟨j,e,D,J,q⟩:=D;subst e;cases V with
 |cons r Z =>
  cases Z;obtain ⟨t,rfl⟩:=r;exact call_range_1 (VX M (by lia) (by lia) D J (by simpa using q))
def jCb (L:TI) (g:TG) (M:TS):TS:=fun D h H=>L h H fun J O=>∃W:Nat->Nat->St->Hp->Prop,(∃m,W 0 m h O)/\∀i m h H,W i m h H->
 (J.stop i H/\D.nx h H)\/(J.go i H/\∃N:St->Hp->Prop,(∀F E,N F E->∃I,I<m/\W (i+1) I F E)/\∀x E,J.yld i H x E->g x h E fun G S=>M {D with nx:=N,ct:=N,bk:=D.nx} G S)
def iS (fp:List Addr) (h:Heap):List (Addr×Obj):=fp.filterMap fun b=>(h.get? b).map fun o=>(b,o)
theorem nH {fp:List Addr} {h:Heap} {b:Addr} {o:Obj} (D:b∈fp) (e:h.get? b=some o):(b,o)∈iS fp h:=fo.mpr ⟨b,D,by rw [e];rfl⟩
theorem UL {fp:List Addr} {h:Heap} {p:Addr×Obj} (E:p∈iS fp h):p.1∈fp/\h.get? p.1=some p.2:=by
 obtain ⟨b,F,e⟩:=fo.mp E;cases q:h.get? b with
 |none=>rw [q] at e;cases e
 |some o =>
  rw [q] at e;have D:(b,o)=p:=aA e;subst D;exact ⟨F,q⟩
theorem Inv.pinned {h:List (Addr×Obj)} {E:St} {H:Hp} {s:Shared} {fp:List Addr} (I:Inv X h E H s) (O:∀b∈fp,QE X h H b) (J:∀b∈fp,∃o,s.heap.get? b=some o/\∀v,o.data≠.cell v):Inv X (h++iS fp s.heap) E H s :=
 I.pins_of fun p G=>(aI.mp G).elim (fun z=>I.pin p (bi _ z)) fun z=>by
  obtain ⟨F,e⟩:=UL z;obtain ⟨L,M,S,_⟩:=O p.1 F;obtain ⟨o,D,d⟩:=J p.1 F;rw [e] at D;cases D
  exact ⟨e,L,M,S,d⟩
theorem Inv.unpinned {D pl:List (Addr×Obj)} {h:St} {H:Hp} {s:Shared} (I:Inv X (D++pl) h H s):Inv X D h H s:=I.pins_of fun p E=>I.pin p (bi _ (ir _ E))
theorem yU {kt:Expr} {ku:List Stmt} {wi:TI} {g:TG} {tb:TS} {kn:Pos} (hp:PassesOwn (model X.prog X.w) X.A X.env X.xe) (hc:X.calm=true) (hi:PI X tg kt wi) (hg:PG X tg g) (M:PSs X ku tb)
  (hs:∀x,foldedSetIterable kt X.env x=pure x:=by intro _;rfl):PS X (.For tg kt ku [] kn) (jCb wi g tb):=by
 intro kc s σ H D I h;refine wpAny_For (jZ (hi kc s σ H _ I h) fun v s1 h1=>jZ h1 fun a6 s2 h2=>?_) hs;obtain ⟨it,fp,tn,J,H2,e,I2,T,a5,f2,W,⟨m0,w0⟩,al⟩:=h2;subst e;have F:∀{Y:Hp},(∀b∈fp,Y b=none)->∀b∈fp,QE X kc Y b:=fun hn b M=>⟨hn b M,(f2 b M).2⟩
 refine codeAny_forLoop_any (fun n s'=>∃i S Y,Inv X kc S Y s'/\tn i s'.heap/\(∀b∈fp,Y b=none)/\W i n S Y) ?_ m0 ⟨0,σ,H2,I2,a5,fun b M=>(f2 b M).1,w0⟩;rintro n s3 ⟨i,L,H3,I3,am,aD,w3⟩
 rcases al i n L H3 w3 with ⟨aU,qn⟩|⟨go,N,hN,an⟩
 ·refine hV hp (jZ (T.done X rfl rfl rfl hc i kc s3 L H3 X.xe I3 (F aD) am aU) fun r s4 ⟨hr,I4⟩=>?_);subst hr;exact wpAny_execs_nil ⟨L,H3,I4,qn⟩
 ·refine hV hp (jZ (T.item X rfl rfl rfl hc i kc s3 L H3 X.xe I3 (F aD) am go) fun r s4 ⟨u,hr,h4⟩=>?_);subst hr;refine hV hp (jZ h4 fun _ s5 ⟨x,H5,I5,r5,y5,ah,a4⟩=>?_);have a3:=I5.pinned (F a4) (T.obj _ _ ah);refine hV hp (jZ (hg _ s5 L H5 x u _ a3 r5 (an x H5 y5)) fun _ s6 ⟨a0,H6,I6,q6⟩=>?_);refine hV hp (jZ (M _ s6 a0 H6 _ I6 q6) fun f s7 Z=>?_);have G:∀{E:St} {V:Hp},Inv X (kc++iS fp s5.heap) E V s7->N E V->∃m,m<n/\∃i S Y,Inv X kc S Y s7/\tn i s7.heap/\(∀b∈fp,Y b=none)/\W i m S Y:=fun {E V} O n7=>by
   obtain ⟨m',hm,w7⟩:=hN E V n7;refine ⟨m',hm,i+1,E,V,O.unpinned,T.keep _ _ _ ah fun b M o e=>(O.pin (b,o) (bi _ (bi _ (nH M e)))).1,fun b M=>?_,w7⟩;obtain ⟨o,e,d⟩:=T.obj _ _ ah b M;exact (O.pin (b,o) (bi _ (bi _ (nH M e)))).2.1
  cases f with
  |next=>obtain ⟨E,V,O,n7⟩:=Z;exact G O n7
  |cont=>obtain ⟨E,V,O,n7⟩:=Z;exact G O n7
  |brk=>obtain ⟨E,V,O,Z⟩:=Z;exact ⟨E,V,O.unpinned,Z⟩
  |ret v=>obtain ⟨x7,E,V,O,r7,Z⟩:=Z;exact ⟨x7,E,V,O.unpinned,r7,Z⟩
end
variable {g:TG} {tb:TS} {D:Ends} {σ:St} {H:Hp}
theorem ZJ {K:PySem.W.Frag} {a:Addr} {xs:List V} (h:Nat->St->Hp->Prop) (Y:h 0 σ H) (Z:∀i σ H,i<=xs.length->h i σ H->SqL K H a xs)
    (O:∀i x σ H,xs[i]?=some x->h i σ H->g x σ H fun F I=>tb {D with nx:=h (i+1),ct:=h (i+1),bk:=D.nx} F I) (L:∀σ H,h xs.length σ H->D.nx σ H) :
    ∃W:Nat->Nat->St->Hp->Prop,(∃m,W 0 m σ H)/\∀i m σ H,W i m σ H->
      ((eP K a).stop i H/\D.nx σ H)\/((eP K a).go i H/\∃N:St->Hp->Prop,(∀σ' E,N σ' E->∃J,J<m/\W (i+1) J σ' E)/\∀x E,(eP K a).yld i H x E->g x σ E fun F I=>tb {D with nx:=N,ct:=N,bk:=D.nx} F I):=by
  refine ⟨fun i m σ H=>m=xs.length - i/\i<=xs.length/\h i σ H,⟨xs.length,by simp,aN _,Y⟩,?_⟩;rintro i m σ H ⟨rfl,S,p⟩;have q:=Z i σ H S p
  by_cases G:i<xs.length
  . refine .inr ⟨⟨xs,xs[i],q,by simp [G]⟩,h (i+1),fun σ' E M=>⟨xs.length - (i+1),by lia,rfl,G,M⟩,fun x E y=>?_⟩
    obtain ⟨e,y⟩:=y;subst e;exact O i x σ _ (y xs q) p
  . have e:i=xs.length:=by lia
    subst e;exact .inl ⟨⟨xs,q,ao _⟩,L σ H p⟩
theorem X8 {K:PySem.W.Frag} {a:Addr} {xs:List V} (h:Nat->St->Hp->Prop) (Y:h 0 σ H) (Z:∀i σ H,i<=xs.length->h i σ H->SqT K H a xs)
    (O:∀i x σ H,xs[i]?=some x->h i σ H->g x σ H fun F I=>tb {D with nx:=h (i+1),ct:=h (i+1),bk:=D.nx} F I) (L:∀σ H,h xs.length σ H->D.nx σ H) :
    ∃W:Nat->Nat->St->Hp->Prop,(∃m,W 0 m σ H)/\∀i m σ H,W i m σ H->
      ((eO K a).stop i H/\D.nx σ H)\/((eO K a).go i H/\∃N:St->Hp->Prop,(∀σ' E,N σ' E->∃J,J<m/\W (i+1) J σ' E)/\∀x E,(eO K a).yld i H x E->g x σ E fun F I=>tb {D with nx:=N,ct:=N,bk:=D.nx} F I):=by
  refine ⟨fun i m σ H=>m=xs.length - i/\i<=xs.length/\h i σ H,⟨xs.length,by simp,aN _,Y⟩,?_⟩;rintro i m σ H ⟨rfl,S,p⟩;have q:=Z i σ H S p
  by_cases G:i<xs.length
  . refine .inr ⟨⟨xs,xs[i],q,by simp [G]⟩,h (i+1),fun σ' E M=>⟨xs.length - (i+1),by lia,rfl,G,M⟩,fun x E y=>?_⟩
    obtain ⟨e,y⟩:=y;subst e;exact O i x σ _ (y xs q) p
  . have e:i=xs.length:=by lia
    subst e;exact .inl ⟨⟨xs,q,ao _⟩,L σ H p⟩
theorem Z1 {lo:Int} {n:Nat} (G:Nat->St->Hp->Prop) (S:G 0 σ H)
  (O:∀i σ H,i<n->G i σ H->g (.int (lo+i)) σ H fun F I=>tb {D with nx:=G (i+1),ct:=G (i+1),bk:=D.nx} F I) (L:∀σ H,G n σ H->D.nx σ H) :
  ∃W:Nat->Nat->St->Hp->Prop,(∃m,W 0 m σ H)/\∀i m σ H,W i m σ H->
   ((cS lo n).stop i H/\D.nx σ H)\/((cS lo n).go i H/\∃N:St->Hp->Prop,(∀σ' E,N σ' E->∃J,J<m/\W (i+1) J σ' E)/\∀x E,(cS lo n).yld i H x E->g x σ E fun F I=>tb {D with nx:=N,ct:=N,bk:=D.nx} F I):=by
 refine ⟨fun i m σ H=>m=n - i/\i<=n/\G i σ H,⟨n,by simp,aN _,S⟩,?_⟩;rintro i m σ H ⟨rfl,V,p⟩
 by_cases h:i<n
 ·refine .inr ⟨h,G (i+1),fun σ' E M=>⟨n - (i+1),by lia,rfl,h,M⟩,fun x E y=>?_⟩;obtain ⟨e,y⟩:=y;subst e y;exact O i σ _ h p
 ·have e:i=n:=by lia
  subst e;exact .inl ⟨ao _,L σ H p⟩
end L2
namespace L2
open PySem PySem.Spec PyProof.Rows
abbrev R2:=V->V->Hp->VK->Prop
def qW (X:Cx) (f:Value->Value->Sem Value) (r:R2):Prop :=
 ∀(D:List (Addr×Obj)) (s:Shared) (h:St) (H:Hp) (x y:V) (v u:Value) (Q:VK),Inv X D h H s->RelV x v->RelV y u->r x y H Q->
  wpAny (model X.prog X.w) X.A (f v u) (EP X D h Q) X.xe s
def CJ (X:Cx) (f:Value->Sem Value) (r:V->Hp->VK->Prop):Prop :=
 ∀(D:List (Addr×Obj)) (s:Shared) (h:St) (H:Hp) (x:V) (v:Value) (Q:VK),Inv X D h H s->RelV x v->r x H Q->
  wpAny (model X.prog X.w) X.A (f v) (EP X D h Q) X.xe s
def y7 (X:Cx) (f:Value) (r:List V->Hp->VK->Prop):Prop :=
 ∀(E:List (Addr×Obj)) (s:Shared) (D:St) (H:Hp) (h:List V) (F:List Value) (Q:VK),Inv X E D H s->Vals h F->r h H Q->
  wpAny (model X.prog X.w) X.A (call f F) (EP X E D Q) X.xe s
def eG (r:R2) (D E:TE):TE:=fun h H Q=>D h H fun x F=>E h F fun y G=>r x y G Q
def tUn (r:V->Hp->VK->Prop) (h:TE):TE:=fun D H Q=>h D H fun x E=>r x E Q
def rI (C:Int->Int->Prop) (g:Int->Int->V):R2:=fun x y H Q=>∃i j,x=.int i/\y=.int j/\C i j/\Q (g i j) H
def cL (g:Int->Int->V):R2:=fun x y H Q=>∃i j,x=.int i/\y=.int j/\Q (g i j) H
def rU (g:Int->V):V->Hp->VK->Prop:=fun x H Q=>∃i,x=.int i/\Q (g i) H
section
variable {X:Cx} {a b c:Expr} {ta tb tc:TE} {kn:Pos}
theorem B3 (O:PE X a ta) (hb:PE X b tb) {L:List (Addr×Obj)} {s:Shared} {D:St} {H:Hp} {R:V->V->Hp->Prop} (I:Inv X L D H s)
  (h:ta D H fun x M=>tb D M fun y E=>R x y E) {Q:Value->Shared->Prop} {f:Value->Value->Sem Value}
  (hf:∀v u J x y E,Inv X L D E J->RelV x v->RelV y u->R x y E->wpAny (model X.prog X.w) X.A (f v u) Q X.xe J) :
  wpAny (model X.prog X.w) X.A (eval a X.env) (fun v G=>wpAny (model X.prog X.w) X.A (eval b X.env) (fun u F=>wpAny (model X.prog X.w) X.A (f v u) Q X.xe F) X.xe G) X.xe s:=by
 refine jZ (O L s D H _ I h) fun v Y ⟨x,M,I1,r1,q1⟩=>?_
 refine jZ (hb L Y D M _ I1 q1) fun u J ⟨y,E,I2,S,Z⟩=>?_
 exact hf v u J x y E I2 r1 S Z
theorem jL {D:Operator} {r:R2} (S:qW X (binaryOp D) r) (G:PE X a ta) (L:PE X b tb):PE X (.BinOp a D b kn) (eG r ta tb):=by
 intro M s J H Q I h;exact wpAny_BinOp (B3 G L I h fun v u E x y Y V F O q=>S M E J Y x y v u Q V F O q)
theorem iW {F:UnaryOp} {r:V->Hp->VK->Prop} (M:CJ X (unaryOp F) r) (L:PE X a ta):PE X (.UnaryOp F a kn) (tUn r ta):=by
 intro D s E H Q I h;exact UnaryOp_ (jZ (L D s E H _ I h) fun v J ⟨x,O,Y,S,G⟩=>M D J E O x v Q Y S G)
theorem rL {f:Value->Value->Sem Value} {C:Int->Int->Prop} {g:Int->Int->Int}
  (D:∀(i j:Int) (t u:Tok) (s:Shared) (Q:Value->Shared->Prop) (E:Value->Shared->Prop),C i j->Q (.int (g i j) s.toks) {s with toks:=s.toks+1}->wpAny (model X.prog X.w) X.A (f (.int i t) (.int j u)) Q E s) :
  qW X f (rI C fun i j=>.int (g i j)):=by
 intro O s M H x y v u Q I G L h;obtain ⟨i,j,rfl,rfl,F,q⟩:=h;obtain ⟨t,rfl⟩:=G;obtain ⟨J,rfl⟩:=L;exact D i j t J s _ _ F ⟨.int (g i j),H,I.tok _,⟨_,rfl⟩,q⟩
theorem K9 {f:Value->Value->Sem Value} {g:Int->Int->Int}
  (D:∀(i j:Int) (t u:Tok) (s:Shared) (Q:Value->Shared->Prop) (E:Value->Shared->Prop),Q (.int (g i j) s.toks) {s with toks:=s.toks+1}->wpAny (model X.prog X.w) X.A (f (.int i t) (.int j u)) Q E s) :
  qW X f (cL fun i j=>.int (g i j)):=by
 intro M s L H x y v u Q I F J h;obtain ⟨i,j,rfl,rfl,q⟩:=h;obtain ⟨t,rfl⟩:=F;obtain ⟨G,rfl⟩:=J;exact D i j t G s _ _ ⟨.int (g i j),H,I.tok _,⟨_,rfl⟩,q⟩
theorem pX {f:Value->Value->Sem Value} {g:Int->Int->Bool}
  (D:∀(i j:Int) (t u:Tok) (s:Shared) (Q:Value->Shared->Prop) (E:Value->Shared->Prop),Q (.bool (g i j)) s->wpAny (model X.prog X.w) X.A (f (.int i t) (.int j u)) Q E s) :
  qW X f (cL fun i j=>.bl (g i j)):=by
 intro M s L H x y v u Q I F J h;obtain ⟨i,j,rfl,rfl,q⟩:=h;obtain ⟨t,rfl⟩:=F;obtain ⟨G,rfl⟩:=J;exact D i j t G s _ _ ⟨.bl (g i j),H,I,rfl,q⟩
def jCx (i j:Int):Prop:=0<j/\j<1073741824
def jCw (i j:Int):Prop:=0<=j/\j<=1000000/\i.natAbs<2 ^ 64
def CMul (i j:Int):Prop:=(-(2 ^ 64)<i/\i<2 ^ 64)\/(-(2 ^ 64)<j/\j<2 ^ 64)
theorem CMul.ok {i j:Int} (h:CMul i j):IntMulOk i j:=by
 rcases h with ⟨E,D⟩|⟨E,D⟩
 ·exact .of_left (intBits_le_64 E D)
 ·exact .of_right (intBits_le_64 E D)
theorem kS:qW X (binaryOp .Add) (cL fun i j=>.int (i+j)):=K9 fun _ _ _ _ _ _ _ q=>add_int q
theorem zA:qW X (binaryOp .Sub) (cL fun i j=>.int (i - j)):=K9 fun _ _ _ _ _ _ _ q=>sub_int q
theorem qU:qW X (binaryOp .Mult) (rI CMul fun i j=>.int (i*j)):=rL fun _ _ _ _ _ _ _ h q=>mul_int q h.ok
theorem dF:qW X (binaryOp .FloorDiv) (rI jCx fun i j=>.int (i / j)):=rL fun i j _ _ _ _ _ h q=>by
 have D:(0:Int)<j:=h.1;have E:j<1073741824:=h.2;exact floordiv_int (by lia) (by rw [Int.fdiv_eq_ediv_of_nonneg i (by lia)];exact q) (.inl (PyProof.noPylong_small (by lia)))
theorem zY:qW X (binaryOp .Mod) (rI (fun _ j=>0<j) fun i j=>.int (i%j)):=rL fun i j _ _ _ _ _ h q=>by
 have D:(0:Int)<j:=h;exact mod_int' (by lia) (by rw [Int.fmod_eq_emod_of_nonneg i (by lia)];exact q)
theorem IX:qW X (binaryOp .Pow) (rI jCw fun i j=>.int (i ^ j.toNat)):=rL fun _ _ _ _ _ _ _ h q=>pow_int_small h.1 h.2.1 h.2.2 q
theorem unI {f:Value->Sem Value} {g:Int->Int}
  (D:∀(i:Int) (t:Tok) (s:Shared) (Q:Value->Shared->Prop) (E:Value->Shared->Prop),Q (.int (g i) s.toks) {s with toks:=s.toks+1}->wpAny (model X.prog X.w) X.A (f (.int i t)) Q E s) :
  CJ X f (rU fun i=>.int (g i)):=by
 intro J s G H x v Q I F h;obtain ⟨i,rfl,q⟩:=h;obtain ⟨t,rfl⟩:=F;exact D i t s _ _ ⟨.int (g i),H,I.tok _,⟨_,rfl⟩,q⟩
theorem iO:CJ X (unaryOp .USub) (rU fun i=>.int (-i)):=unI fun _ _ _ _ _ q=>neg_int q
end
def K5:V->V->Bool
 |.non,.non=>true|.non,.int _=>true|.int _,.non=>true|.non,.bl _=>true|.bl _,.non=>true|.non,.str _=>true|.str _,.non=>true
 |.int _,.int _=>true|.bl _,.bl _=>true|.str _,.str _=>true|.byt _,.byt _=>true
 |.int _,.str _=>true|.str _,.int _=>true|.bl _,.str _=>true|.str _,.bl _=>true
 |_,_=>false
def rEq:R2:=fun x y H Q=>K5 x y=true/\Q (.bl (decide (x=y))) H
def rNe:R2:=fun x y H Q=>K5 x y=true/\Q (.bl (!decide (x=y))) H
theorem IB {i j:Int}:decide (V.int i=V.int j)=(i == j):=by
 rw [hX];simp
theorem KH {i j:Bool}:decide (V.bl i=V.bl j)=(i == j):=by
 rw [hX];simp
theorem IA {i j:Str}:decide (V.str i=V.str j)=(i == j):=by
 rw [hX];simp
theorem IC {i j:Array UInt8}:decide (V.byt i=V.byt j)=(i.toList == j.toList):=by
 rw [hX];cases i;cases j;simp
section
variable {X:Cx} {a b c:Expr} {ta tb tc:TE} {kn:Pos}
theorem vF {E:List (Addr×Obj)} {h:St} {H:Hp} {s:Shared} {Q:VK} {k D:Bool} (I:Inv X E h H s) (q:Q (.bl k) H) (e:k=D):EP X E h Q (.bool D) s:=by
 subst e;exact ⟨.bl k,H,I,rfl,q⟩
theorem kM:qW X (compareOp .Eq) rEq:=by
 intro L s J H x y v u Q I G D h;obtain ⟨F,q⟩:=h;cases x with
 |non =>
  cases G;cases y with
  |non=>cases D;exact PySem.EqNone.eq_none_none (vF I q (by simp))
  |bl j=>cases D;exact PySem.EqNone.eq_none_bool (vF I q (by simp))
  |int j=>obtain ⟨E,rfl⟩:=D;exact PySem.EqNone.eq_none_int (vF I q (by simp))
  |str j=>obtain ⟨E,rfl⟩:=D;exact PySem.EqNone.eq_none_str (vF I q (by simp))
  |_=>exact absurd (show false=true from F) aH
 |bl i =>
  cases G;cases y with
  |non=>cases D;exact PySem.EqNone.eq_bool_none (vF I q (by simp))
  |bl j=>cases D;exact eq_bool (vF I q KH)
  |str j=>obtain ⟨E,rfl⟩:=D;exact PySem.EqMixed.eq_bool_str (vF I q (by simp))
  |_=>exact absurd (show false=true from F) aH
 |int i =>
  obtain ⟨t,rfl⟩:=G;cases y with
  |non=>cases D;exact PySem.EqNone.eq_int_none (vF I q (by simp))
  |int j=>obtain ⟨E,rfl⟩:=D;exact eq_int (vF I q IB)
  |str j=>obtain ⟨E,rfl⟩:=D;exact PySem.EqMixed.eq_int_str (vF I q (by simp))
  |_=>exact absurd (show false=true from F) aH
 |str i =>
  obtain ⟨t,rfl⟩:=G;cases y with
  |non=>cases D;exact PySem.EqNone.eq_str_none (vF I q (by simp))
  |bl j=>cases D;exact PySem.EqMixed.eq_str_bool (vF I q (by simp))
  |int j=>obtain ⟨E,rfl⟩:=D;exact PySem.EqMixed.eq_str_int (vF I q (by simp))
  |str j=>obtain ⟨E,rfl⟩:=D;exact eq_str (vF I q IA)
  |_=>exact absurd (show false=true from F) aH
 |byt i =>
  obtain ⟨t,rfl⟩:=G;cases y with
  |byt j=>obtain ⟨E,rfl⟩:=D;exact PySem.W.eq_bytes (vF I q IC)
  |_=>exact absurd (show false=true from F) aH
 |_=>cases y<;>exact absurd (show false=true from F) aH
theorem JU:qW X (compareOp .NotEq) rNe:=by
 intro L s J H x y v u Q I G D h;obtain ⟨F,q⟩:=h;cases x with
 |non =>
  cases G;cases y with
  |non=>cases D;exact PySem.EqNone.ne_none_none (vF I q (by simp))
  |bl j=>cases D;exact PySem.EqNone.ne_none_bool (vF I q (by simp))
  |int j=>obtain ⟨E,rfl⟩:=D;exact PySem.EqNone.ne_none_int (vF I q (by simp))
  |str j=>obtain ⟨E,rfl⟩:=D;exact PySem.EqNone.ne_none_str (vF I q (by simp))
  |_=>exact absurd (show false=true from F) aH
 |bl i =>
  cases G;cases y with
  |non=>cases D;exact PySem.EqNone.ne_bool_none (vF I q (by simp))
  |bl j=>cases D;exact ne_bool (vF I q (bf not KH))
  |str j=>obtain ⟨E,rfl⟩:=D;exact PySem.EqMixed.ne_bool_str (vF I q (by simp))
  |_=>exact absurd (show false=true from F) aH
 |int i =>
  obtain ⟨t,rfl⟩:=G;cases y with
  |non=>cases D;exact PySem.EqNone.ne_int_none (vF I q (by simp))
  |int j=>obtain ⟨E,rfl⟩:=D;exact ne_int (vF I q (bf not IB))
  |str j=>obtain ⟨E,rfl⟩:=D;exact PySem.EqMixed.ne_int_str (vF I q (by simp))
  |_=>exact absurd (show false=true from F) aH
 |str i =>
  obtain ⟨t,rfl⟩:=G;cases y with
  |non=>cases D;exact PySem.EqNone.ne_str_none (vF I q (by simp))
  |bl j=>cases D;exact PySem.EqMixed.ne_str_bool (vF I q (by simp))
  |int j=>obtain ⟨E,rfl⟩:=D;exact PySem.EqMixed.ne_str_int (vF I q (by simp))
  |str j=>obtain ⟨E,rfl⟩:=D;exact ne_str (vF I q (bf not IA))
  |_=>exact absurd (show false=true from F) aH
 |byt i =>
  obtain ⟨t,rfl⟩:=G;cases y with
  |byt j=>obtain ⟨E,rfl⟩:=D;exact PySem.W.ne_bytes (vF I q (bf not IC))
  |_=>exact absurd (show false=true from F) aH
 |_=>cases y<;>exact absurd (show false=true from F) aH
theorem bB:qW X (compareOp .Lt) (cL fun i j=>.bl (decide (i<j))):=pX fun _ _ _ _ _ _ _ q=>lt_int q
theorem iX:qW X (compareOp .LtE) (cL fun i j=>.bl (decide (i<=j))):=pX fun _ _ _ _ _ _ _ q=>le_int q
theorem pG:qW X (compareOp .Gt) (cL fun i j=>.bl (decide (j<i))):=pX fun _ _ _ _ _ _ _ q=>gt_int q
theorem iY:qW X (compareOp .GtE) (cL fun i j=>.bl (decide (j<=i))):=pX fun _ _ _ _ _ _ _ q=>ge_int q
theorem UJ:qW X (compareOp .In) (fun x y H Q=>∃i j,x=.str i/\y=.str j/\Q (.bl (!(Builtin.Str.occurrences j i 0 j.length 1).isEmpty)) H):=by
 intro J s F H x y v u Q I D E h;obtain ⟨i,j,rfl,rfl,q⟩:=h;obtain ⟨t,rfl⟩:=D;obtain ⟨G,rfl⟩:=E;exact in_str (vF I q rfl)
theorem Y8:qW X (compareOp .Is) (fun x y H Q=>y=.non/\Q (.bl (decide (x=.non))) H):=by
 intro G s F H x y v u Q I D E h;obtain ⟨rfl,q⟩:=h;cases E;refine is_none_gen (vF I q ?_);cases x<;>first
  | (cases D;rfl)
  | (obtain ⟨t,rfl⟩:=D;rfl)
theorem CO (b:Expr) {D:CmpOp} (h:D≠.In:=by decide) (G:D≠.NotIn:=by decide):behindInMarks D b=false:=by
 have F:(D == CmpOp.In)=false:=by cases D<;>first|rfl|exact absurd rfl h
 have E:(D == CmpOp.NotIn)=false:=by cases D<;>first|rfl|exact absurd rfl G
 cases b<;>simp [behindInMarks,F,E]
theorem XO {D:CmpOp} {r:R2} (V:qW X (compareOp D) r) (G:PE X a ta) (M:PE X b tb) (L:behindInMarks D b=false):PE X (.Compare a [D] [b] kn) (eG r ta tb):=by
 intro O s J H Q I h;exact wpAny_Compare1 (B3 G M I h fun v u E x y Z Y F S q=>V O E J Z x y v u Q Y F S q) L
def KN (t:TE):TT:=fun D H Q=>t D H fun x h=>∃k,x=.bl k/\Q k h
theorem LP {F:CmpOp} {r:R2} (ho:qW X (compareOp F) r) (J:PE X a ta) (hb:PE X b tb) (V:behindInMarks F b=false):PT X (.Compare a [F] [b] kn) (KN (eG r ta tb)):=by
 intro E s D H Q I h;refine wpAny_isTrue_Compare1 (jZ (J E s D H _ I h) fun v M ⟨x,S,Y,r1,q1⟩=>jZ (hb E M D S _ Y q1) fun u G ⟨y,H2,I2,L,O⟩ =>
  jZ (ho E G D H2 x y v u _ I2 r1 L O) fun c s3 ⟨z,H3,I3,Z,k,e,q3⟩=>?_) V
 subst e;cases Z;exact ff ⟨H3,I3,q3⟩
def YV (r F:R2) (ta tb tc:TE):TE:=fun h H Q=>ta h H fun x G=>tb h G fun y I=>r x y I fun z D=>∃k,z=.bl k/\
 (if k=true then tc h D fun E J=>F y E J Q else Q (.bl false) D)
theorem V3 {G D:CmpOp} {r S:R2} (ho:qW X (compareOp G) r) (J:qW X (compareOp D) S) (Z:PE X a ta) (hb:PE X b tb) (hc:PE X c tc)
  (hm:lastMarks [G,D] [b,c]=false:=by with_unfolding_all rfl):PE X (.Compare a [G,D] [b,c] kn) (YV r S ta tb tc):=by
 intro F s E H Q I h;refine Compare_chain (jZ (Z F s E H _ I h) fun v s1 ⟨x,H1,I1,r1,q1⟩=>chain_link (jZ (hb F s1 E H1 _ I1 q1) fun u Y ⟨y,H2,I2,L,q2⟩ =>
  jZ (ho F Y E H2 x y v u _ I2 r1 L q2) fun d s3 ⟨z,V,M,r3,k,e,O⟩=>?_)) hm
 subst e;cases r3;refine ff ?_;cases k with
 |false=>exact ite_ff ⟨.bl false,V,M,rfl,O⟩
 |true=>exact ite_tt (chain_last (jZ (hc F s3 E V _ M O) fun w' s4 ⟨z',H4,I4,r4,q4⟩=>J F s4 E H4 y z' u w' Q I4 L r4 q4))
theorem dM:(sizeLine:Nat)<2 ^ 63:=by rw [sizeLine_eq];decide
theorem DL:qW X (binaryOp .Add) (fun x y H Q=>∃i j,x=.str i/\y=.str j/\i.length+j.length<=sizeLine/\Q (.str (i++j)) H):=by
 intro M s L H x y v u Q I D G h;obtain ⟨i,j,rfl,rfl,E,q⟩:=h;obtain ⟨t,rfl⟩:=D;obtain ⟨F,rfl⟩:=G;exact add_str (fun F J=>⟨.str (i++j),H,I.tok _,⟨_,rfl⟩,q⟩) E
theorem Q2 {x:V} {us:List Value} (r:Vals [x] us):∃u,us=[u]/\RelV x u:=by
 cases r with
 |cons D h=>cases h;exact ⟨_,rfl,D⟩
theorem BK {x y:V} {us:List Value} (r:Vals [x,y] us):∃u h,us=[u,h]/\RelV x u/\RelV y h:=by
 cases r with
 |cons F G =>
  cases G with
  |cons D E=>cases E;exact ⟨_,_,rfl,F,D⟩
theorem EW (E:X.calm=true):y7 X (.builtin "max") (fun xs H Q=>∃i j,xs=[.int i,.int j]/\Q (.int (if j>i then j else i)) H):=by
 intro O s L H xs S Q I r h;obtain ⟨i,j,rfl,q⟩:=h;obtain ⟨u,G,rfl,⟨t,rfl⟩,⟨M,rfl⟩⟩:=BK r;refine max_two_ints (I.ok.hd E) fun J F k=>⟨_,H,I.kept k,?_,q⟩
 by_cases D:j>i
 ·rw [if_pos D,if_pos D];exact ⟨_,rfl⟩
 ·rw [if_neg D,if_neg D];exact ⟨_,rfl⟩
theorem xV (E:X.calm=true):y7 X (.builtin "min") (fun xs H Q=>∃i j,xs=[.int i,.int j]/\Q (.int (if j<i then j else i)) H):=by
 intro O s L H xs S Q I r h;obtain ⟨i,j,rfl,q⟩:=h;obtain ⟨u,G,rfl,⟨t,rfl⟩,⟨M,rfl⟩⟩:=BK r;refine min_two_ints (I.ok.hd E) fun J F k=>⟨_,H,I.kept k,?_,q⟩
 by_cases D:j<i
 ·rw [if_pos D,if_pos D];exact ⟨_,rfl⟩
 ·rw [if_neg D,if_neg D];exact ⟨_,rfl⟩
theorem xW:y7 X (.type "int") (fun xs H Q=>(∃i,xs=[.int i]/\Q (.int i) H)\/∃k,xs=[.bl k]/\Q (.int (if k then 1 else 0)) H):=by
 intro F s E H xs G Q I r h
 rcases h with ⟨i,rfl,q⟩|⟨k,rfl,q⟩
 ·obtain ⟨u,rfl,t,rfl⟩:=Q2 r;exact call_int_int ⟨.int i,H,I,⟨_,rfl⟩,q⟩
 ·obtain ⟨u,rfl,D⟩:=Q2 r;cases D;exact call_int_bool ⟨.int (if k then 1 else 0),H,I.tok _,⟨_,rfl⟩,q⟩
end
structure ObjM (h:Heap) (x dx C:Addr) (mA:Str->Option Value):Prop where
 obj:h.get? x=some (PySem.W.instObj C dx)
 ns:h.Ns1 dx mA
 ne:dx≠x
theorem UT {h:Heap} {E:Addr} {I:Str->Option Value} (n:h.Ns1 E I):∃G,h.get? E=some G/\∀name,PySem.W.lookIn name G=some (I name):=by
 obtain ⟨o,F,Y,V,L,S,_,O⟩:=n;refine ⟨o,V,fun name=>?_⟩;have e:=O name;unfold nsFind findBy at e;rw [<- Array.find?_toList] at e;unfold PySem.W.lookIn;rw [L]
 dsimp only
 split
 ·rename_i y q;rw [q] at e;exact bf some e
 ·rename_i q;rw [q] at e;have a:F.toList.any (·.refKey)=false:=by
   rw [List.any_eq_false];intro y J;obtain ⟨z,t,D⟩:=S y (Array.mem_toList_iff.mp J);simp [DictEntry.refKey,D]
  have M:¬F.toList.any (·.refKey)=true:=by rw [a];exact aH
  rw [if_neg M];exact bf some e
variable {C:Addr}
theorem ObjM.look {h:Heap} {x E:Addr} {F:Str->Option Value} (I:ObjM h x E C F):∃D,PySem.W.InstAt h x (PySem.W.instObj C E) C (some D)/\∀name,PySem.W.lookIn name D=some (F name) :=
 let ⟨D,G,J⟩:=UT I.ns
 ⟨D,⟨I.obj,rfl,rfl,G⟩,J⟩
section
variable {prog:Program} {w:World} {A:Around} {E:Value->Shared->Prop} {s:Shared} {K:PySem.W.Frag} {x dx C f:Addr} {mA:Str->Option Value} {name:Str} {v:Value}
theorem X6 {D:Bool} {Q:Value->Shared->Prop} (X:K.In s.heap) (I:ObjM s.heap x dx C mA) (L:PySem.W.plainGet K C name=true) (G:PySem.W.hasDictIn K C=true)
  (M:PySem.W.findIn K (.ref C) name=some none) (O:mA name=some v) (F:PySem.W.handedIn v=true) (h:Q v {s with toks:=s.toks+1}) :
  wpAny (model prog w) A (getAttr (.ref x) name D) Q E s:=by
 obtain ⟨V,J,S⟩:=I.look;exact PySem.W.get_value X J (PySem.W.plainGet_of L).1 (PySem.W.findObj_own G M rfl (by rw [S,O])) F h
theorem WK {pl:Sem Bool} {Q:Value×List Value->Shared->Prop} (X:K.In s.heap) (I:ObjM s.heap x dx C mA) (D:PySem.W.plainGet K C name=true)
  (M:PySem.W.findIn K (.ref C) name=some (some (.ref f))) (F:PySem.W.isFn K (.ref f)=true) (G:mA name=none) (h:Q (.ref f,[.ref x]) s) :
  wpAny (model prog w) A (getMethod (.ref x) name pl) Q E s:=by
 obtain ⟨L,J,O⟩:=I.look;exact PySem.W.method_fn X J (PySem.W.plainGet_of D).1 (PySem.W.plainGet_of D).2 M (ie.mp F) (by show (PySem.W.lookIn name L).map (·.isSome)=some false;rw [O,G];rfl) h
theorem XC {S:List Str} {Q:Unit->Shared->Prop} (X:K.In s.heap) (I:ObjM s.heap x dx C mA)
  (hs:PySem.W.findIn K (.ref C) "__setattr__"=some (some (.builtin "object.__setattr__"))) (hp:PySem.W.plainOver K C=true) (Y:PySem.W.takerIn K C name=some none) (hh:PySem.W.hasDictIn K C=true)
  (hw:PySem.Within mA S) (hsz:S.length<=sizeLine)
  (h:∀h',ObjM h' x dx C (fun y=>if y=name then some v else mA y)->Heap.SameBut dx s.heap h'->Q () {s with heap:=h',toks:=s.toks+2}) :
  wpAny (model prog w) A (setAttr (.ref x) name v) Q E s:=by
 obtain ⟨od,J,hl⟩:=I.look;refine PySem.W.set_plain X J hs (PySem.W.osa_open (s:={s with toks:=s.toks+1}) (r:=none) X J hp Y fun b=>?_);obtain ⟨cd,hc,M⟩:=PySem.W.any_some hh;have V:s.heap.get? x=some ⟨.ref C,some dx,.plain,#[]⟩:=I.obj;refine ai (aX (ai (ai (wpAny_loadPart V (ai (PySem.W.Looks.here (s:={s with toks:=s.toks+1}) (PySem.W.looks_clsIn X hc) ?_))))));rw [M];refine aX (a:=some dx) (ai (aX (ai ?_)));refine wpAny_nsSet1 (s:={s with toks:=s.toks+1}) I.ns fun h' D F=>?_
 obtain ⟨oD,Z,ah,L,O,G⟩:=D.count (PySem.Within.cons name v hw);refine ai (wpAny_lookBehind L (by rw [O];exact pastItsLine_dict (aM G (by rw [dv];lia))) ?_);exact aX (h _ ⟨(F.2 _ (Ne.symm I.ne)).trans I.obj,D,I.ne⟩ F)
theorem WF {R:Result->Shared->Prop} {vs:List Value} {F:List (Str×Value)} (X:K.In s.heap) (G:PySem.W.makesIn K C=true)
  (hi:PySem.W.findIn K (.ref C) "__init__"=some (some (.ref f))) (I:PySem.W.typeIn K (.ref f)=some (.type "function"))
  (h:codeAny (model prog w) (A.under (.builtin "type.__call__" ⟨.ref C::vs,F⟩)) (.call (.ref f) ⟨.ref (s.heap.objs.size+1)::vs,F⟩) (PySem.W.InitBack (s.heap.objs.size+1) R)
   {s with heap:=(s.heap.push PySem.W.emptyDict).push (PySem.W.instObj C s.heap.objs.size)}) :
  codeAny (model prog w) A (.call (.ref C) ⟨vs,F⟩) R s:=by
 obtain ⟨L,g,d,t,J⟩:=s;exact PySem.W.make_core (PySem.W.makes_of X G) (PySem.W.looks_findIn X hi) (fun D=>PySem.W.bind_fn X D I) (.inl rfl) h
end
def jS (f:Str) (v:V):List (Str×V)->List (Str×V)
 |[]=>[(f,v)]
 | (g,x)::r=>if g=f then (g,v)::r else (g,x)::jS f v r
theorem yY (f g:Str) (v:V):∀F:List (Str×V),(jS f v F).lookup g=if g=f then some v else F.lookup g
 |[]=>by
  show List.lookup g [(f,v)]=_
  by_cases h:g=f
  ·have D:(g == f)=true:=ie.mpr h;simp only [List.lookup,D,if_pos h]
  ·have D:(g == f)=false:=dz.mpr h;simp only [List.lookup,D,if_neg h]
 | (k,x)::r=>by
  have G:=yY f g v r;rw [show jS f v ((k,x)::r)=(if k=f then (k,v)::r else (k,x)::jS f v r) from rfl]
  by_cases E:k=f
  ·rw [if_pos E]
   by_cases h:g=k
   ·have D:(g == k)=true:=ie.mpr h;simp only [List.lookup,D,if_pos (h.trans E)]
   ·have D:(g == k)=false:=dz.mpr h;simp only [List.lookup,D,if_neg (fun e:g=f=>h (e.trans E.symm))]
  ·rw [if_neg E]
   by_cases h:g=k
   ·have D:(g == k)=true:=ie.mpr h;simp only [List.lookup,D,if_neg (fun e:g=f=>E (h.symm.trans e))]
   ·have D:(g == k)=false:=dz.mpr h;simp only [List.lookup,D];exact G
theorem xP (f:Str) (v:V):∀E:List (Str×V),f∈(jS f v E).map (·.1)/\∀g,g∈E.map (·.1)->g∈(jS f v E).map (·.1)
 |[]=>⟨by simp [jS],fun g h=>by simp at h⟩
 | (k,x)::r=>by
  obtain ⟨F,G⟩:=xP f v r;rw [show jS f v ((k,x)::r)=(if k=f then (k,v)::r else (k,x)::jS f v r) from rfl]
  by_cases D:k=f
  ·rw [if_pos D];subst D;exact ⟨by simp,fun g h=>by simpa using h⟩
  ·rw [if_neg D];refine ⟨?_,fun g h=>?_⟩
   ·rw [cf];exact aF _ F
   ·rw [cf] at h ⊢
    rcases aj.mp h with e|e
    ·exact aj.mpr (.inl e)
    ·exact aF _ (G g e)
theorem JQ (f:Str) (v:V):∀D:List (Str×V),(jS f v D).length<=D.length+1
 |[]=>by simp [jS]
 | (k,x)::r=>by
  have E:=JQ f v r;rw [show jS f v ((k,x)::r)=(if k=f then (k,v)::r else (k,x)::jS f v r) from rfl]
  by_cases h:k=f
  ·rw [if_pos h,dv,dv];lia
  ·rw [if_neg h,dv,dv];lia
theorem RelO.some_of {v:V} {o:Option Value} (r:RelO (some v) o):∃u,o=some u/\RelV v u:=by
 cases o with
 |none=>exact (show False from r).elim
 |some u=>exact ⟨u,rfl,r⟩
theorem RelO.none_of {o:Option Value} (r:RelO none o):o=none:=by
 cases o with
 |none=>rfl
 |some u=>exact (show False from r).elim
theorem U4 {v:V} {u:Value} (r:RelV v u):PySem.W.handedIn u=true:=by
 cases v with
 |non=>cases (show u=Value.none from r);rfl
 |bl b=>cases (show u=Value.bool b from r);rfl
 |int i=>obtain ⟨t,e⟩:=(show ∃t,u=Value.int i t from r);cases e;rfl
 |str x=>obtain ⟨t,e⟩:=(show ∃t,u=Value.str x t from r);cases e;rfl
 |byt b=>obtain ⟨t,e⟩:=(show ∃t,u=Value.bytes b t from r);cases e;rfl
 |flt b=>obtain ⟨t,e⟩:=(show ∃t,u=Value.float b t from r);cases e;rfl
 |ref a=>cases (show u=Value.ref a from r);rfl
 |ty n=>cases (show u=Value.type n from r);rfl
section
variable {P:Program} {w:World} {H H':Hp} {h h':Heap} {a C dx:Addr} {fs fs':List (Str×V)}
theorem oX (E:HOk P w H h) (e:H a=some (.ins C dx fs)):∃D,ObjM h a dx C D/\(∀f,RelO (fs.lookup f) (D f))/\PySem.Within D (fs.map (·.1))/\fs.length<=1000/\H dx=some (.own a):=by
 obtain ⟨d,z,F,G,D,n,r,q⟩:=(show ObjOk P w H h a (.ins C dx fs) from E a _ e);exact ⟨D,⟨G,n,F⟩,r,q,z,d⟩
end
structure Cls (K:PySem.W.Frag) (C:Addr):Prop where
 pg:PySem.W.plainGet K C Str.empty=true
 hd:PySem.W.hasDictIn K C=true
 po:PySem.W.plainOver K C=true
 sa:PySem.W.findIn K (.ref C) "__setattr__"=some (some (.builtin "object.__setattr__"))
theorem Cls.get {K:PySem.W.Frag} (c:Cls K C) (f:Str):PySem.W.plainGet K C f=true:=c.pg
def NoAttr (K:PySem.W.Frag) (C:Addr) (f:Str):Prop:=PySem.W.findIn K (.ref C) f=some none
theorem NoAttr.taker {K:PySem.W.Frag} {f:Str} (n:NoAttr K C f):PySem.W.takerIn K C f=some none:=by
 unfold PySem.W.takerIn;rw [show PySem.W.findIn K (.ref C) f=some none from n];rfl
structure Meth (K:PySem.W.Frag) (C:Addr) (m:Str) (f:Addr):Prop where
 at_:PySem.W.findIn K (.ref C) m=some (some (.ref f))
 fn:PySem.W.isFn K (.ref f)=true
 kp:PySem.W.keepIn K (.ref f)=true
section
variable {X:Cx} {kc:List (Addr×Obj)} {σ:St} {H:Hp} {s:Shared} {a C dx:Addr} {fs:List (Str×V)} {f:Str} {v:V} {A:Around} {E:Value->Shared->Prop}
theorem TL {b:Bool} {Q:Value->Shared->Prop} (I:Inv X kc σ H s) (e:H a=some (.ins C dx fs)) (c:Cls X.K C) (n:NoAttr X.K C f) (l:fs.lookup f=some v)
  (h:∀u D,Inv X kc σ H D->RelV v u->Q u D):wpAny (model X.prog X.w) A (getAttr (.ref a) f b) Q E s:=by
 obtain ⟨J,O,r,_,_,_⟩:=oX I.hok e;obtain ⟨u,G,F⟩:=RelO.some_of (v:=v) (o:=J f) (by rw [<- l];exact r f);exact X6 I.kIn O (c.get f) c.hd n G (U4 F) (h u _ (I.tok _) F)
theorem nJ {m:Str} {g:Addr} {pl:Sem Bool} {Q:Value×List Value->Shared->Prop} (I:Inv X kc σ H s) (e:H a=some (.ins C dx fs)) (c:Cls X.K C) (k:Meth X.K C m g) (l:fs.lookup m=none)
  (h:Q (.ref g,[.ref a]) s):wpAny (model X.prog X.w) A (getMethod (.ref a) m pl) Q E s:=by
 obtain ⟨D,O,r,_,_,_⟩:=oX I.hok e;have F:D m=none:=RelO.none_of (by rw [<- l];exact r m);exact WK I.kIn O (c.get m) k.at_ k.fn F h
theorem S4 {y:V} {u:Value} {Q:Unit->Shared->Prop} (I:Inv X kc σ H s) (e:H a=some (.ins C dx fs)) (c:Cls X.K C) (n:NoAttr X.K C f) (hl:fs.length<1000) (ry:RelV y u)
  (h:∀F,Inv X kc σ (upd H a (.ins C dx (jS f y fs))) F->Q () F):wpAny (model X.prog X.w) A (setAttr (.ref a) f u) Q E s:=by
 obtain ⟨G,O,r,J,_,L⟩:=oX I.hok e;have M:(fs.map (·.1)).length<=sizeLine:=by rw [ae,sizeLine_eq];lia
 refine XC I.kIn O c.sa c.po n.taker c.hd J M fun Z D sb=>h _ ?_
 have S:∃o,Z.get? dx=some o:=let ⟨o,_,_,Y,_⟩:=D.ns;⟨o,Y⟩
 refine I.write (x:=a) (e:=dx) (by rw [e];exact True.intro) (.inr L) (fun b q hb z=>(sb.2 b hb).trans z) S ?_;refine ⟨by rw [j7 O.ne];exact L,?_,O.ne,D.obj,_,D.ns,fun g=>?_,fun g hg=>?_⟩
 ·have:=JQ f y fs;lia
 ·show RelO ((jS f y fs).lookup g) (if g=f then some u else G g);rw [yY]
  by_cases q:g=f
  ·rw [if_pos q,if_pos q];exact ry
  ·rw [if_neg q,if_neg q];exact r g
 ·by_cases q:g=f
  ·rw [q];exact (xP f y fs).1
  ·refine (xP f y fs).2 g (J g fun z=>hg ?_);show (if g=f then some u else G g)=none;rw [if_neg q];exact z
theorem Inv.made (I:Inv X kc σ H s):Inv X kc σ (upd (upd H s.heap.objs.size (.own (s.heap.objs.size+1))) (s.heap.objs.size+1) (.ins C s.heap.objs.size []))
  {s with heap:=(s.heap.push PySem.W.emptyDict).push (PySem.W.instObj C s.heap.objs.size)}:=by
 have D:(s.heap.push PySem.W.emptyDict).get? s.heap.objs.size=some PySem.W.emptyDict:=aC s.heap rfl;have F:((s.heap.push PySem.W.emptyDict).push (PySem.W.instObj C s.heap.objs.size)).get? (s.heap.objs.size+1)=some (PySem.W.instObj C s.heap.objs.size):=by
  have:=aC (s.heap.push PySem.W.emptyDict) (o:=PySem.W.instObj C s.heap.objs.size) rfl
  rwa [dh] at this
 have G:(s.heap.push PySem.W.emptyDict).Ns s.heap.objs.size (fun _=>none):=⟨PySem.W.emptyDict,#[],_,D,rfl,(fun e J=>absurd J (by simp)),fun _=>rfl⟩;have L:=I.laid (a:=s.heap.objs.size) (o:=.own (s.heap.objs.size+1)) (h':=s.heap.push PySem.W.emptyDict) (t':=s.toks) (fun b u q=>ak _ q) (ao _) ⟨_,D⟩;refine L.laid (a:=s.heap.objs.size+1) (o:=.ins C s.heap.objs.size []) (t':=s.toks) (fun b u q=>ak _ q) (Nat.le_of_eq (dh _ _)) ?_;have h:s.heap.objs.size≠s.heap.objs.size+1:=aS (fj _);refine ⟨by rw [j7 h,jF],aN _,h,F,fun _=>none,(Heap.Ns1.of_empty G).at fun o q=>ak _ q,fun _=>True.intro,fun y M=>absurd rfl M⟩
theorem YH {prog:Program} {w:World} {D:Env} {e:Expr} {f:Str} {I:Pos} {s:Shared} {Q:Value->Shared->Prop} (G:attributeBase e f D (eval e D)=eval e D)
  (h:wpAny (model prog w) A (eval e D) (fun o F=>wpAny (model prog w) A (getAttr o f true) Q E F) E s):wpAny (model prog w) A (eval (.Attribute e f I) D) Q E s :=
 Attribute_any_ h (by rw [arm_eval_Attribute,G])
end
def K4 (K:PySem.W.Frag) (E:TE) (f:Str):TE:=fun F H Q=>E F H fun x D=>∃a C G h v,x=.ref a/\D a=some (.ins C G h)/\Cls K C/\NoAttr K C f/\h.lookup f=some v/\Q v D
def jCe (K:PySem.W.Frag) (I J:TE) (f:Str):TS:=fun D E H=>J E H fun y L=>I E L fun x G=>∃a C F h,x=.ref a/\G a=some (.ins C F h)/\Cls K C/\NoAttr K C f/\h.length<1000/\
 D.nx E (upd G a (.ins C F (jS f y h)))
section
variable {X:Cx} {o e kx:Expr} {f:Str} {kn pos' kg:Pos} {ta tv:TE}
theorem LT (he:PE X e ta) (M:attributeBase e f X.env (eval e X.env)=eval e X.env):PE X (.Attribute e f kn) (K4 X.K ta f):=by
 intro O s G H Q I h;refine YH M (jZ (he O s G H _ I h) fun u s1 ⟨x,J,L,D,a,C,dx,Z,v,E,S,c,n,l,q⟩=>?_);subst E;obtain rfl:u=Value.ref a:=D;exact TL L S c n l fun u' Y V F=>⟨v,J,V,F,q⟩
theorem yG (L:PE X o ta) (hv:PE X kx tv) (hs:swapsWith kx (some (.Attribute o f pos')) kn.line X.env=pure false):PS X (.Assign [.Attribute o f pos'] kx kn) (jCe X.K ta tv f):=by
 intro F s E H D I h;refine plainObj_wpAny_Assign_Attribute (jZ (hv F s E H _ I h) fun u O ⟨y,V,Y,ry,q⟩=>jZ (L F O E V _ Y q) fun M s2 ⟨x,H2,I2,G,a,C,dx,fs,J,ea,c,n,l,S⟩=>?_) hs;subst J;obtain rfl:M=Value.ref a:=G;exact S4 I2 ea c n l ry fun s3 Z=>⟨E,_,Z,S⟩
end
section
variable {X:Cx} {kc:List (Addr×Obj)} {σ:St} {H:Hp} {s:Shared} {A:Around} {E:Value->Shared->Prop} {Q:Value->Shared->Prop} {c:Value} {b:Bool}
inductive TyOf (K:PySem.W.Frag) (H:Hp):V->Value->Prop where
 |non:TyOf K H .non (.type "NoneType")
 |bl (x:Bool):TyOf K H (.bl x) (.type "bool")
 |int (i:Int):TyOf K H (.int i) (.type "int")
 |str (x:Str):TyOf K H (.str x) (.type "str")
 |flt (x:UInt64):TyOf K H (.flt x) (.type "float")
 |lst {a:Addr} {xs:List V} (e:H a=some (.lst xs)):TyOf K H (.ref a) (.type "list")
 |frz {a:Addr} {o:Obj} {xs:List V} (e:H a=some (.frz o (.lst xs))):TyOf K H (.ref a) (.type "list")
 |tup {a:Addr} {xs:List V} (e:H a=some (.tup xs)):TyOf K H (.ref a) (.type "tuple")
 |dK {a:Addr} {kj:List (kY×V)} (e:H a=some (.dK kj)):TyOf K H (.ref a) (.type "dict")
 |dT {a:Addr} {kj:List (List kY×V)} (e:H a=some (.dT kj)):TyOf K H (.ref a) (.type "dict")
 |ins {a C dx:Addr} {fs:List (Str×V)} (e:H a=some (.ins C dx fs)) (cl:Cls K C) (ha:PySem.W.findIn K (.ref C) "__class__"=some (some (.builtin "object.__class__")))
   (hn:PySem.W.specialIn K (.builtin "object.__class__") "__get__"=some (some (.builtin "getset_descriptor.__get__"))) (htk:PySem.W.takesIn K (.builtin "object.__class__")=some true)
   (hm:PySem.W.mroIn K C (.type "object")=some true):TyOf K H (.ref a) (.ref C)
theorem UZ {x:V} {u t:Value} (I:Inv X kc σ H s) (D:RelV x u) (ty:TyOf X.K H x t) (e:PySem.W.kitOne X.K t c=some b) (h:∀tk,Q (.bool b) {s with toks:=tk}) :
  wpAny (model X.prog X.w) A (call (.builtin "isinstance") [u,c]) Q E s:=by
 cases ty with
 |non=>cases (show u=Value.none from D);exact da PySem.W.kitx_none I.kIn True.intro e (fun z=>nomatch z) h
 |bl y=>cases (show u=Value.bool y from D);exact da PySem.W.kitx_bool I.kIn True.intro e (fun z=>nomatch z) h
 |int i=>obtain ⟨t,q⟩:=(show ∃t,u=Value.int i t from D);cases q;exact da PySem.W.kitx_int I.kIn True.intro e (fun z=>nomatch z) h
 |str y=>obtain ⟨t,q⟩:=(show ∃t,u=Value.str y t from D);cases q;exact da PySem.W.kitx_str I.kIn True.intro e (fun z=>nomatch z) h
 |flt y=>obtain ⟨t,q⟩:=(show ∃t,u=Value.float y t from D);cases q;exact da PySem.W.kitx_float I.kIn True.intro e (fun z=>nomatch z) h
 |@lst a L F =>
  cases (show u=Value.ref a from D);obtain ⟨_,_,n,_,G⟩:=(show ObjOk X.prog X.w H s.heap a (.lst L) from I.hok a _ F);exact da PySem.W.kitx_list I.kIn ⟨_,G,rfl⟩ e (fun z=>nomatch z) h
 |@frz a ob L F =>
  cases (show u=Value.ref a from D);obtain ⟨_,_,_,n,_,G⟩:=(show ObjOk X.prog X.w H s.heap a (.frz ob (.lst L)) from I.hok a _ F);exact da PySem.W.kitx_list I.kIn ⟨_,G,rfl⟩ e (fun z=>nomatch z) h
 |@tup a L F =>
  cases (show u=Value.ref a from D);obtain ⟨_,_,_,p⟩:=(show ObjOk X.prog X.w H s.heap a (.tup L) from I.hok a _ F);obtain ⟨o,G,M,_⟩:=p;exact da PySem.W.kitx_tuple I.kIn ⟨o,G,M⟩ e (fun z=>nomatch z) h
 |@dK a Y F =>
  cases (show u=Value.ref a from D);obtain ⟨_,_,vs,_,p⟩:=(show ObjOk X.prog X.w H s.heap a (.dK Y) from I.hok a _ F);obtain ⟨o,es,ep,G,M,_⟩:=p;exact da PySem.W.kitx_dict I.kIn ⟨o,G,M.1⟩ e (fun z=>nomatch z) h
 |@dT a Y F =>
  cases (show u=Value.ref a from D);obtain ⟨_,_,L,_,o,es,ep,G,M,_⟩:=(show ObjOk X.prog X.w H s.heap a (.dT Y) from I.hok a _ F);exact da PySem.W.kitx_dict I.kIn ⟨o,G,M.1⟩ e (fun z=>nomatch z) h
 |@ins a C dx fs F Z ha hn S hm =>
  cases (show u=Value.ref a from D);obtain ⟨mA,O,_⟩:=oX I.hok F;obtain ⟨od,J,_⟩:=O.look;exact da (PySem.W.kitx_own (Z.get _) Z.hd ha hn S hm) I.kIn J e (fun z=>nomatch z) h
end
end L2
namespace L2
open PySem PySem.Spec PyProof.Rows
structure Room (k:Nat) (A:Around):Prop where
 hd:A.handled=none
 dp:A.depth+3*k+5<recursionLimit
 un:A.units+16*k+200<cLine
variable {k:Nat} {A:Around}
theorem Room.mono {j:Nat} (r:Room k A) (h:j<=k):Room j A:=⟨r.hd,by have:=r.dp;lia,by have:=r.un;lia⟩
theorem Room.deeper (r:Room (k+1) A) (h:Env):Room k (A.deeper h) :=
 ⟨r.hd,by have:=r.dp;show A.depth+1+3*k+5<_;lia,by have:=r.un;show A.units+3+16*k+200<_;lia⟩
variable {us:List Value}
theorem TF {C:Addr} {h:List (Str×Value)}:(A.under (.builtin "type.__call__" ⟨.ref C::us,h⟩)).depth=A.depth+1:=by
 first|rfl|simp [Around.under,Code.weight,Code.isCreation,Code.isGuard,Code.isCaller,Code.frames,Code.isFrame,guardIds]
theorem TD {C:Addr} {h:List (Str×Value)}:(A.under (.builtin "type.__call__" ⟨.ref C::us,h⟩)).units=A.units+1:=by
 first|rfl|simp [Around.under,Code.cUnits,Code.frames,Code.isFrame]
theorem Room.make (r:Room (k+1) A) (C:Addr) (us:List Value) (h:List (Str×Value)):Room k (A.under (.builtin "type.__call__" ⟨.ref C::us,h⟩)) :=
 ⟨r.hd,by have:=r.dp;rw [TF];lia,by have:=r.un;rw [TD];lia⟩
theorem Room.depth (r:Room k A):A.depth<recursionLimit:=by have:=r.dp;lia
theorem Room.units (r:Room k A):A.units+64<cLine:=by have:=r.un;lia
theorem Room.units0 (r:Room k A):A.units<cLine:=by have:=r.un;lia
def cA:TA:=fun _ H Q=>Q [] H
def y0 (E:TE) (F:TA):TA:=fun h H Q=>E h H fun x G=>F h G fun D I=>Q (x::D) I
section
variable {X:Cx} {e:Expr} {es:List Expr} {te:TE} {t:TA} {kn:Pos}
theorem jE:PA X [] cA:=fun _ _ _ _ H Q I h=>Calls.spliced_nil ⟨[],H,I,.nil,h⟩
theorem jC (F:PE X e te) (V:PA X es t) (hs:starEach (e::es) X.env=(false,eval e X.env)::starEach es X.env:=by rfl):PA X (e::es) (y0 te t):=by
 intro kn E s D H Q I h;rw [hs];show wpAny _ _ (spliced ((false,eval e X.env)::backTo kn (starEach es X.env))) _ _ s;refine Calls.spliced_cons (jZ (F E s D H _ I h) fun u J ⟨x,M,O,Y,Z⟩=>?_);exact jZ (V kn E J D M _ O Z) fun us s2 ⟨S,H2,I2,G,L⟩=>⟨x::S,H2,I2,.cons Y G,L⟩
def jBw (t:TA):TE:=fun E H Q=>t E H fun h D=>h.length<=sizeLine/\∀p,D p=none->Q (.ref p) (upd D p (.tup h))
def jBz (t:TA):TE:=fun E H Q=>t E H fun h D=>h.length<=sizeLine/\∀p,D p=none->Q (.ref p) (upd D p (.lst h))
theorem qC {L} (h:PA X es t):PE X (.Tuple es L kn) (jBw t):=by
 intro M s G H Q I O;refine wpAny_Tuple_spliced (jZ (h kn M s G H _ I O) fun us D ⟨J,E,F,r,z,q⟩=>⟨by rw [<- r.length];exact z,?_⟩);have S:E D.heap.objs.size=none:=F.hok.fresh (ao _);refine ⟨.ref D.heap.objs.size,upd E D.heap.objs.size (.tup J),F.laid (t':=D.toks) (fun b u e=>ak _ e) (ao _) ?_,rfl,q _ S⟩;exact ⟨z,us,r,⟨_,aC _ rfl,rfl,_,rfl⟩⟩
theorem qA (h:PA X es t):PE X (.List es kn) (jBz t):=by
 intro L s G H Q I M;refine wpAny_List_spliced (jZ (h kn L s G H _ I M) fun us D ⟨J,E,F,r,z,q⟩=>⟨by rw [<- r.length];exact z,?_⟩);have O:E D.heap.objs.size=none:=F.hok.fresh (ao _);refine ⟨.ref D.heap.objs.size,upd E D.heap.objs.size (.lst J),F.laid (t':=D.toks) (fun b u e=>ak _ e) (ao _) ?_,rfl,q _ O⟩;exact ⟨z,us,0,r,aC _ rfl⟩
end
abbrev Sp:=List V->Hp->VK->XK->Prop
abbrev zM:=List Env->Hp->Shared->XK->Value->Shared->Prop
structure Env0 (P:Program) (w:World) (K:PySem.W.Frag) (mg:Str->Option Value) (base:Heap) (A:Around) (outer:List Env) (s:Shared) (H:Hp):Prop where
 frames:A.frames=some outer
 mod:Mod K mg base
 bs:∀b o,base.get? b=some o->s.heap.get? b=some o/\H b=none
 bsz:base.objs.size<=s.heap.objs.size
 funs:s.heap.FunFrames base outer
 frf:∀b∈qE outer,H b=none
 hok:HOk P w H s.heap
 bare:AllBare s.gens
def CE (h:List Env) (P:Program) (w:World) (H:Hp) (s:Shared) (Q:VK) (u:Value) (D:Shared):Prop :=
 ∃v E,D.os=s.os/\AllBare D.gens/\Un (qE h) [] H E s.heap D.heap/\HOk P w E D.heap/\RelV v u/\Q v E
def CR (CX:zM) (h:List Env) (P:Program) (w:World) (H:Hp) (s:Shared) (Q:VK) (E:XK) (r:Result) (D:Shared):Prop :=
 match r with
 |.ok (.ret u)=>CE h P w H s Q u D
 |.ok _=>False
 |.error e=>CX h H s E e D
structure FnOk (P:Program) (w:World) (K:PySem.W.Frag) (mg:Str->Option Value) (base:Heap) (CX:zM) (k:Nat) (f:Addr) (fd:FuncData) (ps:List Str) (sp:Sp):Prop where
 len:∀vs H Q E,sp vs H Q E->vs.length=ps.length
 run:∀(A:Around) (outer:List Env) (s:Shared) (H:Hp) (args:Args) (us:List Value) (vs:List V) (Q:VK) (E:XK),Room k A->Env0 P w K mg base A outer s H->BindsTo s fd args (ps.zip us)->Vals vs us->sp vs H Q E->
  codeAny (model P w) A (.call (.ref f) args) (CR CX outer P w H s Q E) s
variable {P:Program} {w:World} {K:PySem.W.Frag} {mg:Str->Option Value} {base:Heap} {CX:zM} {f:Addr} {ps:List Str}
theorem FnOk.imp {I:FuncData} {sp sp':Sp} (F:FnOk P w K mg base CX k f I ps sp)
  (h:∀vs H Q E,sp' vs H Q E->sp vs H Q E):FnOk P w K mg base CX k f I ps sp' :=
 ⟨fun vs H Q E q=>F.len vs H Q E (h _ _ _ _ q),fun A D s H G us vs Q E M O L J S=>F.run A D s H G us vs Q E M O L J (h _ _ _ _ S)⟩
theorem Env0.make {h:List Env} {s:Shared} {H:Hp} (e:Env0 P w K mg base A h s H) (C:Addr) (us:List Value) (D:List (Str×Value)) :
  Env0 P w K mg base (A.under (.builtin "type.__call__" ⟨.ref C::us,D⟩)) h s H:=⟨by first|exact e.frames|(simpa [Around.under,Code.envs,Code.isFrame,pushEnvs] using e.frames),e.mod,e.bs,e.bsz,e.funs,e.frf,e.hok,e.bare⟩
section
variable {X:Cx} {kc:List (Addr×Obj)} {σ:St} {H:Hp} {s s':Shared}
theorem Inv.env0 (I:Inv X kc σ H s):Env0 X.prog X.w X.K X.mg X.base X.A X.stack s H :=
 ⟨I.ok.frames,I.ok.mod,I.bs,aM I.ok.bsz I.sz,I.stack,I.stkFree,I.hok,I.bare⟩
theorem Inv.after {Q:VK} {u:Value} (I:Inv X kc σ H s) (h:CE X.stack X.prog X.w H s Q u s'):EP X kc σ Q u s':=by
 obtain ⟨v,G,J,D,M,F,r,q⟩:=h;obtain ⟨L,g,d,t,E⟩:=s';obtain rfl:E=s.os:=J;exact ⟨v,G,I.call (h':=L) (g':=g) (d':=d) (t':=t) (ch:=[]) M F D (fun b z=>absurd z (by simp)),r,q⟩
end
def BL (sp:Sp) (dvs:List V) (E:XK) (t:TA):TE:=fun h H Q=>t h H fun F D=>sp (F++dvs) D Q E
def pE (C:Addr) (m:Str) (sp:Sp) (dvs:List V) (E:XK) (G:TE) (t:TA):TE:=fun D H Q=>G D H fun x F=>∃a I h,x=.ref a/\F a=some (.ins C I h)/\h.lookup m=none/\
 t D F fun J L=>sp (x::(J++dvs)) L Q E
def KO (C:Addr) (sp:Sp) (dvs:List V) (E:XK) (t:TA):TE:=fun F H Q=>t F H fun I D=>∀x h,D x=none->D h=none->h≠x->
 sp (.ref x::(I++dvs)) (upd (upd D h (.own x)) x (.ins C h [])) (fun v G=>v=.non/\Q (.ref x) G) E
def Binds (K:PySem.W.Frag) (h:FuncData) (ps:List Str) (ds:List Value):Prop :=
 ∀(s:Shared) (us:List Value),K.In s.heap->(us++ds).length=ps.length->BindsTo s h ⟨us,[]⟩ (ps.zip (us++ds))
theorem Binds.all {E:FuncData} (h:∀us:List Value,us.length=ps.length->bindArgs E ⟨us,[]⟩=pure (ps.zip us)):Binds K E ps []:=fun s us _ D=>by
 rw [cq] at D ⊢;exact .of_eq (h us D)
def dP (CX:zM) (X:Cx) (E:XK):Prop:=∀(F:List (Addr×Obj)) (D:St) (H:Hp) (s:Shared) (e:Value) (h:Shared),Inv X F D H s->CX X.stack H s E e h->X.xe e h
section
variable {X:Cx} {CX:zM} {k:Nat} {f C:Addr} {fd:FuncData} {ps:List Str} {sp:Sp} {dvs:List V} {ds:List Value} {E:XK} {x m:Str} {p kn kh:Pos} {e o:Expr} {es:List Expr} {ta:TE} {t:TA}
theorem iQ {J:List (Addr×Obj)} {G:St} {H:Hp} {s:Shared} {Q:VK} {us:List Value} {vs:List V} (F:FnOk X.prog X.w X.K X.mg X.base CX k f fd ps sp) (hr:Room k X.A) (Z:Binds X.K fd ps ds) (O:Vals dvs ds) (Y:dP CX X E)
  (I:Inv X J G H s) (r:Vals vs us) (h:sp (vs++dvs) H Q E):wpAny (model X.prog X.w) X.A (call (.ref f) us) (EP X J G Q) X.xe s:=by
 have L:Vals (vs++dvs) (us++ds):=r.append O;have hl:(us++ds).length=ps.length:=by rw [<- L.length];exact F.len _ _ _ _ h
 refine wpAny_call (kb (F.run X.A X.stack s H ⟨us,[]⟩ (us++ds) (vs++dvs) Q E hr I.env0 (Z s us I.kIn hl) L h) fun r M D=>?_);cases r with
 |error e=>exact Y J G H s e M I D
 |ok S =>
  cases S with
  |ret u=>exact I.after D
  |next=>exact False.elim D
  |brk=>exact False.elim D
  |cont=>exact False.elim D
theorem XQ (F:FnOk X.prog X.w X.K X.mg X.base CX k f fd ps sp) (hr:Room k X.A) (Y:Gl X x) (S:X.mg x=some (.ref f)) (V:PySem.W.keepIn X.K (.ref f)=true) (Z:Binds X.K fd ps ds) (M:Vals dvs ds) (J:dP CX X E)
  (L:PA X (e::es) t) (D:(x == ("__debug__":Str))=false:=by decide) (he:starEach (e::es) X.env=(false,eval e X.env)::starEach es X.env:=by rfl) (hpl:(backTo kn (starEach es X.env)).any (·.1)=false:=by rfl) :
  PE X (.Call (.Name x p) (e::es) [] kn) (BL sp dvs E t):=by
 intro kc s O H Q I h;refine gk (iL I Y S ?_ D);refine em (h₀:=X.base) I.ok.mod.kin V (jZ (L kn kc s O H _ I h) fun us s1 ⟨vs,H1,G,r,q⟩=>⟨G.kIn,?_⟩) he hpl;exact iQ F hr Z M J G r q
theorem XM {pl:Sem Bool} (he:PE X o ta) (c:Cls X.K C) (M:Meth X.K C m f) (F:FnOk X.prog X.w X.K X.mg X.base CX k f fd ps sp) (hr:Room k X.A) (hb:Binds X.K fd ps ds) (hd:Vals dvs ds) (Y:dP CX X E) (ha:PA X (e::es) t)
  (D:starEach (e::es) X.env=(false,eval e X.env)::starEach es X.env:=by rfl) (hpl:(backTo kn (starEach es X.env)).any (·.1)=false:=by rfl)
  (ht:eval (.Call (.Attribute o m kh) (e::es) [] kn) X.env=(do
   let G <- eval o X.env
   standAt kh.atName
   let (f,first) <- holding [G] (getMethod G m pl)
   callWith kn f first (backTo kn (starEach (e::es) X.env)) (backToKw kn (keywordEach [] X.env))):=by rfl) :
  PE X (.Call (.Attribute o m kh) (e::es) [] kn) (pE C m sp dvs E ta t):=by
 intro O s J H Q I h;refine fq (pl:=pl) (jZ (he O s J H _ I h) fun u s1 ⟨x,H1,L,V,a,dx,fs,Z,ea,l,q⟩=>?_) ht;subst Z;obtain rfl:u=Value.ref a:=V;refine nJ L ea c M l ?_;refine em (first:=[.ref a]) (h₀:=X.base) I.ok.mod.kin M.kp (jZ (ha kn O s1 J H1 _ L q) fun us s2 ⟨vs,H2,S,r,q2⟩=>⟨S.kIn,?_⟩) D hpl;exact iQ (us:=.ref a::us) (vs:=.ref a::vs) F hr hb hd Y S (.cons rfl r) q2
theorem V0 {pl:Sem Bool} (he:PE X o ta) (c:Cls X.K C) (J:Meth X.K C m f) (F:FnOk X.prog X.w X.K X.mg X.base CX k f fd ps sp) (hr:Room k X.A) (Z:Binds X.K fd ps ds) (V:Vals dvs ds) (M:dP CX X E)
  (S:eval (.Call (.Attribute o m kh) [] [] kn) X.env=(do
   let G <- eval o X.env
   standAt kh.atName
   let (f,first) <- holding [G] (getMethod G m pl)
   callWith kn f first (backTo kn (starEach [] X.env)) (backToKw kn (keywordEach [] X.env))):=by rfl) :
  PE X (.Call (.Attribute o m kh) [] [] kn) (pE C m sp dvs E ta cA):=by
 intro kc s Y H Q I h;refine fq (pl:=pl) (jZ (he kc s Y H _ I h) fun u s1 ⟨x,H1,D,L,a,dx,fs,O,ea,l,q⟩=>?_) S;subst O;obtain rfl:u=Value.ref a:=L;refine nJ D ea c J l ?_;exact PySem.W.callWith_K0 (first:=[.ref a]) D.kIn J.kp (iQ (us:=[.ref a]) (vs:=[.ref a]) F hr Z V M D (.cons rfl .nil) q)
structure Mk (K:PySem.W.Frag) (C f:Addr):Prop where
 makes:PySem.W.makesIn K C=true
 init:PySem.W.findIn K (.ref C) "__init__"=some (some (.ref f))
 fn:PySem.W.isFn K (.ref f)=true
 kp:PySem.W.keepIn K (.ref C)=true
theorem VU {O:List (Addr×Obj)} {L:St} {H:Hp} {s:Shared} {Q:VK} {us:List Value} {vs:List V} (M:Mk X.K C f) (F:FnOk X.prog X.w X.K X.mg X.base CX k f fd ps sp) (hr:Room (k+1) X.A) (hb:Binds X.K fd ps ds) (hd:Vals dvs ds)
  (hx:dP CX X E) (I:Inv X O L H s) (r:Vals vs us)
  (h:∀x G,H x=none->H G=none->G≠x->sp (.ref x::(vs++dvs)) (upd (upd H G (.own x)) x (.ins C G [])) (fun v H2=>v=.non/\Q (.ref x) H2) E) :
  wpAny (model X.prog X.w) X.A (call (.ref C) us) (EP X O L Q) X.xe s:=by
 have Y:=h (s.heap.objs.size+1) s.heap.objs.size (I.hok.fresh (Nat.le_succ _)) (I.hok.fresh (ao _)) (aS (fj _));have J:=Inv.made (C:=C) I;have S:Vals (V.ref (s.heap.objs.size+1)::(vs++dvs)) (Value.ref (s.heap.objs.size+1)::(us++ds)):=.cons rfl (r.append hd);have hl:(Value.ref (s.heap.objs.size+1)::us++ds).length=ps.length:=by
  have e:=S.length;rw [F.len _ _ _ _ Y] at e;exact e.symm
 refine wpAny_call (WF (f:=f) I.kIn M.makes M.init (ie.mp M.fn) (kb (F.run _ X.stack _ _ ⟨Value.ref (s.heap.objs.size+1)::us,[]⟩ (Value.ref (s.heap.objs.size+1)::(us++ds)) _ _ E (hr.make C us [])
  (J.env0.make C us []) (hb _ (Value.ref (s.heap.objs.size+1)::us) J.kIn hl) S Y) fun r Z D=>?_))
 cases r with
 |error e=>exact hx O L _ _ e Z J D
 |ok fl =>
  cases fl with
  |ret u =>
   obtain ⟨v,H',I3,rv,ev,q3⟩:=J.after D;subst ev;exact ⟨rv,⟨V.ref (s.heap.objs.size+1),H',I3,rfl,q3⟩⟩
  |next=>exact False.elim D
  |brk=>exact False.elim D
  |cont=>exact False.elim D
theorem XN (M:Mk X.K C f) (F:FnOk X.prog X.w X.K X.mg X.base CX k f fd ps sp) (hr:Room (k+1) X.A) (Y:Gl X x) (V:X.mg x=some (.ref C)) (Z:Binds X.K fd ps ds) (O:Vals dvs ds) (J:dP CX X E)
  (L:PA X (e::es) t) (D:(x == ("__debug__":Str))=false:=by decide) (he:starEach (e::es) X.env=(false,eval e X.env)::starEach es X.env:=by rfl) (hpl:(backTo kn (starEach es X.env)).any (·.1)=false:=by rfl) :
  PE X (.Call (.Name x p) (e::es) [] kn) (KO C sp dvs E t):=by
 intro kc s S H Q I h;refine gk (iL I Y V ?_ D);refine em (h₀:=X.base) I.ok.mod.kin M.kp (jZ (L kn kc s S H _ I h) fun us s1 ⟨vs,H1,G,r,q⟩=>⟨G.kIn,?_⟩) he hpl;exact VU M F hr Z O J G r q
end
section
variable {X:Cx} {CX:zM} {k:Nat} {f C:Addr} {fd:FuncData} {ps ks:List Str} {sp:Sp} {E:XK} {x m:Str} {p kn kh kpos:Pos} {e o:Expr} {es:List Expr} {kws:List Keyword} {te ta:TE} {t tk:TA} {nm:Option Str}
variable {g:List Value->List Value->List Value} {gV:List V->List V->List V}
end
structure FnScope (N P:List Str) (sc:Scope):Prop where
 kind:sc.kind=.function
 co:sc.isCoroutine=false
 gen:sc.isGenerator=false
 nd:N.Nodup
 pre:N.take P.length=P
 par:∀x∈P,sc.names.lookup x=some .local\/sc.names.lookup x=some .cell
 nofree:∀y∈sc.names,y.2≠.free
theorem EY {E:Str->Option NameKind} {x:Str}:∀{D:List (Str×Value)} {m:Str->Option Value},(∀v,(x,v)∉D)->bindL E D m x=m x
 |[],_,_=>rfl
 | (n,v)::r,m,h=>by
  unfold bindL;rw [EY fun w F=>h w (aF _ F)]
  split
  ·have:x≠n:=by rintro rfl;exact h v aT
   simp [this]
  ·rfl
theorem E1 {E:Str->Option NameKind} {x:Str}:∀{D:List (Str×Value)} {m:Str->Option Value},(∀v,(x,v)∉D)->bindC E D m x=m x
 |[],_,_=>rfl
 | (n,v)::r,m,h=>by
  unfold bindC;rw [E1 fun w F=>h w (aF _ F)]
  split
  ·rfl
  ·have:x≠n:=by rintro rfl;exact h v aT
   simp [this]
theorem EZ {D:Str->Option NameKind} {x:Str} {v:Value}:∀{P:List Str} {vs:List Value} {i:Nat} {m:Str->Option Value},P.Nodup->P[i]?=some x->vs[i]?=some v->D x=some .local->
  bindL D (P.zip vs) m x=some v
 |[],_,_,_,_,h,_,_=>by simp at h
 |_::_,[],_,_,_,_,h,_=>by simp at h
 |p::P,w::vs,0,m,I,F,E,G=>by
  simp at F E;subst F;subst E
  show bindL D ((p,w)::P.zip vs) m p=_;unfold bindL;rw [EY fun v J=>(cu.mp I).1 (List.of_mem_zip J).1,if_pos G];simp
 |p::P,w::vs,i+1,m,I,F,E,G=>by
  show bindL D ((p,w)::P.zip vs) m x=_;unfold bindL;exact EZ (i:=i) (cu.mp I).2 (by simpa using F) (by simpa using E) G
theorem E2 {D:Str->Option NameKind} {x:Str} {v:Value}:∀{P:List Str} {vs:List Value} {i:Nat} {m:Str->Option Value},P.Nodup->P[i]?=some x->vs[i]?=some v->D x≠some .local->
  bindC D (P.zip vs) m x=some v
 |[],_,_,_,_,h,_,_=>by simp at h
 |_::_,[],_,_,_,_,h,_=>by simp at h
 |p::P,w::vs,0,m,I,F,E,G=>by
  simp at F E;subst F;subst E
  show bindC D ((p,w)::P.zip vs) m p=_;unfold bindC;rw [E1 fun v J=>(cu.mp I).1 (List.of_mem_zip J).1,if_neg G];simp
 |p::P,w::vs,i+1,m,I,F,E,G=>by
  show bindC D ((p,w)::P.zip vs) m x=_;unfold bindC;exact E2 (i:=i) (cu.mp I).2 (by simpa using F) (by simpa using E) G
def start (N:List Str) (vs:List V):St:=vs.map some++List.replicate (N.length - vs.length) none
def qQ (CX:zM) (P:Program) (w:World) (K:PySem.W.Frag) (mg:Str->Option Value) (base:Heap) (N:List Str) (F:Str) (scope:Scope) (f:Addr) (D:Value) (A:Around) (outer:List Env) (s:Shared) (H:Hp) (E:XK):Cx where
 prog:=P
 w:=w
 K:=K
 mg:=mg
 base:=base
 A:=A.deeper (envOfC F scope s.heap.objs.size f D)
 N:=N
 s₀:=s
 H₀:=H
 env:=envOfC F scope s.heap.objs.size f D
 outer:=outer
 stack:=envOfC F scope s.heap.objs.size f D::outer
 ex:=[]
 calm:=true
 fn:=fun _=>true
 pn:=[]
 xe:=fun e G=>wpAny (model P w) (A.deeper (envOfC F scope s.heap.objs.size f D)) (leaving (envOfC F scope s.heap.objs.size f D) e) (fun _ h=>CX outer H s E e h) (fun I h=>CX outer H s E I h) G
theorem GP {D:Scope} {n:Nat} {x:Str} (h:D.names.lookup x=some .cell):∃c,(cellsFrom n D.names []).lookup x=some c:=by
 have q:=PySem.W.cellsFrom_some D.names n [] (.inl h);exact Option.isSome_iff_exists.mp q
theorem U1 {N:List Str} {Y:Str} {scope:Scope} {cd:Value} {D:List Env} {s s1:Shared} {H:Hp} {E:XK} {vs:List V}
  (S:FnScope N ps scope) (hd:A.handled=none) (G:Env0 P w K mg base A D s H) (hl:vs.length=ps.length) (r:Vals vs us)
  (x:InCallC s s.heap.objs.size (bindL (envOfC Y scope s.heap.objs.size f cd).kindOf (ps.zip us) fun _=>none) (cellsFrom (s.heap.objs.size+1) scope.names []) (bindC (envOfC Y scope s.heap.objs.size f cd).kindOf (ps.zip us) fun _=>none) s1) :
  Inv (qQ CX P w K mg base N Y scope f cd A D s H E) [] (start N vs) H s1:=by
 have ah:ps.length<=N.length:=by have:=bf List.length S.pre;rw [bd] at this;lia
 obtain ⟨O,tk,rfl,hk⟩:=x.done;have I:∀b:Addr,b∉(qQ CX P w K mg base N Y scope f cd A D s H E).ex:=fun b z=>absurd (show b∈([]:List Addr) from z) (by simp)
 refine ⟨⟨G.mod,S.kind,rfl,rfl,ao _,fun y z c O F=>?_,fun y J=>?_,fun y c _ h=>?_,fun _=>hd,Around.frames_deeper G.frames,.inr ⟨rfl,rfl⟩,fun b z=>absurd z (I b),G.bs,G.bsz,fun b _ _=>I b,fun b z=>absurd z (I b),G.funs,G.frf⟩,
  rfl,G.bare,Un.kept hk,⟨_,x.toInCall.ns,fun i y v O F h3=>?_⟩,fun y c h=>⟨_,x.cell y c h⟩,G.hok.fresh (ao _),fun y c h=>?_,fun p M=>absurd (show p∈([]:List (Addr×Obj)) from M) (by simp),G.hok.kept hk,?_⟩
 ·exact name_of_addr x.apart (gg O) (gg F)
 ·have J:scope.names.lookup y=some .cell\/scope.names.lookup y=some .free:=J
  rcases J with J|J
  ·exact GP J
  ·exact absurd rfl (S.nofree _ (gg J))
 ·exact im (x.above y c (gg h))
 ·have Z:i<vs.length:=by
   unfold start at F
   by_cases Z:i<vs.length
   ·exact Z
   ·rw [ar (by simpa using Z)] at F;rw [dm] at F
    split at F<;>cases F
  have ha:vs[i]?=some v:=by
   unfold start at F;rw [aw (by simpa using Z),ap] at F;cases e:vs[i]? with
   |none=>rw [e] at F;cases F
   |some a=>rw [e] at F;cases F;rfl
  obtain ⟨u,hu,rv⟩:=r.get ha;have M:ps[i]?=some y:=by
   rw [<- S.pre,cp (by lia)];exact O
  have L:ps.Nodup:=by rw [<- S.pre];exact S.nd.sublist (List.take_sublist _ _)
  refine ⟨u,rv,?_⟩
  rcases S.par y (ag M) with k|k
  ·exact .inl ⟨k,EZ L M hu k⟩
  ·obtain ⟨c,e⟩:=GP (n:=s.heap.objs.size+1) k;refine .inr ⟨.inl k,c,e,?_⟩;have q:=x.cell y c e;rw [E2 L M hu (by show scope.names.lookup y≠_;rw [k];decide)] at q;exact q
 ·exact G.hok.fresh (im (x.above y c (gg h)))
 ·unfold start;show _=N.length;rw [af,ae,cb]
  lia
theorem BS {name L:Str} {D:Arguments} {ku:List Stmt} {scope:Scope} {dV kV al pm O ct oc:Value} {an od:Option Addr}
  {aU:Array (Option Value)} {N:List Str} {sp:Sp} (lk:K.lookup f=some ⟨oc,od,.func (PySem.W.fnOf name L D ku scope dV kV al pm an O ct),aU⟩) (a3:PySem.W.codeIn K O L=true) (S:FnScope N ps scope)
  (am:∀vs H Q E,sp vs H Q E->vs.length=ps.length)
  (M:∀(A:Around) (h:List Env) (s:Shared) (H:Hp) (vs:List V) (Q:VK) (E:XK),Room k (A.deeper (envOfC L scope s.heap.objs.size f O))->sp vs H Q E->
   ∃t,PSs (qQ CX P w K mg base N L scope f O A h s H E) ku t/\t {nx:=fun _ G=>Q .non G,rt:=Q} (start N vs) H) :
  FnOk P w K mg base CX (k+1) f (PySem.W.fnOf name L D ku scope dV kV al pm an O ct) ps sp:=by
 refine ⟨am,fun A h s H a4 us vs Q E hr e0 hb r ah=>?_⟩;have hl:=am _ _ _ _ ah;have KX:K.In s.heap:=e0.mod.kin.keeps fun b o e=>(e0.bs b o e).1
 have a0:s.heap.NoLimit:=e0.mod.nolimit.keeps fun b o e=>(e0.bs b o e).1
 have Y:∀y∈ps.zip us,scope.names.lookup y.1=some .local\/(scope.names.lookup y.1=some .cell/\((cellsFrom (s.heap.objs.size+1) scope.names []).lookup y.1).isSome=true):=fun ⟨n,v⟩ hy=>by
  rcases S.par n (List.of_mem_zip hy).1 with q|q
  ·exact .inl q
  ·exact .inr ⟨q,PySem.W.cellsFrom_some _ _ _ (.inl q)⟩
 refine codeAny_call_function hr.depth (KX _ _ lk) rfl S.co S.gen rfl (PySem.W.codeRec_of KX a3) (hb _ _ _ _ ?_);refine wpAny_newFunctionEnv_cells S.kind Y fun a5 he s1 x=>?_
 subst he;refine ⟨a0.keeps x.toInCall.keep,codeAny_func ?_⟩;obtain ⟨t,ht,hq⟩:=M A h s H vs Q E (hr.deeper _) ah;have I:Inv (qQ CX P w K mg base N L scope f O A h s H E) [] (start N vs) H s1:=U1 S hr.hd e0 hl r x;refine du (ht [] s1 (start N vs) H _ I hq) (fun fl s' Z=>?_) fun e s' Z=>Z
 have aD:∀{F:St} {G:Hp} {v:V} {u:Value},Inv (qQ CX P w K mg base N L scope f O A h s H E) [] F G s'->RelV v u->Q v G->CE h P w H s Q u s' :=
  fun {F G v u} J rv q=>⟨v,G,J.os,J.bare,J.base,J.hok,rv,q⟩
 cases fl with
 |ret u =>
  obtain ⟨v,F,G,J,rv,q⟩:=Z;exact aD J rv q
 |next =>
  obtain ⟨F,G,J,q⟩:=Z;exact aD (v:=V.non) (u:=Value.none) J rfl q
 |brk =>
  obtain ⟨_,_,_,q⟩:=Z;exact False.elim q
 |cont =>
  obtain ⟨_,_,_,q⟩:=Z;exact False.elim q
end L2
namespace L2
open PySem PySem.Spec PyProof.Rows
section
variable {X:Cx} {x:Str} {p kn:Pos} {e:Expr} {es:List Expr} {t:TA} {id T:String} {r:List V->Hp->VK->Prop}
def CF (r:List V->Hp->VK->Prop) (t:TA):TE:=fun h H Q=>t h H fun E D=>r E D Q
theorem yX (Z:y7 X (.builtin id) r) (hg:Gl X x) (V:X.mg x=none) (hv:bootBuiltins x=some (.builtin id)) (G:PA X (e::es) t) (Y:x≠"__name__":=by decide) (D:(x == ("__debug__":Str))=false:=by decide)
  (he:starEach (e::es) X.env=(false,eval e X.env)::starEach es X.env:=by rfl) (hpl:(backTo kn (starEach es X.env)).any (·.1)=false:=by rfl):PE X (.Call (.Name x p) (e::es) [] kn) (CF r t):=by
 intro F s E H Q I h;refine gk (dN I hg V hv ?_ Y D);exact PyProof.Rows.callWith_builtin1 (jZ (G kn F s E H _ I h) fun J L ⟨O,M,S,r1,q1⟩=>Z F L E M O J Q S r1 q1) he hpl
theorem vJ (Z:y7 X (.type T) r) (hg:Gl X x) (V:X.mg x=none) (hv:bootBuiltins x=some (.type T)) (G:PA X (e::es) t) (Y:x≠"__name__":=by decide) (D:(x == ("__debug__":Str))=false:=by decide)
  (he:starEach (e::es) X.env=(false,eval e X.env)::starEach es X.env:=by rfl) (hpl:(backTo kn (starEach es X.env)).any (·.1)=false:=by rfl):PE X (.Call (.Name x p) (e::es) [] kn) (CF r t):=by
 intro F s E H Q I h;refine gk (dN I hg V hv ?_ Y D);exact di (jZ (G kn F s E H _ I h) fun J L ⟨O,M,S,r1,q1⟩=>Z F L E M O J Q S r1 q1) he hpl
end
end L2
namespace HT
open PySem PyProof.Rows
section
open PySem.SeqAt
open PySem.AutoSeq1 (wpAny_loadPart')
open PySem.MeetsSeq PySem.MeetsSeq2 PySem.MeetsSeq3
end
section
variable {prog:Program} {w:World} {A:Around} {E:Value->Shared->Prop} {s:Shared}
theorem cat_tup {t b:Addr} {vs h:List Value} {Q:Value->Shared->Prop} (ht:IsTup s.heap t vs.toArray) (hb:IsTup s.heap b h.toArray) (hv:vs≠[])
  (h1:h=[]->Q (.ref t) s) (h2:h≠[]->Q (.ref s.heap.objs.size) {s with heap:=s.heap.push {cls:=.type "tuple",data:=.seq (vs++h).toArray}})
  (hsz:vs.length+h.length<=sizeLine):wpAny (model prog w) A (binaryOp .Add (.ref t) (.ref b)) Q E s:=by
 obtain ⟨⟨cls,Y,data,sl⟩,O,Z,n,V⟩:=id ht;obtain ⟨⟨ah,J,S,G⟩,D,L,n2,I⟩:=id hb;simp only at Z V L I;subst Z V L I;have e:vs.toArray++h.toArray=(vs++h).toArray:=by simp
 by_cases M:h=[]
 ·exact concat_meets ⟨_,O,rfl⟩ ⟨_,D,rfl⟩ noFill_tuple_add seq_tuple_add PySem.F.slot_tuple_add PySem.F.entry_tuple_add (PySem.F.args_tuple_add_2 _ _)
   (tuple_addW1 t b vs.toArray h.toArray n n2 Y J sl G (by simpa using hv) (by simp [M])) ⟨O,D,h1 M⟩
 ·refine concat_meets ⟨_,O,rfl⟩ ⟨_,D,rfl⟩ noFill_tuple_add seq_tuple_add PySem.F.slot_tuple_add PySem.F.entry_tuple_add (PySem.F.args_tuple_add_2 _ _)
   (tuple_addW2 t b vs.toArray h.toArray n n2 Y J sl G (by simpa using hv) (by simpa using M) (by rw [List.size_toArray,List.size_toArray];exact hsz)) ⟨O,D,?_⟩
  rw [e];exact h2 M
def sIx (n d:Nat):Option Int->Nat
 |none=>d
 |some v=>if v<0 then (v+(n:Int)).toNat else min v.toNat n
theorem sIx_none (n d:Nat):sIx n d none=d:=rfl
theorem sIx_nat (n d k:Nat):sIx n d (some (k:Int))=min k n:=by
 show (if (k:Int)<0 then ((k:Int)+(n:Int)).toNat else min (k:Int).toNat n)=min k n;rw [if_neg (by lia),Int.toNat_natCast]
end
end HT
namespace L2
open PySem PySem.Spec PyProof.Rows
abbrev TO:=St->Hp->(Option Int->Hp->Prop)->Prop
def PO (X:Cx) (e:Option Expr) (t:TO):Prop :=
 ∀(E:List (Addr×Obj)) (s:Shared) (h:St) (H:Hp) (Q:Option Int->Hp->Prop),Inv X E h H s->t h H Q->
  wpAny (model X.prog X.w) X.A (evalPart e X.env) (fun u F=>∃o D,Inv X E h D F/\IsPart u o/\Q o D) X.xe s
def W6:TO:=fun _ H Q=>Q none H
def jAr (t:TE):TO:=fun h H Q=>t h H fun x D=>∃i,x=.int i/\Q (some i) D
section
variable {X:Cx} {e:Expr} {te:TE} {lo hi:Option Expr} {tl th:TO} {kn p2:Pos}
theorem Z4:PO X none W6:=by
 intro E s D H Q I h;rw [evalPart_none];exact aX ⟨none,H,I,.none,h⟩
theorem ZV (h:PE X e te):PO X (some e) (jAr te):=by
 intro F s G H Q I E;rw [evalPart_some];refine jZ (h F s G H _ I E) fun u O ⟨x,J,M,L,D⟩=>?_
 obtain ⟨i,rfl,q⟩:=D;obtain ⟨t,rfl⟩:=L;exact ⟨some i,J,M,.int i t,q⟩
def rO (X:Cx) (r:V->Option Int->Option Int->Hp->VK->Prop):Prop :=
 ∀(G:List (Addr×Obj)) (s:Shared) (F:St) (H:Hp) (x:V) (v h E:Value) (lo hi:Option Int) (D:Addr) (Q:VK),Inv X G F H s->RelV x v->s.heap.IsSliceOf D h E .none->IsPart h lo->IsPart E hi->r x lo hi H Q->
  ∃T id,typeLookup (.type T) "__getitem__"=pure (some (.builtin id))/\s.TypeIs v T/\wpAny (model X.prog X.w) X.A (getItem v (.ref D)) (EP X G F Q) X.xe s
def tSl (r:V->Option Int->Option Int->Hp->VK->Prop) (te:TE) (tl th:TO):TE:=fun h H Q=>te h H fun x D=>tl h D fun l E=>th h E fun u F=>r x l u F Q
theorem Z3 {r:V->Option Int->Option Int->Hp->VK->Prop} (hr:rO X r) (he:PE X e te) (hl:PO X lo tl) (hu:PO X hi th):PE X (.Subscript e (.Slice lo hi none p2) kn) (tSl r te tl th):=by
 intro F s E H Q I h;refine Subscript_ (jZ (he F s E H _ I h) fun v Z ⟨x,H1,I1,r1,q1⟩=>?_);refine wpAny_Slice (jZ (hl F Z E H1 _ I1 q1) fun J M ⟨l,H2,I2,pl,q2⟩=>jZ (hu F M E H2 _ I2 q2) fun G D ⟨u,L,I3,S,q3⟩=>?_);rw [evalPart_none];refine aX ?_;have I4:Inv X F E L {D with heap:=D.heap.push {cls:=.type "slice",data:=.fields #[J,G,.none]}}:=I3.kept (t':=D.toks) fun b ob q=>ak _ q
 obtain ⟨T,id,Y,O,hg⟩:=hr F {D with heap:=D.heap.push {cls:=.type "slice",data:=.fields #[J,G,.none]}} E L x v J G l u D.heap.objs.size Q I4 r1 (Heap.IsSliceOf.new ..) pl S q3;show wpAny (model X.prog X.w) X.A (subscriptTail e (.Slice lo hi none p2) v (.ref D.heap.objs.size)) (EP X F E Q) X.xe {D with heap:=D.heap.push {cls:=.type "slice",data:=.fields #[J,G,.none]}};exact tail_any (ops:=[.ref D.heap.objs.size,v]) O Y hg (by with_unfolding_all rfl)
def QP (xs:List V) (lo hi:Option Int):List V:=(xs.drop (HT.sIx xs.length 0 lo)).take (HT.sIx xs.length xs.length hi - HT.sIx xs.length 0 lo)
theorem SR (xs:List V) (lo hi:Option Int):(QP xs lo hi).length<=xs.length:=by
 unfold QP;rw [bd,List.length_drop]
 lia
def jBf (K:PySem.W.Frag):R2:=fun x y H Q=>∃a b D h,x=.ref a/\y=.ref b/\SqT K H a D/\SqT K H b h/\D≠[]/\D.length+h.length<=sizeLine/\
 (h=[]->Q (.ref a) H)/\(h≠[]->∀p,H p=none->Q (.ref p) (upd H p (.tup (D++h))))
theorem Vals.nil_iff {xs:List V} {us:List Value} (r:Vals xs us):us=[]↔xs=[]:=by
 cases r with
 |nil=>simp
 |cons _ _=>simp
theorem XT:qW X (binaryOp .Add) (jBf X.K):=by
 intro kc s σ H x y v u Q I J Z h;obtain ⟨a,b,V,ys,rfl,rfl,M,Y,L,F,q1,O⟩:=h;cases J;cases Z;obtain ⟨S,E,p1,_⟩:=I.tuple M;obtain ⟨G,D,p2,_⟩:=I.tuple Y;refine HT.cat_tup p1 p2 (fun z=>L (E.nil_iff.mp z)) (fun z=>⟨.ref a,H,I,rfl,q1 (D.nil_iff.mp z)⟩) (fun z=>?_) (by rw [<- E.length,<- D.length];exact F);refine ⟨.ref s.heap.objs.size,_,I.laid (t':=s.toks) (o:=.tup (V++ys)) (fun b ob q=>ak _ q) (ao _) ?_,rfl,O (fun w=>z (D.nil_iff.mpr w)) _ (I.hok.fresh (ao _))⟩;exact ⟨by rw [af];exact F,_,E.append D,IsTup.new _ _⟩
end
def QG (n:Nat) (i:Int):Option Nat:=if 0<=i then (if i<n then some i.toNat else none) else if -(n:Int)<=i then some (i+n).toNat else none
def vM {h:Type} (xs:List h) (i:Int):Option h:=(QG xs.length i).bind fun j=>xs[j]?
theorem HX {n:Nat} {i:Int} {j:Nat} (h:QG n i=some j):seqIndex? i n=some j/\j<n/\-(n:Int)<=i/\i<n:=by
 unfold QG at h
 by_cases E:0<=i
 ·rw [if_pos E] at h
  by_cases D:i<n
  ·rw [if_pos D] at h;have e:i.toNat=j:=aA h;exact ⟨by rw [seqIndex_of E D,e],by lia,by lia,D⟩
  ·rw [if_neg D] at h;cases h
 ·rw [if_neg E] at h
  by_cases D : -(n:Int)<=i
  ·rw [if_pos D] at h;have e:(i+n).toNat=j:=aA h;exact ⟨by rw [seqIndex_neg (by lia) D,e],by lia,D,by lia⟩
  ·rw [if_neg D] at h;cases h
variable {α:Type}
theorem oZ {xs:List α} {i:Int} {v:α} (h:vM xs i=some v):∃j,seqIndex? i xs.length=some j/\xs[j]?=some v/\j<xs.length/\-(xs.length:Int)<=i/\i<xs.length:=by
 unfold vM at h;cases e:QG xs.length i with
 |none=>rw [e] at h;cases h
 |some j =>
  rw [e] at h;obtain ⟨G,D,E,F⟩:=HX e;exact ⟨j,G,h,D,E,F⟩
theorem qF {xs:List α} {j:Nat} {v:α} (h:xs[j]?=some v):vM xs (j:Int)=some v:=by
 have D:j<xs.length:=(ad.mp h).1;have e:QG xs.length (j:Int)=some j:=by
  unfold QG;rw [if_pos (by lia),if_pos (by lia)];simp
 unfold vM;rw [e];exact h
theorem atI_last (xs:List α) (v:α):vM (xs++[v]) (-1)=some v:=by
 have h:(xs++[v]).length=xs.length+1:=by simp
 have e:QG (xs++[v]).length (-1)=some xs.length:=by
  unfold QG;rw [h,if_neg (by decide),if_pos (by lia)]
  congr 1
  lia
 unfold vM;rw [e];show (xs++[v])[xs.length]?=some v;simp
def IG (b:Expr):Prop:=∀o i,subscripted b false o i=operate [o,i] (getItem o i)
def IxR (X:Cx) (r:R2):Prop :=
 ∀(F h:Expr) (E:List (Addr×Obj)) (s:Shared) (D:St) (H:Hp) (x y:V) (v u:Value) (Q:VK),Inv X E D H s->RelV x v->RelV y u->r x y H Q->
  subscripted h false v u=operate [v,u] (getItem v u)->wpAny (model X.prog X.w) X.A (subscriptTail F h v u) (EP X E D Q) X.xe s
def LN (X:Cx) (id:String) (r:V->List V->Hp->VK->Prop):Prop :=
 ∀(E:List (Addr×Obj)) (s:Shared) (D:St) (H:Hp) (x:V) (h:List V) (v:Value) (F:List Value) (Q:VK),Inv X E D H s->RelV x v->Vals h F->r x h H Q->
  wpAny (model X.prog X.w) X.A (call (.builtin id) (v::F)) (EP X E D Q) X.xe s
section
variable {X:Cx} {a b:Expr} {ta tb:TE} {kn:Pos}
theorem IxR.or {r G:R2} (h:IxR X r) (h':IxR X G):IxR X (fun x y H Q=>r x y H Q\/G x y H Q):=by
 intro F E M s J H x y v u Q I D O q L
 rcases q with q|q
 ·exact h F E M s J H x y v u Q I D O q L
 ·exact h' F E M s J H x y v u Q I D O q L
theorem LQ {r:R2} (L:IxR X r) (F:PE X a ta) (J:PE X b tb) (S:IG b):PE X (.Subscript a b kn) (eG r ta tb):=by
 intro M s G H Q I h;exact Subscript_ (B3 F J I h fun v u D x y Y V E O q=>L a b M D G Y x y v u Q V E O q (S _ _))
def pU (K:PySem.W.Frag):R2:=fun x y H Q=>∃p h i v,x=.ref p/\y=.int i/\SqL K H p h/\vM h i=some v/\Q v H
def BZ (K:PySem.W.Frag):R2:=fun x y H Q=>∃p h i v,x=.ref p/\y=.int i/\SqT K H p h/\vM h i=some v/\Q v H
def K7:R2:=fun x y H Q=>∃z i c,x=.str z/\y=.int i/\z.length<=sizeLine/\vM z.cps.toList i=some c/\Q (.str ⟨#[c]⟩) H
theorem CN:IxR X (pU X.K):=by
 intro kx kr S s M H x y v u Q I rx ry h Y;obtain ⟨p,xs,i,z,rfl,rfl,hq,he,q⟩:=h;cases rx;obtain ⟨t,rfl⟩:=ry;obtain ⟨G,r,F,hz⟩:=I.list hq;obtain ⟨j,E,h2,h3,h4,h5⟩:=oZ he;obtain ⟨w,O,L⟩:=r.get h2;have hl:=r.length;have hn:=dM;have D:EP X S M Q w s:=⟨z,H,I,L,q⟩
 by_cases V:0<=i
 ·have J:i.toNat=j:=by
   rw [seqIndex_of V h5] at E;exact aA E
  exact item_listR F.isList V (by lia) (by rw [J];simpa using O) D Y
 ·have J:(i+(G.toArray.size:Int)).toNat=j:=by
   rw [seqIndex_neg (by lia) h4] at E;rw [aq,<- hl];exact aA E
  exact subscriptTail_builtinR (x:=w) F.isList.typeIs slot_list_getitem.lookup
   (wpAny_getItem_list_neg (Q:=fun r Z=>r=w/\EP X S M Q r Z) F.isList (by lia) (by rw [aq]<;>lia) (by lia) (by rw [J];simpa using O) ⟨rfl,D⟩) Y
theorem ix_tup:IxR X (BZ X.K):=by
 intro kx kr J s F H x y v u Q I M ry h hs;obtain ⟨p,xs,i,z,rfl,rfl,hq,Z,q⟩:=h;cases M;obtain ⟨t,rfl⟩:=ry;obtain ⟨Y,r,G,hz⟩:=I.tuple hq;obtain ⟨j,O,h2,h3,h4,h5⟩:=oZ Z;obtain ⟨w,V,D⟩:=r.get h2;have S:=r.length;have hn:=dM;have E:EP X J F Q w s:=⟨z,H,I,D,q⟩;exact subscriptTail_builtinR (x:=w) G.typeIs slot_tuple_getitem.lookup
  (getItem_tuple (j:=j) (Q:=fun r L=>r=w/\EP X J F Q r L) G (by lia) (by lia) (by rw [aq,<- S];exact O) (by simpa using V) ⟨rfl,E⟩) hs
theorem BH:IxR X K7:=by
 intro kx kr kc s σ H x y v u Q I E M h V;obtain ⟨z,i,c,rfl,rfl,Z,L,q⟩:=h;obtain ⟨t,rfl⟩:=E;obtain ⟨t',rfl⟩:=M;obtain ⟨j,D,O,h3,S,G⟩:=oZ L;have J:z.cps.toList.length=z.length:=by simp [Str.length]
 rw [J] at D S G;have hn:=dM;exact tail_any (typeIs_str s z t) slot_str_getitem.lookup (getItem_str (c:=c) (by
  have Y:decide (i < -(2 ^ 63:Int))=false:=ax (by lia);have F:decide (i>=2 ^ 63)=false:=ax (by lia);rw [Y,F,Bool.or_false]) (by rw [D];simpa using O) ⟨.str ⟨#[c]⟩,H,I.tok _,⟨_,rfl⟩,q⟩) V
def CG (K:PySem.W.Frag):R2:=fun x y H Q=>pU K x y H Q\/BZ K x y H Q\/K7 x y H Q
theorem jAh:IxR X (CG X.K):=CN.or (ix_tup.or BH)
theorem TC (its:List Value) (n j:Nat) (u:Value):Obj.mapSeq (·.setIfInBounds j u) {cls:=.type "list",data:=.seq its.toArray n}={cls:=.type "list",data:=.seq (its.set j u).toArray n}:=by
 simp [Obj.mapSeq]
theorem Inv.lst {E:List (Addr×Obj)} {D:St} {H:Hp} {s:Shared} {p:Addr} {xs:List V} (I:Inv X E D H s) (h:H p=some (.lst xs)) :
  ∃(its:List Value) (n:Nat),Vals xs its/\s.heap.get? p=some {cls:=.type "list",data:=.seq its.toArray n}/\xs.length<=sizeLine:=by
 obtain ⟨z,its,n,r,e⟩:=I.hok p _ h;exact ⟨its,n,r,e,z⟩
theorem Inv.lstUpd {F:List (Addr×Obj)} {E:St} {H:Hp} {s:Shared} {p:Addr} {xs ys:List V} {its its':List Value} {n D:Nat} {f:Obj->Obj} (I:Inv X F E H s) (h:H p=some (.lst xs))
  (L:s.heap.get? p=some {cls:=.type "list",data:=.seq its.toArray n}) (G:f {cls:=.type "list",data:=.seq its.toArray n}={cls:=.type "list",data:=.seq its'.toArray D}) (r:Vals ys its') (J:ys.length<=sizeLine) (t:Nat) :
  Inv X F E (upd H p (.lst ys)) {s with heap:=s.heap.update p f,toks:=t}:=by
 have e:(s.heap.update p f).get? p=some {cls:=.type "list",data:=.seq its'.toArray D}:=by
  rw [io f L (by rw [G]<;>rfl),G]
 refine I.write (x:=p) (e:=p) (by rw [h];trivial) (.inl rfl) (fun b u M q=>(gj _ _ (Ne.symm M)).trans q) ⟨_,e⟩ ?_;exact ⟨J,its',D,r,e⟩
def jBb:V->V->V->Hp->(Hp->Prop)->Prop:=fun o i v H Q=>∃p h k j,o=.ref p/\i=.int k/\H p=some (.lst h)/\QG h.length k=some j/\Q (upd H p (.lst (h.set j v)))
theorem fJ:B6 X jBb:=by
 intro kc s Z H o i v ov iv u Q I ro ri rv h;obtain ⟨p,xs,k,j,rfl,rfl,S,hj,q⟩:=h;cases ro;obtain ⟨t,rfl⟩:=ri;obtain ⟨D,n,r,J,Y⟩:=I.lst S;obtain ⟨E,h2,L,V⟩:=HX hj;have F:=r.length;have hn:=dM;have O:Inv X kc Z (upd H p (.lst (xs.set j v))) {s with heap:=s.heap.update p (Obj.mapSeq (·.setIfInBounds j u))} :=
  I.lstUpd S J (TC D n j u) (r.set rv j) (by rw [cv];exact Y) s.toks
 by_cases M:0<=k
 ·have G:k.toNat=j:=by
   rw [seqIndex_of M V] at E;exact aA E
  exact PySem.W.ki_setAt J M (by lia) (by rw [aq,<- F];exact V) (by rw [G];exact ⟨_,O,q⟩)
 ·have G:(k+(D.toArray.size:Int)).toNat=j:=by
   rw [seqIndex_neg (by lia) L] at E;rw [aq,<- F];exact aA E
  exact PySem.W.ki_setBack J (by lia) (by rw [aq,<- F];exact L) (by lia) (by rw [G];exact ⟨_,O,q⟩)
theorem R9 (lo hi:Option Int) (n:Nat):(sliceBounds lo hi none n).1=((HT.sIx n 0 lo:Nat):Int)/\(sliceBounds lo hi none n).2.1=((HT.sIx n n hi:Nat):Int)/\(sliceBounds lo hi none n).2.2=1:=by
 refine ⟨?_,?_,rfl⟩
 ·cases lo with
  |none=>simp [sliceBounds,HT.sIx]
  |some i =>
   simp only [sliceBounds,HT.sIx,Option.getD_none,show (1:Int)>0 by decide,if_true]
   by_cases h:i<0
   ·simp only [h,if_true]<;>lia
   ·simp only [h,if_false]<;>lia
 ·cases hi with
  |none=>simp [sliceBounds,HT.sIx]
  |some i =>
   simp only [sliceBounds,HT.sIx,Option.getD_none,show (1:Int)>0 by decide,if_true]
   by_cases h:i<0
   ·simp only [h,if_true]<;>lia
   ·simp only [h,if_false]<;>lia
theorem R1 (its:List Value) (lo hi:Option Int):slicePick its.toArray lo hi none=((its.drop (HT.sIx its.length 0 lo)).take (HT.sIx its.length its.length hi - HT.sIx its.length 0 lo)).toArray:=by
 obtain ⟨h,D,E⟩:=R9 lo hi its.toArray.size;unfold slicePick;rw [h,D,E];simp only [sliceRange_one,pick_run,aq]<;>rfl
def K6 (K:PySem.W.Frag):V->Option Int->Option Int->Hp->VK->Prop:=fun x D E H Q=>∃a h,x=.ref a/\SqL K H a h/\∀p,H p=none->Q (.ref p) (upd H p (.lst (QP h D E)))
theorem XA:rO X (K6 X.K):=by
 intro kc s σ H x v vl vu F G sl Q I L Z V S h;obtain ⟨a,D,rfl,O,q⟩:=h;cases L;obtain ⟨Y,r,J,M⟩:=I.list O;have E:=r.length;refine ⟨"list",_,slot_list_getitem.lookup,J.isList.typeIs,?_⟩;refine wpAny_getItem_list_slice J.isList Z V S .none (by simp) ?_ (by rw [aq]<;>lia);rw [R1,<- E];refine ⟨.ref s.heap.objs.size,_,I.laid (t':=s.toks) (o:=.lst (QP D F G)) (fun b ob q=>ak _ q) (ao _) ?_,rfl,q _ (I.hok.fresh (ao _))⟩;exact ⟨aM (SR D F G) M,_,0,(r.drop (HT.sIx D.length 0 F)).take (HT.sIx D.length D.length G - HT.sIx D.length 0 F),aC _ rfl⟩
def vY:V->Bool
 |.non=>true
 |.bl _=>true
 |.int _=>true
 |.str _=>true
 |_=>false
def yW:V->V->Bool
 |.non,.non=>true
 |.bl a,.bl b=>a == b
 |.bl a,.int b=>(if a then 1 else 0) == b
 |.int a,.bl b=>a == (if b then 1 else 0)
 |.int a,.int b=>a == b
 |.str a,.str b=>a == b
 |_,_=>false
theorem BI {A:Around} {s:Shared} {y x:V} {u v:Value} (F:RelV y u) (h:RelV x v) (G:vY y=true) (E:vY x=true):SeqAt.EqAt A s u v (yW y x):=by
 cases y with
 |non =>
  cases F;cases x with
  |non=>cases h;exact SeqAt.EqAt.same _
  |bl b=>cases h;exact SeqAt.EqAt.none_bool b
  |int b=>obtain ⟨t,rfl⟩:=h;exact SeqAt.EqAt.none_int b t
  |str b=>obtain ⟨t,rfl⟩:=h;exact SeqAt.EqAt.none_str b t
  |_=>exact absurd (show false=true from E) aH
 |bl a =>
  cases F;cases x with
  |non=>cases h;exact SeqAt.EqAt.bool_none a
  |bl b=>cases h;exact SeqAt.EqAt.bool_bool a b
  |int b=>obtain ⟨t,rfl⟩:=h;exact SeqAt.EqAt.bool_int a b t
  |str b=>obtain ⟨t,rfl⟩:=h;exact SeqAt.EqAt.bool_str a b t
  |_=>exact absurd (show false=true from E) aH
 |int a =>
  obtain ⟨D,rfl⟩:=F;cases x with
  |non=>cases h;exact SeqAt.EqAt.int_none a D
  |bl b=>cases h;exact SeqAt.EqAt.int_bool a D b
  |int b=>obtain ⟨t,rfl⟩:=h;exact SeqAt.EqAt.int_int a D b t
  |str b=>obtain ⟨t,rfl⟩:=h;exact SeqAt.EqAt.int_str a D b t
  |_=>exact absurd (show false=true from E) aH
 |str a =>
  obtain ⟨D,rfl⟩:=F;cases x with
  |non=>cases h;exact SeqAt.EqAt.str_none a D
  |bl b=>cases h;exact SeqAt.EqAt.str_bool a D b
  |int b=>obtain ⟨t,rfl⟩:=h;exact SeqAt.EqAt.str_int a D b t
  |str b=>obtain ⟨t,rfl⟩:=h;exact SeqAt.EqAt.str_str a D b t
  |_=>exact absurd (show false=true from E) aH
 |_=>exact absurd (show false=true from G) aH
def zE (x:V) (u:Value):Bool:=match u with
 |.none=>yW .non x
 |.bool b=>yW (.bl b) x
 |.int i _=>yW (.int i) x
 |.str z _=>yW (.str z) x
 |_=>false
theorem pD {x y:V} {u:Value} (r:RelV y u) (f:vY y=true):zE x u=yW y x:=by
 cases y with
 |non=>cases r;rfl
 |bl b=>cases r;rfl
 |int i=>obtain ⟨t,rfl⟩:=r;rfl
 |str z=>obtain ⟨t,rfl⟩:=r;rfl
 |_=>exact absurd (show false=true from f) aH
theorem iN {x:V}:∀{xs:List V} {us:List Value},Vals xs us->xs.all vY=true->us.any (zE x)=xs.any fun y=>yW y x
 |_,_,.nil,_=>rfl
 |y::xs,u::us,.cons r t,f=>by
  rw [List.all_cons,fk] at f;rw [iy,iy,pD r f.1,iN t f.2]
theorem dC {A:Around} {s:Shared} {x:V} {v:Value} (D:RelV x v) (E:vY x=true):∀{xs:List V} {us:List Value},Vals xs us->xs.all vY=true->∀u∈us,SeqAt.EqAt A s u v (zE x u)
 |_,_,.nil,_=>fun u h=>by cases h
 |y::xs,u::us,.cons r t,f=>fun F h=>by
  rw [List.all_cons,fk] at f
  rcases aj.mp h with rfl|h
  ·rw [pD r f.1];exact BI r D f.1 E
  ·exact dC D E t f.2 F h
def ZT (x:V) (xs:List V):Bool:=xs.any fun y=>yW y x
def LJ (K:PySem.W.Frag) (neg:Bool):R2:=fun x y H Q=>∃p h,y=.ref p/\(SqL K H p h\/SqT K H p h)/\vY x=true/\h.all vY=true/\Q (.bl (if neg then !ZT x h else ZT x h)) H
theorem UK:qW X (compareOp .In) (LJ X.K false):=by
 intro Z s V H x y v u Q I L S h;obtain ⟨p,Y,rfl,E,M,F,q⟩:=h;cases S
 rcases E with E|E
 ·obtain ⟨D,r,J,O⟩:=I.list E;refine SeqAt.in_listAt (zE x) J.isList (fun w G=>dC L M r F w (by simpa using G)) ⟨.bl _,H,I,rfl,?_⟩;rw [show D.toArray.any (zE x)=D.any (zE x) by simp,iN r F];exact q
 ·obtain ⟨D,r,J,O⟩:=I.tuple E;refine SeqAt.in_tupleAt (zE x) J (fun w G=>dC L M r F w (by simpa using G)) ⟨.bl _,H,I,rfl,?_⟩;rw [show D.toArray.any (zE x)=D.any (zE x) by simp,iN r F];exact q
theorem SB:qW X (compareOp .NotIn) (LJ X.K true):=by
 intro Z s V H x y v u Q I L S h;obtain ⟨p,Y,rfl,E,M,F,q⟩:=h;cases S
 rcases E with E|E
 ·obtain ⟨D,r,J,O⟩:=I.list E;refine SeqAt.notIn_listAt (zE x) J.isList (fun w G=>dC L M r F w (by simpa using G)) ⟨.bl _,H,I,rfl,?_⟩;rw [show D.toArray.any (zE x)=D.any (zE x) by simp,iN r F];exact q
 ·obtain ⟨D,r,J,O⟩:=I.tuple E;refine SeqAt.notIn_tupleAt (zE x) J (fun w G=>dC L M r F w (by simpa using G)) ⟨.bl _,H,I,rfl,?_⟩;rw [show D.toArray.any (zE x)=D.any (zE x) by simp,iN r F];exact q
theorem LW:y7 X (.builtin "len") (fun xs H Q=>∃p ys,xs=[.ref p]/\(SqL X.K H p ys\/SqT X.K H p ys)/\Q (.int ys.length) H):=by
 intro S s O H xs Y Q I r h;obtain ⟨p,ys,rfl,E,q⟩:=h;obtain ⟨u,rfl,L⟩:=Q2 r;cases L;have V:=dM
 rcases E with E|E
 ·obtain ⟨F,G,J,M⟩:=I.list E;have D:=G.length;exact Calls.call_len_list J.isList (by simp only [aq]<;>lia) ⟨.int ys.length,H,I.tok _,⟨s.toks+1,by rw [aq,D]⟩,q⟩
 ·obtain ⟨F,G,J,M⟩:=I.tuple E;have D:=G.length;exact len_tuple J (by simp only [aq]<;>lia) ⟨.int ys.length,H,I.tok _,⟨s.toks+1,by rw [aq,D]⟩,q⟩
theorem SE:y7 X (.builtin "len") (fun xs H Q=>∃z,xs=[.str z]/\z.length<=sizeLine/\Q (.int z.length) H):=by
 intro F s E H xs J Q I r h;obtain ⟨z,rfl,D,q⟩:=h;obtain ⟨u,rfl,t,rfl⟩:=Q2 r;have G:=dM;exact len_str (by lia) ⟨.int z.length,H,I.tok _,⟨_,rfl⟩,q⟩
theorem SD:y7 X (.type "list") (fun xs H Q=>∃p ys,xs=[.ref p]/\(SqL X.K H p ys\/SqT X.K H p ys)/\∀l,H l=none->Q (.ref l) (upd H l (.lst ys))):=by
 intro kc s σ H xs us Q I r h;obtain ⟨p,ys,rfl,O,q⟩:=h;obtain ⟨u,rfl,rx⟩:=Q2 r;cases rx;have S:∀(D:List Value),Vals ys D->ys.length<=sizeLine->∀(E:Heap) (F:Nat),(∀b o',s.heap.get? b=some o'->E.get? b=some o')->
   E.get? s.heap.objs.size=some {cls:=.type "list",dict:=none,data:=.seq D.toArray F,slots := #[]}->EP X kc σ Q (.ref s.heap.objs.size) {s with heap:=E}:=fun D G J E F L e =>
  ⟨.ref s.heap.objs.size,_,I.laid (t':=s.toks) L (ao _) (show ObjOk X.prog X.w _ E _ (.lst ys) from ⟨J,D,F,G,e⟩),rfl,q _ (I.hok.fresh (ao _))⟩
 rcases O with O|O
 ·obtain ⟨D,G,Y,J⟩:=I.list O;have M:=G.length;obtain ⟨o,ho,Z,n,V⟩:=Y.isList;exact call_list_seq p (.inl rfl) ho Z V (fun E F L e=>S D G J E F L e) (by simp only [aq]<;>lia)
 ·obtain ⟨D,G,Y,J⟩:=I.tuple O;have M:=G.length;obtain ⟨o,ho,Z,n,V⟩:=Y;exact call_list_seq p (.inr rfl) ho Z V (fun E F L e=>S D G J E F L e) (by simp only [aq]<;>lia)
theorem R5:y7 X (.type "tuple") (fun xs H Q=>∃p ys,xs=[.ref p]/\((SqL X.K H p ys/\∀l,H l=none->Q (.ref l) (upd H l (.tup ys)))\/(SqT X.K H p ys/\Q (.ref p) H))):=by
 intro V s O H xs us Q I r h;obtain ⟨p,ys,rfl,h⟩:=h;obtain ⟨u,rfl,Y⟩:=Q2 r;cases Y
 rcases h with ⟨G,q⟩|⟨G,q⟩
 ·obtain ⟨D,J,F,L⟩:=I.list G;have M:=J.length;refine call_tuple_list F.isList (fun E Z=>?_) (by simp only [aq]<;>lia);have S:Inv X V O H {s with heap:=E}:=I.kept (t':=s.toks) Z;have I2:Inv X V O (upd H E.objs.size (.tup ys)) {s with heap:=E.push {cls:=.type "tuple",data:=.seq D.toArray}} :=
   S.laid (t':=s.toks) (fun b o e=>ak _ e) (ao _) (show ObjOk X.prog X.w _ _ _ (.tup ys) from ⟨L,D,J,IsTup.new _ _⟩)
  exact ⟨.ref E.objs.size,_,I2,rfl,q _ (S.hok.fresh (ao _))⟩
 ·obtain ⟨D,J,F,L⟩:=I.tuple G;exact call_tuple_same F ⟨.ref p,H,I,rfl,q⟩
def LI (K:PySem.W.Frag) (T:String) (x:V) (H:Hp):Prop:=match x with
 |.str _=>T="str"
 |.int _=>T="int"
 |.ref p=>(T="list"/\∃D,SqL K H p D)\/(T="tuple"/\∃o,K.lookup p=some o/\o.cls=.type "tuple"/\o.dict=none)\/
   (T="dict"/\((∃h,H p=some (.dK h))\/∃h,H p=some (.dT h)))\/(T="set"/\∃S n,H p=some (.set S n))
 |_=>False
theorem YR {kc:List (Addr×Obj)} {M:St} {H:Hp} {s:Shared} {T:String} {x:V} {v:Value} (I:Inv X kc M H s) (r:RelV x v) (E:LI X.K T x H) :
  s.TypeIs v T/\∀a,v=.ref a->∃J,s.heap.get? a=some J/\J.dict=none:=by
 cases x with
 |str z =>
  obtain ⟨t,rfl⟩:=r;cases (show T="str" from E);exact ⟨typeIs_str s z t,fun _ e=>nomatch e⟩
 |int i =>
  obtain ⟨t,rfl⟩:=r;cases (show T="int" from E);exact ⟨typeIs_int s i t,fun _ e=>nomatch e⟩
 |ref p =>
  cases r
  rcases E with ⟨rfl,xs,hq⟩|⟨rfl,o,h,O,G⟩|⟨rfl,h⟩|⟨rfl,S,n,h⟩
  ·obtain ⟨Y,_,L,_⟩:=I.list hq;refine ⟨L.isList.typeIs,fun a e=>?_⟩;cases e;obtain ⟨o,n,e,c,G,_⟩:=L;exact ⟨o,e,G⟩
  ·refine ⟨⟨o,I.kIn p o h,O⟩,fun a e=>?_⟩;cases e;exact ⟨o,I.kIn _ o h,G⟩
  ·have z:∃o,s.heap.get? p=some o/\o.ExactDict:=by
    rcases h with ⟨Z,h⟩|⟨Z,h⟩
    ·obtain ⟨_,_,_,_,o,_,_,e,D,_⟩:=I.hok p _ h;exact ⟨o,e,D⟩
    ·obtain ⟨_,_,_,_,o,_,_,e,D,_⟩:=I.hok p _ h;exact ⟨o,e,D⟩
   obtain ⟨o,e,D⟩:=z;refine ⟨⟨o,e,D.1⟩,fun a F=>?_⟩;cases F;exact ⟨o,e,D.2.1⟩
  ·obtain ⟨o,_,_,_,e,D,_⟩:=I.hok p _ h;refine ⟨⟨o,e,D.1⟩,fun a F=>?_⟩;cases F;exact ⟨o,e,D.2.1⟩
 |_=>exact False.elim E
def tBM (K:PySem.W.Frag) (T:String) (r:V->List V->Hp->VK->Prop) (to:TE) (t:TA):TE:=fun h H Q=>to h H fun x D=>LI K T x D/\t h D fun E F=>r x E F Q
variable {o e:Expr} {es:List Expr} {to:TE} {t:TA} {name:Str} {kh cpos:Pos} {T id:String} {r:V->List V->Hp->VK->Prop}
theorem zR (pa:PlainAttrs T) (G:Slot T name id) (M:typeOf (.builtin id)=pure (.type "method_descriptor")) (hm:LN X id r) (ho:PE X o to) (ha:PA X (e::es) t)
  (F:attributeBase o name X.env (eval o X.env)=eval o X.env:=by rfl)
  (J:((backTo cpos (starEach (e::es) X.env)).all (fun x => !x.1)&&(backToKw cpos (keywordEach [] X.env)).all (fun x=>x.1.isSome)
   && decide ((e::es).length+([]:List Keyword).length+(if ([]:List Keyword).isEmpty then 0 else 1)<30))=true:=by rfl)
  (E:(kh.endLine == cpos.line)=true:=by rfl) (hs:starEach (e::es) X.env=(false,eval e X.env)::starEach es X.env:=by rfl) (D:(backTo cpos (starEach es X.env)).any (·.1)=false:=by rfl) :
  PE X (.Call (.Attribute o name kh) (e::es) [] cpos) (tBM X.K T r to t):=by
 intro O s L H Q I h;refine wpAny_Call_method_late F J E rfl (jZ (ho O s L H _ I h) fun v s1 ⟨x,H1,S,V,ty,q1⟩=>?_);obtain ⟨h1,h2⟩:=YR S V ty;refine ⟨T,id,pa,G,M,h1,h2,?_⟩;have Y:=ha cpos O s1 L H1 _ S q1;rw [hs] at Y ⊢;refine Calls.callWith_builtin (by show (false||(backTo cpos (starEach es X.env)).any (·.1))=false;rw [D]<;>rfl) (Calls.evalArgs_plain ?_);exact jZ Y fun us Z ⟨vs,H2,I2,r2,q2⟩=>hm O Z L H2 x vs v us Q I2 V r2 q2
/- xs.append(e),list.index on a module's tuple .. are LN facts of 06m -/
end
end L2
namespace L2
open PySem PySem.Spec PyProof.Rows
def lO (X:Cx) (id:String) (r:V->List V->Hp->VK->Prop):Prop :=
 ∀(E:List (Addr×Obj)) (s:Shared) (D:St) (H:Hp) (x:V) (h:List V) (v:Value) (F:List Value) (Q:VK),Inv X E D H s->RelV x v->Vals h F->r x h H Q->
  wpAny (model X.prog X.w) X.A (call (.builtin id) (v::F)) (EP X E D Q) X.xe s
theorem Vals.one:∀{x:V} {us:List Value},Vals [x] us->∃u,us=[u]/\RelV x u
 |_,_,.cons r .nil=>⟨_,rfl,r⟩
theorem Vals.rep {xs:List V} {us:List Value} (h:Vals xs us):∀k:Nat,Vals (List.replicate k xs).flatten (List.replicate k us).flatten
 |0=>.nil
 |k+1=>by
  rw [bz,bz,gb,gb];exact Vals.append h (Vals.rep h k)
theorem ER (its:List Value):∀(k:Nat) (h:List Value),
  List.foldl (fun E D=>E++D) h.toArray (List.replicate k its.toArray)=(h++(List.replicate k its).flatten).toArray
 |0,h=>by simp
 |k+1,h=>by
  have e:h.toArray++its.toArray=(h++its).toArray:=by simp
  have F:(h++its)++(List.replicate k its).flatten=h++(List.replicate (k+1) its).flatten:=by
   rw [bz,gb,ig]
  rw [<- F,<- ER its k (h++its),<- e,bz,List.foldl_cons]
section
variable {X:Cx} {kc:List (Addr×Obj)} {σ:St} {H:Hp} {s:Shared} {l b:Addr} {xs ys zs:List V}
theorem Inv.lset {its its':List Value} {n:Nat} {f:Array Value->Array Value} {t':Nat} (I:Inv X kc σ H s) (h:H l=some (.lst xs))
  (e:s.heap.get? l=some {cls:=.type "list",data:=.seq its.toArray n}) (J:f its.toArray=its'.toArray) (E:Vals ys its') (D:ys.length<=sizeLine) :
  Inv X kc σ (upd H l (.lst ys)) {s with heap:=s.heap.update l (Obj.mapSeq f),toks:=t'}:=by
 have q:=PySem.IsL.update e f;rw [J] at q;refine I.write (x:=l) (e:=l) (by rw [h];exact trivial) (.inl rfl) (fun L u F G=>(gj s.heap (Obj.mapSeq f) (Ne.symm F)).trans G) ⟨_,q⟩ ?_;exact ⟨D,its',_,E,q⟩
theorem Inv.lnew {its:List Value} {t':Nat} (I:Inv X kc σ H s) (h:Vals ys its) (D:ys.length<=sizeLine) :
  Inv X kc σ (upd H s.heap.objs.size (.lst ys)) {s with heap:=s.heap.push {cls:=.type "list",data:=.seq its.toArray},toks:=t'} :=
 I.laid (fun _ _ q=>ak _ q) (ao _) ⟨D,its,0,h,aC _ rfl⟩
theorem Inv.fresh (I:Inv X kc σ H s):H s.heap.objs.size=none:=I.hok.fresh (ao _)
theorem Inv.lstM (I:Inv X kc σ H s) (h:H l=some (.lst xs)):xs.length<=sizeLine/\∃(its:List Value) (n:Nat),Vals xs its/\xs.length=its.length/\s.heap.get? l=some {cls:=.type "list",data:=.seq its.toArray n}:=by
 obtain ⟨z,its,n,r,e⟩:=I.hok l _ h;exact ⟨z,its,n,r,r.length,e⟩
theorem FW {n:Nat} (h:n<=sizeLine):Builtin.List.listTooLong n=false:=by
 unfold Builtin.List.listTooLong;exact ax (by lia)
end
section
variable {X:Cx}
def XG:V->List V->Hp->VK->Prop:=fun x D H Q=>∃l h y,x=.ref l/\D=[y]/\H l=some (.lst h)/\h.length<sizeLine/\Q .non (upd H l (.lst (h++[y])))
theorem J7:lO X "list.append" XG:=by
 intro kc s S H x V v O Q I G L h;obtain ⟨l,Z,y,rfl,rfl,E,M,q⟩:=h;cases G;obtain ⟨u,rfl,J⟩:=L.one;obtain ⟨z,D,n,r,Y,e⟩:=I.lstM E;refine gu F.slot_list_append ⟨_,e,rfl⟩ F.entry_list_append (F.args_list_append_2 _ _) (PySem.list_append l D.toArray n u (by rw [aq];lia)) ⟨e,?_⟩;refine ⟨.non,_,I.lset (its':=D++[u]) E e (by simp) (r.append (.cons J .nil)) ?_,rfl,q⟩;rw [af,aE]
 lia
def XF:V->List V->Hp->VK->Prop:=fun x E H Q=>∃l b h D,x=.ref l/\E=[.ref b]/\H l=some (.lst h)/\H b=some (.lst D)/\h.length+D.length<=sizeLine/\Q .non (upd H l (.lst (h++D)))
theorem EM:lO X "list.extend" XF:=by
 intro kc s σ H x vs v us Q I O rv h;obtain ⟨l,b,xs,zs,rfl,rfl,L,hB,hz,q⟩:=h;cases O;obtain ⟨u,rfl,V⟩:=rv.one;cases V;obtain ⟨z,E,n,r,hl,e⟩:=I.lstM L;obtain ⟨z2,D,Z,Y,M,S⟩:=I.lstM hB;have J:E.toArray.size+D.toArray.size<=sizeLine:=by rw [aq,aq];lia
 have G:¬(!E.toArray.isEmpty&&Builtin.List.listTooLong (E.toArray.size+D.toArray.size))=true:=by
  rw [FW J,Bool.and_false];exact aH
 refine gu F.slot_list_extend ⟨_,e,rfl⟩ F.entry_list_extend (F.args_list_extend_2 _ _)
  (AutoSeq1.list_extend_list_list_0 l E.toArray n b D.toArray Z G (by rw [aq];lia) (by lia)) ⟨e,S,?_⟩
 refine ⟨.non,_,I.lset (its':=E++D) L e (by simp) (r.append Y) ?_,rfl,q⟩;rw [af]
 lia
def jCk:R2:=fun x y H Q=>∃l b h D,x=.ref l/\y=.ref b/\H l=some (.lst h)/\H b=some (.lst D)/\h.length+D.length<=sizeLine/\∀p,H p=none->Q (.ref p) (upd H p (.lst (h++D)))
theorem bW:qW X (binaryOp .Add) jCk:=by
 intro kc s Z H x y v u Q I G O h;obtain ⟨l,b,xs,zs,rfl,rfl,M,S,Y,q⟩:=h;cases G;cases O;obtain ⟨z,E,n,r,hl,e⟩:=I.lstM M;obtain ⟨z2,D,n2,L,F,J⟩:=I.lstM S;refine PySem.P.add_list e J ?_ (by rw [aq,aq];lia);have V:E.toArray++D.toArray=(E++D).toArray:=by simp
 rw [V];exact ⟨.ref _,_,I.lnew (t':=s.toks) (r.append L) (by rw [af];lia),rfl,q _ I.fresh⟩
def jCg:R2:=fun x y H Q=>∃l k h,x=.ref l/\y=.int k/\H l=some (.lst h)/\-(2 ^ 63)<=k/\k<2 ^ 63/\h.length*k.toNat<=sizeLine/\
 ∀p,H p=none->Q (.ref p) (upd H p (.lst (List.replicate k.toNat h).flatten))
theorem HU {D:Type} (xs:List D) (k:Nat):(List.replicate k xs).flatten.length=k*xs.length:=by
 induction k with
 |zero=>simp
 |succ k h=>rw [bz,gb,af,h,Nat.succ_mul,Nat.add_comm]
theorem IW:qW X (binaryOp .Mult) jCg:=by
 intro kc s σ H x y v u Q I Z ry h;obtain ⟨l,k,xs,rfl,rfl,hH,h1,h2,V,q⟩:=h;cases Z;obtain ⟨t,rfl⟩:=ry;obtain ⟨z,D,n,r,hl,e⟩:=I.lstM hH;have G:D.toArray.size*k.toNat<=sizeLine:=by rw [aq,<- hl];exact V
 have M:¬D.toArray.size*k.toNat>(2 ^ 63 - 1) / 8:=by
  have:(sizeLine:Nat)<=(2 ^ 63 - 1) / 8:=by decide
  lia
 have L:¬(!Builtin.List.listFitsIndex k)=true:=by
  rw [fitsIndex_both h1 h2];exact aH
 have E:¬Builtin.List.listTooLong (D.toArray.size*k.toNat)=true:=by
  rw [FW G];exact aH
 have J:List.foldl (fun S O=>S++O) #[] (List.replicate (if D.toArray.isEmpty=true then 0 else k.toNat) D.toArray)=(List.replicate k.toNat D).flatten.toArray:=by
  have f0:∀m:Nat,List.foldl (fun S O=>S++O) #[] (List.replicate m D.toArray)=(List.replicate m D).flatten.toArray:=fun m=>by
   have:=ER D m [];rw [List.nil_append] at this;exact this
  rw [f0];cases D with
  |nil=>simp
  |cons a r'=>rw [if_neg (by simp)]
 refine wpAny_binaryOp_repeat_ref (T:="list") (U:="int") (by decide) ⟨_,e,rfl⟩ (fun Y=>typeIs_int Y k t) noFill_list_mul F.fills_int_mul iz repeat_list F.slot_int_index.lookup
  (gu iz (typeIs_int s k t) F.entry_int_rmul (F.args_int_rmul_2 _ _) (int___rmul___int_list k t l D.toArray n)
   ⟨e,rfl,⟨_,e,rfl⟩,gu F.slot_list_mul ⟨_,e,rfl⟩ F.entry_list_mul (F.args_list_mul_2 _ _) (AutoListH.list___mul___list_int_3 l D.toArray n k t L M E) ⟨e,?_⟩⟩)
 rw [J];exact ⟨.ref _,_,I.lnew (t':=s.toks) (r.rep k.toNat) (by rw [HU,Nat.mul_comm];exact V),rfl,q _ I.fresh⟩
end
section
variable {prog:Program} {w:World} {A:Around} {E:Value->Shared->Prop} {s:Shared}
end
section
variable {X:Cx}
end
end L2
namespace Att
open PySem PySem.W PySem.Calls PyProof.Rows
theorem RZ {P:Params} {h:Heap}:∀(D:List Int) (vs:List Value),WellAll P h vs (D.map WData.int)->IntsAre vs D:=by
 intro D
 induction D with
 |nil =>
  intro vs w;rw [List.map_nil] at w;cases w;exact .nil
 |cons n D E =>
  intro vs w;rw [List.map_cons] at w;cases w with
  |cons a b =>
   cases a;exact .cons _ _ (E _ b)
theorem UB {l:OpenLaw} {n:Nat} (hn:l.most=some n) {P:Params} {h:Heap} {args:List WData} {F:List Value}
  (E:l.row.toRowW.claim.pre args=true) (O:WellAll P h F args) :
  ∃a vs D,F=[Value.ref a]/\args=[WData.list (D.map WData.int)]/\h.get? a=some {cls:=.type "list",data:=.seq vs.toArray}/\IntsAre vs D/\D.length<=n:=by
 have M:WShape.hasAll [] args [.list .int]=true:=(pre_splitW E).1;have S:l.pre.holds [] {args:=args}=true:=(pre_splitW E).2;obtain ⟨d,r,rfl,V,h2⟩:=hasAllW_cons M;obtain rfl:=hasAllW_nil h2;obtain ⟨xs,rfl,h3⟩:=hasW_list V;obtain ⟨D,rfl⟩:=items_int h3;have G:D.length<=n:=by
  unfold OpenLaw.pre at S;have L:(WTm.not (.lt (.lit (.int (n:Int))) (.len (.arg 0)))).holds [] {args:=[.list (D.map .int)]}=true:=by
   have L:=(holds_andW S).1;rw [hn] at L;exact L
  have J:=condW_of L (w_not (w_lt w_lit (w_len_list (w_arg rfl))));rw [List.length_map] at J;refine Nat.le_of_not_lt fun q=>?_
  have Z:(n:Int)<((D.length:Nat):Int):=by lia
  first
   | (rw [decide_eq_true Z] at J;exact absurd J (by decide))
   | (simp at J;lia)
 cases O with
 |cons w1 Y =>
  cases Y;cases w1 with
  |list ho I=>exact ⟨_,_,D,rfl,rfl,ho,RZ D _ I,G⟩
theorem UE (l:OpenLaw) (args:List WData):l.row.toRowW.claim.post args (.bool true) args=true :=
 postW_of (r:=l.row.toRowW) (X:=(true == true))
  (show WShape.has [] (.bool true) .bool=true by first|rfl|decide|simp [WShape.has,WShape.arms,WShape.armsAll])
  (show (WTm.eq .res (.lit (.bool true))).value [] {args:=args,res:=some (.bool true),after:=args}=some (.bool (true == true)) from w_eq_bool (w_res rfl) w_lit) rfl
theorem attach_call {l:OpenLaw} {n:Nat} {q:Program} {D:List Str} {XP:(Str->Option Value)->Heap->Prop} {YP:World->Heap->Prop} {d:DefRec}
  (hn:l.most=some n) (am:d.params.defaults=[])
  (S:∀(w:World) (E h:Shared) (mg mb:Str->Option Value) (O:Addr) (o:Obj) (pm cd F:Value) (a:Addr) (vs:List Value) (Z:List Int),
   Ground q D [] XP w E mg mb h.heap->YP w h.heap->
   h.heap.get? O=some o->o.data=.func (docDef d.name d.params d.body d.scope pm cd F)->h.heap.CodeRec cd d.name->mg d.name=some (.ref O)->
   h.heap.get? a=some {cls:=.type "list",data:=.seq vs.toArray}->IntsAre vs Z->Z.length<=n->h.gens = #[]->
   codeAny (model l.prog w) callerA (.call (.ref O) ⟨[.ref a],[]⟩) (fun r V=>r=.ok (.ret (.bool true))/\OldK h.heap V.heap/\V.os=h.os/\AllBare V.gens) h) :
  WalkO q D XP YP l.row.toRowW d [] (fun f vs=>PySem.call f vs):=by
 intro w E h mg mb G Y O o pm cd F dV kV ho hd al hD ah hg aU a0 as J aD a4 an a3;obtain rfl:dV=.none:=Dflts.none hD am;obtain rfl:kV=.none:=Dflts.noKw hD;obtain ⟨a,vs,Z,rfl,rfl,M,I,L⟩:=UB hn J an;refine enter_call (codeAny_mono (S w E h mg mb O o pm cd F a vs Z G Y ho (fd_plain hd) al ah M I L hg) fun r V hq=>?_);obtain ⟨rfl,h2,h3,h4⟩:=hq;exact ⟨.inl ⟨.bool true,.bool true,[],rfl,fun _=>rfl,.bool true,UE l _,fun _=>⟨List.Pairwise.nil,fun _ hm=>(nomatch hm)⟩⟩,h2,h3,h4⟩
section
variable {prog:Program} {w:World} {A:Around} {E:Value->Shared->Prop} {s:Shared} {K:Frag}
def ledger (h:Heap) (L d:Addr):List (Addr×Obj):=(List.range h.objs.size).filterMap fun a=>if a=L\/a=d then none else (h.get? a).map fun o=>(a,o)
end
end Att
namespace L2
open PySem PySem.Spec PyProof.Rows
theorem DX:∀{vs:List Value} {D:List Int},IntsAre vs D->Vals (D.map V.int) vs
 |_,_,.nil=>.nil
 |_,_,.cons n t h=>.cons ⟨t,rfl⟩ (DX h)
def B7 (H:Hp):Prop:=∀b,H b=none\/∃o h,H b=some (.frz o (.lst h))
theorem WI {P:Program} {w:World} {K:PySem.W.Frag} {mg mb:Str->Option Value} {CX:zM} {k:Nat} {fa a:Addr} {fd:FuncData} {x:Str} {sp:Sp} {D:Shared} {vs:List Value} {S:List Int}
  (KX:K.In D.heap) (ah:D.heap.Ns mainGlobals mg) (G:D.heap.Ns builtinsNs mb) (a0:∀x:Str,x≠"__name__"->mb x=bootBuiltins x) (Y:D.heap.NoLimit) (hg:D.gens = #[])
  (ha:D.heap.get? a=some {cls:=.type "list",data:=.seq vs.toArray}) (hi:IntsAre vs S) (hl:S.length<=sizeLine) (hr:Room k callerA)
  (F:∀base:Heap,K.In base->base.Ns mainGlobals mg->FnOk P w K mg base CX k fa fd [x] sp) (M:∀(s:Shared) (u:Value),BindsTo s fd ⟨[u],[]⟩ [(x,u)])
  (aU:∀H:Hp,B7 H->SqL K H a (S.map V.int)->sp [.ref a] H (fun v _=>v=.bl true) fun _ _ _=>False)
  (a4:∀H e I,CX [] H D (fun _ _ _=>False) e I->False) :
  codeAny (model P w) callerA (.call (.ref fa) ⟨[.ref a],[]⟩) (fun r I=>r=.ok (.ret (.bool true))/\OldK D.heap I.heap/\I.os=D.os/\AllBare I.gens) D:=by
 have rv:=DX hi;have O:=hi.length;have L:∀H:Hp,B7 H->SqL K H a (S.map V.int)->HOk P w H D.heap->(∀b,H b≠none->b=a)->(H a≠none->K.lookup a=none)->
   codeAny (model P w) callerA (.call (.ref fa) ⟨[.ref a],[]⟩) (fun r I=>r=.ok (.ret (.bool true))/\OldK D.heap I.heap/\I.os=D.os/\AllBare I.gens) D:=by
  intro H hO hS aD hA hK;have E:∀{b:Addr} {o:Obj},D.heap.get? b=some o->H b=none->(bH D.heap H).get? b=some o:=fun e n=>WJ e n
  have a3:∀{b:Addr} {o:Obj} {Z:Array DictEntry} {ep:Nat},D.heap.get? b=some o->o.data=.dict Z ep->H b=none:=fun {b o Z ep} e d=>by
   cases q:H b with
   |none=>rfl
   |some u =>
    have e':b=a:=hA b (by rw [q];simp);subst e';rw [ha] at e;cases e
    have d':Data.seq vs.toArray _=Data.dict Z ep:=d;cases d'
  have J:∀{b:Addr} {m:Str->Option Value},D.heap.Ns b m->(bH D.heap H).Ns b m:=fun {b m} ⟨o,Z,ep,e,d,r⟩=>⟨o,Z,ep,E e (a3 e d),d,r⟩
  have am:K.In (bH D.heap H):=fun b o e=>E (KX b o e) (by
   cases q:H b with
   |none=>rfl
   |some u =>
    have e':b=a:=hA b (by rw [q];simp);subst e';rw [hK (by rw [q];simp)] at e;cases e)
  have hM:Mod K mg (bH D.heap H):=⟨am,J ah,⟨mb,J G,a0⟩,let ⟨mc,h1,h2⟩:=Y;⟨mc,J h1,h2⟩⟩;have e0:Env0 P w K mg (bH D.heap H) callerA [] D H:=⟨rfl,hM,fun b o e=>XV e,Nat.le_of_eq (U3 _ _),trivial,fun b G=>absurd (show b∈([]:List Addr) from G) (by simp),aD,.of_eq hg⟩;refine kb ((F _ am (J ah)).run callerA [] D H ⟨[.ref a],[]⟩ [.ref a] [.ref a] _ _ hr e0 (M D (.ref a)) (.cons rfl .nil) (aU H hO hS)) fun r I h=>?_
  cases r with
  |error e=>exact (a4 H e I h).elim
  |ok fl =>
   cases fl with
   |next=>exact False.elim h
   |brk=>exact False.elim h
   |cont=>exact False.elim h
   |ret u =>
    obtain ⟨v,H',os,an,un,al,r',q⟩:=h;have q':v=.bl true:=q;subst q';obtain rfl:u=Value.bool true:=r';refine ⟨rfl,OldK.of_keep fun b o e=>?_,os,an⟩;cases q:H b with
    |none=>exact un.keep b o e q (by intro z;exact absurd (show b∈([]:List Addr) from z) (by simp)) (by simp)
    |some u =>
     rcases hO b with z|⟨ob,xs,z⟩
     ·rw [q] at z;cases z
     ·have z2:=un.frzs b ob _ z;obtain ⟨e1,_⟩:=aD b _ z;obtain ⟨e2,_⟩:=al b _ z2;rw [e] at e1;cases e1
      exact e2
 cases hk:K.lookup a with
 |some o =>
  have e:=KX a o hk;rw [ha] at e;cases e;refine L (fun _=>none) (fun _=>.inl rfl) (.inr ⟨_,vs.toArray,_,hk,rfl,rfl,rfl,by rw [aq,O];exact hl,by simpa using rv⟩) (fun b u z=>by have z':(none:Option HO)=some u:=z;cases z') (fun b z=>absurd rfl z) fun z=>absurd rfl z
 |none =>
  refine L (fun b=>if b=a then some (.frz {cls:=.type "list",data:=.seq vs.toArray} (.lst (S.map V.int))) else none) (fun b=>?_) (.inl (.inr ⟨{cls:=.type "list",data:=.seq vs.toArray},if_pos rfl⟩)) (fun b u z=>?_) (fun b z=>?_) fun _=>hk
  ·by_cases G:b=a
   ·exact .inr ⟨_,_,if_pos G⟩
   ·exact .inl (if_neg G)
  ·by_cases G:b=a
   ·have z':=(if_pos G).symm.trans z;cases z';subst G;exact ⟨ha,by rw [ae];exact hl,vs,_,rv,ha⟩
   ·have z':=(if_neg G).symm.trans z;cases z'
  ·by_cases G:b=a
   ·exact G
   ·exact absurd (if_neg G) z
theorem walk_of {l:PySem.W.OpenLaw} {n k:Nat} {q:Program} {E:List Str} {XP:(Str->Option Value)->Heap->Prop} {YP:World->Heap->Prop} {d:DefRec} {K:Params->PySem.W.Frag} {CX:World->zM} {sp:World->Sp} {x:Str}
  (hn:l.most=some n) (am:n<=sizeLine) (an:d.params.defaults=[]) (hr:Room k callerA)
  (hY:∀(w:World) (h:Heap),YP w h->(K w.params).In h)
  (F:∀(w:World) (J:Str->Option Value) (S:Addr) (h:Heap),(K w.params).In h->h.Ns mainGlobals J->J d.name=some (.ref S)->
   ∃fd:FuncData,(∀(s:Shared) (u:Value),BindsTo s fd ⟨[u],[]⟩ [(x,u)])/\
    ∀base:Heap,(K w.params).In base->base.Ns mainGlobals J->FnOk l.prog w (K w.params) J base (CX w) k S fd [x] (sp w))
  (ah:∀(w:World) (H:Hp) (a:Addr) (O:List Int),O.length<=n->B7 H->SqL (K w.params) H a (O.map V.int)->sp w [.ref a] H (fun v _=>v=.bl true) fun _ _ _=>False)
  (aD:∀(w:World) (H:Hp) (s:Shared) (e:Value) (Z:Shared),CX w [] H s (fun _ _ _=>False) e Z->False) :
  PySem.W.WalkO q E XP YP l.row.toRowW d [] (fun f vs=>PySem.call f vs):=by
 refine Att.attach_call hn an fun w aU L J mb S o pm cd a0 a vs O G Y ho hd a3 al M I D hg=>?_
 have KX:=hY w _ Y;obtain ⟨fd,hb,hF⟩:=F w J S _ KX G.T.g al;exact WI KX G.T.g G.T.b G.T.builtins G.T.nolimit hg M I (aM D am) hr hF hb (fun H hO hS=>ah w H a O D hO hS) fun H e Z=>aD w H L e Z
def vK (s:Stmt) (j:Nat):Stmt:=match s with
 |.ClassDef _ _ _ h _ _ _ _ _ _ _=>h.getD j (.Pass ⟨0,0,0,0⟩)
 |_=>.Pass ⟨0,0,0,0⟩
def yF (s:Stmt):Arguments:=match s with
 |.FunctionDef _ a _ _ _ _ _ _ _ _=>a
 |_=>{posonlyargs:=[],args:=[],vararg:=none,kwonlyargs:=[],kw_defaults:=[],kwarg:=none,defaults:=[]}
def vO (s:Stmt):List Stmt:=match s with
 |.FunctionDef _ _ b _ _ _ _ _ _ _=>b
 |_=>[]
def kK (s:Stmt):Scope:=match s with
 |.FunctionDef _ _ _ _ _ _ h _ _ _=>h
 |_=>{kind:=.function,names:=[],isGenerator:=false,isCoroutine:=false}
abbrev jT:zM:=fun _ _ _ _ _ _=>False
abbrev E0:XK:=fun _ _ _=>False
theorem gA {X:Cx}:dP jT X E0:=fun _ _ _ _ _ _ _ h=>h.elim
structure Fun (K:PySem.W.Frag) (x ke:Str) (st:Stmt) (f:Addr) (fd:FuncData):Prop where
 ex:∃(oc:Value) (od:Option Addr) (kV doc pm:Value) (an:Option Addr) (km ct:Value) (osl:Array (Option Value)),
  fd=PySem.W.fnOf x ke (yF st) (vO st) (kK st) .none kV doc pm an km ct/\K.lookup f=some ⟨oc,od,.func fd,osl⟩/\PySem.W.codeIn K km ke=true
 kp:PySem.W.keepIn K (.ref f)=true
section
variable {P:Program} {w:World} {K:PySem.W.Frag} {mg:Str->Option Value} {base:Heap}
theorem Fun.ok {x M:Str} {st:Stmt} {f:Addr} {Y:FuncData} {N ps:List Str} {k:Nat} {sp:Sp} (F:Fun K x M st f Y) (S:FnScope N ps (kK st)) (L:∀vs H Q E,sp vs H Q E->vs.length=ps.length)
  (G:∀(I:Value) (A:Around) (D:List Env) (s:Shared) (H:Hp) (vs:List V) (Q:VK) (E:XK),Room k (A.deeper (envOfC M (kK st) s.heap.objs.size f I))->sp vs H Q E->
   ∃t,PSs (qQ jT P w K mg base N M (kK st) f I A D s H E).nox (vO st) t/\t {nx:=fun _ H'=>Q .non H',rt:=Q} (start N vs) H):FnOk P w K mg base jT (k+1) f Y ps sp:=by
 obtain ⟨oc,od,kV,Z,pm,an,I,ct,ah,rfl,lk,O⟩:=F.ex;refine BS lk O S L fun A D s H vs Q E hr J=>?_
 obtain ⟨t,h,q⟩:=G I A D s H vs Q E hr J;exact ⟨t,h.nox,q⟩
theorem Fun.binds {x M:Str} {st:Stmt} {f:Addr} {L:FuncData} {ps:List Str} (F:Fun K x M st f L)
  (h:∀(J D E:Value) (G:Option Addr) (I ct:Value) (us:List Value),us.length=ps.length->bindArgs (PySem.W.fnOf x M (yF st) (vO st) (kK st) .none J D E G I ct) ⟨us,[]⟩=pure (ps.zip us)):Binds K L ps []:=by
 obtain ⟨Y,Z,J,D,E,G,I,ct,O,rfl,V,S⟩:=F.ex;exact .all (h J D E G I ct)
theorem lS {x F:Str} {st:Stmt} {f:Addr} {L:Value} {M I:Option Addr} {D:Array (Option Value)} {J h G E ct:Value} (l:K.lookup f=some ⟨L,M,.func (PySem.W.fnOf x F (yF st) (vO st) (kK st) .none J h G I E ct),D⟩)
  (c:PySem.W.codeIn K E F=true) (k:PySem.W.keepIn K (.ref f)=true):Fun K x F st f (PySem.W.fnOf x F (yF st) (vO st) (kK st) .none J h G I E ct):=⟨⟨L,M,J,h,G,I,E,ct,D,rfl,l,c⟩,k⟩
end
theorem BQ {A:Around} {k:Nat} (h:Room k A):A.units+1<cLine:=cy (Nat.add_le_add_left (by decide:1<=64) _) h.units
theorem vN {n:Nat} (h:n<=1000):n<sizeLine:=cy h (by decide)
section
variable {X:Cx}
theorem pv (i:Nat) {x:Str} {G:Pos} (F:X.N[i]?=some x:=by rfl) (E:lL X.env.scope x:=by first|exact Or.inl rfl|exact Or.inr (Or.inl rfl)|exact Or.inr (Or.inr rfl)) (D:(x == ("__debug__":Str))=false:=by decide)
  (h:(x == ("__classdict__":Str))=false:=by decide):PE X (.Name x G) (BW i):=Y5 F E D h
end
variable {A B:Prop}
theorem qK (h:B):if false=true then A else B:=by
 rw [if_neg aH];exact h
theorem qG (h:A):if true=true then A else B:=by
 rw [if_pos rfl];exact h
theorem bG {c:Prop} [Decidable c] (D:c->A) (E:¬c->B):if c then A else B:=by
 by_cases h:c
 ·rw [if_pos h];exact D h
 ·rw [if_neg h];exact E h
theorem JV {c:Prop} [Decidable c] (D:c) (h:B):if (!decide c)=true then A else B:=by
 rw [aB D];exact qK h
def Same (H h:Hp):Prop:=∀b o,H b=some o->h b=some o
theorem Same.refl (H:Hp):Same H H:=fun _ _ h=>h
variable {H:Hp}
theorem Same.trans {D E:Hp} (a:Same H D) (b:Same D E):Same H E:=fun c o h=>b c o (a c o h)
theorem Same.free {D:Hp} (e:Same H D) {l:Addr} (h:D l=Option.none):H l=Option.none:=by
 cases q:H l with
 |none=>rfl
 |some o =>
  rw [e l o q] at h;cases h
theorem Same.seq {K:PySem.W.Frag} {D:Hp} {a:Addr} {xs:List V} (e:Same H D) (h:SqL K H a xs):SqL K D a xs:=by
 rcases h with (h|⟨o,h⟩)|h
 ·exact .inl (.inl (e _ _ h))
 ·exact .inl (.inr ⟨o,e _ _ h⟩)
 ·exact .inr h
end L2
namespace L2
open PySem PySem.Spec PyProof.Rows
def zO (cells:List (Str×Addr)):List (Str×NameKind)->List (Str×Addr)->List (Str×Addr)
 |[],cs=>cs
 | (n,k)::r,cs=>if (k == NameKind.free)=true then zO cells r ((n,(cells.lookup n).getD 0)::cs) else zO cells r cs
variable {scope:Scope}
theorem wR {D:Env} (h:∀x∈scope.names,x.2=.free->∃c,D.cells.lookup x.1=some c):closureFor scope D=pure (zO D.cells scope.names []):=by
 simp only [closureFor];have Z:∀(l:List (Str×NameKind)) (F:List (Str×Addr)),(∀x∈l,x.2=.free->∃c,D.cells.lookup x.1=some c)->
   (forIn l F fun x r=>match x with|(E,G)=>if (G == NameKind.free)=true then do let a <- cellOf D E;pure (ForInStep.yield ((E,a)::r)) else pure (ForInStep.yield r):Sem (List (Str×Addr)))=pure (zO D.cells l F):=by
  intro l
  induction l with
  |nil=>intro F _;rfl
  |cons p r V =>
   intro F O;obtain ⟨n,k⟩:=p;rw [List.forIn_cons];have M:=fun F=>V F fun x S=>O x (aF _ S)
   by_cases J:(k == NameKind.free)=true
   ·have I:k=NameKind.free:=by simpa using J
    obtain ⟨c,Y⟩:=O (n,k) aT I;have L:D.cells.lookup n=some c:=Y;simp only [J,if_true,zO,cellOf,L,Option.getD_some,pure_bind];exact M _
   ·simp only [J,if_false,zO,pure_bind];exact M _
 rw [Z scope.names [] h];rfl
theorem nB {cells:List (Str×Addr)}:∀{l:List (Str×NameKind)} {cs:List (Str×Addr)} {x:Str} {c:Addr},(∀y∈l,y.2=.free->∃c,cells.lookup y.1=some c)->(∀y d,cs.lookup y=some d->cells.lookup y=some d)->
  (zO cells l cs).lookup x=some c->cells.lookup x=some c
 |[],cs,x,c,_,D,e=>D x c e
 | (n,k)::r,cs,x,c,I,D,e=>by
  unfold zO at e
  by_cases E:(k == NameKind.free)=true
  ·rw [if_pos E] at e;obtain ⟨d,L⟩:=I (n,k) aT (by simpa using E);have F:cells.lookup n=some d:=L;refine nB (fun y h=>I y (aF _ h)) (fun y J q=>?_) e;rw [dc] at q
   by_cases h:(y == n)=true
   ·rw [h] at q;have G:y=n:=by simpa using h
    subst G;rw [F] at q ⊢;exact q
   ·rw [Bool.not_eq_true] at h;rw [h] at q;exact D y J q
  ·rw [if_neg E] at e;exact nB (fun y h=>I y (aF _ h)) D e
theorem xA {cells:List (Str×Addr)}:∀{l:List (Str×NameKind)} {cs:List (Str×Addr)} {x:Str},(∃c,cs.lookup x=some c)->∃c,(zO cells l cs).lookup x=some c
 |[],_,_,h=>h
 | (n,k)::r,cs,x,h=>by
  unfold zO
  by_cases E:(k == NameKind.free)=true
  ·rw [if_pos E];refine xA ?_;rw [dc]
   by_cases D:(x == n)=true
   ·rw [D];exact ⟨_,rfl⟩
   ·rw [Bool.not_eq_true] at D;rw [D];exact h
  ·rw [if_neg E];exact xA h
theorem nO {cells:List (Str×Addr)}:∀{l:List (Str×NameKind)} {cs:List (Str×Addr)} {x:Str},(x,NameKind.free)∈l->∃c,(zO cells l cs).lookup x=some c
 | (n,k)::r,cs,x,h=>by
  unfold zO
  rcases aj.mp h with e|e
  ·cases e;rw [if_pos (by rfl)];exact xA (by rw [dc,gv];exact ⟨_,rfl⟩)
  ·by_cases D:(k == NameKind.free)=true
   ·rw [if_pos D];exact nO e
   ·rw [if_neg D];exact nO e
def vG (X:Cx) (N:List Str) (scope:Scope) (C:Addr) (s:Shared) (H:Hp) (h:List (Addr×Obj)) (fp:List Addr):Cx where
 prog:=X.prog
 w:=X.w
 K:=X.K
 mg:=X.mg
 base:=X.base
 A:=X.A
 N:=N
 s₀:=s
 H₀:=H
 env:=compEnvC scope (zO X.env.cells scope.names []) C X.env
 outer:=X.stack
 stack:=X.stack
 ex:=fp
 fn:=fun _=>false
 calm:=X.calm
 pn:=X.pn++h
 xe:=fun _ _=>False
structure CompScope (X:Cx) (scope:Scope):Prop where
 kind:scope.kind=.function
 nocell:∀y∈scope.names,y.2≠.cell
 names:∀y∈scope.names,y.2=.local->scope.names.lookup y.1=some .local
 free:∀y∈scope.names,y.2=.free->X.env.kindOf y.1=some .cell\/X.env.kindOf y.1=some .free
theorem wQ {D:Env} {x:Str}:∀{names:List (Str×NameKind)} {k:NameKind},(names.map fun (n,k)=>if (k == NameKind.free&&D.scope.kind == .function&&D.kindOf n == some .cell) then (n,NameKind.cell) else (n,k)).lookup x=some k->
  ∃G,names.lookup x=some G/\(G=k\/(G=.free/\k=.cell/\D.kindOf x=some .cell))
 |[],k,h=>by simp at h
 | (n,k0)::r,k,h=>by
  have O:=@wQ D x r k;have E:List.lookup x ((if (k0 == NameKind.free&&D.scope.kind == .function&&D.kindOf n == some .cell)=true then (n,NameKind.cell) else (n,k0))::r.map fun (n,k)=>if (k == NameKind.free&&D.scope.kind == .function&&D.kindOf n == some .cell)=true then (n,NameKind.cell) else (n,k))=some k:=h
  by_cases I:(k0 == NameKind.free&&D.scope.kind == .function&&D.kindOf n == some .cell)=true
  ·rw [if_pos I] at E;rw [dc] at E;cases F:x == n with
   |true =>
    rw [F] at E;have S:NameKind.cell=k:=aA E;simp only [fk,ie] at I;have L:x=n:=by simpa using F
    refine ⟨k0,by rw [dc,F],.inr ⟨I.1.1,S.symm,by rw [L];exact I.2⟩⟩
   |false =>
    rw [F] at E;obtain ⟨G,M,J⟩:=O E;exact ⟨G,by rw [dc,F];exact M,J⟩
  ·rw [if_neg I] at E;rw [dc] at E;cases F:x == n with
   |true =>
    rw [F] at E;exact ⟨k0,by rw [dc,F],.inl (aA E)⟩
   |false =>
    rw [F] at E;obtain ⟨G,M,J⟩:=O E;exact ⟨G,by rw [dc,F];exact M,J⟩
theorem w6 {F:Type}:∀{l:List (Str×F)} {x:Str} {k:F},l.lookup x=some k->(x,k)∈l
 |[],_,_,h=>by simp at h
 | (n,a)::r,x,k,h=>by
  rw [dc] at h;cases E:x == n with
  |true =>
   rw [E] at h;have e:a=k:=aA h;have D:x=n:=by simpa using E
   subst e;subst D
   exact aT
  |false =>
   rw [E] at h;exact aF _ (w6 h)
def eK (X:Cx) (h:List Expr) (t:TT):Prop :=
 ∀(E:List (Addr×Obj)) (s:Shared) (D:St) (H:Hp) (Q:Bool->Hp->Prop),Inv X E D H s->t D H Q->
  wpAny (model X.prog X.w) X.A (forIn h true fun c r=>if r=true then do let F <- isTrue c X.env (eval c X.env);pure (ForInStep.yield F) else pure (ForInStep.yield r)) (TP X E D Q) X.xe s
def BV:TT:=fun _ H Q=>Q true H
variable {X:Cx}
theorem zN:eK X [] BV:=fun _ _ _ H _ I h=>wpAny_tests_nil ⟨H,I,h⟩
theorem fQ {c:Expr} {t:TT} (D:PT X c t):eK X [c] t:=fun F s E H Q I h=>wpAny_tests_one (D F s E H Q I h)
def QB (D:Addr) (J:It) (g:TG) (Z:TT) (te:TE) (F:St) (H:Hp) (Q:Hp->Prop):Prop :=
 ∃W:Nat->Nat->St->Hp->Prop,(∃m,W 0 m F (upd H D (.lst [])))/\∀i m G I,W i m G I->
  (J.stop i I/\Q I)\/(J.go i I/\∃N:St->Hp->Prop,(∀E L,N E L->∃O,O<m/\W (i+1) O E L)/\∀x V,J.yld i I x V->g x G V fun h H3=>Z h H3 fun b Y =>
   if b=true then te h Y fun v S=>∃M,S D=some (.lst M)/\M.length<sizeLine/\N h (upd S D (.lst (M++[v]))) else N h Y)
def pF (I:TI) (h:St->St) (g:TG) (M:TT) (L:TE):TE:=fun E H Q=>I E H fun J F=>∀D,F D=none->QB D J g M L (h E) F fun G=>Q (.ref D) G
def VQ (i:Nat) (I:TI) (h:St->St) (g:TG) (M:TT) (L:TE):TS:=fun D E H=>I E H fun J F=>∀d,F d=none->QB d J g M L (h E) F fun G=>D.nx (E.set i (some (.ref d))) G
def bJ (X:Cx) (N:List Str) (scope:Scope) (h:St->St):Prop :=
 ∀D:St,D.length=X.N.length->(h D).length=N.length/\∀(i:Nat) (x:Str) (v:V),N[i]?=some x->(h D)[i]?=some (some v)->scope.names.lookup x=some .free/\∃j:Nat,X.N[j]?=some x/\D[j]?=some (some v)
def vZ (n:Nat) (D:List Nat):St->St:=fun h=>List.replicate n none++D.map fun j=>(h[j]?).join
theorem LV {N:List Str} (n:Nat) (D:List Nat) (S:N.length=n+D.length) (Z:D.map (fun j=>X.N[j]?)=(N.drop n).map some) (M:∀x∈N.drop n,scope.names.lookup x=some .free):bJ X N scope (vZ n D):=by
 intro I V;refine ⟨by unfold vZ;rw [af,cb,ae,S],fun i x v Y h=>?_⟩;unfold vZ at h
 by_cases J:i<n
 ·rw [aw (by simpa using J),dm,if_pos J] at h;cases h
 ·rw [ar (by simpa using J),cb,ap] at h;cases G:D[i - n]? with
  |none=>rw [G] at h;cases h
  |some j =>
   rw [G] at h;have E:(I[j]?).join=some v:=aA h;have O:I[j]?=some (some v):=by
    cases q:I[j]? with
    |none=>rw [q] at E;cases E
    |some o =>
     rw [q] at E;have F:o=some v:=E;rw [F]
   have L:(N.drop n)[i - n]?=some x:=by
    rw [List.getElem?_drop,show n+(i - n)=i by lia];exact Y
   have F:=bf (fun l=>l[i - n]?) Z;simp only [ap,G,L,hZ] at F;exact ⟨M x (ag L),j,aA F,O⟩
theorem LU (E:Scope) (F:X.env.scope=E) (kind:scope.kind=.function) (h:∀y∈scope.names,y.2≠.cell) (names:∀y∈scope.names,y.2=.local->scope.names.lookup y.1=some .local)
  (D:∀y∈scope.names,y.2=.free->E.names.lookup y.1=some .cell\/E.names.lookup y.1=some .free):CompScope X scope:=⟨kind,h,names,fun y G I=>by
 subst F;exact D y G I⟩
section
variable {X:Cx} {N:List Str} {scope:Scope} {kc:List (Addr×Obj)} {σ:St} {H:Hp} {s:Shared} {fp:List Addr}
theorem iA (S:CompScope X scope) (I:Inv X kc σ H s):∀y∈scope.names,y.2=.free->∃c,X.env.cells.lookup y.1=some c:=fun y h D=>I.ok.has y.1 (S.free y h D)
theorem WZ {al:St->St} {D C:Addr} {E:Heap} {t':Nat} {m:Str->Option Value} (S:CompScope X scope) (I:Inv X kc σ H s) (V:bJ X N scope al) (hf:∀b∈fp,QE X kc H b) (a7:∀b∈fp,∃o,s.heap.get? b=some o)
  (hD:s.heap.objs.size<=D) (hC:s.heap.objs.size<=C) (a4:D≠C) (J:∀b o,s.heap.get? b=some o->E.get? b=some o) (a3:E.Ns C m) (hl:E.get? D=some {cls:=.type "list",data:=.seq ([]:List Value).toArray}) :
  Inv (vG X N scope C s H kc fp) [] (al σ) (upd H D (.lst [])) {s with heap:=E,toks:=t'}:=by
 have G:=iA S I;have h:∀x c,(zO X.env.cells scope.names []).lookup x=some c->X.env.cells.lookup x=some c:=fun x c e=>nB G (fun y d q=>by simp at q) e
 have lt:∀{b:Addr} {o:Obj},s.heap.get? b=some o->b<s.heap.objs.size:=fun e=>az e
 have M:∀x c,X.env.cells.lookup x=some c->c<s.heap.objs.size:=fun x c e=>by
  obtain ⟨v,o,ho,_⟩:=I.cell x c e;exact lt ho
 have nD:H D=none:=I.hok.fresh hD;have nC:H C=none:=I.hok.fresh hC;have L:∀b:Addr,b≠X.env.locals->b∉X.fs->b∉qE X.stack:=fun b h1 h2 z=>by
  rcases aj.mp (I.stkSub b z) with e|e
  ·exact h1 e
  ·exact h2 e
 refine ⟨⟨I.ok.mod,S.kind,I.ok.glob,I.ok.blt,hC,fun x y c h1 h2=>I.ok.inj x y c (h x c h1) (h y c h2),fun x hx=>?_,fun x c aU _=>(nomatch aU),I.ok.hd,I.ok.frames,.inl rfl,fun b Z=>⟨?_,fun x c e=>(hf b Z).2.2.2.2.1 x c (h x c e)⟩,
   I.bs,aM I.ok.bsz I.sz,fun b o e Z=>?_,fun b Z=>L b (hf b Z).2.1 (hf b Z).2.2.1,I.stack,I.stkFree⟩,
  rfl,I.bare,Un.laid J hD nD,⟨m,a3,fun i x v h1 h2 h3=>?_⟩,fun x c e=>?_,?_,fun x c e=>?_,fun p hp=>?_,?_,(V σ I.len).1⟩
 ·-- has
  have a8:∃k,(relabel scope X.env).names.lookup x=some k/\(k=.cell\/k=.free):=by
   rcases hx with e|e
   ·exact ⟨_,e,.inl rfl⟩
   ·exact ⟨_,e,.inr rfl⟩
  obtain ⟨k,e,O⟩:=a8;obtain ⟨k',e1,F⟩:=wQ e;have hm:=w6 e1;have ah:k'=.free:=by
   rcases F with F|F
   ·subst F
    rcases O with O|O
    ·subst O;exact absurd rfl (S.nocell _ hm)
    ·exact O
   ·exact F.1
  subst ah;exact nO hm
 ·obtain ⟨o,ho⟩:=a7 b Z;exact aS (aL (lt ho) hC)
 ·rcases (hf b Z).2.2.2.1 with z|z
  ·exact I.ok.noex b o e z
  ·exact absurd (aL (az e) (aM I.ok.bsz z)) (bq _)
 ·-- names
  obtain ⟨am,j,hj,hv⟩:=(V σ I.len).2 i x v h1 h2;have hm:=w6 am;have O:=S.free _ hm rfl;obtain ⟨m0,_,a6⟩:=I.loc;have a5:lL X.env.scope x:=by
   rcases O with k|k
   ·exact .inr (.inl k)
   ·exact .inr (.inr k)
  obtain ⟨u,r,l⟩:=a6 j x v hj hv a5;refine ⟨u,r,.inr ⟨?_,?_⟩⟩
  ·have an:∃k,(relabel scope X.env).names.lookup x=some k:=by
    rcases h3 with e|e|e<;>exact ⟨_,e⟩
   obtain ⟨k,e⟩:=an;obtain ⟨k',e1,F⟩:=wQ e;rw [am] at e1;cases e1
   rcases F with F|F
   ·subst F;exact .inr e
   ·rw [F.2.1] at e;exact .inl e
  ·rcases l with ⟨k,_⟩|⟨_,c,hc,Y⟩
   ·exfalso
    rcases O with q|q
    ·have q':X.env.kindOf x=some .cell:=q;rw [k] at q';cases q'
    ·have q':X.env.kindOf x=some .free:=q;rw [k] at q';cases q'
   ·obtain ⟨c',e'⟩:=nO (cells:=X.env.cells) (cs:=[]) hm;have F:=h x c' e';have aD:X.env.cells.lookup x=some c':=F;rw [hc] at aD;cases aD;obtain ⟨o,ho,hd⟩:=Y;exact ⟨c,e',o,J _ _ ho,hd⟩
 ·obtain ⟨v,o,ho,hd⟩:=I.cell x c (h x c e);exact ⟨v,o,J _ _ ho,hd⟩
 ·show upd H D (.lst []) C=none;rw [j7 (Ne.symm a4)];exact nC
 ·have hc:=h x c e;rw [j7 (aS (aL (M x c hc) hD))];exact I.freeC x c hc
 ·have a0:p∈X.pn++kc:=by
   rcases aI.mp hp with z|z
   ·exact z
   ·cases z
  obtain ⟨e,n,ne,nf,d⟩:=I.pin p a0;refine ⟨J _ _ e,?_,aS (aL (lt e) hC),L p.1 ne nf,d⟩;rw [j7 (aS (aL (lt e) hD))];exact n
 ·refine I.hok.laid J hD ?_;exact ⟨aN _,[],0,.nil,hl⟩
theorem nY {σ':St} {E:Hp} {D:Shared} {C:Addr} {h:St} {L:List Str} (I:Inv X kc σ H s) (G:∀b∈fp,QE X kc H b) (J:Inv (vG X L scope C s H kc fp) [] h E D):Inv X kc σ E D:=by
 refine I.call' (ch:=fp) J.os J.base J.hok J.bare fun b O=>?_
 obtain ⟨_,S,_,M,F,V⟩:=G b O;exact ⟨M,S,F,V⟩
theorem AG {σ':St} {E:Hp} {h:Shared} {C:Addr} {h':Heap} (I:Inv X kc σ H s) (D:s.heap.objs.size<=C) (J:Inv X kc σ' E h) (G:E C=none) (M:Heap.SameBut C h.heap h'):Inv X kc σ' E {h with heap:=h'}:=by
 refine J.turned (t':=h.toks) (it:=C) (fun b o L e=>(M.2 b L).trans e) G (ge (aL I.lt D)) (.inr (aM I.sz D)) (fun x c e z=>?_) fun p F z=>?_
 ·obtain ⟨v,q⟩:=I.cell x c e;exact absurd (aL q.lt (by rw [z];exact D)) (bq _)
 ·exact absurd (aL (az (I.pin p F).1) (by rw [z];exact D)) (bq _)
end
end L2
namespace L2
open PySem PySem.Spec PyProof.Rows
variable {H:Hp}
theorem yZ {D:St} {Q:Bool->Hp->Prop} (h:Q true H):BV D H Q:=h
variable {K:PySem.W.Frag} {D:Addr} {xs:List V} {tc:TT} {te:TE} {Q:Hp->Prop}
theorem cZ {a:Addr} {g:TG} {E:St} (G:Nat->St->Hp->Prop) (h0:G 0 E (upd H D (.lst []))) (Y:∀i h H,i<=xs.length->G i h H->SqL K H a xs)
    (hs:∀i x h H,xs[i]?=some x->G i h H->g x h H fun F H3=>tc F H3 fun b L=>if b=true then te F L fun v J=>∃ys,J D=some (.lst ys)/\ys.length<sizeLine/\G (i+1) F (upd J D (.lst (ys++[v]))) else G (i+1) F L)
    (O:∀h H,G xs.length h H->Q H):QB D (eP K a) g tc te E H Q:=by
  refine ⟨fun i m h H=>m=xs.length - i/\i<=xs.length/\G i h H,⟨xs.length,by simp,aN _,h0⟩,?_⟩;rintro i m h H ⟨rfl,V,p⟩;have q:=Y i h H V p
  by_cases I:i<xs.length
  . refine .inr ⟨⟨xs,xs[i],q,by simp [I]⟩,G (i+1),fun S Z M=>⟨xs.length - (i+1),by lia,rfl,I,M⟩,fun x Z y=>?_⟩
    obtain ⟨e,y⟩:=y;subst e;exact hs i x h _ (y xs q) p
  . have e:i=xs.length:=by lia
    subst e;exact .inl ⟨⟨xs,q,ao _⟩,O h H p⟩
theorem SF {lo:Int} {n:Nat} {g:TG} {h:St} (G:Nat->St->Hp->Prop) (Y:G 0 h (upd H D (.lst [])))
  (Z:∀i F H,i<n->G i F H->g (.int (lo+i)) F H fun E H3=>tc E H3 fun b L=>if b=true then te E L fun v J=>∃ys,J D=some (.lst ys)/\ys.length<sizeLine/\G (i+1) E (upd J D (.lst (ys++[v]))) else G (i+1) E L)
  (O:∀F H,G n F H->Q H):QB D (cS lo n) g tc te h H Q:=by
 refine ⟨fun i m F H=>m=n - i/\i<=n/\G i F H,⟨n,by simp,aN _,Y⟩,?_⟩;rintro i m F H ⟨rfl,hi,p⟩
 by_cases I:i<n
 ·refine .inr ⟨I,G (i+1),fun S V M=>⟨n - (i+1),by lia,rfl,I,M⟩,fun x V y=>?_⟩;obtain ⟨e,y⟩:=y;subst e y;exact Z i F _ I p
 ·have e:i=n:=by lia
  subst e;exact .inl ⟨ao _,O F H p⟩
theorem qY {h:Hp} {o:HO} (E:H D=none) (s:Same H h):Same H (upd h D o):=fun b u q=>by
 rw [j7 (q9 q E)];exact s b u q
def JK (H:Hp) (D:Addr) (caps:St) (R:Nat->List V->Hp->Prop) (i:Nat) (F:St) (h:Hp):Prop:=∃E c,F=c::caps/\Same H h/\h D=some (.lst E)/\E.length<=i/\R i E h
variable {caps:St}
theorem JP {E h:Hp} {R:Nat->List V->Hp->Prop} {i:Nat} {ys:List V} {c:Option V} {v:V} (I:H D=none) (s:Same H E) (G:E D=some (.lst ys)) (J:ys.length<=i) (hi:i<=999) (F:Same E h)
  (r:R (i+1) (ys++[v]) (upd h D (.lst (ys++[v])))):∃zs,h D=some (.lst zs)/\zs.length<sizeLine/\JK H D caps R (i+1) (c::caps) (upd h D (.lst (zs++[v]))):=by
 refine ⟨ys,F _ _ G,vN (by lia),ys++[v],c,rfl,qY I (s.trans F),jF,?_,r⟩;rw [af,aE];lia
theorem nX {h E:Hp} {R:Nat->List V->Hp->Prop} {i:Nat} {ys:List V} {c:Option V} (s:Same H h) (G:h D=some (.lst ys)) (I:ys.length<=i) (F:Same h E) (r:R (i+1) ys E) :
  JK H D caps R (i+1) (c::caps) E:=⟨ys,c,rfl,s.trans F,F _ _ G,by lia,r⟩
theorem bM {a:Addr} (R:Nat->List V->Hp->Prop) (Y:H D=none) (O:SqL K H a xs) (h0:R 0 [] (upd H D (.lst [])))
  (Z:∀i x ys h,xs[i]?=some x->i<xs.length->ys.length<=i->Same H h->h D=some (.lst ys)->R i ys h->tc (some x::caps) h fun b M=>if b=true then te (some x::caps) M fun v I=>∃zs,I D=some (.lst zs)/\zs.length<sizeLine/\JK H D caps R (i+1) (some x::caps) (upd I D (.lst (zs++[v])))
   else JK H D caps R (i+1) (some x::caps) M)
  (S:∀ys E,Same H E->E D=some (.lst ys)->ys.length<=xs.length->R xs.length ys E->Q E):QB D (eP K a) (bD 0) tc te (none::caps) H Q:=by
 refine cZ (xs:=xs) (JK H D caps R) ⟨[],none,rfl,qY Y (Same.refl H),jF,ao _,h0⟩ (fun i L h _ ⟨_,_,_,s,_⟩=>s.seq O) ?_ ?_
 ·rintro i x L h J ⟨ys,c,rfl,s,F,G,r⟩;exact Z i x ys h J (ad.mp J).1 G s F r
 ·rintro L E ⟨ys,c,rfl,s,F,G,r⟩;exact S ys E s F G r
theorem m9 {lo:Int} {n:Nat} (R:Nat->List V->Hp->Prop) (M:H D=none) (Y:R 0 [] (upd H D (.lst [])))
  (S:∀i ys h,i<n->ys.length<=i->Same H h->h D=some (.lst ys)->R i ys h->tc (some (.int (lo+i))::caps) h fun b J=>if b=true then te (some (.int (lo+i))::caps) J fun v I=>∃zs,I D=some (.lst zs)/\zs.length<sizeLine/\JK H D caps R (i+1) (some (.int (lo+i))::caps) (upd I D (.lst (zs++[v])))
   else JK H D caps R (i+1) (some (.int (lo+i))::caps) J)
  (L:∀ys E,Same H E->E D=some (.lst ys)->ys.length<=n->R n ys E->Q E):QB D (cS lo n) (bD 0) tc te (none::caps) H Q:=by
 refine SF (JK H D caps R) ⟨[],none,rfl,qY M (Same.refl H),jF,ao _,Y⟩ ?_ ?_
 ·rintro i O h Z ⟨ys,c,rfl,s,F,G,r⟩;exact S i ys h Z G s F r
 ·rintro O E ⟨ys,c,rfl,s,F,G,r⟩;exact L ys E s F G r
def jCs:V->Option Value
 |.ty n=>some (.type n)
 |.ref a=>some (.ref a)
 |_=>none
section
variable {X:Cx}
def K8 (K:PySem.W.Frag):List V->Hp->VK->Prop:=fun xs H Q=>∃(x c:V) (t u:Value) (b:Bool),xs=[x,c]/\jCs c=some u/\TyOf K H x t/\PySem.W.kitOne K t u=some b/\Q (.bl b) H
theorem W2:y7 X (.builtin "isinstance") (K8 X.K):=by
 intro Y s O H xs M Q I r h;obtain ⟨x,c,t,u,b,rfl,F,ty,e,q⟩:=h;obtain ⟨S,E,rfl,L,G⟩:=BK r;have J:E=u:=by
  cases c with
  |ty n=>cases (show E=Value.type n from G);exact aA F
  |ref a=>cases (show E=Value.ref a from G);exact aA F
  |_=>cases F
 subst J;exact UZ I L ty e fun V=>⟨.bl b,H,I.tok _,rfl,q⟩
end
theorem iG (n:String):PySem.W.kitOne K (.type n) (.type n)=some true:=by
 unfold PySem.W.kitOne;rw [if_pos (gv _)]
theorem SC:PySem.W.kitOne K (.type "int") (.type "bool")=some false:=by kernel_rfl
def gK (xs ys:List V):Bool:=(List.range (min xs.length ys.length)).all (fun j=>yW (xs.getD j .non) (ys.getD j .non))&&xs.length == ys.length
theorem GI {x:V} (h:vY x=true):yW x x=true:=by
 cases x with
 |non=>rfl
 |bl b=>show (b == b)=true;simp
 |int i=>show (i == i)=true;simp
 |str z=>show (z == z)=true;simp
 |_=>exact absurd (show false=true from h) aH
theorem WQ (h:xs.all vY=true):gK xs xs=true:=by
 unfold gK;rw [fk];refine ⟨?_,by simp⟩;rw [dw];intro j F;have E:j<xs.length:=by simpa using F
 refine GI ?_;rw [ac,aa E];exact dw.mp h _ (cw E)
theorem QX {us:List Value} (r:Vals xs us) {j:Nat} (h:j<us.toArray.size):RelV (xs.getD j .non) us.toArray[j]:=by
 have F:j<us.length:=by simpa using h
 have E:j<xs.length:=by rw [r.length];exact F
 obtain ⟨u,e,q⟩:=r.get (aa E);rw [aa F] at e;have G:=aA e;rw [ac,aa E];show RelV xs[j] us.toArray[j];rw [List.getElem_toArray,G];exact q
theorem xQ (h:xs.all vY=true) {j:Nat} (E:j<xs.length):vY (xs.getD j .non)=true:=by
 rw [ac,aa E];exact dw.mp h _ (cw E)
section
variable {X:Cx}
def jCi (K:PySem.W.Frag) (neg:Bool):R2:=fun x y H Q=>∃a b xs h,x=.ref a/\y=.ref b/\SqT K H a xs/\SqT K H b h/\xs.all vY=true/\h.all vY=true/\Q (.bl (if neg then !gK xs h else gK xs h)) H
theorem Y7 (hu:X.A.units<cLine):qW X (compareOp .NotEq) (jCi X.K true):=by
 intro kc s σ H x y v u Q I V ry h;obtain ⟨a,b,xs,ys,rfl,rfl,Z,hb,fx,fy,q⟩:=h;cases V;cases ry;obtain ⟨G,r,pl,hz⟩:=I.tuple Z;obtain ⟨E,M,J,Y⟩:=I.tuple hb;have O:=r.length;have F:=M.length;refine SeqAt.RcNeAt.tuples (e:=fun j=>yW (xs.getD j .non) (ys.getD j .non)) pl J hu (fun j L S=>?_) X.prog X.w X.xe _ ⟨.bl _,H,I,rfl,?_⟩
 ·exact BI (QX r L) (QX M S) (xQ fx (by rw [O];simpa using L)) (xQ fy (by rw [F];simpa using S))
 ·have e:(!((List.range (min G.toArray.size E.toArray.size)).all (fun j=>yW (xs.getD j .non) (ys.getD j .non))&&G.toArray.size == E.toArray.size)) = !gK xs ys:=by
   unfold gK;rw [aq,aq,<- O,<- F]
  rw [e];exact q
end
end L2
namespace L2
open PySem PySem.Spec PyProof.Rows
section
variable {X:Cx}
end
section
variable {X:Cx} (K:PySem.W.Frag)
theorem kQ (h:X.K=K:=by rfl):IxR X (pU K):=by subst h;exact CN
theorem jM (h:X.K=K:=by rfl):IxR X (BZ K):=by subst h;exact ix_tup
theorem HW (h:X.K=K:=by rfl):IxR X (CG K):=by subst h;exact jAh
theorem oA (h:X.K=K:=by rfl):rO X (K6 K):=by subst h;exact XA
theorem R7 (h:X.K=K:=by rfl):y7 X (.builtin "len") (fun xs H Q=>∃p ys,xs=[.ref p]/\(SqL K H p ys\/SqT K H p ys)/\Q (.int ys.length) H):=by subst h;exact LW
theorem fG (h:X.K=K:=by rfl):y7 X (.builtin "isinstance") (K8 K):=by subst h;exact W2
theorem QK {D:List Expr} {k:Nat} {t:cQ} {n:Nat} {J:Pos} (F:X.calm=true) (h:lM X D t) (G:X.K=K:=by rfl)
  (I:(assignEach D X.env).length=n:=by rfl) (E:(assignEach D X.env).findIdx? (·.1)=none:=by rfl):PG X (.Tuple D k J) (LD K n t):=by subst G;exact o6 F h I E
end
section
variable {X:Cx}
end
section
variable {X:Cx}
def jCc (t u:TS):TS:=fun D F H=>∃P:St->Hp->Prop,t {D with nx:=P} F H/\∀h E,P h E->u D h E
theorem fR {st:Stmt} {E:List Stmt} {t u:TS} (L:PS X st t) (V:PSs X E u):PSs X (st::E) (jCc t u):=by
 intro J s O H D I h;obtain ⟨P,Z,S⟩:=h;refine wpAny_execs_cons (jZ (L J s O H {D with nx:=P} I Z) fun f M q=>?_);cases f with
 |next =>
  obtain ⟨F,G,Y,q⟩:=q;exact V J M F G D Y (S F G q)
 |ret v=>exact q
 |brk=>exact q
 |cont=>exact q
end
structure Def (P:Program) (w:World) (K:PySem.W.Frag) (mg:Str->Option Value) (base:Heap) (k:Nat) (x:Str) (ps:List Str) (dvs:List V) (sp:Sp):Prop where
 ex:∃(f:Addr) (fd:FuncData) (ds:List Value),FnOk P w K mg base jT k f fd ps sp/\mg x=some (.ref f)/\PySem.W.keepIn K (.ref f)=true/\Vals dvs ds/\Binds K fd ps ds
theorem jR {X:Cx} {k I:Nat} {x:Str} {ps:List Str} {dvs:List V} {sp:Sp} {p E:Pos} {e:Expr} {h:List Expr} {t:TA} (F:Def X.prog X.w X.K X.mg X.base k x ps dvs sp) (S:Room I X.A) (L:Gl X x) (M:PA X (e::h) t)
  (J:k<=I:=by decide) (D:(x == ("__debug__":Str))=false:=by decide) (he:starEach (e::h) X.env=(false,eval e X.env)::starEach h X.env:=by rfl) (hpl:(backTo E (starEach h X.env)).any (·.1)=false:=by rfl) :
  PE X (.Call (.Name x p) (e::h) [] E) (BL sp dvs E0 t):=by
 obtain ⟨f,Z,ds,G,m,Y,O,b⟩:=F.ex;exact XQ G (S.mono J) L m Y b O gA M D he hpl
structure FunD (K:PySem.W.Frag) (x ke:Str) (st:Stmt) (f:Addr) (fd:FuncData) (ds:List Value):Prop where
 ex:∃(oc:Value) (od:Option Addr) (T:Addr) (kV doc pm:Value) (an:Option Addr) (km ct:Value) (osl:Array (Option Value)) (oT:Obj) (n:Nat),
  fd=PySem.W.fnOf x ke (yF st) (vO st) (kK st) (.ref T) kV doc pm an km ct/\K.lookup f=some ⟨oc,od,.func fd,osl⟩/\PySem.W.codeIn K km ke=true/\K.lookup T=some oT/\oT.data=.seq ds.toArray n
 kp:PySem.W.keepIn K (.ref f)=true
section
variable {P:Program} {w:World} {K:PySem.W.Frag} {mg:Str->Option Value} {base:Heap}
theorem FunD.ok {x M:Str} {st:Stmt} {f:Addr} {Y:FuncData} {ds:List Value} {N ps:List Str} {k:Nat} {sp:Sp} (F:FunD K x M st f Y ds) (S:FnScope N ps (kK st)) (L:∀vs H Q E,sp vs H Q E->vs.length=ps.length)
  (G:∀(I:Value) (A:Around) (D:List Env) (s:Shared) (H:Hp) (vs:List V) (Q:VK) (E:XK),Room k (A.deeper (envOfC M (kK st) s.heap.objs.size f I))->sp vs H Q E->
   ∃t,PSs (qQ jT P w K mg base N M (kK st) f I A D s H E).nox (vO st) t/\t {nx:=fun _ H'=>Q .non H',rt:=Q} (start N vs) H):FnOk P w K mg base jT (k+1) f Y ps sp:=by
 obtain ⟨oc,od,T,kV,Z,pm,an,I,ct,ah,oT,n,rfl,lk,O,_,_⟩:=F.ex;refine BS lk O S L fun A D s H vs Q E hr J=>?_
 obtain ⟨t,h,q⟩:=G I A D s H vs Q E hr J;exact ⟨t,h.nox,q⟩
theorem FunD.binds {x M:Str} {st:Stmt} {f:Addr} {O:FuncData} {ds:List Value} {ps:List Str} (E:List Value) (m:Nat) (hm:m+E.length=ps.length) (F:FunD K x M st f O ds)
  (h:∀(T:Addr) (L D G:Value) (I:Option Addr) (J ct:Value) (us:List Value),us.length=m->∃k,bindArgs (PySem.W.fnOf x M (yF st) (vO st) (kK st) (.ref T) L D G I J ct) ⟨us,[]⟩=seqItems? (.ref T) >>= k/\
   k (some ds.toArray)=pure (ps.zip (us++E))):Binds K O ps E:=by
 obtain ⟨oc,od,T,L,D,G,I,J,ct,Y,oT,n,rfl,lk,ah,lT,dT⟩:=F.ex;intro s us S Z;obtain ⟨k,V,h2⟩:=h T L D G I J ct us (by rw [af] at Z;lia);exact BindsTo.of_defaults rfl (S _ _ lT) dT V h2
theorem X7 {x F:Str} {st:Stmt} {f T:Addr} {M:Value} {O J:Option Addr} {D:Array (Option Value)} {L h I E ct:Value} {G:Obj} {n:Nat} {ds:List Value}
  (l:K.lookup f=some ⟨M,O,.func (PySem.W.fnOf x F (yF st) (vO st) (kK st) (.ref T) L h I J E ct),D⟩)
  (c:PySem.W.codeIn K E F=true) (k:PySem.W.keepIn K (.ref f)=true) (S:K.lookup T=some G) (V:G.data=.seq ds.toArray n):FunD K x F st f (PySem.W.fnOf x F (yF st) (vO st) (kK st) (.ref T) L h I J E ct) ds :=
 ⟨⟨M,O,T,L,h,I,J,E,ct,D,G,n,rfl,l,c,S,V⟩,k⟩
end
section
variable {X:Cx}
theorem AD:LF X (pU X.K):=by
 intro kc s V H o i ov iv Q I ro ri h;obtain ⟨p,xs,k,z,rfl,rfl,hq,Z,q⟩:=h;cases ro;obtain ⟨t,rfl⟩:=ri;obtain ⟨F,r,L,hz⟩:=I.list hq;obtain ⟨j,E,h2,h3,h4,S⟩:=oZ Z;obtain ⟨w,M,J⟩:=r.get h2;have Y:=r.length;have hn:=dM;have D:EP X kc V Q w s:=⟨z,H,I,J,q⟩
 by_cases O:0<=k
 ·have G:k.toNat=j:=by
   rw [seqIndex_of O S] at E;exact aA E
  exact wpAny_getItem_list L.isList O (by lia) (by rw [G];simpa using M) D
 ·have G:(k+(F.toArray.size:Int)).toNat=j:=by
   rw [seqIndex_neg (by lia) h4] at E;rw [aq,<- Y];exact aA E
  exact wpAny_getItem_list_neg L.isList (by lia) (by rw [aq]<;>lia) (by lia) (by rw [G];simpa using M) D
end
end L2
namespace L2
open PySem
variable {c A B:Prop}
theorem bC [Decidable c] (D:¬c) (h:A):if (!decide c)=true then A else B:=by
 rw [ax D];exact qG h
theorem j9 [Decidable c] (D:¬c) (h:B):if decide c=true then A else B:=by
 rw [ax D];exact qK h
theorem kX [Decidable c] (D:c) (h:A):if decide c=true then A else B:=by
 rw [aB D];exact qG h
end L2
namespace L2
open PySem PySem.Spec PyProof.Rows
structure MkD (P:Program) (w:World) (K:PySem.W.Frag) (mg:Str->Option Value) (base:Heap) (k:Nat) (x:Str) (C:Addr) (ps:List Str) (sp:Sp):Prop where
 ex:mg x=some (.ref C)/\∃(f:Addr) (fd:FuncData),Mk K C f/\FnOk P w K mg base jT k f fd ps sp/\Binds K fd ps []
structure MeD (P:Program) (w:World) (K:PySem.W.Frag) (mg:Str->Option Value) (base:Heap) (k:Nat) (C:Addr) (m:Str) (ps:List Str) (sp:Sp):Prop where
 ex:Cls K C/\∃(f:Addr) (fd:FuncData),Meth K C m f/\FnOk P w K mg base jT k f fd ps sp/\Binds K fd ps []
section
variable {X:Cx} {k k':Nat} {x m:Str} {C:Addr} {ps:List Str} {sp:Sp} {p kn kh:Pos} {o e:Expr} {es:List Expr} {ta:TE} {t:TA}
theorem f7 (M:MkD X.prog X.w X.K X.mg X.base k x C ps sp) (J:Room k' X.A) (F:Gl X x) (I:PA X (e::es) t)
  (D:k+1<=k':=by decide) (h:(x == ("__debug__":Str))=false:=by decide) (he:starEach (e::es) X.env=(false,eval e X.env)::starEach es X.env:=by rfl) (hpl:(backTo kn (starEach es X.env)).any (·.1)=false:=by rfl) :
  PE X (.Call (.Name x p) (e::es) [] kn) (KO C sp [] E0 t):=by
 obtain ⟨E,f,L,M,G,b⟩:=M.ex;exact XN M G (J.mono D) F E b .nil gA I h he hpl
theorem cG {pl:Sem Bool} (M:MeD X.prog X.w X.K X.mg X.base k C m ps sp) (L:Room k' X.A) (J:PE X o ta) (F:PA X (e::es) t) (E:k<=k':=by decide)
  (h:starEach (e::es) X.env=(false,eval e X.env)::starEach es X.env:=by rfl) (hpl:(backTo kn (starEach es X.env)).any (·.1)=false:=by rfl)
  (I:eval (.Call (.Attribute o m kh) (e::es) [] kn) X.env=(do
   let D <- eval o X.env
   standAt kh.atName
   let (f,first) <- holding [D] (getMethod D m pl)
   callWith kn f first (backTo kn (starEach (e::es) X.env)) (backToKw kn (keywordEach [] X.env))):=by rfl) :
  PE X (.Call (.Attribute o m kh) (e::es) [] kn) (pE C m sp [] E0 ta t):=by
 obtain ⟨c,f,O,M,G,b⟩:=M.ex;exact XM (pl:=pl) J c M G (L.mono E) b .nil gA F h hpl I
theorem kW {pl:Sem Bool} (M:MeD X.prog X.w X.K X.mg X.base k C m ps sp) (I:Room k' X.A) (F:PE X o ta) (D:k<=k':=by decide)
  (E:eval (.Call (.Attribute o m kh) [] [] kn) X.env=(do
   let h <- eval o X.env
   standAt kh.atName
   let (f,first) <- holding [h] (getMethod h m pl)
   callWith kn f first (backTo kn (starEach [] X.env)) (backToKw kn (keywordEach [] X.env))):=by rfl) :
  PE X (.Call (.Attribute o m kh) [] [] kn) (pE C m sp [] E0 ta cA):=by
 obtain ⟨c,f,J,M,G,b⟩:=M.ex;exact V0 (pl:=pl) F c M G (I.mono D) b .nil gA E
end
structure ClsM (K:PySem.W.Frag) (C:Addr) (m:Str) (f:Addr):Prop where
 sp:PySem.W.specialIn K (.ref C) "__getattribute__"=some (some (.builtin "type.__getattribute__"))
 rd:PySem.W.readsIn K C (.type "type")=true
 fc:PySem.W.findCls K (.ref C) (.type "type") m=some (.val (.ref f))
 kp:PySem.W.keepIn K (.ref f)=true
structure CmD (P:Program) (w:World) (K:PySem.W.Frag) (mg:Str->Option Value) (base:Heap) (k:Nat) (x:Str) (C:Addr) (m:Str) (ps:List Str) (sp:Sp):Prop where
 ex:mg x=some (.ref C)/\∃(f:Addr) (fd:FuncData),ClsM K C m f/\FnOk P w K mg base jT k f fd ps sp/\Binds K fd ps []
theorem HN {X:Cx} {k k':Nat} {x m:Str} {C:Addr} {ps:List Str} {sp:Sp} {p E F:Pos} {e:Expr} {D:List Expr} {t:TA} {pl:Sem Bool} (M:CmD X.prog X.w X.K X.mg X.base k x C m ps sp) (hr:Room k' X.A) (hg:Gl X x) (ha:PA X (e::D) t) (hk:k<=k':=by decide)
  (S:(x == ("__debug__":Str))=false:=by decide) (O:starEach (e::D) X.env=(false,eval e X.env)::starEach D X.env:=by rfl) (hpl:(backTo E (starEach D X.env)).any (·.1)=false:=by rfl)
  (ht:eval (.Call (.Attribute (.Name x p) m F) (e::D) [] E) X.env=(do
   let V <- eval (.Name x p) X.env
   standAt F.atName
   let (f,first) <- holding [V] (getMethod V m pl)
   callWith E f first (backTo E (starEach (e::D) X.env)) (backToKw E (keywordEach [] X.env))):=by rfl) :
  PE X (.Call (.Attribute (.Name x p) m F) (e::D) [] E) (BL sp [] E0 t):=by
 obtain ⟨hm,f,fd,c,G,b⟩:=M.ex;intro kc s Y H Q I h;refine fq (pl:=pl) (jZ ((ZK (v:=.ref C) hg hm rfl S:PE X (.Name x p) (tC (.ref C))) kc s Y H (fun v J=>v=.ref C/\J=H) I ⟨rfl,rfl⟩) fun u s1 ⟨v,J,L,rv,e1,e2⟩=>?_) ht;subst e1 e2;obtain rfl:u=Value.ref C:=rv;refine PySem.W.method_cls L.kIn c.sp (PySem.W.cls_value L.kIn c.rd c.fc rfl ?_);have I2:=L.tok (s1.toks+1);refine em (first:=[]) (h₀:=X.base) I.ok.mod.kin c.kp (jZ (ha E kc _ Y J _ I2 h) fun us s2 ⟨vs,H2,Z,r,q2⟩=>⟨Z.kIn,?_⟩) O hpl;exact iQ (us:=us) (vs:=vs) G (hr.mono hk) b .nil gA Z r q2
section
variable {X:Cx}
theorem mV {D:List Int} {its:List Value} (E:Vals (D.map V.int) its) {i:Nat} {v:Value} (h:its.toArray[i]?=some v):∃t,v=Value.int (D.getD i 0) t:=by
 have F:its[i]?=some v:=by simpa using h
 have I:i<its.length:=(ad.mp F).1;have G:i<D.length:=by have:=E.length;rw [ae] at this;lia
 obtain ⟨u,e,q⟩:=E.get (x:=V.int (D.getD i 0)) (i:=i) (by rw [ap,aa G,ac,aa G];rfl);rw [F] at e;cases e;exact q
theorem SX {bs:List Bool} {its:List Value} (D:Vals (bs.map V.bl) its) {i:Nat} {v:Value} (h:its.toArray[i]?=some v):v=Value.bool (bs.getD i true):=by
 have E:its[i]?=some v:=by simpa using h
 have G:i<its.length:=(ad.mp E).1;have F:i<bs.length:=by have:=D.length;rw [ae] at this;lia
 obtain ⟨u,e,q⟩:=D.get (x:=V.bl (bs.getD i true)) (i:=i) (by rw [ap,aa F,ac,aa F];rfl);rw [E] at e;cases e;exact q
theorem R0 (bs:List Bool):(List.range bs.length).all (fun i=>bs.getD i true)=bs.all id:=by
 rw [hX,dw,dw];constructor
 ·intro h x F;obtain ⟨i,E,e⟩:=iw.mp F;have:=h i (by simpa using E);rw [ac,aa E,e] at this;exact this
 ·intro h i E;have D:i<bs.length:=by simpa using E
  rw [ac,aa D];exact h _ (cw D)
theorem xU (hc:X.calm=true):y7 X (.builtin "sum") (fun xs H Q=>∃(p:Addr) (E:List Int),xs=[.ref p]/\SqL X.K H p (E.map V.int)/\Q (.int E.sum) H):=by
 intro kc s σ H xs us Q I r h;obtain ⟨p,E,rfl,hq,q⟩:=h;obtain ⟨u,rfl,rx⟩:=Q2 r;cases rx;obtain ⟨F,Y,J,hz⟩:=I.list hq;have D:=Y.length;rw [ae] at D;have Z:p<s.heap.objs.size:=by obtain ⟨o,n,e,_⟩:=J;exact az e
 refine call_sum_walkAnyS (ga J.isList ?_);refine ⟨s.heap.objs.size,_,_,_,_,_,_,fun i=>E.getD i 0,rfl,(Walks.list (A:=X.A.in1) (I.ok.hd hc) s.heap.objs.size p (aS Z) F.toArray).toS,⟨⟨_,aC _ rfl,rfl,rfl⟩,J.isList.at fun o e=>ak _ e⟩,fun b O=>?_,fun i v h=>mV Y h,fun s' t' m=>?_⟩
 ·rw [dh]
  rcases aj.mp O with e|e
  ·rw [e];exact fj _
  ·have L:b=p:=by simpa using e
   rw [L];exact ii Z
 ·obtain ⟨hh,g,d,t,os⟩:=s';obtain ⟨m1,m2,m3,m4,m5⟩:=m;have M:g=s.gens:=m2;have S:d=s.drawn:=m3;have G:os=s.os:=m4;subst M S G;have e:preSum (fun i=>E.getD i 0) F.toArray.size=E.sum:=by rw [preSum_getD,aq,<- D,aW]
  rw [e];refine ⟨.int E.sum,H,I.kept (t':=t) fun b o e=>m1 b o (fun O=>?_) (ak _ e),⟨_,rfl⟩,q⟩;have L:b=s.heap.objs.size:=by simpa using O
  exact absurd (az e) (by rw [L];exact bq _)
theorem EX (O:X.calm=true):y7 X (.builtin "all") (fun xs H Q=>∃(p:Addr) (bs:List Bool),xs=[.ref p]/\SqL X.K H p (bs.map V.bl)/\Q (.bl (bs.all id)) H):=by
 intro kc s σ H xs us Q I r h;obtain ⟨p,bs,rfl,hq,q⟩:=h;obtain ⟨u,rfl,J⟩:=Q2 r;cases J;obtain ⟨F,G,E,hz⟩:=I.list hq;have D:=G.length;rw [ae] at D;have hp:p<s.heap.objs.size:=by obtain ⟨o,n,e,_⟩:=E;exact az e
 refine call_all_walk (ga E.isList ?_);refine ⟨s.heap.objs.size,_,_,_,_,_,fun i=>bs.getD i true,rfl,Walks.list (A:=X.A.in1) (I.ok.hd O) s.heap.objs.size p (aS hp) F.toArray,⟨⟨_,aC _ rfl,rfl,rfl⟩,E.isList.at fun o e=>ak _ e⟩,fun i v s' Q' E' h L=>?_,fun h' M S=>?_⟩
 ·rw [SX G h];exact ff L
 ·rw [aq,<- D,R0];refine ⟨.bl (bs.all id),H,I.kept (t':=M) fun b o e=>S b o (fun Z=>?_) (ak _ e),rfl,q⟩;have Y:b=s.heap.objs.size:=by simpa using Z
  exact absurd (az e) (by rw [Y];exact bq _)
end
def B5 (p:Addr) (a b c:Int):HO:=.ext fun h=>∃t u v,IsRange h p a b c t u v
section
variable {X:Cx}
theorem SS:y7 X (.type "range") (fun xs H Q=>∃a b c:Int,xs=[.int a,.int b,.int c]/\c≠0/\c.natAbs<1073741824/\∀p,H p=none->Q (.ref p) (upd H p (B5 p a b c))):=by
 intro Z s Y H xs V Q I r h;obtain ⟨a,b,c,rfl,J,O,q⟩:=h;cases r with
 |cons M E =>
  cases E with
  |cons L F =>
   cases F with
   |cons G D =>
    cases D;obtain ⟨t,rfl⟩:=M;obtain ⟨u,rfl⟩:=L;obtain ⟨v,rfl⟩:=G;refine call_range_3 J ?_ (.inl (PyProof.noPylong_small O));refine ⟨.ref s.heap.objs.size,_,I.laid (t':=s.toks) (o:=B5 s.heap.objs.size a b c) (fun b o e=>ak _ e) (ao _) ?_,rfl,q _ (I.hok.fresh (ao _))⟩;exact ⟨⟨t,u,v,aC _ rfl⟩,⟨_,aC _ rfl⟩,fun S h2 ⟨t,u,v,e⟩ k=>⟨t,u,v,k _ e⟩⟩
theorem C5 {f:Nat->Int}:∀{n:Nat} {D:List Value},D.length=n->(∀i v,D[i]?=some v->∃t,v=Value.int (f i) t)->Vals ((List.range n).map fun (i:Nat)=>V.int (f i)) D
 |0,D,I,h=>by
  cases D with
  |nil=>exact .nil
  |cons x r=>cases I
 |n+1,D,I,h=>by
  obtain ⟨E,F,rfl⟩:∃E F,D=E++[F]:=by
   have G:D≠[]:=by intro e;rw [e] at I;cases I
   exact ⟨D.dropLast,D.getLast G,(List.dropLast_concat_getLast G).symm⟩
  rw [af,aE] at I;have J:E.length=n:=by lia
  rw [ei,aJ];refine Vals.append (C5 J fun i v e=>h i v ?_) (.cons ?_ .nil)
  ·rw [aw (ad.mp e).1];exact e
  ·exact h n F (by rw [ar (by lia),J,gm];rfl)
theorem R6 (Y:X.calm=true):y7 X (.type "list") (fun xs H Q=>∃(p:Addr) (a b c:Int) (n:Nat),xs=[.ref p]/\H p=some (B5 p a b c)/\Builtin.Range.small a b c=true/\Builtin.Range.rangeSize a b c=n/\n<=1000/\
  ∀l,H l=none->Q (.ref l) (upd H l (.lst ((List.range n).map fun (i:Nat)=>V.int (a+(i:Int)*c))))):=by
 intro kc s σ H xs us Q I r h;obtain ⟨p,a,b,c,n,rfl,hp,G,M,L,q⟩:=h;obtain ⟨u,rfl,J⟩:=Q2 r;cases J;obtain ⟨⟨t,u,v,e⟩,_,_⟩:=I.hok p _ hp;refine call_list_range (I.ok.hd Y) e G M (by lia) fun h' S E c' Z F D=>?_
 have O:E.toList.length=n:=by have:=D.1;simpa using this
 refine ⟨.ref s.heap.objs.size,_,I.laid (t':=S) (o:=.lst ((List.range n).map fun (i:Nat)=>V.int (a+(i:Int)*c))) Z (ao _) ?_,rfl,q _ (I.hok.fresh (ao _))⟩;refine ⟨by rw [ae,bg];exact im (vN L),E.toList,c',C5 O fun i v e=>D.2 i v (by simpa using e),by simpa using F⟩
end
def zU (n:Nat):List Nat:=(List.range n).reverse
theorem TQ (n:Nat):((List.range n).map fun (i:Nat)=>V.int (((n:Int) - 1)+(i:Int) * -1))=(zU n).map fun (i:Nat)=>V.int (i:Int):=by
 apply List.ext_getElem?;intro k;unfold zU;rw [ap,ap]
 by_cases h:k<n
 ·rw [cg h,List.getElem?_reverse (by simpa using h),bg,cg (by lia)];show some (V.int ((n:Int) - 1+(k:Int) * -1))=some (V.int ((n - 1 - k:Nat):Int))
  congr 2
  lia
 ·rw [dg (by simp;lia),dg (by simp;lia)];rfl
theorem EV (n:Nat):Builtin.Range.rangeSize ((n:Int) - 1) (-1) (-1)=n:=by
 unfold Builtin.Range.rangeSize;rw [if_neg (by decide)]
 by_cases h:(n:Int) - 1 > -1
 ·rw [if_pos h];have e:((n:Int) - 1 - -1 - 1) / (- (-1:Int))=(n:Int) - 1:=by
   have D:(-(-1:Int))=1:=rfl;rw [D,Int.ediv_one]
   lia
  rw [e]
  lia
 ·rw [if_neg h]
  lia
theorem TR {n:Nat} (h:n<=1000):Builtin.Range.small ((n:Int) - 1) (-1) (-1)=true:=by
 unfold Builtin.Range.small;rw [EV];simp only [Builtin.Range.rangeFitsLong,fk,Bool.or_eq_true,eh,ie];simp
 lia
section
variable {P:Program} {w:World} {H:Hp} {h h':Heap} {a:Addr} {o:HO}
theorem ObjOk.there (x:ObjOk P w H h a o):∃u,h.get? a=some u:=by
 cases o with
 |lst D=>obtain ⟨_,_,_,_,e⟩:=x;exact ⟨_,e⟩
 |tup D=>obtain ⟨_,_,_,o,e,_⟩:=x;exact ⟨_,e⟩
 |dK F=>obtain ⟨_,_,_,_,o,_,_,e,_⟩:=x;exact ⟨_,e⟩
 |dT F=>obtain ⟨_,_,_,_,o,_,_,e,_⟩:=x;exact ⟨_,e⟩
 |set S n=>obtain ⟨o,_,_,_,e,_⟩:=x;exact ⟨_,e⟩
 |ins C M E=>obtain ⟨_,_,_,e,_⟩:=x;exact ⟨_,e⟩
 |own y=>obtain ⟨_,e⟩:=x;exact ⟨_,e⟩
 |xd E=>obtain ⟨_,⟨_,_,_,e,_⟩,_⟩:=x;exact ⟨_,e⟩
 |rng I O=>obtain ⟨_,_,_,e⟩:=x;exact ⟨_,e⟩
 |frz L u=>obtain ⟨e,_⟩:=x;exact ⟨_,e⟩
 |tbl G=>exact ⟨_,(show h.get? a=some _ from x)⟩
 |met f y=>exact ⟨_,(show h.get? a=some _ from x)⟩
 |ext J=>obtain ⟨_,e,_⟩:=x;exact e
theorem HOk.there (x:HOk P w H h) (e:H a=some o):∃u,h.get? a=some u:=(x a o e).there
theorem HOk.keepT (x:HOk P w H h) (k:∀b u,H b≠none->h.get? b=some u->h'.get? b=some u):HOk P w H h':=fun a o e =>
 (x a o e).stay (fun b u D q=>k b u (by
  rcases D with rfl|D
  ·rw [e];exact fun z=>nomatch z
  ·rw [D];exact fun z=>nomatch z) q) (fun _ q=>q) fun _ _ q=>q
end
variable {H:Hp}
theorem Un.go {F J:List Addr} {O:Hp} {G h h':Heap} (u:Un F J H O G h) (k:∀b o,h.get? b=some o->b∉F->b∉J->(∃o',G.get? b=some o')->h'.get? b=some o)
  (S:∀b o,h.get? b=some o->b∈F->(∃o',G.get? b=some o')->∃L,h'.get? b=some {o with slots:=L}):Un F J H O G h' where
 keep:=fun b o q n D E=>k b o (u.keep b o q n D E) D E ⟨o,q⟩
 slot:=fun b o q n D E=>by
  obtain ⟨L,e⟩:=u.slot b o q n D E;obtain ⟨M,I⟩:=S b _ e D ⟨o,q⟩;exact ⟨M,I⟩
 free:=u.free
 there:=fun b o q E=>by
  obtain ⟨o',e⟩:=u.there b o q E
  by_cases D:b∈F
  ·obtain ⟨L,I⟩:=S b o' e D ⟨o,q⟩;exact ⟨_,I⟩
  ·exact ⟨o',k b o' e D E ⟨o,q⟩⟩
 tups:=u.tups
 frzs:=u.frzs
 tbls:=u.tbls
def Fly (D:List Env) (Z:Addr->Prop) (h:Heap) (a C:Addr):Prop :=
 ∃(B:Heap) (E:Value),Heap.FlyingW B D a (.ref C) E h/\∀b o,h.get? b=some o->b∉qE D->Z b->B.get? b=some o
def kO (P:Program) (w:World):zM:=fun h H s E e D=>∃(a C:Addr) (F:Hp),e=.ref a/\D.os=s.os/\AllBare D.gens/\Un (qE h) [] H F s.heap D.heap/\HOk P w F D.heap/\
 Fly h (fun b=>F b≠none\/∃G,s.heap.get? b=some G) D.heap a C/\F a=none/\s.heap.get? a=none/\E (.ref C) none F
def KM (X:Cx) (R:St->Value->Hp->Prop):Prop:=∀E D H s e h C F,Inv X E D H s->Heap.MadeExcOf s.heap h e (.ref C) F->R D (.ref C) H->X.xe (.ref e) {s with heap:=h}
def lC (X:Cx) (R:St->Value->Hp->Prop):Prop:=∀F D H s e h,Inv X F D H s->kO X.prog X.w X.stack H s (fun c _ E=>R D c E) e h->X.xe e h
theorem ZG {P:Program} {w:World} {K:PySem.W.Frag} {mg:Str->Option Value} {base:Heap} {N:List Str} {D:Str} {scope:Scope} {f:Addr} {F:Value} {A:Around} {h:List Env} {s:Shared} {E:XK} :
  KM (qQ (kO P w) P w K mg base N D scope f F A h s H E) (fun _ c H'=>E c none H'):=by
 intro kc σ V L e h' C vs I hx q;have an:∀S∈(envOfC D scope s.heap.objs.size f F::h),∀b,S.frame=some b->b∈qE (envOfC D scope s.heap.objs.size f F::h):=fun S he b hb=>fo.mpr ⟨S,he,hb⟩
 have al:L.heap.FunFrames base (envOfC D scope s.heap.objs.size f F::h):=I.stack;have J:∀b∈qE (envOfC D scope s.heap.objs.size f F::h),V b=none:=I.stkFree;have Y:qE (envOfC D scope s.heap.objs.size f F::h)=s.heap.objs.size::qE h:=rfl;have ub:Un (qE h) [] H V s.heap L.heap:=I.base;have ah:L.heap.get? e=none:=hx.new;show wpAny (model P w) (A.deeper (envOfC D scope s.heap.objs.size f F)) (leaving (envOfC D scope s.heap.objs.size f F) (.ref e)) (fun _ M=>kO P w h H s E (.ref e) M) (fun e' M=>kO P w h H s E e' M) {L with heap:=h'};refine wpAny_leaves_madeW (base:=PySem.W.hideAll L.heap (qE (envOfC D scope s.heap.objs.size f F::h))) I.ok.frames rfl (fun b o q=>PySem.W.of_hideAll _ q) (PySem.W.funFrames_hide al an) hx fun h2 t fl _ _ up=>?_
 dsimp only at up
 have G:∀b o,L.heap.get? b=some o->b∉qE (envOfC D scope s.heap.objs.size f F::h)->(PySem.W.hideAll L.heap (qE (envOfC D scope s.heap.objs.size f F::h))).get? b=some o:=fun b o q n=>PySem.W.hideAll_get _ q n
 have Z:∀b,(∃o',s.heap.get? b=some o')->b∉qE h->b∉qE (envOfC D scope s.heap.objs.size f F::h):=fun b ⟨o',q⟩ n z=>by
  rw [Y] at z
  rcases aj.mp z with z|z
  ·exact absurd (az q) (by rw [z];exact bq _)
  ·exact n z
 have QF:∀b,V b≠none->b∉qE (envOfC D scope s.heap.objs.size f F::h):=fun b hb z=>hb (J b z)
 refine ⟨e,C,V,rfl,I.os,I.bare,ub.go (fun b o q n _ z=>fl.1 b o (G b o q (Z b z n))) (fun b o q n _=>?_),I.hok.keepT fun b u hb q=>fl.1 b u (G b u q (QF b hb)),?_,?_,?_,q⟩
 ·obtain ⟨_,o',am,hd⟩:=al.mem (show b∈qE (envOfC D scope s.heap.objs.size f F::h) from by rw [Y];exact aF _ n);rw [q] at am;cases am
  exact up b o (hx.keeps b o q) hd
 ·refine ⟨_,_,fl,fun b o q n z=>?_⟩;have hn:b∉qE (envOfC D scope s.heap.objs.size f F::h):=by
   rcases z with z|z
   ·exact QF b z
   ·exact Z b z n
  have h1:∃u,L.heap.get? b=some u:=by
   rcases z with z|⟨o',z⟩
   ·cases r:V b with
    |none=>exact absurd r z
    |some v=>exact I.hok.there r
   ·exact ub.there b o' z (by simp)
  obtain ⟨u,O⟩:=h1;have hB:=G b u O hn;have:=fl.1 b u hB;have q':h2.get? b=some o:=q;rw [q'] at this;cases this;exact hB
 ·cases r:V e with
  |none=>rfl
  |some v =>
   obtain ⟨u,O⟩:=I.hok.there r;rw [ah] at O;cases O
 ·cases r:s.heap.get? e with
  |none=>rfl
  |some v =>
   obtain ⟨u,O⟩:=ub.there e v r (by simp);rw [ah] at O;cases O
theorem qI {P:Program} {w:World} {K:PySem.W.Frag} {mg:Str->Option Value} {base:Heap} {N:List Str} {F:Str} {scope:Scope} {f:Addr} {G:Value} {A:Around} {h:List Env} {s:Shared} {E:XK} :
  lC (qQ (kO P w) P w K mg base N F scope f G A h s H E) (fun _ c H'=>E c none H'):=by
 intro kc σ H1 s1 e S I hx;obtain ⟨a,C,H2,rfl,os,ah,un,an,⟨B,a0,fl,D⟩,ha,hs,q⟩:=hx;have al:Heap.FlyingW B (envOfC F scope s.heap.objs.size f G::h) a (.ref C) a0 S.heap:=fl;have J:Inv (qQ (kO P w) P w K mg base N F scope f G A h s H E) kc σ H2 S:=I.call' (ch:=[]) os un an ah fun b z=>absurd z (by simp)
 have ub:Un (qE h) [] H H2 s.heap S.heap:=J.base;have V:qE (envOfC F scope s.heap.objs.size f G::h)=s.heap.objs.size::qE h:=rfl;have Y:∀b,(∃o',s.heap.get? b=some o')->b∉qE h->b∉qE (envOfC F scope s.heap.objs.size f G::h):=fun b ⟨o',q⟩ n z=>by
  rw [V] at z
  rcases aj.mp z with z|z
  ·exact absurd (az q) (by rw [z];exact bq _)
  ·exact n z
 have QF:∀b,H2 b≠none->b∉qE (envOfC F scope s.heap.objs.size f G::h):=fun b hb z=>hb (J.stkFree b z)
 have u1:Un (qE h) [] H H1 s.heap s1.heap:=I.base;have M:∀b,(∃o',s.heap.get? b=some o')->∃o',s1.heap.get? b=some o':=fun b ⟨o',z⟩=>u1.there b o' z (by simp)
 have am:S.heap.FunFrames base (envOfC F scope s.heap.objs.size f G::h):=J.stack;show wpAny (model P w) (A.deeper (envOfC F scope s.heap.objs.size f G)) (leaving (envOfC F scope s.heap.objs.size f G) (.ref a)) (fun _ O=>kO P w h H s E (.ref a) O) (fun e' O=>kO P w h H s E e' O) S;refine wpAny_leaves_onW J.ok.frames rfl al fun h3 L up=>?_
 refine ⟨a,C,H2,rfl,J.os,J.bare,ub.go (fun b o q n _ z=>L.1 b o (D b o q (Y b z n) (.inr (M b z)))) (fun b o q n _=>?_),J.hok.keepT fun b u hb q=>L.1 b u (D b u q (QF b hb) (.inl hb)),?_,ha,?_,q⟩
 ·obtain ⟨_,o',Z,hd⟩:=am.mem (show b∈qE (envOfC F scope s.heap.objs.size f G::h) from by rw [V];exact aF _ n);rw [q] at Z;cases Z
  exact up b o q hd
 ·refine ⟨B,a0,L,fun b o q n z=>?_⟩;have hn:b∉qE (envOfC F scope s.heap.objs.size f G::h):=by
   rcases z with z|z
   ·exact QF b z
   ·exact Y b z n
  have h1:∃u,S.heap.get? b=some u:=by
   rcases z with z|⟨o',z⟩
   ·cases r:H2 b with
    |none=>exact absurd r z
    |some v=>exact J.hok.there r
   ·exact ub.there b o' z (by simp)
  obtain ⟨u,hu⟩:=h1;have hB:=D b u hu hn (by
   rcases z with z|z
   ·exact .inl z
   ·exact .inr (M b z))
  have:=L.1 b u hB;have q':h3.get? b=some o:=q;rw [q'] at this;cases this;exact hB
 ·cases r:s.heap.get? a with
  |none=>rfl
  |some v =>
   obtain ⟨u,hu⟩:=M a ⟨v,r⟩;rw [hs] at hu;cases hu
end L2
namespace L2
open PySem PySem.Spec PyProof.Rows
theorem YA {K:PySem.W.Frag} {h:Heap} {C:Addr} {G:List Value} {D:String} (X:K.In h) (q:PySem.W.excIn K C G D=true) :
  ∃bm N nm J bs hdct sn sub ab col dd k0 k1 k2 k3 k5 mN,K.lookup C=some (excClassObj nm J C N bs bm hdct sn sub ab col dd k0 k1 k2 k3 k5 D)/\h.get? C=some (excClassObj nm J C N bs bm hdct sn sub ab col dd k0 k1 k2 k3 k5 D)/\h.Ns N mN/\mN "__init__"=none/\OwnTail h G bm:=by
 unfold PySem.W.excIn at q
 split at q
 ·rename_i dd cd O S
  split at q
  ·rename_i C' bm k0 k1 k2 k3 n k5 M V;simp only [fk,ie,Bool.not_eq_true'] at q;obtain ⟨⟨⟨⟨⟨rfl,rfl⟩,E⟩,Y⟩,F⟩,I⟩:=q;obtain ⟨nm,bs,ah,Z,J,hd,sn,sub,ab,col,al⟩:=cd
   dsimp only at M E F I
   subst M E;have L:O = #[k0,k1,k2,k3,some (.builtin n),k5]:=by
    obtain ⟨l⟩:=O;simp only at V;rw [V]
   subst L;exact ⟨bm,Z,nm,J,bs,hd,sn,sub,ab,col,dd,k0,k1,k2,k3,k5,_,S,X _ _ S,.of_isNs (PySem.W.isNs_of_in X F),PySem.W.nsMap_none_of_in X F I,PySem.W.tail_of_in X Y⟩
  ·cases q
 ·cases q
abbrev jCl:List Value:=[.type "ValueError",.type "Exception",.type "BaseException",.type "object"]
def bI (K:PySem.W.Frag) (C:Addr):Prop:=PySem.W.excIn K C jCl "ValueError.__new__"=true
section
variable {X:Cx} {R:St->Value->Hp->Prop} {x:Str} {C:Addr} {np cpos kn p:Pos} {e:Expr} {es:List Expr} {t:TA}
theorem ZI (hx:KM X R) (E:X.calm=true) (hg:Gl X x) (L:X.mg x=some (.ref C)) (hc:bI X.K C) (ha:PA X (e::es) t) (M:(x == ("__debug__":Str))=false:=by decide)
  (he:starEach (e::es) X.env=(false,eval e X.env)::starEach es X.env:=by rfl) (hpl:(backTo cpos (starEach es X.env)).any (·.1)=false:=by rfl) :
  PS X (.Raise (some (.Call (.Name x np) (e::es) [] cpos)) none kn) (fun _ G H=>t G H fun vs H1=>vs.length<=sizeLine/\R G (.ref C) H1):=by
 intro V s G H D I h;obtain ⟨tl,N,nm,q,bs,hdct,sn,sub,ab,col,dd,k0,k1,k2,k3,k5,mN,_,Y,hN,O,T⟩:=YA I.ok.mod.kin hc;refine wpAny_Raise_call_subT (C:=C) (nm:=nm) (q:=q) (N:=N) (bs:=bs) (bm:=tl) (hdct:=hdct) (sn:=sn) (sub:=sub) (ab:=ab) (col:=col) (dd:=dd) (k0:=k0) (k1:=k1) (k2:=k2) (k3:=k3) (k5:=k5)
  PySem.F.excBase_ValueError (mN:=mN) (T.hasType PySem.F.excBase_ValueError.hasBase) (I.ok.hd E) (by rw [he];show (false||(backTo cpos (starEach es X.env)).any (·.1))=false;rw [hpl];rfl) O (iL I hg L ⟨rfl,?_⟩ M)
 have S:=ha cpos V s G H _ I h;rw [he] at S ⊢;refine Calls.evalArgs_plain (du S (fun us Z ⟨vs,H2,J,r2,hl,q2⟩=>⟨rfl,by rw [<- r2.length];exact hl,J.bk _ _ Y,hN.keeps J.bk,T.keeps J.bk,fun h' a L=>hx V G H2 Z a h' C us J L q2⟩) fun _ _ y=>y)
def YW (sp:Sp) (dvs:List V) (R:St->Value->Hp->Prop) (t:TA):TE:=fun h H Q=>t h H fun F E=>sp (F++dvs) E Q (fun c _ D=>R h c D)
theorem HI {k:Nat} {f:Addr} {J:FuncData} {ps:List Str} {sp:Sp} {dvs:List V} {ds:List Value} {G:List (Addr×Obj)} {E:St} {H:Hp} {s:Shared} {Q:VK} {us:List Value} {vs:List V} (F:FnOk X.prog X.w X.K X.mg X.base (kO X.prog X.w) k f J ps sp) (hr:Room k X.A) (hb:Binds X.K J ps ds) (O:Vals dvs ds) (Z:lC X R)
  (I:Inv X G E H s) (r:Vals vs us) (h:sp (vs++dvs) H Q (fun c _ S=>R E c S)):wpAny (model X.prog X.w) X.A (call (.ref f) us) (EP X G E Q) X.xe s:=by
 have L:Vals (vs++dvs) (us++ds):=r.append O;have hl:(us++ds).length=ps.length:=by rw [<- L.length];exact F.len _ _ _ _ h
 refine wpAny_call (kb (F.run X.A X.stack s H ⟨us,[]⟩ (us++ds) (vs++dvs) Q _ hr I.env0 (hb s us I.kIn hl) L h) fun r M D=>?_);cases r with
 |error e=>exact Z G E H s e M I D
 |ok Y =>
  cases Y with
  |ret u=>exact I.after D
  |next=>exact False.elim D
  |brk=>exact False.elim D
  |cont=>exact False.elim D
end
structure DefX (P:Program) (w:World) (K:PySem.W.Frag) (mg:Str->Option Value) (base:Heap) (k:Nat) (x:Str) (ps:List Str) (dvs:List V) (sp:Sp):Prop where
 ex:∃(f:Addr) (fd:FuncData) (ds:List Value),FnOk P w K mg base (kO P w) k f fd ps sp/\mg x=some (.ref f)/\PySem.W.keepIn K (.ref f)=true/\Vals dvs ds/\Binds K fd ps ds
theorem vA {X:Cx} {R:St->Value->Hp->Prop} {k M:Nat} {x:Str} {ps:List Str} {dvs:List V} {sp:Sp} {p J:Pos} {e:Expr} {D:List Expr} {t:TA} (F:DefX X.prog X.w X.K X.mg X.base k x ps dvs sp) (O:lC X R) (hr:Room M X.A) (hg:Gl X x) (S:PA X (e::D) t)
  (hk:k<=M:=by decide) (E:(x == ("__debug__":Str))=false:=by decide) (he:starEach (e::D) X.env=(false,eval e X.env)::starEach D X.env:=by rfl) (hpl:(backTo J (starEach D X.env)).any (·.1)=false:=by rfl) :
  PE X (.Call (.Name x p) (e::D) [] J) (YW sp dvs R t):=by
 obtain ⟨f,fd,ds,G,m,Y,hv,b⟩:=F.ex;intro kc s Z H Q I h;refine gk (iL I hg m ?_ E);refine em (h₀:=X.base) I.ok.mod.kin Y (jZ (S J kc s Z H _ I h) fun us s1 ⟨vs,H1,L,r,q⟩=>⟨L.kIn,?_⟩) he hpl;exact HI G (hr.mono hk) b hv O L r q
section
variable {X:Cx} {kc pins':List (Addr×Obj)} {σ:St} {H:Hp} {s:Shared} {R:St->Value->Hp->Prop}
end
section
variable {X:Cx} {kc:List (Addr×Obj)} {σ:St} {H:Hp} {s:Shared} {e:Value}
end
section
variable {P:Program} {w:World} {K:PySem.W.Frag} {mg:Str->Option Value} {base:Heap}
theorem Fun.okX {x L:Str} {st:Stmt} {f:Addr} {O:FuncData} {N ps:List Str} {k:Nat} {sp:Sp} (F:Fun K x L st f O) (S:FnScope N ps (kK st)) (J:∀vs H Q E,sp vs H Q E->vs.length=ps.length)
  (D:∀(G:Value) (A:Around) (h:List Env) (s:Shared) (H:Hp) (vs:List V) (Q:VK) (E:XK),Room k (A.deeper (envOfC L (kK st) s.heap.objs.size f G))->sp vs H Q E->
   ∃t,PSs (qQ (kO P w) P w K mg base N L (kK st) f G A h s H E) (vO st) t/\t {nx:=fun _ H'=>Q .non H',rt:=Q} (start N vs) H):FnOk P w K mg base (kO P w) (k+1) f O ps sp:=by
 obtain ⟨oc,od,kV,Y,pm,an,G,ct,Z,rfl,lk,M⟩:=F.ex;exact BS lk M S J fun A h s H vs Q E hr I=>D G A h s H vs Q E hr I
theorem FnOk.noX {k:Nat} {f:Addr} {I:FuncData} {ps:List Str} {sp sp':Sp} (F:FnOk P w K mg base (kO P w) k f I ps sp) (h:∀vs H Q E,sp' vs H Q E->sp vs H Q (fun _ _ _=>False)):FnOk P w K mg base jT k f I ps sp' :=
 ⟨fun vs H Q E q=>F.len vs H Q _ (h _ _ _ _ q),fun A D s H G L vs Q E V Y S O Z=>kb (F.run A D s H G L vs Q _ V Y S O (h _ _ _ _ Z)) fun r s' J=>by
  cases r with
  |ok M=>cases M<;>exact J
  |error e=>obtain ⟨_,_,_,_,_,_,_,_,_,_,_,z⟩:=J;exact z⟩
end
section
variable {X:Cx}
theorem VH (hc:X.calm=true):y7 X (.builtin "sum") (fun xs H Q=>∃(p:Addr) (E:List Int),xs=[.ref p]/\SqT X.K H p (E.map V.int)/\Q (.int E.sum) H):=by
 intro kc s σ H xs us Q I r h;obtain ⟨p,E,rfl,hq,q⟩:=h;obtain ⟨u,rfl,rx⟩:=Q2 r;cases rx;obtain ⟨F,Y,pl,hz⟩:=I.tuple hq;have D:=Y.length;rw [ae] at D;have J:s.heap.IsTuple p F.toArray:=pl;have Z:p<s.heap.objs.size:=by obtain ⟨o,e,_⟩:=J;exact az e
 refine call_sum_walkAnyS (fm J ?_);refine ⟨s.heap.objs.size,_,_,_,_,_,_,fun i=>E.getD i 0,rfl,(Walks.tuple (A:=X.A.in1) (I.ok.hd hc) s.heap.objs.size p (aS Z) F.toArray).toS,⟨⟨_,aC _ rfl,rfl,rfl⟩,J.at fun o e=>ak _ e⟩,fun b O=>?_,fun i v h=>mV Y h,fun s' t' m=>?_⟩
 ·rw [dh]
  rcases aj.mp O with e|e
  ·rw [e];exact fj _
  ·have L:b=p:=by simpa using e
   rw [L];exact ii Z
 ·obtain ⟨hh,g,d,t,os⟩:=s';obtain ⟨m1,m2,m3,m4,m5⟩:=m;have M:g=s.gens:=m2;have S:d=s.drawn:=m3;have G:os=s.os:=m4;subst M S G;have e:preSum (fun i=>E.getD i 0) F.toArray.size=E.sum:=by rw [preSum_getD,aq,<- D,aW]
  rw [e];refine ⟨.int E.sum,H,I.kept (t':=t) fun b o e=>m1 b o (fun O=>?_) (ak _ e),⟨_,rfl⟩,q⟩;have L:b=s.heap.objs.size:=by simpa using O
  exact absurd (az e) (by rw [L];exact bq _)
end
section
variable {X:Cx} {kc:List (Addr×Obj)} {σ:St} {H:Hp} {s:Shared}
end
end L2
namespace L2
open PySem PySem.Spec PySem.Calls PyProof.Rows PySem.W
section
variable {prog:Program} {w:World} {A:Around} {E:Value->Shared->Prop} {h:Heap} {g:Array GenState} {d:Drawn} {t:Nat} {os:OsState} {a C:Addr} {o:Obj} {K:PySem.W.Frag}
end
section
variable {X:Cx}
end
end L2
namespace L2
open PySem PySem.Spec PyProof.Rows
section
variable {X:Cx} {x:Str} {C:Addr} {kn p:Pos} {e:Expr} {es:List Expr} {t:TA}
end
section
variable {X:Cx}
end
def YS (C:Addr) (m:Str) (sp:Sp) (R:St->Value->Hp->Prop) (F:TE) (t:TA):TE:=fun h H Q=>F h H fun x E=>∃a L D,x=.ref a/\E a=some (.ins C L D)/\D.lookup m=none/\
 t h E fun I J=>sp (x::I) J Q (fun c _ G=>R h c G)
structure MeX (P:Program) (w:World) (K:PySem.W.Frag) (mg:Str->Option Value) (base:Heap) (k:Nat) (C:Addr) (m:Str) (ps:List Str) (sp:Sp):Prop where
 ex:Cls K C/\∃(f:Addr) (fd:FuncData),Meth K C m f/\FnOk P w K mg base (kO P w) k f fd ps sp/\Binds K fd ps []
section
variable {X:Cx} {R:St->Value->Hp->Prop} {k k':Nat} {x m:Str} {C:Addr} {ps:List Str} {sp:Sp} {p kn kh:Pos} {o e:Expr} {es:List Expr} {ta:TE} {t:TA}
theorem Q3 {pl:Sem Bool} (M:MeX X.prog X.w X.K X.mg X.base k C m ps sp) (Y:lC X R) (hr:Room k' X.A) (ho:PE X o ta) (ha:PA X (e::es) t) (hk:k<=k':=by decide)
  (D:starEach (e::es) X.env=(false,eval e X.env)::starEach es X.env:=by rfl) (hpl:(backTo kn (starEach es X.env)).any (·.1)=false:=by rfl)
  (ht:eval (.Call (.Attribute o m kh) (e::es) [] kn) X.env=(do
   let E <- eval o X.env
   standAt kh.atName
   let (f,first) <- holding [E] (getMethod E m pl)
   callWith kn f first (backTo kn (starEach (e::es) X.env)) (backToKw kn (keywordEach [] X.env))):=by rfl) :
  PE X (.Call (.Attribute o m kh) (e::es) [] kn) (YS C m sp R ta t):=by
 obtain ⟨c,f,fd,L,G,b⟩:=M.ex;intro O s F H Q I h;refine fq (pl:=pl) (jZ (ho O s F H _ I h) fun u s1 ⟨x,H1,J,V,a,dx,fs,Z,ea,l,q⟩=>?_) ht;subst Z;obtain rfl:u=Value.ref a:=V;refine nJ J ea c L l ?_;refine em (first:=[.ref a]) (h₀:=X.base) I.ok.mod.kin L.kp (jZ (ha kn O s1 F H1 _ J q) fun us s2 ⟨vs,H2,S,r,q2⟩=>⟨S.kIn,?_⟩) D hpl;exact HI (us:=.ref a::us) (vs:=.ref a::vs) (dvs:=[]) G (hr.mono hk) b .nil Y S (.cons rfl r) (by rw [cq];exact q2)
theorem iT {CX:zM} {P:Program} {w:World} {K:PySem.W.Frag} {G:Str->Option Value} {base:Heap} {N:List Str} {J:Str} {scope:Scope} {f:Addr} {I:Value} {A:Around} {D:List Env} {s:Shared} {H:Hp} {E:XK} :
  PassesOwn (model (qQ CX P w K G base N J scope f I A D s H E).prog (qQ CX P w K G base N J scope f I A D s H E).w) (qQ CX P w K G base N J scope f I A D s H E).A (qQ CX P w K G base N J scope f I A D s H E).env (qQ CX P w K G base N J scope f I A D s H E).xe:=by
 intro e L h;exact PassesOwn.leaving (Q₁:=fun e F=>CX D H s E e F) (E₁:=fun M F=>CX D H s E M F) e L h
end
section
variable {κ:Type} [DecidableEq κ]
def vL (D:List (κ×V)) (k:κ):Option V:=(D.find? fun h=>decide (h.1=k)).map (·.2)
def yL (D:List (κ×V)) (k:κ) (v:V):List (κ×V) :=
 if (D.any fun h=>decide (h.1=k))=true then D.map (fun h=>if h.1=k then (h.1,v) else h) else D++[(k,v)]
theorem valV_nil {k:κ}:vL ([]:List (κ×V)) k=none:=rfl
theorem JF {p:κ×V} {r:List (κ×V)} {k:κ} (e:p.1=k):vL (p::r) k=some p.2:=by simp [vL,gn,e]
theorem yI {p:κ×V} {r:List (κ×V)} {k:κ} (e:¬p.1=k):vL (p::r) k=vL r k:=by simp [vL,gn,e]
theorem iC (k:κ):∀h:List (κ×V),(h.any fun D=>decide (D.1=k))=(vL h k).isSome
 |[]=>rfl
 |p::r=>by
  rw [iy]
  by_cases e:p.1=k
  ·simp only [JF e,aB e,Bool.true_or,Option.isSome_some]
  ·rw [yI e,ax e,Bool.false_or];exact iC k r
theorem E9 (k j:κ) (y:V):∀F:List (κ×V),vL (F.map fun D=>if D.1=k then (D.1,y) else D) j=(vL F j).map fun x=>if j=k then y else x
 |[]=>rfl
 |p::r=>by
  have E:=E9 k j y r;rw [cf]
  by_cases h:p.1=k
  ·rw [if_pos h]
   by_cases e:p.1=j
   ·rw [JF (p:=(p.1,y)) e,JF e,hZ,if_pos (e.symm.trans h)]
   ·rw [yI (p:=(p.1,y)) e,yI e,E]
  ·rw [if_neg h]
   by_cases e:p.1=j
   ·rw [JF (p:=p) e,JF e,hZ,if_neg (fun z=>h (e.trans z))]
   ·rw [yI (p:=p) e,yI e,E]
theorem DY (k j:κ) (y:V):∀D:List (κ×V),vL D k=none->vL (D++[(k,y)]) j=if j=k then some y else vL D j
 |[],_=>by
  by_cases e:k=j
  ·rw [if_pos e.symm];exact JF (p:=(k,y)) e
  ·rw [if_neg (fun z=>e z.symm)];exact yI (p:=(k,y)) e
 |p::r,h=>by
  rw [List.cons_append];have E:¬p.1=k:=fun z=>by rw [JF z] at h;cases h
  rw [yI E] at h;have F:=DY k j y r h
  by_cases e:p.1=j
  ·rw [JF e,JF e,if_neg (fun z=>E (e.trans z))]
  ·rw [yI e,yI e,F]
theorem VO (h:List (κ×V)) (k j:κ) (y:V):vL (yL h k y) j=if j=k then some y else vL h j:=by
 unfold yL
 by_cases a:(h.any fun D=>decide (D.1=k))=true
 ·rw [if_pos a,E9];rw [iC] at a
  by_cases e:j=k
  ·obtain ⟨x,E⟩:=Option.isSome_iff_exists.mp a;rw [if_pos e,e,E,hZ,if_pos rfl]
  ·rw [if_neg e];cases vL h j with
   |none=>rfl
   |some x=>rw [hZ,if_neg e]
 ·rw [if_neg a];refine DY k j y h ?_;rw [iC] at a;cases q:vL h k with
  |none=>rfl
  |some x=>rw [q] at a;exact (a rfl).elim
theorem mY (h:List (κ×V)) (k:κ) (v:V):(yL h k v).length<=h.length+1:=by
 unfold yL
 split
 ·rw [ae];lia
 ·rw [af,dv,List.length_nil];lia
theorem oF {D:List (κ×V)} {k:κ} (v:V) (h:vL D k=none):yL D k v=D++[(k,v)]:=by
 unfold yL;rw [iC,h];exact if_neg (by decide)
theorem RelO.isSome_eq {o:Option V} {u:Option Value} (r:RelO o u):o.isSome=u.isSome:=by
 cases o with
 |none=>cases u with
  |none=>rfl
  |some _=>exact (show False from r).elim
 |some _=>cases u with
  |none=>exact (show False from r).elim
  |some _=>rfl
theorem KV.val {F:List (κ×V)} {vs:List (κ×Value)} (r:KV F vs) (k:κ):RelO (vL F k) (valueAt vs k):=by
 unfold KV at r
 induction r with
 |nil=>exact True.intro
 |@cons p q L E h t J =>
  obtain ⟨G,I⟩:=h
  by_cases e:p.1=k
  ·have D:q.1=k:=G.symm.trans e;have b:valueAt (q::E) k=some q.2:=by simp [valueAt,gn,D]
   rw [JF e,b];exact I
  ·have D:¬q.1=k:=fun z=>e (G.trans z)
   have b:valueAt (q::E) k=valueAt E k:=by simp [valueAt,gn,D]
   rw [yI e,b];exact J
theorem KV.any {E:List (κ×V)} {vs:List (κ×Value)} (r:KV E vs) (k:κ):(E.any fun D=>decide (D.1=k))=vs.any fun D=>decide (D.1=k):=by
 unfold KV at r
 induction r with
 |nil=>rfl
 |cons h t F=>rw [iy,iy,F,h.1]
theorem KV.repl {F:List (κ×V)} {vs:List (κ×Value)} (r:KV F vs) (k:κ) {y:V} {u:Value} (J:RelV y u) :
  KV (F.map fun D=>if D.1=k then (D.1,y) else D) (vs.map fun D=>if D.1=k then (D.1,u) else D):=by
 unfold KV at r ⊢
 induction r with
 |nil=>exact .nil
 |@cons p q L M h t I =>
  rw [cf,cf];refine .cons ?_ I;obtain ⟨E,G⟩:=h
  by_cases e:p.1=k
  ·rw [if_pos e,if_pos (E.symm.trans e)];exact ⟨E,J⟩
  ·rw [if_neg e,if_neg (fun z=>e (E.trans z))];exact ⟨E,G⟩
theorem KV.put {D:List (κ×V)} {vs:List (κ×Value)} (r:KV D vs) (k:κ) {y:V} {u:Value} (h:RelV y u):KV (yL D k y) (stored vs k u):=by
 unfold yL stored;rw [r.any k]
 by_cases e:(vs.any fun E=>decide (E.1=k))=true
 ·rw [if_pos e,if_pos e];exact r.repl k h
 ·rw [if_neg e,if_neg e];exact Paired.snoc r ⟨rfl,h⟩
theorem KV.length {h:List (κ×V)} {vs:List (κ×Value)} (r:KV h vs):h.length=vs.length:=Paired.length r
end
variable {w:World} {k:kY} {u:Value}
theorem lA {P:Program} (r:RelV (kV k) u):(JI P w).is k u=true:=by
 cases k with
 |inl i=>obtain ⟨t,e⟩:=(show ∃t,u=Value.int i t from r);subst e;exact SM P w i t
 |inr x=>obtain ⟨t,e⟩:=(show ∃t,u=Value.str x t from r);subst e;exact SL P w x t
theorem EQ {P:Program} {w:World}:∀{D:List kY} {us:List Value},Vals (D.map kV) us->ItemsAre (JI P w) D us
 |[],_,r=>by rw [List.map_nil] at r;cases r;exact .nil
 |k::D,_,r=>by
  rw [cf] at r;cases r with
  |cons h t=>exact .cons (lA h) (EQ t)
abbrev KT (H:Hp):List (List kY×V)->List (List kY×Addr×Value)->Prop:=Paired fun p q=>p.1=q.1/\H q.2.1=some (.tup (p.1.map kV))/\RelV p.2 q.2.2
variable {H:Hp} {kj:List (List kY×V)} {xs:List (List kY×Addr×Value)}
theorem KT.val (r:KT H kj xs) (k:List kY):RelO (vL kj k) ((atKey xs k).map (·.2)):=by
 induction r with
 |nil=>exact True.intro
 |@cons p q J E h t G =>
  obtain ⟨F,_,I⟩:=h
  by_cases e:p.1=k
  ·have D:q.1=k:=F.symm.trans e;have b:atKey (q::E) k=some q.2:=by simp [atKey,gn,D]
   rw [JF e,b];exact I
  ·have D:¬q.1=k:=fun z=>e (F.trans z)
   have b:atKey (q::E) k=atKey E k:=by simp [atKey,gn,D]
   rw [yI e,b];exact G
variable {y:V}
theorem KT.repl (r:KT H kj xs) (k:List kY) (J:RelV y u) :
  KT H (kj.map fun E=>if E.1=k then (E.1,y) else E) (xs.map (putAt k u)):=by
 induction r with
 |nil=>exact .nil
 |@cons p q L M h t G =>
  rw [cf,cf];refine .cons ?_ G;obtain ⟨D,F,I⟩:=h;unfold putAt
  by_cases e:p.1=k
  ·rw [if_pos e,if_pos (D.symm.trans e)];exact ⟨D,F,J⟩
  ·rw [if_neg e,if_neg (fun z=>e (D.trans z))];exact ⟨D,F,I⟩
theorem KT.put (r:KT H kj xs) (k:List kY) {b:Addr} (E:H b=some (.tup (k.map kV))) (h:RelV y u) :
  KT H (yL kj k y) (storedH xs k b u):=by
 have e:(kj.any fun D=>decide (D.1=k))=(atKey xs k).isSome:=by
  rw [iC,(r.val k).isSome_eq,Option.isSome_map]
 unfold yL storedH;rw [e]
 by_cases q:(atKey xs k).isSome=true
 ·rw [if_pos q,if_pos q];exact r.repl k h
 ·rw [if_neg q,if_neg q];exact Paired.snoc r ⟨rfl,E,h⟩
theorem KT.keeps {h:Hp} (r:KT H kj xs) (D:∀b ys,H b=some (.tup ys)->h b=some (.tup ys)):KT h kj xs :=
 Paired.mapP r fun _ _ z=>⟨z.1,D _ _ z.2.1,z.2.2⟩
section
variable {P:Program} {w:World} {H:Hp} {h:Heap} {a:Addr}
theorem KR {u:HO} (D:HOk P w H h) (e:Rd H a u):ObjOk P w H h a u:=e.ok D
theorem pQ {kj:List (kY×V)} (D:HOk P w H h) (e:Rd H a (.dK kj)):kj.length<=sizeLine/\(a == sysModules)=false/\∃vs,KV kj vs/\h.DictOf (JI P w) a vs :=
 show ObjOk P w H h a (.dK kj) from KR D e
theorem K0 {kj:List (kY×V)} (D:HOk P w H h) (e:H a=some (.dK kj)):kj.length<=sizeLine/\(a == sysModules)=false/\∃vs,KV kj vs/\h.DictOf (JI P w) a vs:=pQ D (.inl e)
theorem pB {E:List kY} (G:HOk P w H h) (e:H a=some (.tup (E.map kV))):(tupleKind (JI P w)).is h E a:=by
 obtain ⟨_,D,r,o,I,J,n,F⟩:=(show ObjOk P w H h a (.tup (E.map kV)) from G a _ e);exact ⟨o,D.toArray,n,I,J,F,by simpa using EQ r⟩
theorem pP {kj:List (List kY×V)} (F:HOk P w H h) (e:Rd H a (.dT kj)):kj.length<=sizeLine/\(a == sysModules)=false/\
  ∃xs,KT H kj xs/\h.DictOfH (tupleKind (JI P w)) a xs:=by
 obtain ⟨z,y,xs,r,o,M,Y,I,S,O,Z,J⟩:=(show ObjOk P w H h a (.dT kj) from KR F e);refine ⟨z,y,xs,r,o,M,Y,I,S,O,Z,fun x D=>?_,J⟩;have E:∀{l:List (List kY×V)} {m:List (List kY×Addr×Value)},KT H l m->∀x∈m,(tupleKind (JI P w)).is h x.1 x.2.1:=by
  intro l m q
  induction q with
  |nil=>intro x D;exact nomatch D
  |@cons p q ps qs G t L =>
   intro x D
   rcases aj.mp D with e|D
   ·subst e;exact pB F (by rw [<- G.1];exact G.2.1)
   ·exact L x D
 exact E r x D
theorem jBs {kj:List (List kY×V)} (D:HOk P w H h) (e:H a=some (.dT kj)):kj.length<=sizeLine/\(a == sysModules)=false/\
  ∃xs,KT H kj xs/\h.DictOfH (tupleKind (JI P w)) a xs:=pP D (.inl e)
end
def DGet (H:Hp) (a:Addr) (y:V) (r:Option V):Prop :=
 (∃kj k,Rd H a (.dK kj)/\y=kV k/\r=vL kj k)\/∃kj k b,Rd H a (.dT kj)/\y=.ref b/\H b=some (.tup (k.map kV))/\r=vL kj k
def DPut (H:Hp) (a:Addr) (y v:V) (h:Hp):Prop :=
 (∃kj k,H a=some (.dK kj)/\y=kV k/\kj.length<sizeLine/\h=upd H a (.dK (yL kj k v)))\/
 ∃kj k b,H a=some (.dT kj)/\y=.ref b/\H b=some (.tup (k.map kV))/\kj.length<sizeLine/\h=upd H a (.dT (yL kj k v))
variable {a:Addr}
theorem DGet.kq {kj:List (kY×V)} (e:H a=some (.dK kj)):DGet H a (kV k) (vL kj k):=.inl ⟨kj,k,.inl e,rfl,rfl⟩
theorem DPut.kq {kj:List (kY×V)} {v:V} (e:H a=some (.dK kj)) (h:kj.length<sizeLine):DPut H a (kV k) v (upd H a (.dK (yL kj k v))):=.inl ⟨kj,k,e,rfl,h,rfl⟩
section
variable {X:Cx} {kc:List (Addr×Obj)} {σ:St} {H:Hp} {s:Shared} {a:Addr} {y v:V} {u r:Value} {o:Option V} {A:Around} {E:Value->Shared->Prop}
theorem Inv.big (I:Inv X kc σ H s):sysModules<s.heap.objs.size:=by
 have h:mainGlobals<s.heap.objs.size:=(I.mod.glob.keeps I.bk).lt;exact Nat.lt_trans (by decide) h
theorem VB {Q:Value->Shared->Prop} (hu:A.units+1<cLine) (I:Inv X kc σ H s) (g:DGet H a y (some v)) (V:RelV y u) (h:∀G S,Inv X kc σ H S->RelV v G->Q G S) :
  wpAny (model X.prog X.w) A (getItem (.ref a) u) Q E s:=by
 rcases g with ⟨kj,k,e,J,l⟩|⟨kj,k,b,e,J,eb,l⟩
 ·subst J;obtain ⟨z,Y,Z,D,O⟩:=pQ I.hok e;obtain ⟨G,M,F⟩:=RelO.some_of (v:=v) (o:=valueAt Z k) (by rw [l];exact D.val k);exact wpAny_getItem_of (lA V) O.mapOf M (h G _ (I.tok _) F)
 ·subst J;cases (show u=Value.ref b from V);obtain ⟨z,Y,xs,D,O⟩:=pP I.hok e;obtain ⟨G,M,F⟩:=RelO.some_of (v:=v) (o:=(atKey xs k).map (·.2)) (by rw [l];exact D.val k);obtain ⟨p,hp,L⟩:=ba.mp M;refine wpAny_getItem_heap (tupleKind_room_in1 hu) (pB I.hok eb) O hp ?_;rw [L];exact h G _ (I.tok _) F
theorem YE {Q:Value->Shared->Prop} (O:A.units+1<cLine) (I:Inv X kc σ H s) (g:DGet H a y o) (M:RelV y u) (h:∀L,Inv X kc σ H L->Q (.bool (!o.isSome)) L) :
  wpAny (model X.prog X.w) A (compareOp .NotIn u (.ref a)) Q E s:=by
 rcases g with ⟨kj,k,e,J,l⟩|⟨kj,k,b,e,J,S,l⟩
 ·subst J;obtain ⟨z,F,V,D,G⟩:=pQ I.hok e;refine wpAny_notIn_of (lA M) F G.mapOf ?_;rw [<- (D.val k).isSome_eq,<- l];exact h _ (I.tok _)
 ·subst J;cases (show u=Value.ref b from M);obtain ⟨z,F,xs,D,G⟩:=pP I.hok e;refine wpAny_notIn_heap (tupleKind_room_in1 O) (pB I.hok S) F G ?_;have q:=(D.val k).isSome_eq;rw [Option.isSome_map] at q;rw [<- q,<- l];exact h _ (I.tok _)
theorem AT {h':Heap} {t':Nat} {h:HO} (I:Inv X kc σ H s) (F:lN (H a)) (G:Heap.SameBut a s.heap h') (he:∃q,h'.get? a=some q) (D:ObjOk X.prog X.w (upd H a h) h' a h) :
  Inv X kc σ (upd H a h) {s with heap:=h',toks:=t'} :=
 I.write (x:=a) (e:=a) F (.inl rfl) (fun b q J z=>(G.2 b J).trans z) he D
theorem KF {P:Program} {w:World} {F:Hp} {h':Heap} {kj:List (kY×V)} {vs:List (kY×Value)} (z:kj.length<=sizeLine) (D:(a == sysModules)=false) (h:KV kj vs) (dd:h'.DictOf (JI P w) a vs) :
  ObjOk P w F h' a (.dK kj):=⟨z,D,vs,h,dd⟩
theorem VA {H':Hp} {Q:Unit->Shared->Prop} (hu:A.units+1<cLine) (I:Inv X kc σ H s) (g:DPut H a y v H') (ry:RelV y u) (rv:RelV v r) (h:∀Z,Inv X kc σ H' Z->Q () Z) :
  wpAny (model X.prog X.w) A (setItem (.ref a) u r) Q E s:=by
 rcases g with ⟨kj,k,e,M,l,J⟩|⟨kj,k,b,e,M,eb,l,J⟩
 ·subst M J;obtain ⟨z,O,vs,D,S⟩:=K0 I.hok e;have L:vs.length<=sizeLine:=by rw [<- D.length];exact z
  have V:(yL kj k v).length<=sizeLine:=by have:=mY kj k v;lia
  refine wpAny_setItem_pairs (hsz:=L) (lA ry) S fun h' F Y=>h _ ?_
  have he:∃q,h'.get? a=some q:=let ⟨q,_,_,G,_⟩:=F;⟨q,G⟩
  exact AT I (by rw [e];exact True.intro) Y he (KF V O (D.put k rv) F)
 ·subst M J;cases (show u=Value.ref b from ry);obtain ⟨z,O,xs,D,S⟩:=jBs I.hok e;have L:xs.length<=sizeLine:=by rw [<- Paired.length D];exact z
  have V:(yL kj k v).length<=sizeLine:=by have:=mY kj k v;lia
  refine wpAny_setItem_heap (hsz:=L) (tupleKind_room_in1 hu) (pB I.hok eb) S fun h' F Y=>h _ ?_
  obtain ⟨q,es,ep,G,h2,h3,h4,_,h5⟩:=F;refine AT I (by rw [e];exact True.intro) Y ⟨q,G⟩ ⟨V,O,_,(D.put k eb rv).keeps fun c ys ec=>?_,q,es,ep,G,h2,h3,h4,h5⟩;rw [j7 (yP ec e (fun z=>nomatch z))];exact ec
end
section
variable {X:Cx} {kc:List (Addr×Obj)} {σ:St} {H:Hp} {s:Shared} {a:Addr} {kj:List (kY×V)} {k:kY} {u:Value} {A:Around} {E:Value->Shared->Prop}
end
def LG (i:Expr):Prop:=∀D h,subscripted i false D h=operate [D,h] (getItem D h)
variable {kn:Pos}
theorem W8 {prog:Program} {A:Around} {E:Value->Shared->Prop} {s:Shared} {L:Env} {V S:Expr} {T id:String} {Q:Value->Shared->Prop}
  (hl:typeLookup (.type T) "__getitem__"=pure (some (.builtin id))) (Z:LG S)
  (h:wpAny (model prog w) A (eval V L) (fun o G=>wpAny (model prog w) A (eval S L) (fun i D=>D.TypeIs o T/\wpAny (model prog w) A (getItem o i) Q E D) E G) E s) :
  wpAny (model prog w) A (eval (.Subscript V S kn) L) Q E s:=by
 refine Subscript_ (du h (fun o G O=>du O (fun i D F=>?_) fun _ _ x=>x) fun _ _ x=>x);obtain ⟨Y,F⟩:=F;unfold subscriptTail;refine ai ?_;rw [getitemInPython_of_ne Y.not_modules];refine ai (wpAny_specialOf Y hl ?_);have J:wpAny (model prog w) A (subscripted S false o i) (fun r I=>wpAny (model prog w) A (letTemporaryGo V o r >>= fun _=>pure r) Q E I) E D:=by
  rw [Z o i];exact wpAny_operating (du F (fun r I M=>ai (wpAny_letTemporaryGo (aX M))) fun _ _ x=>x)
 first
  |exact aX (ai J)
  |exact ai (aX (ai J))
  |exact ai J
variable {X:Cx}
theorem SQ {E:List (Addr×Obj)} {D:St} {s:Shared} {o:Option V} (I:Inv X E D H s) (g:DGet H a y o):s.TypeIs (.ref a) "dict":=by
 rcases g with ⟨kj,k,e,_,_⟩|⟨kj,k,b,e,_,_,_⟩
 ·obtain ⟨_,_,F,_,h⟩:=pQ I.hok e;exact h.typeIs
 ·obtain ⟨_,_,xs,_,h⟩:=pP I.hok e;exact h.typeIs
def jAw (F E:TE):TE:=fun h H Q=>F h H fun x G=>E h G fun y D=>∃a v,x=.ref a/\DGet D a y (some v)/\Q v D
def W7 (E F:TE):TE:=fun h H Q=>E h H fun y G=>F h G fun x D=>∃a o,x=.ref a/\DGet D a y o/\Q (.bl (!o.isSome)) D
def jAz (I F G:TE):TS:=fun D h H=>G h H fun v J=>I h J fun x L=>F h L fun y M=>∃a E,x=.ref a/\DPut M a y v E/\D.nx h E
section
variable {X:Cx} {o i e kx:Expr} {kn pos' kg:Pos} {td ty tv:TE}
theorem zP (hu:X.A.units+1<cLine) (ho:PE X o td) (hi:PE X i ty) (hs:LG i):PE X (.Subscript o i kn) (jAw td ty):=by
 intro G s E H Q I h;refine W8 PySem.F.slot_dict_getitem.lookup hs (jZ (ho G s E H _ I h) fun u O ⟨x,V,Y,L,q1⟩=>jZ (hi G O E V _ Y q1) fun iv s2 ⟨y,H2,J,ry,a,v,M,g,S⟩=>?_);subst M;obtain rfl:u=Value.ref a:=L;exact ⟨SQ J g,VB hu J g ry fun w' s3 Z D=>⟨v,H2,Z,D,S⟩⟩
theorem UG (Y:X.A.units+1<cLine) (hi:PE X i ty) (ho:PE X o td):PC X .NotIn i o (W7 ty td):=by
 intro E s D H Q I h;refine jZ (hi E s D H _ I h) fun iv L ⟨y,O,S,Z,q1⟩=>jZ (ho E L D O _ S q1) fun u s2 ⟨x,H2,I2,F,a,J,G,g,M⟩=>?_
 subst G;obtain rfl:u=Value.ref a:=F;exact YE Y I2 g Z fun s3 V=>⟨.bl (!J.isSome),H2,V,rfl,M⟩
theorem fS (hu:X.A.units+1<cLine) (ho:PE X o td) (hi:PE X i ty) (hv:PE X kx tv) (hs:swapsWith kx (some (.Subscript o i pos')) kn.line X.env=pure false) :
  PS X (.Assign [.Subscript o i pos'] kx kn) (jAz td ty tv):=by
 intro F s E H D I h;refine wpAny_Assign_Subscript (jZ (hv F s E H _ I h) fun r M ⟨v,S,V,Z,q1⟩=>jZ (ho F M E S _ V q1) fun u G ⟨x,H2,I2,J,O⟩=>jZ (hi F G E H2 _ I2 O) fun iv s3 ⟨y,H3,Y,ry,a,H4,L,g,q3⟩=>?_) hs;subst L;obtain rfl:u=Value.ref a:=J;exact VA hu Y g ry Z fun s4 I4=>⟨E,H4,I4,q3⟩
end
theorem GM {P:Program} (h:Heap) (D:sysModules<h.objs.size):ObjOk P w H (h.push {cls:=.type "dict",data:=.dict #[]}) h.objs.size (.dK []) :=
 ⟨aN _,dz.mpr (Ne.symm (aS D)),[],.nil,Heap.DictOf.new h⟩
def YU:TE:=fun _ H Q=>∀p,H p=none->Q (.ref p) (upd H p (.dK []))
section
variable {X:Cx} {kn:Pos}
theorem V1:PE X (.Dict [] [] kn) YU:=fun E s D H Q I h =>
 wpAny_Dict_empty ⟨.ref s.heap.objs.size,_,I.laid (a:=s.heap.objs.size) (o:=.dK []) (t':=s.toks) (fun _ _ q=>ak _ q) (ao _) (GM s.heap I.big),rfl,h _ (I.hok.fresh (ao _))⟩
end
def AU:List (TE×TE)->St->Hp->(List (V×V)->Hp->Prop)->Prop
 |[],_,H,Q=>Q [] H
 | (D,E)::r,h,H,Q=>D h H fun x F=>E h F fun y G=>AU r h G fun ps I=>Q ((x,y)::ps) I
abbrev VV:List (V×V)->List (Value×Value)->Prop:=Paired fun p q=>RelV p.1 q.1/\RelV p.2 q.2
def rQ (X:Cx) (kn:Pos) (D:List (Option Expr)) (h:List Expr) (E:List (TE×TE)):Prop :=
 ∀(J:List (Addr×Obj)) (s:Shared) (F:St) (H:Hp) (Q:List (V×V)->Hp->Prop),Inv X J F H s->AU E F H Q->
  wpAny (model X.prog X.w) X.A (evalPairs (pairTrees D h X.env kn)) (fun M L=>∃G I,Inv X J F I L/\VV G M/\Q G I) X.xe s
theorem HJ:rQ X kn [] [] []:=fun E s D H Q I h=>pairTrees_nil_walk ⟨[],H,I,.nil,h⟩
theorem bQ {k v:Expr} {M:List (Option Expr)} {vs:List Expr} {L J:TE} {D:List (TE×TE)} (hk:PE X k L) (hv:PE X v J) (hr:rQ X kn M vs D) :
  rQ X kn (some k::M) (v::vs) ((L,J)::D):=fun F s E H Q I h =>
 pairTrees_cons_walk (jZ (hk F s E H _ I h) fun u Y ⟨x,H1,I1,V,q1⟩=>jZ (hv F Y E H1 _ I1 q1) fun w2 S ⟨y,H2,I2,ry,Z⟩ =>
  jZ (hr F S E H2 _ I2 Z) fun ws s3 ⟨O,H3,I3,G,q3⟩=>⟨(x,y)::O,H3,I3,.cons ⟨V,ry⟩ G,q3⟩)
def Z6 (kj h:List (kY×V)):List (kY×V):=h.foldl (fun D E=>yL D E.1 E.2) kj
theorem KV.merge:∀{D:List (kY×V)} {E:List (kY×Value)} {kj:List (kY×V)} {vs:List (kY×Value)},KV D E->KV kj vs->KV (Z6 kj D) (merged vs E):=by
 intro D E kj vs r;unfold KV at r
 induction r generalizing kj vs with
 |nil=>intro q;exact q
 |@cons p q I J h t F =>
  intro G;have e:KV (yL kj p.1 p.2) (stored vs q.1 q.2):=by
   have:=G.put p.1 h.2;rw [<- h.1];exact this
  exact F e
theorem C7:∀(h kj:List (kY×V)),(Z6 kj h).length<=kj.length+h.length
 |[],kj=>by show kj.length<=kj.length+0;lia
 |p::r,kj=>by
  have D:=C7 r (yL kj p.1 p.2);have E:=mY kj p.1 p.2;show (Z6 (yL kj p.1 p.2) r).length<=_;rw [dv];lia
theorem DS {P:Program} {w:World}:∀{kj:List (kY×V)} {F:List (Value×Value)},VV (kj.map fun E=>(kV E.1,E.2)) F->∃D,Carries (JI P w) F D/\KV kj D
 |[],_,r=>by rw [List.map_nil] at r;cases r;exact ⟨[],True.intro,.nil⟩
 |p::kj,_,r=>by
  rw [cf] at r;cases r with
  |@cons a b as bs h t =>
   obtain ⟨D,c,q⟩:=DS (P:=P) (w:=w) t;obtain ⟨I,G⟩:=b;exact ⟨(p.1,G)::D,⟨lA h.1,rfl,c⟩,.cons ⟨rfl,h.2⟩ q⟩
def jAv (h:List (TE×TE)):TE:=fun G H Q=>∀p,H p=none->AU h G (upd H p (.dK [])) fun F E=>E p=some (.dK [])/\∃kj:List (kY×V),F=kj.map (fun D=>(kV D.1,D.2))/\kj.length<=15/\Q (.ref p) (upd E p (.dK (Z6 [] kj)))
theorem HM {D:List (Option Expr)} {E:List Expr} {F:List (TE×TE)} (h:rQ X kn D E F) (J:D.all (·.isSome)=true) (hl:D.length=E.length) (h0:D≠[])
  (L:D.length<=15):PE X (.Dict D E kn) (jAv F):=by
 intro kc s σ H Q I q;have hn:=I.hok.fresh (ao s.heap.objs.size);have I1:=I.laid (a:=s.heap.objs.size) (o:=.dK []) (h':=s.heap.push {cls:=.type "dict",data:=.dict #[]}) (t':=s.toks) (fun _ _ q=>ak _ q) (ao _) (GM s.heap I.big);refine wpAny_Dict_walk (knd:=JI X.prog X.w) J hl h0 L (jZ (h kc _ σ _ _ I1 (q _ hn)) fun ws s2 ⟨ps,H2,O,M,e,kj,ep,lk,Z⟩=>?_);subst ep;obtain ⟨rs,c,rk⟩:=DS (P:=X.prog) (w:=X.w) M;obtain ⟨z,Y,ah,r0,dd⟩:=K0 O.hok e;cases r0;refine ⟨rs,c,dd,fun h' G hs=>⟨.ref s.heap.objs.size,_,?_,rfl,Z⟩⟩;have S:(Z6 [] kj).length<=sizeLine:=by
  have V:=C7 kj [];rw [List.length_nil] at V;rw [sizeLine_eq];lia
 have he:∃q,h'.get? s.heap.objs.size=some q:=let ⟨q,_,_,hq,_⟩:=G;⟨q,hq⟩
 exact AT O (by rw [e];exact True.intro) hs he (KF S Y (rk.merge .nil) G)
end L2
namespace L2
open PySem PySem.Spec PyProof.Rows
section
variable {X:Cx} {tg:Expr}
end
section
variable {X:Cx}
end
inductive Kd where
 |plain|basin|pump
structure MeK (P:Program) (w:World) (K:PySem.W.Frag) (mg:Str->Option Value) (base:Heap) (k:Nat) (cs:Kd->Addr) (m:Str) (ps:List Str) (ss:Kd->Sp):Prop where
 ex:∀kd,MeD P w K mg base k (cs kd) m ps (ss kd)
def YT (cs:Kd->Addr) (m:Str) (M:Kd->Sp) (G:TE) (t:TA):TE:=fun D H Q=>G D H fun x E=>∃(F:Kd) (a J:Addr) (h:List (Str×V)),x=.ref a/\E a=some (.ins (cs F) J h)/\h.lookup m=none/\
 t D E fun I L=>M F (x::I) L Q E0
section
variable {X:Cx} {k k':Nat} {x m:Str} {cs:Kd->Addr} {ps:List Str} {ss:Kd->Sp} {p kn kh:Pos} {o e:Expr} {es:List Expr} {ta:TE} {t:TA}
theorem KS {pl:Sem Bool} (M:MeK X.prog X.w X.K X.mg X.base k cs m ps ss) (hr:Room k' X.A) (ho:PE X o ta) (Z:PA X (e::es) t) (hk:k<=k':=by decide)
  (D:starEach (e::es) X.env=(false,eval e X.env)::starEach es X.env:=by rfl) (hpl:(backTo kn (starEach es X.env)).any (·.1)=false:=by rfl)
  (ht:eval (.Call (.Attribute o m kh) (e::es) [] kn) X.env=(do
   let E <- eval o X.env
   standAt kh.atName
   let (f,first) <- holding [E] (getMethod E m pl)
   callWith kn f first (backTo kn (starEach (e::es) X.env)) (backToKw kn (keywordEach [] X.env))):=by rfl) :
  PE X (.Call (.Attribute o m kh) (e::es) [] kn) (YT cs m ss ta t):=by
 intro O s F H Q I h;refine fq (pl:=pl) (jZ (ho O s F H _ I h) fun u s1 ⟨x,H1,J,V,kd,a,dx,fs,Y,ea,l,q⟩=>?_) ht;obtain ⟨c,f,fd,L,G,b⟩:=(M.ex kd).ex;subst Y;obtain rfl:u=Value.ref a:=V;refine nJ J ea c L l ?_;refine em (first:=[.ref a]) (h₀:=X.base) I.ok.mod.kin L.kp (jZ (Z kn O s1 F H1 _ J q) fun us s2 ⟨vs,H2,S,r,q2⟩=>⟨S.kIn,?_⟩) D hpl;exact iQ (us:=.ref a::us) (vs:=.ref a::vs) (dvs:=[]) G (hr.mono hk) b .nil gA S (.cons rfl r) (by rw [cq];exact q2)
end
def lP (z:Str):It:=⟨fun i _=>i<z.cps.size,fun i H v h=>h=H/\∃c,z.cps[i]?=some c/\v=.str ⟨#[c]⟩,fun i _=>i=z.cps.size⟩
theorem D8 {P:Program} {w:World} {K:PySem.W.Frag} {tg:Expr} (it:Addr) (z:Str) (t:Tok) (T:String)
  (W:∀A:Around,A.handled=none->Walks P w A it [it] [it] z.cps.size (SignAt z) (fun i h=>h.IsStrIter it T z t i))
  (hn:["enumerate","zip","dict_itemiterator","dict_reverseitemiterator","odict_iterator","itertools.zip_longest","itertools.pairwise"].contains T=false)
  (F:∀(A:Around) (i:Nat) (s:Shared) (Q:Value->Shared->Prop) (E:Value->Shared->Prop),s.heap.IsStrIter it T z t i->Q (.ref it) s->wpAny (model P w) A (pyIter (.ref it)) Q E s) :
  Turn P w K tg (lP z) [it] it (fun i h=>h.IsStrIter it T z t i) where
 mem:=by simp
 obj:=fun i h D b G=>by
  have e:b=it:=by simpa using G
  subst e;obtain ⟨o,L,_,V⟩:=D;exact ⟨o,L,fun v q=>by rw [V] at q;cases q⟩
 keep:=fun i h M D k=>by
  obtain ⟨o,L,r⟩:=D;exact ⟨o,k it (by simp) o L,r⟩
 item:=by
  intro X hP Y S hc i kc s σ H E I O D hg;subst hP Y S;obtain ⟨f0,f1,f2,f3,f4,Z⟩:=O it (by simp);refine (W X.A (I.ok.hd hc)).item i s _ _ hg D fun v M tk hv J kk=>?_
  obtain ⟨c,u,al,rfl⟩:=hv;have I1:Inv X kc σ H {s with heap:=M,toks:=tk}:=I.turned (fun b o G e=>kk b o (by simpa using G) e) f0 f1 f3 f4 Z;have am:=J;obtain ⟨o,L,ah,V⟩:=am;exact ⟨_,rfl,pO (s:={s with heap:=M,toks:=tk}) (n:=T) L ah V hn ⟨.str ⟨#[c]⟩,H,I1,⟨u,rfl⟩,⟨rfl,c,al,rfl⟩,J,fun b G=>(O b G).1⟩⟩
 done:=by
  intro X hP Y S hc i kc s σ H E I O D hg;subst hP Y S;obtain ⟨f0,f1,f2,f3,f4,Z⟩:=O it (by simp);have e:i=z.cps.size:=hg;subst e;exact (W X.A (I.ok.hd hc)).done s _ _ D fun M tk eb=>⟨rfl,I.turned (fun b o G e=>eb b o (by simpa using G) e) f0 f1 f3 f4 Z⟩
 self:=fun A i s Q E D h=>F A i s Q E D h
section
variable {X:Cx} {tg:Expr}
def jCo (h:TE):TI:=fun D H R=>h D H fun x E=>∃z:Str,x=.str z/\R (lP z) E
theorem Y4 {l:Expr} {Y:TE} (hl:PE X l Y):PI X tg l (jCo Y):=by
 intro V s S H R I h;refine jZ (hl V s S H _ I h) fun v D ⟨x,H1,J,r1,q1⟩=>?_
 obtain ⟨z,e,q⟩:=q1;subst e;obtain ⟨t,rfl⟩:=r1;have F:∀(o:Obj) (T:String) (G:Nat->Heap->Prop),Turn X.prog X.w X.K tg (lP z) [D.heap.objs.size] D.heap.objs.size G->G 0 (D.heap.push o)->CL X V S tg R (.ref D.heap.objs.size) {D with heap:=D.heap.push o}:=by
  intro o T G Z h0;refine ⟨D.heap.objs.size,[D.heap.objs.size],G,_,H1,rfl,J.kept (t':=D.toks) fun b o e=>ak _ e,Z,h0,fun b hb=>?_,q⟩;have e:b=D.heap.objs.size:=by simpa using hb
  subst e;exact J.fpOk (ao _) (J.hok.fresh (ao _))
 cases O:z.cps.all (· < 128)
 ·exact wpAny_pyIter_wide O (F _ "str_iterator" _ (D8 _ z t "str_iterator" (fun A M=>Walks.strWide M _ z t) (by decide) (fun A i s Q E L h=>wpAny_pyIter_striter_wide L h)) ⟨_,aC _ rfl,rfl,rfl⟩)
 ·exact wpAny_pyIter_ascii O (F _ "str_ascii_iterator" _ (D8 _ z t "str_ascii_iterator" (fun A M=>Walks.strAscii M _ z t) (by decide) (fun A i s Q E L h=>wpAny_pyIter_striter_ascii L h)) ⟨_,aC _ rfl,rfl,rfl⟩)
end
theorem T2 {z:Str} {D:Addr} {g:TG} {L:TT} {M:TE} {h:St} {H:Hp} {Q:Hp->Prop} (G:Nat->St->Hp->Prop) (h0:G 0 h (upd H D (.lst [])))
  (hs:∀i c F H,z.cps[i]?=some c->G i F H->g (.str ⟨#[c]⟩) F H fun E H3=>L E H3 fun b O=>if b=true then M E O fun v J=>∃ys,J D=some (.lst ys)/\ys.length<sizeLine/\G (i+1) E (upd J D (.lst (ys++[v]))) else G (i+1) E O)
  (V:∀F H,G z.cps.size F H->Q H):QB D (lP z) g L M h H Q:=by
 refine ⟨fun i m F H=>m=z.cps.size - i/\i<=z.cps.size/\G i F H,⟨_,rfl,aN _,h0⟩,?_⟩;rintro i m F H ⟨rfl,hi,p⟩
 by_cases I:i<z.cps.size
 ·refine .inr ⟨I,G (i+1),fun Y H' S=>⟨z.cps.size - (i+1),by lia,rfl,I,S⟩,fun x H' y=>?_⟩;obtain ⟨e,c,Z,y⟩:=y;subst e y;exact hs i c F _ Z p
 ·have e:i=z.cps.size:=by lia
  subst e;exact .inl ⟨rfl,V F H p⟩
theorem VE {z:Str} {D:Addr} {L:TT} {J:TE} {caps:St} {H:Hp} {Q:Hp->Prop} (R:Nat->List V->Hp->Prop) (S:H D=none) (h0:R 0 [] (upd H D (.lst [])))
  (Z:∀i c ys h,z.cps[i]?=some c->ys.length<=i->Same H h->h D=some (.lst ys)->R i ys h->L (some (.str ⟨#[c]⟩)::caps) h fun b M=>if b=true then J (some (.str ⟨#[c]⟩)::caps) M fun v I=>∃zs,I D=some (.lst zs)/\zs.length<sizeLine/\JK H D caps R (i+1) (some (.str ⟨#[c]⟩)::caps) (upd I D (.lst (zs++[v])))
   else JK H D caps R (i+1) (some (.str ⟨#[c]⟩)::caps) M)
  (O:∀ys E,Same H E->E D=some (.lst ys)->ys.length<=z.cps.size->R z.cps.size ys E->Q E):QB D (lP z) (bD 0) L J (none::caps) H Q:=by
 refine T2 (JK H D caps R) ⟨[],none,rfl,qY S (Same.refl H),jF,ao _,h0⟩ ?_ ?_
 ·rintro i c Y h hi ⟨ys,c',rfl,s,F,G,r⟩;exact Z i c ys h hi G s F r
 ·rintro Y E ⟨ys,c,rfl,s,F,G,r⟩;exact O ys E s F G r
section
variable {X:Cx}
def jCf:V->Option Int->Option Int->Hp->VK->Prop:=fun x h D H Q=>∃z:Str,x=.str z/\z.length<=sizeLine/\Q (.str (Txt.slice z h D)) H
theorem iP:rO X jCf:=by
 intro kc s σ H x v vl vu lo hi S Q I Y hs pl O h;obtain ⟨z,rfl,hz,q⟩:=h;obtain ⟨t,rfl⟩:=Y;refine ⟨"str",_,F.slot_str_getitem.lookup,typeIs_str _ _ _,?_⟩;have D:∀(l u:Option (Int×Tok)),l.map (·.1)=lo->u.map (·.1)=hi->s.heap.IsSlice S l u none->wpAny (model X.prog X.w) X.A (getItem (.str z t) (.ref S)) (EP X kc σ Q) X.xe s:=by
  intro l u e1 Z L;subst e1 Z;exact wpAny_getItem_str_slice L rfl (post_val_or_str ⟨aM (Txt.slice_le z _ _) hz,fun t' k=>⟨.str (Txt.slice z (l.map (·.1)) (u.map (·.1))),H,I.tok _,⟨t',rfl⟩,q⟩⟩)
 obtain ⟨o,J,G,E⟩:=hs;cases pl with
 |none =>
  cases O with
  |none=>exact D none none rfl rfl ⟨o,J,G,E⟩
  |int j M=>exact D none (some (j,M)) rfl rfl ⟨o,J,G,E⟩
 |int i V =>
  cases O with
  |none=>exact D (some (i,V)) none rfl rfl ⟨o,J,G,E⟩
  |int j M=>exact D (some (i,V)) (some (j,M)) rfl rfl ⟨o,J,G,E⟩
end
section
variable {X:Cx} {K:PySem.W.Frag} {w:World} {o i:Expr} {kn:Pos} {td ty:TE}
end
theorem GU {K:PySem.W.Frag} {H:Hp} {a:Addr} {o:Obj} {its:List Value} {n:Nat} {xs:List V} (l:K.lookup a=some o) (c:o.cls=.type "tuple") (d:o.data=.seq its.toArray n) (z:its.length<=sizeLine) (v:Vals xs its):SqT K H a xs :=
 .inr ⟨o,its.toArray,n,l,c,d,by rw [aq];exact z,v⟩
section
variable {X:Cx} {kc:List (Addr×Obj)} {σ:St} {H:Hp} {s:Shared} {A:Around}
end
section
variable {X:Cx}
def YZ:V->List V->Hp->VK->Prop:=fun x D H Q=>∃(l:Addr) (h:List V) (y:V) (j:Nat),x=.ref l/\D=[y]/\H l=some (.lst h)/\vY y=true/\h.all vY=true/\j<h.length/\j<=1000/\yW (h.getD j .non) y=true/\(∀i,i<j->yW (h.getD i .non) y=false)/\Q (.int (j:Int)) H
theorem WD:lO X "list.index" YZ:=by
 intro kc s σ H x vs v us Q I V rv h;obtain ⟨l,xs,y,j,rfl,rfl,hH,fy,S,hj,ah,he,L,q⟩:=h;cases V;obtain ⟨u,rfl,Y⟩:=rv.one;obtain ⟨z,D,n,r,O,e⟩:=I.lstM hH;have E:∀(m:Nat) (J:m<D.toArray.size),zE y D.toArray[m]=yW (xs.getD m .non) y:=fun m J=>pD (QX r J) (xQ S (by rw [O];simpa using J))
 have G:j<D.toArray.size:=by rw [aq,<- O];exact hj
 refine gu F.slot_list_index ⟨_,e,rfl⟩ F.entry_list_index (F.args_list_index_2 _ _) (SeqAt.list_indexAt l D.toArray n none #[] u (zE y) j G (by lia) (by rw [E j G];exact he) (fun m J M=>by rw [E m J];exact L m M)) ⟨e,fun w Z=>dC Y fy r S w (by simpa using Z),⟨.int (j:Int),H,I.tok _,⟨_,rfl⟩,q⟩⟩
end
theorem cX {X:Cx} (K:PySem.W.Frag) (h:X.K=K:=by rfl):y7 X (.type "tuple") (fun xs H Q=>∃p ys,xs=[.ref p]/\((SqL K H p ys/\∀l,H l=none->Q (.ref l) (upd H l (.tup ys)))\/(SqT K H p ys/\Q (.ref p) H))):=by subst h;exact R5
section
variable {X:Cx}
def jBe:V->List V->Hp->VK->Prop:=fun x h H Q=>∃z y:Str,x=.str z/\h=[.str y]/\Q (.int (Txt.find z y)) H
theorem X0:lO X "str.find" jBe:=by
 intro O s L H x M v J Q I D G h;obtain ⟨z,y,rfl,rfl,q⟩:=h;obtain ⟨t,rfl⟩:=D;obtain ⟨u,rfl,E,rfl⟩:=G.one;exact call_gives F.slot_str_find (typeIs_str _ _ _) F.entry_str_find (F.args_str_find_2 _ _) (gives_str_find z y t E) ⟨.int (Txt.find z y),H,I.tok _,⟨_,rfl⟩,q⟩
end
section
variable {X:Cx} {tg:Expr}
end
theorem DZ {K:PySem.W.Frag} {a D:Addr} {xs:List V} {g:TG} {L:TT} {M:TE} {E:St} {H:Hp} {Q:Hp->Prop} (G:Nat->St->Hp->Prop) (h0:G 0 E (upd H D (.lst []))) (hl:∀i h H,i<=xs.length->G i h H->SqT K H a xs)
    (hs:∀i x h H,xs[i]?=some x->G i h H->g x h H fun F H3=>L F H3 fun b O=>if b=true then M F O fun v J=>∃ys,J D=some (.lst ys)/\ys.length<sizeLine/\G (i+1) F (upd J D (.lst (ys++[v]))) else G (i+1) F O)
    (Y:∀h H,G xs.length h H->Q H):QB D (eO K a) g L M E H Q:=by
  refine ⟨fun i m h H=>m=xs.length - i/\i<=xs.length/\G i h H,⟨xs.length,by simp,aN _,h0⟩,?_⟩;rintro i m h H ⟨rfl,hi,p⟩;have q:=hl i h H hi p
  by_cases I:i<xs.length
  . refine .inr ⟨⟨xs,xs[i],q,by simp [I]⟩,G (i+1),fun Z H' S=>⟨xs.length - (i+1),by lia,rfl,I,S⟩,fun x H' y=>?_⟩
    obtain ⟨e,y⟩:=y;subst e;exact hs i x h _ (y xs q) p
  . have e:i=xs.length:=by lia
    subst e;exact .inl ⟨⟨xs,q,ao _⟩,Y h H p⟩
theorem VD {K:PySem.W.Frag} {a D:Addr} {xs:List V} {M:TT} {O:TE} {caps:St} {H:Hp} {Q:Hp->Prop} (R:Nat->List V->Hp->Prop) (Z:H D=none) (hS:H a=some (.tup xs)) (h0:R 0 [] (upd H D (.lst [])))
  (hs:∀i x ys h,xs[i]?=some x->i<xs.length->ys.length<=i->Same H h->h D=some (.lst ys)->R i ys h->M (some x::caps) h fun b S=>if b=true then O (some x::caps) S fun v J=>∃zs,J D=some (.lst zs)/\zs.length<sizeLine/\JK H D caps R (i+1) (some x::caps) (upd J D (.lst (zs++[v])))
   else JK H D caps R (i+1) (some x::caps) S)
  (Y:∀ys E,Same H E->E D=some (.lst ys)->ys.length<=xs.length->R xs.length ys E->Q E):QB D (eO K a) (bD 0) M O (none::caps) H Q:=by
 refine DZ (xs:=xs) (JK H D caps R) ⟨[],none,rfl,qY Z (Same.refl H),jF,ao _,h0⟩ (fun i L h _ ⟨_,_,_,s,_⟩=>SqT.of (s _ _ hS)) ?_ ?_
 ·rintro i x L h I ⟨ys,c,rfl,s,G,F,r⟩;exact hs i x ys h I (ad.mp I).1 F s G r
 ·rintro L E ⟨ys,c,rfl,s,G,F,r⟩;exact Y ys E s G F r
section
variable {X:Cx} {kc:List (Addr×Obj)} {σ:List (Option V)} {H:Hp} {s:Shared} {h':Heap}
theorem Inv.turnedN {t':Nat} {fp:List Addr} (I:Inv X kc σ H s) (k:∀b o,b∉fp->s.heap.get? b=some o->h'.get? b=some o) (E:∀b∈fp,QE X kc H b):Inv X kc σ H {s with heap:=h',toks:=t'}:=by
 have D:∀b u,H b=some u->b∉fp:=fun b u e z=>by rw [(E b z).1] at e;cases e
 have L:X.env.locals∉fp:=fun z=>(E _ z).2.1 rfl
 refine I.step (g':=s.gens) (d':=s.drawn) (ch:=fp) (fun b O=>?_) (fun b o _ _ h e _=>k b o h e) (fun b o _ _ h e _=>⟨o.slots,k b o h e⟩) (fun _ _ _ _ n=>n)
  (fun b o h e=>⟨o,k b o h e⟩) (fun _ _ e=>e) (fun _ _ _ e=>e) (fun b ps e=>⟨#[],by rw [e];simp⟩) (fun m J=>?_) (fun b u e=>?_) I.bare
 ·obtain ⟨f0,S,f2,Y,M,G⟩:=E b O;exact ⟨Y,S,M,G⟩
 ·obtain ⟨o,F,V,Z,r⟩:=J;exact ⟨o,F,V,k _ o L Z,r⟩
 ·refine (I.hok b u e).stay (fun c v h q=>k c v ?_ q) (fun _ q=>q) fun _ _ q=>q
  rcases h with z|z
  ·rw [z];exact D b u e
  ·exact D c _ z
theorem Inv.laidN {t':Nat} {fp:List Addr} {a:Addr} {o:HO} (I:Inv X kc σ H s) (k:∀b u,b∉fp->s.heap.get? b=some u->h'.get? b=some u) (G:∀b∈fp,QE X kc H b) (L:s.heap.objs.size<=a) (J:ObjOk X.prog X.w (upd H a o) h' a o) :
  Inv X kc σ (upd H a o) {s with heap:=h',toks:=t'}:=by
 have D:=I.hok.fresh L;have E:∀b u,H b=some u->b∉fp:=fun b u e z=>by rw [(G b z).1] at e;cases e
 have V:X.env.locals∉fp:=fun z=>(G _ z).2.1 rfl
 refine I.step (g':=s.gens) (d':=s.drawn) (ch:=fp) (fun b F=>?_) (fun b o _ _ h e _=>k b o h e) (fun b o _ _ h e _=>⟨o.slots,k b o h e⟩) (fun b u _ e n=>?_)
  (fun b o h e=>⟨o,k b o h e⟩) (fun b Y e=>?_) (fun b u v e=>?_) (fun b ps e=>⟨#[],?_⟩) (fun m S=>?_) (fun b u e=>?_) I.bare
 ·obtain ⟨f0,f1,f2,f3,Z,O⟩:=G b F;exact ⟨f3,f1,Z,O⟩
 ·rw [j7 (aS (aL (az e) L))];exact n
 ·rw [j7 (q9 e D)];exact e
 ·rw [j7 (q9 e D)];exact e
 ·rw [j7 (q9 e D),e];simp
 ·obtain ⟨o,M,ep,ho,r⟩:=S;exact ⟨o,M,ep,k _ o V ho,r⟩
 ·by_cases F:b=a
  ·subst F;rw [jF] at e;cases e;exact J
  ·rw [j7 F] at e;refine (I.hok b u e).stay (fun c v h q=>k c v ?_ q) (fun c q=>by rw [j7 (q9 q D)];exact q) fun c Y q=>by rw [j7 (q9 q D)];exact q
   rcases h with z|z
   ·rw [z];exact E b u e
   ·exact E c _ z
end
def lQ (K:PySem.W.Frag) (a:Addr):It :=
 ⟨fun i H=>∃h x,SqL K H a h/\h[i]?=some x,
  fun i H v D=>∃T x,v=.ref T/\H T=none/\D=upd H T (.tup [.int (i:Int),x])/\∀h,SqL K H a h->h[i]?=some x,
  fun i H=>∃h,SqL K H a h/\h.length<=i⟩
theorem T5 {P:Program} {w:World} {K:PySem.W.Frag} {ki:List Expr} {x1:Nat} {kn:Pos} {a e it:Addr} (V:e≠it) :
  Turn P w K (.Tuple ki x1 kn) (lQ K a) [e,it] e (fun i h=>(∃D,IsEnum h e it i D)/\h.IsListIter it a i) where
 mem:=by simp
 obj:=fun i h J b F=>by
  obtain ⟨⟨D,G⟩,⟨o1,e1,c1,d1⟩⟩:=J;simp only [aj,au,bb] at F
  rcases F with rfl|rfl
  ·exact ⟨_,G,fun v y=>by have y':Data.fields _=Data.cell v:=y;cases y'⟩
  ·exact ⟨o1,e1,fun v y=>by rw [d1] at y;cases y⟩
 keep:=fun i h h' J k=>by
  obtain ⟨⟨D,G⟩,S⟩:=J;exact ⟨⟨D,k _ (by simp) _ G⟩,S.at fun o e=>k _ (by simp) o e⟩
 item:=by
  intro X hP hw hK hc i kc s σ H E I Z J hg;subst hP hw hK;obtain ⟨⟨D,G⟩,S⟩:=J;obtain ⟨xs,x,L,hx⟩:=hg;obtain ⟨Y,M,p1,_⟩:=I.list L;obtain ⟨u,hu,ru⟩:=M.get hx;refine wpAny_pyNext_enum_item G S p1.isList (x:=u) (by simpa using hu) V fun h' an ah aU a0 hk=>?_
  refine ⟨_,rfl,?_⟩;refine wpAny_letOwnedTupleGo_enum an fun h2 al O=>?_
  have lt:∀{b:Addr} {o:Obj},s.heap.get? b=some o->b<s.heap.objs.size:=fun e=>az e
  have nT:s.heap.objs.size≠e:=ge (lt G);have k2:∀b o,b∉[e,it]->s.heap.get? b=some o->h2.get? b=some o:=fun b o F q=>by
   simp only [aj,au,bb,not_or] at F;exact (O.2 b F.1).trans (hk b o F.1 F.2 q)
  have am:=(O.2 _ nT).trans aU;refine ⟨.ref s.heap.objs.size,upd H s.heap.objs.size (.tup [.int (i:Int),x]),I.laidN (t':=s.toks+1) (fp:=[e,it]) k2 Z (ao _) ⟨(by show 2<=sizeLine;decide),[.int i s.toks,u],.cons ⟨_,rfl⟩ (.cons ru .nil),⟨_,am,rfl,_,rfl⟩⟩,rfl,?_,?_,?_⟩
  ·exact ⟨_,x,rfl,I.hok.fresh (ao _),rfl,fun zs aD=>by rw [I.list_inj aD L];exact hx⟩
  ·exact ⟨⟨_,al⟩,ah.at fun o q=>(O.2 _ V.symm).trans q⟩
  ·intro b F;have:=(Z b F).1;rw [j7]
   ·exact this
   ·intro q;simp only [aj,au,bb] at F;obtain ⟨o1,e1,_⟩:=S
    rcases F with rfl|rfl
    ·exact nT q.symm
    ·exact aS (lt e1) q
 done:=by
  intro X hP hw hK hc i kc s σ H E I Z J hg;subst hP hw hK;obtain ⟨⟨D,G⟩,S⟩:=J;obtain ⟨xs,L,hx⟩:=hg;obtain ⟨Y,M,p1,_⟩:=I.list L;have l1:=M.length;refine wpAny_pyNext_enum_end (I.ok.hd hc) G S p1.isList (by simp;lia) fun h' hk=>⟨rfl,I.turnedN (t':=s.toks) (fp:=[e,it]) (fun b o F q=>?_) Z⟩
  simp only [aj,au,bb,not_or] at F;exact hk b o F.2 q
 self:=fun _ _ _ _ _ J h=>by obtain ⟨⟨D,G⟩,_⟩:=J;exact ij G h
section
variable {X:Cx} {ki:List Expr} {x1:Nat} {kg:Pos}
def jBq (K:PySem.W.Frag) (E:TA):TI:=fun F H R=>E F H fun G h=>∃a,G=[.ref a]/\(∃D,SqL K h a D)/\R (lQ K a) h
theorem XL {a:Expr} {J:TA} {p S:Pos} (hg:Gl X "enumerate") (hm:X.mg "enumerate"=none) (Y:PA X [a] J) (hs:starEach [a] X.env=[(false,eval a X.env)]:=by rfl) :
  PI X (.Tuple ki x1 kg) (.Call (.Name "enumerate" p) [a] [] S) (jBq X.K J):=by
 intro kc s Z H R I h;refine Call_ (dN I hg hm boot_enumerate (di (jZ (Y S kc s Z H _ I h) fun us L ⟨vs,H1,E,r1,q1⟩=>?_) hs rfl));obtain ⟨a1,e,⟨xs,G⟩,q⟩:=q1;subst e;cases r1 with
 |cons r rr =>
  cases rr;cases r;obtain ⟨V,al,p1,_⟩:=E.list G;refine call_enumerate_list p1.isList fun h' O F ah hk=>?_
  refine ij O ?_;refine ⟨_,_,_,_,H1,rfl,E.kept (t':=L.toks) hk,T5 (Nat.succ_ne_self _),⟨⟨_,O⟩,F⟩,fun b M=>?_,q⟩;simp only [aj,au,bb] at M;have D:L.heap.objs.size<=b:=by rcases M with rfl|rfl<;>simp only [Addr] at *<;>lia
  exact E.fpOk D (E.hok.fresh D)
theorem WL {K:PySem.W.Frag} {a:Addr} {xs:List V} {g:TG} {M:TS} {D:Ends} {h:St} {H:Hp} (P:Nat->St->Hp->Prop) (h0:P 0 h H) (hl:∀i h H,i<=xs.length->P i h H->SqL K H a xs)
  (G:∀i x h H T,xs[i]?=some x->P i h H->H T=none->g (.ref T) h (upd H T (.tup [.int (i:Int),x])) fun E J=>M {D with nx:=P (i+1),ct:=P (i+1),bk:=D.nx} E J) (done:∀h H,P xs.length h H->D.nx h H) :
  ∃W:Nat->Nat->St->Hp->Prop,(∃m,W 0 m h H)/\∀i m h H,W i m h H->((lQ K a).stop i H/\D.nx h H)\/((lQ K a).go i H/\∃N:St->Hp->Prop,(∀σ' F,N σ' F->∃L,L<m/\W (i+1) L σ' F)/\∀x F,(lQ K a).yld i H x F->g x h F fun E J=>M {D with nx:=N,ct:=N,bk:=D.nx} E J):=by
 refine ⟨fun i m h H=>i<=xs.length/\m=xs.length - i/\P i h H,⟨_,aN _,rfl,h0⟩,fun i m h H w=>?_⟩;obtain ⟨hi,hm,p⟩:=w;have I:=hl i h H hi p
 by_cases e:i=xs.length
 ·refine .inl ⟨⟨xs,I,by lia⟩,done h H (e▸p)⟩
 ·have Z:i<xs.length:=by lia
  refine .inr ⟨⟨xs,_,I,aa Z⟩,P (i+1),fun σ' F n=>⟨_,by lia,by lia,rfl,n⟩,fun v F S=>?_⟩;obtain ⟨T,x,rfl,Y,rfl,O⟩:=S;exact G i x h H T (O xs I) p Y
end
section
variable {X:Cx}
end
section
variable {prog:Program} {w:World} {A:Around} {s:Shared} {E:Value->Shared->Prop}
theorem DM {j p:Addr} {i:Nat} {vs:Array Value} {v:Value} {Q:Value->Shared->Prop} (G:s.heap.IsTupleIter j p i) (J:s.heap.IsTuple p vs) (M:vs[i]?=some v) (q:∀h',h'.IsTupleIter j p (i+1)->Heap.SameBut j s.heap h'->Q v {s with heap:=h'}):wpAny (model prog w) A (Builtin.SmallTypes.nextOf (.ref j)) Q E s:=by
 obtain ⟨V,D,L,h⟩:=id G;obtain ⟨Y,O,_,S,I⟩:=J;unfold Builtin.SmallTypes.nextOf
 refine ai (eo (name:=Str.ofString "__next__") G.typeIs fh (gw fh G.typeIs F.entry_tuple_iterator_next ?_ (F.args_tuple_iterator_next_1 _)));show wpAny _ _ (field (.ref j) 0 >>= _) _ _ s;refine ai (cx D h (x:=.ref p) rfl ?_);show wpAny _ _ (if (Value.ref p == Value.none)=true then _ else _) _ _ s;rw [if_neg (show ¬((Value.ref p == Value.none)=true) from aH)];show wpAny _ _ (field (.ref j) 1 >>= _) _ _ s;refine ai (cx D h (x:=.int i 0) rfl ?_);show wpAny _ _ (seqItems? (.ref p) >>= _) _ _ s;refine ai (fz O I ?_);simp only [ay,M];refine ai (wpAny_setField D h (by simp) (aX ⟨v,rfl,aX (q _ ?_ (Heap.SameBut.update ..))⟩));exact ⟨_,io _ D (Obj.isFreed_of_fields (ia h _)),(Obj.cls_mapFields ..).trans L,by rw [ia h];simp [rawInt]⟩
theorem xN {j p:Addr} {i:Nat} {vs:Array Value} {Q:Value->Shared->Prop} (I:A.handled=none) (G:s.heap.IsTupleIter j p i) (L:s.heap.IsTuple p vs) (M:vs[i]?=none)
  (q:∀h' e,Heap.ExtBut j s.heap h'->(∃o,h'.get? e=some o/\o.cls=.type "StopIteration")->E (.ref e) {s with heap:=h'}):wpAny (model prog w) A (Builtin.SmallTypes.nextOf (.ref j)) Q E s:=by
 obtain ⟨V,D,Y,h⟩:=id G;obtain ⟨Z,O,_,S,J⟩:=L;unfold Builtin.SmallTypes.nextOf
 refine ai (eo (name:=Str.ofString "__next__") G.typeIs fh (gw fh G.typeIs F.entry_tuple_iterator_next ?_ (F.args_tuple_iterator_next_1 _)));show wpAny _ _ (field (.ref j) 0 >>= _) _ _ s;refine ai (cx D h (x:=.ref p) rfl ?_);show wpAny _ _ (if (Value.ref p == Value.none)=true then _ else _) _ _ s;rw [if_neg (show ¬((Value.ref p == Value.none)=true) from aH)];show wpAny _ _ (field (.ref j) 1 >>= _) _ _ s;refine ai (cx D h (x:=.int i 0) rfl ?_);show wpAny _ _ (seqItems? (.ref p) >>= _) _ _ s;refine ai (fz O J ?_);simp only [ay,M];refine ai (wpAny_rule (ai (wpAny_setField D h (by simp) ?_)));refine ai ?_
 simp only [newExc,newTuple];refine ai (ik ?_ (by size_fits))
 refine ai (m:=firstArgMember _ _) (wpAny_of_eq (a:=Value.none) (by first|rfl|(simp only [firstArgMember];rfl)) ?_);refine ik ?_ (by size_fits)
 simp only [raiseNew];refine ai (wpAny_handled ?_);(first|rw [show A.in1.handled=none from I]|rw [I])
 refine ai (aX (wpAny_throw ?_));exact q _ _ (((Heap.SameBut.update ..).extBut.push _).push _) ⟨_,aC _ rfl,rfl⟩
end
structure SqK where
 c:String
 It:Heap->Addr->Addr->Nat->Prop
 Sq:Heap->Addr->Array Value->Prop
 R:PySem.W.Frag->Hp->Addr->List V->Prop
structure SqK.Ok (S:SqK):Prop where
 at_:∀{h h':Heap} {j a:Addr} {k:Nat},S.It h j a k->(∀o,h.get? j=some o->h'.get? j=some o)->S.It h' j a k
 sq:∀{h h':Heap} {a:Addr} {us:Array Value},S.Sq h a us->(∀o,h.get? a=some o->h'.get? a=some o)->S.Sq h' a us
 ob:∀{h:Heap} {j a:Addr} {k:Nat},S.It h j a k->∃o,h.get? j=some o/\∀v,o.data≠.cell v
 lt:∀{h:Heap} {a:Addr} {us:Array Value},S.Sq h a us->∃o,h.get? a=some o
 mk0:∀{h:Heap} {j a:Addr},h.get? j=some {cls:=.type S.c,data:=.fields #[.ref a,.int 0 0]}->S.It h j a 0
 item:∀{prog:Program} {w:World} {A:Around} {s:Shared} {E:Value->Shared->Prop} {j p:Addr} {i:Nat} {vs:Array Value} {v:Value} {Q:Value->Shared->Prop},S.It s.heap j p i->S.Sq s.heap p vs->vs[i]?=some v->(∀h',S.It h' j p (i+1)->Heap.SameBut j s.heap h'->Q v {s with heap:=h'})->wpAny (model prog w) A (Builtin.SmallTypes.nextOf (.ref j)) Q E s
 fin:∀{prog:Program} {w:World} {A:Around} {s:Shared} {E:Value->Shared->Prop} {j p:Addr} {i:Nat} {vs:Array Value} {Q:Value->Shared->Prop},A.handled=none->S.It s.heap j p i->S.Sq s.heap p vs->vs[i]?=none->(∀h' e,Heap.ExtBut j s.heap h'->(∃o,h'.get? e=some o/\o.cls=.type "StopIteration")->E (.ref e) {s with heap:=h'})->wpAny (model prog w) A (Builtin.SmallTypes.nextOf (.ref j)) Q E s
 rel:∀{X:Cx} {kc:List (Addr×Obj)} {σ:St} {H:Hp} {s:Shared} {a:Addr} {xs:List V},Inv X kc σ H s->S.R X.K H a xs->∃its:List Value,Vals xs its/\S.Sq s.heap a its.toArray
 inj:∀{X:Cx} {kc:List (Addr×Obj)} {σ:St} {H:Hp} {s:Shared} {a:Addr} {xs ys:List V},Inv X kc σ H s->S.R X.K H a xs->S.R X.K H a ys->xs=ys
def sqL:SqK:=⟨"list_iterator",Heap.IsListIter,Heap.IsList,SqL⟩
def sqT:SqK:=⟨"tuple_iterator",Heap.IsTupleIter,Heap.IsTuple,SqT⟩
theorem IJ:sqL.Ok:=⟨fun h k=>Heap.IsListIter.at h k,fun ⟨o,e,c⟩ k=>⟨o,k o e,c⟩,fun ⟨o,e,c,d⟩=>⟨o,e,fun v y=>by rw [d] at y;cases y⟩,fun ⟨o,e,_⟩=>⟨o,e⟩,fun e=>⟨_,e,rfl,rfl⟩,fun n l h q=>wpAny_nextOf_list_item n l h q,fun E n l h q=>wpAny_nextOf_list_end E n l h q,fun I h=>by obtain ⟨D,r,p,_⟩:=I.list h;exact ⟨D,r,p.isList⟩,fun I h F=>I.list_inj h F⟩
theorem II:sqT.Ok:=⟨fun h k=>Heap.IsTupleIter.at h k,fun ⟨o,e,c⟩ k=>⟨o,k o e,c⟩,fun ⟨o,e,c,d⟩=>⟨o,e,fun v y=>by rw [d] at y;cases y⟩,fun ⟨o,e,_⟩=>⟨o,e⟩,fun e=>⟨_,e,rfl,rfl⟩,fun n l h q=>DM n l h q,fun E n l h q=>xN E n l h q,fun I h=>by obtain ⟨D,r,p,_⟩:=I.tuple h;exact ⟨D,r,p⟩,fun I h F=>I.tuple_inj h F⟩
section
variable {S1 S2:SqK}
section
variable (O1:S1.Ok) (O2:S2.Ok) {prog:Program} {w:World} {A:Around} {s:Shared} {E:Value->Shared->Prop}
include O1 O2
theorem T0 {z G h J L a b:Addr} {k:Nat} {us vs:Array Value} {u v g g':Value} {Q:Value->Shared->Prop} (D:ZipApart z G h J L a b)
  (V:IsZip s.heap z G h .none) (ah:IsPair s.heap G (.ref J) (.ref L)) (al:IsPair s.heap h g g') (n1:S1.It s.heap J a k) (n2:S2.It s.heap L b k) (la:S1.Sq s.heap a us) (tb:S2.Sq s.heap b vs) (hu:us[k]?=some u) (hv:vs[k]?=some v)
  (q:∀h',IsZip h' z G h (rawInt s.heap.objs.size)->IsPair h' h u v->S1.It h' J a (k+1)->S2.It h' L b (k+1)->IsPair h' s.heap.objs.size u v->(∀c o,c≠z->c≠h->c≠J->c≠L->s.heap.get? c=some o->h'.get? c=some o)->Q (.ref s.heap.objs.size) {s with heap:=h'}):wpAny (model prog w) A (Builtin.«zip.__next__» ⟨[.ref z],[]⟩) (fun a0 s'=>∃v,a0=.done (.ret v)/\Q v s') E s:=by
 show wpAny _ _ (field (.ref z) 2 >>= _) _ _ _;refine ai (cx V rfl (x:=.bool false) rfl ?_);show wpAny _ _ (field (.ref z) 3 >>= _) _ _ _
 refine ai (cx V rfl (x:=.ref G) rfl ?_);refine ai (fz ah rfl ?_)
 show wpAny _ _ (Builtin.SmallTypes.ownedTupleIsFree (.ref z) >>= _) _ _ _;refine ai ?_;unfold Builtin.SmallTypes.ownedTupleIsFree
 refine ai (cx V rfl (x:=.none) rfl (aX ?_));simp only [if_true]
 refine ai (wpAny_rule ?_);refine ai (cx V rfl (x:=.ref h) rfl ?_)
 refine ai (ft V (by simp) fun m1 z1 I=>?_);have z1:IsZip m1 z G h .ellipsis:=z1;refine ai ?_;simp only [List.zipIdx_cons,List.zipIdx_nil,List.forIn_cons,List.forIn_nil]
 refine ai (ai (wpAny_onRaise ?_));show wpAny _ _ (Builtin.SmallTypes.nextOf (.ref J) >>= _) _ _ _
 refine ai (O1.item (O1.at_ n1 (I.extBut _ · D.i1z)) (O1.sq la (I.extBut _ · D.l1z)) hu fun m2 aU S=>aX ?_);have p2:IsPair m2 h g g':=S.extBut _ _ D.TOi1 (I.extBut _ _ D.TOz al);refine ai (fz p2 rfl ?_);refine ai (ix p2 fun m3 p3 O=>?_)
 have p3:IsPair m3 h u g':=p3;refine ai (wpAny_letGo (aX ?_));refine ai (ai (wpAny_onRaise ?_));show wpAny _ _ (Builtin.SmallTypes.nextOf (.ref L) >>= _) _ _ _
 refine ai (O2.item (O2.at_ n2 fun o e=>O.extBut _ o D.TOi2.symm (S.extBut _ o D.i12.symm (I.extBut _ o D.i2z e))) (O2.sq tb fun o e=>O.extBut _ o D.l2TO (S.extBut _ o D.l2i1 (I.extBut _ o D.l2z e))) hv fun m4 am Y=>aX ?_);have p4:IsPair m4 h u g':=Y.extBut _ _ D.TOi2 p3;refine ai (fz p4 rfl ?_);refine ai (ix p4 fun F p5 Z=>?_)
 have p5:IsPair F h u v:=p5;refine ai (wpAny_letGo (aX (aX ?_)));refine ai (fz p5 rfl ?_);refine ai (wpAny_newTuple ?_)
 have sz:F.objs.size=s.heap.objs.size:=by rw [Z.1,Y.1,O.1,S.1,I.1]
 have z5:IsZip F z G h .ellipsis:=Z.extBut _ _ D.TOz.symm (Y.extBut _ _ D.i2z.symm (O.extBut _ _ D.TOz.symm (S.extBut _ _ D.i1z.symm z1)));have kk:∀c o,c≠z->c≠h->c≠J->c≠L->s.heap.get? c=some o->F.get? c=some o:=fun c o M e2 e3 e4 e=>Z.extBut _ _ e2 (Y.extBut _ _ e4 (O.extBut _ _ e2 (S.extBut _ _ e3 (I.extBut _ _ M e))))
 have an:=O1.at_ (h':=F) aU fun o e=>Z.extBut _ o D.TOi1.symm (Y.extBut _ o D.i12 (O.extBut _ o D.TOi1.symm e))
 have aD:=O2.at_ (h':=F) am (Z.extBut _ · D.TOi2.symm);have zl:z<F.objs.size:=az z5;show wpAny _ _ (Builtin.SmallTypes.ownedTupleHandOut (.ref z) (.ref F.objs.size) >>= _) _ _ _;refine ai ?_;unfold Builtin.SmallTypes.ownedTupleHandOut
 have z6:IsZip (F.push {cls:=.type "tuple",data:=.seq #[u,v]}) z G h .ellipsis:=ak _ z5;refine ai (ft z6 (by simp) fun m7 z7 d7=>?_);have z7:IsZip m7 z G h (rawInt F.objs.size):=z7;refine ft z7 (by simp) fun m8 z8 d8=>?_
 have z8:IsZip m8 z G h (rawInt F.objs.size):=z8;have up:∀c o,c≠z->F.get? c=some o->m8.get? c=some o:=fun c o M e=>d8.extBut _ _ M (d7.extBut _ _ M (ak _ e))
 have t8:IsPair m8 F.objs.size u v:=d8.extBut _ _ (ge zl) (d7.extBut _ _ (ge zl) (aC _ rfl));rw [sz] at z8 t8;refine aX ⟨_,rfl,?_⟩;show Q (.ref F.objs.size) _;rw [sz]
 exact q m8 z8 (up _ _ D.TOz p5) (O1.at_ an (up _ · D.i1z)) (O2.at_ aD (up _ · D.i2z)) t8 fun c o M e2 e3 e4 e=>up c o M (kk c o M e2 e3 e4 e)
theorem VN {z M F V Y a b:Addr} {k:Nat} {us vs:Array Value} {g g':Value} {Q:Fin->Shared->Prop} (hh:A.handled=none) (D:ZipApart z M F V Y a b)
  (O:IsZip s.heap z M F .none) (ah:IsPair s.heap M (.ref V) (.ref Y)) (al:IsPair s.heap F g g') (n1:S1.It s.heap V a k) (n2:S2.It s.heap Y b k) (la:S1.Sq s.heap a us) (tb:S2.Sq s.heap b vs) (he:us[k]?=none\/vs[k]?=none)
  (q:∀h' e,(∀c o,c≠z->c≠F->c≠V->c≠Y->s.heap.get? c=some o->h'.get? c=some o)->(∃o,h'.get? e=some o/\o.cls=.type "StopIteration")->E (.ref e) {s with heap:=h'}):wpAny (model prog w) A (Builtin.«zip.__next__» ⟨[.ref z],[]⟩) Q E s:=by
 show wpAny _ _ (field (.ref z) 2 >>= _) _ _ _;refine ai (cx O rfl (x:=.bool false) rfl ?_);show wpAny _ _ (field (.ref z) 3 >>= _) _ _ _
 refine ai (cx O rfl (x:=.ref M) rfl ?_);refine ai (fz ah rfl ?_)
 show wpAny _ _ (Builtin.SmallTypes.ownedTupleIsFree (.ref z) >>= _) _ _ _;refine ai ?_;unfold Builtin.SmallTypes.ownedTupleIsFree
 refine ai (cx O rfl (x:=.none) rfl (aX ?_));simp only [if_true]
 refine ai (wpAny_rule ?_);refine ai (cx O rfl (x:=.ref F) rfl ?_)
 refine ai (ft O (by simp) fun m1 z1 G=>?_);have z1:IsZip m1 z M F .ellipsis:=z1;refine ai ?_;simp only [List.zipIdx_cons,List.zipIdx_nil,List.forIn_cons,List.forIn_nil]
 refine ai (ai (wpAny_onRaise ?_));show wpAny _ _ (Builtin.SmallTypes.nextOf (.ref V) >>= _) _ _ _
 cases hu:us[k]? with
 |none =>
  refine ai (O1.fin hh (O1.at_ n1 (G.extBut _ · D.i1z)) (O1.sq la (G.extBut _ · D.l1z)) hu fun m2 e I st=>?_);obtain ⟨oe,L,S⟩:=st
  have z2:IsZip m2 z M F .ellipsis:=I _ _ D.i1z.symm z1;have ne:e≠z:=fun x=>by subst x;rw [z2] at L;cases L;simp at S
  refine ft z2 (by simp) fun m3 _ J=>q m3 e (fun c o Z _ e3 _ x=>J.extBut _ _ Z (I _ _ e3 (G.extBut _ _ Z x))) ⟨oe,J.extBut _ _ ne L,S⟩
 |some u =>
  have hv:vs[k]?=none:=by rcases he with h|h;rw [hu] at h;cases h;exact h
  refine ai (O1.item (O1.at_ n1 (G.extBut _ · D.i1z)) (O1.sq la (G.extBut _ · D.l1z)) hu fun m2 am I=>aX ?_);have p2:IsPair m2 F g g':=I.extBut _ _ D.TOi1 (G.extBut _ _ D.TOz al);refine ai (fz p2 rfl ?_);refine ai (ix p2 fun m3 p3 J=>?_)
  refine ai (wpAny_letGo (aX ?_));refine ai (ai (wpAny_onRaise ?_));show wpAny _ _ (Builtin.SmallTypes.nextOf (.ref Y) >>= _) _ _ _
  refine ai (O2.fin hh (O2.at_ n2 fun o e=>J.extBut _ o D.TOi2.symm (I.extBut _ o D.i12.symm (G.extBut _ o D.i2z e))) (O2.sq tb fun o e=>J.extBut _ o D.l2TO (I.extBut _ o D.l2i1 (G.extBut _ o D.l2z e))) hv fun m4 e d4 st=>?_);obtain ⟨oe,L,S⟩:=st
  have z4:IsZip m4 z M F .ellipsis:=d4 _ _ D.i2z.symm (J.extBut _ _ D.TOz.symm (I.extBut _ _ D.i1z.symm z1));have ne:e≠z:=fun x=>by subst x;rw [z4] at L;cases L;simp at S
  refine ft z4 (by simp) fun m5 _ d5=>q m5 e (fun c o Z e2 e3 e4 x=>d5.extBut _ _ Z (d4 _ _ e4 (J.extBut _ _ e2 (I.extBut _ _ e3 (G.extBut _ _ Z x))))) ⟨oe,d5.extBut _ _ ne L,S⟩
end
def B9 (S1 S2:SqK) (K:PySem.W.Frag) (a1 a2:Addr):It :=
 ⟨fun i H=>∃h D x y,S1.R K H a1 h/\S2.R K H a2 D/\h[i]?=some x/\D[i]?=some y,
  fun i H v E=>∃T x y,v=.ref T/\H T=none/\E=upd H T (.tup [x,y])/\(∀h,S1.R K H a1 h->h[i]?=some x)/\(∀D,S2.R K H a2 D->D[i]?=some y),
  fun i H=>∃h D,S1.R K H a1 h/\S2.R K H a2 D/\(h.length<=i\/D.length<=i)⟩
theorem T3 (O1:S1.Ok) (O2:S2.Ok) {P:Program} {w:World} {K:PySem.W.Frag} {ki:List Expr} {x1:Nat} {kn:Pos} {a1 a2 z TI TO i1 i2:Addr} (D:ZipApart z TI TO i1 i2 a1 a2) :
  Turn P w K (.Tuple ki x1 kn) (B9 S1 S2 K a1 a2) [z,TI,TO,i1,i2] z (fun i h=>IsZip h z TI TO .none/\IsPair h TI (.ref i1) (.ref i2)/\(∃a b,IsPair h TO a b)/\S1.It h i1 a1 i/\S2.It h i2 a2 i) where
 mem:=by simp
 obj:=fun i h V b J=>by
  obtain ⟨S,G,⟨p,q,L⟩,h1,h2⟩:=V;simp only [aj,au,bb] at J
  rcases J with rfl|rfl|rfl|rfl|rfl
  ·exact ⟨_,S,fun v y=>by have y':Data.fields _=Data.cell v:=y;cases y'⟩
  ·exact ⟨_,G,fun v y=>by have y':Data.seq _ _=Data.cell v:=y;cases y'⟩
  ·exact ⟨_,L,fun v y=>by have y':Data.seq _ _=Data.cell v:=y;cases y'⟩
  ·exact O1.ob h1
  ·exact O2.ob h2
 keep:=fun i h h' V k=>by
  obtain ⟨S,G,⟨p,q,L⟩,h1,h2⟩:=V;exact ⟨k _ (by simp) _ S,k _ (by simp) _ G,⟨p,q,k _ (by simp) _ L⟩,O1.at_ h1 (k _ (by simp)),O2.at_ h2 (k _ (by simp))⟩
 item:=by
  intro X hP hw hK hc i kc s σ H E I hf V hg;subst hP hw hK;obtain ⟨S,G,⟨p,q,L⟩,h1,h2⟩:=V;obtain ⟨xs,ys,x,y,Y,Z,hx,hy⟩:=hg;obtain ⟨a0,am,p1⟩:=O1.rel I Y;obtain ⟨aD,ah,p2⟩:=O2.rel I Z;obtain ⟨u,hu,ru⟩:=am.get hx;obtain ⟨v,hv,rv⟩:=ah.get hy;have O:s.TypeIs (.ref z) "zip":=⟨_,S,rfl⟩;unfold pyNext;refine ai (wpAny_attempt (eo (name:=Str.ofString "__next__") O ka (gw ka O F.entry_zip_next (T0 O1 O2 D S G L h1 h2 p1 p2 (u:=u) (v:=v) (by simpa using hu) (by simpa using hv) fun h' a4 aU a9 a6 a8 hk=>aX ?_) (F.args_zip_next_1 _))));refine ⟨_,rfl,?_⟩;refine wpAny_letOwnedTupleGo_zip a4 fun an a3 M=>?_
  have lt:∀{b:Addr} {o:Obj},s.heap.get? b=some o->b<s.heap.objs.size:=fun e=>az e
  have nT:s.heap.objs.size≠z:=ge (lt S);have k2:∀b o,b∉[z,TI,TO,i1,i2]->s.heap.get? b=some o->an.get? b=some o:=fun b o J e=>by
   simp only [aj,au,bb,not_or] at J;exact (M.2 b J.1).trans (hk b o J.1 J.2.2.1 J.2.2.2.1 J.2.2.2.2 e)
  have a7:IsPair an s.heap.objs.size u v:=(M.2 _ nT).trans a8;refine ⟨.ref s.heap.objs.size,upd H s.heap.objs.size (.tup [x,y]),I.laidN (t':=s.toks) (fp:=[z,TI,TO,i1,i2]) k2 hf (ao _) ⟨(by show 2<=sizeLine;decide),[u,v],.cons ru (.cons rv .nil),⟨_,a7,rfl,_,rfl⟩⟩,rfl,?_,?_,?_⟩
  ·exact ⟨_,x,y,rfl,I.hok.fresh (ao _),rfl,fun zs al=>by rw [O1.inj I al Y];exact hx,fun zs al=>by rw [O2.inj I al Z];exact hy⟩
  ·refine ⟨a3,(M.2 _ D.TIz).trans (hk _ _ D.TIz D.TITO D.TIi1 D.TIi2 G),⟨_,_,(M.2 _ D.TOz).trans aU⟩,O1.at_ a9 fun o e=>(M.2 _ D.i1z).trans e,O2.at_ a6 fun o e=>(M.2 _ D.i2z).trans e⟩
  ·intro b J;have:=(hf b J).1;rw [j7]
   ·exact this
   ·intro e;simp only [aj,au,bb] at J;obtain ⟨o1,e1,_⟩:=O1.ob h1;obtain ⟨o2,e2,_⟩:=O2.ob h2
    rcases J with rfl|rfl|rfl|rfl|rfl
    ·exact nT e.symm
    ·exact aS (lt G) e
    ·exact aS (lt L) e
    ·exact aS (lt e1) e
    ·exact aS (lt e2) e
 done:=by
  intro X hP hw hK hc i kc s σ H E I hf V hg;subst hP hw hK;obtain ⟨S,G,⟨p,q,L⟩,h1,h2⟩:=V;obtain ⟨xs,ys,Y,Z,he⟩:=hg;obtain ⟨a0,am,p1⟩:=O1.rel I Y;obtain ⟨aD,ah,p2⟩:=O2.rel I Z;have l1:=am.length;have l2:=ah.length;have O:s.TypeIs (.ref z) "zip":=⟨_,S,rfl⟩;unfold pyNext;refine ai (wpAny_attempt (eo (name:=Str.ofString "__next__") O ka (gw ka O F.entry_zip_next (VN O1 O2 (I.ok.hd hc) D S G L h1 h2 p1 p2 (he.imp (fun e=>by simp;lia) (fun e=>by simp;lia)) fun h' e hk ho=>?_) (F.args_zip_next_1 _))));obtain ⟨o,ho,a5⟩:=ho;refine ai (wpAny_isInstance (T:="StopIteration") (b:=true) ⟨o,ho,a5⟩ isSubtype_stop (aX ⟨rfl,I.turnedN (t':=s.toks) (fp:=[z,TI,TO,i1,i2]) (fun b o J e=>?_) hf⟩));simp only [aj,au,bb,not_or] at J;exact hk b o J.1 J.2.2.1 J.2.2.2.1 J.2.2.2.2 e
 self:=fun _ _ _ _ _ V h=>wpAny_pyIter_zip V.1 h
abbrev lJ (c:String) (h:Heap) (a:Addr):Heap:=h.push {cls:=.type c,data:=.fields #[.ref a,.int 0 0]}
abbrev rF (c d:String) (h:Heap) (a b:Addr):Heap:=lJ d (lJ c h a) b
abbrev rD (c d:String) (h:Heap) (a b:Addr):Heap:=(rF c d h a b).push {cls:=.type "tuple",data:=.seq #[.ref h.objs.size,.ref (lJ c h a).objs.size]}
abbrev rC (c d:String) (h:Heap) (a b:Addr):Heap:=(rD c d h a b).push {cls:=.type "tuple",data:=.seq #[.none,.none]}
abbrev gG (c d:String) (h:Heap) (a b:Addr):Heap:=(rC c d h a b).push {cls:=.type "zip",data:=.fields #[.none,.bool false,.bool false,.ref (rF c d h a b).objs.size,.ref (rD c d h a b).objs.size]}
def rR (S1 S2:SqK) (a b:Addr) (us vs:Array Value):Prop:=Meets (Builtin.«zip.__new__» ⟨[.type "zip",.ref a,.ref b],[]⟩) (fun _ R s=>S1.Sq s.heap a us/\S2.Sq s.heap b vs/\R (.ok (.ret (.ref (rC S1.c S2.c s.heap a b).objs.size))) {s with heap:=gG S1.c S2.c s.heap a b})
theorem TB (a b:Addr) (us vs:Array Value):rR sqL sqT a b us vs:=.of_wp fun E w A R s h=>by
  obtain ⟨G,g,d,D,F⟩:=s;obtain ⟨O,J,h⟩:=h;have I:=sub_zip
  have M:Heap.IsList (Shared.heap ⟨G,g,d,D,F⟩) a us:=O;have L:Heap.IsTuple (Shared.heap ⟨G.push {cls:=.type "list_iterator",data:=.fields #[.ref a,.int 0 0]},g,d,D,F⟩) b vs:=Heap.IsTuple.push J _
  wp_walk using ga M,fm L
  exact ⟨_,rfl,h⟩
theorem S9 (a b:Addr) (us vs:Array Value):rR sqT sqL a b us vs:=.of_wp fun E w A R s h=>by
  obtain ⟨G,g,d,D,F⟩:=s;obtain ⟨O,J,h⟩:=h;have I:=sub_zip
  have M:Heap.IsTuple (Shared.heap ⟨G,g,d,D,F⟩) a us:=O;have L:Heap.IsList (Shared.heap ⟨G.push {cls:=.type "tuple_iterator",data:=.fields #[.ref a,.int 0 0]},g,d,D,F⟩) b vs:=Heap.IsList.push J _
  wp_walk using fm M,ga L
  exact ⟨_,rfl,h⟩
theorem VG (O1:S1.Ok) (O2:S2.Ok) (M:∀(a b:Addr) (us vs:Array Value),rR S1 S2 a b us vs) {prog:Program} {w:World} {A:Around} {s:Shared} {E:Value->Shared->Prop} {a b:Addr} {us vs:Array Value} {Q:Value->Shared->Prop} (la:S1.Sq s.heap a us) (tb:S2.Sq s.heap b vs)
  (q:∀h',IsZip h' (s.heap.objs.size+4) (s.heap.objs.size+2) (s.heap.objs.size+3) .none->IsPair h' (s.heap.objs.size+2) (.ref s.heap.objs.size) (.ref (s.heap.objs.size+1))->IsPair h' (s.heap.objs.size+3) .none .none->S1.It h' s.heap.objs.size a 0->S2.It h' (s.heap.objs.size+1) b 0->(∀c o,s.heap.get? c=some o->h'.get? c=some o)->Q (.ref (s.heap.objs.size+4)) {s with heap:=h'}) :
  wpAny (model prog w) A (call (.type "zip") [.ref a,.ref b]) Q E s:=by
 refine callType_new F.called_zip (by decide) (F.typeCall_zip_2 _ _) (F.newCall_zip_2 _ _) (fun L=>F.args_object_init_3 L _ _) F.entry_zip_new (M a b us vs) ⟨la,tb,?_⟩;have I:(lJ S1.c s.heap a).objs.size=s.heap.objs.size+1:=dh ..;have J:(rF S1.c S2.c s.heap a b).objs.size=s.heap.objs.size+2:=by rw [dh,I]
 have O:(rD S1.c S2.c s.heap a b).objs.size=s.heap.objs.size+3:=by rw [dh,J]
 have Z:(rC S1.c S2.c s.heap a b).objs.size=s.heap.objs.size+4:=by rw [dh,O]
 have D:∀{h:Heap} {o:Obj} {c:Addr} {v:Obj},h.get? c=some v->(h.push o).get? c=some v:=fun e=>ak _ e
 have G:(gG S1.c S2.c s.heap a b).get? (rC S1.c S2.c s.heap a b).objs.size=some _:=aC _ rfl;have V:(gG S1.c S2.c s.heap a b).get? (rD S1.c S2.c s.heap a b).objs.size=some _:=D (aC _ rfl);have S:(gG S1.c S2.c s.heap a b).get? (rF S1.c S2.c s.heap a b).objs.size=some _:=D (D (aC _ rfl));have Y:(gG S1.c S2.c s.heap a b).get? (lJ S1.c s.heap a).objs.size=some _:=D (D (D (aC _ rfl)));have g1:(gG S1.c S2.c s.heap a b).get? s.heap.objs.size=some _:=D (D (D (D (aC _ rfl))));show _/\_;rw [J,O,Z] at G;rw [I,J] at S;rw [O] at V;rw [I] at Y;rw [Z]
 exact ⟨⟨_,G,rfl⟩,q _ G S V (O1.mk0 g1) (O2.mk0 Y) fun c o x=>D (D (D (D (D x))))⟩
def BP (S1 S2:SqK) (K:PySem.W.Frag) (F:TA):TI:=fun I H R=>F I H fun L E=>∃h D,L=[.ref h,.ref D]/\(∃G,S1.R K E h G)/\(∃J,S2.R K E D J)/\R (B9 S1 S2 K h D) E
section
variable {X:Cx} {ki:List Expr} {x1:Nat} {kg:Pos}
theorem HL (O:S1.Ok) (L:S2.Ok) (M:∀(a b:Addr) (us vs:Array Value),rR S1 S2 a b us vs) {a b:Expr} {ta:TA} {p kn:Pos} (hg:Gl X "zip") (hm:X.mg "zip"=none) (ha:PA X [a,b] ta) (hs:starEach [a,b] X.env=[(false,eval a X.env),(false,eval b X.env)]:=by rfl) (J:starEach [b] X.env=[(false,eval b X.env)]:=by rfl) :
  PI X (.Tuple ki x1 kg) (.Call (.Name "zip" p) [a,b] [] kn) (BP S1 S2 X.K ta):=by
 intro kc s σ H R I h;refine Call_ (dN I hg hm boot_zip (di (jZ (ha kn kc s σ H _ I h) fun us E ⟨vs,H1,G,r1,q1⟩=>?_) (by rw [hs,J]) (by rw [J];rfl)));obtain ⟨a1,a2,e,⟨xs,ah⟩,⟨ys,S⟩,q⟩:=q1;subst e;cases r1 with
 |cons r V =>
  cases V with
  |cons r' V =>
   cases V;cases r;cases r';obtain ⟨am,aU,p1⟩:=O.rel G ah;obtain ⟨al,an,p2⟩:=L.rel G S;have aD:a1<E.heap.objs.size:=by obtain ⟨o,e⟩:=O.lt p1;exact az e
   have a0:a2<E.heap.objs.size:=by obtain ⟨o,e⟩:=L.lt p2;exact az e
   refine VG O L M p1 p2 fun h' hz Y Z h1 h2 hk=>?_
   refine wpAny_pyIter_zip hz ?_;have D:ZipApart (E.heap.objs.size+4) (E.heap.objs.size+2) (E.heap.objs.size+3) E.heap.objs.size (E.heap.objs.size+1) a1 a2:=by
    constructor<;>(intro e;simp only [Addr] at *;lia)
   refine ⟨_,_,_,_,H1,rfl,G.kept (t':=E.toks) hk,T3 O L D,⟨hz,Y,⟨_,_,Z⟩,h1,h2⟩,fun b hb=>?_,q⟩;simp only [aj,au,bb] at hb;have F:E.heap.objs.size<=b:=by rcases hb with rfl|rfl|rfl|rfl|rfl<;>simp only [Addr] at *<;>lia
   exact G.fpOk F (G.hok.fresh F)
end
end
section
variable {X:Cx} {ki:List Expr} {x1:Nat} {kg:Pos} {a b:Expr} {ta:TA} {p kn:Pos}
theorem XJ (D:Gl X "zip") (G:X.mg "zip"=none) (E:PA X [a,b] ta) (F:starEach [a,b] X.env=[(false,eval a X.env),(false,eval b X.env)]:=by rfl) (h:starEach [b] X.env=[(false,eval b X.env)]:=by rfl):PI X (.Tuple ki x1 kg) (.Call (.Name "zip" p) [a,b] [] kn) (BP sqL sqT X.K ta):=HL IJ II TB D G E F h
theorem XI (D:Gl X "zip") (G:X.mg "zip"=none) (E:PA X [a,b] ta) (F:starEach [a,b] X.env=[(false,eval a X.env),(false,eval b X.env)]:=by rfl) (h:starEach [b] X.env=[(false,eval b X.env)]:=by rfl):PI X (.Tuple ki x1 kg) (.Call (.Name "zip" p) [a,b] [] kn) (BP sqT sqL X.K ta):=HL II IJ S9 D G E F h
end
theorem DF {S1 Z:SqK} {K:PySem.W.Frag} {a1 a2 D:Addr} {xs ys:List V} {g:TG} {S:TT} {Y:TE} {E:St} {H:Hp} {Q:Hp->Prop} (G:Nat->St->Hp->Prop) (h0:G 0 E (upd H D (.lst []))) (hl:∀i h H,i<=xs.length->G i h H->S1.R K H a1 xs/\Z.R K H a2 ys) (hn:xs.length=ys.length)
  (hs:∀i x y h H T,xs[i]?=some x->ys[i]?=some y->G i h H->H T=none->g (.ref T) h (upd H T (.tup [x,y])) fun F H3=>S F H3 fun b H4=>if b=true then Y F H4 fun v O=>∃zs,O D=some (.lst zs)/\zs.length<sizeLine/\G (i+1) F (upd O D (.lst (zs++[v]))) else G (i+1) F H4)
  (hd:∀h H,G xs.length h H->Q H):QB D (B9 S1 Z K a1 a2) g S Y E H Q:=by
 refine ⟨fun i m h H=>m=xs.length - i/\i<=xs.length/\G i h H,⟨xs.length,by simp,aN _,h0⟩,?_⟩;rintro i m h H ⟨rfl,hi,p⟩;obtain ⟨M,L⟩:=hl i h H hi p
 by_cases I:i<xs.length
 ·have J:i<ys.length:=by lia
  refine .inr ⟨⟨xs,ys,_,_,M,L,aa I,aa J⟩,G (i+1),fun ah H' p'=>⟨xs.length - (i+1),by lia,rfl,I,p'⟩,fun v H' hy=>?_⟩;obtain ⟨T,x,y,rfl,hT,rfl,e1,e2⟩:=hy;exact hs i x y h H T (e1 xs M) (e2 ys L) p hT
 ·exact .inl ⟨⟨xs,ys,M,L,.inl (by lia)⟩,hd h H (by rw [show xs.length=i by lia];exact p)⟩
set_option maxRecDepth 100000
theorem XX:fillsNumberSlot (.type "tuple") "mul"=pure false:=PySem.fillsNumberSlot_seq (id:="tuple.__mul__") (r:=some (.builtin "tuple.__rmul__")) F.slot_tuple_mul.lookup (by trivial) F.slot_tuple_rmul.lookup (by trivial)
theorem XD:seqRepeat? (.type "tuple")=pure (some (.builtin "tuple.__mul__")):=by
 unfold seqRepeat?;rw [PySem.seqSlot_of (T:="tuple") (name:="__mul__") (id:="tuple.__mul__") F.slot_tuple_mul.lookup (by trivial),PySem.seqSlot_of (T:="tuple") (name:="__rmul__") (id:="tuple.__rmul__") F.slot_tuple_rmul.lookup (by trivial)];rfl
theorem jBa (a:Int) (t:Tok) (p:Addr) (vs:Array Value) (n:Nat) (dd:Option Addr) (E:Array (Option Value)):Meets (Builtin.«int.__rmul__» ⟨[.int a t,.ref p],[]⟩) (fun _ R s=>s.heap.get? p=some {cls:=.type "tuple",dict:=dd,data:=.seq vs n,slots:=E}/\R (.ok (.ret Value.notImplemented)) s):=.of_wp fun D w A R s h=>by obtain ⟨I,g,d,F,G⟩:=s;obtain ⟨J,h⟩:=h;wp_walk;exact ⟨_,rfl,h⟩
theorem WC (t:Tok) (p:Addr) (vs:Array Value) (n:Nat) (dd:Option Addr) (E:Array (Option Value)):Meets (Builtin.«tuple.__mul__» ⟨[.ref p,.int 1 t],[]⟩) (fun _ R s=>s.heap.get? p=some {cls:=.type "tuple",dict:=dd,data:=.seq vs n,slots:=E}/\R (.ok (.ret (.ref p))) s):=.of_wp fun D w A R s h=>by obtain ⟨I,g,d,F,G⟩:=s;obtain ⟨J,h⟩:=h;wp_walk;exact ⟨_,rfl,h⟩
theorem UR (t:Tok) (p:Addr) (vs:Array Value) (n:Nat) (dd:Option Addr) (E:Array (Option Value)) (L:vs.isEmpty=false):Meets (Builtin.«tuple.__mul__» ⟨[.ref p,.int 0 t],[]⟩) (fun _ R s=>s.heap.get? p=some {cls:=.type "tuple",dict:=dd,data:=.seq vs n,slots:=E}/\R (.ok (.ret (.ref s.heap.objs.size))) {s with heap:=s.heap.push {cls:=.type "tuple",data:=.seq #[]}}):=.of_wp fun D w A R s h=>by
 obtain ⟨I,g,J,F,G⟩:=s;obtain ⟨M,h⟩:=h
 wp_walk;exact ⟨_,rfl,h⟩
theorem US (k:Int) (t:Tok) (p:Addr) (vs:Array Value) (n:Nat) (dd:Option Addr) (J:Array (Option Value)) (V:vs.isEmpty=false) (M:(k == 1)=false) (I:¬((decide (k < -(2 ^ 63))||decide (k>=2 ^ 63))=true)) (G:¬((decide (k<=0)||vs.isEmpty)=true)) (L:¬((vs.size:Int)*k>(2 ^ 63 - 1) / 8)) (F:¬(Builtin.Tuple.tupleTooMany ((vs.size:Int)*k)=true)) (E:((List.replicate k.toNat vs).foldl (·++·) (#[]:Array Value)).size<=sizeLine):Meets (Builtin.«tuple.__mul__» ⟨[.ref p,.int k t],[]⟩) (fun _ R s=>s.heap.get? p=some {cls:=.type "tuple",dict:=dd,data:=.seq vs n,slots:=J}/\R (.ok (.ret (.ref s.heap.objs.size))) {s with heap:=s.heap.push {cls:=.type "tuple",data:=.seq ((List.replicate k.toNat vs).foldl (·++·) #[])}}):=.of_wp fun D w A R s h=>by
 obtain ⟨Z,g,dr,S,Y⟩:=s;obtain ⟨O,h⟩:=h
 wp_walk
 rw [if_neg I]
 wp_walk
 rw [if_neg G];show wpAny _ _ (if (vs.size:Int)*k>(2 ^ 63 - 1) / 8 then _ else if Builtin.Tuple.tupleTooMany ((vs.size:Int)*k)=true then _ else _) _ _ _;rw [if_neg L,if_neg F];refine ai (ik (aX ⟨_,rfl,h⟩) ?_);exact E
section
variable {X:Cx}
def jBc:R2:=fun x y H Q=>∃(p:Addr) (v:V) (k:Nat),x=.ref p/\y=.int (k:Int)/\H p=some (.tup [v])/\k<=1000/\(k=1->Q (.ref p) H)/\(k≠1->∀l,H l=none->Q (.ref l) (upd H l (.tup (List.replicate k v))))
theorem ES (u:Value):∀(m:Nat) (h:Array Value),List.foldl (fun E D=>E++D) h (List.replicate m #[u])=h++(List.replicate m u).toArray
 |0,h=>by simp
 |m+1,h=>by rw [bz,List.foldl_cons,ES u m (h++#[u]),bz,Array.append_assoc];congr 1;apply Array.toList_inj.mp;simp
theorem XS:qW X (binaryOp .Mult) jBc:=by
 intro kc s σ H x y v u Q I rx ry h;obtain ⟨p,w,k,rfl,rfl,hH,Z,q1,q2⟩:=h;cases rx;obtain ⟨t,rfl⟩:=ry;obtain ⟨z,ah,r,⟨cls,J,data,L⟩,e,Y,n,V⟩:=(show ObjOk X.prog X.w H s.heap p (.tup [w]) from I.hok p _ hH);simp only at Y V;subst Y V;cases r with
 |@cons _ D _ us ru rt =>
  cases rt;refine wpAny_binaryOp_repeat_ref (T:="tuple") (U:="int") (by decide) ⟨_,e,rfl⟩ (fun s'=>typeIs_int s' (k:Int) t) XX F.fills_int_mul iz XD F.slot_int_index.lookup
   (gu iz (typeIs_int s (k:Int) t) F.entry_int_rmul (F.args_int_rmul_2 _ _) (jBa (k:Int) t p #[D] n J L) ⟨e,rfl,⟨_,e,rfl⟩,?_⟩)
  have mk:∀O:Array Value,O=(List.replicate k D).toArray->k≠1->EP X kc σ Q (.ref s.heap.objs.size) {s with heap:=s.heap.push {cls:=.type "tuple",data:=.seq O}}:=fun O S E=>by
   have hv:Vals (List.replicate k w) (List.replicate k D):=by
    have M:∀m,Vals (List.replicate m w) (List.replicate m D):=fun m=>by
     induction m with
     |zero=>exact .nil
     |succ m ih=>exact .cons ru ih
    exact M k
   refine ⟨.ref s.heap.objs.size,upd H s.heap.objs.size (.tup (List.replicate k w)),I.laid (t':=s.toks) (fun b o e=>ak _ e) (ao _) ⟨by rw [cb];exact aM Z (by decide),_,hv,⟨_,aC _ rfl,rfl,0,by rw [S]⟩⟩,rfl,q2 E _ (I.hok.fresh (ao _))⟩
  by_cases E:k=1
  ·subst E;exact gu F.slot_tuple_mul ⟨_,e,rfl⟩ F.entry_tuple_mul (F.args_tuple_mul_2 _ _) (WC t p #[D] n J L) ⟨e,⟨.ref p,H,I,rfl,q1 rfl⟩⟩
  by_cases h0:k=0
  ·subst h0;exact gu F.slot_tuple_mul ⟨_,e,rfl⟩ F.entry_tuple_mul (F.args_tuple_mul_2 _ _) (UR t p #[D] n J L rfl) ⟨e,mk _ rfl E⟩
  have hf:(List.replicate (k:Int).toNat #[D]).foldl (fun x1 x2=>x1++x2) (#[]:Array Value)=(List.replicate k D).toArray:=by rw [ES,ay];simp
  have G:((#[D]:Array Value).size:Int)*(k:Int)=(k:Int):=by show ((1:Nat):Int)*(k:Int)=_;lia
  refine gu F.slot_tuple_mul ⟨_,e,rfl⟩ F.entry_tuple_mul (F.args_tuple_mul_2 _ _) (US (k:Int) t p #[D] n J L rfl ?_ ?_ ?_ ?_ ?_ ?_) ⟨e,?_⟩
  ·exact dz.mpr (by lia)
  ·rw [Bool.or_eq_true,eh,eh];lia
  ·rw [Bool.or_eq_true,eh];rintro (h|h);lia;cases h
  ·rw [G];lia
  ·rw [G];unfold Builtin.Tuple.tupleTooMany;rw [eh];have:(1000:Nat)<=sizeLine:=by decide
   lia
  ·rw [hf,aq,cb];exact aM Z (by decide)
  ·exact mk _ hf E
def Y0:V->List V->Hp->VK->Prop:=fun x D H Q=>∃(l:Addr) (h:List V) (y:V),x=.ref l/\D=[y]/\H l=some (.lst h)/\vY y=true/\h.all vY=true/\Q (.int ((h.countP fun z=>yW z y:Nat):Int)) H
theorem DR {y:V}:∀{xs:List V} {us:List Value},Vals xs us->xs.all vY=true->us.countP (zE y)=xs.countP fun z=>yW z y
 |[],_,r,_=>by cases r;rfl
 |x::xs,_,r,f=>by
  cases r with
  |@cons _ u _ us D rt =>
   rw [List.all_cons,fk] at f;have h:=DR (y:=y) rt f.2;rw [ip,ip,h,pD D f.1]
theorem WE:lO X "list.count" Y0:=by
 intro kc s Z H x vs v Y Q I G S h;obtain ⟨l,O,y,rfl,rfl,M,V,E,q⟩:=h;cases G;obtain ⟨u,rfl,J⟩:=S.one;obtain ⟨z,D,n,r,hl,e⟩:=I.lstM M;refine gu F.slot_list_count ⟨_,e,rfl⟩ F.entry_list_count (F.args_list_count_2 _ _) (SeqAt.list_countAt l D.toArray n none #[] u (zE y)) ⟨e,fun w L=>dC J V r E w (by simpa using L),?_⟩;rw [show D.toArray.toList=D from rfl,DR r E];exact ⟨.int ((O.countP fun z=>yW z y:Nat):Int),H,I.tok _,⟨_,rfl⟩,q⟩
end
end L2
namespace L2
open PySem PySem.Spec PyProof.Rows
section
variable {prog:Program} {w:World} {A:Around} {s:Shared} {E:Value->Shared->Prop}
end
section
variable {X:Cx} {kc:List (Addr×Obj)} {σ:List (Option V)} {H:Hp} {s:Shared} {h':Heap}
end
section
variable {X:Cx}
end
section
variable {prog:Program} {w:World} {A:Around} {s:Shared} {E:Value->Shared->Prop}
end
section
variable {X:Cx} {e se:Expr} {te:TE} {lo hi:Option Expr} {tl th tk:TO} {kn p2:Pos}
end
section
variable {X:Cx}
end
section
end
section
variable {prog:Program} {w:World} {A:Around} {s:Shared} {E:Value->Shared->Prop}
theorem C9 {h h':Heap} {p:Addr} {vs:Array Value} (D:h.IsTuple p vs) (k:∀o,h.get? p=some o->h'.get? p=some o):h'.IsTuple p vs:=by obtain ⟨o,e,c⟩:=D;exact ⟨o,k o e,c⟩
theorem U9 {it p:Addr} {vs:Array Value} (L:A.handled=none) (F:it≠p):Draws prog w A it [it,p] vs.size (fun i x=>vs[i]?=some x) (fun i h=>h.IsTupleIter it p i/\h.IsTuple p vs) where
 live:=fun i h D=>by obtain ⟨⟨o,e,_⟩,_⟩:=D;exact ⟨o,e⟩
 frame:=fun i h G D k=>⟨D.1.at fun o e=>k _ (by simp) o e,C9 D.2 fun o e=>k _ (by simp) o e⟩
 item:=fun i s Q E J D S=>by
  refine DM D.1 D.2 (Array.getElem?_eq_getElem J) fun G M I=>?_
  exact S _ G s.toks (Array.getElem?_eq_getElem J) ⟨M,C9 D.2 fun o e=>(I.2 _ F.symm).trans e⟩ I
 done:=fun s Q E D O=>xN L D.1 D.2 (by simp) O
abbrev rM (h:Heap) (q:Addr):Heap:=h.push {cls:=.type "tuple_iterator",data:=.fields #[.ref q,.int 0 0]}
abbrev CH (h:Heap) (q:Addr):Heap:=(rM h q).push {cls:=.type "enumerate",data:=.fields #[.none,.bool false,.ref h.objs.size,rawInt 0,.none,.none]}
theorem SN (q:Addr) (us:Array Value) (m:Nat) (dd:Option Addr) (M:Array (Option Value)):Meets (Builtin.«enumerate.__new__» ⟨[.type "enumerate",.ref q],[]⟩) (fun _ R s=>s.heap.get? q=some {cls:=.type "tuple",dict:=dd,data:=.seq us m,slots:=M}/\R (.ok (.ret (.ref (rM s.heap q).objs.size))) {s with heap:=CH s.heap q}):=.of_wp fun prog w A R s h=>by
 obtain ⟨L,g,d,I,J⟩:=s;obtain ⟨D,h⟩:=h;have F:=sub_enumerate
 have G:Heap.IsTuple (Shared.heap ⟨L,g,d,I,J⟩) q us:=⟨_,D,rfl,m,rfl⟩
 wp_walk using gz D
 refine wpAny_stack_any fun O=>aX ?_;split
 ·rename_i c _ _ _ _ _;cases (c == Value.type "enumerate")<;>(wp_walk using gz D,fm G;exact ⟨_,rfl,h⟩)
 ·wp_walk using gz D,fm G;exact ⟨_,rfl,h⟩
theorem TV {q:Addr} {us:Array Value} {Q:Value->Shared->Prop} (J:s.heap.IsTuple q us)
  (k:∀h',IsEnum h' (s.heap.objs.size+1) s.heap.objs.size 0 .none->h'.IsTupleIter s.heap.objs.size q 0->(∀b o,s.heap.get? b=some o->h'.get? b=some o)->Q (.ref (s.heap.objs.size+1)) {s with heap:=h'}):wpAny (model prog w) A (call (.type "enumerate") [.ref q]) Q E s:=by
 obtain ⟨⟨c,S,L,V⟩,M,D,m,h⟩:=J;have D:c=.type "tuple":=D;have h:L=.seq us m:=h;subst D;subst h
 refine callType_new F.called_enumerate (by decide) (F.typeCall_enumerate_1 _) (F.newCall_enumerate_1 _) (fun I=>F.args_object_init_2 I _) F.entry_enumerate_new (SN q us m S V) ⟨M,?_⟩;have O:(rM s.heap q).objs.size=s.heap.objs.size+1:=dh ..;have G:(CH s.heap q).get? (rM s.heap q).objs.size=some _:=aC _ rfl;have Y:(CH s.heap q).get? s.heap.objs.size=some _:=ak _ (aC _ rfl);show _/\_;rw [O] at G ⊢;exact ⟨⟨_,G,rfl⟩,k _ G ⟨_,Y,rfl,rfl⟩ fun b o x=>ak _ (ak _ x)⟩
end
def CA (K:PySem.W.Frag) (a:Addr):It :=
 ⟨fun i H=>∃h x,SqT K H a h/\h[i]?=some x,
  fun i H v D=>∃T x,v=.ref T/\H T=none/\D=upd H T (.tup [.int (i:Int),x])/\∀h,SqT K H a h->h[i]?=some x,
  fun i H=>∃h,SqT K H a h/\h.length<=i⟩
theorem S3 {P:Program} {w:World} {K:PySem.W.Frag} {ki:List Expr} {x1:Nat} {kn:Pos} {a e it:Addr} (Z:e≠it) (a4:e≠a) (ah:it≠a) :
  Turn P w K (.Tuple ki x1 kn) (CA K a) [e,it] e (fun i h=>(∃G,IsEnum h e it i G)/\h.IsTupleIter it a i) where
 mem:=by simp
 obj:=fun i h M b J=>by
  obtain ⟨⟨G,L⟩,⟨o1,e1,c1,d1⟩⟩:=M;simp only [aj,au,bb] at J
  rcases J with rfl|rfl
  ·exact ⟨_,L,fun v y=>by have y':Data.fields _=Data.cell v:=y;cases y'⟩
  ·exact ⟨o1,e1,fun v y=>by rw [d1] at y;cases y⟩
 keep:=fun i h h' M k=>by
  obtain ⟨⟨G,L⟩,h1⟩:=M;exact ⟨⟨G,k _ (by simp) _ L⟩,h1.at fun o e=>k _ (by simp) o e⟩
 item:=by
  intro X hP hw hK hc i kc s σ H E I hf M hg;subst hP hw hK;obtain ⟨⟨G,L⟩,h1⟩:=M;obtain ⟨xs,x,O,hx⟩:=hg;obtain ⟨D,S,V,_⟩:=I.tuple O;have V:s.heap.IsTuple a D.toArray:=V;obtain ⟨u,hu,ru⟩:=S.get hx;have am:i<D.toArray.size:=by rw [aq];exact (ad.mp hu).1
  refine wpAny_pyNext_enum_itemD (U9 (A:=X.A.in1) (I.ok.hd hc) ah) L ⟨h1,V⟩ am Z (by simp [Z,a4]) fun u' h' tk a3 aD a0 a5 a6 hk=>?_
  have eu:u'=u:=by
   have e1:D.toArray[i]?=some u':=a3;rw [List.getElem?_toArray,hu] at e1;exact (aA e1).symm
  subst eu;refine ⟨_,rfl,?_⟩;refine wpAny_letOwnedTupleGo_enum aD fun h2 al Y=>?_
  have lt:∀{b:Addr} {o:Obj},s.heap.get? b=some o->b<s.heap.objs.size:=fun e=>az e
  have nT:s.heap.objs.size≠e:=ge (lt L);have k2:∀b o,b∉[e,it]->s.heap.get? b=some o->h2.get? b=some o:=fun b o J q=>by
   simp only [aj,au,bb,not_or] at J;exact (Y.2 b J.1).trans (hk b o J.1 J.2 q)
  have an:=(Y.2 _ nT).trans a5;refine ⟨.ref s.heap.objs.size,upd H s.heap.objs.size (.tup [.int (i:Int),x]),I.laidN (t':=tk+1) (fp:=[e,it]) k2 hf (ao _) ⟨(by show 2<=sizeLine;decide),[.int i tk,u'],.cons ⟨_,rfl⟩ (.cons ru .nil),⟨_,an,rfl,_,rfl⟩⟩,rfl,?_,?_,?_⟩
  ·exact ⟨_,x,rfl,I.hok.fresh (ao _),rfl,fun zs aU=>by rw [I.tuple_inj aU O];exact hx⟩
  ·exact ⟨⟨_,al⟩,a0.1.at fun o q=>(Y.2 _ Z.symm).trans q⟩
  ·intro b J;have:=(hf b J).1;rw [j7]
   ·exact this
   ·intro q;simp only [aj,au,bb] at J;obtain ⟨o1,e1,_⟩:=h1
    rcases J with rfl|rfl
    ·exact nT q.symm
    ·exact aS (lt e1) q
 done:=by
  intro X hP hw hK hc i kc s σ H E I hf M hg;subst hP hw hK;obtain ⟨⟨G,L⟩,h1⟩:=M;obtain ⟨xs,O,hx⟩:=hg;obtain ⟨D,S,V,_⟩:=I.tuple O;have V:s.heap.IsTuple a D.toArray:=V;have l1:=S.length;unfold pyNext;refine ai (wpAny_attempt (eo (name:=Str.ofString "__next__") ⟨_,L,rfl⟩ F.slot_enumerate_next (gw F.slot_enumerate_next ⟨_,L,rfl⟩ F.entry_enumerate_next ?_ (F.args_enumerate_next_1 _))));show wpAny _ _ (field (.ref e) 2 >>= _) _ _ _;refine ai (cx L rfl (x:=.ref it) rfl ?_);refine ai (xN (A:=X.A.in1) (I.ok.hd hc) h1 V (by simp;lia) fun h' z hk hz=>?_);obtain ⟨oz,ez,cz⟩:=hz;refine ai (wpAny_isInstance (T:="StopIteration") (b:=true) ⟨oz,ez,cz⟩ isSubtype_stop ?_);refine aX ⟨rfl,I.turnedN (t':=s.toks) (fp:=[e,it]) (fun b o J q=>?_) hf⟩;simp only [aj,au,bb,not_or] at J;exact hk b o J.2 q
 self:=fun _ _ _ _ _ M h=>by obtain ⟨⟨G,L⟩,_⟩:=M;exact ij L h
section
variable {X:Cx} {ki:List Expr} {x1:Nat} {kg:Pos}
def jAj (K:PySem.W.Frag) (E:TA):TI:=fun F H R=>E F H fun G h=>∃a,G=[.ref a]/\(∃D,SqT K h a D)/\R (CA K a) h
theorem AB {a:Expr} {S:TA} {p Z:Pos} (hg:Gl X "enumerate") (hm:X.mg "enumerate"=none) (ha:PA X [a] S) (hs:starEach [a] X.env=[(false,eval a X.env)]:=by rfl) :
  PI X (.Tuple ki x1 kg) (.Call (.Name "enumerate" p) [a] [] Z) (jAj X.K S):=by
 intro kc s σ H R I h;refine Call_ (dN I hg hm boot_enumerate (di (jZ (ha Z kc s σ H _ I h) fun us F ⟨vs,H1,G,r1,q1⟩=>?_) hs rfl));obtain ⟨O,e,⟨xs,M⟩,q⟩:=q1;subst e;cases r1 with
 |cons r rr =>
  cases rr;cases r;obtain ⟨E,al,J,_⟩:=G.tuple M;have J:F.heap.IsTuple O E.toArray:=J;have ah:O<F.heap.objs.size:=by obtain ⟨o,e,_⟩:=J;exact az e
  refine TV J fun h' Y L hk=>?_
  refine ij Y ?_;refine ⟨_,_,_,_,H1,rfl,G.kept (t':=F.toks) hk,S3 (Nat.succ_ne_self _) (by intro z;simp only [Addr] at *;lia) (by intro z;simp only [Addr] at *;lia),⟨⟨_,Y⟩,L⟩,fun b V=>?_,q⟩;simp only [aj,au,bb] at V;have D:F.heap.objs.size<=b:=by rcases V with rfl|rfl<;>simp only [Addr] at *<;>lia
  exact G.fpOk D (G.hok.fresh D)
theorem wV {K:PySem.W.Frag} {a D:Addr} {xs:List V} {g:TG} {M:TT} {O:TE} {E:St} {H:Hp} {Q:Hp->Prop} (G:Nat->St->Hp->Prop) (h0:G 0 E (upd H D (.lst []))) (hl:∀i h H,i<=xs.length->G i h H->SqT K H a xs)
  (hs:∀i x h H T,xs[i]?=some x->G i h H->H T=none->g (.ref T) h (upd H T (.tup [.int (i:Int),x])) fun F H3=>M F H3 fun b S=>if b=true then O F S fun v L=>∃zs,L D=some (.lst zs)/\zs.length<sizeLine/\G (i+1) F (upd L D (.lst (zs++[v]))) else G (i+1) F S)
  (hd:∀h H,G xs.length h H->Q H):QB D (CA K a) g M O E H Q:=by
 refine ⟨fun i m h H=>m=xs.length - i/\i<=xs.length/\G i h H,⟨xs.length,by simp,aN _,h0⟩,?_⟩;rintro i m h H ⟨rfl,hi,p⟩;have J:=hl i h H hi p
 by_cases I:i<xs.length
 ·refine .inr ⟨⟨xs,_,J,aa I⟩,G (i+1),fun ah H' Y=>⟨xs.length - (i+1),by lia,rfl,I,Y⟩,fun v H' Z=>?_⟩;obtain ⟨T,x,rfl,hT,rfl,e1⟩:=Z;exact hs i x h H T (e1 xs J) p hT
 ·exact .inl ⟨⟨xs,J,by lia⟩,hd h H (by rw [show xs.length=i by lia];exact p)⟩
end
section
variable {X:Cx}
end
variable {K:PySem.W.Frag} {H:Hp} {i:Int} {v:V} {P:V->Prop}
theorem k7 {p:Addr} {xs:List V} (h:SqL K H p xs) (t:vM xs i=some v) (q:P v):∃E D F G,V.ref p=.ref E/\V.int i=.int F/\SqL K H E D/\vM D F=some G/\P G:=⟨p,xs,i,v,rfl,rfl,h,t,q⟩
theorem jJ {p:Addr} {xs:List V} (h:SqT K H p xs) (t:vM xs i=some v) (q:P v):∃E D F G,V.ref p=.ref E/\V.int i=.int F/\SqT K H E D/\vM D F=some G/\P G:=⟨p,xs,i,v,rfl,rfl,h,t,q⟩
theorem j8 {a C J:Addr} {E:List (Str×V)} {f:Str} (h:H a=some (.ins C J E)) (c:Cls K C) (n:NoAttr K C f) (l:E.lookup f=some v) (q:P v):∃I F G D L,V.ref a=.ref I/\H I=some (.ins F G D)/\Cls K F/\NoAttr K F f/\D.lookup f=some L/\P L:=⟨a,C,J,E,v,rfl,h,c,n,l,q⟩
theorem kD {P:Int->Int->Prop} {j:Int} (h:P i j):∃a b,V.int i=V.int a/\V.int j=V.int b/\P a b:=⟨i,j,rfl,rfl,h⟩
end L2
namespace L2
open PySem PySem.Spec PyProof.Rows
section
variable {X:Cx}
theorem VI (hc:X.calm=true):y7 X (.builtin "min") (fun xs H Q=>∃(p:Addr) (D:List Int),xs=[.ref p]/\SqL X.K H p (D.map V.int)/\0<D.length/\∀m,m∈D->(∀n∈D,m<=n)->Q (.int m) H):=by
 intro kc s σ H xs us Q I r h;obtain ⟨p,D,rfl,hq,ah,q⟩:=h;obtain ⟨u,rfl,rx⟩:=Q2 r;cases rx;obtain ⟨F,M,J,hz⟩:=I.list hq;have E:=M.length;rw [ae] at E;have Z:p<s.heap.objs.size:=by obtain ⟨o,n,e,_⟩:=J;exact az e
 refine call_min_walk (ga J.isList ?_);refine ⟨s.heap.objs.size,_,_,_,_,_,_,rfl,Walks.list (A:=X.A.in1) (I.ok.hd hc) s.heap.objs.size p (aS Z) F.toArray,⟨⟨_,aC _ rfl,rfl,rfl⟩,J.isList.at fun o e=>ak _ e⟩,fun b O=>?_,by rw [aq];lia,CmpOf.ints_lt (fun i=>D.getD i 0) (fun i v h=>mV M h),fun v h' tk hP hk=>?_⟩
 ·rw [dh]
  rcases aj.mp O with e|e
  ·rw [e];exact fj _
  ·have L:b=p:=by simpa using e
   rw [L];exact ii Z
 ·obtain ⟨t,rfl⟩:=mV M hP;obtain ⟨h1,Y⟩:=argBest_lt (fun i=>D.getD i 0) (F.toArray.size - 1);rw [aq,<- E] at h1 Y ⊢;have G:∀i,i<D.length->D.getD i 0∈D:=fun i S=>by rw [ac,aa S];exact cw S
  refine ⟨.int _,H,I.kept (t':=tk) fun b o e=>hk b o (fun O=>?_) (ak _ e),⟨_,rfl⟩,q _ (G _ (by lia)) fun n hn=>?_⟩
  ·have L:b=s.heap.objs.size:=by simpa using O
   exact absurd (az e) (by rw [L];exact bq _)
  ·obtain ⟨j,hj,rfl⟩:=iw.mp hn;have:=Y j (by lia);rw [show D.getD j 0=D[j] by rw [ac,aa hj];rfl] at this;exact this
end
end L2
namespace L2
theorem jB {D E:Type} {f:D->E} {b:E} {v:D} {B:D->Prop} (h:b=f v) (q:B v):∃x,b=f x/\B x:=⟨v,h,q⟩
open PySem PySem.Spec PyProof.Rows in
theorem jY {CX:zM} {P:Program} {w:World} {K:PySem.W.Frag} {D:Str->Option Value} {base:Heap} {N:List Str} {G:Str} {scope:Scope} {f:Addr} {F:Value} {A:Around} {h:List Env} {s:Shared} {H:Hp} {E:XK}:(qQ CX P w K D base N G scope f F A h s H E).K=K:=rfl
open PySem PySem.Spec PyProof.Rows in
theorem jX {CX:zM} {P:Program} {w:World} {K:PySem.W.Frag} {D:Str->Option Value} {base:Heap} {N:List Str} {G:Str} {scope:Scope} {f:Addr} {F:Value} {A:Around} {h:List Env} {s:Shared} {H:Hp} {E:XK}:(qQ CX P w K D base N G scope f F A h s H E).nox.K=K:=rfl
end L2
namespace L2
variable {α0 α1 α2:Sort _}
theorem jQ {P:α0->α1->α2->Prop} (D:α0) (a1:α1) (a2:α2) (h:P D a1 a2):∃D a1 a2,P D a1 a2:=⟨D,a1,a2,h⟩
variable {α3:Sort _}
theorem j0 {P:α0->α1->α2->α3->Prop} (D:α0) (a1:α1) (a2:α2) (E:α3) (h:P D a1 a2 E):∃D a1 a2 E,P D a1 a2 E:=⟨D,a1,a2,E,h⟩
variable {α4:Sort _}
theorem qO {P:α0->α1->α2->α3->α4->Prop} (D:α0) (a1:α1) (a2:α2) (F:α3) (E:α4) (h:P D a1 a2 F E):∃D a1 a2 F E,P D a1 a2 F E:=⟨D,a1,a2,F,E,h⟩
variable {α5:Sort _}
theorem JC {P:α0->α1->α2->α3->α4->α5->Prop} (E:α0) (a1:α1) (a2:α2) (G:α3) (D:α4) (F:α5) (h:P E a1 a2 G D F):∃E a1 a2 G D F,P E a1 a2 G D F:=⟨E,a1,a2,G,D,F,h⟩
variable {α6:Sort _}
theorem kL {P:α0->α1->α2->α3->α4->α5->α6->Prop} (F:α0) (a1:α1) (a2:α2) (I:α3) (D:α4) (G:α5) (E:α6) (h:P F a1 a2 I D G E):∃F a1 a2 I D G E,P F a1 a2 I D G E:=⟨F,a1,a2,I,D,G,E,h⟩
variable {α7:Sort _}
theorem ZU {P:α0->α1->α2->α3->α4->α5->α6->α7->Prop} (F:α0) (a1:α1) (a2:α2) (J:α3) (D:α4) (G:α5) (E:α6) (I:α7) (h:P F a1 a2 J D G E I):∃F a1 a2 J D G E I,P F a1 a2 J D G E I:=⟨F,a1,a2,J,D,G,E,I,h⟩
variable {α8:Sort _}
theorem vP {P:α0->α1->α2->α3->α4->α5->α6->α7->α8->Prop} (F:α0) (a1:α1) (a2:α2) (J:α3) (D:α4) (G:α5) (E:α6) (I:α7) (L:α8) (h:P F a1 a2 J D G E I L):∃F a1 a2 J D G E I L,P F a1 a2 J D G E I L:=⟨F,a1,a2,J,D,G,E,I,L,h⟩
variable {α9:Sort _}
theorem gE {P:α0->α1->α2->α3->α4->α5->α6->α7->α8->α9->Prop} (G:α0) (a1:α1) (a2:α2) (F:α3) (D:α4) (I:α5) (E:α6) (L:α7) (M:α8) (J:α9) (h:P G a1 a2 F D I E L M J):∃G a1 a2 F D I E L M J,P G a1 a2 F D I E L M J:=⟨G,a1,a2,F,D,I,E,L,M,J,h⟩
variable {α10:Sort _}
theorem jCr {P:α0->α1->α2->α3->α4->α5->α6->α7->α8->α9->α10->Prop} (I:α0) (a1:α1) (a2:α2) (G:α3) (E:α4) (J:α5) (F:α6) (M:α7) (O:α8) (L:α9) (D:α10) (h:P I a1 a2 G E J F M O L D):∃I a1 a2 G E J F M O L D,P I a1 a2 G E J F M O L D:=⟨I,a1,a2,G,E,J,F,M,O,L,D,h⟩
variable {α11:Sort _}
theorem LE {P:α0->α1->α2->α3->α4->α5->α6->α7->α8->α9->α10->α11->Prop} (J:α0) (a1:α1) (a2:α2) (I:α3) (F:α4) (L:α5) (G:α6) (O:α7) (S:α8) (M:α9) (D:α10) (E:α11) (h:P J a1 a2 I F L G O S M D E):∃J a1 a2 I F L G O S M D E,P J a1 a2 I F L G O S M D E:=⟨J,a1,a2,I,F,L,G,O,S,M,D,E,h⟩
variable {α12:Sort _}
theorem B2 {P:α0->α1->α2->α3->α4->α5->α6->α7->α8->α9->α10->α11->α12->Prop} (J:α0) (a1:α1) (a2:α2) (S:α3) (G:α4) (L:α5) (I:α6) (O:α7) (V:α8) (M:α9) (E:α10) (F:α11) (D:α12) (h:P J a1 a2 S G L I O V M E F D):∃J a1 a2 S G L I O V M E F D,P J a1 a2 S G L I O V M E F D:=⟨J,a1,a2,S,G,L,I,O,V,M,E,F,D,h⟩
theorem lH {I:Sort _} {P:α0->α1->α2->α3->α4->α5->α6->α7->α8->α9->α10->α11->α12->I->Prop} (O:α0) (a1:α1) (a2:α2) (M:α3) (J:α4) (S:α5) (L:α6) (Y:α7) (Z:α8) (V:α9) (E:α10) (F:α11) (D:α12) (G:I) (h:P O a1 a2 M J S L Y Z V E F D G):∃O a1 a2 M J S L Y Z V E F D G,P O a1 a2 M J S L Y Z V E F D G:=⟨O,a1,a2,M,J,S,L,Y,Z,V,E,F,D,G,h⟩
theorem B0 {M:Sort _} {O:Sort _} {L:Sort _} {P:α0->α1->α2->α3->α4->α5->α6->α7->α8->α9->α10->α11->α12->M->O->L->Prop} (Z:α0) (a1:α1) (a2:α2) (Y:α3) (S:α4) (a5:α5) (V:α6) (a7:α7) (a8:α8) (a9:α9) (E:α10) (F:α11) (D:α12) (J:M) (I:O) (G:L) (h:P Z a1 a2 Y S a5 V a7 a8 a9 E F D J I G):∃Z a1 a2 Y S a5 V a7 a8 a9 E F D J I G,P Z a1 a2 Y S a5 V a7 a8 a9 E F D J I G:=⟨Z,a1,a2,Y,S,a5,V,a7,a8,a9,E,F,D,J,I,G,h⟩
variable {A0 A1 A2:Prop}
theorem kN (D:A0) (h:A1) (E:A2):A0/\A1/\A2:=⟨D,h,E⟩
variable {A3:Prop}
theorem kB (D:A0) (h:A1) (E:A2) (F:A3):A0/\A1/\A2/\A3:=⟨D,h,E,F⟩
variable {A4:Prop}
theorem jO (G:A0) (E:A1) (F:A2) (h:A3) (D:A4):A0/\A1/\A2/\A3/\A4:=⟨G,E,F,h,D⟩
variable {A5:Prop}
theorem j5 (I:A0) (F:A1) (G:A2) (D:A3) (E:A4) (h:A5):A0/\A1/\A2/\A3/\A4/\A5:=⟨I,F,G,D,E,h⟩
variable {A6:Prop}
theorem vD (J:A0) (G:A1) (I:A2) (D:A3) (F:A4) (h:A5) (E:A6):A0/\A1/\A2/\A3/\A4/\A5/\A6:=⟨J,G,I,D,F,h,E⟩
variable {A7:Prop}
theorem JD (L:A0) (I:A1) (J:A2) (E:A3) (G:A4) (h:A5) (F:A6) (D:A7):A0/\A1/\A2/\A3/\A4/\A5/\A6/\A7:=⟨L,I,J,E,G,h,F,D⟩
variable {A8:Prop}
theorem eJ (M:A0) (J:A1) (L:A2) (E:A3) (I:A4) (h:A5) (G:A6) (D:A7) (F:A8):A0/\A1/\A2/\A3/\A4/\A5/\A6/\A7/\A8:=⟨M,J,L,E,I,h,G,D,F⟩
variable {A9:Prop}
theorem eA (O:A0) (L:A1) (M:A2) (F:A3) (J:A4) (h:A5) (I:A6) (D:A7) (G:A8) (E:A9):A0/\A1/\A2/\A3/\A4/\A5/\A6/\A7/\A8/\A9:=⟨O,L,M,F,J,h,I,D,G,E⟩
theorem B4 {h:Prop} (V:A0) (M:A1) (S:A2) (I:A3) (O:A4) (E:A5) (L:A6) (F:A7) (J:A8) (G:A9) (D:h):A0/\A1/\A2/\A3/\A4/\A5/\A6/\A7/\A8/\A9/\h:=⟨V,M,S,I,O,E,L,F,J,G,D⟩
theorem jCt {D h:Prop} (Z:A0) (S:A1) (Y:A2) (L:A3) (V:A4) (G:A5) (O:A6) (I:A7) (M:A8) (J:A9) (F:D) (E:h):A0/\A1/\A2/\A3/\A4/\A5/\A6/\A7/\A8/\A9/\D/\h:=⟨Z,S,Y,L,V,G,O,I,M,J,F,E⟩
variable {C:Prop}
theorem lG {P:α0->α1->α2->Prop} (h:∃D a1 a2,P D a1 a2) (q:∀D a1 a2,P D a1 a2->C):C:=by
 obtain ⟨D,a1,a2,h⟩:=h;exact q _ _ _ h
theorem cI {P:α0->α1->α2->α3->Prop} (h:∃D a1 a2 E,P D a1 a2 E) (q:∀D a1 a2 E,P D a1 a2 E->C):C:=by
 obtain ⟨D,a1,a2,E,h⟩:=h;exact q _ _ _ _ h
theorem ZB {P:α0->α1->α2->α3->α4->Prop} (h:∃D a1 a2 F E,P D a1 a2 F E) (q:∀D a1 a2 F E,P D a1 a2 F E->C):C:=by
 obtain ⟨D,a1,a2,F,E,h⟩:=h;exact q _ _ _ _ _ h
theorem cH {P:α0->α1->α2->α3->α4->α5->Prop} (h:∃E a1 a2 G D F,P E a1 a2 G D F) (q:∀E a1 a2 G D F,P E a1 a2 G D F->C):C:=by
 obtain ⟨E,a1,a2,G,D,F,h⟩:=h;exact q _ _ _ _ _ _ h
theorem zB {P:α0->α1->α2->α3->α4->α5->α6->Prop} (h:∃F a1 a2 I D G E,P F a1 a2 I D G E) (q:∀F a1 a2 I D G E,P F a1 a2 I D G E->C):C:=by
 obtain ⟨F,a1,a2,I,D,G,E,h⟩:=h;exact q _ _ _ _ _ _ _ h
theorem ZA {P:α0->α1->α2->α3->α4->α5->α6->α7->Prop} (h:∃F a1 a2 J D G E I,P F a1 a2 J D G E I) (q:∀F a1 a2 J D G E I,P F a1 a2 J D G E I->C):C:=by
 obtain ⟨F,a1,a2,J,D,G,E,I,h⟩:=h;exact q _ _ _ _ _ _ _ _ h
theorem JY {P:α0->α1->α2->α3->α4->α5->α6->α7->α8->Prop} (h:∃G a1 a2 F D I E J L,P G a1 a2 F D I E J L) (q:∀G a1 a2 F D I E J L,P G a1 a2 F D I E J L->C):C:=by
 obtain ⟨G,a1,a2,F,D,I,E,J,L,h⟩:=h;exact q _ _ _ _ _ _ _ _ _ h
theorem vU (h:A0/\A1/\A2) (q:A0->A1->A2->C):C:=by
 obtain ⟨E,F,D⟩:=h;exact q E F D
theorem d9 (h:A0/\A1/\A2/\A3) (q:A0->A1->A2->A3->C):C:=by
 obtain ⟨G,E,F,D⟩:=h;exact q G E F D
theorem cJ (h:A0/\A1/\A2/\A3/\A4) (q:A0->A1->A2->A3->A4->C):C:=by
 obtain ⟨I,F,G,D,E⟩:=h;exact q I F G D E
theorem JZ (h:A0/\A1/\A2/\A3/\A4/\A5) (q:A0->A1->A2->A3->A4->A5->C):C:=by
 obtain ⟨J,G,I,E,F,D⟩:=h;exact q J G I E F D
theorem QQ (h:A0/\A1/\A2/\A3/\A4/\A5/\A6) (q:A0->A1->A2->A3->A4->A5->A6->C):C:=by
 obtain ⟨L,G,J,E,I,D,F⟩:=h;exact q L G J E I D F
theorem gF (h:A0/\A1/\A2/\A3/\A4/\A5/\A6/\A7) (q:A0->A1->A2->A3->A4->A5->A6->A7->C):C:=by
 obtain ⟨M,I,L,F,J,D,G,E⟩:=h;exact q M I L F J D G E
end L2
namespace L2
open PySem PySem.Spec PyProof.Rows
section
variable {X:Cx}
end
section
variable {prog:Program} {w:World} {A:Around} {E:Value->Shared->Prop} {s:Shared}
end
section
variable {X:Cx}
end
section
variable {X:Cx} {kc:List (Addr×Obj)} {σ:St} {H:Hp} {s:Shared} {a:Addr} {y d:V} {u r:Value} {o:Option V} {A:Around} {E:Value->Shared->Prop}
end
section
variable {X:Cx} {o e f:Expr} {kh cpos:Pos} {td ty tx:TE}
end
section
variable {M:Model} {A:Around} {E:Value->Shared->Prop} {s:Shared}
theorem WA {B:Heap} {F:Env} {D:List Env} {L e:Addr} {cls a0 Z:Value} {Q:Unit->Shared->Prop} (S:A.frames=some (F::D)) (hl:s.heap.FunFrames B (F::D)) (hf:F.frame=some L) (ht:s.heap.TracedAtW B e cls a0 Z) (hn:Z≠rawInt L) (hb:B.StaysIn s.heap) (V:B.get? e=none)
  (q:∀h',Heap.NotedW B (F::D) e cls a0 (rawInt L) s.heap h'->Q () {s with heap:=h'}):wpAny M A (noteFrame (.ref e) F) Q E s:=by
 obtain ⟨oe,vs,T,oT,ts,he,⟨rfl,h0⟩,hd,h1,nT,Y,O,dT,h3⟩:=ht;unfold noteFrame;simp only [hf];refine ai (cx he hd h1 ?_);rw [if_pos (show (Value.ref T != Value.none)=true from by simp)];refine ai (cx O dT h3 ?_);rw [if_neg (show ¬((Z == rawInt L)=true) from fun z=>hn (eq_of_beq z))];refine ai (wpAny_setField O dT (fi.mp h3).1 ?_);have G:∀b,b≠T->(s.heap.update T (Obj.mapFields (·.setIfInBounds 3 Value.none))).get? b=s.heap.get? b:=fun b nb=>gj _ _ (Ne.symm nb)
 have I:∀b o,s.heap.get? b=some o->(∀vs,o.data≠.fields vs)->b≠T:=fun b o h J z=>by rw [z,O] at h;cases h;exact J ts dT
 refine wpAny_entryW S (hl.of_keeps fun b o h J=>⟨o,(G b (I b o h J)).trans h,rfl⟩) hf ((G e (Ne.symm Y)).trans he) (fun b o h=>(G b fun z=>by rw [z,nT] at h;cases h).trans (hb b o h)) V hd (fi.mp h1).1 h0 fun h' y=>?_
 obtain ⟨y1,y2,y3,y4⟩:=y;exact q h' ⟨y1,y2,y3,fun b o h J=>y4 b o ((G b (I b o h J)).trans h) J⟩
theorem TJ {B:Heap} {D:Env} {h:List Env} {L e:Addr} {cls V fl:Value} {Q:Unit->Shared->Prop} (S:A.frames=some (D::h)) (hl:s.heap.FunFrames B (D::h)) (hf:D.frame=some L) (J:s.heap.TracedAtW B e cls V fl) (hb:B.StaysIn s.heap) (F:B.get? e=none)
  (q:∀h',Heap.FlyingW B h e cls V h'->s.heap.UpToSlots h'->Q () {s with heap:=h'}):wpAny M A (leaving D (.ref e)) Q E s:=by
 have I:∀G,Heap.HeldW B (D::h) e cls V L G->s.heap.UpToSlots G->wpAny M A (setFlight (.ref e) none) Q E {s with heap:=G}:=fun G hh up=>by
  refine wpAny_landsW (s:={s with heap:=G}) hh fun h' O Y=>q h' ?_ (up.trans Y)
  obtain ⟨k1,k2,⟨_,_,k3⟩,k4⟩:=O;exact ⟨k1,k2,k3,k4⟩
 unfold leaving
 by_cases Z:fl=rawInt L
 ·subst Z;exact ai (wpAny_noteFrame_againW hf J (I s.heap ⟨hb,F,hl,J⟩ (Heap.UpToSlots.refl _)))
 ·refine ai (WA S hl hf J Z hb F fun G y=>?_);obtain ⟨y1,y2,y3,y4⟩:=y;exact I G ⟨y1,F,y2,y3⟩ y4
end
theorem UM {B h:Heap} (k:∀b o,h.get? b=some o->B.get? b=some o) {b:Addr} (D:B.get? b=none):h.get? b=none:=by
 cases r:h.get? b with
 |none=>rfl
 |some v=>rw [k b v r] at D;cases D
theorem DE {h B D:Heap} (k:∀b o,D.get? b=some o->B.get? b=some o):∀{l:List Env},h.FunFrames B l->h.FunFrames D l
 |[],_=>trivial
 |_::_,⟨F,⟨L,o,M,J,G,E⟩,I⟩=>⟨F,⟨L,o,M,UM k J,G,E⟩,DE k I⟩
def gC (X:Cx) (N:List Str) (scope:Scope) (C:Addr) (s:Shared) (H:Hp) (J:List (Addr×Obj)) (fp:List Addr) (RX:Value->Hp->Prop):Value->Shared->Prop:=fun e G=>∃h F E D,Inv (vG X N scope C s H J fp) h F E D/\kO X.prog X.w X.stack E D (fun c _ I=>RX c I) e G
theorem TK {X:Cx} {N:List Str} {scope:Scope} {C:Addr} {s:Shared} {H:Hp} {G:List (Addr×Obj)} {fp:List Addr} {RX:Value->Hp->Prop}:lC ((vG X N scope C s H G fp).wish (gC X N scope C s H G fp RX)) (fun _ c J=>RX c J) :=
 fun h D F E _ _ I L=>⟨h,D,F,E,I.unwish,L⟩
section
variable {P:Program} {w:World} {K:PySem.W.Frag} {mg:Str->Option Value} {base:Heap} {N:List Str} {ke:Str} {scope:Scope} {f:Addr} {cd:Value} {A:Around} {outer:List Env} {s:Shared} {H:Hp} {E:XK}
theorem W0 {Nc:List Str} {sc:Scope} {kc:List (Addr×Obj)} {σ:St} {H2:Hp} {s2:Shared} {fp:List Addr} {C:Addr} {e co:Value} {J:Shared} {use:Option (Value->Sem Unit)} {Q:Value->Shared->Prop} {E':Value->Shared->Prop}
  (I2:Inv (qQ (kO P w) P w K mg base N ke scope f cd A outer s H E) kc σ H2 s2) (f2:∀b∈fp,QE (qQ (kO P w) P w K mg base N ke scope f cd A outer s H E) kc H2 b) (hC:s2.heap.objs.size<=C)
  (hx:gC (qQ (kO P w) P w K mg base N ke scope f cd A outer s H E) Nc sc C s2 H2 kc fp (fun c H'=>E c none H') e J) (cells:List (Str×Addr)) :
  wpAny (model P w) (A.deeper (envOfC ke scope s.heap.objs.size f cd)) (noteFrame e (compEnvC sc cells C (envOfC ke scope s.heap.objs.size f cd)))
   (fun _ G=>compPost (model P w) (A.deeper (envOfC ke scope s.heap.objs.size f cd)) (qQ (kO P w) P w K mg base N ke scope f cd A outer s H E).xe use Q co C (.error e) G) E' J:=by
 obtain ⟨M,aD,b5,h,Ic,a,Cc,H3,rfl,os,b8,un,cO,⟨B,a0,fl,D⟩,ha,cB,q⟩:=hx;have J1:Inv (vG (qQ (kO P w) P w K mg base N ke scope f cd A outer s H E) Nc sc C s2 H2 kc fp) M aD H3 J:=Ic.call' (ch:=[]) os un cO b8 fun b z=>absurd z (by simp)
 have J0:=J1.pins_of (pins':=[]) fun p hp=>nomatch hp
 have Y:Inv (qQ (kO P w) P w K mg base N ke scope f cd A outer s H E) kc σ H3 J:=nY (σ':=σ) I2 f2 J0;have c0:Heap.FlyingW B (envOfC ke scope s.heap.objs.size f cd::outer) a (.ref Cc) a0 J.heap:=fl;have a9:qE (envOfC ke scope s.heap.objs.size f cd::outer)=s.heap.objs.size::qE outer:=rfl;have a7:s2.heap.FunFrames base (envOfC ke scope s.heap.objs.size f cd::outer):=I2.stack;have cC:J.heap.FunFrames base (envOfC ke scope s.heap.objs.size f cd::outer):=Y.stack;have ub:Un (qE outer) [] H H3 s.heap J.heap:=Y.base;have u2:Un (qE outer) [] H H2 s.heap s2.heap:=I2.base;have uc:Un (qE (envOfC ke scope s.heap.objs.size f cd::outer)) fp H2 b5 s2.heap h.heap:=Ic.base;have I:C∉qE (envOfC ke scope s.heap.objs.size f cd::outer):=fun z=>by
  obtain ⟨_,o,ho,_⟩:=a7.mem z;exact absurd (az ho) (Nat.not_lt_of_le hC)
 have bv:∀b,(∃o',s.heap.get? b=some o')->b∉qE outer->b∉qE (envOfC ke scope s.heap.objs.size f cd::outer):=fun b ⟨o',z⟩ n y=>by
  rw [a9] at y
  rcases aj.mp y with y|y
  ·exact absurd (az z) (by rw [y];exact bq _)
  ·exact n y
 have QF:∀b,H3 b≠none->b∉qE (envOfC ke scope s.heap.objs.size f cd::outer):=fun b hb z=>hb (Y.stkFree b z)
 have cP:∀b,(∃o',s.heap.get? b=some o')->b∉fp:=fun b ⟨o',z⟩ y=>by
  obtain ⟨_,_,_,h4,_⟩:=f2 b y
  rcases h4 with h4|h4
  ·cases h4
  ·exact absurd (az z) (Nat.not_lt_of_le h4)
 have an:∀b,(∃o',s.heap.get? b=some o')->∃o',h.heap.get? b=some o':=fun b z=>by
  obtain ⟨o',z'⟩:=z;obtain ⟨o2,h2⟩:=u2.there b o' z' (by simp);exact uc.there b o2 h2 (cP b ⟨o',z'⟩)
 have b2:∀b,(∃o',s.heap.get? b=some o')->b≠C:=fun b z y=>by
  obtain ⟨o',z'⟩:=z;obtain ⟨o2,h2⟩:=u2.there b o' z' (by simp);exact absurd (az h2) (Nat.not_lt_of_le (by rw [y];exact hC))
 obtain ⟨m,c2,_⟩:=J0.loc;have Z:J.heap.Ns C m:=c2;have V:∃o,B.get? C=some o:=by
  obtain ⟨m1,cN,_⟩:=Ic.loc;obtain ⟨o1,_,_,c5,_⟩:=(show h.heap.Ns C m1 from cN);obtain ⟨o2,_,_,cr,_⟩:=Z;exact ⟨o2,D C o2 cr I (.inr ⟨o1,c5⟩)⟩
 obtain ⟨oC,V⟩:=V;have b4:H3 C=none:=J1.free;have am:∀b o,(PySem.W.hideAll B [C]).get? b=some o->B.get? b=some o:=fun b o z=>PySem.W.of_hideAll _ z
 have cR:∀b o,b≠C->B.get? b=some o->(PySem.W.hideAll B [C]).get? b=some o:=fun b o n z=>PySem.W.hideAll_get _ z fun y=>n (av.mp y)
 have b0:∀b,B.get? b=none->(PySem.W.hideAll B [C]).get? b=none:=fun b z=>by
  cases r:(PySem.W.hideAll B [C]).get? b with
  |none=>rfl
  |some v=>rw [am b v r] at z;cases z
 show wpAny (model P w) (A.deeper (envOfC ke scope s.heap.objs.size f cd)) (noteFrame (.ref a) (envOfC ke scope s.heap.objs.size f cd)) _ _ J;refine wpAny_looks_onW J1.ok.frames rfl c0 fun h4 a5 up=>?_
 obtain ⟨k1,k2,k3,oe,vs,T,oT,ts,he,cU,hd,h1,nT,bl,hT,dT,h3⟩:=a5;refine ⟨m,up.ns Z,fun h5 sb b1 _=>?_⟩;have c1:a≠C:=fun z=>by rw [z,V] at k2;cases k2
 have b9:T≠C:=fun z=>by rw [z,V] at nT;cases nT
 have aU:h5.get? a=some oe:=(sb.2 a c1).trans he;have be:h5.get? T=some oT:=(sb.2 T b9).trans hT;unfold PySem.passOn;refine ai (cx aU hd h1 ?_);rw [if_neg (by simp)];unfold setFlight;refine ai (ai (cx aU hd h1 ?_));rw [if_pos (by simp)];have b3:3<ts.size:=(fi.mp h3).1;refine wpAny_setField be dT b3 (wpAny_throw ?_);generalize c6:(b1.frame.elim Value.none fun f=>rawInt f)=fv;have a4:∀b,b≠T->(h5.update T (Obj.mapFields (·.setIfInBounds 3 fv))).get? b=h5.get? b:=fun b O=>gj _ _ (Ne.symm O)
 have cn:=io (Obj.mapFields (·.setIfInBounds 3 fv)) be (Obj.isFreed_of_fields (ia dT _));have a8:(h5.update T (Obj.mapFields (·.setIfInBounds 3 fv))).TracedAtW (PySem.W.hideAll B [C]) a (.ref Cc) a0 fv:=⟨oe,vs,T,_,_,(a4 a (Ne.symm bl)).trans aU,cU,hd,h1,b0 T nT,bl,cn,ia dT _,by simp [b3]⟩;have F:(PySem.W.hideAll B [C]).StaysIn (h5.update T (Obj.mapFields (·.setIfInBounds 3 fv))):=fun b o z=>by
  have zb:=am b o z;have O:b≠C:=fun y=>by rw [y,PySem.W.hideAll_none [C] aT] at z;cases z
  have nt:b≠T:=fun y=>by rw [y,nT] at zb;cases zb
  rw [a4 b nt,sb.2 b O];exact k1 b o zb
 have ah:∀b o,b≠C->h4.get? b=some o->(∀vs,o.data≠.fields vs)->(h5.update T (Obj.mapFields (·.setIfInBounds 3 fv))).get? b=some o:=fun b o O z nf=>by
  have nt:b≠T:=fun y=>by rw [y,hT] at z;cases z;exact nf ts dT
  rw [a4 b nt,sb.2 b O];exact z
 have cj:(h5.update T (Obj.mapFields (·.setIfInBounds 3 fv))).FunFrames (PySem.W.hideAll B [C]) (envOfC ke scope s.heap.objs.size f cd::outer):=by
  have al:=DE am k3;clear a8 F
  revert al
  generalize envOfC ke scope s.heap.objs.size f cd::outer=l at I;intro al
  induction l with
  |nil=>trivial
  |cons bt a6 ih =>
   obtain ⟨g1,⟨L,o,g2,g3,g4,g5⟩,g6⟩:=al;have hm:L∈qE (bt::a6):=fo.mpr ⟨bt,aT,g2⟩;refine ⟨g1,⟨L,o,g2,g3,ah L o (fun y=>I (by rw [<- y];exact hm)) g4 g5,g5⟩,ih (fun z=>I ?_) g6⟩;obtain ⟨en,c3,hf⟩:=fo.mp z;exact fo.mpr ⟨en,aF _ c3,hf⟩
 show wpAny (model P w) (A.deeper (envOfC ke scope s.heap.objs.size f cd)) (leaving (envOfC ke scope s.heap.objs.size f cd) (.ref a)) (fun _ G=>kO P w outer H s E (.ref a) G) (fun e' G=>kO P w outer H s E e' G) _;refine TJ (B:=PySem.W.hideAll B [C]) Y.ok.frames cj rfl a8 F (b0 a k2) fun h7 S cz=>?_
 have g7:∀b o,J.heap.get? b=some o->b∉qE (envOfC ke scope s.heap.objs.size f cd::outer)->b≠C->(H3 b≠none\/∃o',h.heap.get? b=some o')->(PySem.W.hideAll B [C]).get? b=some o:=fun b o z n O y=>cR b o O (D b o z n y)
 refine ⟨a,Cc,H3,rfl,Y.os,Y.bare,ub.go (fun b o z n _ y=>S.1 b o (g7 b o z (bv b y n) (b2 b y) (.inr (an b y)))) (fun b o z n _=>?_),Y.hok.keepT fun b u hb z=>S.1 b u (g7 b u z (QF b hb) (fun y=>hb (by rw [y];exact b4)) (.inl hb)),?_,ha,?_,q⟩
 ·have hm:b∈qE (envOfC ke scope s.heap.objs.size f cd::outer):=by rw [a9];exact aF _ n
  obtain ⟨_,o',br,a3⟩:=cC.mem hm;rw [z] at br;cases br
  obtain ⟨sl,e4⟩:=up b o z a3;have e6:=ah b _ (fun y=>I (by rw [<- y];exact hm)) e4 a3;obtain ⟨ce,e7⟩:=cz b _ e6 a3;exact ⟨ce,e7⟩
 ·refine ⟨_,a0,S,fun b o z n y=>?_⟩;have hn:b∉qE (envOfC ke scope s.heap.objs.size f cd::outer):=by
   rcases y with y|y
   ·exact QF b y
   ·exact bv b y n
  have O:b≠C:=by
   rcases y with y|y
   ·exact fun v=>y (by rw [v];exact b4)
   ·exact b2 b y
  have c4:∃u,J.heap.get? b=some u:=by
   rcases y with y|⟨o',y⟩
   ·cases r:H3 b with
    |none=>exact absurd r y
    |some v=>exact Y.hok.there r
   ·exact ub.there b o' y (by simp)
  obtain ⟨u,hu⟩:=c4;have hB:=g7 b u hu hn O (by
   rcases y with y|y
   ·exact .inl y
   ·exact .inr (an b y))
  have:=S.1 b u hB;have z':h7.get? b=some o:=z;rw [z'] at this;cases this;exact hB
 ·cases r:s.heap.get? a with
  |none=>rfl
  |some v =>
   obtain ⟨u,hu⟩:=an a ⟨v,r⟩;rw [cB] at hu;cases hu
end
theorem TU {prog:Program} {w:World} {A:Around} {al D kt:Expr} {Z:List Expr} {scope:Scope} {kn:Pos} {it am:Value} {E:Env} {R:Result->Shared->Prop} {s:Shared} (I:Nat->Shared->Prop)
  (an:∀n s,I n s->wpAny (model prog w) A (pyNext it) (fun r G=>match r with
   |none=>R (.ok .next) G
   |some v=>wpAny (model prog w) A (letOwnedTupleGo D it v) (fun _ F=>wpAny (model prog w) A (assign D E v) (fun _ M =>
     wpAny (model prog w) A (forIn Z true fun c r=>if r=true then do let ok <- isTrue c E (eval c E);pure (ForInStep.yield ok) else pure (ForInStep.yield r)) (fun ok L =>
      if ok=true then wpAny (model prog w) A (eval al E) (fun x V =>
       wpAny (model prog w) A (call (.builtin "list.append") [am,x]) (fun _ O=>∃m,m<n/\I m O) (fun _ _=>False) V) (notedBy (model prog w) A E fun e s'=>R (.error e) s') L
      else ∃m,m<n/\I m L) (fun _ _=>False) M) (fun _ _=>False) F) (fun _ _=>False) G) (fun _ _=>False) s)
  (n:Nat) (h:I n s):codeAny (model prog w) A (.compLoop (.ListComp al [⟨D,kt,Z,0⟩] scope kn) 0 it am E) R s:=by
 refine codeAny_loop rfl I (fun n s hI=>?_) n h;show wpAny _ A ((compTurn (.ListComp al [⟨D,kt,Z,0⟩] scope kn) 0 it am E).onRaise (fun x=>do noteFrame x E;theTreesLotGoes x)) _ _ s;refine wpAny_noted ?_;rw [compTurn_list];refine ai (wpAny_standAt (ai (du (an n s hI) (fun r G Y=>?_) fun _ _ J=>J.elim)));cases r with
 |none=>exact aX Y
 |some v =>
  refine ai (du Y (fun _ F ah=>?_) fun _ _ J=>J.elim);refine ai (du ah (fun _ M a0=>ai (du a0 (fun ok L S=>?_) fun _ _ J=>J.elim)) fun _ _ J=>J.elim);cases ok with
  |false=>exact aX ⟨rfl,S⟩
  |true =>
   exact ai (ai (du S (fun x V aD=>ai (du aD (fun _ O aU=>aX (aX ⟨rfl,aU⟩)) fun _ _ J=>J.elim)) fun _ _ J=>J))
section
variable {X:Cx} {N:List Str} {scope:Scope} {kc:List (Addr×Obj)} {σ:St} {H:Hp} {s:Shared} {fp:List Addr}
theorem xT {tg kt a8:Expr} {a7:List Expr} {kn:Pos} {a0:St->St} {g:TG} {tc:TT} {te:TE} {J:It} {it:Addr} {tn:Nat->Heap->Prop} {Q:Addr->Hp->Prop} {RR:Value->Addr->Result->Shared->Prop} {RX:Value->Hp->Prop}
  (al:X.calm=true) (S:CompScope X scope) (br:bJ X N scope a0) (I:Inv X kc σ H s) (T:Turn X.prog X.w X.K tg J fp it tn) (st:tn 0 s.heap) (hf:∀b∈fp,QE X kc H b)
  (hg:∀C,PG (vG X N scope C s H kc fp) tg g) (hc:∀C,eK (vG X N scope C s H kc fp) a7 tc) (he:∀C,PE ((vG X N scope C s H kc fp).wish (gC X N scope C s H kc fp RX)) a8 te)
  (hq:∀D,H D=none->QB D J g tc te (a0 σ) H (Q D))
  (ce:∀D C cz M s',s.heap.objs.size<=C->Inv (vG X N scope C s H kc fp) [] cz M s'->Q D M->RR (.ref D) C (.ok .next) s')
  (co:∀D C e s',s.heap.objs.size<=C->gC X N scope C s H kc fp RX e s'->wpAny (model X.prog X.w) X.A (noteFrame e (compEnvC scope (zO X.env.cells scope.names []) C X.env)) (fun _ a9=>RR (.ref D) C (.error e) a9) (fun e' a9=>RR (.ref D) C (.error e') a9) s') :
  wpAny (model X.prog X.w) X.A (newList []) (fun bt G=>wpAny (model X.prog X.w) X.A (newFunctionEnv scope X.env.globals (zO X.env.cells scope.names []) [] X.env.qual none .none (some X.env)) (fun a4 b3 =>
   codeAny (model X.prog X.w) X.A (.compStart (.ListComp a8 [⟨tg,kt,a7,0⟩] scope kn) 0 (.ref it) bt {a4 with scope:=relabel scope X.env}) (RR bt a4.locals) b3) X.xe G) X.xe s:=by
 refine ik (wpAny_newFunctionEnv S.nocell (by intro y hy;simp at hy) (fun E F h=>?_) S.kind)
 dsimp only at F h ⊢
 generalize a6:s.heap.push {cls:=.type "list",dict:=none,data:=.seq ([]:List Value).toArray}=O at F h ⊢;have hC:O.objs.size=s.heap.objs.size+1:=by rw [<- a6,dh]
 have b9:s.heap.objs.size≠O.objs.size:=by rw [hC];exact aS (fj _)
 have Z:s.heap.objs.size<=O.objs.size:=by rw [hC];exact Nat.le_succ _
 have am:∀b,b<s.heap.objs.size->b≠O.objs.size:=fun b L=>by rw [hC];exact aS (ii L)
 have b1:∀b o,s.heap.get? b=some o->E.get? b=some o:=fun b o e=>h.extBut b o (am b (az e)) (ak _ (a6▸ak _ e))
 have bl:E.get? s.heap.objs.size=some {cls:=.type "list",data:=.seq ([]:List Value).toArray}:=h.extBut _ _ b9 (ak _ (a6▸aC _ rfl));have an:=T.obj 0 s.heap st;have I1:∀t',Inv (vG X N scope O.objs.size s H kc fp) [] (a0 σ) (upd H s.heap.objs.size (.lst [])) {s with heap:=E,toks:=t'}:=fun t' =>
  WZ S I br hf (fun b L=>let ⟨o,e,_⟩:=an b L;⟨o,e⟩) (ao _) Z b9 b1 F bl
 have b8:tn 0 E:=T.keep 0 s.heap E st fun b _ o e=>b1 b o e
 have V:∀{M:Hp},(∀b∈fp,M b=none)->∀b∈fp,QE (vG X N scope O.objs.size s H kc fp) [] M b:=fun hn b L=>by
  obtain ⟨_,h2,h3,h4,h5,h6⟩:=hf b L;obtain ⟨o,ho,_⟩:=an b L;refine ⟨hn b L,am b (az ho),?_,.inl L,fun x c e=>h5 x c (nB (iA S I) (fun y d q=>by simp at q) e),fun p hp=>?_⟩
  ·intro z
   rcases aj.mp (I.stkSub b z) with e|e
   ·exact h2 e
   ·exact h3 e
  ·rcases aI.mp hp with z|z
   ·exact h6 p z
   ·cases z
 have cB:∀b∈fp,upd H s.heap.objs.size (.lst []) b=none:=fun b L=>by
  obtain ⟨o,ho,_⟩:=an b L;rw [j7 (aS (az ho))];exact (hf b L).1
 obtain ⟨W,⟨m0,w0⟩,bv⟩:=hq s.heap.objs.size (I.hok.fresh (ao _));have a5:∀G:Shared,G={s with heap:=E,toks:=s.toks+([]:List (Str×Value)).length}->
   codeAny (model X.prog X.w) X.A (.compLoop (.ListComp a8 [⟨tg,kt,a7,0⟩] scope kn) 0 (.ref it) (.ref s.heap.objs.size) (compEnvC scope (zO X.env.cells scope.names []) O.objs.size X.env))
    (RR (.ref s.heap.objs.size) O.objs.size) G:=by
  rintro G rfl;refine TU (fun n s'=>∃i aU M,Inv (vG X N scope O.objs.size s H kc fp) [] aU M s'/\tn i s'.heap/\(∀b∈fp,M b=none)/\W i n aU M) ?_ m0 ⟨0,a0 σ,_,I1 _,b8,cB,w0⟩;rintro n s3 ⟨i,ah,H3,I3,b0,b4,w3⟩
  rcases bv i n ah H3 w3 with ⟨b5,qn⟩|⟨go,Nn,hN,b2⟩
  ·refine jZ (T.done (vG X N scope O.objs.size s H kc fp) rfl rfl rfl al i [] s3 ah H3 (fun _ _=>False) I3 (V b4) b0 b5) fun r s4 ⟨hr,I4⟩=>?_
   subst hr;exact ce _ _ ah H3 s4 Z I4 qn
  ·refine jZ (T.item (vG X N scope O.objs.size s H kc fp) rfl rfl rfl al i [] s3 ah H3 (fun _ _=>False) I3 (V b4) b0 go) fun r s4 ⟨u,hr,h4⟩=>?_
   subst hr;refine jZ h4 fun _ s5 ⟨x,H5,I5,r5,y5,be,cn⟩=>?_
   have cj:=I5.pinned (V cn) (T.obj _ _ be);have Y:∀{aD:St} {H7:Hp} {s7:Shared},Inv (vG X N scope O.objs.size s H kc fp) ([]++iS fp s5.heap) aD H7 s7->Nn aD H7->
     ∃m,m<n/\∃i aU M,Inv (vG X N scope O.objs.size s H kc fp) [] aU M s7/\tn i s7.heap/\(∀b∈fp,M b=none)/\W i m aU M:=fun {aD H7 s7} I7 n7=>by
    obtain ⟨m',hm,w7⟩:=hN aD H7 n7;refine ⟨m',hm,i+1,aD,H7,I7.unpinned,T.keep _ _ _ be fun b L o e=>(I7.pin (b,o) (bi _ (bi _ (nH L e)))).1,fun b L=>?_,w7⟩;obtain ⟨o,e,d⟩:=T.obj _ _ be b L;exact (I7.pin (b,o) (bi _ (bi _ (nH L e)))).2.1
   refine jZ (hg _ _ s5 ah H5 x u _ cj r5 (b2 x H5 y5)) fun _ s6 ⟨a3,H6,I6,q6⟩=>?_
   refine jZ (hc _ _ s6 a3 H6 _ I6 q6) fun ok s7 ⟨H7,I7,q7⟩=>?_
   cases ok with
   |false=>exact Y I7 q7
   |true =>
    refine du (he _ _ s7 a3 H7 _ (I7.wish _) q7) (fun v s8 ⟨y,H8,I8,r8,xs,cd,cr,n8⟩=>?_) fun e se hx=>co _ _ e se Z hx
    have I8:=I8.unwish;refine jZ (J7 _ s8 a3 H8 (.ref s.heap.objs.size) [y] (.ref s.heap.objs.size) [v] (fun _ H9=>Nn a3 H9) I8 rfl (.cons r8 .nil) ⟨_,_,_,rfl,rfl,cd,cr,n8⟩) fun _ s9 ⟨_,H9,I9,_,n9⟩=>?_
    exact Y I9 n9
 exact codeAny_compStart_list (a5 _ rfl) (du (T.self X.A 0 _ (fun v s'=>v=.ref it/\s'=_) (fun _ _=>False) b8 ⟨rfl,rfl⟩) (fun v s' ⟨e1,e2⟩=>by subst e1;subst e2;exact a5 _ rfl) fun _ _ z=>z.elim)
end
section
variable {P:Program} {w:World} {K:PySem.W.Frag} {mg:Str->Option Value} {base:Heap} {Nf:List Str} {ke:Str} {scf:Scope} {f:Addr} {cd:Value} {A:Around} {outer:List Env} {s₀:Shared} {H₀:Hp} {E:XK}
theorem V2 {tg kt O:Expr} {G:List Expr} {scope:Scope} {kn:Pos} {wi:TI} {g:TG} {tc:TT} {te:TE} (N:List Str) (L:St->St) (S:CompScope (qQ (kO P w) P w K mg base Nf ke scf f cd A outer s₀ H₀ E) scope) (V:bJ (qQ (kO P w) P w K mg base Nf ke scf f cd A outer s₀ H₀ E) N scope L) (hi:PI (qQ (kO P w) P w K mg base Nf ke scf f cd A outer s₀ H₀ E) tg kt wi)
  (hg:∀C s H F fp,PG (vG (qQ (kO P w) P w K mg base Nf ke scf f cd A outer s₀ H₀ E) N scope C s H F fp) tg g) (hc:∀C s H F fp,eK (vG (qQ (kO P w) P w K mg base Nf ke scf f cd A outer s₀ H₀ E) N scope C s H F fp) G tc)
  (he:∀C s H F fp,PE ((vG (qQ (kO P w) P w K mg base Nf ke scf f cd A outer s₀ H₀ E) N scope C s H F fp).wish (gC (qQ (kO P w) P w K mg base Nf ke scf f cd A outer s₀ H₀ E) N scope C s H F fp fun c M=>E c none M)) O te)
  (hs:∀x,foldedSetIterable kt (qQ (kO P w) P w K mg base Nf ke scf f cd A outer s₀ H₀ E).env x=pure x:=by intro _;rfl):PE (qQ (kO P w) P w K mg base Nf ke scf f cd A outer s₀ H₀ E) (.ListComp O [⟨tg,kt,G,0⟩] scope kn) (pF wi L g tc te):=by
 intro F s σ H Q I h;rw [eval_ListComp];refine hJ (use:=none) rfl hs (wR (iA S I)) S.kind S.names (jZ (hi F s σ H _ I h) fun v s1 h1=>jZ h1 fun aD s2 h2=>?_);obtain ⟨it,fp,tn,J,H2,e,Y,T,al,f2,q2⟩:=h2;subst e;refine xT (RR:=fun am C=>compPost (model P w) (A.deeper (envOfC ke scf s₀.heap.objs.size f cd)) (qQ (kO P w) P w K mg base Nf ke scf f cd A outer s₀ H₀ E).xe none (EP (qQ (kO P w) P w K mg base Nf ke scf f cd A outer s₀ H₀ E) F σ Q) am C) (Q:=fun D M=>Q (.ref D) M) rfl S V Y T al f2 (fun C=>hg C _ _ _ _) (fun C=>hc C _ _ _ _) (fun C=>he C _ _ _ _) q2 ?_ ?_
 ·intro D C an M s' Z Jc q;obtain ⟨m,hn,_⟩:=Jc.loc;refine ⟨m,hn,fun h' ah=>?_⟩;exact ⟨.ref D,M,AG Y Z (nY (σ':=σ) Y f2 Jc) Jc.free ah,rfl,q⟩
 ·intro D C e s' Z hx;exact W0 Y f2 Z hx _
end
section
variable {X:Cx}
def qV (z:Str) (k:Nat):Str:=⟨(List.replicate k z.cps).foldl (·++·) #[]⟩
theorem GE (a:Array Nat):∀(k:Nat) (h:Array Nat),((List.replicate k a).foldl (·++·) h).toList=h.toList++(List.replicate k a.toList).flatten
 |0,h=>by simp
 |k+1,h=>by rw [bz,List.foldl_cons,GE a k,bz,gb,Array.toList_append,ig]
theorem AA (z:Str) (k:Nat):(qV z k).cps.toList=(List.replicate k z.cps.toList).flatten:=by
 unfold qV;rw [GE];rfl
theorem oE (z:Str) (k:Nat):(qV z k).length=k*z.length:=by
 show (qV z k).cps.size=k*z.cps.size;rw [<- gx,AA,HU,gx]
def jBd:R2:=fun x y H Q=>∃(z:Str) (k:Int),x=.str z/\y=.int k/\0<=k/\k<=100/\z.length<=100/\Q (.str (qV z k.toNat)) H
theorem AR:qW X (binaryOp .Mult) jBd:=by
 intro Y s V H x y v u Q I G M h;obtain ⟨z,k,rfl,rfl,Z,O,J,q⟩:=h;obtain ⟨t,rfl⟩:=G;obtain ⟨S,rfl⟩:=M;have F:z.length*k.toNat<=10000:=aM (Nat.mul_le_mul J (show k.toNat<=100 by lia)) (ao _);refine P.mul_str ?_ (fun E _=>?_) (fun _ _=>?_) ?_
 ·rw [ax (by lia),ax (by lia)];rfl
 ·have:(100:Int)<=(2 ^ 63 - 1) / k:=by
   rw [Int.le_ediv_iff_mul_le (by lia)]
   lia
  lia
 ·exact ax (Nat.not_lt.mpr (aM F (by decide)))
 ·by_cases E:k<1
  ·rw [if_pos E];have e:k.toNat=0:=by lia
   rw [e] at q;exact ⟨by decide,.str (qV z 0),H,I.tok _,⟨_,rfl⟩,q⟩
  ·rw [if_neg E]
   by_cases D:(k == 1||z.length == 0)=true
   ·rw [if_pos D];have e:qV z k.toNat=z:=by
     have:(qV z k.toNat).cps.toList=z.cps.toList:=by
      rw [AA]
      rcases Bool.or_eq_true_iff.mp D with h|h
      ·rw [show k.toNat=1 by have:=eq_of_beq h;lia];simp
      ·have h:z.cps.size=0:=eq_of_beq h;rw [Array.eq_empty_of_size_eq_zero h];simp
     cases L:qV z k.toNat with
     |mk a=>rw [L] at this;obtain ⟨b⟩:=z;exact bf Str.mk (Array.toList_inj.mp this)
    rw [e] at q;exact ⟨.str z,H,I,⟨_,rfl⟩,q⟩
   ·rw [if_neg D];exact ⟨by show (qV z k.toNat).length<=sizeLine;rw [oE,Nat.mul_comm];exact aM F (by decide),.str (qV z k.toNat),H,I.tok _,⟨_,rfl⟩,q⟩
end
section
variable {P:Program} {w:World} {K:PySem.W.Frag} {mg:Str->Option Value} {base:Heap}
theorem Fun.ok2 {x I:Str} {st:Stmt} {f:Addr} {J:FuncData} {N ps:List Str} {k:Nat} {sp:Sp} (F:Fun K x I st f J) (S:FnScope N ps (kK st))
  (h:∀vs H Q E,sp vs H Q E->vs.length=ps.length/\∀G A D s,Room k (A.deeper (envOfC I (kK st) s.heap.objs.size f G))->∃t,PSs (qQ jT P w K mg base N I (kK st) f G A D s H E).nox (vO st) t/\t {nx:=fun _ L=>Q .non L,rt:=Q} (start N vs) H):FnOk P w K mg base jT (k+1) f J ps sp :=
 F.ok S (fun vs H Q E z=>(h vs H Q E z).1) fun G A D s H vs Q E r z=>(h vs H Q E z).2 G A D s r
theorem Fun.okX2 {x I:Str} {st:Stmt} {f:Addr} {J:FuncData} {N ps:List Str} {k:Nat} {sp:Sp} (F:Fun K x I st f J) (S:FnScope N ps (kK st))
  (h:∀vs H Q E,sp vs H Q E->vs.length=ps.length/\∀G A D s,Room k (A.deeper (envOfC I (kK st) s.heap.objs.size f G))->∃t,PSs (qQ (kO P w) P w K mg base N I (kK st) f G A D s H E) (vO st) t/\t {nx:=fun _ L=>Q .non L,rt:=Q} (start N vs) H):FnOk P w K mg base (kO P w) (k+1) f J ps sp :=
 F.okX S (fun vs H Q E z=>(h vs H Q E z).1) fun G A D s H vs Q E r z=>(h vs H Q E z).2 G A D s r
theorem FunD.ok2 {x I:Str} {st:Stmt} {f:Addr} {J:FuncData} {ds:List Value} {N ps:List Str} {k:Nat} {sp:Sp} (F:FunD K x I st f J ds) (S:FnScope N ps (kK st))
  (h:∀vs H Q E,sp vs H Q E->vs.length=ps.length/\∀G A D s,Room k (A.deeper (envOfC I (kK st) s.heap.objs.size f G))->∃t,PSs (qQ jT P w K mg base N I (kK st) f G A D s H E).nox (vO st) t/\t {nx:=fun _ L=>Q .non L,rt:=Q} (start N vs) H):FnOk P w K mg base jT (k+1) f J ps sp :=
 F.ok S (fun vs H Q E z=>(h vs H Q E z).1) fun G A D s H vs Q E r z=>(h vs H Q E z).2 G A D s r
theorem iZ {x:Str} {f:Addr} {h:FuncData} {ps:List Str} {k:Nat} {sp:Sp} (G:FnOk P w K mg base jT k f h ps sp) (m:mg x=some (.ref f)) (D:PySem.W.keepIn K (.ref f)=true) (b:Binds K h ps []):Def P w K mg base k x ps [] sp:=⟨_,_,[],G,m,D,.nil,b⟩
theorem o9 {x:Str} {f:Addr} {h:FuncData} {ps:List Str} {k:Nat} {sp:Sp} (G:FnOk P w K mg base (kO P w) k f h ps sp) (m:mg x=some (.ref f)) (D:PySem.W.keepIn K (.ref f)=true) (b:Binds K h ps []):DefX P w K mg base k x ps [] sp:=⟨_,_,[],G,m,D,.nil,b⟩
end
section
variable {X:Cx} {a b:Expr} {ta tb:TE} {r:R2} {kn:Pos}
theorem jH (E:IxR X r) (F:PE X a ta) (h:PE X b tb) (D:IG b:=by exact fun _ _=>rfl):PE X (.Subscript a b kn) (eG r ta tb):=LQ E F h D
theorem zC {h:CmpOp} (F:qW X (compareOp h) r) (E:PE X a ta) (G:PE X b tb) (D:behindInMarks h b=false:=by first|exact CO _|with_unfolding_all rfl):PE X (.Compare a [h] [b] kn) (eG r ta tb):=XO F E G D
theorem kA {h:CmpOp} (F:qW X (compareOp h) r) (E:PE X a ta) (G:PE X b tb) (D:behindInMarks h b=false:=by first|exact CO _|with_unfolding_all rfl):PT X (.Compare a [h] [b] kn) (KN (eG r ta tb)):=LP F E G D
end
theorem so {K:PySem.W.Frag} {H:Hp} {a:Addr} {xs:List V} (h:H a=some (.lst xs)):SqL K H a xs:=SqL.of h
section
variable {X:Cx} {N:List Str} {scope:Scope} {kc:List (Addr×Obj)} {σ:St} {H:Hp} {s:Shared} {fp:List Addr}
theorem noX {C:Addr} {e:Value} {D:Shared} {p:Prop} (h:gC X N scope C s H kc fp (fun _ _=>False) e D):p:=by
 obtain ⟨_,_,_,_,_,h⟩:=h;obtain ⟨_,_,_,_,_,_,_,_,_,_,_,z⟩:=h;exact z.elim
theorem QY {tg kt L:Expr} {F:List Expr} {kn:Pos} {wi:TI} {g:TG} {tc:TT} {te:TE} (N:List Str) (G:St->St) (E:X.calm=true) (S:CompScope X scope) (M:bJ X N scope G) (hi:PI X tg kt wi)
  (hg:∀C s H kc fp,PG (vG X N scope C s H kc fp) tg g) (hc:∀C s H kc fp,eK (vG X N scope C s H kc fp) F tc) (he:∀C s H kc fp,PE (vG X N scope C s H kc fp) L te)
  (hs:∀x,foldedSetIterable kt X.env x=pure x:=by intro _;rfl):PE X (.ListComp L [⟨tg,kt,F,0⟩] scope kn) (pF wi G g tc te):=by
 intro kc s σ H Q I h;rw [eval_ListComp];refine hJ (use:=none) rfl hs (wR (iA S I)) S.kind S.names (jZ (hi kc s σ H _ I h) fun v s1 h1=>jZ h1 fun am s2 h2=>?_);obtain ⟨it,fp,tn,J,H2,e,I2,T,Z,f2,q2⟩:=h2;subst e;refine xT (RX:=fun _ _=>False) (RR:=fun ah C=>compPost (model X.prog X.w) X.A X.xe none (EP X kc σ Q) ah C) (Q:=fun D Y=>Q (.ref D) Y) E S M I2 T Z f2 (fun C=>hg C _ _ _ _) (fun C=>hc C _ _ _ _) (fun C=>PE.nox (he C _ _ _ _)) q2 ?_ (fun _ _ _ _ _ hx=>noX hx);intro D C al Y s' hC O q;obtain ⟨m,hn,_⟩:=O.loc;refine ⟨m,hn,fun h' V=>?_⟩;exact ⟨.ref D,Y,AG I2 hC (nY (σ':=σ) I2 f2 O) O.free V,rfl,q⟩
theorem bO {tg V F:Expr} {E:List Expr} {kn G O:Pos} {i:Nat} {y:Str} {wi:TI} {g:TG} {tc:TT} {te:TE} (N:List Str) (Y:St->St) (hN:X.N.Nodup) (hy:X.N[i]?=some y) (ah:gL X.env.scope y) (L:X.calm=true) (S:CompScope X scope) (Z:bJ X N scope Y) (hi:PI X tg V wi)
  (hg:∀C s H kc fp,PG (vG X N scope C s H kc fp) tg g) (hc:∀C s H kc fp,eK (vG X N scope C s H kc fp) E tc) (he:∀C s H kc fp,PE (vG X N scope C s H kc fp) F te)
  (a0:swapsWith (.ListComp F [⟨tg,V,E,0⟩] scope kn) (some (.Name y O)) G.line X.env=pure true:=by rfl)
  (hs:∀x,foldedSetIterable V X.env x=pure x:=by intro _;rfl) (am:X.fn y=true\/X.env.scope.names.lookup y=some .local:=by first|exact .inl rfl|exact .inr rfl|assumption) :
  PS X (.Assign [.Name y O] (.ListComp F [⟨tg,V,E,0⟩] scope kn) G) (VQ i wi Y g tc te):=by
 intro kc s σ H D I h;rw [exec_Assign_Name_used _ _ _ _ a0];refine ai (wpAny_standAt (ai ?_));show wpAny _ X.A (do let _ <- comprehension (.ListComp F [⟨tg,V,E,0⟩] scope kn) scope X.env _ (newList []) false (eval V X.env) (some (assign (.Name y O) X.env))) _ _ s;refine ai (du (hJ (use:=some (assign (.Name y O) X.env)) (Q:=fun _ M=>SP X kc D .next M) rfl hs (wR (iA S I)) S.kind S.names
  (jZ (hi kc s σ H _ I h) fun v s1 h1=>jZ h1 fun a6 s2 h2=>?_)) (fun _ M hq=>aX (aX hq)) fun _ _ e=>e)
 obtain ⟨it,fp,tn,J,H2,e,I2,T,aD,f2,q2⟩:=h2;subst e;refine xT (RX:=fun _ _=>False) (RR:=fun aU C=>compPost (model X.prog X.w) X.A X.xe (some (assign (.Name y O) X.env)) (fun _ M=>SP X kc D .next M) aU C) (Q:=fun d H'=>D.nx (σ.set i (some (.ref d))) H') L S Z I2 T aD f2 (fun C=>hg C _ _ _ _) (fun C=>hc C _ _ _ _) (fun C=>PE.nox (he C _ _ _ _)) q2 ?_ (fun _ _ _ _ _ hx=>noX hx);intro d C a4 H' M hC Jc q;obtain ⟨m,hn,_⟩:=Jc.loc;have J1:Inv X kc σ H' M:=nY (σ':=σ) I2 f2 Jc;show wpAny _ X.A (assign (.Name y O) X.env (.ref d)) _ _ _;refine wpAny_assign_Name (D9 (v:=.ref d) J1 hN hy ah rfl (fun a5 J2 a3=>?_) am);obtain ⟨a,sb,ha⟩:=a3;have al:C≠a:=by
  rcases ha with e|e
  ·rw [e];exact ge (aL I2.lt hC)
  ·obtain ⟨v,q'⟩:=I2.cell y a e;exact ge (aL q'.lt hC)
 refine ⟨m,hn.sameBut sb al,fun h' an=>?_⟩;exact ⟨_,H',AG I2 hC J2 Jc.free an,q⟩
end
theorem jU {N P:List Str} {h:Scope} (a:h.kind=.function:=by rfl) (b:h.isCoroutine=false:=by rfl) (c:h.isGenerator=false:=by rfl) (d:N.Nodup:=by trivial) (e:N.take P.length=P:=by rfl)
  (f:∀x∈P,h.names.lookup x=some .local\/h.names.lookup x=some .cell:=by trivial) (g:∀y∈h.names,y.2≠.free:=by trivial):FnScope N P h:=⟨a,b,c,d,e,f,g⟩
theorem v9 {X:Cx} {scope:Scope} (h:Scope) (a:X.env.scope=h:=by rfl) (b:scope.kind=.function:=by rfl) (c:∀y∈scope.names,y.2≠.cell:=by trivial) (d:∀y∈scope.names,y.2=.local->scope.names.lookup y.1=some .local:=by trivial)
  (e:∀y∈scope.names,y.2=.free->h.names.lookup y.1=some .cell\/h.names.lookup y.1=some .free:=by trivial):CompScope X scope:=LU h a b c d e
theorem cps {X:Cx} {N:List Str} {scope:Scope} (n:Nat) (h:List Nat) (a:N.length=n+h.length:=by rfl) (b:h.map (fun j=>X.N[j]?)=(N.drop n).map some:=by rfl) (c:∀x∈N.drop n,scope.names.lookup x=some .free:=by trivial):bJ X N scope (vZ n h):=LV n h a b c
inductive GK where
 |i (n:Int)
 |s (t:Str)
 |nil
 |cons (a b:GK)
 deriving DecidableEq
section
variable {prog:Program} {w:World} {E:Value->Shared->Prop}
end
section
variable {s:Shared}
end
section
variable {prog:Program} {w:World} {E:Value->Shared->Prop} {s:Shared}
abbrev CM:=GK×Value×Value
end
section
variable {prog:Program} {w:World} {A:Around} {E:Value->Shared->Prop} {s:Shared}
end
section
variable {prog:Program} {w:World} {A:Around} {E:Value->Shared->Prop} {s:Shared} {d:Addr} {xs:List CM} {k:GK} {key v:Value}
end
section
variable {P:Program} {w:World} {H:Hp} {h:Heap}
end
abbrev LO:=GK×V×V
section
variable {X:Cx} {kc:List (Addr×Obj)} {σ:St} {H:Hp} {s:Shared} {d:Addr} {k:GK} {y v:V} {u r:Value} {A:Around} {E:Value->Shared->Prop} {kj:List LO}
end
section
variable {X:Cx} {o i e kx:Expr} {kn pos':Pos} {td ty tv:TE}
end
section
variable {X:Cx} {kc:List (Addr×Obj)} {σ:List (Option V)} {H:Hp} {s:Shared}
end
def qD (H:Hp) (cs:List Addr):Hp:=fun b=>if b∈cs then none else H b
theorem bT {H:Hp} {cs:List Addr} {b:Addr} (h:b∈cs):qD H cs b=none:=if_pos h
theorem yJ {H:Hp} {cs:List Addr} {b:Addr} (h:b∉cs):qD H cs b=H b:=if_neg h
section
variable {P:Program} {w:World} {H H' HC:Hp} {h h':Heap} {cs fs:List Addr}
end
section
variable {CX:zM} {P:Program} {w:World} {K:PySem.W.Frag} {mg:Str->Option Value} {base:Heap} {N ps fr:List Str} {ke:Str} {params:Arguments} {ku:List Stmt} {scope:Scope} {f:Addr} {km:Value} {fd:FuncData} {cl:List (Str×Addr)} {A:Around} {outer:List Env} {s:Shared} {H:Hp} {E:XK} {Q:VK} {us:List Value} {vs fvs:List V} {k:Nat} {args:Args}
end
section
variable {X:Cx} {CX:zM} {k:Nat} {sp:Addr->Sp} {E:XK} {x:Str} {p kn:Pos} {e:Expr} {es:List Expr} {t:TA} {i:Nat}
end
section
variable {X:Cx} {k k':Nat} {f:Addr} {fd:FuncData} {ps:List Str} {sp:Sp} {dvs:List V} {ds:List Value} {x:Str} {p kn:Pos} {e:Expr} {es:List Expr} {t:TA} {cs:List (Nat×Addr)}
end
section
variable {X:Cx} {kc:List (Addr×Obj)} {σ:List (Option V)} {H:Hp} {s:Shared}
end
section
variable {P:Program} {w:World} {K:PySem.W.Frag} {mg:Str->Option Value} {base:Heap}
end
section
variable {prog:Program} {w:World} {A:Around} {E:Value->Shared->Prop} {s:Shared} {d:Addr} {xs:List CM} {k:GK} {key v:Value}
end
section
variable {X:Cx} {kc:List (Addr×Obj)} {σ:St} {H:Hp} {s:Shared} {d:Addr} {k:GK} {y v:V} {u r:Value} {A:Around} {E:Value->Shared->Prop} {kj:List LO}
end
section
variable {X:Cx} {o i e kx:Expr} {kn pos':Pos} {td ty tv:TE}
end
section
variable {X:Cx} {o i:Expr} {kn:Pos} {td ty:TE}
end
section
variable {X:Cx} {kc:List (Addr×Obj)} {σ:St} {H:Hp} {s:Shared}
end
section
variable {prog:Program} {w:World} {A:Around} {s:Shared} {E:Value->Shared->Prop}
end
section
variable {X:Cx}
end
section
variable {prog:Program} {w:World} {A:Around} {E:Value->Shared->Prop} {s:Shared} {d it:Addr} {xs:List CM} {o:Obj} {es:Array DictEntry} {i ep:Nat}
end
section
variable {X:Cx} {tg:Expr}
end
theorem HY {A:Around} {k:Nat} (h:Room k A):A.units+15<cLine:=by have:=h.units;lia
section
variable {X:Cx} {kc:List (Addr×Obj)} {σ:St} {H:Hp} {s:Shared}
end
section
variable {M:Model} {A:Around} {E:Value->Shared->Prop} {s:Shared}
end
section
variable {P:Program} {w:World} {H H':Hp} {h:Heap} {cs:List Addr}
end
section
variable {CX:zM} {P:Program} {w:World} {K:PySem.W.Frag} {mg:Str->Option Value} {base:Heap} {N fr:List Str} {x:Str} {b:Bool} {ke:Str} {params:Arguments} {ku:Expr} {scope:Scope} {f:Addr} {km:Value} {cl:List (Str×Addr)} {A:Around} {outer:List Env} {s:Shared} {H:Hp} {E:XK} {Q:VK} {u:Value} {v:V} {fvs:List V} {k:Nat} {args:Args}
end
section
variable {X:Cx} {kc:List (Addr×Obj)} {σ:List (Option V)} {H:Hp} {s:Shared}
end
variable {P:List Value->Prop}
theorem gH (h:P []):∀us:List Value,us.length=0->P us
 |[],_=>h
theorem rH (h:∀E,P [E]) (us:List Value) (D:us.length=1):P us:=by
 cases us with
 |nil=>cases D
 |cons a us=>exact gH (P:=fun l=>P (a::l)) (h a) us (hU D)
theorem ZC (h:∀E a1,P [E,a1]) (us:List Value) (D:us.length=2):P us:=by
 cases us with
 |nil=>cases D
 |cons a us=>exact rH (P:=fun l=>P (a::l)) (fun a1=>h a a1) us (hU D)
theorem lK (h:∀E a1 a2,P [E,a1,a2]) (us:List Value) (D:us.length=3):P us:=by
 cases us with
 |nil=>cases D
 |cons a us=>exact ZC (P:=fun l=>P (a::l)) (fun a1 a2=>h a a1 a2) us (hU D)
theorem rG (h:∀F a1 a2 D,P [F,a1,a2,D]) (us:List Value) (E:us.length=4):P us:=by
 cases us with
 |nil=>cases E
 |cons a us=>exact lK (P:=fun l=>P (a::l)) (fun a1 a2 D=>h a a1 a2 D) us (hU E)
theorem CD (h:∀G a1 a2 E D,P [G,a1,a2,E,D]) (us:List Value) (F:us.length=5):P us:=by
 cases us with
 |nil=>cases F
 |cons a us=>exact rG (P:=fun l=>P (a::l)) (fun a1 a2 E D=>h a a1 a2 E D) us (hU F)
theorem CC (h:∀I a1 a2 E D F,P [I,a1,a2,E,D,F]) (us:List Value) (G:us.length=6):P us:=by
 cases us with
 |nil=>cases G
 |cons a us=>exact CD (P:=fun l=>P (a::l)) (fun a1 a2 E D F=>h a a1 a2 E D F) us (hU G)
theorem us7 (h:∀J a1 a2 F D G E,P [J,a1,a2,F,D,G,E]) (us:List Value) (I:us.length=7):P us:=by
 cases us with
 |nil=>cases I
 |cons a us=>exact CC (P:=fun l=>P (a::l)) (fun a1 a2 F D G E=>h a a1 a2 F D G E) us (hU I)
end L2
namespace L2
open PySem PySem.Spec PyProof.Rows
section
variable {CX:zM} {P:Program} {w:World} {K:PySem.W.Frag} {mg:Str->Option Value} {base:Heap} {N fr:List Str} {x:Str} {b:Bool} {ke:Str} {params:Arguments} {ku:List Stmt} {scope:Scope} {f:Addr} {km:Value} {cl:List (Str×Addr)} {A:Around} {outer:List Env} {s:Shared} {H:Hp} {E:XK} {Q:VK} {u:Value} {v:V} {fvs:List V} {k:Nat} {args:Args} {fd:FuncData}
end
section
variable {X:Cx}
end
section
variable {X:Cx} {a b c d e f g h:Expr} {ta tb tc td te tf tg th:TE}
theorem kH (I:PE X a ta) (J:PE X b tb) (G:PE X c tc) (F:starEach [a,b,c] X.env=(false,eval a X.env)::starEach [b,c] X.env:=by rfl) (E:starEach [b,c] X.env=(false,eval b X.env)::starEach [c] X.env:=by rfl) (D:starEach [c] X.env=(false,eval c X.env)::starEach [] X.env:=by rfl):PA X [a,b,c] (y0 ta (y0 tb (y0 tc cA))):=jC I (jC J (jC G jE D) E) F
theorem zD (I:PE X a ta) (M:PE X b tb) (G:PE X c tc) (J:PE X d td) (E:starEach [a,b,c,d] X.env=(false,eval a X.env)::starEach [b,c,d] X.env:=by rfl) (F:starEach [b,c,d] X.env=(false,eval b X.env)::starEach [c,d] X.env:=by rfl) (D:starEach [c,d] X.env=(false,eval c X.env)::starEach [d] X.env:=by rfl) (L:starEach [d] X.env=(false,eval d X.env)::starEach [] X.env:=by rfl):PA X [a,b,c,d] (y0 ta (y0 tb (y0 tc (y0 td cA)))):=jC I (jC M (jC G (jC J jE L) D) F) E
theorem gI (L:PE X a ta) (S:PE X b tb) (I:PE X c tc) (M:PE X d td) (D:PE X e te) (G:starEach [a,b,c,d,e] X.env=(false,eval a X.env)::starEach [b,c,d,e] X.env:=by rfl) (J:starEach [b,c,d,e] X.env=(false,eval b X.env)::starEach [c,d,e] X.env:=by rfl) (F:starEach [c,d,e] X.env=(false,eval c X.env)::starEach [d,e] X.env:=by rfl) (O:starEach [d,e] X.env=(false,eval d X.env)::starEach [e] X.env:=by rfl) (E:starEach [e] X.env=(false,eval e X.env)::starEach [] X.env:=by rfl):PA X [a,b,c,d,e] (y0 ta (y0 tb (y0 tc (y0 td (y0 te cA))))):=jC L (jC S (jC I (jC M (jC D jE E) O) F) J) G
theorem rK (M:PE X a ta) (V:PE X b tb) (I:PE X c tc) (O:PE X d td) (D:PE X e te) (L:PE X f tf) (G:starEach [a,b,c,d,e,f] X.env=(false,eval a X.env)::starEach [b,c,d,e,f] X.env:=by rfl) (J:starEach [b,c,d,e,f] X.env=(false,eval b X.env)::starEach [c,d,e,f] X.env:=by rfl) (F:starEach [c,d,e,f] X.env=(false,eval c X.env)::starEach [d,e,f] X.env:=by rfl) (S:starEach [d,e,f] X.env=(false,eval d X.env)::starEach [e,f] X.env:=by rfl) (E:starEach [e,f] X.env=(false,eval e X.env)::starEach [f] X.env:=by rfl) (Y:starEach [f] X.env=(false,eval f X.env)::starEach [] X.env:=by rfl):PA X [a,b,c,d,e,f] (y0 ta (y0 tb (y0 tc (y0 td (y0 te (y0 tf cA)))))):=jC M (jC V (jC I (jC O (jC D (jC L jE Y) E) S) F) J) G
theorem jW (i:Nat) {x:Str} {E D:Pos} (I:X.N.Nodup) (he:PE X a ta) (hi:X.N[i]?=some x:=by rfl) (F:gL X.env.scope x:=by first|exact .inl rfl|exact .inr rfl) (G:swapsWith a (some (.Name x D)) E.line X.env=pure false:=by rfl) (J:X.fn x=true\/X.env.scope.names.lookup x=some .local:=by first|exact .inl rfl|exact .inr rfl|assumption):PS X (.Assign [.Name x D] a E) (BX ta (bD i)):=LS I hi F he G J
theorem qR (K:PySem.W.Frag) {p D:Pos} (I:X.mg "len"=none) (G:PE X a ta) (E:X.K=K:=by rfl) (F:Gl X "len":=by rfl) (he:starEach [a] X.env=(false,eval a X.env)::starEach [] X.env:=by rfl) (hpl:(backTo D (starEach [] X.env)).any (·.1)=false:=by rfl):PE X (.Call (.Name "len" p) [a] [] D) (CF (fun xs H Q=>∃p ys,xs=[.ref p]/\(SqL K H p ys\/SqT K H p ys)/\Q (.int ys.length) H) (y0 ta cA)):=yX (R7 K E) F I PySem.boot_len (jC G jE he) (he:=he) (hpl:=hpl)
theorem jN {D:Pos} (h:PE X a ta):PSs X [.Return (some a) D] (K3 ta):=kU (LR h)
end
abbrev jV (n:Nat) (N:List Str) (st:Stmt):Prop:=FnScope N (N.take n) (kK st)
abbrev kG (K:PySem.W.Frag) (x:Str) (st:Stmt) (f:Addr) (h:FuncData):Prop:=Fun K x x st f h
abbrev kF (K:PySem.W.Frag) (x:Str) (st:Stmt):Prop:=∃f h,PySem.W.nsIn K mainGlobals x=some (some (.ref f))/\Fun K x x st f h
section
variable {P:Program} {w:World} {K:PySem.W.Frag} {mg:Str->Option Value} {base h:Heap} {x q:Str} {st:Stmt} {f:Addr} {fd:FuncData} {k:Nat} {sp:Sp} {p0 p1 p2 p3 p4 p5 p6:Str}
theorem fnT_mk {I:Value} {J L:Option Addr} {E:Array (Option Value)} {M D G F ct:Value} (a:PySem.W.nsIn K mainGlobals x=some (some (.ref f))) (l:K.lookup f=some ⟨I,J,.func (PySem.W.fnOf x x (yF st) (vO st) (kK st) .none M D G L F ct),E⟩) (c:PySem.W.codeIn K F x=true) (k:PySem.W.keepIn K (.ref f)=true):kF K x st:=⟨_,_,a,lS l c k⟩
theorem cM (X:K.In h) (G:h.Ns mainGlobals mg) (a:PySem.W.nsIn K mainGlobals x=some (some (.ref f))) (F:Fun K x q st f fd) (O:FnOk P w K mg base jT k f fd [p0] sp) (S:∀(L D E:Value) (I:Option Addr) (J ct M:Value),bindArgs (PySem.W.fnOf x q (yF st) (vO st) (kK st) .none L D E I J ct) ⟨[M],[]⟩=pure ([p0].zip [M]):=by intros;rfl):Def P w K mg base k x [p0] [] sp:=iZ O (aP X G a) F.kp (F.binds fun L D E I J ct=>rH (S L D E I J ct))
theorem zF (X:K.In h) (G:h.Ns mainGlobals mg) (a:PySem.W.nsIn K mainGlobals x=some (some (.ref f))) (F:Fun K x q st f fd) (O:FnOk P w K mg base jT k f fd [p0,p1] sp) (S:∀(L D E:Value) (I:Option Addr) (J ct M a1:Value),bindArgs (PySem.W.fnOf x q (yF st) (vO st) (kK st) .none L D E I J ct) ⟨[M,a1],[]⟩=pure ([p0,p1].zip [M,a1]):=by intros;rfl):Def P w K mg base k x [p0,p1] [] sp:=iZ O (aP X G a) F.kp (F.binds fun L D E I J ct=>ZC (S L D E I J ct))
theorem J4 (X:K.In h) (G:h.Ns mainGlobals mg) (a:PySem.W.nsIn K mainGlobals x=some (some (.ref f))) (F:Fun K x q st f fd) (O:FnOk P w K mg base (kO P w) k f fd [p0,p1] sp) (S:∀(L D E:Value) (I:Option Addr) (J ct M a1:Value),bindArgs (PySem.W.fnOf x q (yF st) (vO st) (kK st) .none L D E I J ct) ⟨[M,a1],[]⟩=pure ([p0,p1].zip [M,a1]):=by intros;rfl):DefX P w K mg base k x [p0,p1] [] sp:=o9 O (aP X G a) F.kp (F.binds fun L D E I J ct=>ZC (S L D E I J ct))
theorem zL (X:K.In h) (G:h.Ns mainGlobals mg) (a:PySem.W.nsIn K mainGlobals x=some (some (.ref f))) (F:Fun K x q st f fd) (O:FnOk P w K mg base jT k f fd [p0,p1,p2] sp) (S:∀(L D E:Value) (I:Option Addr) (J ct M a1 a2:Value),bindArgs (PySem.W.fnOf x q (yF st) (vO st) (kK st) .none L D E I J ct) ⟨[M,a1,a2],[]⟩=pure ([p0,p1,p2].zip [M,a1,a2]):=by intros;rfl):Def P w K mg base k x [p0,p1,p2] [] sp:=iZ O (aP X G a) F.kp (F.binds fun L D E I J ct=>lK (S L D E I J ct))
theorem CI (X:K.In h) (G:h.Ns mainGlobals mg) (a:PySem.W.nsIn K mainGlobals x=some (some (.ref f))) (F:Fun K x q st f fd) (O:FnOk P w K mg base (kO P w) k f fd [p0,p1,p2] sp) (S:∀(L D E:Value) (I:Option Addr) (J ct M a1 a2:Value),bindArgs (PySem.W.fnOf x q (yF st) (vO st) (kK st) .none L D E I J ct) ⟨[M,a1,a2],[]⟩=pure ([p0,p1,p2].zip [M,a1,a2]):=by intros;rfl):DefX P w K mg base k x [p0,p1,p2] [] sp:=o9 O (aP X G a) F.kp (F.binds fun L D E I J ct=>lK (S L D E I J ct))
theorem ZF (X:K.In h) (G:h.Ns mainGlobals mg) (a:PySem.W.nsIn K mainGlobals x=some (some (.ref f))) (F:Fun K x q st f fd) (S:FnOk P w K mg base jT k f fd [p0,p1,p2,p3] sp) (V:∀(L D E:Value) (I:Option Addr) (J ct M a1 a2 O:Value),bindArgs (PySem.W.fnOf x q (yF st) (vO st) (kK st) .none L D E I J ct) ⟨[M,a1,a2,O],[]⟩=pure ([p0,p1,p2,p3].zip [M,a1,a2,O]):=by intros;rfl):Def P w K mg base k x [p0,p1,p2,p3] [] sp:=iZ S (aP X G a) F.kp (F.binds fun L D E I J ct=>rG (V L D E I J ct))
theorem dX4 (X:K.In h) (G:h.Ns mainGlobals mg) (a:PySem.W.nsIn K mainGlobals x=some (some (.ref f))) (F:Fun K x q st f fd) (S:FnOk P w K mg base (kO P w) k f fd [p0,p1,p2,p3] sp) (V:∀(L D E:Value) (I:Option Addr) (J ct M a1 a2 O:Value),bindArgs (PySem.W.fnOf x q (yF st) (vO st) (kK st) .none L D E I J ct) ⟨[M,a1,a2,O],[]⟩=pure ([p0,p1,p2,p3].zip [M,a1,a2,O]):=by intros;rfl):DefX P w K mg base k x [p0,p1,p2,p3] [] sp:=o9 S (aP X G a) F.kp (F.binds fun L D E I J ct=>rG (V L D E I J ct))
theorem LL (X:K.In h) (G:h.Ns mainGlobals mg) (a:PySem.W.nsIn K mainGlobals x=some (some (.ref f))) (F:Fun K x q st f fd) (V:FnOk P w K mg base jT k f fd [p0,p1,p2,p3,p4] sp) (Y:∀(L D E:Value) (I:Option Addr) (J ct O a1 a2 S M:Value),bindArgs (PySem.W.fnOf x q (yF st) (vO st) (kK st) .none L D E I J ct) ⟨[O,a1,a2,S,M],[]⟩=pure ([p0,p1,p2,p3,p4].zip [O,a1,a2,S,M]):=by intros;rfl):Def P w K mg base k x [p0,p1,p2,p3,p4] [] sp:=iZ V (aP X G a) F.kp (F.binds fun L D E I J ct=>CD (Y L D E I J ct))
abbrev yA (K:PySem.W.Frag) (C:Addr) (x q:Str) (st:Stmt):Prop:=∃f fd,PySem.W.findIn K (.ref C) x=some (some (.ref f))/\PySem.W.isFn K (.ref f)=true/\Fun K x q st f fd
abbrev qS (K:PySem.W.Frag) (x:Str) (v:Option Value):Prop:=PySem.W.nsIn K mainGlobals x=some v
abbrev qH (K:PySem.W.Frag) (C:Addr) (x:Str) (v:Option Value):Prop:=PySem.W.findIn K (.ref C) x=some v
theorem nsP_mk {v:Option Value} (h:PySem.W.nsIn K mainGlobals x=some v):qS K x v:=h
theorem fnP_mk {C:Addr} {v:Option Value} (h:PySem.W.findIn K (.ref C) x=some v):qH K C x v:=h
theorem fnC_mk {C:Addr} {I:Value} {J L:Option Addr} {E:Array (Option Value)} {M D G F ct:Value} (a:PySem.W.findIn K (.ref C) x=some (some (.ref f))) (i:PySem.W.isFn K (.ref f)=true) (l:K.lookup f=some ⟨I,J,.func (PySem.W.fnOf x q (yF st) (vO st) (kK st) .none M D G L F ct),E⟩) (c:PySem.W.codeIn K F q=true) (k:PySem.W.keepIn K (.ref f)=true):yA K C x q st:=⟨_,_,a,i,lS l c k⟩
theorem QT {C:Addr} (cl:Cls K C) (a:PySem.W.findIn K (.ref C) x=some (some (.ref f))) (i:PySem.W.isFn K (.ref f)=true) (F:Fun K x q st f fd) (M:FnOk P w K mg base jT k f fd [p0] sp) (O:∀(J D E:Value) (G:Option Addr) (I ct L:Value),bindArgs (PySem.W.fnOf x q (yF st) (vO st) (kK st) .none J D E G I ct) ⟨[L],[]⟩=pure ([p0].zip [L]):=by intros;rfl):MeD P w K mg base k C x [p0] sp:=⟨cl,_,_,⟨a,i,F.kp⟩,M,F.binds fun J D E G I ct=>rH (O J D E G I ct)⟩
theorem gJ {C:Addr} (cl:Cls K C) (a:PySem.W.findIn K (.ref C) x=some (some (.ref f))) (i:PySem.W.isFn K (.ref f)=true) (F:Fun K x q st f fd) (M:FnOk P w K mg base jT k f fd [p0,p1] sp) (O:∀(J D E:Value) (G:Option Addr) (I ct L a1:Value),bindArgs (PySem.W.fnOf x q (yF st) (vO st) (kK st) .none J D E G I ct) ⟨[L,a1],[]⟩=pure ([p0,p1].zip [L,a1]):=by intros;rfl):MeD P w K mg base k C x [p0,p1] sp:=⟨cl,_,_,⟨a,i,F.kp⟩,M,F.binds fun J D E G I ct=>ZC (O J D E G I ct)⟩
theorem mM3 {C:Addr} (cl:Cls K C) (a:PySem.W.findIn K (.ref C) x=some (some (.ref f))) (i:PySem.W.isFn K (.ref f)=true) (F:Fun K x q st f fd) (M:FnOk P w K mg base jT k f fd [p0,p1,p2] sp) (O:∀(J D E:Value) (G:Option Addr) (I ct L a1 a2:Value),bindArgs (PySem.W.fnOf x q (yF st) (vO st) (kK st) .none J D E G I ct) ⟨[L,a1,a2],[]⟩=pure ([p0,p1,p2].zip [L,a1,a2]):=by intros;rfl):MeD P w K mg base k C x [p0,p1,p2] sp:=⟨cl,_,_,⟨a,i,F.kp⟩,M,F.binds fun J D E G I ct=>lK (O J D E G I ct)⟩
end
section
variable {X:Cx} {scope:Scope}
theorem rJ {x:Str} {I F:Expr} {E:List Expr} {p kn:Pos} {L:TI} {O:TT} {M:TE} (N:List Str) (is:List Nat) (S:CompScope X scope) (hi:PI X (.Name x p) I L) (Y:∀C s H h fp,eK (vG X N scope C s H h fp) E O) (he:∀C s H h fp,PE (vG X N scope C s H h fp) F M)
  (J:N.Nodup:=by trivial) (G:bJ X N scope (vZ 1 is):=by exact cps 1 _) (h0:N[0]?=some x:=by rfl) (V:∀C s H h fp,List.lookup x (vG X N scope C s H h fp).env.scope.names=some .local:=by intros;rfl) (D:X.calm=true:=by rfl) (Z:∀x,foldedSetIterable I X.env x=pure x:=by intro _;rfl):PE X (.ListComp F [⟨.Name x p,I,E,0⟩] scope kn) (pF L (vZ 1 is) (bD 0) O M) :=
 QY N (vZ 1 is) D S G hi (fun C s H h fp=>kT (X:=vG X N scope C s H h fp) J h0 (.inl (V C s H h fp)) (.inr (V C s H h fp))) Y he Z
theorem pV {x:Str} {I E:Expr} {p V:Pos} {J:TI} {L:TE} (N:List Str) (is:List Nat) (S:CompScope X scope) (hi:PI X (.Name x p) I J) (he:∀C s H D fp,PE (vG X N scope C s H D fp) E L)
  (G:N.Nodup:=by trivial) (F:bJ X N scope (vZ 1 is):=by exact cps 1 _) (Y:N[0]?=some x:=by rfl) (M:∀C s H D fp,List.lookup x (vG X N scope C s H D fp).env.scope.names=some .local:=by intros;rfl) (h:X.calm=true:=by rfl) (O:∀x,foldedSetIterable I X.env x=pure x:=by intro _;rfl):PE X (.ListComp E [⟨.Name x p,I,[],0⟩] scope V) (pF J (vZ 1 is) (bD 0) BV L) :=
 QY N (vZ 1 is) h S F hi (fun C s H D fp=>kT (X:=vG X N scope C s H D fp) G Y (.inl (M C s H D fp)) (.inr (M C s H D fp))) (fun _ _ _ _ _=>zN) he O
end
section
variable {X:Cx} {k:Nat} {sp:Addr->Sp} {x:Str} {p kn:Pos} {e:Expr} {es:List Expr} {t:TA} {i:Nat} {cs:List (Nat×Addr)}
end
end L2
namespace HT
open PySem PySem.Spec PyProof.Rows
variable {prog:Program} {w:World} {A:Around} {s:Shared} {E:Value->Shared->Prop}
theorem cat_tup0 {t b:Addr} {Y:List Value} {Q:Value->Shared->Prop} (ht:IsTup s.heap t #[]) (hb:IsTup s.heap b Y.toArray) (h1:Q (.ref b) s):wpAny (model prog w) A (binaryOp .Add (.ref t) (.ref b)) Q E s:=by
 obtain ⟨⟨ah,dd,S,sl⟩,Z,O,n,M⟩:=id ht;obtain ⟨⟨V,L,J,I⟩,D,G,n2,h⟩:=id hb;simp only at O M G h;subst O M G h;exact concat_meets ⟨_,Z,rfl⟩ ⟨_,D,rfl⟩ noFill_tuple_add seq_tuple_add PySem.F.slot_tuple_add PySem.F.entry_tuple_add (PySem.F.args_tuple_add_2 _ _) (tuple_addW0 t b #[] Y.toArray n n2 dd L sl I rfl) ⟨Z,D,h1⟩
end HT
namespace L2
open PySem PySem.Spec PyProof.Rows
theorem IU {X:Cx} {D:List Stmt}:PSs X D (fun _ _ _=>False):=fun _ _ _ _ _ _ h=>h.elim
section
variable {X:Cx}
def Y1 (K:PySem.W.Frag):R2:=fun x y H Q=>∃a b h D,x=.ref a/\y=.ref b/\SqT K H a h/\SqT K H b D/\D≠[]/\h.length+D.length<=sizeLine/\(h=[]->Q (.ref b) H)/\(h≠[]->∀p,H p=none->Q (.ref p) (upd H p (.tup (h++D))))
theorem V7:qW X (binaryOp .Add) (Y1 X.K):=by
 intro kc s σ H x y v u Q I F O h;obtain ⟨a,b,J,ys,rfl,rfl,G,L,Y,S,q1,Z⟩:=h
 by_cases D:J=[]
 ·subst D;cases F;cases O;obtain ⟨E,r1,p1,_⟩:=I.tuple G;obtain ⟨M,r2,V,_⟩:=I.tuple L;have e:E=[]:=r1.nil_iff.mpr rfl;subst e;exact HT.cat_tup0 p1 V ⟨.ref b,H,I,rfl,q1 rfl⟩
 ·exact XT kc s σ H _ _ v u Q I F O ⟨a,b,J,ys,rfl,rfl,G,L,D,S,fun h=>absurd h Y,fun _=>Z D⟩
end
section
variable {P:Program} {w:World} {K:PySem.W.Frag} {mg:Str->Option Value} {base:Heap}
end
theorem pJ {A:Around} {k:Nat} (h:Room k A):A.units+15<cLine:=by have:=h.units;lia
def AEq (K:PySem.W.Frag) (H:Hp):Nat->V->V->Prop
 |0,x,y=>x=y/\(vY x=true\/∃c,x=.ref c)
 |n+1,x,y=>(x=y/\(vY x=true\/∃c,x=.ref c))\/∃(a b:Addr) (xs ys:List V),x=.ref a/\y=.ref b/\a≠b/\((SqL K H a xs/\SqL K H b ys)\/(SqT K H a xs/\SqT K H b ys))/\xs.length=ys.length/\∀j,j<xs.length->AEq K H n (xs.getD j .non) (ys.getD j .non)
section
variable {X:Cx} {kc:List (Addr×Obj)} {σ:St} {H:Hp} {s:Shared}
theorem KL {A:Around} {x y:V} {u v:Value} (h:x=y/\(vY x=true\/∃c,x=.ref c)) (E:RelV x u) (D:RelV y v):SeqAt.EqAt A s u v true:=by
 obtain ⟨rfl,f|⟨c,rfl⟩⟩:=h
 ·have:=BI (A:=A) (s:=s) E D f f
  rwa [GI f] at this
 ·cases E;cases D;exact SeqAt.EqAt.same _
theorem xX (n:Nat):(List.range n).all (fun _=>true)=true:=by simp
theorem AEq.at (I:Inv X kc σ H s):∀(n:Nat) (A:Around) (x y:V) (u v:Value),AEq X.K H n x y->RelV x u->RelV y v->A.units+n<cLine->SeqAt.EqAt A s u v true
 |0,A,x,y,u,v,h,E,M,hu=>KL h E M
 |n+1,A,x,y,u,v,h,E,M,hu=>by
  rcases h with h|⟨a,b,xs,ys,rfl,rfl,ne,⟨S,Z⟩|⟨S,Z⟩,hl,he⟩
  ·exact KL h E M
  ·cases E;cases M
   obtain ⟨its,r,pl,hz⟩:=I.list S;obtain ⟨L,G,D,O⟩:=I.list Z;have J:=r.length;have Y:=G.length;have h:=SeqAt.RcAt.lists (A:=A) (e:=fun _=>true) pl.isList D.isList (by rw [aq,aq,<- J,<- Y,hl]) (by lia) (fun j F h2=>AEq.at I n A.in1 _ _ _ _ (he j (by rw [J];simpa using F)) (QX r F) (QX G h2) (by simp only [iq];lia));rw [xX] at h;exact SeqAt.EqAt.of_refs ne h
  ·cases E;cases M
   obtain ⟨its,r,pl,hz⟩:=I.tuple S;obtain ⟨L,G,D,O⟩:=I.tuple Z;have J:=r.length;have Y:=G.length;have h:=SeqAt.RcAt.tuples (A:=A) (e:=fun _=>true) pl D (by lia) (fun j F h2=>AEq.at I n A.in1 _ _ _ _ (he j (by rw [J];simpa using F)) (QX r F) (QX G h2) (by simp only [iq];lia));rw [xX,aq,aq,<- J,<- Y,hl,gv,Bool.and_true] at h;exact SeqAt.EqAt.of_refs ne h
end
def jCj (K:PySem.W.Frag) (n:Nat):R2:=fun x y H Q=>∃(a b:Addr) (h D:List V),x=.ref a/\y=.ref b/\SqL K H a h/\SqL K H b D/\h.length=D.length/\(∀j,j<h.length->AEq K H n (h.getD j .non) (D.getD j .non))/\Q (.bl true) H
theorem HQ {X:Cx} (n:Nat) (hu:X.A.units+12+n<cLine):qW X (compareOp .Eq) (jCj X.K n):=by
 intro kc s σ H x y v u Q I L ry h;obtain ⟨a,b,xs,ys,rfl,rfl,O,hb,V,he,q⟩:=h;cases L;cases ry;obtain ⟨Z,r,Y,hz⟩:=I.list O;obtain ⟨J,F,D,M⟩:=I.list hb;have G:=r.length;have S:=F.length;have h:=SeqAt.RcAt.lists (A:=X.A) (e:=fun _=>true) Y.isList D.isList (by rw [aq,aq,<- G,<- S,V]) (by lia) (fun j E h2=>AEq.at I n X.A.in1 _ _ _ _ (he j (by rw [G];simpa using E)) (QX r E) (QX F h2) (by simp only [iq];lia));rw [xX] at h;exact h X.prog X.w X.xe _ ⟨.bl true,H,I,rfl,q⟩
def YX (j:Nat):List Stmt->List Stmt
 |.For _ _ b _ _::_=>b
 |.While _ b _ _::_=>b
 |.If _ a b _::_=>match j with|0=>a|_=>b
 |_=>[]
def sb (b:List Stmt):List Nat->List Stmt
 |[]=>b
 |[n]=>b.drop n
 |n::j::p=>sb (YX j (b.drop n)) p
structure Ru where
 X:Cx
 b:List Stmt
 t:TS
 h:PSs X b t
def Tk (_:Cx) (_:List Stmt):Prop:=True
theorem tk {X:Cx} {b:List Stmt} {G:TS->Prop} (h:Tk X b->∃t,PSs X b t/\G t):∃t,PSs X b t/\G t:=h trivial
def ru {X:Cx} {b:List Stmt} (_:Tk X b) (p:List Nat) {t:TS} (h:PSs X (sb b p) t):Ru:=⟨X,_,t,h⟩
def tV (i:Nat):TE:=fun h H Q=>match h[i]? with
 |some (some v)=>Q v H
 |_=>False
theorem jAq {i:Nat} {D:St} {H:Hp} {Q:VK} (h:tV i D H Q):BW i D H Q:=by
 unfold tV at h
 split at h
 ·exact ⟨_,by assumption,h⟩
 ·exact h.elim
section
variable {X:Cx}
theorem jA (i:Nat) {x:Str} {L:Pos} (J:X.N[i]?=some x:=by rfl) (F:lL X.env.scope x:=by first|exact Or.inl rfl|exact Or.inr (Or.inl rfl)|exact Or.inr (Or.inr rfl)) (E:(x == ("__debug__":Str))=false:=by decide)
  (D:(x == ("__classdict__":Str))=false:=by decide):PE X (.Name x L) (tV i):=fun p s G H Q I h=>pv i J F E D p s G H Q I (jAq h)
end
def jCh (K:PySem.W.Frag) (n:Nat):R2:=fun x y H Q=>∃(a b:Addr) (h D:List V),x=.ref a/\y=.ref b/\SqL K H a h/\SqL K H b D/\h.length=D.length/\(∀j,j<h.length->AEq K H n (h.getD j .non) (D.getD j .non))/\Q (.bl false) H
theorem HP {X:Cx} (n:Nat) (hu:X.A.units+12+n<cLine):qW X (compareOp .NotEq) (jCh X.K n):=by
  intro kc s σ H x y v u Q I S ry h;obtain ⟨a,b,xs,ys,rfl,rfl,Y,hb,D,he,q⟩:=h;cases S;cases ry;obtain ⟨F,r,Z,hz⟩:=I.list Y;obtain ⟨O,L,G,V⟩:=I.list hb;have M:=r.length;have E:=L.length;refine SeqAt.RcNeAt.lists (e:=fun _=>true) Z.isList G.isList (by rw [aq,aq,<- M,<- E,D]) (by lia) (fun j J h2=>?_) X.prog X.w X.xe _ ⟨.bl _,H,I,rfl,?_⟩
  . exact AEq.at I n X.A.in1 _ _ _ _ (he j (by rw [M];simpa using J)) (QX r J) (QX L h2) (by simp only [iq];lia)
  . have e:(!(List.range F.toArray.size).all fun _=>true)=false:=by simp
    rw [e];exact q
end L2
namespace My
open PySem L2 List
theorem zz0:0<=sizeLine:=by decide
theorem zz1:1<=sizeLine:=by decide
theorem zz2:2<=sizeLine:=by decide
theorem zz3:3<=sizeLine:=by decide
theorem zz4:4<=sizeLine:=by decide
theorem zz6:6<=sizeLine:=by decide
theorem zz7:7<=sizeLine:=by decide
def top (i:Nat):Stmt:=PySem.Challenge.pw_lockhouse_k64_whole_water_and_gates.main.body.getD i (.Pass ⟨0,0,0,0⟩)
abbrev uM:Stmt:=top 22
abbrev uG:Stmt:=top 24
abbrev uB:Stmt:=top 29
abbrev uU:Stmt:=top 28
abbrev mH:Stmt:=top 26
abbrev uS:Stmt:=top 25
abbrev wD:Stmt:=top 27
abbrev mG:Stmt:=top 83
abbrev sR:Stmt:=vK (top 84) 0
abbrev rT:Stmt:=vK (top 85) 0
abbrev sW:Stmt:=vK (top 86) 0
abbrev sY:Stmt:=vK (top 80) 0
abbrev sU:Stmt:=vK (top 84) 1
abbrev rV:Stmt:=vK (top 85) 1
abbrev sX:Stmt:=vK (top 86) 1
abbrev sV:Stmt:=vK (top 84) 2
abbrev rW:Stmt:=vK (top 85) 2
abbrev cT:Stmt:=vK (top 81) 0
abbrev sP:Stmt:=vK (top 81) 6
abbrev sQ:Stmt:=vK (top 81) 7
abbrev sM:Stmt:=vK (top 81) 3
abbrev sJ:Stmt:=vK (top 81) 4
abbrev sI:Stmt:=vK (top 81) 5
abbrev lX:Stmt:=vK (top 81) 8
abbrev sK:Stmt:=vK (top 81) 10
abbrev lW:Stmt:=vK (top 81) 9
abbrev mB:Stmt:=top 37
abbrev mD:Stmt:=top 38
abbrev mC:Stmt:=top 41
abbrev l7:Stmt:=top 40
abbrev uJ:Stmt:=top 39
abbrev uW:Stmt:=top 14
abbrev uD:Stmt:=top 13
abbrev uX:Stmt:=top 19
abbrev uO:Stmt:=top 16
abbrev mE:Stmt:=top 17
abbrev tT:Stmt:=top 15
abbrev eR:Stmt:=top 31
abbrev mJ:Stmt:=top 32
abbrev t7:Stmt:=top 18
abbrev uE:Stmt:=top 20
abbrev mF:Stmt:=top 52
abbrev tW:Stmt:=top 51
abbrev l9:Stmt:=top 49
abbrev uH:Stmt:=top 47
abbrev uC:Stmt:=top 48
abbrev t9:Stmt:=top 46
abbrev tZ:Stmt:=top 45
abbrev wB:Stmt:=top 44
abbrev wC:Stmt:=top 43
abbrev uN:Stmt:=top 50
abbrev uL:Stmt:=top 79
abbrev sO:Stmt:=vK (top 81) 1
abbrev sL:Stmt:=vK (top 81) 2
abbrev mI:Stmt:=top 63
abbrev rZ:Stmt:=vK (top 76) 1
abbrev sE:Stmt:=vK (top 76) 4
abbrev sD:Stmt:=vK (top 76) 2
abbrev sF:Stmt:=vK (top 76) 3
abbrev sC:Stmt:=vK (top 76) 5
abbrev sA:Stmt:=vK (top 76) 7
abbrev lV:Stmt:=vK (top 76) 6
abbrev rX:Stmt:=vK (top 76) 0
abbrev mK:Stmt:=top 56
abbrev uA:Stmt:=top 57
abbrev tU:Stmt:=top 65
abbrev uF:Stmt:=top 64
abbrev uQ:Stmt:=top 61
abbrev uR:Stmt:=top 62
abbrev uP:Stmt:=top 60
abbrev tX:Stmt:=top 66
abbrev uY:Stmt:=top 68
abbrev wA:Stmt:=top 67
abbrev uT:Stmt:=top 70
abbrev tY:Stmt:=top 69
abbrev uK:Stmt:=top 36
abbrev uI:Stmt:=top 74
abbrev uZ:Stmt:=top 71
abbrev uV:Stmt:=top 72
abbrev wE:Stmt:=top 73
abbrev sB:Stmt:=vK (top 76) 8
abbrev rY:Stmt:=vK (top 76) 9
abbrev r9:Stmt:=vK (top 76) 10
abbrev tD:Stmt:=top 89
abbrev tO:Stmt:=top 90
abbrev tI:Stmt:=top 91
abbrev tK:Stmt:=top 92
abbrev tH:Stmt:=top 93
abbrev tQ:Stmt:=top 94
abbrev eQ:Stmt:=top 95
abbrev tN:Stmt:=top 96
abbrev tP:Stmt:=top 97
abbrev lY:Stmt:=top 98
abbrev tR:Stmt:=top 100
abbrev tE:Stmt:=top 101
abbrev tS:Stmt:=top 88
abbrev tJ:Stmt:=top 102
abbrev tL:Stmt:=top 99
abbrev gM:Stmt:=top 105
abbrev tF:Stmt:=top 103
abbrev tG:Stmt:=top 104
abbrev tM:Stmt:=top 106
abbrev lZ:Stmt:=top 107
abbrev sZ:Stmt:=top 108
abbrev ZW:Stmt:=top 109
abbrev lR (K:W.Frag) (x q:Str) (st:Stmt) (f:Addr):Prop:=∃h,Fun K x q st f h
variable {K:W.Frag} {H H':Hp} {a:Addr} {xs:List V}
theorem BN (e:Same H H') (h:SqT K H a xs):SqT K H' a xs:=by
 rcases h with (h|⟨o,h⟩)|h
 ·exact .inl (.inl (e _ _ h))
 ·exact .inl (.inr ⟨o,e _ _ h⟩)
 ·exact .inr h
theorem jK {p:Addr} (h:H p=none) (o:HO):Same H (upd H p o):=fun b u q=>by rw [j7 (q9 q h)];exact q
variable {n:Nat}
theorem small (h:n<=1000):n<=sizeLine:=im (vN h)
def Ints (K:W.Frag) (H:Hp) (a:Addr) (h:List Int):Prop:=SqL K H a (h.map V.int)\/SqT K H a (h.map V.int)
theorem Ints.same {D:List Int} (e:Same H H') (h:Ints K H a D):Ints K H' a D:=by
 rcases h with h|h
 ·exact .inl (e.seq h)
 ·exact .inr (BN e h)
theorem fU {s:Nat} (h:s<n):QG n (s:Int)=some s:=by
 unfold QG;rw [if_pos (by lia),if_pos (by lia)];simp
theorem yT {D:List Int} {s:Nat} (h:s<D.length):vM (D.map V.int) (s:Int)=some (.int (D.getD s 0)):=by
 refine qF ?_;rw [ap,aa h,ac,aa h];rfl
theorem VY {p:Addr} {D:List Int} {s:Nat} {Q:VK} (h:Ints K H p D) (E:s<D.length) (q:Q (.int (D.getD s 0)) H):CG K (.ref p) (.int s) H Q:=by
 rcases h with h|h
 ·exact .inl ⟨p,_,s,_,rfl,rfl,h,yT E,q⟩
 ·exact .inr (.inl ⟨p,_,s,_,rfl,rfl,h,yT E,q⟩)
theorem fA (h:List Int) (s:Nat) (z:Int):(h.map V.int).set s (V.int z)=(h.set s z).map V.int:=by rw [map_set]
variable {b:Int}
theorem xG {a:Int} (h:0<b):∃k:Nat,a%b=(k:Int)/\(k:Int)<b:=by
 have E:=ci a (by lia:b≠0);have D:=bu a h;exact ⟨(a%b).toNat,by lia,by lia⟩
def GV:Sp:=fun h H Q _=>∃i:Int,h=[.int i]/\Q (.bl true) H
def dQ (K:W.Frag):Sp:=fun D H Q _=>∃a,∃(h:List Int),D=[.ref a]/\SqL K H a (h.map V.int)/\h.length<=63/\∀H',Q (.bl true) H'
def pour (h:List Int) (q:Nat×Nat×Int):List Int:=(h.set q.1 (h.getD q.1 0 - q.2.2)).set q.2.1 ((h.set q.1 (h.getD q.1 0 - q.2.2)).getD q.2.1 0+q.2.2)
theorem mW (h:List Int) (q:Nat×Nat×Int):(pour h q).length=h.length:=by unfold pour;rw [cv,cv]
def kC (h:List Int) (qs:List (Nat×Nat×Int)):List Int:=qs.foldl pour h
theorem yB (qs:List (Nat×Nat×Int)):∀h:List Int,(kC h qs).length=h.length:=by
 induction qs with
 |nil=>intro h;rfl
 |cons q r D=>intro h;show (kC (pour h q) r).length=_;rw [D,mW]
theorem SA (h:List Int) (qs:List (Nat×Nat×Int)) (q:Nat×Nat×Int):kC h (qs++[q])=pour (kC h qs) q:=by
 unfold kC;rw [il];rfl
theorem mT (D:List Int) (qs:List (Nat×Nat×Int)) (i:Nat) (q:Nat×Nat×Int) (h:qs[i]?=some q):kC D (qs.take (i+1))=pour (kC D (qs.take i)) q:=by
 rw [aK,h];exact SA ..
def IF (K:W.Frag) (H:Hp) (h:List V) (qs:List (Nat×Nat×Int)) (n:Nat):Prop :=
 h.length=qs.length/\∀(i:Nat) r,h[i]?=some r->∃a,∃(s t:Nat) (m:Int),r=.ref a/\qs[i]?=some (s,t,m)/\SqT K H a [.int s,.int t,.int m]/\s<n/\t<n
def iV (K:W.Frag):Sp:=fun F H Q _=>∃w p h E D,F=[.ref w,.ref p]/\Ints K H w h/\SqL K H p E/\IF K H E D h.length/\h.length<=1000/\
 ∀r H',Same H H'->H r=none->H' r=some (.tup ((kC h D).map V.int))->Q (.ref r) H'
def Keep (d:Addr) (H H':Hp):Prop:=∀b o,b≠d->H b=some o->H' b=some o
theorem Keep.refl (d:Addr) (H:Hp):Keep d H H:=fun _ _ _ q=>q
theorem Keep.of {d:Addr} (s:Same H H'):Keep d H H':=fun b o _ q=>s b o q
theorem Keep.trans {d:Addr} {h D:Hp} (a:Keep d H h) (b:Keep d h D):Keep d H D:=fun c o n q=>b c o n (a c o n q)
theorem Keep.upd {d:Addr} (k:Keep d H H') (o:HO):Keep d H (upd H' d o):=fun b u n q=>by rw [j7 n];exact k b u n q
theorem Keep.sqt {d:Addr} {ys:List V} (k:Keep d H H') (D:H d=some (.lst ys)) (h:SqT K H a xs):SqT K H' a xs:=by
 rcases h with (h|⟨o,h⟩)|h
 ·exact .inl (.inl (k _ _ (yP h D (fun z=>nomatch z)) h))
 ·exact .inl (.inr ⟨o,k _ _ (yP h D (fun z=>nomatch z)) h⟩)
 ·exact .inr h
def lettersS:Str:="abcdefghijklmnopqrstuvwxyz"
theorem SO:lettersS.cps.toList.length=26:=by trivial
def oW (z:Nat):Nat:=lettersS.cps.toList.getD z 0
theorem TW {z:Int} (D:0<=z) (E:z<26):vM lettersS.cps.toList z=some (oW z.toNat):=by
 have h:=qF (xs:=lettersS.cps.toList) (j:=z.toNat) (v:=oW z.toNat) (by
  unfold oW;rw [ac,aa (by rw [SO];lia)];rfl)
 have e:((z.toNat:Nat):Int)=z:=by lia
 rwa [e] at h
def zQ (n h l r:V):List (Str×V):=jS "room" r (jS "low" l (jS "high" h (jS "name" n [])))
theorem jBi:¬(("name":Str)="high"):=by trivial
theorem jBh:¬(("name":Str)="low"):=by trivial
theorem jBg:¬(("name":Str)="room"):=by trivial
theorem jBl:¬(("high":Str)="low"):=by trivial
theorem jBk:¬(("high":Str)="room"):=by trivial
theorem jBj:¬(("low":Str)="room"):=by trivial
theorem X2 (n h l r:V):(zQ n h l r).lookup ("name":Str)=some n:=by
 unfold zQ;rw [yY,if_neg jBg,yY,if_neg jBh,yY,if_neg jBi,yY,if_pos rfl]
theorem X3 (n h l r:V):(zQ n h l r).lookup ("high":Str)=some h:=by
 unfold zQ;rw [yY,if_neg jBk,yY,if_neg jBl,yY,if_pos rfl]
theorem jAc (n h l r:V):(zQ n h l r).lookup ("low":Str)=some l:=by
 unfold zQ;rw [yY,if_neg jBj,yY,if_pos rfl]
theorem X1 (n h l r:V):(zQ n h l r).lookup ("room":Str)=some r:=by
 unfold zQ;rw [yY,if_pos rfl]
theorem KU (n h l r:V) {m:Str} (G:¬m="room") (D:¬m="low") (E:¬m="high") (F:¬m="name"):(zQ n h l r).lookup m=none:=by
 unfold zQ;rw [yY,if_neg G,yY,if_neg D,yY,if_neg E,yY,if_neg F];rfl
def PartsAt (H:Hp) (h:List V) (ps:List (Str×Int)):Prop:=h.length=ps.length/\∀(i:Nat) r,h[i]?=some r->∃a s,∃(n:Int),r=.ref a/\ps[i]?=some (s,n)/\H a=some (.tup [.str s,.int n])
theorem PartsAt.nil:PartsAt H [] []:=⟨rfl,fun i r h=>by cases h⟩
variable {rs:List V}
theorem PartsAt.keep {d:Addr} {ys:List V} {ps:List (Str×Int)} (k:Keep d H H') (E:H d=some (.lst ys)) (h:PartsAt H rs ps):PartsAt H' rs ps:=by
 refine ⟨h.1,fun i r I=>?_⟩;obtain ⟨a,s,n,G,F,D⟩:=h.2 i r I;exact ⟨a,s,n,G,F,k _ _ (yP D E (fun z=>nomatch z)) D⟩
variable {s:Str}
theorem PartsAt.snoc {ps:List (Str×Int)} {n:Int} (h:PartsAt H rs ps) (J:H a=some (.tup [.str s,.int n])):PartsAt H (rs++[.ref a]) (ps++[(s,n)]):=by
 refine ⟨by rw [af,af,h.1];rfl,fun i r D=>?_⟩
 by_cases F:i<rs.length
 ·rw [aw F] at D;obtain ⟨b,G,M,L,O,I⟩:=h.2 i r D;exact ⟨b,G,M,L,by rw [aw (by rw [<- h.1];exact F)];exact O,I⟩
 ·rw [ar (by lia)] at D;have E:i - rs.length=0:=by
   have:=(ad.mp D).1;rw [aE] at this
   lia
  rw [E] at D;have e:V.ref a=r:=aA D;refine ⟨a,s,n,e.symm,?_,J⟩;rw [ar (by rw [<- h.1];lia),<- h.1,E];rfl
def vV (q:Str×Int):Bool := !decide (q.2=0)
def f6 (K:W.Frag):Sp:=fun E H Q _=>∃(p:Addr) (rs:List V) (D:List (Str×Int)),E=[.ref p]/\SqL K H p rs/\PartsAt H rs D/\rs.length<=10/\
 ∀r H' h,Same H H'->H r=none->H' r=some (.lst h)->PartsAt H' h (D.filter vV)->Q (.ref r) H'
def fZ (e:Str) (n h l r v:V):List (Str×V):=jS e v (zQ n h l r)
theorem AK (e:Str) (n h l r v:V):(fZ e n h l r v).lookup e=some v:=by
 unfold fZ;rw [yY,if_pos rfl]
theorem GT {e m:Str} (D:¬m=e) (n h l r v:V):(fZ e n h l r v).lookup m=(zQ n h l r).lookup m:=by
 unfold fZ;rw [yY,if_neg D]
theorem DN (n h l r:V):(zQ n h l r).length<1000:=by
 have G:=JQ "high" h (jS "name" n []);have D:=JQ "low" l (jS "high" h (jS "name" n []));have E:=JQ "room" r (jS "low" l (jS "high" h (jS "name" n [])));have F:(jS ("name":Str) n []).length=1:=rfl;unfold zQ
 lia
def wv (b:Bool):V:=if b then .str "up" else .str "down"
theorem jAp:¬(V.str "down"=V.str "up"):=fun h=>absurd (V.str.inj h) (by trivial)
def jG (D h E:Addr):Kd->Addr
 |.plain=>D
 |.basin=>h
 |.pump=>E
def Z7 (D:Kd) (n h l r v:V):List (Str×V):=match D with
 |.plain=>zQ n h l r
 |.basin=>fZ "side" n h l r v
 |.pump=>fZ "lift" n h l r v
theorem fX (D:Kd) (n h l r v:V) {m:Str} (F:¬m="side") (E:¬m="lift"):(Z7 D n h l r v).lookup m=(zQ n h l r).lookup m:=by
 cases D
 ·rfl
 ·exact GT F _ _ _ _ _
 ·exact GT E _ _ _ _ _
theorem dH (D:Kd) (n h l r v:V):(Z7 D n h l r v).lookup ("name":Str)=some n:=by rw [fX D _ _ _ _ _ (by trivial) (by trivial)];exact X2 ..
theorem dI (D:Kd) (n h l r v:V):(Z7 D n h l r v).lookup ("high":Str)=some h:=by rw [fX D _ _ _ _ _ (by trivial) (by trivial)];exact X3 ..
theorem dO (D:Kd) (n h l r v:V):(Z7 D n h l r v).lookup ("low":Str)=some l:=by rw [fX D _ _ _ _ _ (by trivial) (by trivial)];exact jAc ..
theorem fV (D:Kd) (n h l r v:V):(Z7 D n h l r v).lookup ("room":Str)=some r:=by rw [fX D _ _ _ _ _ (by trivial) (by trivial)];exact X1 ..
theorem X9 (D:Kd) (n h l r v:V):(Z7 D n h l r v).lookup ("fill_parts":Str)=none:=by rw [fX D _ _ _ _ _ (by trivial) (by trivial)];exact KU _ _ _ _ (by trivial) (by trivial) (by trivial) (by trivial)
theorem jAl (D:Kd) (n h l r v:V):(Z7 D n h l r v).lookup ("let_parts":Str)=none:=by rw [fX D _ _ _ _ _ (by trivial) (by trivial)];exact KU _ _ _ _ (by trivial) (by trivial) (by trivial) (by trivial)
def LockAt (cs:Kd->Addr) (H:Hp) (x:Addr) (E:Kd) (n h l:V) (D v:Int):Prop:=∃F:Addr,H x=some (.ins (cs E) F (Z7 E n h l (.int D) (.int v)))
variable {cs:Kd->Addr} {x:Addr} {kd:Kd} {room:Int}
theorem LockAt.same {n h l:V} {v:Int} (e:Same H H') (a:LockAt cs H x kd n h l room v):LockAt cs H' x kd n h l room v:=by
 obtain ⟨D,a⟩:=a;exact ⟨D,e _ _ a⟩
def QC (kd:Kd) (room v b:Int):List (Str×Int):=match kd with
 |.plain=>([("high",room)]:List (Str×Int)).filter vV
 |.basin=>([("basin",b),("high",room - b)]:List (Str×Int)).filter vV
 |.pump=>([("low",v),("high",room - v)]:List (Str×Int)).filter vV
def zZ (kd:Kd) (room v b:Int):List (Str×Int):=match kd with
 |.basin=>([("basin",v - b),("low",room - (v - b))]:List (Str×Int)).filter vV
 |_=>([("low",room)]:List (Str×Int)).filter vV
theorem ET (kd:Kd) (room v b:Int):(QC kd room v b).length<=2:=by
 cases kd
 ·exact aM (bw _ _) (by show 1<=2;decide)
 ·exact aM (bw _ _) (by show 2<=2;decide)
 ·exact aM (bw _ _) (by show 2<=2;decide)
theorem GC (kd:Kd) (room v b:Int):(zZ kd room v b).length<=2:=by
 cases kd
 ·exact aM (bw _ _) (by show 1<=2;decide)
 ·exact aM (bw _ _) (by show 2<=2;decide)
 ·exact aM (bw _ _) (by show 1<=2;decide)
def QH (cs:Kd->Addr) (F:Kd->Int->Int->Int->List (Str×Int)) (kd:Kd):Sp:=fun D H Q _=>∃x n h l,∃(room v b:Int),D=[.ref x,.int b]/\LockAt cs H x kd n h l room v/\
 ∀r H' rs,Same H H'->H r=none->H' r=some (.lst rs)->PartsAt H' rs (F kd room v b)->Q (.ref r) H'
def W9 (cs:Kd->Addr):Sp:=fun D H Q _=>∃kd x n h l,∃(room v b:Int),D=[.ref x,.int b]/\LockAt cs H x kd n h l room v/\
 ∀r H' rs,Same H H'->H r=none->H' r=some (.lst rs)->PartsAt H' rs (([("low",room)]:List (Str×Int)).filter vV)->Q (.ref r) H'
def fP (cs:Kd->Addr):Sp:=fun E H Q _=>∃kd x D n h l r,E=[.ref x,n,h,l,r]/\H x=some (.ins (cs kd) D [])/\∀H':Hp,Keep x H H'->H' x=some (.ins (cs kd) D (zQ n h l r))->Q .non H'
def fO (cs:Kd->Addr) (kd:Kd):Sp:=fun E H Q _=>∃x D n h l r v,E=[.ref x,n,h,l,r,v]/\H x=some (.ins (cs kd) D [])/\∀H':Hp,Keep x H H'->H' x=some (.ins (cs kd) D (Z7 kd n h l r v))->Q .non H'
def PoursS (H:Hp) (rs:List V) (ps:List (Str×Str×Int)):Prop:=rs.length=ps.length/\∀(i:Nat) r,rs[i]?=some r->∃a s t,∃(n:Int),r=.ref a/\ps[i]?=some (s,t,n)/\H a=some (.tup [.str s,.str t,.int n])
theorem PoursS.nil:PoursS H [] []:=⟨rfl,fun i r h=>by cases h⟩
variable {ps:List (Str×Str×Int)}
theorem PoursS.same (e:Same H H') (h:PoursS H rs ps):PoursS H' rs ps:=by
 refine ⟨h.1,fun i r G=>?_⟩;obtain ⟨a,s,t,n,F,D,E⟩:=h.2 i r G;exact ⟨a,s,t,n,F,D,e _ _ E⟩
theorem PoursS.keep {d:Addr} {ys:List V} (k:Keep d H H') (E:H d=some (.lst ys)) (h:PoursS H rs ps):PoursS H' rs ps:=by
 refine ⟨h.1,fun i r I=>?_⟩;obtain ⟨a,s,t,n,G,F,D⟩:=h.2 i r I;exact ⟨a,s,t,n,G,F,k _ _ (yP D E (fun z=>nomatch z)) D⟩
theorem PoursS.append {E:List V} {D:List (Str×Str×Int)} (h:PoursS H rs ps) (h':PoursS H E D):PoursS H (rs++E) (ps++D):=by
 refine ⟨by rw [af,af,h.1,h'.1],fun i r F=>?_⟩
 by_cases S:i<rs.length
 ·rw [aw S] at F;obtain ⟨b,G,M,L,J,O,I⟩:=h.2 i r F;exact ⟨b,G,M,L,J,by rw [aw (by rw [<- h.1];exact S)];exact O,I⟩
 ·rw [ar (by lia)] at F;obtain ⟨b,G,M,L,J,O,I⟩:=h'.2 _ r F;exact ⟨b,G,M,L,J,by rw [ar (by rw [<- h.1];lia),<- h.1];exact O,I⟩
theorem PoursS.one {t:Str} {n:Int} (D:H a=some (.tup [.str s,.str t,.int n])):PoursS H [.ref a] [(s,t,n)]:=by
 refine ⟨rfl,fun i r h=>?_⟩;cases i with
 |zero=>exact ⟨a,s,t,n,(aA h).symm,rfl,D⟩
 |succ i=>cases h
def qX (kd:Kd) (room v b:Int):List (Str×Str×Int):=(QC kd room v b).map fun p=>(p.1,"chamber",p.2)
def qN (kd:Kd) (room v b:Int):List (Str×Str×Int):=(zZ kd room v b).map fun p=>("chamber",p.1,p.2)
theorem iB (kd:Kd) (room v b:Int):(qX kd room v b).length<=2:=by unfold qX;rw [ae];exact ET ..
theorem dE (kd:Kd) (room v b:Int):(qN kd room v b).length<=2:=by unfold qN;rw [ae];exact GC ..
def kZ (p:Str×Str×Int->Bool) (qs:List (Str×Str×Int)):List Int:=(qs.filter p).map (·.2.2)
theorem DT (p:Str×Str×Int->Bool) (qs:List (Str×Str×Int)) (i:Nat) (q:Str×Str×Int) (h:qs[i]?=some q):kZ p (qs.take (i+1))=kZ p (qs.take i)++(if p q=true then [q.2.2] else []):=by
 unfold kZ;rw [aK,h];simp only [Option.toList,fw,aJ]
 by_cases c:p q=true
 ·rw [if_pos c];simp [c]
 ·rw [if_neg c];simp [c]
theorem E3 (p:Str×Str×Int->Bool) (qs:List (Str×Str×Int)) (i:Nat):(kZ p (qs.take i)).length<=i:=by
 unfold kZ;rw [ae];exact aM (bw _ _) (gy _ _)
def v7 (s:Str) (q:Str×Str×Int):Bool:=decide (q.1=s)
def toS (s:Str) (q:Str×Str×Int):Bool:=decide (q.2.1=s)
def bX (s:Str) (qs:List (Str×Str×Int)):Int:=(kZ (v7 s) qs).sum
def qT (b:Int) (qs:List (Str×Str×Int)):Int:=b+(kZ (toS "basin") qs).sum - bX "basin" qs
theorem GO (s t:Str):decide (V.str s=V.str t)=decide (s=t):=decide_eq_decide.mpr ⟨V.str.inj,fun e=>by rw [e]⟩
def iE (cs:Kd->Addr) (F:Kd->Int->Int->Int->List (Str×Str×Int)):Sp:=fun D H Q _=>∃x kd n h l,∃(room v b:Int),D=[.ref x,.int b]/\LockAt cs H x kd n h l room v/\
 ∀r H' rs,Same H H'->H r=none->H' r=some (.lst rs)->PoursS H' rs (F kd room v b)->Q (.ref r) H'
def HA:Sp:=fun D H Q _=>∃s p rs h,D=[.str s,.ref p]/\H p=some (.lst rs)/\PoursS H rs h/\rs.length<=999/\∀H',Same H H'->Q (.int (bX s h)) H'
def HG:Sp:=fun D H Q _=>∃(b:Int),∃p rs h,D=[.int b,.ref p]/\H p=some (.lst rs)/\PoursS H rs h/\rs.length<=999/\∀H',Same H H'->Q (.int (qT b h)) H'
def ZQ (kd:Kd) (room v:Int) (f:Bool) (b:Int) (w:Bool):List (Str×Str×Int):=match w,f with
 |true,true=>qN kd room v b++qX kd room v (qT b (qN kd room v b))
 |true,false=>qX kd room v b
 |false,true=>qN kd room v b
 |false,false=>qX kd room v b++qN kd room v (qT b (qX kd room v b))
theorem DU (b:Int):qT b []=b:=by show b+0 - 0=b;lia
theorem EK (kd:Kd) (room v:Int) (f:Bool) (b:Int) (w:Bool):(ZQ kd room v f b w).length<=4:=by
 have D:=fun b=>iB kd room v b
 have h:=fun b=>dE kd room v b
 cases w<;>cases f
 ·show (qX kd room v b++qN kd room v (qT b (qX kd room v b))).length<=4;rw [af];have:=D b;have:=h (qT b (qX kd room v b));lia
 ·exact aM (h b) (by decide)
 ·exact aM (D b) (by decide)
 ·show (qN kd room v b++qX kd room v (qT b (qN kd room v b))).length<=4;rw [af];have:=h b;have:=D (qT b (qN kd room v b));lia
def EE (cs:Kd->Addr):Sp:=fun D H Q _=>∃x kd n h l,∃(room v b:Int),∃f w,D=[.ref x,.bl f,.int b,wv w]/\LockAt cs H x kd n h l room v/\
 ∀r H' rs,Same H H'->H r=none->H' r=some (.lst rs)->PoursS H' rs (ZQ kd room v f b w)->Q (.ref r) H'
variable {α:Type} {i:Nat}
theorem C6 {D:Type} {f:α->D} {ps:List α} {p:α} (h:ps[i]?=some p):(ps.take (i+1)).map f=(ps.take i).map f++[f p]:=by
 rw [aK,h,aJ];rfl
def JL (c m:Int):Int:=if m - c>0 then m - c else 0
def JS (h:List (Int×Nat)) (i:Nat):Int:=(h.getD i (0,0)).1
def qB (h:List (Int×Nat)) (i:Nat):Nat:=(h.getD i (0,0)).2
def WeirsAt (K:W.Frag) (H:Hp) (rs:List V) (h:List (Int×Nat)) (n:Nat):Prop :=
 rs.length=h.length/\∀(i:Nat) r,rs[i]?=some r->∃a,∃(c:Int) (t:Nat),r=.ref a/\h[i]?=some (c,t)/\SqT K H a [.int c,.int t]/\t<n
def pT (R:Nat) (h:List (Int×Nat)):Prop:=∀(i:Nat) (c:Int) (t:Nat),h[i]?=some (c,t)->t<i\/R<=t
variable {ws:List (Int×Nat)}
theorem WeirsAt.same (e:Same H H') (h:WeirsAt K H rs ws n):WeirsAt K H' rs ws n:=by
 refine ⟨h.1,fun i r I=>?_⟩;obtain ⟨a,c,t,F,D,E,G⟩:=h.2 i r I;exact ⟨a,c,t,F,D,BN e E,G⟩
theorem nK (h:WeirsAt K H rs ws n) (hi:i<ws.length):∃a,vM rs (i:Int)=some (V.ref a)/\SqT K H a [.int (JS ws i),.int (qB ws i)]/\qB ws i<n:=by
 have D:i<rs.length:=by rw [h.1];exact hi
 obtain ⟨a,c,t,G,E,F,I⟩:=h.2 i rs[i] (aa D);have e:ws.getD i (0,0)=(c,t):=by rw [ac,E];rfl
 refine ⟨a,qF (by rw [aa D,G]),?_,?_⟩
 ·unfold JS qB;rw [e];exact F
 ·unfold qB;rw [e];exact I
theorem W3 {R:Nat} (h:pT R ws) (hi:i<ws.length):qB ws i<i\/R<=qB ws i:=by
 have e:ws[i]?=some ((ws.getD i (0,0)).1,(ws.getD i (0,0)).2):=by rw [ac,aa hi];rfl
 exact h i _ _ e
def IO (K:W.Frag):Sp:=fun G H Q _=>∃F E rs ws,∃(n:Nat),∃D,∃(h:Nat),G=[.ref F,.ref E,.int h]/\SqL K H F rs/\WeirsAt K H rs ws n/\Ints K H E D/\h<ws.length/\h<D.length/\
 Q (.int (JL (JS ws h) (D.getD h 0))) H
def yC (t:Nat->Nat) (g:Nat->Int) (j:Nat):Nat->Int
 |0=>0
 |a+1=>yC t g j a+(if t a=j then g a else 0)
theorem w9 {t:Nat->Nat} {g g':Nat->Int} {j:Nat}:∀{R:Nat},(∀a,a<R->t a=j->g a<=g' a)->yC t g j R<=yC t g' j R
 |0,_=>dq _
 |R+1,h=>by
  show yC t g j R+_<=yC t g' j R+_;have D:=w9 (R:=R) fun a E=>h a (by lia)
  by_cases c:t R=j
  ·rw [if_pos c,if_pos c];have:=h R (by lia) c
   lia
  ·rw [if_neg c,if_neg c]
   lia
theorem w8 (t:Nat->Nat) (j:Nat):∀R:Nat,yC t (fun _=>0) j R=0
 |0=>rfl
 |R+1=>by
  show yC t (fun _=>0) j R+_=0;rw [w8 t j R]
  split<;>rfl
variable {t:Nat->Nat} {g:Nat->Int} {j:Nat}
theorem R4 {R:Nat} (h:∀a,a<R->0<=g a):0<=yC t g j R:=by
 have:=w9 (t:=t) (g:=fun _=>0) (g':=g) (j:=j) (R:=R) fun a D _=>h a D
 rw [w8] at this;exact this
theorem DP {t:Nat->Nat} {g g':Nat->Int} {i:Nat} (h:∀a,a≠i->g' a=g a) (j:Nat):∀{R:Nat},yC t g' j R=yC t g j R+(if i<R/\t i=j then g' i - g i else 0)
 |0=>by
  show (0:Int)=0+_;rw [if_neg (by lia)];rfl
 |R+1=>by
  show yC t g' j R+(if t R=j then g' R else 0)=yC t g j R+(if t R=j then g R else 0)+(if i<R+1/\t i=j then g' i - g i else 0);rw [DP h j (R:=R)]
  by_cases hi:i=R
  ·subst hi
   repeat' split
   all_goals lia
  ·rw [h R (fun e=>hi e.symm)]
   repeat' split
   all_goals lia
def fW (R:Nat) (c:Nat->Int) (t:Nat->Nat) (m:Nat->Int) (g:Nat->Int):Prop:=∀i,i<R->g i=JL (c i) (m i+yC t g i R)
def iU (R:Nat) (t:Nat->Nat):Prop:=∀a,a<R->t a<a\/R<=t a
variable {c:Int}
theorem S6 {m D:Int} (h:m<=D):JL c m<=JL c D:=by
 unfold JL
 split<;>split<;>lia
theorem wT (c m:Int):0<=JL c m:=by
 unfold JL
 split<;>lia
theorem DI {R:Nat} {c:Nat->Int} {m F g':Nat->Int} (M:iU R t) (I:∀i,i<R->m i<=F i) (h:fW R c t m g) (h':fW R c t F g'):∀k,k<=R->∀i,R - k<=i->i<R->g i<=g' i:=by
 intro k
 induction k with
 |zero=>intro _ i L D;lia
 |succ k E =>
  intro O i L D
  by_cases e:R - k<=i
  ·exact E (by lia) i e D
  ·have S:i=R - (k+1):=by lia
   rw [h i D,h' i D];refine S6 ?_;have:=w9 (t:=t) (g:=g) (g':=g') (j:=i) (R:=R) fun a G J=>E (by lia) a (by have:=M a G;lia) G
   have:=I i D
   lia
theorem R8 {R:Nat} {c:Nat->Int} {m g':Nat->Int} (D:iU R t) (h:fW R c t m g) (h':fW R c t m g') (hi:i<R):g i=g' i:=by
 have F:=DI D (fun i _=>dq (m i)) h h' R (ao _) i (by lia) hi;have E:=DI D (fun i _=>dq (m i)) h' h R (ao _) i (by lia) hi
 lia
def after (R:Nat) (t:Nat->Nat) (m g:Nat->Int) (j:Nat):Int:=m j+yC t g j R - (if j<R then g j else 0)
theorem SU {R:Nat} {c:Nat->Int} {m:Nat->Int} (h:fW R c t m g) (hi:i<R):after R t m g i<=c i:=by
 unfold after;rw [if_pos hi];have e:=h i hi;unfold JL at e
 split at e<;>lia
def qJ:List (Nat×Nat×Int)->Nat->Int
 |[],_=>0
 |q::r,j=>(if q.2.1=j then q.2.2 else 0) - (if q.1=j then q.2.2 else 0)+qJ r j
theorem gX (l:List Int) (i j:Nat) (z:Int) (h:i<l.length):(l.set i z).getD j 0=if i=j then z else l.getD j 0:=by
 rw [ac,ac]
 by_cases e:i=j
 ·subst e;rw [ib h,if_pos rfl];rfl
 ·rw [iu e,if_neg e]
theorem EI (h:List Int) (q:Nat×Nat×Int) (j:Nat) (D:q.1<h.length) (E:q.2.1<h.length):(pour h q).getD j 0=h.getD j 0+((if q.2.1=j then q.2.2 else 0) - (if q.1=j then q.2.2 else 0)):=by
 unfold pour;rw [gX _ _ _ _ (by rw [cv];exact E),gX _ _ _ _ D,gX _ _ _ _ D]
 by_cases a:q.2.1=j
 ·rw [if_pos a,if_pos a];rw [a]
  by_cases b:q.1=j
  ·rw [if_pos b,if_pos b];rw [b];lia
  ·rw [if_neg b,if_neg b];lia
 ·rw [if_neg a,if_neg a]
  by_cases b:q.1=j
  ·rw [if_pos b,if_pos b];rw [b];lia
  ·rw [if_neg b,if_neg b];lia
theorem QV:∀(qs:List (Nat×Nat×Int)) (D:List Int) (j:Nat),(∀q∈qs,q.1<D.length/\q.2.1<D.length)->(kC D qs).getD j 0=D.getD j 0+qJ qs j
 |[],D,j,_=>by
  show D.getD j 0=D.getD j 0+0
  lia
 |q::r,D,j,h=>by
  show (kC (pour D q) r).getD j 0=_;obtain ⟨G,E⟩:=h q aT;rw [QV r (pour D q) j (fun x F=>by rw [mW];exact h x (aF _ F)),EI D q j G E];show _=D.getD j 0+((if q.2.1=j then q.2.2 else 0) - (if q.1=j then q.2.2 else 0)+qJ r j)
  lia
theorem TN (n:Nat):zU (n+1)=n::zU n:=by
 unfold zU;rw [ei,reverse_append];rfl
theorem mem_downs {a:Nat}:a∈zU n↔a<n:=by
 unfold zU;rw [mem_reverse,bp]
theorem e9 (n:Nat):(zU n).length=n:=by
 unfold zU;rw [length_reverse,bg]
variable {k:Nat}
theorem EU (h:k<n):(zU n)[k]?=some (n - 1 - k):=by
 unfold zU;rw [List.getElem?_reverse (by simpa using h),bg,cg (by lia)]
def yM (t:Nat->Nat) (g:Nat->Int) (R:Nat):List (Nat×Nat×Int):=(zU R).map fun a=>(a,t a,g a)
theorem DQ (t:Nat->Nat) (g:Nat->Int) (j:Nat):∀R:Nat,qJ (yM t g R) j=yC t g j R - (if j<R then g j else 0)
 |0=>by
  show (0:Int)=0 - _;rw [if_neg (by lia)];rfl
 |R+1=>by
  unfold yM;rw [TN];show (if t R=j then g R else 0) - (if R=j then g R else 0)+qJ (yM t g R) j=yC t g j R+(if t R=j then g R else 0) - _;rw [DQ t g j R]
  by_cases e:R=j
  ·subst e
   repeat' split
   all_goals lia
  ·repeat' split
   all_goals lia
theorem GH {l D:List Int} (h:l.length=D.length) (e:∀j,j<l.length->l.getD j 0=D.getD j 0):l=D:=by
 apply ext_getElem h;intro i E F;have:=e i E;rw [ac,ac,aa E,aa F] at this;exact this
def yK (h:List Int) (ws:List (Int×Nat)) (gs:List Int):List Int:=kC h (yM (qB ws) (fun a=>gs.getD a 0) ws.length)
theorem DD (h:List Int) (ws:List (Int×Nat)) (gs:List Int):(yK h ws gs).length=h.length:=yB _ _
variable {ms gs:List Int}
theorem EH (F:ws.length<=ms.length) (D:∀a,a<ws.length->qB ws a<ms.length) (j:Nat) :
  (yK ms ws gs).getD j 0=after ws.length (qB ws) (fun j=>ms.getD j 0) (fun a=>gs.getD a 0) j:=by
 unfold yK;rw [QV _ _ _ (fun q E=>?_),DQ]
 ·unfold after;show ms.getD j 0+(yC _ _ _ _ - (if j<ws.length then gs.getD j 0 else 0))=ms.getD j 0+yC _ _ _ _ - (if j<ws.length then gs.getD j 0 else 0)
  lia
 ·obtain ⟨a,h,rfl⟩:=aO.mp E;have:=mem_downs.mp h;exact ⟨by show a<ms.length;lia,D a this⟩
def Spl (ws:List (Int×Nat)) (ms gs:List Int):Prop:=gs.length=ws.length/\fW ws.length (JS ws) (qB ws) (fun j=>ms.getD j 0) (fun a=>gs.getD a 0)
theorem Spl.unique {D:List Int} (F:iU ws.length (qB ws)) (h:Spl ws ms gs) (h':Spl ws ms D):gs=D:=by
 refine GH (by rw [h.1,h'.1]) fun j E=>?_
 exact R8 F h.2 h'.2 (by rw [<- h.1];exact E)
theorem xY (h:pT ws.length ws):iU ws.length (qB ws):=fun a D=>W3 h D
theorem DW (h:WeirsAt K H rs ws n):∀a,a<ws.length->qB ws a<n:=fun a D=>let ⟨_,_,_,q⟩:=nK h D;q
structure SplInv (ws:List (Int×Nat)) (ms hs gs:List Int) (k:Nat):Prop where
 lh:hs.length=ms.length
 lg:gs.length=ws.length
 flow:∀j,j<ms.length->hs.getD j 0=ms.getD j 0+yC (qB ws) (fun a=>gs.getD a 0) j ws.length
 zero:∀a,a<ws.length - k->gs.getD a 0=0
 done:∀a,ws.length - k<=a->a<ws.length->gs.getD a 0=JL (JS ws a) (ms.getD a 0+yC (qB ws) (fun a=>gs.getD a 0) a ws.length)
theorem SplInv.start (ws:List (Int×Nat)) (ms:List Int):SplInv ws ms ms (List.replicate ws.length 0) 0:=by
 have h:(fun a:Nat=>(List.replicate ws.length (0:Int)).getD a 0)=fun _=>0:=by
  funext a;rw [ac,dm]
  split<;>rfl
 refine ⟨rfl,by simp,fun j _=>?_,fun a _=>congrFun h a,fun a E D=>by lia⟩;rw [h,w8]
 lia
theorem SplInv.step {I:List Int} (hA:iU ws.length (qB ws)) (hR:ws.length<=ms.length) (hk:k<ws.length) (O:qB ws (ws.length - 1 - k)<ms.length) (h:SplInv ws ms I gs k) :
  SplInv ws ms (I.set (qB ws (ws.length - 1 - k)) (I.getD (qB ws (ws.length - 1 - k)) 0+(gs.set (ws.length - 1 - k) (JL (JS ws (ws.length - 1 - k)) (I.getD (ws.length - 1 - k) 0))).getD (ws.length - 1 - k) 0))
   (gs.set (ws.length - 1 - k) (JL (JS ws (ws.length - 1 - k)) (I.getD (ws.length - 1 - k) 0))) (k+1):=by
 obtain ⟨i,Z⟩:∃i,i=ws.length - 1 - k:=⟨_,rfl⟩;rw [<- Z] at O ⊢;obtain ⟨Y,S,G,E,done⟩:=h;have J:i<gs.length:=by rw [S];lia
 obtain ⟨v,V⟩:∃v,v=JL (JS ws i) (I.getD i 0):=⟨_,rfl⟩;rw [<- V];have D:∀a,(gs.set i v).getD a 0=if i=a then v else gs.getD a 0:=fun a=>gX gs i a v J
 have g0:gs.getD i 0=0:=E i (by lia);have L:(gs.set i v).getD i 0=v:=by rw [D,if_pos rfl]
 have F:∀j,yC (qB ws) (fun a=>(gs.set i v).getD a 0) j ws.length=yC (qB ws) (fun a=>gs.getD a 0) j ws.length+(if qB ws i=j then v else 0):=fun j=>by
  rw [DP (g:=fun a=>gs.getD a 0) (i:=i) (fun a M=>by show (gs.set i v).getD a 0=gs.getD a 0;rw [D,if_neg (Ne.symm M)]) j];show _+(if i<ws.length/\qB ws i=j then (gs.set i v).getD i 0 - gs.getD i 0 else 0)=_;rw [L,g0];have al:i<ws.length:=by lia
  repeat' split
  all_goals lia
 have ah:=hA i (by lia);refine ⟨by rw [cv,Y],by rw [cv,S],fun j hj=>?_,fun a M=>?_,fun a h1 h2=>?_⟩
 ·rw [gX _ _ _ _ (by rw [Y];exact O),F,L];have:=G j hj
  by_cases e:qB ws i=j
  ·rw [if_pos e,if_pos e,e]
   lia
  ·rw [if_neg e,if_neg e]
   lia
 ·rw [D,if_neg (by lia)];exact E a (by lia)
 ·rw [F]
  by_cases e:i=a
  ·subst e;rw [L,if_neg (by lia),fb,V,G i (by lia)]
  ·rw [D,if_neg e,if_neg (by lia),fb];exact done a (by lia) h2
theorem SplInv.spl {D:List Int} (h:SplInv ws ms D gs ws.length):Spl ws ms gs:=⟨h.lg,fun i E=>h.done i (by lia) E⟩
theorem FQ (n:Nat):(List.replicate n [V.int 0]).flatten=(List.replicate n (0:Int)).map V.int:=by
 induction n with
 |zero=>rfl
 |succ n h =>
  rw [bz,gb,h,bz,cf];rfl
structure Ready (K:W.Frag) (H:Hp) (wq wa:Addr) (rs:List V) (ws:List (Int×Nat)) (ms:List Int):Prop where
 w:SqL K H wq rs
 a:WeirsAt K H rs ws ms.length
 m:Ints K H wa ms
 ah:pT ws.length ws
 le:ws.length<=ms.length
 sm:ms.length<=1000
theorem Ready.same {E D:Addr} (e:Same H H') (h:Ready K H E D rs ws ms):Ready K H' E D rs ws ms:=⟨e.seq h.w,h.a.same e,h.m.same e,h.ah,h.le,h.sm⟩
def AZ (K:W.Frag):Sp:=fun D H Q _=>∃h rs,D=[.ref h]/\SqL K H h rs/\rs.length<=1000/\∀r H',Same H H'->H r=none->H' r=some (.lst ((zU rs.length).map fun (i:Nat)=>V.int (i:Int)))->Q (.ref r) H'
def FE (K:W.Frag):Sp:=fun E H Q _=>∃D h rs ws ms,E=[.ref D,.ref h]/\Ready K H D h rs ws ms/\
 ∀r H' gs,Same H H'->H r=none->H' r=some (.lst (gs.map V.int))->Spl ws ms gs->Q (.ref r) H'
def EB (K:W.Frag):Sp:=fun E H Q _=>∃D h rs ws ms,E=[.ref D,.ref h]/\Ready K H D h rs ws ms/\
 ∀r H' gs,Same H H'->H r=none->H' r=some (.tup ((yK ms ws gs).map V.int))->Spl ws ms gs->Q (.ref r) H'
theorem GL {R:Nat} {x:V} (h:((zU R).map fun (i:Nat)=>V.int (i:Int))[i]?=some x):i<R/\x=V.int ((R - 1 - i:Nat):Int):=by
 rw [ap] at h
 by_cases D:i<R
 ·rw [EU D] at h;exact ⟨D,(aA h).symm⟩
 ·rw [dg (by rw [e9];lia)] at h;cases h
theorem SH {R:Nat} (h:i<R):(yM t g R)[i]?=some (R - 1 - i,t (R - 1 - i),g (R - 1 - i)):=by
 unfold yM;rw [ap,EU h];rfl
def qM (q:Nat×Nat×Int):Bool := !decide (q.2.2=0)
theorem bS (j:Nat):∀qs:List (Nat×Nat×Int),qJ (qs.filter qM) j=qJ qs j
 |[]=>rfl
 |q::r=>by
  rw [aR]
  by_cases h:q.2.2=0
  ·rw [if_neg (by unfold qM;rw [aB h];decide)];show qJ (r.filter qM) j=(if q.2.1=j then q.2.2 else 0) - (if q.1=j then q.2.2 else 0)+qJ r j;rw [bS j r,h]
   repeat' split
   all_goals lia
  ·rw [if_pos (by unfold qM;rw [ax h];rfl)];show _+qJ (r.filter qM) j=_+qJ r j;rw [bS j r]
variable {qs:List (Nat×Nat×Int)}
theorem xD (h:∀q∈qs,q.1<ms.length/\q.2.1<ms.length):kC ms (qs.filter qM)=kC ms qs:=by
 refine GH (by rw [yB,yB]) fun j _=>?_
 rw [QV _ _ _ h,QV _ _ _ (fun q D=>h q (aV.mp D).1),bS]
theorem fB (F:ws.length<=n) (D:∀a,a<ws.length->qB ws a<n):∀q∈yM (qB ws) g ws.length,q.1<n/\q.2.1<n:=fun q E=>by
 obtain ⟨a,h,rfl⟩:=aO.mp E;have:=mem_downs.mp h;exact ⟨by show a<n;lia,D a this⟩
def PoursH (H:Hp) (rs:List V) (qs:List (Nat×Nat×Int)) (n:Nat):Prop:=rs.length=qs.length/\∀(i:Nat) r,rs[i]?=some r->∃a,∃(s t:Nat) (m:Int),r=.ref a/\qs[i]?=some (s,t,m)/\H a=some (.tup [.int s,.int t,.int m])/\s<n/\t<n
theorem PoursH.nil (H:Hp) (n:Nat):PoursH H [] [] n:=⟨rfl,fun i r h=>by cases h⟩
theorem PoursH.pa (h:PoursH H rs qs n):IF K H rs qs n:=⟨h.1,fun i r I=>by
 obtain ⟨a,s,t,m,F,D,E,G⟩:=h.2 i r I;exact ⟨a,s,t,m,F,D,SqT.of E,G⟩⟩
theorem PoursH.same (h:PoursH H rs qs n) (e:Same H H'):PoursH H' rs qs n:=⟨h.1,fun i r I=>by
 obtain ⟨a,s,t,m,F,D,E,G⟩:=h.2 i r I;exact ⟨a,s,t,m,F,D,e _ _ E,G⟩⟩
variable {o:HO}
theorem PoursH.put {d:Addr} {ys:List V} (h:PoursH H rs qs n) (E:H d=some (.lst ys)):PoursH (upd H d o) rs qs n:=⟨h.1,fun i r J=>by
 obtain ⟨a,s,t,m,G,F,D,I⟩:=h.2 i r J;exact ⟨a,s,t,m,G,F,by rw [j7 (fun z=>by rw [z,E] at D;cases D)];exact D,I⟩⟩
theorem PoursH.append {E:List V} {D:List (Nat×Nat×Int)} (h:PoursH H rs qs n) (h':PoursH H E D n):PoursH H (rs++E) (qs++D) n:=by
 refine ⟨by rw [af,af,h.1,h'.1],fun i r F=>?_⟩
 by_cases L:i<rs.length
 ·rw [aw L] at F;obtain ⟨a,s,t,m,J,G,I⟩:=h.2 i r F;exact ⟨a,s,t,m,J,by rw [aw (by rw [<- h.1];exact L)];exact G,I⟩
 ·rw [ar (by lia)] at F;obtain ⟨a,s,t,m,J,G,I⟩:=h'.2 _ r F;exact ⟨a,s,t,m,J,by rw [ar (by rw [<- h.1];lia),<- h.1];exact G,I⟩
theorem PoursH.snoc {s t:Nat} {m:Int} (h:PoursH H rs qs n) (F:H a=some (.tup [.int s,.int t,.int m])) (G:s<n) (E:t<n):PoursH H (rs++[.ref a]) (qs++[(s,t,m)]) n:=h.append ⟨rfl,fun i r D=>by
 rcases i with _|i
 ·cases D;exact ⟨a,s,t,m,rfl,rfl,F,G,E⟩
 ·cases D⟩
def x8 (K:W.Frag):Sp:=fun F H Q _=>∃E D rs ws ms,F=[.ref E,.ref D]/\Ready K H E D rs ws ms/\
 ∀r H' gs h,Same H H'->H r=none->H' r=some (.lst h)->PoursH H' h ((yM (qB ws) (fun a=>gs.getD a 0) ws.length).filter qM) ms.length->Spl ws ms gs->Q (.ref r) H'
def oQ (K:W.Frag):Sp:=fun F H Q _=>∃E D p rs ps ws ms qs,F=[.ref E,.ref D,.ref p]/\Ready K H E D rs ws ms/\H p=some (.lst ps)/\PoursH H ps qs ms.length/\ps.length<=500/\
 ∀r H' gs h,Same H H'->H r=none->H' r=some (.lst h)->PoursH H' h (qs++(yM (qB ws) (fun a=>gs.getD a 0) ws.length).filter qM) ms.length->Spl ws (kC ms qs) gs->Q (.ref r) H'
theorem SI (ws:List (Int×Nat)) (g:Nat->Int):((yM (qB ws) g ws.length).filter qM).length<=ws.length:=by
 refine aM (bw ..) ?_;unfold yM;rw [ae,e9];exact ao _
structure RC where
 name:Str
 least:Int
 crest:Int
 berths:Int
 water:Int
 target:Int
def RC.good (r:RC) (n:Nat):Prop:=0<=r.least/\r.least<=r.crest/\r.crest<=999999999999/\1<=r.berths/\r.berths<=9/\0<=r.water/\r.water<=999999999999/\-1<=r.target/\r.target<(n:Int)
theorem e12:(10:Int) ^ Int.toNat 12=1000000000000:=by trivial
structure LC where
 name:Str
 high:Int
 low:Int
 room:Int
 kd:Kd
 extra:Int
def LC.good (l:LC) (n:Nat):Prop:=1<=l.high/\l.high<(n:Int)/\0<=l.low/\l.low<l.high/\1<=l.room/\l.room<=999999999999/\(l.kd=.plain->l.extra=0)/\(l.kd≠.plain->1<=l.extra/\l.extra<=l.room)
def AllAt {α:Type} (P:V->α->Prop) (vs:List V) (xs:List α):Prop:=vs.length=xs.length/\∀(i:Nat) v,vs[i]?=some v->∃x,xs[i]?=some x/\P v x
theorem AllAt.nil {P:V->α->Prop}:AllAt P [] ([]:List α):=⟨rfl,fun i v h=>by cases h⟩
variable {vs:List V}
theorem AllAt.mono {P D:V->α->Prop} {xs:List α} (m:∀v x,P v x->D v x) (h:AllAt P vs xs):AllAt D vs xs:=⟨h.1,fun i v F=>by obtain ⟨x,G,E⟩:=h.2 i v F;exact ⟨x,G,m v x E⟩⟩
variable {v:V}
theorem AllAt.snoc {P:V->α->Prop} {xs:List α} {x:α} (h:AllAt P vs xs) (F:P v x):AllAt P (vs++[v]) (xs++[x]):=by
 refine ⟨by rw [af,af,h.1];rfl,fun i w D=>?_⟩
 by_cases E:i<vs.length
 ·rw [aw E] at D;rw [aw (by rw [<- h.1];exact E)];exact h.2 i w D
 ·rw [ar (by lia)] at D;have e:i=vs.length:=by
   by_cases z:i - vs.length=0
   ·lia
   ·rw [dg (by show 1<=i - vs.length;lia)] at D;cases D
  rw [e,gm] at D;cases D;refine ⟨x,?_,F⟩;rw [e,h.1,ar (ao _),gm];rfl
theorem AllAt.get {P:V->α->Prop} {xs:List α} (h:AllAt P vs xs) {x:α} (D:xs[i]?=some x):∃v,vs[i]?=some v/\P v x:=by
 have F:i<vs.length:=by rw [h.1];exact (ad.mp D).1
 obtain ⟨y,E,G⟩:=h.2 i _ (aa F);rw [D] at E;cases E;exact ⟨_,aa F,G⟩
def QAt (H:Hp) (v:V) (p:Int×Int):Prop:=∃t,v=.ref t/\H t=some (.tup [.int p.1,.int p.2])
def NAt (D:List Addr) (H:Hp) (v:V) (ps:List (Int×Int)):Prop:=∃l qs,v=.ref l/\H l=some (.lst qs)/\AllAt (QAt H) qs ps/\l∉D
theorem QAt.same (e:Same H H') (v:V) (r:Int×Int):QAt H v r->QAt H' v r:=fun ⟨t,h,D⟩=>⟨t,h,e _ _ D⟩
theorem QAt.put {d:Addr} {ys:List V} (E:H d=some (.lst ys)) (v:V) (r:Int×Int):QAt H v r->QAt (upd H d o) v r:=fun ⟨t,D,h⟩=>⟨t,D,by rw [j7 (fun z=>by rw [z,E] at h;cases h)];exact h⟩
variable {D:List Addr}
theorem NAt.same (e:Same H H') (v:V) (r:List (Int×Int)):NAt D H v r->NAt D H' v r:=fun ⟨l,qs,E,G,h,F⟩=>⟨l,qs,E,e _ _ G,h.mono (QAt.same e),F⟩
theorem NAt.put {d:Addr} {ys:List V} (E:H d=some (.lst ys)) (G:d∈D) (v:V) (r:List (Int×Int)):NAt D H v r->NAt D (upd H d o) v r:=fun ⟨l,qs,I,J,F,h⟩=>⟨l,qs,I,by rw [j7 (fun z=>h (by rw [z];exact G))];exact J,F.mono (QAt.put E),h⟩
theorem NAt.less {h:List Addr} (F:∀d∈h,d∈D) (v:V) (r:List (Int×Int)):NAt D H v r->NAt h H v r:=fun ⟨l,qs,I,J,E,G⟩=>⟨l,qs,I,J,E,fun z=>G (F _ z)⟩
variable {f:Str} {fs:List (Str×V)}
theorem zI:(jS f v fs).lookup f=some v:=by rw [yY,if_pos rfl]
theorem kP {g:Str} (h:¬g=f):(jS f v fs).lookup g=fs.lookup g:=by rw [yY,if_neg h]
def AI (fs:List (Str×V)) (J I F h G E:V):Prop:=fs.lookup ("name":Str)=some J/\fs.lookup ("least":Str)=some I/\fs.lookup ("crest":Str)=some F/\fs.lookup ("berths":Str)=some h/\fs.lookup ("water":Str)=some G/\fs.lookup ("target":Str)=some E
theorem TY (J G F h I E:V):AI (jS "target" E (jS "water" I (jS "berths" h (jS "crest" F (jS "least" G (jS "name" J [])))))) J G F h I E:=by
 refine ⟨?_,?_,?_,?_,?_,?_⟩
 ·rw [kP (f:="target") (g:="name") (by trivial),kP (f:="water") (g:="name") (by trivial),kP (f:="berths") (g:="name") (by trivial),kP (f:="crest") (g:="name") (by trivial),kP (f:="least") (g:="name") (by trivial),zI]
 ·rw [kP (f:="target") (g:="least") (by trivial),kP (f:="water") (g:="least") (by trivial),kP (f:="berths") (g:="least") (by trivial),kP (f:="crest") (g:="least") (by trivial),zI]
 ·rw [kP (f:="target") (g:="crest") (by trivial),kP (f:="water") (g:="crest") (by trivial),kP (f:="berths") (g:="crest") (by trivial),zI]
 ·rw [kP (f:="target") (g:="berths") (by trivial),kP (f:="water") (g:="berths") (by trivial),zI]
 ·rw [kP (f:="target") (g:="water") (by trivial),zI]
 ·rw [zI]
def wY (c:Addr):Sp:=fun vs H Q _=>∃x L J I F h G E,vs=[.ref x,J,I,F,h,G,E]/\H x=some (.ins c L [])/\∀H' fs,Keep x H H'->H' x=some (.ins c L fs)->AI fs J I F h G E->Q .non H'
def RcAt (h:Addr) (H:Hp) (x:Addr) (r:RC):Prop:=∃E fs,H x=some (.ins h E fs)/\AI fs (.str r.name) (.int r.least) (.int r.crest) (.int r.berths) (.int r.water) (.int r.target)
variable {cR:Addr}
theorem RcAt.same {r:RC} (e:Same H H') (h:RcAt cR H x r):RcAt cR H' x r:=by
 obtain ⟨G,fs,F,E⟩:=h;exact ⟨G,fs,e _ _ F,E⟩
theorem y8 {X:Cx} (K:W.Frag) (h:X.K=K:=by rfl):y7 X (.type "list") (fun xs H Q=>∃p ys,xs=[.ref p]/\(SqL K H p ys\/SqT K H p ys)/\∀l,H l=none->Q (.ref l) (upd H l (.lst ys))):=by subst h;exact SD
theorem j6 {X:Cx} (K:W.Frag) {e:Expr} {G:Pos} {E:TE} (he:PE X e E) (F:attributeBase e f X.env (eval e X.env)=eval e X.env) (h:X.K=K:=by rfl):PE X (.Attribute e f G) (K4 K E f):=by subst h;exact LT he F
def CanalFld (fs:List (Str×V)) (r l n:V):Prop:=fs.lookup ("reaches":Str)=some r/\fs.lookup ("locks":Str)=some l/\fs.lookup ("nights":Str)=some n/\∀m:Str,¬m="reaches"->¬m="locks"->¬m="nights"->fs.lookup m=none
theorem TZ (r l n:V):CanalFld (jS "nights" n (jS "locks" l (jS "reaches" r []))) r l n:=by
 refine ⟨?_,?_,?_,fun m h E F=>?_⟩
 ·rw [kP (f:="nights") (g:="reaches") (by trivial),kP (f:="locks") (g:="reaches") (by trivial),zI]
 ·rw [kP (f:="nights") (g:="locks") (by trivial),zI]
 ·rw [zI]
 ·rw [kP F,kP E,kP h];rfl
theorem CanalFld.no {r l n:V} (h:CanalFld fs r l n) {m:Str} (F:¬m="reaches") (E:¬m="locks") (G:¬m="nights"):fs.lookup m=none:=h.2.2.2 m F E G
def RcO (cR:Addr) (H:Hp) (v:V) (r:RC):Prop:=∃x,v=.ref x/\RcAt cR H x r
def LkO (cs:Kd->Addr) (H:Hp) (v:V) (l:LC):Prop:=∃x,v=.ref x/\LockAt cs H x l.kd (.str l.name) (.int l.high) (.int l.low) l.room l.extra
theorem RcO.same (e:Same H H') (v:V) (r:RC):RcO cR H v r->RcO cR H' v r:=fun ⟨x,h,E⟩=>⟨x,h,E.same e⟩
theorem LkO.same (e:Same H H') (v:V) (l:LC):LkO cs H v l->LkO cs H' v l:=fun ⟨x,h,E⟩=>⟨x,h,E.same e⟩
theorem RcO.keep {y:Addr} {ys:List V} (k:Keep y H H') (G:H y=some (.lst ys)) (v:V) (r:RC):RcO cR H v r->RcO cR H' v r:=fun ⟨x,F,I,fs,h,E⟩=>⟨x,F,I,fs,k _ _ (yP h G (fun z=>nomatch z)) h,E⟩
theorem LkO.keep {y:Addr} {ys:List V} (k:Keep y H H') (G:H y=some (.lst ys)) (v:V) (l:LC):LkO cs H v l->LkO cs H' v l:=fun ⟨x,E,F,h⟩=>⟨x,E,F,k _ _ (yP h G (fun z=>nomatch z)) h⟩
theorem RcO.keepI {y c d:Addr} (k:Keep y H H') (G:H y=some (.ins c d [])) (v:V) (r:RC):RcO cR H v r->RcO cR H' v r:=fun ⟨x,F,I,fs,h,E⟩=>⟨x,F,I,fs,k _ _ (fun z=>by rw [z,G] at h;cases h;cases E.1) h,E⟩
theorem LkO.keepI {y c d:Addr} (k:Keep y H H') (G:H y=some (.ins c d [])) (v:V) (l:LC):LkO cs H v l->LkO cs H' v l:=fun ⟨x,E,F,h⟩=>⟨x,E,F,k _ _ (fun z=>by
 rw [z,G] at h;have e:=dH l.kd (.str l.name) (.int l.high) (.int l.low) (.int l.room) (.int l.extra);injection h with h;injection h with h h3 h4
 rw [<- h4] at e;cases e) h⟩
theorem QAt.keep {y:Addr} (k:Keep y H H') (G:H y=some o) (F:∀xs,o≠.tup xs) (v:V) (p:Int×Int):QAt H v p->QAt H' v p:=fun ⟨t,E,h⟩=>⟨t,E,k _ _ (fun z=>by rw [z,G] at h;exact F _ (aA h)) h⟩
def CnAt (cs:Kd->Addr) (cR J:Addr) (D:List Addr) (H:Hp) (x:Addr) (R:List RC) (L:List LC) (N:List (List (Int×Int))):Prop:=∃M F E h fs rs I G,H x=some (.ins J M fs)/\CanalFld fs (.ref F) (.ref E) (.ref h)/\H F=some (.lst rs)/\H E=some (.lst I)/\H h=some (.lst G)/\AllAt (RcO cR H) rs R/\AllAt (LkO cs H) I L/\AllAt (NAt D H) G N/\F∉D/\E∉D/\h∉D
variable {cN:Addr} {R:List RC} {L:List LC} {N:List (List (Int×Int))}
theorem CnAt.same (e:Same H H') (h:CnAt cs cR cN D H x R L N):CnAt cs cR cN D H' x R L N:=by
 obtain ⟨dx,S,M,J,fs,rs,ls,V,Y,h2,I,Z,E,h6,F,O,G⟩:=h;exact ⟨dx,S,M,J,fs,rs,ls,V,e _ _ Y,h2,e _ _ I,e _ _ Z,e _ _ E,h6.mono (RcO.same e),F.mono (LkO.same e),O.mono (NAt.same e),G⟩
def jBv (H:Hp) (F:V) (N:List (List (Int×Int))):Prop:=(F=.non/\N=[])\/∃E h,F=.ref E/\H E=some (.lst h)/\AllAt (NAt [] H) h N/\h.length<=100
def wZ (cs:Kd->Addr) (cR cN:Addr):Sp:=fun vs H Q _=>∃x I E h F rs G R L N,vs=[.ref x,.ref E,.ref h,F]/\H x=some (.ins cN I [])/\H E=some (.lst rs)/\H h=some (.lst G)/\AllAt (RcO cR H) rs R/\AllAt (LkO cs H) G L/\jBv H F N/\
 ∀H',Keep x H H'->(∀D:List Addr,(∀d∈D,H d≠none)->CnAt cs cR cN D H' x R L N)->Q .non H'
def bF (cs:Kd->Addr) (cR cN:Addr) (F:Nat->Nat->Int):Sp:=fun vs H Q _=>∃x D R L N,vs=[.ref x]/\CnAt cs cR cN D H x R L N/\Q (.int (F R.length L.length)) H
def dR (cs:Kd->Addr) (cR cN:Addr) (F:Nat->Nat->Int->Int):Sp:=fun vs H Q _=>∃x D R L N,∃(k:Int),vs=[.ref x,.int k]/\CnAt cs cR cN D H x R L N/\Q (.int (F R.length L.length k)) H
def QL (h:Int) (r:RC):Int×Int:=(r.crest,if r.target = -1 then h else r.target)
def QD (n m:Nat):Int:=(n:Int)+2*(m:Int)
def cE (n m:Nat):Int:=(n:Int)+2*(m:Int)+1
def pH (n m:Nat):Int:=(n:Int)+2*(m:Int)+1+1
def QO (n h:Nat) (k:Int):Int:=(n:Int)+k
def JA (n m:Nat) (k:Int):Int:=(n:Int)+(m:Int)+k
def iD (cs:Kd->Addr) (cR cN:Addr):Sp:=fun vs H Q _=>∃x D R L N,vs=[.ref x]/\CnAt cs cR cN D H x R L N/\R.length<=100/\
 ∀l ws H',Same H H'->H l=none->H' l=some (.lst ws)->AllAt (QAt H') ws (R.map (QL (QD R.length L.length)))->Q (.ref l) H'
structure Drawn (R:List RC) (L:List LC) (N:List (List (Int×Int))):Prop where
 r8:R.length<=8
 r1:1<=R.length
 l8:L.length<=8
 n6:N.length<=6
 good:∀(i:Nat) (r:RC),R[i]?=some r->r.good i
 lock:∀(i:Nat) (l:LC),L[i]?=some l->l.good R.length
 night:∀p∈N,p.length=R.length
theorem iJ {E:Addr} {o':HO} (nx:H x=none) (h:H E=none):Same H (upd (upd H E o) x o'):=fun b u e=>by rw [j7 (q9 e nx),j7 (q9 e h)];exact e
theorem iF {E h:Hp} (nx:H x=none) (u:Same H E) (k:Keep x E h):Same H h:=fun b o e=>k b o (q9 e nx) (u b o e)
def BJ (h:Nat) (r:RC):Int×Nat:=(r.crest,if r.target = -1 then h else r.target.toNat)
def kR (R:List RC) (m:Nat):List (Int×Nat):=R.map (BJ (R.length+2*m))
def v8 (R:List RC) (m:Nat):List Int:=R.map (·.water)++List.replicate (2*m+2) 0
theorem zG (R:List RC) (m:Nat):(kR R m).length=R.length:=ae _
theorem QW (R:List RC) (m:Nat):(v8 R m).length=R.length+2*m+2:=by
 unfold v8;rw [af,ae,cb]
 lia
def bE (R:List RC):Prop:=∀(i:Nat) r,R[i]?=some r->-1<=r.target/\r.target<(i:Int)
variable {m:Nat}
theorem mS (h:bE R):pT (kR R m).length (kR R m):=by
 intro i c t E;rw [zG];unfold kR at E;rw [ap] at E;cases F:R[i]? with
 |none=>rw [F] at E;cases E
 |some r =>
  rw [F] at E;have e:BJ (R.length+2*m) r=(c,t):=aA E;obtain ⟨M,J⟩:=h i r F;unfold BJ at e;have G:(if r.target = -1 then R.length+2*m else r.target.toNat)=t:=bf Prod.snd e
  by_cases I:r.target = -1
  ·rw [if_pos I] at G;lia
  ·rw [if_neg I] at G;lia
theorem E7 {ws:List V} (J:bE R) (h:AllAt (QAt H) ws (R.map (QL (QD R.length m)))):WeirsAt K H ws (kR R m) (v8 R m).length:=by
 refine ⟨by rw [h.1,ae,zG],fun i v I=>?_⟩;obtain ⟨p,F,t,rfl,E⟩:=h.2 i v I;rw [ap] at F;cases G:R[i]? with
 |none=>rw [G] at F;cases F
 |some r =>
  rw [G] at F;cases F;obtain ⟨M,O⟩:=J i r G;have S:i<R.length:=(ad.mp G).1;refine ⟨t,r.crest,if r.target = -1 then R.length+2*m else r.target.toNat,rfl,?_,?_,?_⟩
  ·unfold kR;rw [ap,G];rfl
  ·have e:(((if r.target = -1 then R.length+2*m else r.target.toNat):Nat):Int)=(QL (QD R.length m) r).2:=by
    unfold QL QD
    by_cases E:r.target = -1
    ·rw [if_pos E,if_pos E];lia
    ·rw [if_neg E,if_neg E];lia
   rw [e];exact SqT.of E
  ·rw [QW];split<;>lia
def x6 (cs:Kd->Addr) (cR cN:Addr):Sp:=fun vs H Q _=>∃x D R L N,vs=[.ref x]/\CnAt cs cR cN D H x R L N/\R.length<=100/\L.length<=100/\bE R/\
 ∀r H' gs,Same H H'->H r=none->H' r=some (.tup ((yK (v8 R L.length) (kR R L.length) gs).map V.int))->Spl (kR R L.length) (v8 R L.length) gs->Q (.ref r) H'
def oR (cs:Kd->Addr) (cR cN:Addr):Sp:=fun vs H Q _=>∃x h D R L N,∃(ms:List Int) (k:Nat),vs=[.ref x,.ref h,.int (k:Int)]/\CnAt cs cR cN D H x R L N/\H h=some (.tup (ms.map V.int))/\R.length+k<ms.length/\Q (.bl (decide (0<ms.getD (R.length+k) 0))) H
theorem JE (h:Drawn R L N):bE R:=fun i r F=>by
 obtain ⟨Y,I,J,V,M,S,O,E,G⟩:=h.good i r F;exact ⟨E,G⟩
def dJ (K:W.Frag):Sp:=fun vs H Q _=>∃s,∃(h:List Int) (k:Int) (m:Int),vs=[.ref s,.int k,.int m]/\SqL K H s (h.map V.int)/\h.length<=63/\0<=k/\k<=100000/\1<=m/\∀z:Int,0<=z->z<m->Q (.int z) H
def AW (K:W.Frag):Sp:=fun vs H Q _=>∃s,∃(h:List Int),vs=[.ref s]/\SqL K H s (h.map V.int)/\h.length<=63/\∀z:Int,1<=z->z<=10000000000->Q (.int z) H
theorem jBn {k:Int} (h:0<=k) (E:k<=100000):0<=k*k/\k*k<=10000000000:=by
 refine ⟨Int.mul_nonneg h h,?_⟩;have:=Int.mul_le_mul E E h (by decide:(0:Int)<=100000)
 lia
def EA (K:W.Frag):Sp:=fun vs H Q _=>∃s,∃(h:List Int) (k n:Nat) (u:Int),vs=[.ref s,.int (k:Int),.int (n:Int),.int u]/\SqL K H s (h.map V.int)/\h.length<=63/\k<6/\n<=8/\1<=u/\u<=10000000000/\∀l p H',p.length=n->(∀q∈p,0<=q.1/\0<=q.2)->Same H H'->H l=none->NAt [] H' (.ref l) p->Q (.ref l) H'
theorem KJ (zs:List Int) {i:Int} (F:0<=i) (h:i<(zs.length:Int)):∃z∈zs,vM (zs.map V.int) i=some (.int z):=by
 have E:i.toNat<zs.length:=by lia
 have:=qF (xs:=zs.map V.int) (j:=i.toNat) (v:=.int zs[i.toNat]) (by rw [ap,aa E];rfl);rw [show ((i.toNat:Nat):Int)=i by lia] at this;exact ⟨_,cw E,this⟩
theorem dL {a u:Int} {m:Int} (G:0<=a) (h:a<=m) (I:1<=u) (E:u<=10000000000) (F:0<=m):0<=a*u/\a*u<=m*10000000000:=by
 refine ⟨Int.mul_nonneg G (by lia),?_⟩;exact Int.mul_le_mul h E (by lia) F
def bL (b:Bool):Str:=if b then "up" else "down"
def yO (L:List LC) (p:Nat×Bool):Int×Int:=match L[p.1]? with
 |some l=>if p.2 then (l.low,l.high) else (l.high,l.low)
 |none=>(0,0)
theorem Z5 {l:LC} (h:L[k]?=some l):yO L (k,true)=(l.low,l.high):=by unfold yO;rw [h];rfl
theorem Z2 {l:LC} (h:L[k]?=some l):yO L (k,false)=(l.high,l.low):=by unfold yO;rw [h];rfl
def PAt (H:Hp) (v:V) (p:Nat×Bool):Prop:=∃t,v=.ref t/\H t=some (.tup [.int (p.1:Int),.str (bL p.2)])
theorem PAt.same (e:Same H H') (v:V) (p:Nat×Bool):PAt H v p->PAt H' v p:=fun ⟨t,h,E⟩=>⟨t,h,e _ _ E⟩
theorem PAt.put {d:Addr} {ys:List V} (F:H d=some (.lst ys)) (v:V) (p:Nat×Bool):PAt H v p->PAt (upd H d o) v p:=fun ⟨t,E,h⟩=>⟨t,E,by rw [j7 (fun z=>by rw [z,F] at h;cases h)];exact h⟩
def vC (L:List LC) (s:Int) (ps:List (Nat×Bool)):List Int:=s::ps.map fun p=>(yO L p).2
def QS (L:List LC) (s:Int) (ps:List (Nat×Bool)):Prop:=∀(j:Nat) (p:Nat×Bool),ps[j]?=some p->(vC L s ps)[j]?=some (yO L p).1
theorem xS (L:List LC) (s:Int) (ps:List (Nat×Bool)) (p:Nat×Bool):vC L s (ps++[p])=vC L s ps++[(yO L p).2]:=by unfold vC;rw [aJ];rfl
theorem iH (L:List LC) (s:Int) (ps:List (Nat×Bool)):(vC L s ps).length=ps.length+1:=by unfold vC;rw [dv,ae]
theorem U8 (L:List LC) (s:Int) (ps:List (Nat×Bool)) (i:Nat):(vC L s ps).take (i+1)=vC L s (ps.take i):=by unfold vC;rw [take_succ_cons,map_take]
theorem YB {s:Int} {ps:List (Nat×Bool)} (h:j<ps.length+1):(vC L s ps)[j]?=(vC L s (ps.take j))[j]?:=by
 rw [<- U8,List.getElem?_take,if_pos (by lia)]
variable {p:Nat×Bool}
theorem xF (d:Drawn R L N) (h:p.1<L.length):∃l,L[p.1]?=some l/\l.good R.length:=⟨_,aa h,d.lock _ _ (aa h)⟩
def bZ (L:List LC) (r:Int) (k:Nat):List (Nat×Bool):=match L[k]? with
 |some l=>(if l.low=r then [(k,true)] else [])++(if l.high=r then [(k,false)] else [])
 |none=>[]
def bR (L:List LC) (r:Int) (n:Nat):List (Nat×Bool):=(List.range n).flatMap (bZ L r)
def oP (L:List LC) (r:Int):List (Nat×Bool):=bR L r L.length
theorem wS (L:List LC) (r:Int) (n:Nat):bR L r (n+1)=bR L r n++bZ L r n:=by unfold bR;rw [ei,flatMap_append];simp
theorem turnK_mem {r:Int}:p∈bZ L r k↔p.1=k/\k<L.length/\(yO L p).1=r:=by
 unfold bZ
 by_cases E:k<L.length
 ·rw [aa E];show p∈(if L[k].low=r then [(k,true)] else [])++(if L[k].high=r then [(k,false)] else [])↔_;rw [aI];have J:=Z5 (aa E);have I:=Z2 (aa E);obtain ⟨O,M⟩:=p;constructor
  ·rintro (h|h)
   ·split at h
    ·cases av.mp h;rw [J];exact ⟨rfl,E,by assumption⟩
    ·cases h
   ·split at h
    ·cases av.mp h;rw [I];exact ⟨rfl,E,by assumption⟩
    ·cases h
  ·rintro ⟨G,_,F⟩;have G:O=k:=G;subst G;cases M
   ·rw [I] at F;exact .inr (by rw [if_pos F];simp)
   ·rw [J] at F;exact .inl (by rw [if_pos F];simp)
 ·rw [dg (by lia)];constructor
  ·intro h;cases h
  ·intro h;lia
theorem turns_mem {r:Int}:p∈oP L r↔p.1<L.length/\(yO L p).1=r:=by
 unfold oP bR;rw [mem_flatMap];constructor
 ·rintro ⟨k,I,h⟩;obtain ⟨E,F,G⟩:=turnK_mem.mp h;exact ⟨by lia,G⟩
 ·rintro ⟨E,F⟩;exact ⟨p.1,bp.mpr E,turnK_mem.mpr ⟨rfl,E,F⟩⟩
theorem T6 (L:List LC) (r:Int) (k:Nat):(bZ L r k).length<=2:=by
 unfold bZ
 split
 ·rw [af];split<;>split<;>simp
 ·exact aN _
theorem SG (L:List LC) (r:Int) (n:Nat):(bR L r n).length<=2*n:=by
 induction n with
 |zero=>exact ao _
 |succ n h=>rw [wS,af];have:=T6 L r n;lia
def GX (cs:Kd->Addr) (cR cN:Addr):Sp:=fun vs H Q _=>∃x,∃(r:Int),∃D R L N,vs=[.ref x,.int r]/\CnAt cs cR cN D H x R L N/\L.length<=8/\∀l h H',Same H H'->H l=none->H' l=some (.lst h)->AllAt (PAt H') h (oP L r)->Q (.ref l) H'
def IQ (cs:Kd->Addr):Sp:=fun vs H Q _=>∃y l b,vs=[.ref y,.str (bL b)]/\LkO cs H (.ref y) l/\∀t H',Same H H'->H t=none->H' t=some (.tup [.int (if b then l.low else l.high),.int (if b then l.high else l.low)])->Q (.ref t) H'
theorem KG (b:Bool):decide (V.str (bL b)=V.str "up")=b:=by
 cases b
 ·exact ax fun h=>absurd (V.str.inj h) (by trivial)
 ·exact aB rfl
theorem V9 {s:Int} {ps:List (Nat×Bool)} {a:Int} (h:(vC L s ps)[ps.length]?=some a):QS L s (ps++[p])↔QS L s ps/\(yO L p).1=a:=by
 have e:∀j,j<=ps.length->(vC L s (ps++[p]))[j]?=(vC L s ps)[j]?:=fun j G=>by
  rw [xS,aw (by rw [iH];lia)]
 constructor
 ·intro F;refine ⟨fun j q E=>?_,?_⟩
  ·have G:j<ps.length:=(ad.mp E).1;have:=F j q (by rw [aw G];exact E)
   rwa [e j (by lia)] at this
  ·have:=F ps.length p (by rw [ar (ao _),gm];rfl);rw [e _ (ao _),h] at this;exact (aA this).symm
 ·rintro ⟨F,J⟩ j q E
  by_cases G:j<ps.length
  ·rw [aw G] at E;rw [e j (by lia)];exact F j q E
  ·rw [ar (by lia)] at E;have I:j - ps.length=0:=by
    have:=(ad.mp E).1;rw [aE] at this
    lia
   rw [I] at E;cases E;rw [show j=ps.length by lia,e _ (ao _),h,J]
theorem nI (zs:List Int):(zs.map V.int).all vY=true:=by
 rw [dw];intro x h;obtain ⟨z,_,rfl⟩:=aO.mp h;rfl
abbrev vE:=Int×List (Nat×Bool)
def WyAt (H:Hp) (v:V) (y:vE):Prop:=∃t h E,v=.ref t/\H t=some (.tup [.int y.1,.ref h])/\H h=some (.tup E)/\AllAt (PAt H) E y.2
theorem WyAt.same (e:Same H H') (v:V) (y:vE):WyAt H v y->WyAt H' v y:=fun ⟨t,h,J,F,I,E,G⟩=>⟨t,h,J,F,e _ _ I,e _ _ E,G.mono (PAt.same e)⟩
structure WyOk (L:List LC) (y:vE):Prop where
 lt:∀p∈y.2,p.1<L.length
 ok:QS L y.1 y.2
 le:y.2.length<=8
def StAt (H:Hp) (t:Addr) (d:Int) (ms:List Int) (pl:List Nat):Prop:=∃E h:Addr,H t=some (.tup [.int d,.ref E,.ref h])/\H E=some (.tup (ms.map V.int))/\H h=some (.tup (pl.map fun (p:Nat)=>V.int (p:Int)))
variable {d:Int} {pl:List Nat}
theorem StAt.same {t:Addr} (e:Same H H') (h:StAt H t d ms pl):StAt H' t d ms pl:=by
 obtain ⟨J,G,I,E,F⟩:=h;exact ⟨J,G,e _ _ I,e _ _ E,e _ _ F⟩
structure Fleet (L:List LC) (ys:List vE) (pl:List Nat):Prop where
 len:pl.length=ys.length
 n10:ys.length<=10
 ok:∀y∈ys,WyOk L y
 le:∀(i:Nat) (y:vE) (p:Nat),ys[i]?=some y->pl[i]?=some p->p<=y.2.length
def EndAt (L:List LC) (r:Int):Prop:=∃p:Nat×Bool,p.1<L.length/\(yO L p).1=r
theorem EndAt.turns {r:Int} (h:EndAt L r):0<(oP L r).length:=by
 obtain ⟨p,F,E⟩:=h;exact length_pos_of_mem (turns_mem.mpr ⟨F,E⟩)
theorem EndAt.next (h:p.1<L.length):EndAt L (yO L p).2:=by
 obtain ⟨E,F⟩:=p;have e:=aa h;cases F
 ·exact ⟨(E,true),h,by rw [Z5 e,Z2 e]⟩
 ·exact ⟨(E,false),h,by rw [Z5 e,Z2 e]⟩
theorem XU (L:List LC) (s:Int):QS L s []:=fun j p h=>by cases h
theorem atI_last (E:xs.length=n+1) (h:xs[n]?=some v):vM xs (-1)=some v:=by
 have e:QG xs.length (-1)=some n:=by
  unfold QG;rw [if_neg (by decide),if_pos (by lia)]
  congr 1
  lia
 unfold vM;rw [e];exact h
def x9 (K:W.Frag) (cs:Kd->Addr) (cR cN G:Addr):Sp:=fun vs H Q E=>∃x h,∃(s:Int),∃F ps D R L N,vs=[.ref x,.int s,.ref h]/\CnAt cs cR cN D H x R L N/\H h=some (.tup F)/\AllAt (PAt H) F ps/\(∀p∈ps,p.1<L.length)/\ps.length<=100/\
 (QS L s ps->∀r H',Same H H'->H r=none->H' r=some (.lst ((vC L s ps).map V.int))->Q (.ref r) H')/\(¬QS L s ps->∀H',Same H H'->E (.ref G) none H')
def xM (K:W.Frag) (cs:Kd->Addr) (cR cN:Addr):Sp:=fun vs H Q _=>∃x h,∃(s:Int),∃E ps D R L N,vs=[.ref x,.int s,.ref h]/\CnAt cs cR cN D H x R L N/\H h=some (.tup E)/\AllAt (PAt H) E ps/\(∀p∈ps,p.1<L.length)/\ps.length<=100/\QS L s ps/\
 ∀r H',Same H H'->H r=none->H' r=some (.lst ((vC L s ps).map V.int))->Q (.ref r) H'
theorem TH {S:Addr}:∀vs H Q E,xM K cs cR cN vs H Q E->x9 K cs cR cN S vs H Q (fun _ _ _=>False):=by
 rintro vs H Q E ⟨x,G,s,Y,ps,D,R,L,N,e,M,I,J,O,F,V,q⟩;exact ⟨x,G,s,Y,ps,D,R,L,N,e,M,I,J,O,F,fun _=>q,fun h=>absurd V h⟩
def LM (H:Hp) (t:Addr) (d:Int) (ms ps:List Int):Prop:=∃E h:Addr,H t=some (.tup [.int d,.ref E,.ref h])/\H E=some (.tup (ms.map V.int))/\H h=some (.tup (ps.map V.int))
theorem StAt.toI {t:Addr} (h:StAt H t d ms pl):LM H t d ms (pl.map fun (p:Nat)=>(p:Int)):=by
 obtain ⟨J,G,I,E,F⟩:=h;exact ⟨J,G,I,E,by rw [map_map];exact F⟩
def dW (p q:List (Int×Int)) (i:Nat):Bool:=decide ((q.getD i (0,0)).1<=(p.getD i (0,0)).1)&&decide ((p.getD i (0,0)).2<=(q.getD i (0,0)).2)
def b7 (p q:List (Int×Int)):Bool:=(List.range p.length).all (dW p q)
theorem W5 {p q:List (Int×Int)} {a b:Int×Int} (h:p[i]?=some a) (E:q[i]?=some b):dW p q i=(decide (b.1<=a.1)&&decide (a.2<=b.2)):=by
 unfold dW;rw [ac,ac,h,E];rfl
def IM:Sp:=fun vs H Q _=>∃a b E ws p h,vs=[.ref a,.ref b]/\H a=some (.tup E)/\H b=some (.lst ws)/\AllAt (QAt H) E p/\AllAt (QAt H) ws h/\h.length=p.length/\p.length<=100/\∀H',Same H H'->Q (.bl (b7 p h)) H'
theorem gZ (p:Str×Str×Int->Bool) (f:Str×Int->Str×Str×Int) (F:∀q,(f q).2.2=q.2):∀ps:List (Str×Int),(kZ p ((ps.filter vV).map f)).sum=(kZ p (ps.map f)).sum
 |[]=>rfl
 |q::r=>by
  have E:=gZ p f F r;have e:∀(z:Str×Str×Int) (l:List (Str×Str×Int)),(kZ p (z::l)).sum=(if p z=true then z.2.2 else 0)+(kZ p l).sum:=by
   intro z l;unfold kZ;rw [aR]
   split
   ·rw [cf,sum_cons]
   ·rw [ck]
  rw [cf,e,aR]
  by_cases h:q.2=0
  ·rw [if_neg (by unfold vV;rw [aB h];decide),E,F,h]
   split<;>rw [ck]
  ·rw [if_pos (by unfold vV;rw [ax h];rfl),cf,e,E]
theorem VL (room v b:Int):qT b (qN .basin room v b)=v:=by
 unfold qT bX qN zZ;rw [gZ _ _ (fun _=>rfl),gZ _ _ (fun _=>rfl)];have F:kZ (toS "basin") (([("basin",v - b),("low",room - (v - b))]:List (Str×Int)).map fun p=>("chamber",p.1,p.2))=[v - b]:=by
  show List.map _ (List.filter _ [(("chamber":Str),("basin":Str),v - b),("chamber","low",room - (v - b))])=_;rw [aR,if_pos (show toS "basin" (("chamber":Str),("basin":Str),v - b)=true from aB rfl),aR,if_neg (show ¬toS "basin" (("chamber":Str),("low":Str),room - (v - b))=true from fun h=>absurd (bc h) (show ¬("low":Str)="basin" by trivial))];rfl
 have G:kZ (v7 "basin") (([("basin",v - b),("low",room - (v - b))]:List (Str×Int)).map fun p=>("chamber",p.1,p.2))=[]:=by
  show List.map _ (List.filter _ [(("chamber":Str),("basin":Str),v - b),("chamber","low",room - (v - b))])=_;have E:¬("chamber":Str)="basin":=by trivial
  rw [aR,if_neg (show ¬v7 "basin" (("chamber":Str),("basin":Str),v - b)=true from fun h=>E (bc h)),aR,if_neg (show ¬v7 "basin" (("chamber":Str),("low":Str),room - (v - b))=true from fun h=>E (bc h))];rfl
 rw [F,G];show b+(v - b+0) - 0=v
 lia
theorem TX (room v b:Int):qT b (qX .basin room v b)=0:=by
 unfold qT bX qX QC;rw [gZ _ _ (fun _=>rfl),gZ _ _ (fun _=>rfl)];have F:kZ (v7 "basin") (([("basin",b),("high",room - b)]:List (Str×Int)).map fun p=>(p.1,"chamber",p.2))=[b]:=by
  show List.map _ (List.filter _ [(("basin":Str),("chamber":Str),b),("high","chamber",room - b)])=_;rw [aR,if_pos (show v7 "basin" (("basin":Str),("chamber":Str),b)=true from aB rfl),aR,if_neg (show ¬v7 "basin" (("high":Str),("chamber":Str),room - b)=true from fun h=>absurd (bc h) (show ¬("high":Str)="basin" by trivial))];rfl
 have G:kZ (toS "basin") (([("basin",b),("high",room - b)]:List (Str×Int)).map fun p=>(p.1,"chamber",p.2))=[]:=by
  show List.map _ (List.filter _ [(("basin":Str),("chamber":Str),b),("high","chamber",room - b)])=_;have E:¬("chamber":Str)="basin":=by trivial
  rw [aR,if_neg (show ¬toS "basin" (("basin":Str),("chamber":Str),b)=true from fun h=>E (bc h)),aR,if_neg (show ¬toS "basin" (("high":Str),("chamber":Str),room - b)=true from fun h=>E (bc h))];rfl
 rw [F,G];show b+0 - (b+0)=0
 lia
def Q6 (ms:List Int) (W:List (Int×Int)) (r:Nat):Int:=if ms.getD r 0<(W.getD r (0,0)).2 then ms.getD r 0 else (W.getD r (0,0)).2
def cD (k:Nat) (ms:List Int) (W:List (Int×Int)) (n:Nat):List (Nat×Nat×Int):=(List.range n).map fun r=>(r,k,Q6 ms W r)
def b6 (k:Nat) (W:List (Int×Int)) (n:Nat):List (Nat×Nat×Int):=(List.range n).map fun r=>(k,r,(W.getD r (0,0)).1)
def zH (k:Nat) (ms:List Int) (W:List (Int×Int)) (n:Nat):List (Nat×Nat×Int):=cD k ms W n++b6 k W n
theorem nZ (k:Nat) (ms:List Int) (W:List (Int×Int)) (n:Nat):(cD k ms W n).length=n:=by unfold cD;rw [ae,bg]
theorem nS (k:Nat) (W:List (Int×Int)) (n:Nat):(b6 k W n).length=n:=by unfold b6;rw [ae,bg]
theorem S7 (k:Nat) (ms:List Int) (W:List (Int×Int)) (n:Nat):(zH k ms W n).length=n+n:=by unfold zH;rw [af,nZ,nS]
theorem T7 {W:List (Int×Int)} (h:i<n):(cD k ms W n).take (i+1)=(cD k ms W n).take i++[(i,k,Q6 ms W i)]:=by
 rw [aK];unfold cD;rw [ap,cg h];rfl
theorem S5 {W:List (Int×Int)} (h:i<n):(b6 k W n).take (i+1)=(b6 k W n).take i++[(k,i,(W.getD i (0,0)).1)]:=by
 rw [aK];unfold b6;rw [ap,cg h];rfl
theorem UO {W:List (Int×Int)} (F:k<m) (I:n<=m):∀q∈zH k ms W n,q.1<m/\q.2.1<m:=fun q G=>by
 rcases aI.mp G with h|h
 ·obtain ⟨r,E,rfl⟩:=aO.mp h;have:=bp.mp E;exact ⟨by show r<m;lia,F⟩
 ·obtain ⟨r,E,rfl⟩:=aO.mp h;have:=bp.mp E;exact ⟨F,by show r<m;lia⟩
theorem CB {W:List (Int×Int)} {y:Int×Int} (h:W[i]?=some y):W.getD i (0,0)=y:=by rw [ac,h];rfl
theorem AJ {W:List (Int×Int)} {y:Int×Int} (h:W[i]?=some y):Q6 ms W i=if ms.getD i 0<y.2 then ms.getD i 0 else y.2:=by unfold Q6;rw [CB h]
theorem VR {W:List (Int×Int)} {y:Int×Int} (h:W[i]?=some y):Q6 ms W i=if y.2<ms.getD i 0 then y.2 else ms.getD i 0:=by rw [AJ h];split<;>split<;>lia
def FZ (R:List RC) (m:Nat) (ms:List Int) (W:List (Int×Int)) (gs:List Int):List (Nat×Nat×Int):=(zH (R.length+2*m+1) ms W R.length).filter qM++(yM (qB (kR R m)) (fun a=>gs.getD a 0) (kR R m).length).filter qM
def jAa (R:List RC) (m:Nat) (ms:List Int) (W:List (Int×Int)):List Int:=kC ms ((zH (R.length+2*m+1) ms W R.length).filter qM)
theorem mU {M I:Addr} {ws:List V} (J:bE R) (h:AllAt (QAt H) ws (R.map (QL (QD R.length m)))) (F:H M=some (.lst ws)) (G:Ints K H I ms) (E:ms.length=R.length+2*m+2) (S:R.length<=100) (O:m<=100):Ready K H M I ws (kR R m) ms :=
 ⟨so F,by have:=E7 (K:=K) J h;rw [QW] at this;rw [E];exact this,G,mS J,by rw [zG];lia,by lia⟩
def FL (K:W.Frag) (cs:Kd->Addr) (cR cN:Addr):Sp:=fun vs H Q _=>∃x t E,∃(d:Int),∃ms ps F W D R L N,vs=[.ref x,.ref t,.ref E]/\CnAt cs cR cN D H x R L N/\LM H t d ms ps/\H E=some (.tup F)/\AllAt (QAt H) F W/\W.length=R.length/\ms.length=R.length+2*L.length+2/\R.length<=100/\L.length<=100/\bE R/\
 ∀r H' gs h,Same H H'->H r=none->H' r=some (.lst h)->PoursH H' h (FZ R L.length ms W gs) ms.length->Spl (kR R L.length) (jAa R L.length ms W) gs->Q (.ref r) H'
def qP (L:List LC) (y:vE) (p:Nat):Int:=if p=y.2.length then -1 else (vC L y.1 y.2).getD p 0
def IN:Sp:=fun vs H Q _=>∃t y,∃(p:Int),vs=[.ref t,.int p]/\WyAt H (.ref t) y/\Q (.int ((y.2.length:Int) - p)) H
def xK (cs:Kd->Addr) (cR cN:Addr):Sp:=fun vs H Q _=>∃x t y,∃(p:Nat),∃D R L N,vs=[.ref x,.ref t,.int (p:Int)]/\CnAt cs cR cN D H x R L N/\WyAt H (.ref t) y/\WyOk L y/\p<=y.2.length/\∀H',Same H H'->Q (.int (qP L y p)) H'
def vT (L:List LC) (ys:List vE) (pl:List Nat):List Int:=(List.range ys.length).map fun i=>qP L (ys.getD i (0,[])) (pl.getD i 0)
def GY (cs:Kd->Addr) (cR cN:Addr):Sp:=fun vs H Q _=>∃x F E,∃(r:Int),∃G h,∃(d:Int),∃ms pl D R L N,vs=[.ref x,.ref F,.ref E,.int r]/\CnAt cs cR cN D H x R L N/\H F=some (.lst G)/\AllAt (WyAt H) G h/\StAt H E d ms pl/\Fleet L h pl/\∀H',Same H H'->Q (.int (((vT L h pl).countP fun z=>decide (z=r):Nat):Int)) H'
theorem jAo (b:Bool):wv b=.str (bL b):=by cases b<;>rfl
def yD (r l k:Nat) (h:LC) (s:Str):Nat:=if s="high" then h.high.toNat else if s="low" then h.low.toNat else if s="chamber" then r+k else r+l+k
def JO (r l k:Nat) (h:LC) (q:Str×Str×Int):Nat×Nat×Int:=(yD r l k h q.1,yD r l k h q.2.1,q.2.2)
inductive okW:Str->Prop
 |high:okW "high"
 |low:okW "low"
 |cham:okW "chamber"
 |bas:okW "basin"
theorem fI (r l k:Nat) (h:LC):yD r l k h "high"=h.high.toNat:=if_pos rfl
theorem fN (r l k:Nat) (h:LC):yD r l k h "low"=h.low.toNat:=by unfold yD;rw [if_neg (show ¬("low":Str)="high" by trivial),if_pos rfl]
theorem dA (r l k:Nat) (h:LC):yD r l k h "chamber"=r+k:=by unfold yD;rw [if_neg (show ¬("chamber":Str)="high" by trivial),if_neg (show ¬("chamber":Str)="low" by trivial),if_pos rfl]
theorem fC (r l k:Nat) (h:LC):yD r l k h "basin"=r+l+k:=by unfold yD;rw [if_neg (show ¬("basin":Str)="high" by trivial),if_neg (show ¬("basin":Str)="low" by trivial),if_neg (show ¬("basin":Str)="chamber" by trivial)]
variable {r l:Nat} {lc:LC}
theorem o0 (h:okW s) (E:lc.good r) (F:k<l):yD r l k lc s<r+2*l+2:=by
 obtain ⟨M,G,I,J,_⟩:=E;cases h
 ·rw [fI];lia
 ·rw [fN];lia
 ·rw [dA];lia
 ·rw [fC];lia
def d4 (a b c d:V):List (kY×V):=[(.inr "high",a),(.inr "low",b),(.inr "chamber",c),(.inr "basin",d)]
theorem QU {t:Str} (h:¬s=t):¬((Sum.inr s:kY)=(Sum.inr t:kY)):=fun e=>h (Sum.inr.inj e)
theorem jAb (a b c d:V):Z6 [] [((.inr "high":kY),a),(.inr "low",b),(.inr "chamber",c),(.inr "basin",d)]=d4 a b c d:=by
 show yL (yL (yL (yL ([]:List (kY×V)) (Sum.inr "high") a) (Sum.inr "low") b) (Sum.inr "chamber") c) (Sum.inr "basin") d=_;rw [oF a (valV_nil:vL [] (Sum.inr "high":kY)=none)];rw [oF b (by show vL [((.inr "high":kY),a)] (.inr "low")=none;rw [yI (QU (by trivial))];rfl)];rw [oF c (by show vL [((.inr "high":kY),a),(.inr "low",b)] (.inr "chamber")=none;rw [yI (QU (by trivial)),yI (QU (by trivial))];rfl)];rw [oF d (by show vL [((.inr "high":kY),a),(.inr "low",b),(.inr "chamber",c)] (.inr "basin")=none;rw [yI (QU (by trivial)),yI (QU (by trivial)),yI (QU (by trivial))];rfl)];rfl
theorem jBt {p:Addr} {a b c d:V} (h:H p=some (.dK (d4 a b c d))):DGet H p (.str "high") (some a)/\DGet H p (.str "low") (some b)/\DGet H p (.str "chamber") (some c)/\DGet H p (.str "basin") (some d):=by
 have I:vL (d4 a b c d) (.inr "high")=some a:=by unfold d4;rw [JF rfl]
 have E:vL (d4 a b c d) (.inr "low")=some b:=by unfold d4;rw [yI (QU (by trivial)),JF rfl]
 have F:vL (d4 a b c d) (.inr "chamber")=some c:=by unfold d4;rw [yI (QU (by trivial)),yI (QU (by trivial)),JF rfl]
 have G:vL (d4 a b c d) (.inr "basin")=some d:=by unfold d4;rw [yI (QU (by trivial)),yI (QU (by trivial)),yI (QU (by trivial)),JF rfl]
 refine ⟨?_,?_,?_,?_⟩
 ·rw [<- I];exact DGet.kq (k:=.inr "high") h
 ·rw [<- E];exact DGet.kq (k:=.inr "low") h
 ·rw [<- F];exact DGet.kq (k:=.inr "chamber") h
 ·rw [<- G];exact DGet.kq (k:=.inr "basin") h
theorem AF (kd:Kd) (room v b:Int):∀q∈qX kd room v b,okW q.1/\okW q.2.1:=fun q E=>by
 obtain ⟨p,h,rfl⟩:=aO.mp E;refine ⟨?_,.cham⟩;cases kd
 ·have:=(aV.mp h).1;rw [av] at this;rw [this];exact .high
 ·have:=(aV.mp h).1;simp only [aj,au,bb] at this
  rcases this with rfl|rfl
  ·exact .bas
  ·exact .high
 ·have:=(aV.mp h).1;simp only [aj,au,bb] at this
  rcases this with rfl|rfl
  ·exact .low
  ·exact .high
theorem dG (kd:Kd) (room v b:Int):∀q∈qN kd room v b,okW q.1/\okW q.2.1:=fun q E=>by
 obtain ⟨p,h,rfl⟩:=aO.mp E;refine ⟨.cham,?_⟩;cases kd
 ·have:=(aV.mp h).1;rw [av] at this;rw [this];exact .low
 ·have:=(aV.mp h).1;simp only [aj,au,bb] at this
  rcases this with rfl|rfl
  ·exact .bas
  ·exact .low
 ·have:=(aV.mp h).1;rw [av] at this;rw [this];exact .low
theorem oG (kd:Kd) (room v:Int) (f:Bool) (b:Int) (w:Bool):∀q∈ZQ kd room v f b w,okW q.1/\okW q.2.1:=fun q E=>by
 cases w<;>cases f
 ·rcases aI.mp E with h|h
  ·exact AF _ _ _ _ q h
  ·exact dG _ _ _ _ q h
 ·exact dG _ _ _ _ q E
 ·exact AF _ _ _ _ q E
 ·rcases aI.mp E with h|h
  ·exact dG _ _ _ _ q h
  ·exact AF _ _ _ _ q h
def vX (r:Nat) (ms:List Int) (k:Nat):Bool:=decide (0<ms.getD (r+k) 0)
def zS (r:Nat) (L:List LC) (ms:List Int) (s:Nat×Bool):List (Nat×Nat×Int):=match L[s.1]? with
 |some l=>(ZQ l.kd l.room l.extra (vX r ms s.1) (ms.getD (r+L.length+s.1) 0) s.2).map (JO r L.length s.1 l)
 |none=>[]
def Q9 (r:Nat) (L:List LC) (ms:List Int) (k:Nat):List (Nat×Nat×Int):=match L[k]? with
 |some l=>(qN l.kd l.room l.extra (ms.getD (r+L.length+k) 0)).map (JO r L.length k l)
 |none=>[]
def Q8 (R:List RC) (ms:List Int) (v:Nat):Bool:=match R[v]? with
 |some r=>decide (ms.getD v 0<r.least)
 |none=>false
def JT (R:List RC):List Int->List (Nat×Nat×Int)->Bool
 |_,[]=>false
 |ms,q::qs=>Q8 R (pour ms q) q.1||JT R (pour ms q) qs
def fL (R:List RC) (t:Int):Int:=match R[t.toNat]? with
 |some r=>r.berths
 |none=>0
def Q5 (R:List RC) (L:List LC) (ys:List vE) (ms:List Int) (pl:List Nat) (b:Nat):Str :=
 if pl.getD b 0=(ys.getD b (0,[])).2.length then "home" else
 if ¬qP L (ys.getD b (0,[])) (pl.getD b 0+1) = -1/\fL R (qP L (ys.getD b (0,[])) (pl.getD b 0+1))<=(((vT L ys pl).countP fun z=>decide (z=qP L (ys.getD b (0,[])) (pl.getD b 0+1)):Nat):Int) then "berth" else
 if JT R ms (zS R.length L ms ((ys.getD b (0,[])).2.getD (pl.getD b 0) (0,true)))=true then "water" else ""
inductive Deed
 |pass (b:Nat)
 |let (k:Nat)
 |night
def pR:Deed->List V
 |.pass b=>[.str "pass",.int (b:Int)]
 |.let k=>[.str "let",.int (k:Int)]
 |.night=>[.str "night"]
def zJ (R:List RC) (L:List LC) (n:Nat) (ys:List vE) (d:Int) (ms:List Int) (pl:List Nat):Deed->Str
 |.pass b=>Q5 R L ys ms pl b
 |.let k=>if vX R.length ms k=true then "" else "empty"
 |.night=>if d<(n:Int) then "" else "over"
def ZP (E h:Nat):Deed->Prop
 |.pass b=>b<E
 |.let k=>k<h
 |.night=>True
def AO (cs:Kd->Addr) (cR cN:Addr):Sp:=fun vs H Q _=>∃x p,∃(k:Nat),∃l rs ps D R L N,vs=[.ref x,.int (k:Int),.ref p]/\CnAt cs cR cN D H x R L N/\L[k]?=some l/\l.good R.length/\H p=some (.lst rs)/\PoursS H rs ps/\(∀q∈ps,okW q.1/\okW q.2.1)/\ps.length<=10/\
 ∀r H' h,Same H H'->H r=none->H' r=some (.lst h)->PoursH H' h (ps.map (JO R.length L.length k l)) (R.length+2*L.length+2)->Q (.ref r) H'
structure Stage (cs:Kd->Addr) (cR cN:Addr) (D:List Addr) (H:Hp) (x wl st:Addr) (us:List V) (R:List RC) (L:List LC) (N:List (List (Int×Int))) (ys:List vE) (d:Int) (ms:List Int) (pl:List Nat):Prop where
 cn:CnAt cs cR cN D H x R L N
 dr:Drawn R L N
 wls:H wl=some (.lst us)
 wys:AllAt (WyAt H) us ys
 sts:StAt H st d ms pl
 fl:Fleet L ys pl
 ml:ms.length=R.length+2*L.length+2
variable {ys:List vE}
theorem Stage.same {E st:Addr} {us:List V} (h:Stage cs cR cN D H x E st us R L N ys d ms pl) (e:Same H H'):Stage cs cR cN D H' x E st us R L N ys d ms pl:=⟨h.cn.same e,h.dr,e _ _ h.wls,h.wys.mono (WyAt.same e),h.sts.same e,h.fl,h.ml⟩
def AY:Sp:=fun vs H Q _=>∃(t:Addr) (y:vE) (p:Nat) (s:Nat×Bool),vs=[.ref t,.int (p:Int)]/\WyAt H (.ref t) y/\y.2[p]?=some s/\∀v,PAt H v s->Q v H
def xL (cs:Kd->Addr) (cR cN:Addr):Sp:=fun vs H Q _=>∃x E h,∃(b:Nat),∃r F ys,∃(d:Int),∃ms pl D R L N,vs=[.ref x,.ref E,.ref h,.int (b:Int)]/\Stage cs cR cN D H x E h F R L N ys d ms pl/\R[b]?=some r/\∀H',Same H H'->Q (.bl (decide (r.berths<=(((vT L ys pl).countP fun z=>decide (z=(b:Int)):Nat):Int)))) H'
def AN (cs:Kd->Addr) (cR cN:Addr):Sp:=fun vs H Q _=>∃(x E h:Addr) (b:Nat) (G:List V) (ys:List vE) (y:vE) (p:Nat) (s:Nat×Bool) (d:Int) (ms:List Int) (pl:List Nat) (D:List Addr) (R:List RC) (L:List LC) (N:List (List (Int×Int))),vs=[.ref x,.ref E,.ref h,.int (b:Int)]/\Stage cs cR cN D H x E h G R L N ys d ms pl/\ys[b]?=some y/\pl[b]?=some p/\y.2[p]?=some s/\
 ∀r H' F,Same H H'->H r=none->H' r=some (.lst F)->PoursH H' F (zS R.length L ms s) ms.length->Q (.ref r) H'
def G7 (cs:Kd->Addr) (cR cN:Addr):Sp:=fun vs H Q _=>∃x F h,∃(k:Nat),∃G ys,∃(d:Int),∃ms pl D R L N,vs=[.ref x,.ref h,.int (k:Int)]/\Stage cs cR cN D H x F h G R L N ys d ms pl/\k<L.length/\
 ∀r H' E,Same H H'->H r=none->H' r=some (.lst E)->PoursH H' E (Q9 R.length L ms k) ms.length->Q (.ref r) H'
def KP (cs:Kd->Addr) (cR cN:Addr):Sp:=fun vs H Q _=>∃x w,∃(v:Nat),∃ms D R L N,vs=[.ref x,.ref w,.int (v:Int)]/\CnAt cs cR cN D H x R L N/\H w=some (.tup (ms.map V.int))/\v<ms.length/\Q (.bl (Q8 R ms v)) H
def FG (cs:Kd->Addr) (cR cN:Addr):Sp:=fun vs H Q _=>∃x w p ms h qs D R L N,vs=[.ref x,.ref w,.ref p]/\CnAt cs cR cN D H x R L N/\H w=some (.tup (ms.map V.int))/\H p=some (.lst h)/\PoursH H h qs ms.length/\ms.length<=1000/\∀H',Same H H'->Q (.bl (JT R ms qs)) H'
def IL (cs:Kd->Addr) (cR cN:Addr):Sp:=fun vs H Q _=>∃x h E,∃(b:Nat),∃F ys,∃(d:Int),∃ms pl D R L N,vs=[.ref x,.ref h,.ref E,.int (b:Int)]/\Stage cs cR cN D H x h E F R L N ys d ms pl/\b<ys.length/\∀H',Same H H'->Q (.str (Q5 R L ys ms pl b)) H'
def AV (cs:Kd->Addr) (cR cN:Addr):Sp:=fun vs H Q _=>∃x G E F h I ys,∃(d:Int),∃ms pl D R L N,vs=[.ref x,.ref G,.ref E,.ref F]/\Stage cs cR cN D H x G E I R L N ys d ms pl/\H F=some (.tup (pR h))/\ZP ys.length L.length h/\∀H',Same H H'->Q (.str (zJ R L N.length ys d ms pl h)) H'
variable {y:vE}
theorem Y3 {p:Nat} {s:Nat×Bool} (E:WyOk L y) (h:y.2[p]?=some s):qP L y p=(yO L s).1:=by
 have F:=(ad.mp h).1;unfold qP;rw [if_neg (by lia),ac,E.ok p s h];rfl
theorem WR (d:Drawn R L N) {s:Nat×Bool} (h:s.1<L.length):0<=(yO L s).1/\(yO L s).1<(R.length:Int):=by
 obtain ⟨l,E,J,F,G,I,_⟩:=xF d h;obtain ⟨k,b⟩:=s;cases b
 ·rw [Z2 E];show 0<=l.high/\l.high<_;lia
 ·rw [Z5 E];show 0<=l.low/\l.low<_;lia
theorem IV (d:Drawn R L N) (h:WyOk L y) {p:Nat} (F:p<y.2.length):0<=qP L y p/\qP L y p<(R.length:Int):=by
 have E:=aa F;rw [Y3 h E];exact WR d (h.lt _ (ag E))
theorem HK (L:List LC) (y:vE):qP L y y.2.length = -1:=if_pos rfl
def vB (R:List RC) (L:List LC) (N:List (List (Int×Int))) (ys:List vE) (d:Int) (ms:List Int) (pl:List Nat):Deed->List (Nat×Nat×Int)
 |.pass b=>zS R.length L ms ((ys.getD b (0,[])).2.getD (pl.getD b 0) (0,true))
 |.let k=>Q9 R.length L ms k
 |.night=>(zH (R.length+2*L.length+1) ms (N.getD d.toNat []) R.length).filter qM
def JJ (R:List RC) (L:List LC) (N:List (List (Int×Int))) (ys:List vE) (d:Int) (ms:List Int) (pl:List Nat) (de:Deed) (gs:List Int):List (Nat×Nat×Int):=vB R L N ys d ms pl de++(yM (qB (kR R L.length)) (fun a=>gs.getD a 0) (kR R L.length).length).filter qM
def zX (pl:List Nat) (b:Nat):List Nat:=(List.range pl.length).map fun i=>if i=b then pl.getD i 0+1 else pl.getD i 0
def K1 (d:Int):Deed->Int
 |.night=>d+1
 |_=>d
def QI (pl:List Nat):Deed->List Nat
 |.pass b=>zX pl b
 |_=>pl
def FI (cs:Kd->Addr) (cR cN M:Addr):Sp:=fun vs H Q E=>∃x I F G h O ys,∃(d:Int),∃ms pl D R L N,vs=[.ref x,.ref I,.ref F,.ref G]/\Stage cs cR cN D H x I F O R L N ys d ms pl/\H G=some (.tup (pR h))/\ZP ys.length L.length h/\0<=d/\h≠.night/\
 (zJ R L N.length ys d ms pl h=""->∀r H' gs J,Same H H'->H r=none->H' r=some (.lst J)->PoursH H' J (JJ R L N ys d ms pl h gs) ms.length->Spl (kR R L.length) (kC ms (vB R L N ys d ms pl h)) gs->Q (.ref r) H')/\
 (¬zJ R L N.length ys d ms pl h=""->∀H',Same H H'->E (.ref M) none H')
def FD:Sp:=fun vs H Q _=>∃h pl,∃(b:Nat),vs=[.ref h,.int (b:Int)]/\H h=some (.tup (pl.map fun (p:Nat)=>V.int (p:Int)))/\pl.length<=100/\∀r H',Same H H'->H r=none->H' r=some (.tup ((zX pl b).map fun (p:Nat)=>V.int (p:Int)))->Q (.ref r) H'
theorem fH {b:Nat} (h:Q5 R L ys ms pl b=""):¬pl.getD b 0=(ys.getD b (0,[])).2.length:=fun e=>by
 unfold Q5 at h;rw [if_pos e] at h;exact absurd h (by trivial)
theorem EJ (r:Nat) (L:List LC) (ms:List Int) (s:Nat×Bool):(zS r L ms s).length<=4:=by
 unfold zS
 split
 ·rw [ae];exact EK _ _ _ _ _ _
 ·exact aN _
theorem GB (r:Nat) (L:List LC) (ms:List Int) (k:Nat):(Q9 r L ms k).length<=4:=by
 unfold Q9
 split
 ·rw [ae];exact aM (dE _ _ _ _) (by decide)
 ·exact aN _
theorem nE (pl:List Nat) (b:Nat):(zX pl b).length=pl.length:=by unfold zX;rw [ae,bg]
theorem DB {b:Nat} (h:i<pl.length):(zX pl b).take (i+1)=(zX pl b).take i++[if i=b then pl.getD i 0+1 else pl.getD i 0]:=by
 rw [aK];unfold zX;rw [ap,cg h];rfl
def EG:Sp:=fun vs H Q _=>∃E G F h,∃(d:Int),∃ms I pl,vs=[.ref E,.ref G,.ref F]/\StAt H E d ms pl/\H G=some (.tup (pR h))/\H F=some (.tup (I.map V.int))/\pl.length<=100/\∀r H',Same H H'->H r=none->StAt H' r (K1 d h) I (QI pl h)->Q (.ref r) H'
def HE (cs:Kd->Addr) (cR cN:Addr):Sp:=fun vs H Q _=>∃x F h D R L N,vs=[.ref x,.ref F]/\CnAt cs cR cN D H x R L N/\H F=some (.lst h)/\h.length<=100/\R.length<=100/\L.length<=100/\bE R/\
 ∀t G E H' gs,Same H H'->H' t=some (.tup [.int 0,.ref G,.ref E])->H' G=some (.tup ((yK (v8 R L.length) (kR R L.length) gs).map V.int))->Spl (kR R L.length) (v8 R L.length) gs->H' E=some (.tup (List.replicate h.length (.int 0)))->Q (.ref t) H'
theorem WS {l:LC} (I:WyOk L y) (E:y.2[i]?=some p) (h:L[p.1]?=some l):l.low+l.high - (vC L y.1 y.2).getD i 0=(vC L y.1 y.2).getD (i+1) 0:=by
 have J:=I.ok i p E;have M:(vC L y.1 y.2).getD i 0=(yO L p).1:=by rw [ac,J];rfl
 have G:(vC L y.1 y.2).getD (i+1) 0=(yO L p).2:=by
  rw [ac];show ((y.1::y.2.map fun p=>(yO L p).2)[i+1]?).getD 0=_;rw [List.getElem?_cons_succ,ap,E];rfl
 rw [M,G];obtain ⟨O,F⟩:=p;have h:L[O]?=some l:=h;cases F
 ·rw [Z2 h];show l.low+l.high - l.high=l.low;lia
 ·rw [Z5 h];show l.low+l.high - l.low=l.high;lia
theorem XH {p:Nat} (h:ys[i]?=some y) (E:pl[i]?=some p):(vT L ys pl)[i]?=some (qP L y p):=by
 have F:i<ys.length:=(ad.mp h).1;unfold vT;rw [ap,cg F];show some (qP L (ys.getD i (0,[])) (pl.getD i 0))=_;rw [ac,ac,h,E];rfl
theorem FR (L:List LC) (ys:List vE) (pl:List Nat):(vT L ys pl).length=ys.length:=by unfold vT;rw [ae,bg]
def BU (K:W.Frag) (H:Hp) (v:V) (nm:Str):Prop:=∃x C h fs,v=.ref x/\H x=some (.ins C h fs)/\Cls K C/\NoAttr K C "name"/\fs.lookup ("name":Str)=some (.str nm)
def FirstAt (zs:List Str) (nm:Str) (i:Nat):Prop:=zs[i]?=some nm/\∀j:Nat,j<i->zs[j]?≠some nm
def ZL (zs:List Str) (nm:Str):Prop:=∀i:Nat,zs[i]?≠some nm
variable {zs:List Str} {nm:Str}
theorem FirstAt.uniq (h:FirstAt zs nm i) (h':FirstAt zs nm j):i=j:=by
 rcases Nat.lt_trichotomy i j with c|c|c
 ·exact absurd h.1 (h'.2 i c)
 ·exact c
 ·exact absurd h'.1 (h.2 j c)
theorem WN (zs:List Str) (nm:Str):(∃i,FirstAt zs nm i)\/ZL zs nm:=by
 have E:∀n:Nat,(∃i,FirstAt zs nm i)\/∀j:Nat,j<n->zs[j]?≠some nm:=by
  intro n
  induction n with
  |zero=>exact .inr fun j F=>absurd F (gc j)
  |succ n I =>
   rcases I with h|h
   ·exact .inl h
   ·by_cases e:zs[n]?=some nm
    ·exact .inl ⟨n,e,h⟩
    ·refine .inr fun j F=>?_
     by_cases c:j=n
     ·rw [c];exact e
     ·exact h j (by lia)
 rcases E zs.length with h|h
 ·exact .inl h
 ·refine .inr fun i G=>h i ?_ G
  exact (ad.mp G).1
def AM (K:W.Frag) (F:Addr):Sp:=fun vs H Q E=>∃nm l h zs,vs=[.str nm,.ref l]/\H l=some (.lst h)/\AllAt (BU K H) h zs/\h.length<=100/\(∀i:Nat,FirstAt zs nm i->∀H',Same H H'->Q (.int (i:Int)) H')/\(ZL zs nm->∀H',Same H H'->E (.ref F) none H')
def o8 (w:Nat) (R:List RC) (L:List LC):List Str:=if w=0 then R.map (·.name) else L.map (·.name)
def bA (cs:Kd->Addr) (cR cN h:Addr) (w:Nat):Sp:=fun vs H Q E=>∃x D R L N nm,vs=[.ref x,.str nm]/\CnAt cs cR cN D H x R L N/\R.length<=100/\L.length<=100/\(∀i:Nat,FirstAt (o8 w R L) nm i->∀H',Same H H'->Q (.int (i:Int)) H')/\(ZL (o8 w R L) nm->∀H',Same H H'->E (.ref h) none H')
theorem SK (c:Cls K cR) (n:NoAttr K cR "name") (h:AllAt (RcO cR H) rs R):AllAt (BU K H) rs (R.map (·.name)):=by
 refine ⟨by rw [h.1,ae],fun i v F=>?_⟩;obtain ⟨r,G,x,rfl,I,fs,E,J⟩:=h.2 i v F;exact ⟨r.name,by rw [ap,G];rfl,x,cR,I,fs,rfl,E,c,n,J.1⟩
theorem S8 (c:∀kd,Cls K (cs kd)) (n:∀kd,NoAttr K (cs kd) "name") (h:AllAt (LkO cs H) rs L):AllAt (BU K H) rs (L.map (·.name)):=by
 refine ⟨by rw [h.1,ae],fun i v F=>?_⟩;obtain ⟨l,I,x,rfl,G,E⟩:=h.2 i v F;exact ⟨l.name,by rw [ap,I];rfl,x,_,G,_,rfl,E,c _,n _,dH ..⟩
theorem gY (h:n<=1000):n<=sizeLine:=im (vN h)
def SAt (H:Hp) (v:V) (p:Str×Bool):Prop:=∃t,v=.ref t/\H t=some (.tup [.str p.1,.str (bL p.2)])
theorem SAt.same (e:Same H H') (v:V) (p:Str×Bool):SAt H v p->SAt H' v p:=fun ⟨t,h,E⟩=>⟨t,h,e _ _ E⟩
theorem SAt.put {d:Addr} {ys:List V} (F:H d=some (.lst ys)) (v:V) (p:Str×Bool):SAt H v p->SAt (upd H d o) v p:=fun ⟨t,E,h⟩=>⟨t,E,by rw [j7 (fun z=>by rw [z,F] at h;cases h)];exact h⟩
structure CoE where
 name:Str
 start:Str
 steps:List (Str×Bool)
def CoAt (H:Hp) (t:Addr) (e:CoE):Prop:=∃h E,H t=some (.tup [.str "come",.str e.name,.str e.start,.ref h])/\H h=some (.tup E)/\AllAt (SAt H) E e.steps
theorem CoAt.same {t:Addr} {e:CoE} (s:Same H H') (h:CoAt H t e):CoAt H' t e:=by
 obtain ⟨E,J,I,F,G⟩:=h;exact ⟨E,J,s _ _ I,s _ _ F,G.mono (SAt.same s)⟩
def kJ:List Str->Str->Option Nat
 |[],_=>none
 |z::zs,n=>if z=n then some 0 else (kJ zs n).map (· + 1)
theorem cY:∀{zs:List Str} {n:Str} {i:Nat},kJ zs n=some i->FirstAt zs n i
 |[],n,i,h=>by cases h
 |z::zs,n,i,h=>by
  unfold kJ at h
  split at h
  ·rename_i e;cases h;exact ⟨by rw [e];rfl,fun j E=>absurd E (gc j)⟩
  ·rename_i F;obtain ⟨k,G,rfl⟩:=ba.mp h;obtain ⟨J,I⟩:=cY G;refine ⟨J,fun j E=>?_⟩;cases j with
   |zero=>exact fun e=>F (aA e)
   |succ j=>exact I j (by lia)
theorem m6:∀{zs:List Str} {n:Str},kJ zs n=none->ZL zs n
 |[],n,_=>fun i h=>by cases h
 |z::zs,n,h=>by
  unfold kJ at h
  split at h
  ·cases h
  ·rename_i F;have h':=Option.map_eq_none_iff.mp h;intro i E;cases i with
   |zero=>exact F (aA E)
   |succ i=>exact m6 h' i E
theorem dB {n:Str} (h:FirstAt zs n i):kJ zs n=some i:=by
 cases e:kJ zs n with
 |none=>exact absurd h.1 (m6 e i)
 |some j=>rw [(cY e).uniq h]
theorem fF {n:Str} (h:ZL zs n):kJ zs n=none:=by
 cases e:kJ zs n with
 |none=>rfl
 |some j=>exact absurd (cY e).1 (h j)
theorem ZH {n:Str} (h:kJ zs n=some i):i<zs.length:=(ad.mp (cY h).1).1
def y9 (zs:List Str):List (Str×Bool)->Option (List (Nat×Bool))
 |[]=>some []
 | (n,b)::r=>match kJ zs n with
  |none=>none
  |some k=>(y9 zs r).map ((k,b) :: ·)
theorem DA {zs:List Str} {p:Str×Bool} {k:Nat} (E:kJ zs p.1=some k):∀{l:List (Str×Bool)} {ps:List (Nat×Bool)},y9 zs l=some ps->y9 zs (l++[p])=some (ps++[(k,p.2)])
 |[],ps,h=>by
  cases h;show (match kJ zs p.1 with|none=>none|some k=>(y9 zs []).map ((k,p.2) :: ·))=_;rw [E];rfl
 | (n,b)::r,ps,h=>by
  unfold y9 at h;show (match kJ zs n with|none=>none|some k=>(y9 zs (r++[p])).map ((k,b) :: ·))=_;cases F:kJ zs n with
  |none=>rw [F] at h;cases h
  |some j =>
   rw [F] at h;obtain ⟨qs,G,rfl⟩:=ba.mp h;show (y9 zs (r++[p])).map ((j,b) :: ·)=_;rw [DA E G];rfl
theorem DH {zs:List Str} {p:Str×Bool} (E:kJ zs p.1=none):∀{l:List (Str×Bool)},p∈l->y9 zs l=none
 | (n,b)::r,h=>by
  unfold y9
  rcases aj.mp h with e|h
  ·cases e;have E:kJ zs n=none:=E;rw [E]
  ·cases kJ zs n with
   |none=>rfl
   |some k=>show (y9 zs r).map _=none;rw [DH E h];rfl
theorem xI {zs:List Str}:∀{l:List (Str×Bool)} {ps:List (Nat×Bool)},y9 zs l=some ps->ps.length=l.length/\∀p∈ps,p.1<zs.length
 |[],ps,h=>by cases h;exact ⟨rfl,fun p E=>by cases E⟩
 | (n,b)::r,ps,h=>by
  unfold y9 at h;cases F:kJ zs n with
  |none=>rw [F] at h;cases h
  |some k =>
   rw [F] at h;obtain ⟨qs,J,rfl⟩:=ba.mp h;obtain ⟨I,G⟩:=xI J;refine ⟨by rw [dv,I];rfl,fun p E=>?_⟩
   rcases aj.mp E with rfl|E
   ·exact ZH F
   ·exact G p E
def zV (R:List RC) (L:List LC) (e:CoE):Option vE:=match kJ (R.map (·.name)) e.start with
 |none=>none
 |some a=>(y9 (L.map (·.name)) e.steps).map fun ps=>((a:Int),ps)
def xJ (cs:Kd->Addr) (cR cN h:Addr):Sp:=fun vs H Q E=>∃x t e D R L N,vs=[.ref x,.ref t]/\CnAt cs cR cN D H x R L N/\R.length<=100/\L.length<=100/\CoAt H t e/\e.steps.length<=100/\
 (∀y,zV R L e=some y->∀w H',Same H H'->H w=none->WyAt H' (.ref w) y->Q (.ref w) H')/\(zV R L e=none->∀H',Same H H'->E (.ref h) none H')
def BkFld (fs:List (Str×V)) (h F I G J M E:V):Prop:=fs.lookup ("kept_canal":Str)=some h/\fs.lookup ("kept_names":Str)=some F/\fs.lookup ("kept_ways":Str)=some I/\fs.lookup ("kept_state":Str)=some G/\fs.lookup ("kept_pours":Str)=some J/\fs.lookup ("kept_words":Str)=some M/\fs.lookup ("kept_entries":Str)=some E/\∀m:Str,¬m="kept_canal"->¬m="kept_names"->¬m="kept_ways"->¬m="kept_state"->¬m="kept_pours"->¬m="kept_words"->¬m="kept_entries"->fs.lookup m=none
theorem YM (h F J G I M E:V):BkFld (jS "kept_entries" E (jS "kept_words" M (jS "kept_pours" I (jS "kept_state" G (jS "kept_ways" J (jS "kept_names" F (jS "kept_canal" h []))))))) h F J G I M E:=by
 refine ⟨?_,?_,?_,?_,?_,?_,?_,fun m Z O n2 Y n4 n5 S=>?_⟩
 ·rw [kP (f:="kept_entries") (g:="kept_canal") (by trivial),kP (f:="kept_words") (g:="kept_canal") (by trivial),kP (f:="kept_pours") (g:="kept_canal") (by trivial),kP (f:="kept_state") (g:="kept_canal") (by trivial),kP (f:="kept_ways") (g:="kept_canal") (by trivial),kP (f:="kept_names") (g:="kept_canal") (by trivial),zI]
 ·rw [kP (f:="kept_entries") (g:="kept_names") (by trivial),kP (f:="kept_words") (g:="kept_names") (by trivial),kP (f:="kept_pours") (g:="kept_names") (by trivial),kP (f:="kept_state") (g:="kept_names") (by trivial),kP (f:="kept_ways") (g:="kept_names") (by trivial),zI]
 ·rw [kP (f:="kept_entries") (g:="kept_ways") (by trivial),kP (f:="kept_words") (g:="kept_ways") (by trivial),kP (f:="kept_pours") (g:="kept_ways") (by trivial),kP (f:="kept_state") (g:="kept_ways") (by trivial),zI]
 ·rw [kP (f:="kept_entries") (g:="kept_state") (by trivial),kP (f:="kept_words") (g:="kept_state") (by trivial),kP (f:="kept_pours") (g:="kept_state") (by trivial),zI]
 ·rw [kP (f:="kept_entries") (g:="kept_pours") (by trivial),kP (f:="kept_words") (g:="kept_pours") (by trivial),zI]
 ·rw [kP (f:="kept_entries") (g:="kept_words") (by trivial),zI]
 ·rw [zI]
 ·rw [kP S,kP n5,kP n4,kP Y,kP n2,kP O,kP Z];rfl
variable {v0 v1 v2 v3 v4 v5 v6:V}
theorem BkFld.put2 (z:V) (h:BkFld fs v0 v1 v2 v3 v4 v5 v6):BkFld (jS "kept_ways" z fs) v0 v1 z v3 v4 v5 v6:=by
 obtain ⟨S,Y,h2,J,Z,F,h6,O⟩:=h;refine ⟨?_,?_,?_,?_,?_,?_,?_,fun m n0 G E M n4 n5 I=>?_⟩
 ·rw [kP (f:="kept_ways") (g:="kept_canal") (by trivial)];exact S
 ·rw [kP (f:="kept_ways") (g:="kept_names") (by trivial)];exact Y
 ·rw [zI]
 ·rw [kP (f:="kept_ways") (g:="kept_state") (by trivial)];exact J
 ·rw [kP (f:="kept_ways") (g:="kept_pours") (by trivial)];exact Z
 ·rw [kP (f:="kept_ways") (g:="kept_words") (by trivial)];exact F
 ·rw [kP (f:="kept_ways") (g:="kept_entries") (by trivial)];exact h6
 ·rw [kP E];exact O m n0 G E M n4 n5 I
theorem BkFld.put3 (z:V) (h:BkFld fs v0 v1 v2 v3 v4 v5 v6):BkFld (jS "kept_state" z fs) v0 v1 v2 z v4 v5 v6:=by
 obtain ⟨M,O,h2,h3,S,F,h6,J⟩:=h;refine ⟨?_,?_,?_,?_,?_,?_,?_,fun m Y G n2 E Z n5 I=>?_⟩
 ·rw [kP (f:="kept_state") (g:="kept_canal") (by trivial)];exact M
 ·rw [kP (f:="kept_state") (g:="kept_names") (by trivial)];exact O
 ·rw [kP (f:="kept_state") (g:="kept_ways") (by trivial)];exact h2
 ·rw [zI]
 ·rw [kP (f:="kept_state") (g:="kept_pours") (by trivial)];exact S
 ·rw [kP (f:="kept_state") (g:="kept_words") (by trivial)];exact F
 ·rw [kP (f:="kept_state") (g:="kept_entries") (by trivial)];exact h6
 ·rw [kP E];exact J m Y G n2 E Z n5 I
theorem BkFld.no (h:BkFld fs v0 v1 v2 v3 v4 v5 v6) {m:Str} (I:¬m="kept_canal") (E:¬m="kept_names") (O:¬m="kept_ways") (G:¬m="kept_state") (J:¬m="kept_pours") (M:¬m="kept_words") (F:¬m="kept_entries"):fs.lookup m=none:=h.2.2.2.2.2.2.2 m I E O G J M F
theorem JG (H:Hp) (A:List Addr):Same (qD H A) H:=fun a o e=>by
 by_cases h:a∈A
 ·rw [bT h] at e;cases e
 ·rw [yJ h] at e;exact e
variable {A:List Addr}
theorem yS (s:Same H H'):Same (qD H A) (qD H' A):=fun a o e=>by
 by_cases h:a∈A
 ·rw [bT h] at e;cases e
 ·rw [yJ h] at e ⊢;exact s a o e
theorem WU {B:List Addr} (h:∀a∈B,a∈A):Same (qD H A) (qD H B):=fun a o e=>by
 by_cases E:a∈A
 ·rw [bT E] at e;cases e
 ·rw [yJ E] at e;rw [yJ fun z=>E (h a z)];exact e
theorem YC (h:a∈A):qD (upd H a o) A=qD H A:=by
 funext b
 by_cases E:b∈A
 ·rw [bT E,bT E]
 ·rw [yJ E,yJ E,j7 (fun z=>E (by rw [z];exact h))]
theorem put3 {b:Addr} {o' u:HO} (h:H a=none) (E:H b=some u):upd (upd H a o) b o' a=some o:=by
 rw [j7 (q9 E h).symm];exact jF
theorem StAt.del {t:Addr} (M:∀a∈A,∀l,H a≠some (.tup l)) (h:StAt H t d ms pl):StAt (qD H A) t d ms pl:=by
 obtain ⟨J,G,I,E,F⟩:=h;have k:∀(a:Addr) (l:List V),H a=some (.tup l)->qD H A a=some (.tup l):=fun a l e=>by rw [yJ fun z=>M a z l e];exact e
 exact ⟨J,G,k _ _ I,k _ _ E,k _ _ F⟩
theorem WyAt.del (M:∀a∈A,∀l,H a≠some (.tup l)) (v:V) (y:vE) (h:WyAt H v y):WyAt (qD H A) v y:=by
 have k:∀(a:Addr) (l:List V),H a=some (.tup l)->qD H A a=some (.tup l):=fun a l e=>by rw [yJ fun z=>M a z l e];exact e
 obtain ⟨t,E,J,e,I,F,G⟩:=h;exact ⟨t,E,J,e,k _ _ I,k _ _ F,G.mono fun v p ⟨t,e,h⟩=>⟨t,e,k _ _ h⟩⟩
theorem c8 (h:n<=8):n<=100:=aM h (by decide)
def WdAt (H:Hp) (v:V) (p:Str×List Str):Prop:=∃t l:Addr,v=.ref t/\H t=some (.tup [.str p.1,.ref l])/\H l=some (.lst (p.2.map V.str))
theorem WdAt.same (s:Same H H') (v:V) (p:Str×List Str):WdAt H v p->WdAt H' v p:=fun ⟨t,l,e,E,h⟩=>⟨t,l,e,s _ _ E,s _ _ h⟩
def WdNew (h:Hp) (D:Addr) (H:Hp) (v:V) (p:Str×List Str):Prop:=∃t l:Addr,v=.ref t/\h t=none/\h l=none/\l≠D/\H t=some (.tup [.str p.1,.ref l])/\H l=some (.lst (p.2.map V.str))
theorem WdNew.same {h:Hp} {D:Addr} (s:Same H H') (v:V) (p:Str×List Str):WdNew h D H v p->WdNew h D H' v p:=fun ⟨t,l,e,E,J,F,G,I⟩=>⟨t,l,e,E,J,F,s _ _ G,s _ _ I⟩
theorem WdNew.put {h:Hp} {D:Addr} {ys:List V} (G:H D=some (.lst ys)) (v:V) (p:Str×List Str):WdNew h D H v p->WdNew h D (upd H D o) v p:=fun ⟨t,l,e,I,M,E,F,J⟩=>⟨t,l,e,I,M,E,by rw [j7 (yP F G (fun z=>nomatch z))];exact F,by rw [j7 E];exact J⟩
structure BkS where
 zs:List Str
 ys:List vE
 d:Int
 ms:List Int
 pl:List Nat
 us:List V
 st:Addr
 ps:List V
 pd:List (Nat×Nat×Int)
 qs:List V
 qd:List (Str×List Str)
 es:List V
structure BkOk (R:List RC) (L:List LC) (N:List (List (Int×Int))) (B:BkS):Prop where
 dr:Drawn R L N
 fl:Fleet L B.ys B.pl
 ml:B.ms.length=R.length+2*L.length+2
 d0:0<=B.d
 zl:B.zs.length=B.ys.length
 z9:B.zs.length<=9
 e15:B.es.length<=45
 pn:B.ps.length<=24*B.es.length
 qn:B.qs.length<=B.es.length
 pr:∀z∈B.ps,∃c,z=.ref c
 er:∀z∈B.es,∃c,z=.ref c
structure BkAt (cs:Kd->Addr) (cR cN cO:Addr) (A:List Addr) (H:Hp) (b x:Addr) (R:List RC) (L:List LC) (N:List (List (Int×Int))) (B:BkS):Prop where
 ob:∃(db nl wl pl ql el:Addr) (fs:List (Str×V)),A=[b,nl,pl,ql,el]/\H b=some (.ins cO db fs)/\fs.length<=7+2*B.es.length/\BkFld fs (.ref x) (.ref nl) (.ref wl) (.ref B.st) (.ref pl) (.ref ql) (.ref el)/\H nl=some (.lst (B.zs.map V.str))/\H pl=some (.lst B.ps)/\H ql=some (.lst B.qs)/\H el=some (.lst B.es)/\[nl,pl,ql,el].Nodup/\qD H A wl=some (.lst B.us)
 cn:CnAt cs cR cN [] (qD H A) x R L N
 wy:AllAt (WyAt (qD H A)) B.us B.ys
 sts:StAt (qD H A) B.st B.d B.ms B.pl
 wd:AllAt (WdAt (qD H A)) B.qs B.qd
 pp:PoursH (qD H A) B.ps B.pd B.ms.length
 ok:BkOk R L N B
section
variable {cs:Kd->Addr} {cR cN cO:Addr} {A:List Addr} {H H':Hp} {b x:Addr} {R:List RC} {L:List LC} {N:List (List (Int×Int))} {B:BkS}
theorem BkAt.same (s:Same H H') (h:BkAt cs cR cN cO A H b x R L N B):BkAt cs cR cN cO A H' b x R L N B:=by
 obtain ⟨V,O,wl,pl,S,el,fs,Z,h1,J,M,h4,F,h6,G,Y,I⟩:=h.ob;have E:Same (qD H A) (qD H' A):=yS s;exact ⟨⟨V,O,wl,pl,S,el,fs,Z,s _ _ h1,J,M,s _ _ h4,s _ _ F,s _ _ h6,s _ _ G,Y,E _ _ I⟩,h.cn.same E,h.wy.mono (WyAt.same E),h.sts.same E,h.wd.mono (WdAt.same E),h.pp.same E,h.ok⟩
theorem BkAt.cnH (h:BkAt cs cR cN cO A H b x R L N B):CnAt cs cR cN [] H x R L N:=h.cn.same (JG _ _)
theorem BkAt.wyH (h:BkAt cs cR cN cO A H b x R L N B):AllAt (WyAt H) B.us B.ys:=h.wy.mono (WyAt.same (JG _ _))
theorem BkAt.stH (h:BkAt cs cR cN cO A H b x R L N B):StAt H B.st B.d B.ms B.pl:=h.sts.same (JG _ _)
theorem BkAt.stage {l:Addr} (h:BkAt cs cR cN cO A H b x R L N B) (E:H l=some (.lst B.us)):Stage cs cR cN [] H x l B.st B.us R L N B.ys B.d B.ms B.pl:=⟨h.cnH,h.ok.dr,E,h.wyH,h.stH,h.ok.fl,h.ok.ml⟩
theorem BkAt.ins (h:BkAt cs cR cN cO A H b x R L N B):∃(F:Addr) (fs:List (Str×V)),H b=some (.ins cO F fs)/\∀m:Str,m∉(["kept_canal","kept_names","kept_ways","kept_state","kept_pours","kept_words","kept_entries"]:List Str)->fs.lookup m=none:=by
 obtain ⟨F,J,S,pl,M,O,fs,_,G,_,I,_⟩:=h.ob;refine ⟨F,fs,G,fun m E=>?_⟩;simp only [aj,au,bb,not_or] at E;exact I.no E.1 E.2.1 E.2.2.1 E.2.2.2.1 E.2.2.2.2.1 E.2.2.2.2.2.1 E.2.2.2.2.2.2
end
def vI (cs:Kd->Addr) (cR cN h:Addr) (P:BkS->Hp->VK->Prop):Sp:=fun vs H Q _=>∃b x A R L N B,vs=[.ref b]/\BkAt cs cR cN h A H b x R L N B/\P B H Q
def Z9 (cs:Kd->Addr) (cR cN h:Addr):Sp:=fun vs H Q _=>∃b x A R L N B,vs=[.ref b]/\BkAt cs cR cN h A H b x R L N B/\Q (.ref x) H
def zK (f:BkS->List V) (B:BkS) (H:Hp) (Q:VK):Prop:=∀l H',Same H H'->H l=none->H' l=some (.lst (f B))->Q (.ref l) H'
def Z8 (B:BkS) (H:Hp) (Q:VK):Prop:=Q (.ref B.st) H
def BF (B:BkS) (H:Hp) (Q:VK):Prop:=∀l vs H',Same H H'->H l=none->H' l=some (.lst vs)->AllAt (WdNew H l H') vs B.qd->Q (.ref l) H'
def K2 (R:List RC) (L:List LC) (B:BkS):Prop:=B.zs=[]/\B.ys=[]/\B.d=0/\B.pl=[]/\B.us=[]/\B.ps=[]/\B.pd=[]/\B.qd=[]/\B.es=[]/\∃gs,Spl (kR R L.length) (v8 R L.length) gs/\B.ms=yK (v8 R L.length) (kR R L.length) gs
def xC (cs:Kd->Addr) (cR cN h:Addr):Sp:=fun vs H Q _=>∃b E x R L N,vs=[.ref b,.ref x]/\H b=some (.ins h E [])/\CnAt cs cR cN [] (qD H [b]) x R L N/\Drawn R L N/\
 ∀A B H',BkAt cs cR cN h A H' b x R L N B->K2 R L B->Same (qD H [b]) (qD H' A)->Q .non H'
structure IniJ (H0 Hi:Hp) (b db cO:Addr) (fs:List (Str×V)) (n:Nat) (ls:List Addr):Prop where
 jb:Hi b=some (.ins cO db fs)
 jn:fs.length<=n
 jl:∀c∈ls,Hi c=some (.lst [])
 jnd:ls.Nodup
 jd:Same (qD H0 [b]) (qD Hi (b::ls))
section
variable {H0 Hi Hj:Hp} {b db cO a:Addr} {fs:List (Str×V)} {n:Nat} {ls:List Addr}
theorem IniJ.same (h:IniJ H0 Hi b db cO fs n ls) (s:Same Hi Hj):IniJ H0 Hj b db cO fs n ls:=⟨s _ _ h.jb,h.jn,fun c E=>s _ _ (h.jl c E),h.jnd,h.jd.trans (yS s)⟩
theorem IniJ.set (h:IniJ H0 Hi b db cO fs n ls) (f:Str) (z:V):∃H',upd Hi b (.ins cO db (jS f z fs))=H'/\IniJ H0 H' b db cO (jS f z fs) (n+1) ls/\Keep b Hi H':=by
 refine ⟨_,rfl,⟨jF,aM (JQ f z fs) (Nat.succ_le_succ h.jn),fun c E=>?_,h.jnd,?_⟩,(Keep.refl b Hi).upd _⟩
 ·rw [j7 (yP (h.jl c E) h.jb (fun z=>nomatch z))];exact h.jl c E
 ·rw [YC aT];exact h.jd
theorem IniJ.step (h:IniJ H0 Hi b db cO fs n ls) (F:Hi a=none) (f:Str):∃H',upd (upd Hi a (.lst [])) b (.ins cO db (jS f (.ref a) fs))=H'/\IniJ H0 H' b db cO (jS f (.ref a) fs) (n+1) (a::ls)/\∀t l,Hi t=some (.tup l)->H' t=some (.tup l):=by
 have u:=jK F (.lst []);obtain ⟨H',e,J,k⟩:=(h.same u).set f (.ref a);have I:a≠b:=(q9 h.jb F).symm;refine ⟨H',e,⟨J.jb,J.jn,fun c E=>?_,cu.mpr ⟨fun z=>(by rw [h.jl a z] at F;cases F),h.jnd⟩,?_⟩,fun t l M=>k _ _ (yP (u _ _ M) (u _ _ h.jb) (fun z=>nomatch z)) (u _ _ M)⟩
 ·rcases aj.mp E with rfl|E
  ·exact k _ _ I jF
  ·exact J.jl c E
 ·refine h.jd.trans fun c o E=>?_
  by_cases G:c∈b::ls
  ·rw [bT G] at E;cases E
  ·rw [yJ G] at E;have S:=q9 E F;have O:c≠b:=fun z=>G (by rw [z];exact aT)
   rw [yJ fun z=>?_]
   ·exact k _ _ O (u _ _ E)
   ·rcases aj.mp z with z|z
    ·exact O z
    ·rcases aj.mp z with z|z
     ·exact S z
     ·exact G (aF _ z)
theorem StAt.tup {H H':Hp} {t:Addr} {d:Int} {ms:List Int} {pl:List Nat} (k:∀t l,H t=some (.tup l)->H' t=some (.tup l)) (h:StAt H t d ms pl):StAt H' t d ms pl:=by
 obtain ⟨J,G,I,E,F⟩:=h;exact ⟨J,G,k _ _ I,k _ _ E,k _ _ F⟩
end
def pN (S:Str) (c:Nat):Bool := !(Builtin.Str.occurrences S ⟨#[c]⟩ 0 S.length 1).isEmpty
def eE (S w:Str) (i:Nat):Bool:=(w.cps.toList.take i).all (pN S)
theorem VJ {S w:Str} {c:Nat} (h:w.cps[i]?=some c):eE S w (i+1)=(eE S w i&&pN S c):=by
 unfold eE;rw [aK,show w.cps.toList[i]?=some c by rw [Array.getElem?_toList];exact h,all_append];simp
def JM (S w:Str):Bool:=decide (0<w.length)&&decide (w.length<13)&&eE S w w.cps.size
theorem xH (zs:List Str):(zs.map V.str).all vY=true:=by rw [all_map,dw];intro _ _;rfl
theorem XW (h:ZL zs nm):ZT (.str nm) (zs.map V.str)=false:=by
 unfold ZT;rw [any_map,fg];intro e;obtain ⟨z,F,e⟩:=any_eq_true.mp e;obtain ⟨i,E⟩:=cc.mp F;have e:(z == nm)=true:=e;rw [eq_of_beq e] at E;exact h i E
theorem in_iff:ZT (.str nm) (zs.map V.str)=true↔¬ZL zs nm:=by
 refine ⟨fun h E=>?_,fun h=>?_⟩
 ·rw [XW E] at h;cases h
 ·cases e:ZT (.str nm) (zs.map V.str) with
  |true=>rfl
  |false =>
   refine absurd (fun i F=>?_) h;unfold ZT at e;rw [any_map,fg] at e;exact e (any_eq_true.mpr ⟨nm,ag F,by show (nm == nm)=true;exact gv nm⟩)
open Classical in
def IK:Sp:=fun vs H Q _=>∃w S:Str,vs=[.str w,.str S]/\w.length<=100/\∀H',Same H H'->Q (.bl (JM S w)) H'
def FM:Sp:=fun vs H Q _=>∃w:Str,vs=[.str w]/\w.length<=100/\∀H',Same H H'->Q (.bl (JM lettersS w)) H'
open Classical in
noncomputable def vS (R:List RC) (L:List LC) (zs:List Str) (e:CoE):Nat:=if JM lettersS e.name=false then 1 else if e.name∈zs then 2 else if 9<=zs.length then 3 else match zV R L e with
 |none=>4
 |some y=>if QS L y.1 y.2 then 0 else 5
def rA (E G h I F:Addr) (c:Nat):Addr:=if c=1 then E else if c=2 then G else if c=3 then h else if c=4 then I else F
theorem mem_inV:ZT (V.str nm) (zs.map V.str)=true↔nm∈zs:=by
 rw [in_iff];constructor
 ·intro h
  rcases WN zs nm with ⟨i,E⟩|F
  ·exact ag E.1
  ·exact absurd F h
 ·intro h G;obtain ⟨i,E⟩:=cc.mp h;exact G i E
theorem U2 (h:FirstAt zs nm j):j<(zs.map V.str).length/\yW ((zs.map V.str).getD j .non) (.str nm)=true/\∀i,i<j->yW ((zs.map V.str).getD i .non) (.str nm)=false:=by
 have F:=(ad.mp h.1).1;refine ⟨by rw [ae];exact F,?_,fun i G=>?_⟩
 ·rw [ac,ap,h.1];show (nm == nm)=true;exact gv nm
 ·have E:zs[i]?=some zs[i]:=aa (by lia);rw [ac,ap,E];show (zs[i] == nm)=false;exact dz.mpr fun e=>h.2 i G (by rw [E,e])
theorem nM {e:CoE} (h:zV R L e=some y):∃a:Nat,y.1=(a:Int)/\kJ (R.map (·.name)) e.start=some a/\a<R.length/\y.2.length=e.steps.length/\∀p∈y.2,p.1<L.length:=by
 unfold zV at h;cases F:kJ (R.map (·.name)) e.start with
 |none=>rw [F] at h;cases h
 |some a =>
  rw [F] at h;obtain ⟨ps,E,rfl⟩:=ba.mp h;have G:=ZH F;rw [ae] at G;obtain ⟨I,J⟩:=xI E;exact ⟨a,rfl,rfl,G,I,fun p M=>by have:=J p M;rwa [ae] at this⟩
open Classical in
theorem oN {R:List RC} {L:List LC} {zs:List Str} {e:CoE} (h:vS R L zs e=0):∃y,zV R L e=some y/\QS L y.1 y.2/\e.name∉zs/\zs.length<9:=by
 unfold vS at h
 by_cases I:JM lettersS e.name=false
 ·rw [if_pos I] at h;cases h
 rw [if_neg I] at h
 by_cases F:e.name∈zs
 ·rw [if_pos F] at h;cases h
 rw [if_neg F] at h
 by_cases G:9<=zs.length
 ·rw [if_pos G] at h;cases h
 rw [if_neg G] at h;cases J:zV R L e with
 |none=>rw [J] at h;cases h
 |some y =>
  rw [J] at h
  by_cases E:QS L y.1 y.2
  ·exact ⟨y,rfl,E,F,by lia⟩
  ·have h:(if QS L y.1 y.2 then 0 else 5)=0:=h;rw [if_neg E] at h;cases h
theorem W1 (R:List RC) (L:List LC) (zs:List Str) (e:CoE):vS R L zs e<=5:=by
 unfold vS
 split
 ·decide
 split
 ·decide
 split
 ·decide
 split
 ·decide
 split<;>decide
inductive Ent
 |come (e:CoE)
 |pas (n:Str)
 |lt (n:Str)
 |night (W:List (Int×Int))
 |take (n:Str) (a:Int)
 |rain (n:Str) (a:Int)
def EnAt (H:Hp) (t:Addr):Ent->Prop
 |.come e=>CoAt H t e
 |.pas n=>H t=some (.tup [.str "pass",.str n])
 |.lt n=>H t=some (.tup [.str "let",.str n])
 |.night W=>∃h us,H t=some (.tup [.str "night",.ref h])/\H h=some (.tup us)/\AllAt (QAt H) us W
 |.take n a=>H t=some (.tup [.str "take",.str n,.int a])
 |.rain n a=>H t=some (.tup [.str "rain",.str n,.int a])
theorem EnAt.same {H H':Hp} {t:Addr} (s:Same H H'):∀{e:Ent},EnAt H t e->EnAt H' t e
 |.come _,h=>CoAt.same s h
 |.pas _,h=>s _ _ h
 |.lt _,h=>s _ _ h
 |.night _,⟨I,us,G,E,F⟩=>⟨I,us,s _ _ G,s _ _ E,F.mono (QAt.same s)⟩
 |.take _ _,h=>s _ _ h
 |.rain _ _,h=>s _ _ h
def cK:Ent->Prop
 |.come e=>e.name.length<=100/\e.steps.length<=8/\1<=e.steps.length
 |.night W=>W.length<=100
 |_=>True
def Q4:Ent->Str
 |.come _=>"come"
 |.pas _=>"pass"
 |.lt _=>"let"
 |.night _=>"night"
 |.take _ _=>"take"
 |.rain _ _=>"rain"
theorem zW {x:V} {l:List V}:vM (x::l) 0=some x:=qF (j:=0) rfl
theorem EnAt.head {t:Addr}:∀{e:Ent},EnAt H t e->∃l,H t=some (.tup (.str (Q4 e)::l))
 |.come _,⟨_,_,h,_⟩=>⟨_,h⟩
 |.pas _,h=>⟨_,h⟩
 |.lt _,h=>⟨_,h⟩
 |.night _,⟨_,_,h,_⟩=>⟨_,h⟩
 |.take _ _,h=>⟨_,h⟩
 |.rain _ _,h=>⟨_,h⟩
def Q7 (R:List RC) (L:List LC) (zs:List Str):Ent->Option Nat
 |.pas n=>kJ zs n
 |.lt n=>kJ (L.map (·.name)) n
 |.take n _=>kJ (R.map (·.name)) n
 |.rain n _=>kJ (R.map (·.name)) n
 |_=>none
def zT:Ent->Bool
 |.come _=>false
 |.night _=>false
 |_=>true
noncomputable def qL (R:List RC) (L:List LC) (N:List (List (Int×Int))) (B:BkS):Ent->Nat
 |.come e=>vS R L B.zs e
 |.night W=>if W.length=R.length then (if B.d<(N.length:Int)/\b7 W (N.getD B.d.toNat [])=false then 8 else 0) else 7
 |e=>if Q7 R L B.zs e=none then 4 else 0
def bY (R:List RC) (L:List LC) (B:BkS) (e:CoE):Bool:=match zV R L e with
 |some y=>decide (((R[y.1.toNat]?).map (·.berths)).getD 0<=(((vT L B.ys B.pl).countP fun z=>decide (z=y.1):Nat):Int))
 |none=>false
def vR (R:List RC) (L:List LC) (zs:List Str):Ent->Option Deed
 |.pas n=>(kJ zs n).map Deed.pass
 |.lt n=>(kJ (L.map (·.name)) n).map Deed.let
 |.night _=>some .night
 |_=>none
def yQ (R:List RC) (L:List LC) (N:List (List (Int×Int))) (B:BkS):Ent->Str
 |.come e=>if bY R L B e=true then "berth" else ""
 |.take n a=>match kJ (R.map (·.name)) n with
  |some i=>if B.ms.getD i 0 - a<((R[i]?).map (·.least)).getD 0 then "water" else ""
  |none=>""
 |.rain _ _=>""
 |e=>match vR R L B.zs e with
  |some de=>zJ R L N.length B.ys B.d B.ms B.pl de
  |none=>""
def dY (E G h J F M I:Addr) (c:Nat):Addr:=if c=7 then M else if c=8 then I else rA E G h J F c
def vH (cs:Kd->Addr) (cR cN h:Addr) (P:List RC->List LC->List (List (Int×Int))->BkS->Addr->Ent->Hp->VK->XK->Prop):Sp:=fun vs H Q E=>∃b t x A R L N B e,vs=[.ref b,.ref t]/\BkAt cs cR cN h A H b x R L N B/\EnAt H t e/\cK e/\P R L N B t e H Q E
def dX (h:Addr) (R:List RC) (L:List LC) (_:List (List (Int×Int))) (B:BkS) (_:Addr) (e:Ent) (H:Hp) (Q:VK) (E:XK):Prop:=zT e=true/\(∀i,Q7 R L B.zs e=some i->∀H',Same H H'->Q (.int ((i:Nat):Int)) H')/\(Q7 R L B.zs e=none->∀H',Same H H'->E (.ref h) none H')
def LB (F I h O G M J:Addr) (R:List RC) (L:List LC) (N:List (List (Int×Int))) (B:BkS) (_:Addr) (e:Ent) (H:Hp) (Q:VK) (E:XK):Prop:=(qL R L N B e=0->∀H',Same H H'->Q .non H')/\(qL R L N B e≠0->∀H',Same H H'->E (.ref (dY F I h O G M J (qL R L N B e))) none H')
def IR (h:Addr):Sp:=fun vs H Q E=>∃nm l zs,vs=[.str nm,.ref l]/\H l=some (.lst (zs.map V.str))/\zs.length<=100/\(∀i,kJ zs nm=some i->Q (.int ((i:Nat):Int)) H)/\(kJ zs nm=none->E (.ref h) none H)
def EC (cs:Kd->Addr) (cR cN h G J F M I:Addr):Sp:=fun vs H Q E=>∃b t x A R L N B e,vs=[.ref b,.ref t]/\BkAt cs cR cN h A H b x R L N B/\CoAt H t e/\cK (.come e)/\(vS R L B.zs e=0->∀H',Same H H'->Q .non H')/\(vS R L B.zs e≠0->∀H',Same H H'->E (.ref (rA G J F M I (vS R L B.zs e))) none H')
def DJ (cs:Kd->Addr) (cR cN G J I:Addr):Sp:=fun vs H Q E=>∃b F x A R L N B h W,vs=[.ref b,.ref F]/\BkAt cs cR cN G A H b x R L N B/\H F=some (.tup h)/\AllAt (QAt H) h W/\W.length<=100/\(qL R L N B (.night W)=0->∀H',Same H H'->Q .non H')/\(qL R L N B (.night W)=7->∀H',Same H H'->E (.ref J) none H')/\(qL R L N B (.night W)=8->∀H',Same H H'->E (.ref I) none H')
def pI (R:List RC) (L:List LC) (_:List (List (Int×Int))) (B:BkS) (_:Addr) (e:Ent) (H:Hp) (Q:VK) (_:XK):Prop:=∃E,vR R L B.zs e=some E/\∀h H',Same H H'->H' h=some (.tup (pR E))->Q (.ref h) H'
def KY (R:List RC) (_:List LC) (_:List (List (Int×Int))) (B:BkS) (_:Addr) (e:Ent) (H:Hp) (Q:VK) (_:XK):Prop:=∃n a i,e=.take n a/\kJ (R.map (·.name)) n=some i/\∀H',Same H H'->Q (.bl (decide (B.ms.getD i 0 - a<((R[i]?).map (·.least)).getD 0))) H'
def LA (R:List RC) (L:List LC) (N:List (List (Int×Int))) (B:BkS) (_:Addr) (e:Ent) (H:Hp) (Q:VK) (_:XK):Prop:=qL R L N B e=0/\∀H',Same H H'->Q (.str (yQ R L N B e)) H'
variable {B:BkS} {e:Ent}
theorem QJ (h:zT e=true) (E:qL R L N B e=0):∃i,Q7 R L B.zs e=some i:=by
 cases F:Q7 R L B.zs e with
 |some i=>exact ⟨i,rfl⟩
 |none =>
  have:qL R L N B e=if Q7 R L B.zs e=none then 4 else 0:=by cases e<;>first|rfl|cases h
  rw [F,if_pos rfl,E] at this;cases this
def ZO:Ent->Bool
 |.pas _=>true
 |.lt _=>true
 |.night _=>true
 |_=>false
theorem GD:∀{e:Ent},zT e=true->Q4 e≠"come"/\Q4 e≠"night"
 |.pas _,_=>⟨(show ("pass":Str)≠"come" by trivial),(show ("pass":Str)≠"night" by trivial)⟩
 |.lt _,_=>⟨(show ("let":Str)≠"come" by trivial),(show ("let":Str)≠"night" by trivial)⟩
 |.take _ _,_=>⟨(show ("take":Str)≠"come" by trivial),(show ("take":Str)≠"night" by trivial)⟩
 |.rain _ _,_=>⟨(show ("rain":Str)≠"come" by trivial),(show ("rain":Str)≠"night" by trivial)⟩
theorem xO:∀{e:Ent},ZO e=true->Q4 e≠"come"/\Q4 e≠"take"/\Q4 e≠"rain"
 |.pas _,_=>⟨(show ("pass":Str)≠"come" by trivial),(show ("pass":Str)≠"take" by trivial),(show ("pass":Str)≠"rain" by trivial)⟩
 |.lt _,_=>⟨(show ("let":Str)≠"come" by trivial),(show ("let":Str)≠"take" by trivial),(show ("let":Str)≠"rain" by trivial)⟩
 |.night _,_=>⟨(show ("night":Str)≠"come" by trivial),(show ("night":Str)≠"take" by trivial),(show ("night":Str)≠"rain" by trivial)⟩
theorem EO:∀e:Ent,Q4 e≠"come"\/∃h,e=.come h
 |.come e=>.inr ⟨e,rfl⟩
 |.pas _=>.inl (show ("pass":Str)≠"come" by trivial)
 |.lt _=>.inl (show ("let":Str)≠"come" by trivial)
 |.night _=>.inl (show ("night":Str)≠"come" by trivial)
 |.take _ _=>.inl (show ("take":Str)≠"come" by trivial)
 |.rain _ _=>.inl (show ("rain":Str)≠"come" by trivial)
theorem UW:∀e:Ent,(Q4 e≠"let"/\Q4 e≠"pass")\/(∃n,e=.pas n)\/∃n,e=.lt n
 |.pas n=>.inr (.inl ⟨n,rfl⟩)
 |.lt n=>.inr (.inr ⟨n,rfl⟩)
 |.come _=>.inl ⟨(show ("come":Str)≠"let" by trivial),(show ("come":Str)≠"pass" by trivial)⟩
 |.night _=>.inl ⟨(show ("night":Str)≠"let" by trivial),(show ("night":Str)≠"pass" by trivial)⟩
 |.take _ _=>.inl ⟨(show ("take":Str)≠"let" by trivial),(show ("take":Str)≠"pass" by trivial)⟩
 |.rain _ _=>.inl ⟨(show ("rain":Str)≠"let" by trivial),(show ("rain":Str)≠"pass" by trivial)⟩
theorem iM (I:B.zs.length=B.ys.length) (h:ZO e=true) (G:qL R L N B e=0):∃de,vR R L B.zs e=some de/\ZP B.ys.length L.length de/\yQ R L N B e=zJ R L N.length B.ys B.d B.ms B.pl de/\(zT e=true->de≠.night/\(vB R L N B.ys B.d B.ms B.pl de).length<=4):=by
 cases e with
 |night W=>exact ⟨.night,rfl,trivial,rfl,fun z=>nomatch z⟩
 |pas n =>
  obtain ⟨i,E⟩:=QJ (e:=.pas n) rfl G;have E:kJ B.zs n=some i:=E;have F:vR R L B.zs (.pas n)=some (.pass i):=by show (kJ B.zs n).map Deed.pass=_;rw [E];rfl
  refine ⟨.pass i,F,?_,?_,fun _=>⟨(fun z=>nomatch z),EJ _ _ _ _⟩⟩
  ·have:=ZH E;show i<B.ys.length
   lia
  ·show (match vR R L B.zs (.pas n) with|some de=>zJ R L N.length B.ys B.d B.ms B.pl de|none=>"")=_;rw [F]
 |lt n =>
  obtain ⟨i,E⟩:=QJ (e:=.lt n) rfl G;have E:kJ (L.map (·.name)) n=some i:=E;have F:vR R L B.zs (.lt n)=some (.let i):=by show (kJ (L.map (·.name)) n).map Deed.let=_;rw [E];rfl
  refine ⟨.let i,F,?_,?_,fun _=>⟨(fun z=>nomatch z),GB _ _ _ _⟩⟩
  ·have:=ZH E
   rwa [ae] at this
  ·show (match vR R L B.zs (.lt n) with|some de=>zJ R L N.length B.ys B.d B.ms B.pl de|none=>"")=_;rw [F]
 |come e=>cases h
 |take n a=>cases h
 |rain n a=>cases h
theorem SJ (h:n<=2000):n<=sizeLine:=aM h (by show 2000<=2 ^ 24;decide)
def yN (s t:Nat) (a:Int):List (Nat×Nat×Int):=if a=0 then [] else [(s,t,a)]
def gD (R:List RC) (L:List LC) (N:List (List (Int×Int))) (B:BkS):Ent->List (Nat×Nat×Int)
 |.come _=>[]
 |.take n a=>match kJ (R.map (·.name)) n with|some i=>yN i (R.length+2*L.length+1) a|none=>[]
 |.rain n a=>match kJ (R.map (·.name)) n with|some i=>yN (R.length+2*L.length+1) i a|none=>[]
 |.night W=>(zH (R.length+2*L.length+1) B.ms W R.length).filter qM
 |.pas n=>match vR R L B.zs (.pas n) with|some de=>vB R L N B.ys B.d B.ms B.pl de|none=>[]
 |.lt n=>match vR R L B.zs (.lt n) with|some de=>vB R L N B.ys B.d B.ms B.pl de|none=>[]
def AL:Ent->Bool
 |.come _=>false
 |.take _ _=>false
 |_=>true
def bK (R:List RC) (L:List LC) (gs:List Int):List (Nat×Nat×Int):=(yM (qB (kR R L.length)) (fun a=>gs.getD a 0) (kR R L.length).length).filter qM
def PourE (R:List RC) (L:List LC) (N:List (List (Int×Int))) (B:BkS) (e:Ent) (qs:List (Nat×Nat×Int)):Prop:=(AL e=false/\qs=gD R L N B e)\/(AL e=true/\∃gs,Spl (kR R L.length) (kC B.ms (gD R L N B e)) gs/\qs=gD R L N B e++bK R L gs)
theorem PourE.unique {E:List (Nat×Nat×Int)} (G:Drawn R L N) (h:PourE R L N B e qs) (h':PourE R L N B e E):E=qs:=by
 rcases h with ⟨a,rfl⟩|⟨a,gs,s,rfl⟩
 ·rcases h' with ⟨_,rfl⟩|⟨b,_⟩
  ·rfl
  ·rw [a] at b;cases b
 ·rcases h' with ⟨b,_⟩|⟨_,I,F,rfl⟩
  ·rw [a] at b;cases b
  ·rw [Spl.unique (xY (mS (m:=L.length) (JE G))) F s]
variable {de:Deed}
theorem FT:∀{e:Ent},ZO e=true->zT e=true->vR R L B.zs e=some de->gD R L N B e=vB R L N B.ys B.d B.ms B.pl de/\AL e=true
 |.pas n,_,_,h=>⟨by show (match vR R L B.zs (.pas n) with|some de=>vB R L N B.ys B.d B.ms B.pl de|none=>[])=_;rw [h],rfl⟩
 |.lt n,_,_,h=>⟨by show (match vR R L B.zs (.lt n) with|some de=>vB R L N B.ys B.d B.ms B.pl de|none=>[])=_;rw [h],rfl⟩
theorem UD (J:ZO e=true) (G:zT e=true) (h:vR R L B.zs e=some de) (F:Spl (kR R L.length) (kC B.ms (vB R L N B.ys B.d B.ms B.pl de)) gs):PourE R L N B e (JJ R L N B.ys B.d B.ms B.pl de gs):=by
 obtain ⟨E,I⟩:=FT (N:=N) J G h;exact .inr ⟨I,gs,by rw [E];exact F,by rw [E];rfl⟩
theorem FS {n:Str} {a:Int} (h:Q7 R L B.zs (.take n a)=some i):yN i (R.length+2*L.length+1) a=gD R L N B (.take n a):=by
 show _=(match kJ (R.map (·.name)) n with|some i=>yN i (R.length+2*L.length+1) a|none=>[]);rw [show kJ (R.map (·.name)) n=some i from h]
theorem AC {n:Str} {a:Int} (h:Q7 R L B.zs (.rain n a)=some i):gD R L N B (.rain n a)=yN (R.length+2*L.length+1) i a:=by
 show (match kJ (R.map (·.name)) n with|some i=>yN (R.length+2*L.length+1) i a|none=>[])=_;rw [show kJ (R.map (·.name)) n=some i from h]
theorem PoursH.delT (h:PoursH H rs qs n) (J:∀a∈A,∀O,H a≠some (.tup O)):PoursH (qD H A) rs qs n:=⟨h.1,fun i r M=>by
 obtain ⟨a,s,t,m,e,I,E,F,G⟩:=h.2 i r M;exact ⟨a,s,t,m,e,I,by rw [yJ fun z=>J a z _ E];exact E,F,G⟩⟩
def upT:List Str:=["open low","in low","shut low","fill","open high","out high","shut high"]
def downT:List Str:=["open high","in high","shut high","let","open low","out low","shut low"]
def dS (f w:Bool):List Str:=match f,w with
 |true,true=>([("let":Str)]:List Str)++upT
 |false,true=>([]:List Str)++upT
 |true,false=>([]:List Str)++downT
 |false,false=>([("fill":Str)]:List Str)++downT
def pW (R:List RC) (L:List LC) (B:BkS) (n:Str):Option (Str×List Str):=(kJ B.zs n).bind fun i=>((B.ys.getD i (0,[])).2[B.pl.getD i 0]?).bind fun s=>(L[s.1]?).map fun lc=>(lc.name,dS (vX R.length B.ms s.1) s.2)
def bU (R:List RC) (L:List LC) (B:BkS):Ent->List (Str×List Str)
 |.lt n=>[(n,[("let":Str)])]
 |.pas n=>(pW R L B n).toList
 |_=>[]
theorem SV:∀{e:Ent},(Q4 e≠"let"/\Q4 e≠"pass")->bU R L B e=[]
 |.pas _,h=>absurd rfl h.2
 |.lt _,h=>absurd rfl h.1
 |.come _,_=>rfl
 |.take _ _,_=>rfl
 |.rain _ _,_=>rfl
 |.night _,_=>rfl
theorem DV {n:Str} {p:Nat} {s:Nat×Bool} (F:kJ B.zs n=some i) (I:B.ys[i]?=some y) (E:B.pl[i]?=some p) (G:y.2[p]?=some s) (h:L[s.1]?=some lc):bU R L B (.pas n)=[(lc.name,dS (vX R.length B.ms s.1) s.2)]:=by
 have e:pW R L B n=some (lc.name,dS (vX R.length B.ms s.1) s.2):=by
  unfold pW;rw [F];show ((B.ys.getD i (0,[])).2[B.pl.getD i 0]?).bind _=_;rw [ac,ac,I,E];show (y.2[p]?).bind _=_;rw [G];show (L[s.1]?).map _=_;rw [h];rfl
 show (pW R L B n).toList=_;rw [e];rfl
def FF:Sp:=fun vs H Q _=>∃(s t m:Nat) (a:Int),vs=[.int (s:Int),.int (t:Int),.int a]/\s<m/\t<m/\∀r zs H',Same H H'->H r=none->H' r=some (.lst zs)->PoursH H' zs (yN s t a) m->zs.length<=1->Q (.ref r) H'
def BG (R:List RC) (L:List LC) (N:List (List (Int×Int))) (B:BkS) (_:Addr) (e:Ent) (H:Hp) (Q:VK) (_:XK):Prop:=qL R L N B e=0/\yQ R L N B e=""/\∀r zs qs H',Same H H'->H r=none->H' r=some (.lst zs)->PoursH H' zs qs B.ms.length->zs.length<=24->PourE R L N B e qs->Q (.ref r) H'
theorem xZ {f:Nat->Int}:((yM (qB (kR R m)) f (kR R m).length).filter qM).length<=R.length:=by
 refine aM (bw _ _) ?_;unfold yM;rw [ae,e9,zG];exact ao _
theorem FY {W:List (Int×Int)} (E:qL R L N B (.night W)=0):W.length=R.length:=by
 have:qL R L N B (.night W)=if W.length=R.length then (if B.d<(N.length:Int)/\b7 W (N.getD B.d.toNat [])=false then 8 else 0) else 7:=rfl
 by_cases h:W.length=R.length
 ·exact h
 ·rw [if_neg h,E] at this;cases this
def QN (R:List RC) (L:List LC) (B:BkS):Ent->List vE
 |.come e=>B.ys++(zV R L e).toList
 |_=>B.ys
def J3 (R:List RC) (L:List LC) (B:BkS) (e:Ent):List Nat:=match e with
 |.come _=>B.pl++[0]
 |_=>match vR R L B.zs e with
  |some de=>QI B.pl de
  |none=>B.pl
def dZ (B:BkS):Ent->Int
 |.night _=>B.d+1
 |_=>B.d
def ZR (B:BkS):Ent->List Str
 |.come e=>B.zs++[e.name]
 |_=>B.zs
theorem KI (h:ZO e=true) (E:vR R L B.zs e=some de):dZ B e=K1 B.d de/\J3 R L B e=QI B.pl de:=by
 cases e with
 |come e=>cases h
 |take n a=>cases h
 |rain n a=>cases h
 |night W=>cases E;exact ⟨rfl,rfl⟩
 |pas n =>
  have F:J3 R L B (.pas n)=QI B.pl de:=by show (match vR R L B.zs (.pas n) with|some de=>QI B.pl de|none=>B.pl)=_;rw [E]
  obtain ⟨i,_,rfl⟩:=ba.mp E;exact ⟨rfl,F⟩
 |lt n =>
  have F:J3 R L B (.lt n)=QI B.pl de:=by show (match vR R L B.zs (.lt n) with|some de=>QI B.pl de|none=>B.pl)=_;rw [E]
  obtain ⟨i,_,rfl⟩:=ba.mp E;exact ⟨rfl,F⟩
def I0 (R:List RC) (L:List LC) (N:List (List (Int×Int))) (B:BkS) (_:Addr) (e:Ent) (H:Hp) (Q:VK) (_:XK):Prop:=qL R L N B e=0/\∀l h H',Same H H'->H l=none->H' l=some (.lst h)->AllAt (WyAt H') h (QN R L B e)->Q (.ref l) H'
def HV (R:List RC) (L:List LC) (N:List (List (Int×Int))) (B:BkS) (_:Addr) (e:Ent) (H:Hp) (Q:VK) (_:XK):Prop:=qL R L N B e=0/\yQ R L N B e=""/\∀h qs H',Same H H'->StAt H' h (dZ B e) (kC B.ms qs) (J3 R L B e)->PourE R L N B e qs->Q (.ref h) H'
def KW (R:List RC) (L:List LC) (N:List (List (Int×Int))) (B:BkS) (_:Addr) (e:Ent) (H:Hp) (Q:VK) (_:XK):Prop:=qL R L N B e=0/\yQ R L N B e=""/\∀l vs H',Same H H'->H l=none->H' l=some (.lst vs)->AllAt (WdNew H l H') vs (bU R L B e)->vs.length<=1->Q (.ref l) H'
def FK:Sp:=fun vs H Q _=>∃f w:Bool,vs=[.bl f,.str (bL w)]/\∀l H',Same H H'->H l=none->H' l=some (.lst ((dS f w).map V.str))->Q (.ref l) H'
def FC (cs:Kd->Addr) (cR cN:Addr):Sp:=fun vs H Q _=>∃(x h E:Addr) (b:Nat) (F:List V) (ys:List vE) (y:vE) (p:Nat) (s:Nat×Bool) (d:Int) (ms:List Int) (pl:List Nat) (D:List Addr) (R:List RC) (L:List LC) (N:List (List (Int×Int))),vs=[.ref x,.ref h,.ref E,.int (b:Int)]/\Stage cs cR cN D H x h E F R L N ys d ms pl/\ys[b]?=some y/\pl[b]?=some p/\y.2[p]?=some s/\
 ∀t l lc H',L[s.1]?=some lc->Same H H'->H t=none->H l=none->H' t=some (.tup [.str lc.name,.ref l])->H' l=some (.lst ((dS (vX R.length ms s.1) s.2).map V.str))->Q (.ref t) H'
structure DoE (R:List RC) (L:List LC) (N:List (List (Int×Int))) (B:BkS) (e:Ent) (t:Addr) (B':BkS):Prop where
 zs:B'.zs=ZR B e
 ys:B'.ys=QN R L B e
 d:B'.d=dZ B e
 pl:B'.pl=J3 R L B e
 po:∃qs,PourE R L N B e qs/\B'.ms=kC B.ms qs/\B'.pd=B.pd++qs
 qd:B'.qd=B.qd++bU R L B e
 es:B'.es=B.es++[.ref t]
def pC (F I h O G M J:Addr) (R:List RC) (L:List LC) (N:List (List (Int×Int))) (B:BkS) (_:Addr) (e:Ent) (H:Hp) (Q:VK) (E:XK):Prop:=(qL R L N B e=0->∀H',Same H H'->Q (.str (yQ R L N B e)) H')/\(qL R L N B e≠0->∀H',Same H H'->E (.ref (dY F I h O G M J (qL R L N B e))) none H')
def AS (J O G V M Y S I:Addr) (R:List RC) (L:List LC) (N:List (List (Int×Int))) (B:BkS) (_:Addr) (e:Ent) (H:Hp) (Q:VK) (E:XK):Prop :=
 (qL R L N B e=0->yQ R L N B e=""->∀p l h F qs H',Same H H'->H' p=some (.tup [.ref l,.ref h])->H l=none->H' l=some (.lst F)->AllAt (WyAt H') F (QN R L B e)->StAt H' h (dZ B e) (kC B.ms qs) (J3 R L B e)->PourE R L N B e qs->Q (.ref p) H')/\
 (qL R L N B e=0->yQ R L N B e≠""->∀H',Same H H'->E (.ref I) none H')/\(qL R L N B e≠0->∀H',Same H H'->E (.ref (dY J O G V M Y S (qL R L N B e))) none H')
def BY (cs:Kd->Addr) (cR cN h J O G Y M V S I:Addr):Sp:=fun vs H Q E=>∃b t x A R L N B e,vs=[.ref b,.ref t]/\BkAt cs cR cN h A H b x R L N B/\EnAt H t e/\cK e/\
 (qL R L N B e=0->yQ R L N B e=""->B.es.length<45/\∀F H',BkAt cs cR cN h A H' b x R L N F->DoE R L N B e t F->Same (qD H A) (qD H' A)->Q .non H')/\
 (qL R L N B e=0->yQ R L N B e≠""->∀H',Same H H'->E (.ref I) none H')/\(qL R L N B e≠0->∀H',Same H H'->E (.ref (dY J O G Y M V S (qL R L N B e))) none H')
theorem YD (h:∀a,a∉A->H a=H' a):qD H A=qD H' A:=by
 funext a
 by_cases E:a∈A
 ·rw [bT E,bT E]
 ·rw [yJ E,yJ E,h a E]
theorem AllAt.app {P:V->α->Prop} {ys:List V} {as bs:List α} (h:AllAt P xs as) (h':AllAt P ys bs):AllAt P (xs++ys) (as++bs):=by
 refine ⟨by rw [af,af,h.1,h'.1],fun i v E=>?_⟩
 by_cases F:i<xs.length
 ·rw [aw F] at E;rw [aw (by rw [<- h.1];exact F)];exact h.2 i v E
 ·rw [ar (by lia)] at E;rw [ar (by rw [<- h.1];lia),<- h.1];exact h'.2 _ v E
theorem T8 {b p:Nat} (h:(zX pl b)[i]?=some p):∃q,pl[i]?=some q/\p=if i=b then q+1 else q:=by
 unfold zX at h;rw [ap] at h;obtain ⟨j,F,rfl⟩:=ba.mp h;have E:i<pl.length:=by
  have:=(ad.mp F).1
  rwa [bg] at this
 rw [cg E] at F;cases F;exact ⟨_,aa E,by rw [ac,aa E];rfl⟩
theorem WM (Z:BkOk R L N B) (aU:cK e) (hc:qL R L N B e=0) (hw:yQ R L N B e=""):Fleet L (QN R L B e) (J3 R L B e)/\(ZR B e).length=(QN R L B e).length/\(ZR B e).length<=9:=by
 have E:=Z.fl;have Y:=Z.zl;have V:=Z.z9;cases e with
 |come e =>
  obtain ⟨y,M,an,a3,h9⟩:=oN (show vS R L B.zs e=0 from hc);obtain ⟨a,ha,a0,a4,a5,ah⟩:=nM M;have al:QN R L B (.come e)=B.ys++[y]:=by show B.ys++(zV R L e).toList=_;rw [M];rfl
  have F:J3 R L B (.come e)=B.pl++[0]:=rfl;have aD:ZR B (.come e)=B.zs++[e.name]:=rfl;have h8:=aU.2.1;rw [al,F,aD];simp only [af,aE];refine ⟨⟨by simp only [af,aE];rw [E.len],by simp only [af,aE];lia,fun y' I=>?_,fun i y' p I J=>?_⟩,by lia,by lia⟩
  ·rcases aI.mp I with h|h
   ·exact E.ok y' h
   ·rw [av.mp h];exact ⟨ah,an,by lia⟩
  ·by_cases G:i<B.ys.length
   ·rw [aw G] at I;rw [aw (by rw [E.len];exact G)] at J;exact E.le i y' p I J
   ·rw [ar (by rw [E.len];lia)] at J;have:p=0:=by
     have h1:=(ad.mp J).1;rw [aE] at h1;rw [show i - B.pl.length=0 by lia] at J;cases J;rfl
    lia
 |pas n =>
  obtain ⟨i,G⟩:=QJ (e:=.pas n) rfl hc;have G:kJ B.zs n=some i:=G;have S:vR R L B.zs (.pas n)=some (.pass i):=by show (kJ B.zs n).map Deed.pass=_;rw [G];rfl
  have F:J3 R L B (.pas n)=zX B.pl i:=by
   show (match vR R L B.zs (.pas n) with|some de=>QI B.pl de|none=>B.pl)=_;rw [S];rfl
  have am:Q5 R L B.ys B.ms B.pl i="":=by
   have e1:yQ R L N B (.pas n)=match vR R L B.zs (.pas n) with|some de=>zJ R L N.length B.ys B.d B.ms B.pl de|none=>"":=rfl
   rw [e1,S] at hw;exact hw
  have O:=fH am;rw [F];refine ⟨⟨by rw [nE];exact E.len,E.n10,E.ok,fun j y p M J=>?_⟩,Y,V⟩;have M:B.ys[j]?=some y:=M;obtain ⟨q,hq,rfl⟩:=T8 J;have h1:=E.le j y q M hq
  by_cases hj:j=i
  ·subst hj;rw [if_pos rfl];rw [ac,hq,ac,M] at O;have O:¬q=y.2.length:=O
   lia
  ·rw [if_neg hj];exact h1
 |lt n =>
  obtain ⟨i,G⟩:=QJ (e:=.lt n) rfl hc;have G:kJ (L.map (·.name)) n=some i:=G;have F:J3 R L B (.lt n)=B.pl:=by
   show (match (kJ (L.map (·.name)) n).map Deed.let with|some de=>QI B.pl de|none=>B.pl)=_;rw [G];rfl
  rw [F];exact ⟨E,Y,V⟩
 |night W=>exact ⟨E,Y,V⟩
 |take n a=>exact ⟨E,Y,V⟩
 |rain n a=>exact ⟨E,Y,V⟩
theorem WW (h:0<=B.d):0<=dZ B e:=by
 cases e
 case night W=>show 0<=B.d+1;lia
 all_goals exact h
theorem wW:∀(l:List Int) (i:Nat) (z:Int),i<l.length->(l.set i z).sum=l.sum - l.getD i 0+z
 |[],i,z,h=>by simp at h
 |x::l,0,z,h=>by simp;lia
 |x::l,i+1,z,h=>by
  show x+(l.set i z).sum=(x+l.sum) - l.getD i 0+z;rw [wW l i z (by simpa using h)]
  lia
theorem VZ (ms:List Int) (q:Nat×Nat×Int) (h:q.1<ms.length) (E:q.2.1<ms.length):(pour ms q).sum=ms.sum:=by
 unfold pour;rw [wW _ _ _ (by rw [cv];exact E),wW _ _ _ h]
 lia
theorem mX:∀(qs:List (Nat×Nat×Int)) (ms:List Int),(∀q∈qs,q.1<ms.length/\q.2.1<ms.length)->(kC ms qs).sum=ms.sum
 |[],ms,_=>rfl
 |q::r,ms,h=>by
  show (kC (pour ms q) r).sum=_;have E:=h q (aT ..);rw [mX r (pour ms q) (fun G F=>by rw [mW];exact h G (aF _ F)),VZ ms q E.1 E.2]
def passes (n:Nat):List Deed:=(List.range n).map Deed.pass
def BT (kd:Kd) (room v b:Int):List (Str×Int):=match kd with
 |.plain=>[("high",room)]
 |.basin=>[("basin",b),("high",room - b)]
 |.pump=>[("low",v),("high",room - v)]
def pZ (kd:Kd) (room v b:Int):List (Str×Int):=match kd with
 |.basin=>[("basin",v - b),("low",room - v+b)]
 |_=>[("low",room)]
theorem oY (kd:Kd) (room v b:Int):QC kd room v b=(BT kd room v b).filter vV:=by cases kd<;>rfl
theorem pA (kd:Kd) (room v b:Int):zZ kd room v b=(pZ kd room v b).filter vV:=by
 cases kd
 ·rfl
 ·unfold zZ pZ;show ([("basin",v - b),("low",room - (v - b))]:List (Str×Int)).filter vV=([("basin",v - b),("low",room - v+b)]:List (Str×Int)).filter vV;rw [show room - (v - b)=room - v+b by lia]
 ·rfl
def JW (lc:LC) (b:Int):Prop:=0<=b/\(lc.kd=.basin->b<=lc.extra)/\(lc.kd≠.basin->b=0)
theorem WP {h:Int} (J:lc.good r) (M:0<=h) (I:lc.kd=.basin->h<=lc.extra):∀p∈BT lc.kd lc.room lc.extra h,0<=p.2:=fun p E=>by
 obtain ⟨_,_,_,_,O,_,S,G⟩:=J;cases F:lc.kd<;>rw [F] at E
 ·have E:p∈[(("high":Str),lc.room)]:=E;rw [av.mp E];show 0<=lc.room;lia
 ·have G:=G (by rw [F];exact fun z=>nomatch z);have I:=I F;have E:p∈[(("basin":Str),h),("high",lc.room - h)]:=E;simp only [aj,au,bb] at E
  rcases E with rfl|rfl
  ·exact M
  ·show 0<=lc.room - h;lia
 ·have G:=G (by rw [F];exact fun z=>nomatch z);have E:p∈[(("low":Str),lc.extra),("high",lc.room - lc.extra)]:=E;simp only [aj,au,bb] at E
  rcases E with rfl|rfl
  ·show 0<=lc.extra;lia
  ·show 0<=lc.room - lc.extra;lia
theorem X4 {h:Int} (J:lc.good r) (S:0<=h) (G:lc.kd=.basin->h<=lc.extra):∀p∈pZ lc.kd lc.room lc.extra h,0<=p.2:=fun p E=>by
 obtain ⟨_,_,_,_,M,_,O,I⟩:=J;cases F:lc.kd<;>rw [F] at E
 ·have E:p∈[(("low":Str),lc.room)]:=E;rw [av.mp E];show 0<=lc.room;lia
 ·have I:=I (by rw [F];exact fun z=>nomatch z);have G:=G F;have E:p∈[(("basin":Str),lc.extra - h),("low",lc.room - lc.extra+h)]:=E;simp only [aj,au,bb] at E
  rcases E with rfl|rfl
  ·show 0<=lc.extra - h;lia
  ·show 0<=lc.room - lc.extra+h;lia
 ·have E:p∈[(("low":Str),lc.room)]:=E;rw [av.mp E];show 0<=lc.room;lia
theorem GG (kd:Kd) (room v b:Int):∀p∈BT kd room v b,p.1="high"\/p.1="low"\/p.1="basin":=fun p h=>by
 cases kd
 ·have h:p∈[(("high":Str),room)]:=h;rw [av.mp h];exact .inl rfl
 ·have h:p∈[(("basin":Str),b),("high",room - b)]:=h;simp only [aj,au,bb] at h
  rcases h with rfl|rfl
  ·exact .inr (.inr rfl)
  ·exact .inl rfl
 ·have h:p∈[(("low":Str),v),("high",room - v)]:=h;simp only [aj,au,bb] at h
  rcases h with rfl|rfl
  ·exact .inr (.inl rfl)
  ·exact .inl rfl
theorem HS (kd:Kd) (room v b:Int):∀p∈pZ kd room v b,p.1="high"\/p.1="low"\/p.1="basin":=fun p h=>by
 cases kd
 ·have h:p∈[(("low":Str),room)]:=h;rw [av.mp h];exact .inr (.inl rfl)
 ·have h:p∈[(("basin":Str),v - b),("low",room - v+b)]:=h;simp only [aj,au,bb] at h
  rcases h with rfl|rfl
  ·exact .inr (.inr rfl)
  ·exact .inr (.inl rfl)
 ·have h:p∈[(("low":Str),room)]:=h;rw [av.mp h];exact .inr (.inl rfl)
structure LkOk (R:List RC) (L:List LC) (ms:List Int):Prop where
 len:ms.length=R.length+2*L.length+2
 cham:∀(k:Nat) (l:LC),L[k]?=some l->ms.getD (R.length+k) 0=0\/ms.getD (R.length+k) 0=l.room
 bas:∀(k:Nat) (l:LC),L[k]?=some l->JW l (ms.getD (R.length+L.length+k) 0)
theorem mZ (j:Nat):∀a b:List (Nat×Nat×Int),qJ (a++b) j=qJ a j+qJ b j
 |[],b=>by show qJ b j=0+qJ b j;lia
 |q::r,b=>by
  show _+qJ (r++b) j=_+qJ r j+qJ b j;rw [mZ j r b]
  lia
theorem nW {j:Nat}:∀{qs:List (Nat×Nat×Int)},(∀q∈qs,q.1≠j/\q.2.1≠j)->qJ qs j=0
 |[],_=>rfl
 |q::r,h=>by
  obtain ⟨G,F⟩:=h q aT;show (if q.2.1=j then q.2.2 else 0) - (if q.1=j then q.2.2 else 0)+qJ r j=0;rw [if_neg G,if_neg F,nW fun q E=>h q (aF _ E)];rfl
theorem nG {r:RC} (h:R[i]?=some r):qB (kR R m) i=if r.target = -1 then R.length+2*m else r.target.toNat:=by
 unfold qB kR;rw [ac,ap,h];rfl
theorem C8 {r:RC} (h:R[i]?=some r):JS (kR R m) i=r.crest:=by
 unfold JS kR;rw [ac,ap,h];rfl
theorem fD (F:bE R):∀a,a<(kR R m).length->qB (kR R m) a<R.length+2*m+2:=fun a h=>by
 rw [zG] at h;have E:=aa h;rw [nG E];have:=F a _ E
 split<;>lia
theorem GN (G:Drawn R L N) (M:ms.length=R.length+2*L.length+2):∀de,∀q∈vB R L N ys d ms pl de,q.1<ms.length/\q.2.1<ms.length:=by
 have F:∀(k:Nat) (l:LC) (ps:List (Str×Str×Int)),L[k]?=some l->(∀q∈ps,okW q.1/\okW q.2.1)->∀q∈ps.map (JO R.length L.length k l),q.1<ms.length/\q.2.1<ms.length:=fun k l ps E J q h=>by
  obtain ⟨p,I,rfl⟩:=aO.mp h;rw [M];exact ⟨o0 (J p I).1 (G.lock _ _ E) (ad.mp E).1,o0 (J p I).2 (G.lock _ _ E) (ad.mp E).1⟩
 intro de q h;cases de with
 |pass b =>
  change q∈zS R.length L ms _ at h
  unfold zS at h
  split at h
  ·rename_i l E;exact F _ l _ E (oG _ _ _ _ _ _) q h
  ·cases h
 |«let» k =>
  change q∈Q9 R.length L ms k at h
  unfold Q9 at h
  split at h
  ·rename_i l E;exact F _ l _ E (dG _ _ _ _) q h
  ·cases h
 |night=>exact UO (by lia) (by lia) q (aV.mp h).1
theorem AE {r l k j:Nat} {lc:LC} {v:Str} (E:∀s,okW s->(yD r l k lc s=j↔s=v)):∀ps:List (Str×Str×Int),(∀q∈ps,okW q.1/\okW q.2.1)->qJ (ps.map (JO r l k lc)) j=(kZ (toS v) ps).sum - (kZ (v7 v) ps).sum
 |[],_=>rfl
 |q::ps,h=>by
  have J:=AE E ps fun p M=>h p (aF _ M)
  obtain ⟨G,F⟩:=h q aT;show (if yD r l k lc q.2.1=j then q.2.2 else 0) - (if yD r l k lc q.1=j then q.2.2 else 0)+qJ (ps.map (JO r l k lc)) j=_;rw [J];have O:(kZ (toS v) (q::ps)).sum=(if yD r l k lc q.2.1=j then q.2.2 else 0)+(kZ (toS v) ps).sum:=by
   unfold kZ;rw [aR]
   by_cases e:q.2.1=v
   ·rw [if_pos (show toS v q=true from aB e),if_pos ((E _ F).mpr e)];rfl
   ·rw [if_neg (show ¬toS v q=true from fun z=>e (bc z)),if_neg (fun z=>e ((E _ F).mp z)),ck]
  have I:(kZ (v7 v) (q::ps)).sum=(if yD r l k lc q.1=j then q.2.2 else 0)+(kZ (v7 v) ps).sum:=by
   unfold kZ;rw [aR]
   by_cases e:q.1=v
   ·rw [if_pos (show v7 v q=true from aB e),if_pos ((E _ G).mpr e)];rfl
   ·rw [if_neg (show ¬v7 v q=true from fun z=>e (bc z)),if_neg (fun z=>e ((E _ G).mp z)),ck]
  rw [O,I]
  lia
theorem wU (E:lc.good r) (G:k<l):∀s,okW s->(yD r l k lc s=r+k↔s="chamber"):=fun s F=>by
 obtain ⟨O,I,J,M,_⟩:=E;cases F
 ·rw [fI];exact ⟨fun h=>by lia,fun h=>absurd h (by trivial)⟩
 ·rw [fN];exact ⟨fun h=>by lia,fun h=>absurd h (by trivial)⟩
 ·rw [dA];exact ⟨fun _=>rfl,fun _=>rfl⟩
 ·rw [fC];exact ⟨fun h=>by lia,fun h=>absurd h (by trivial)⟩
theorem SW (E:lc.good r) (G:k<l):∀s,okW s->(yD r l k lc s=r+l+k↔s="basin"):=fun s F=>by
 obtain ⟨O,I,J,M,_⟩:=E;cases F
 ·rw [fI];exact ⟨fun h=>by lia,fun h=>absurd h (by trivial)⟩
 ·rw [fN];exact ⟨fun h=>by lia,fun h=>absurd h (by trivial)⟩
 ·rw [dA];exact ⟨fun h=>by lia,fun h=>absurd h (by trivial)⟩
 ·rw [fC];exact ⟨fun _=>rfl,fun _=>rfl⟩
theorem oK (G:lc.good r) (V:r<=j) (Y:j≠r+k) (O:j≠r+l+k) (F:∀q∈ps,okW q.1/\okW q.2.1):qJ (ps.map (JO r l k lc)) j=0:=by
 obtain ⟨g1,M,S,Z,_⟩:=G;have h:∀s,okW s->yD r l k lc s≠j:=fun s I=>by
  cases I
  ·rw [fI];lia
  ·rw [fN];lia
  ·rw [dA];lia
  ·rw [fC];lia
 refine nW fun q J=>?_
 obtain ⟨p,E,rfl⟩:=aO.mp J;exact ⟨h _ (F p E).1,h _ (F p E).2⟩
theorem GQ {F:Type} (p:Str×Str×Int->Bool) (f:F->Str×Str×Int) (b:Bool) (h:∀x,p (f x)=b) (ps:List F):(kZ p (ps.map f))=if b=true then ps.map (fun x=>(f x).2.2) else []:=by
 unfold kZ
 induction ps with
 |nil=>cases b<;>rfl
 |cons x ps E =>
  rw [cf,aR,h x];cases b with
  |true=>rw [if_pos rfl,cf,E,if_pos rfl,if_pos rfl];rfl
  |false=>rw [if_neg (by decide),E];rfl
theorem wX:∀ps:List (Str×Int),((ps.filter vV).map (·.2)).sum=(ps.map (·.2)).sum
 |[]=>rfl
 | (s,n)::r=>by
  have E:=wX r
  by_cases h:n=0
  ·rw [aR,if_neg (by unfold vV;rw [aB h];decide),E];show _=n+(r.map (·.2)).sum
   lia
  ·rw [aR,if_pos (by unfold vV;rw [ax h];decide)];show n+((r.filter vV).map (·.2)).sum=n+(r.map (·.2)).sum;rw [E]
theorem U6 (kd:Kd) (room v b:Int):((QC kd room v b).map (·.2)).sum=room:=by
 rw [oY,wX];cases kd
 ·show room+0=room;lia
 ·show b+(room - b+0)=room;lia
 ·show v+(room - v+0)=room;lia
theorem WH (kd:Kd) (room v b:Int):((zZ kd room v b).map (·.2)).sum=room:=by
 rw [pA,wX];cases kd
 ·show room+0=room;lia
 ·show v - b+(room - v+b+0)=room;lia
 ·show room+0=room;lia
theorem U5 (kd:Kd) (room v b:Int):(kZ (toS "chamber") (qX kd room v b)).sum - (kZ (v7 "chamber") (qX kd room v b)).sum=room:=by
 unfold qX;rw [GQ (toS "chamber") _ true (fun _=>aB rfl)];have e:(kZ (v7 "chamber") ((QC kd room v b).map fun p=>(p.1,("chamber":Str),p.2)))=[]:=by
  unfold kZ;rw [ic.mpr fun q F=>?_]
  ·rfl
  ·obtain ⟨p,E,rfl⟩:=aO.mp F;rw [oY] at E;have:=GG _ _ _ _ p (aV.mp E).1;intro z;have z:p.1="chamber":=bc z;rw [z] at this
   rcases this with h|h|h<;>exact absurd h (by trivial)
 rw [e,if_pos rfl];show ((QC kd room v b).map (·.2)).sum - 0=room;rw [U6,Int.sub_zero]
theorem GA (kd:Kd) (room v b:Int):(kZ (toS "chamber") (qN kd room v b)).sum - (kZ (v7 "chamber") (qN kd room v b)).sum = - room:=by
 unfold qN;rw [GQ (v7 "chamber") _ true (fun _=>aB rfl)];have e:(kZ (toS "chamber") ((zZ kd room v b).map fun p=>(("chamber":Str),p.1,p.2)))=[]:=by
  unfold kZ;rw [ic.mpr fun q F=>?_]
  ·rfl
  ·obtain ⟨p,E,rfl⟩:=aO.mp F;rw [pA] at E;have:=HS _ _ _ _ p (aV.mp E).1;intro z;have z:p.1="chamber":=bc z;rw [z] at this
   rcases this with h|h|h<;>exact absurd h (by trivial)
 rw [e,if_pos rfl];show 0 - ((zZ kd room v b).map (·.2)).sum = - room;rw [WH,Int.zero_sub]
theorem fM (p:Str×Str×Int->Bool) (xs ys:List (Str×Str×Int)):(kZ p (xs++ys)).sum=(kZ p xs).sum+(kZ p ys).sum:=by
 unfold kZ;rw [fw,aJ,sum_append]
theorem E4 (b:Int) (xs ys:List (Str×Str×Int)):qT b (xs++ys)=qT (qT b xs) ys:=by
 unfold qT bX;rw [fM,fM]
 lia
theorem oO {p:Str×Str×Int->Bool} (h:∀q∈ps,p q=false):(kZ p ps).sum=0:=by
 unfold kZ;rw [ic.mpr fun q E=>by rw [h q E];decide];rfl
theorem TM {v:Int} (h:¬kd=.basin):qT c (qX kd room v b)=c:=by
 have F:∀q∈qX kd room v b,v7 "basin" q=false/\toS "basin" q=false:=fun q G=>by
  obtain ⟨p,E,rfl⟩:=aO.mp G;refine ⟨?_,ax (show ¬("chamber":Str)="basin" by trivial)⟩;rw [oY] at E;have E:=(aV.mp E).1;cases kd
  ·have E:p∈[(("high":Str),room)]:=E;rw [av.mp E];exact ax (show ¬("high":Str)="basin" by trivial)
  ·exact absurd rfl h
  ·have E:p∈[(("low":Str),v),("high",room - v)]:=E;simp only [aj,au,bb] at E
   rcases E with rfl|rfl
   ·exact ax (show ¬("low":Str)="basin" by trivial)
   ·exact ax (show ¬("high":Str)="basin" by trivial)
 unfold qT bX;rw [oO fun q G=>(F q G).2,oO fun q G=>(F q G).1]
 lia
theorem UV {v:Int} (h:¬kd=.basin):qT c (qN kd room v b)=c:=by
 have F:∀q∈qN kd room v b,v7 "basin" q=false/\toS "basin" q=false:=fun q G=>by
  obtain ⟨p,E,rfl⟩:=aO.mp G;refine ⟨ax (show ¬("chamber":Str)="basin" by trivial),?_⟩;rw [pA] at E;have E:=(aV.mp E).1;cases kd
  ·have E:p∈[(("low":Str),room)]:=E;rw [av.mp E];exact ax (show ¬("low":Str)="basin" by trivial)
  ·exact absurd rfl h
  ·have E:p∈[(("low":Str),room)]:=E;rw [av.mp E];exact ax (show ¬("low":Str)="basin" by trivial)
 unfold qT bX;rw [oO fun q G=>(F q G).2,oO fun q G=>(F q G).1]
 lia
theorem oM (F:lc.good r) (h:JW lc b):JW lc (qT b (qX lc.kd lc.room lc.extra b)):=by
 by_cases E:lc.kd=.basin
 ·rw [E,TX];obtain ⟨_,_,_,_,_,_,_,G⟩:=F;have:=G (by rw [E];exact fun z=>nomatch z);exact ⟨dq _,fun _=>by lia,fun z=>absurd E z⟩
 ·rw [TM E];exact h
theorem iK (F:lc.good r) (h:JW lc b):JW lc (qT b (qN lc.kd lc.room lc.extra b)):=by
 by_cases E:lc.kd=.basin
 ·rw [E,VL];obtain ⟨_,_,_,_,_,_,_,G⟩:=F;have:=G (by rw [E];exact fun z=>nomatch z);exact ⟨by lia,fun _=>dq _,fun z=>absurd E z⟩
 ·rw [UV E];exact h
theorem V4 (E:lc.good r) (h:JW lc b) (f w:Bool):JW lc (qT b (ZQ lc.kd lc.room lc.extra f b w)):=by
 cases w<;>cases f
 ·show JW lc (qT b (qX lc.kd lc.room lc.extra b++qN lc.kd lc.room lc.extra (qT b (qX lc.kd lc.room lc.extra b))));rw [E4];exact iK E (oM E h)
 ·exact iK E h
 ·exact oM E h
 ·show JW lc (qT b (qN lc.kd lc.room lc.extra b++qX lc.kd lc.room lc.extra (qT b (qN lc.kd lc.room lc.extra b))));rw [E4];exact oM E (iK E h)
theorem UH (G:lc.good r) (E:c=0\/c=lc.room) (w:Bool):c+((kZ (toS "chamber") (ZQ lc.kd lc.room lc.extra (decide (0<c)) b w)).sum - (kZ (v7 "chamber") (ZQ lc.kd lc.room lc.extra (decide (0<c)) b w)).sum)=if w then lc.room else 0:=by
 obtain ⟨_,_,_,_,J,_⟩:=G;have F:=fun b=>U5 lc.kd lc.room lc.extra b
 have L:=fun b=>GA lc.kd lc.room lc.extra b
 rcases E with rfl|rfl
 ·rw [ax (show ¬(0:Int)<0 by decide)];cases w
  ·show 0+((kZ (toS "chamber") (qX lc.kd lc.room lc.extra b++qN lc.kd lc.room lc.extra (qT b (qX lc.kd lc.room lc.extra b)))).sum - (kZ (v7 "chamber") (qX lc.kd lc.room lc.extra b++qN lc.kd lc.room lc.extra (qT b (qX lc.kd lc.room lc.extra b)))).sum)=0;rw [fM,fM];have h:=F b;have I:=L (qT b (qX lc.kd lc.room lc.extra b))
   lia
  ·show 0+((kZ (toS "chamber") (qX lc.kd lc.room lc.extra b)).sum - (kZ (v7 "chamber") (qX lc.kd lc.room lc.extra b)).sum)=lc.room;have h:=F b
   lia
 ·rw [aB (show 0<lc.room by lia)];cases w
  ·show lc.room+((kZ (toS "chamber") (qN lc.kd lc.room lc.extra b)).sum - (kZ (v7 "chamber") (qN lc.kd lc.room lc.extra b)).sum)=0;have h:=L b
   lia
  ·show lc.room+((kZ (toS "chamber") (qN lc.kd lc.room lc.extra b++qX lc.kd lc.room lc.extra (qT b (qN lc.kd lc.room lc.extra b)))).sum - (kZ (v7 "chamber") (qN lc.kd lc.room lc.extra b++qX lc.kd lc.room lc.extra (qT b (qN lc.kd lc.room lc.extra b)))).sum)=lc.room;rw [fM,fM];have h:=L b;have I:=F (qT b (qN lc.kd lc.room lc.extra b))
   lia
def fY (ms:List Int) (r:Nat) (L:List LC) (ys:List vE) (pl:List Nat) (de:Deed) (k:Nat):Int:=match de with
 |.pass b=>if ((ys.getD b (0,[])).2.getD (pl.getD b 0) (0,true)).1=k then (if ((ys.getD b (0,[])).2.getD (pl.getD b 0) (0,true)).2 then (L.getD k ⟨"",0,0,0,.plain,0⟩).room else 0) else ms.getD (r+k) 0
 |.let j=>if j=k then 0 else ms.getD (r+k) 0
 |.night=>ms.getD (r+k) 0
theorem nP (G:bE R) (J:R.length<=j) (M:j<R.length+2*m):qJ ((yM (qB (kR R m)) g (kR R m).length).filter qM) j=0:=by
 rw [bS];refine nW fun q F=>?_
 obtain ⟨a,h,rfl⟩:=aO.mp F;have h:=mem_downs.mp h;rw [zG] at h;obtain ⟨r,E⟩:∃r,R[a]?=some r:=⟨_,aa h⟩;have I:=G a r E;refine ⟨by show a≠j;lia,?_⟩;show qB (kR R m) a≠j;rw [nG E]
 split<;>lia
theorem EL {W:List (Int×Int)} (I:n<=j) (F:j≠k):qJ ((zH k ms W n).filter qM) j=0:=by
 rw [bS];refine nW fun q G=>?_
 rcases aI.mp G with h|h
 ·obtain ⟨i,E,rfl⟩:=aO.mp h;have:=bp.mp E;exact ⟨by show i≠j;lia,fun z=>F z.symm⟩
 ·obtain ⟨i,E,rfl⟩:=aO.mp h;have:=bp.mp E;exact ⟨fun z=>F z.symm,by show i≠j;lia⟩
theorem FU (h:lc.good r) (E:k<l) (F:∀q∈ps,okW q.1/\okW q.2.1):c+qJ (ps.map (JO r l k lc)) (r+k)=c+((kZ (toS "chamber") ps).sum - (kZ (v7 "chamber") ps).sum):=by rw [AE (wU h E) ps F]
theorem HR (h:lc.good r) (E:k<l) (F:∀q∈ps,okW q.1/\okW q.2.1):b+qJ (ps.map (JO r l k lc)) (r+l+k)=qT b ps:=by
 rw [AE (SW h E) ps F];unfold qT bX
 lia
theorem KK (F:Drawn R L N) (E:ms.length=R.length+2*L.length+2) (de:Deed):∀q∈JJ R L N ys d ms pl de gs,q.1<ms.length/\q.2.1<ms.length:=fun q G=>by
 rcases aI.mp G with h|h
 ·exact GN F E de q h
 ·refine fB (by rw [zG];lia) ?_ q (aV.mp h).1;rw [E];exact fD (JE F)
theorem AH (h:Drawn R L N) (E:ms.length=R.length+2*L.length+2) (de:Deed) (G:R.length<=j) (F:j<R.length+2*L.length):(kC ms (JJ R L N ys d ms pl de gs)).getD j 0=ms.getD j 0+qJ (vB R L N ys d ms pl de) j:=by
 rw [QV _ _ _ (KK h E de)];unfold JJ;rw [mZ,nP (JE h) G F,fb]
theorem nV (hd:Drawn R L N) (hk:LkOk R L ms) (hf:Fleet L ys pl) (S:ZP ys.length L.length de) (Z:zJ R L N.length ys d ms pl de="") {l:LC} (M:L[k]?=some l) :
  ms.getD (R.length+k) 0+qJ (vB R L N ys d ms pl de) (R.length+k)=fY ms R.length L ys pl de k/\JW l (ms.getD (R.length+L.length+k) 0+qJ (vB R L N ys d ms pl de) (R.length+L.length+k)):=by
 have I:=(ad.mp M).1;have Y:=hk.bas k l M;have eL:L.getD k ⟨"",0,0,0,.plain,0⟩=l:=by rw [ac,M];rfl
 cases de with
 |night =>
  show ms.getD (R.length+k) 0+qJ ((zH _ _ _ _).filter qM) _=ms.getD (R.length+k) 0/\JW l (_+qJ ((zH _ _ _ _).filter qM) _);rw [EL (by lia) (by lia),EL (by lia) (by lia),fb,fb];exact ⟨rfl,Y⟩
 |«let» j =>
  have hj:j<L.length:=S;obtain ⟨lc,F⟩:∃lc,L[j]?=some lc:=⟨_,aa hj⟩;have E:=hd.lock _ _ F;have e:vB R L N ys d ms pl (.let j)=(qN lc.kd lc.room lc.extra (ms.getD (R.length+L.length+j) 0)).map (JO R.length L.length j lc):=by
   show Q9 _ _ _ _=_;unfold Q9;rw [F]
  have J:=dG lc.kd lc.room lc.extra (ms.getD (R.length+L.length+j) 0);rw [e];show _=(if j=k then 0 else ms.getD (R.length+k) 0)/\_
  by_cases G:j=k
  ·subst G;rw [M] at F;cases F;rw [if_pos rfl,FU E I J,HR E I J,GA];refine ⟨?_,iK E Y⟩
   rcases hk.cham j l M with h|h
   ·change (if vX R.length ms j=true then ("":Str) else "empty")="" at Z
    rw [if_neg (by unfold vX;rw [h,eh];decide)] at Z;exact absurd Z (by trivial)
   ·rw [h];lia
  ·rw [if_neg G,oK E (by lia) (by lia) (by lia) J,oK E (by lia) (by lia) (by lia) J,fb,fb];exact ⟨rfl,Y⟩
 |pass b =>
  have V:b<ys.length:=S;obtain ⟨y,hy⟩:∃y,ys[b]?=some y:=⟨_,aa V⟩;obtain ⟨p,hp⟩:∃p,pl[b]?=some p:=⟨_,aa (by rw [hf.len];exact V)⟩;have am:=hf.le b y p hy hp;have ey:ys.getD b (0,[])=y:=by rw [ac,hy];rfl
  have ep:pl.getD b 0=p:=by rw [ac,hp];rfl
  have ah:=fH Z;rw [ey,ep] at ah;obtain ⟨s,hs⟩:∃s,y.2[p]?=some s:=⟨_,aa (by lia)⟩;have es:y.2.getD p (0,true)=s:=by rw [ac,hs];rfl
  have al:=(hf.ok y (ag hy)).lt s (ag hs);obtain ⟨lc,F⟩:∃lc,L[s.1]?=some lc:=⟨_,aa al⟩;have E:=hd.lock _ _ F;have e:vB R L N ys d ms pl (.pass b)=(ZQ lc.kd lc.room lc.extra (vX R.length ms s.1) (ms.getD (R.length+L.length+s.1) 0) s.2).map (JO R.length L.length s.1 lc):=by
   show zS _ _ _ _=_;unfold zS;rw [ey,ep,es,F]
  have J:=oG lc.kd lc.room lc.extra (vX R.length ms s.1) (ms.getD (R.length+L.length+s.1) 0) s.2;rw [e];show _=(if ((ys.getD b (0,[])).2.getD (pl.getD b 0) (0,true)).1=k then (if ((ys.getD b (0,[])).2.getD (pl.getD b 0) (0,true)).2 then (L.getD k ⟨"",0,0,0,.plain,0⟩).room else 0) else ms.getD (R.length+k) 0)/\_;rw [ey,ep,es,eL];obtain ⟨O,sb⟩:=s
  change L[O]?=some lc at F
  by_cases G:O=k
  ·subst G;rw [M] at F;cases F;rw [if_pos rfl,FU E I J,HR E I J];exact ⟨UH E (hk.cham O l M) sb,V4 E Y _ sb⟩
  ·rw [if_neg G,oK E (by lia) (by show R.length+k≠R.length+O;lia) (by show R.length+k≠R.length+L.length+O;lia) J,oK E (by lia) (by show R.length+L.length+k≠R.length+O;lia) (by show R.length+L.length+k≠R.length+L.length+O;lia) J,fb,fb];exact ⟨rfl,Y⟩
theorem oV (J:Drawn R L N) (E:LkOk R L ms) (S:Fleet L ys pl) (I:ZP ys.length L.length de) (O:zJ R L N.length ys d ms pl de="") :
  LkOk R L (kC ms (JJ R L N ys d ms pl de gs))/\∀k,k<L.length->(kC ms (JJ R L N ys d ms pl de gs)).getD (R.length+k) 0=fY ms R.length L ys pl de k:=by
 have G:∀k,k<L.length->(kC ms (JJ R L N ys d ms pl de gs)).getD (R.length+k) 0=fY ms R.length L ys pl de k:=fun k h=>by
  rw [AH J E.len de (by lia) (by lia)];exact (nV J E S I O (aa h)).1
 refine ⟨⟨by rw [yB];exact E.len,fun k l F=>?_,fun k l F=>?_⟩,G⟩
 ·have h:=(ad.mp F).1;have V:L.getD k ⟨"",0,0,0,.plain,0⟩=l:=by rw [ac,F];rfl
  rw [G k h];have M:=E.cham k l F;cases de with
  |night=>exact M
  |«let» j =>
   show (if j=k then 0 else ms.getD (R.length+k) 0)=0\/(if j=k then 0 else ms.getD (R.length+k) 0)=l.room
   split
   ·exact .inl rfl
   ·exact M
  |pass b =>
   unfold fY
   dsimp only
   rw [V]
   split
   ·split
    ·exact .inr rfl
    ·exact .inl rfl
   ·exact M
 ·have h:=(ad.mp F).1;rw [AH J E.len de (by lia) (by lia)];exact (nV J E S I O F).2
theorem GF {f g:Nat->Bool} {k:Nat} (h:∀i,i≠k->f i=g i):∀n,((List.range n).filter f).length+(if k<n/\g k=true then 1 else 0)=((List.range n).filter g).length+(if k<n/\f k=true then 1 else 0)
 |0=>by rw [if_neg (fun z=>absurd z.1 (gc _)),if_neg (fun z=>absurd z.1 (gc _))];rfl
 |n+1=>by
  have I:=GF h n;have e:∀f:Nat->Bool,((List.range (n+1)).filter f).length=((List.range n).filter f).length+(if f n=true then 1 else 0):=fun f=>by
   rw [ei,fw,af,aR];cases f n<;>rfl
  rw [e,e]
  by_cases F:n=k
  ·subst F;rw [if_neg (fun z=>absurd z.1 (bq _)),if_neg (fun z=>absurd z.1 (bq _))] at I;have E:∀b:Bool,(if n<n+1/\b=true then 1 else 0)=(if b=true then 1 else 0):=fun b=>by cases b<;>simp
   rw [E,E]
   lia
  ·rw [h n F];have E:∀b:Bool,(if k<n+1/\b=true then 1 else 0)=(if k<n/\b=true then 1 else 0):=fun b=>by
    by_cases G:k<n
    ·cases b<;>simp [G,show k<n+1 by lia]
    ·rw [if_neg (fun z=>by lia),if_neg (fun z=>G z.1)]
   rw [E,E]
   lia
theorem WG (F:Drawn R L N):LkOk R L (yK (v8 R L.length) (kR R L.length) gs):=by
 have J:=JE F;have G:∀j,R.length<=j->j<R.length+2*L.length->(yK (v8 R L.length) (kR R L.length) gs).getD j 0=0:=fun j I O=>by
  unfold yK;rw [QV _ _ _ (fB (by rw [zG,QW];lia) (by rw [QW];exact fD J)),<- bS,nP J I O,fb];unfold v8;rw [ac,ar (by rw [ae];exact I),dm]
  split<;>rfl
 refine ⟨by rw [DD,QW],fun k l E=>?_,fun k l E=>?_⟩
 ·have:=(ad.mp E).1;exact .inl (G _ (by lia) (by lia))
 ·have:=(ad.mp E).1;rw [G _ (by lia) (by lia)];obtain ⟨_,_,_,_,_,_,_,M⟩:=F.lock _ _ E;refine ⟨dq _,fun h=>?_,fun _=>rfl⟩;have:=M (by rw [h];exact fun z=>nomatch z)
  lia
def QR (ms:List Int):Prop:=∀k,k+1<ms.length->0<=ms.getD k 0
theorem V6 {m:Int} (E:0<=c) (h:0<=m):JL c m<=m:=by
 unfold JL
 split<;>lia
theorem UA (I:∀i,0<=JS ws i) (Y:ws.length<ms.length) (M:∀a,a<ws.length->qB ws a<ms.length) (F:Spl ws ms gs) (J:QR ms):QR (yK ms ws gs):=by
 intro k G;rw [DD] at G;have E:∀a,a<ws.length->0<=gs.getD a 0:=fun a O=>by
  have h:=F.2 a O;rw [show gs.getD a 0=(fun a=>gs.getD a 0) a from rfl,h];exact wT _ _
 have S:0<=yC (qB ws) (fun a=>gs.getD a 0) k ws.length:=R4 E;have V:=J k G;rw [EH (by lia) M k];unfold after
 dsimp only
 by_cases c:k<ws.length
 ·have h:gs.getD k 0=JL (JS ws k) (ms.getD k 0+yC (qB ws) (fun a=>gs.getD a 0) k ws.length):=F.2 k c;have:=V6 (I k) (show 0<=ms.getD k 0+yC (qB ws) (fun a=>gs.getD a 0) k ws.length by lia);rw [if_pos c,h]
  lia
 ·rw [if_neg c]
  lia
def eI (N:List (List (Int×Int))):Prop:=∀p∈N,∀q∈p,0<=q.1/\0<=q.2
structure WOk (R:List RC) (L:List LC) (ms:List Int):Prop where
 lk:LkOk R L ms
 lo:QR ms
 hi:∀(i:Nat) (r:RC),R[i]?=some r->ms.getD i 0<=r.crest
theorem oJ {j:Nat}:∀{qs:List (Nat×Nat×Int)},(∀q∈qs,q.1≠j/\0<=q.2.2)->0<=qJ qs j
 |[],_=>dq _
 |q::r,h=>by
  obtain ⟨E,G⟩:=h q aT;have I:=oJ fun q F=>h q (aF _ F)
  show 0<=(if q.2.1=j then q.2.2 else 0) - (if q.1=j then q.2.2 else 0)+qJ r j;rw [if_neg E]
  split<;>lia
theorem DK {R:List RC} (I:∀(i:Nat) (r:RC),R[i]?=some r->0<=r.least):∀(qs:List (Nat×Nat×Int)) (ms:List Int),(∀q∈qs,q.1<ms.length/\q.2.1<ms.length/\0<=q.2.2)->JT R ms qs=false->(∀i,i<R.length->0<=ms.getD i 0)->∀i,i<R.length->0<=(kC ms qs).getD i 0
 |[],ms,_,_,h=>h
 |q::qs,ms,J,E,h=>by
  change (Q8 R (pour ms q) q.1||JT R (pour ms q) qs)=false at E
  rw [Bool.or_eq_false_iff] at E;refine DK I qs (pour ms q) (fun p O=>by rw [mW];exact J p (aF _ O)) E.2 fun k F=>?_
  obtain ⟨M,S,Z⟩:=J q aT
  by_cases e:q.1=k
  ·have G:=E.1;unfold Q8 at G;rw [e,aa F] at G;have Y:=gl G;have V:=I k _ (aa F)
   lia
  ·rw [EI ms q k M S,if_neg e];have:=h k F
   split<;>lia
def ZD (q:Nat×Nat×Int):Prop:=0<q.2.2/\q.1≠q.2.1
def pY (q:Str×Str×Int):Prop:=0<q.2.2/\(q.1="chamber"↔¬q.2.1="chamber")
theorem FV (h:s="high"\/s="low"\/s="basin"):¬s="chamber":=by
 rcases h with rfl|rfl|rfl<;>trivial
theorem IY {p:Str×Int} (h:vV p=true) (E:0<=p.2):0<p.2:=by
 unfold vV at h;have:¬p.2=0:=fun e=>by rw [aB e] at h;cases h
 lia
theorem xR (J:lc.good r) (G:JW lc b):∀q∈qX lc.kd lc.room lc.extra b,pY q:=fun q O=>by
 obtain ⟨p,E,rfl⟩:=aO.mp O;rw [oY] at E;obtain ⟨F,M⟩:=aV.mp E;have I:=FV (GG _ _ _ _ p F);exact ⟨IY M (WP J G.1 G.2.1 p F),fun h=>absurd h I,fun h=>absurd rfl h⟩
theorem oI (I:lc.good r) (F:JW lc b):∀q∈qN lc.kd lc.room lc.extra b,pY q:=fun q M=>by
 obtain ⟨p,h,rfl⟩:=aO.mp M;rw [pA] at h;obtain ⟨E,J⟩:=aV.mp h;have G:=FV (HS _ _ _ _ p E);exact ⟨IY J (X4 I F.1 F.2.1 p E),fun _=>G,fun _=>rfl⟩
theorem UI (E:lc.good r) (F:JW lc b) (f w:Bool):∀q∈ZQ lc.kd lc.room lc.extra f b w,pY q:=fun q G=>by
 cases w<;>cases f
 ·rcases aI.mp G with h|h
  ·exact xR E F q h
  ·exact oI E (oM E F) q h
 ·exact oI E F q G
 ·exact xR E F q G
 ·rcases aI.mp G with h|h
  ·exact oI E F q h
  ·exact xR E (iK E F) q h
theorem IZ (F:lc.good r) (G:k<l) (Y:∀q∈ps,okW q.1/\okW q.2.1) (V:∀q∈ps,pY q):∀q∈ps.map (JO r l k lc),ZD q/\q.1<r+2*l:=fun q S=>by
 obtain ⟨p,J,rfl⟩:=aO.mp S;obtain ⟨E,O⟩:=Y p J;obtain ⟨Z,M⟩:=V p J;refine ⟨⟨Z,fun e=>?_⟩,?_⟩
 ·have e:yD r l k lc p.1=yD r l k lc p.2.1:=e;have I:=wU F G _ E;have i2:=wU F G _ O;rw [e] at I;have:p.1="chamber"↔p.2.1="chamber":=I.symm.trans i2
  by_cases h:p.2.1="chamber"
  ·exact (M.mp (this.mpr h)) h
  ·exact h (this.mp (M.mpr h))
 ·show yD r l k lc p.1<r+2*l;obtain ⟨g1,g2,g3,g4,_⟩:=F;generalize p.1=s at E;cases E
  ·rw [fI];lia
  ·rw [fN];lia
  ·rw [dA];lia
  ·rw [fC];lia
theorem o5 {W:List (Int×Int)} (F:QR ms) (I:W.length=R.length) (G:∀q∈W,0<=q.1/\0<=q.2) (hi:i<R.length) (J:R.length+1<ms.length):0<=Q6 ms W i/\Q6 ms W i<=ms.getD i 0/\0<=(W.getD i (0,0)).1:=by
 obtain ⟨y,E⟩:∃y,W[i]?=some y:=⟨_,aa (by lia)⟩;have h:=G y (ag E);have M:=F i (by lia);rw [AJ E,CB E];refine ⟨?_,?_,h.1⟩<;>split<;>lia
theorem FA {k j:Nat} {f:Nat->Int} (E:k≠j):∀n,qJ ((List.range n).map fun r=>(r,k,f r)) j=if j<n then - f j else 0
 |0=>by rw [if_neg (gc _)];rfl
 |n+1=>by
  rw [ei,aJ,mZ,FA E n];show _+((if k=j then f n else 0) - (if n=j then f n else 0)+0)=_;rw [if_neg E]
  by_cases h:n=j
  ·subst h;rw [if_neg (bq _),if_pos rfl,if_pos (fj _)]
   lia
  ·rw [if_neg h]
   by_cases F:j<n
   ·rw [if_pos F,if_pos (by lia)];lia
   ·rw [if_neg F,if_neg (by lia)];rfl
theorem UN {W:List (Int×Int)} (I:QR ms) (G:W.length=R.length) (M:∀q∈W,0<=q.1/\0<=q.2) (V:R.length<k) (J:R.length+1<ms.length):∀q∈(zH k ms W R.length).filter qM,ZD q:=fun q S=>by
 obtain ⟨O,F⟩:=aV.mp S;have E:¬q.2.2=0:=fun e=>by unfold qM at F;rw [aB e] at F;cases F
 rcases aI.mp O with h|h
 ·obtain ⟨i,hi,rfl⟩:=aO.mp h;have hi:=bp.mp hi;have:=o5 I G M hi J;exact ⟨by show 0<Q6 ms W i;have E:¬Q6 ms W i=0:=E;lia,by show i≠k;lia⟩
 ·obtain ⟨i,hi,rfl⟩:=aO.mp h;have hi:=bp.mp hi;have:=o5 I G M hi J;exact ⟨by show 0<(W.getD i (0,0)).1;have E:¬(W.getD i (0,0)).1=0:=E;lia,by show k≠i;lia⟩
theorem XR {b:Nat} (S:Fleet L ys pl) (Z:b<ys.length) (E:Q5 R L ys ms pl b=""):∃(s:Nat×Bool) (lc:LC),(ys.getD b (0,[])).2.getD (pl.getD b 0) (0,true)=s/\L[s.1]?=some lc/\vB R L N ys d ms pl (.pass b)=(ZQ lc.kd lc.room lc.extra (vX R.length ms s.1) (ms.getD (R.length+L.length+s.1) 0) s.2).map (JO R.length L.length s.1 lc)/\JT R ms (vB R L N ys d ms pl (.pass b))=false:=by
 obtain ⟨y,O⟩:∃y,ys[b]?=some y:=⟨_,aa Z⟩;obtain ⟨p,V⟩:∃p,pl[b]?=some p:=⟨_,aa (by rw [S.len];exact Z)⟩;have ah:=S.le b y p O V;have I:ys.getD b (0,[])=y:=by rw [ac,O];rfl
 have J:pl.getD b 0=p:=by rw [ac,V];rfl
 have F:=fH E;rw [I,J] at F;obtain ⟨s,hs⟩:∃s,y.2[p]?=some s:=⟨_,aa (by lia)⟩;have Y:y.2.getD p (0,true)=s:=by rw [ac,hs];rfl
 have M:=(S.ok y (ag O)).lt s (ag hs);obtain ⟨lc,G⟩:∃lc,L[s.1]?=some lc:=⟨_,aa M⟩;refine ⟨s,lc,by rw [I,J,Y],G,?_,?_⟩
 ·show zS _ _ _ _=_;unfold zS;rw [I,J,Y,G]
 ·unfold Q5 at E;rw [I,J,if_neg F] at E
  split at E
  ·exact absurd E (by trivial)
  ·split at E
   ·exact absurd E (by trivial)
   ·rename_i h;show JT R ms (zS R.length L ms ((ys.getD b (0,[])).2.getD (pl.getD b 0) (0,true)))=false;rw [I,J];exact fg.mpr h
theorem WV (O:Drawn R L N) (hn:eI N) (I:WOk R L ms) (hf:Fleet L ys pl) (h0:0<=d) (M:ZP ys.length L.length de) (Z:zJ R L N.length ys d ms pl de=""):(∀q∈vB R L N ys d ms pl de,ZD q)/\(∀q∈vB R L N ys d ms pl de,q.1≠R.length+2*L.length)/\QR (kC ms (vB R L N ys d ms pl de)):=by
 have G:=GN (ys:=ys) (d:=d) (pl:=pl) O I.lk.len de;have S:=I.lk.len;have a5:=O.r1;have an:∀j,R.length<=j->j<R.length+2*L.length->0<=ms.getD j 0+qJ (vB R L N ys d ms pl de) j:=fun j h1 h2=>by
  by_cases Y:j<R.length+L.length
  ·obtain ⟨k,rfl⟩:∃k,j=R.length+k:=⟨j - R.length,by lia⟩;obtain ⟨l,hl⟩:∃l,L[k]?=some l:=⟨_,aa (by lia)⟩;have e:=(nV O I.lk hf M Z hl).1;have hc:=(oV (gs:=[]) O I.lk hf M Z).1.cham k l hl;rw [AH O S de (by lia) (by lia)] at hc;obtain ⟨_,_,_,_,g5,_⟩:=O.lock _ _ hl
   lia
  ·obtain ⟨k,rfl⟩:∃k,j=R.length+L.length+k:=⟨j - R.length - L.length,by lia⟩;obtain ⟨l,hl⟩:∃l,L[k]?=some l:=⟨_,aa (by lia)⟩;exact (nV O I.lk hf M Z hl).2.1
 have am:(∀q∈vB R L N ys d ms pl de,ZD q)->(∀q∈vB R L N ys d ms pl de,q.1≠R.length+2*L.length)->(∀j,j<R.length->0<=ms.getD j 0+qJ (vB R L N ys d ms pl de) j)->(∀q∈vB R L N ys d ms pl de,ZD q)/\(∀q∈vB R L N ys d ms pl de,q.1≠R.length+2*L.length)/\QR (kC ms (vB R L N ys d ms pl de)):=fun a b c=>by
  refine ⟨a,b,fun j Y=>?_⟩;rw [yB,S] at Y;rw [QV _ _ _ G]
  by_cases j1:j<R.length
  ·exact c j j1
  by_cases j2:j<R.length+2*L.length
  ·exact an j (by lia) j2
  have hs:=oJ (j:=R.length+2*L.length) (qs:=vB R L N ys d ms pl de) fun q E=>⟨b q E,by have:=(a q E).1;lia⟩
  have h1:=I.lo (R.length+2*L.length) (by lia);rw [show j=R.length+2*L.length by lia]
  lia
 cases de with
 |night =>
  have a6:d<(N.length:Int):=by
   change (if d<(N.length:Int) then ("":Str) else "over")="" at Z
   by_cases h:d<(N.length:Int)
   ·exact h
   ·rw [if_neg h] at Z;exact absurd Z (by trivial)
  have aD:N.getD d.toNat []∈N:=by rw [ac,aa (show d.toNat<N.length by lia)];exact cw _
  have al:=O.night _ aD;have ah:=hn _ aD;have a3:=UN (k:=R.length+2*L.length+1) I.lo al ah (by lia) (by lia);refine am a3 (fun q E=>?_) fun j Y=>?_
  ·rcases aI.mp (aV.mp E).1 with h|h
   ·obtain ⟨i,V,rfl⟩:=aO.mp h;have:=bp.mp V;show i≠_
    lia
   ·obtain ⟨i,V,rfl⟩:=aO.mp h;show R.length+2*L.length+1≠_
    lia
  ·show 0<=ms.getD j 0+qJ ((zH (R.length+2*L.length+1) ms (N.getD d.toNat []) R.length).filter qM) j;rw [bS];unfold zH;rw [mZ];have e:qJ (cD (R.length+2*L.length+1) ms (N.getD d.toNat []) R.length) j=if j<R.length then - Q6 ms (N.getD d.toNat []) j else 0:=FA (by lia) _
   rw [e,if_pos Y];have h1:=o5 I.lo al ah Y (by lia);have h2:0<=qJ (b6 (R.length+2*L.length+1) (N.getD d.toNat []) R.length) j:=oJ fun q E=>by
    obtain ⟨i,V,rfl⟩:=aO.mp E;exact ⟨by show R.length+2*L.length+1≠j;lia,(o5 I.lo al ah (bp.mp V) (by lia)).2.2⟩
   lia
 |«let» j =>
  have Y:j<L.length:=M;obtain ⟨lc,F⟩:∃lc,L[j]?=some lc:=⟨_,aa Y⟩;have J:=O.lock _ _ F;have e:vB R L N ys d ms pl (.let j)=(qN lc.kd lc.room lc.extra (ms.getD (R.length+L.length+j) 0)).map (JO R.length L.length j lc):=by
   show Q9 _ _ _ _=_;unfold Q9;rw [F]
  have E:=IZ J Y (dG lc.kd lc.room lc.extra _) (oI J (I.lk.bas j lc F));rw [<- e] at E;refine am (fun q h=>(E q h).1) (fun q h=>by have:=(E q h).2;lia) fun i V=>?_
  have h1:=I.lo i (by lia);have h2:0<=qJ (vB R L N ys d ms pl (.let j)) i:=oJ fun q h=>by
   refine ⟨?_,by have:=(E q h).1.1;lia⟩;rw [e] at h;obtain ⟨p,hp,rfl⟩:=aO.mp h;obtain ⟨p',a4,rfl⟩:=aO.mp hp;show yD R.length L.length j lc "chamber"≠i;rw [dA]
   lia
  lia
 |pass b =>
  obtain ⟨s,lc,es,F,e,aU⟩:=XR (N:=N) (d:=d) hf M Z;have a0:=(ad.mp F).1;have J:=O.lock _ _ F;have E:=IZ J a0 (oG lc.kd lc.room lc.extra _ _ _) (UI J (I.lk.bas s.1 lc F) (vX R.length ms s.1) s.2);rw [<- e] at E;refine am (fun q h=>(E q h).1) (fun q h=>by have:=(E q h).2;lia) fun i V=>?_
  rw [<- QV _ _ _ G];exact DK (fun i r hr=>(O.good i r hr).1) _ _ (fun q h=>⟨(G q h).1,(G q h).2,by have:=(E q h).1.1;lia⟩) aU (fun i V=>I.lo i (by lia)) i V
theorem GR (E:Drawn R L N) (h:ms.length=R.length+2*L.length+2):kC ms (JJ R L N ys d ms pl de gs)=yK (kC ms (vB R L N ys d ms pl de)) (kR R L.length) gs:=by
 unfold JJ;show List.foldl pour ms _=_;rw [il];show kC (kC ms _) _=_;exact xD (fB (by rw [zG,yB];lia) (by rw [yB,h];exact fD (JE E)))
theorem WY (F:Drawn R L N) (i:Nat):0<=JS (kR R L.length) i:=by
 by_cases h:i<R.length
 ·obtain ⟨r,E⟩:∃r,R[i]?=some r:=⟨_,aa h⟩;rw [C8 E];have:=F.good i r E;unfold RC.good at this
  lia
 ·unfold JS;rw [ac,dg (by rw [zG];lia)];exact dq _
theorem oB (E:Drawn R L N) (J:ms.length=R.length+2*L.length+2) (I:QR ms) (h:Spl (kR R L.length) ms gs):QR (yK ms (kR R L.length) gs)/\∀(i:Nat) (r:RC),R[i]?=some r->(yK ms (kR R L.length) gs).getD i 0<=r.crest:=by
 have F:∀a,a<(kR R L.length).length->qB (kR R L.length) a<ms.length:=by rw [J];exact fD (JE E)
 refine ⟨UA (WY E) (by rw [zG];lia) F h I,fun i r G=>?_⟩;rw [EH (by rw [zG];lia) F];have:=SU h.2 (i:=i) (by rw [zG];exact (ad.mp G).1);rw [C8 G] at this;exact this
theorem E6 (E:Drawn R L N) (Z:eI N) (F:WOk R L ms) (S:Fleet L ys pl) (h0:0<=d) (G:ZP ys.length L.length de) (M:zJ R L N.length ys d ms pl de="") (I:Spl (kR R L.length) (kC ms (vB R L N ys d ms pl de)) gs) :
  WOk R L (kC ms (JJ R L N ys d ms pl de gs))/\(∀q∈JJ R L N ys d ms pl de gs,ZD q)/\(kC ms (JJ R L N ys d ms pl de gs)).sum=ms.sum:=by
 obtain ⟨a,b,c⟩:=WV E Z F S h0 G M;have hl:=oV (gs:=gs) E F.lk S G M;refine ⟨⟨hl.1,?_,?_⟩,fun q V=>?_,mX _ _ (KK E F.lk.len de)⟩
 ·rw [GR E F.lk.len];exact (oB E (by rw [yB];exact F.lk.len) c I).1
 ·rw [GR E F.lk.len];exact (oB E (by rw [yB];exact F.lk.len) c I).2
 ·rcases aI.mp V with h|h
  ·exact a q h
  ·obtain ⟨Y,J⟩:=aV.mp h;obtain ⟨i,hi,rfl⟩:=aO.mp Y;have hi:=mem_downs.mp hi;have hz:¬gs.getD i 0=0:=fun e=>by unfold qM at J;rw [aB (show gs.getD i 0=0 from e)] at J;cases J
   have hg:0<=gs.getD i 0:=by
    have:=I.2 i hi;rw [show gs.getD i 0=(fun a=>gs.getD a 0) i from rfl,this];exact wT _ _
   refine ⟨by show 0<gs.getD i 0;lia,?_⟩;show i≠qB (kR R L.length) i;rw [zG] at hi;obtain ⟨r,O⟩:∃r,R[i]?=some r:=⟨_,aa hi⟩;have:=JE E i r O;rw [nG O]
   split<;>lia
theorem T1 (E:Drawn R L N) (F:Spl (kR R L.length) (v8 R L.length) gs):WOk R L (yK (v8 R L.length) (kR R L.length) gs):=by
 have I:QR (v8 R L.length):=fun k M=>by
  unfold v8
  by_cases h:k<R.length
  ·rw [ac,aw (by rw [ae];exact h),ap,aa h];have:=E.good k _ (aa h);unfold RC.good at this;show 0<=(R[k]).water
   lia
  ·rw [ac,ar (by rw [ae];lia),dm]
   split<;>exact dq _
 obtain ⟨J,G⟩:=oB E (QW _ _) I F;exact ⟨WG E,J,G⟩
def JB (L:List LC) (ys:List vE) (pl:List Nat) (r:Int):Nat:=(vT L ys pl).countP fun z=>decide (z=r)
theorem EN (L:List LC) (ys:List vE) (pl:List Nat) (r:Int):JB L ys pl r=((List.range ys.length).filter fun i=>decide (qP L (ys.getD i (0,[])) (pl.getD i 0)=r)).length:=by
 unfold JB vT;rw [countP_map,countP_eq_length_filter];rfl
theorem ST {r:RC} (Z:Fleet L ys pl) (I:ZP ys.length L.length de) (E:zJ R L n ys d ms pl de="") (Y:R[i]?=some r):(JB L ys (QI pl de) (i:Int):Int)<=JB L ys pl (i:Int)\/(JB L ys (QI pl de) (i:Int):Int)<=r.berths:=by
 cases de with
 |night=>exact .inl (dq _)
 |«let» j=>exact .inl (dq _)
 |pass b =>
  have hb:b<ys.length:=I;have J:=Z.len;have S:∀i,i<ys.length->(zX pl b).getD i 0=if i=b then pl.getD i 0+1 else pl.getD i 0:=fun i hi=>by
   rw [ac];unfold zX;rw [ap,cg (by lia)];rfl
  have h:=GF (f:=fun j=>decide (qP L (ys.getD j (0,[])) (if j=b then pl.getD j 0+1 else pl.getD j 0)=(i:Int))) (g:=fun j=>decide (qP L (ys.getD j (0,[])) (pl.getD j 0)=(i:Int))) (k:=b) (fun j G=>by
   try dsimp only
   rw [if_neg G]) ys.length
  have e:JB L ys (zX pl b) (i:Int)=((List.range ys.length).filter fun j=>decide (qP L (ys.getD j (0,[])) (if j=b then pl.getD j 0+1 else pl.getD j 0)=(i:Int))).length:=by
   rw [EN]
   congr 1
   exact filter_congr fun j G=>by rw [S j (bp.mp G)]
  rw [<- e,<- EN,if_pos (rfl:b=b)] at h;show (JB L ys (zX pl b) (i:Int):Int)<=_\/(JB L ys (zX pl b) (i:Int):Int)<=_
  by_cases M:qP L (ys.getD b (0,[])) (pl.getD b 0+1)=(i:Int)
  ·refine .inr ?_;have O:¬r.berths<=(JB L ys pl (i:Int):Int):=fun F=>by
    change Q5 R L ys ms pl b="" at E
    unfold Q5 at E;rw [M] at E
    split at E
    ·exact absurd E (by trivial)
    ·rw [if_pos ⟨by lia,by unfold fL;rw [show ((i:Nat):Int).toNat=i from rfl,Y];exact F⟩] at E;exact absurd E (by trivial)
   split at h<;>split at h<;>lia
  ·refine .inl ?_;have V:(if b<ys.length/\decide (qP L (ys.getD b (0,[])) (pl.getD b 0+1)=(i:Int))=true then 1 else 0)=0:=if_neg (fun z=>M (bc z.2));rw [V] at h
   split at h<;>lia
structure Txt (P:Program) (w:World) (base:Heap) (K:W.Frag) (mg:Str->Option Value) (cP cB cU:Addr) (cR:Addr) (cN:Addr) (tkS:Tok) (eC eB eT eM eU eL eW eN eD:Addr) (tkH:Tok) (cO:Addr) (eV:Tok) (eY:Tok) (eX:Tok) (aU aD:Addr):Prop where
 xm:mg "list"=none
 xy:mg "tuple"=none
 jm:mg "max"=none
 xn:mg "range"=none
 xk:mg "len"=none
 wp:mg "sum"=none
 jo:mg "zip"=none
 xt:mg "enumerate"=none
 wr:mg "min"=none
 jp:mg "all"=none
 wu:mg "int"=none
 xl:mg "isinstance"=none
 uh:mg "bool"=none
 xaC:mg "str"=none
 cl:∀kd,Cls K ((jG cP cB cU) kd)
 vp:∀kd,NoAttr K ((jG cP cB cU) kd) "name"
 vc:∀kd,NoAttr K ((jG cP cB cU) kd) "high"
 wx:∀kd,NoAttr K ((jG cP cB cU) kd) "low"
 vq:∀kd,NoAttr K ((jG cP cB cU) kd) "room"
 xbb:NoAttr K cB "side"
 xaH:NoAttr K cU "lift"
 vt:mg "PlainLock"=some (.ref cP)
 uw:mg "BasinLock"=some (.ref cB)
 jq:mg "PumpLock"=some (.ref cU)
 clR:Cls K cR
 zr:NoAttr K cR "name"
 zm:NoAttr K cR "least"
 zn:NoAttr K cR "crest"
 zf:NoAttr K cR "berths"
 zu:NoAttr K cR "water"
 zg:NoAttr K cR "target"
 xbg:mg "Reach"=some (.ref cR)
 clN:Cls K cN
 xf:NoAttr K cN "reaches"
 xg:NoAttr K cN "locks"
 xq:NoAttr K cN "nights"
 xbh:mg "Canal"=some (.ref cN)
 xbJ:mg "SEA"=some (.int (-1) tkS)
 xaI:mg "CanalError"=some (.ref eC)
 xaY:mg "BadRow"=some (.ref eB)
 xbi:mg "Twice"=some (.ref eT)
 xaD:mg "TooMany"=some (.ref eM)
 ui:mg "Unknown"=some (.ref eU)
 ux:mg "NotLinked"=some (.ref eL)
 jr:mg "NotNow"=some (.ref eW)
 uy:mg "BadNumber"=some (.ref eN)
 xaZ:mg "TooDry"=some (.ref eD)
 xa0:bI K eB
 xbj:bI K eT
 xaE:bI K eM
 uj:bI K eU
 uz:bI K eL
 jt:bI K eW
 ja:bI K eN
 xa1:bI K eD
 xaJ:mg "HOME"=some (.int (-1) tkH)
 clO:Cls K cO
 nO_kept_canal:NoAttr K cO "kept_canal"
 nO_kept_names:NoAttr K cO "kept_names"
 nO_kept_ways:NoAttr K cO "kept_ways"
 nO_kept_state:NoAttr K cO "kept_state"
 nO_kept_pours:NoAttr K cO "kept_pours"
 nO_kept_words:NoAttr K cO "kept_words"
 nO_kept_entries:NoAttr K cO "kept_entries"
 xbp:mg "Book"=some (.ref cO)
 xaF:mg "LETTERS"=some (.str lettersS eV)
 wz:mg "MOST_SIGNS"=some (.int 12 eY)
 ua:mg "MOST_BOATS"=some (.int 9 eX)
 xcm:mg "UP"=some (.ref aU)
 xbq:mg "DOWN"=some (.ref aD)
 up:∀H:Hp,SqT K H aU (upT.map V.str)
 down:∀H:Hp,SqT K H aD (downT.map V.str)
set_option maxHeartbeats 4000000
seal PE PS PSs PT PA PG PI
section
variable {P:Program} {w:World} {K:W.Frag} {mg:Str->Option Value} {base:Heap} {cP cB cU:Addr} {cR:Addr} {cN:Addr} {tkS:Tok} {eC eB eT eM eU eL eW eN eD:Addr} {tkH:Tok} {cO:Addr} {eV:Tok} {eY:Tok} {eX:Tok} {aU aD:Addr} {f:Addr} {fd:FuncData}
variable (T:Txt P w base K mg cP cB cU cR cN tkS eC eB eT eM eU eL eW eN eD tkH cO eV eY eX aU aD)
theorem gU:jV 2 ["waters","pours","held","source","target","amount"] uM:=jU
include T in
theorem N8 (F:kG K "poured_all" uM f fd) : FnOk P w K mg base jT 1 f fd ["waters","pours"] (iV K):=by
 refine F.ok2 gU fun vs H Q E h=>?_
 refine ZB h fun w p ws rs qs h=>?_
 refine JZ h fun e_ hW hP hA hn q=>?_
 subst e_;refine ⟨rfl,fun _ _ _ _ Y=>?_⟩;refine tk fun x0=>?_
 let u0:=ru x0 [1] (jI (yU bj rfl (yE (jA 1)) (o6 rfl (qZ (kT (i:=3) gU.nd rfl (.inl rfl)) (qZ (kT (i:=4) gU.nd rfl (.inl rfl)) (qZ (kT (i:=5) gU.nd rfl (.inl rfl)) JH))))
    (jI (AQ (jA 2) (jA 3) AD (jA 5) jAi fJ)
   (kU (AQ (jA 2) (jA 4) AD (jA 5) KA fJ))))
   (jN (vJ (cX K) (by rfl) T.xy bx (jC (jA 2) jE))))
 refine ⟨_,(jI (jW 2 gU.nd (vJ (y8 K) (by rfl) T.xm aG (jC (jA 0) jE)))
   u0.h),?_⟩
 try dsimp only [jY,jX]
 refine (⟨w,jB rfl (⟨hW,fun l S=>?_⟩)⟩);have s0:Same H (upd H l (.lst (ws.map V.int))):=jK S _;refine ⟨p,rfl,⟨rs,s0.seq hP⟩,ZJ (K:=K) (a:=p) (xs:=rs) (fun i M I=>∃c3 Z c5,M=[some (.ref w),some (.ref p),some (.ref l),c3,Z,c5]/\I l=some (.lst ((kC ws (qs.take i)).map V.int))/\Same H I)
  (jQ none none none (kN rfl jF s0)) (fun i M I _ ⟨_,_,_,_,_,s⟩=>s.seq hP) ?_ ?_⟩
 ·rintro i x M I hx ⟨c3,Z,c5,rfl,J,G⟩;obtain ⟨a,s,t,m,rfl,hq,hT,hs,ht⟩:=hA.2 i x hx;have O:(kC ws (qs.take i)).length=ws.length:=yB _ _;refine ⟨a,jB rfl (⟨BN G hT,rfl,_,jB rfl (⟨_,jB rfl (⟨_,_,rfl,rfl,?_⟩)⟩)⟩)⟩;refine (j0 _ _ _ _ (jO rfl rfl (so J) (yT (by rw [O];exact hs)) (kD (j0 _ _ _ _ (jO rfl rfl J (fU (by rw [ae,O];exact hs)) ?_)))))
  try dsimp only
  rw [fA];refine (j0 _ _ _ _ (jO rfl rfl (so jF) (yT (by rw [cv,O];exact ht)) (kD (j0 _ _ _ _ (jO rfl rfl jF (fU (by rw [ae,cv,O];exact ht)) ?_)))))
  try dsimp only
  rw [fA];refine ⟨_,_,jB rfl (⟨?_,qY S (qY S G)⟩)⟩;rw [jF,mT ws qs i _ hq];rfl
 ·rintro M I ⟨c3,Z,c5,rfl,J,G⟩;refine (⟨_,jB rfl (.inl ⟨so J,fun r Y=>?_⟩)⟩);refine q r _ (qY (G.free Y) G) (G.free Y) ?_;rw [jF,hA.1,aW]
theorem CY:jV 3 ["weirs","waters","at","crest"] uG:=jU
include T in
theorem N1 (F:kG K "over" uG f fd) : FnOk P w K mg base jT 1 f fd ["weirs","waters","at"] (IO K):=by
 refine F.ok2 CY fun vs H Q E h=>?_
 refine zB h fun wq wa rs ws n ms I h=>?_
 refine QQ h fun V J hA S Y M q=>?_
 subst V;refine ⟨rfl,fun _ _ _ _ hr=>?_⟩;refine ⟨_,(jI (jW 3 CY.nd (jH (jM K) (jH (kQ K) (jA 0) (jA 2)) jD))
   (jN (yX (EW rfl) (by rfl) T.jm PyProof.Rows.boot_max (jC jD (jC (jL zA (jH (HW K) (jA 1) (jA 2)) (jA 3)) jE))))),?_⟩
 try dsimp only [jY,jX]
 obtain ⟨O,G,Z,_⟩:=nK hA Y;refine (j0 wq _ _ _ (jO rfl rfl J G (j0 O _ _ _ (jO rfl rfl Z rfl ?_))));refine (VY S M ?_);exact (kD (⟨_,jB rfl (q)⟩))
theorem RD:jV 1 ["weirs"] uB:=jU
include T in
theorem NR (F:kG K "last_first" uB f fd) : FnOk P w K mg base jT 1 f fd ["weirs"] (AZ K):=by
 refine F.ok2 RD fun vs H Q E h=>?_
 obtain ⟨O,rs,rfl,M,J,q⟩:=h;refine ⟨rfl,fun _ _ _ _ S=>?_⟩;refine ⟨_,(jN (vJ (R6 rfl) (by rfl) T.xm aG (jC (vJ SS (by rfl) T.xn PyProof.Rows.boot_range (kH (jL zA (qR K T.xk (jA 0)) jD) (iW iO jD) (iW iO jD))) jE))),?_⟩
 try dsimp only [jY,jX]
 refine (⟨O,jB rfl (⟨.inl M,_,_,rfl,rfl,jB rfl (jB rfl (⟨_,_,jB rfl (⟨(by decide),(by decide),fun p G=>?_⟩)⟩))⟩)⟩);refine qO p _ _ _ rs.length (j5 rfl jF (TR J) (EV _) J (fun l I=>?_));refine q l _ ((jK G _).trans (jK I _)) ((jK G _).free I) ?_;rw [jF];exact bf (fun x=>some (HO.lst x)) (TQ rs.length)
theorem mR:jV 2 ["weirs","waters","held","given","at"] uU:=jU
include T in
theorem OH (F:kG K "spills" uU f fd) (vd:Def P w K mg base 1 "last_first" ["weirs"] [] (AZ K)) (a6:Def P w K mg base 1 "over" ["weirs","waters","at"] [] (IO K)):FnOk P w K mg base jT 2 f fd ["weirs","waters"] (FE K):=by
 refine F.ok2 mR fun vs H Q E h=>?_
 refine ZB h fun wq wa rs ws ms h=>?_
 refine vU h fun e_ b0 q=>?_
 subst e_;refine ⟨rfl,fun _ _ _ _ hr=>?_⟩;refine tk fun x0=>?_
 let u0:=ru x0 [2,0,0] (jI (BB (jR a6 hr rfl (kH (jA 0) (jA 2) (jA 4))) (BD (jA 3) (jA 4) fJ))
   (kU (AQ (jA 2) (jH (jM K) (jH (kQ K) (jA 0) (jA 4)) jD) AD (jH (kQ K) (jA 3) (jA 4)) KA fJ)))
 let u1:=ru x0 [2] (jI (yU bj rfl (yE (jR vd hr rfl (jC (jA 0) jE))) (kT (i:=4) mR.nd rfl (.inl rfl))
    u0.h)
   (jN (jA 3)))
 let u2:=ru x0 [1] (jI (jW 3 mR.nd (jL IW (qA (jC jD jE)) (qR K T.xk (jA 0))))
   u1.h)
 refine ⟨_,(jI (jW 2 mR.nd (vJ (y8 K) (by rfl) T.xm aG (jC (jA 1) jE)))
   u2.h),?_⟩
 try dsimp only [jY,jX]
 obtain ⟨hW,Y,hM,br,a7,hn⟩:=id b0;have a9:=xY br;refine (⟨wa,jB rfl (⟨hM,fun O am=>?_⟩)⟩);have t1:=jK am (.lst (ms.map V.int));refine ⟨zz1,fun lp bt=>?_⟩;have t2:=jK bt (.lst [V.int 0]);refine (⟨wq,jB rfl (⟨.inl ((t1.trans t2).seq hW),(jQ lp _ _ (vD rfl rfl jF (by lia) (by rw [Y.1];lia) ?_ (fun G al=>?_)))⟩)⟩)
 ·rw [ay,aE,Nat.one_mul,Y.1];exact small (by lia)
 rw [ay,FQ,Y.1];have t3:=jK al (.lst ((List.replicate ws.length (0:Int)).map V.int));have u3:=(t1.trans t2).trans t3;have ah:O≠G:=q9 (t2 _ _ jF) al;refine (⟨wq,rs,(kB rfl (u3.seq hW) (by rw [Y.1];lia) (fun df H1 s1 Z a3=>?_))⟩);have bl:=s1 _ _ (t3 _ _ (t2 _ _ (jF:upd H O (.lst (ms.map V.int)) O=_)));have be:=s1 _ _ (jF:upd _ G (.lst ((List.replicate ws.length (0:Int)).map V.int)) G=_);have a4:O≠df:=q9 (t3 _ _ (t2 _ _ jF)) Z;have a5:G≠df:=q9 jF Z;have gf:H G=none:=(t1.trans t2).free al;refine ⟨df,rfl,⟨_,so a3⟩,ZJ (K:=K) (a:=df) (xs:=(zU rs.length).map fun (i:Nat)=>V.int (i:Int)) (fun k σ I=>∃(hs gs:List Int) (c:Option V),σ=[some (.ref wq),some (.ref wa),some (.ref O),some (.ref G),c]/\I O=some (.lst (hs.map V.int))/\I G=some (.lst (gs.map V.int))/\
   I df=some (.lst ((zU rs.length).map fun (i:Nat)=>V.int (i:Int)))/\SplInv ws ms hs gs k/\Same H I)
  (jQ ms (List.replicate ws.length 0) none (j5 rfl bl be a3 (SplInv.start ws ms) (u3.trans s1))) (fun i σ I _ ⟨_,_,_,_,_,_,hd,_⟩=>so hd) ?_ ?_⟩
 ·rintro k x σ I hx ⟨hs,gs,c,rfl,hH,hG,hD,S,sm⟩;obtain ⟨hk,rfl⟩:=GL hx;rw [Y.1] at hk ⊢;obtain ⟨J,M⟩:∃i,i=ws.length - 1 - k:=⟨_,rfl⟩;have hi:J<ws.length:=by lia
  have a0:=S.step a9 a7 hk (by rw [<- M];exact DW Y J hi);rw [<- M] at a0 ⊢;obtain ⟨ta,bv,hT,ht⟩:=nK (Y.same sm) hi;have a8:WeirsAt K I rs ws hs.length:=by rw [S.lh];exact Y.same sm
  refine (kL wq O rs ws _ hs J (vD rfl (sm.seq hW) a8 (.inl (so hH)) hi (by rw [S.lh];lia) ?_));refine (j0 G _ _ _ (jO rfl rfl hG (fU (by rw [ae,S.lg];exact hi)) ?_));rw [fA];have k1:∀o,Keep G I (upd I G o):=fun o=>(Keep.refl G I).upd o
  have sG:∀o,Same H (upd I G o):=fun o=>qY gf sm
  have an:∀o,upd I G o O=some (.lst (hs.map V.int)):=fun o=>(k1 o) O _ ah hH
  refine (j0 wq _ _ _ (jO rfl rfl ((sG _).seq hW) bv (j0 ta _ _ _ (jO rfl rfl ((k1 _).sqt hG hT) rfl (k7 (so (an _)) (yT (by rw [S.lh];exact ht)) (k7 (so jF) (yT (by rw [cv,S.lg];exact hi)) (kD (j0 O _ _ _ (jO rfl rfl (an _) (fU (by rw [ae,S.lh];exact ht)) ?_)))))))));rw [fA];refine ⟨_,_,jB rfl (jO jF ?_ ?_ a0 (qY am (sG _)))⟩
  ·rw [j7 (Ne.symm ah),jF]
  ·rw [j7 (Ne.symm a4),j7 (Ne.symm a5),hD,Y.1]
 ·rintro σ I ⟨hs,gs,c,rfl,hH,hG,hD,S,sm⟩;rw [ae,e9,Y.1] at S;refine (?_);exact q G I gs sm gf hG S.spl
theorem C1:jV 2 ["weirs","waters","given"] mH:=jU
include T in
theorem OG (F:kG K "spill_pours" mH f fd) (am:Def P w K mg base 2 "spills" ["weirs","waters"] [] (FE K)) (vd:Def P w K mg base 1 "last_first" ["weirs"] [] (AZ K)):FnOk P w K mg base jT 3 f fd ["weirs","waters"] (x8 K):=by
 refine F.ok2 C1 fun vs H Q E h=>?_
 refine ZB h fun wq wa rs ws ms h=>?_
 refine vU h fun e_ al q=>?_
 subst e_;refine ⟨rfl,fun _ _ _ _ hr=>?_⟩;refine tk fun x0=>?_
 let u0:=ru x0 [1] (jN (rJ ["at","given","weirs"] [2,0] (v9 (kK mH)) (yE (jR vd hr rfl (jC (jA 0) jE))) (fun _ _ _ _ _=>(fQ (kA JU (jH (kQ K) (jA 1) (jA 0)) jD))) (fun _ _ _ _ _=>(qC (kH (jA 0) (jH (jM K) (jH (kQ K) (jA 2) (jA 0)) jD) (jH (kQ K) (jA 1) (jA 0)))))))
 refine ⟨_,(jI (jW 2 C1.nd (jR am hr rfl (jC (jA 0) (jC (jA 1) jE))))
   u0.h),?_⟩
 try dsimp only [jY,jX]
 refine (qO wq wa rs ws ms (kN rfl al (fun gp H1 gs s1 a3 Z hS=>?_)));obtain ⟨hW,hA,hM,a6,a5,hn⟩:=al.same s1;refine (⟨wq,rs,(kB rfl hW (by rw [hA.1];lia) (fun df H2 s2 a4 ah=>?_))⟩);refine ⟨df,rfl,⟨_,so ah⟩,fun D hD=>?_⟩;refine bM (K:=K) (a:=df) (xs:=(zU rs.length).map fun (i:Nat)=>V.int (i:Int)) (caps:=[some (.ref gp),some (.ref wq)]) (fun i ys Hi=>PoursH Hi ys (((yM (qB ws) (fun a=>gs.getD a 0) ws.length).take i).filter qM) ms.length) hD (so ah) (PoursH.nil _ _) ?_ ?_
 ·rintro i x ys Hi hx hi M S hY Y;obtain ⟨hk,rfl⟩:=GL hx;rw [hA.1] at hk ⊢;obtain ⟨G,J⟩:∃i',i'=ws.length - 1 - i:=⟨_,rfl⟩;have O:G<ws.length:=by lia
  rw [<- J];have I:=s2.trans S;obtain ⟨ta,a0,hT,ht⟩:=nK (hA.same I) O;have ef:((yM (qB ws) (fun a=>gs.getD a 0) ws.length).take (i+1)).filter qM=((yM (qB ws) (fun a=>gs.getD a 0) ws.length).take i).filter qM++[(G,qB ws G,gs.getD G 0)].filter qM:=by
   rw [aK,SH hk,<- J,fw];rfl
  refine (k7 (so (I _ _ Z)) (yT (by rw [hS.1];exact O)) (⟨rfl,jB rfl (?_)⟩))
  by_cases hz:gs.getD G 0=0
  ·refine JV (bf V.int hz) (nX S hY M (Same.refl _) ?_);rw [ef,aR,if_neg (by unfold qM;rw [aB (show gs.getD G 0=0 from hz)];decide)];show PoursH Hi ys (_++[]) _;rw [cq];exact Y
  refine bC (fun e=>hz (V.int.inj e)) ?_;refine (j0 wq _ _ _ (jO rfl rfl (I.seq hW) a0 (j0 ta _ _ _ (jO rfl rfl hT rfl (k7 (so (I _ _ Z)) (yT (by rw [hS.1];exact O)) (⟨zz3,fun tp an=>?_⟩))))));have st:=jK an (.tup [.int (G:Int),.int (qB ws G:Int),.int (gs.getD G 0)]);refine JP hD S hY M (by lia) st ?_;rw [ef,aR,if_pos (by unfold qM;rw [ax (show ¬gs.getD G 0=0 from hz)];rfl)];exact ((Y.same st).snoc jF (by lia) ht).put (st _ _ hY)
 ·intro ys Hf S hY M Y;rw [ae,e9,hA.1,bn (by unfold yM;rw [ae,e9];exact ao _)] at Y;have I:=s2.trans S;exact q D Hf gs ys (s1.trans I) ((s1.trans s2).free hD) hY Y hS
theorem RN:jV 2 ["weirs","waters"] uS:=jU
include T in
theorem OE (F:kG K "settled" uS f fd) (xv:Def P w K mg base 1 "poured_all" ["waters","pours"] [] (iV K)) (Y:Def P w K mg base 3 "spill_pours" ["weirs","waters"] [] (x8 K)):FnOk P w K mg base jT 4 f fd ["weirs","waters"] (EB K):=by
 refine F.ok2 RN fun vs H Q E h=>?_
 refine ZB h fun wq S rs ws ms h=>?_
 refine vU h fun e_ I q=>?_
 subst e_;refine ⟨rfl,fun _ _ _ _ G=>?_⟩;refine ⟨_,(jN (jR xv G rfl (jC (jA 1) (jC (jR Y G rfl (jC (jA 0) (jC (jA 1) jE))) jE)))),?_⟩
 try dsimp only [jY,jX]
 obtain ⟨hW,hA,hM,ah,M,hn⟩:=id I;refine (qO wq S rs ws ms (kN rfl I (fun p H1 gs ys J Z hp hP hS=>?_)));refine j0 S p ms ys (jB rfl (jO (hM.same J) (so hp) hP.pa hn (fun r H' V O G=>?_)));rw [xD (fB M (DW hA))] at G;exact q r H' gs (J.trans V) (J.free O) G hS
theorem RV:jV 3 ["weirs","waters","pours"] wD:=jU
include T in
theorem OS (F:kG K "with_spills" wD f fd) (zz:Def P w K mg base 3 "spill_pours" ["weirs","waters"] [] (x8 K)) (xv:Def P w K mg base 1 "poured_all" ["waters","pours"] [] (iV K)):FnOk P w K mg base jT 4 f fd ["weirs","waters","pours"] (oQ K):=by
 refine F.ok2 RV fun vs H Q E h=>?_
 refine ZA h fun wq wa p rs ps ws ms qs h=>?_
 refine JZ h fun e_ V hp hP a3 q=>?_
 subst e_;refine ⟨rfl,fun _ _ _ _ hr=>?_⟩;refine ⟨_,(jN (jL bW (jA 2) (jR zz hr rfl (jC (jA 0) (jC (jR xv hr rfl (jC (jA 1) (jC (jA 2) jE))) jE))))),?_⟩
 try dsimp only [jY,jX]
 obtain ⟨hW,hA,hM,am,ah,hn⟩:=id V;refine (qO wa p ms ps qs (j5 rfl hM (so hp) hP.pa hn (fun wt H1 M an Y=>?_)));have O:(kC ms qs).length=ms.length:=yB _ _;refine qO wq wt rs ws (kC ms qs) ⟨rfl,⟨M.seq hW,by rw [O];exact hA.same M,.inr (SqT.of Y),am,by rw [O];exact ah,by rw [O];exact hn⟩,fun sp H2 gs ys s2 a0 S I hS=>?_⟩;rw [O] at I;have hl:=SI ws (fun a=>gs.getD a 0);refine (j0 p sp _ _ (j5 rfl rfl (s2 _ _ (M _ _ hp)) S (aM (show ps.length+ys.length<=1500 by rw [I.1];lia) (by decide)) (fun al J=>?_)));have Z:=jK J (.lst (ps++ys));have G:=M.trans s2;exact q al _ gs _ (G.trans Z) (G.free J) jF ((hP.same (G.trans Z)).append (I.same Z)) hS
theorem RK:jV 1 ["parts"] mG:=jU
include T in
theorem N2 (F:kG K "parts_not_nought" mG f fd) : FnOk P w K mg base jT 1 f fd ["parts"] (f6 K):=by
  refine F.ok2 RK fun vs H Q E h=>?_
  refine lG h fun p rs ps h=>?_
  refine cJ h fun e_ hP hA hn q=>?_
  subst e_;refine ⟨rfl,fun _ _ _ _ hr=>?_⟩;refine ⟨_,(jN (rJ ["part"] [] (v9 (kK mG)) (yE (jA 0)) (fun _ _ _ _ _=>(fQ (kA JU (jH (jM K) (jA 0) jD) jD))) (fun _ _ _ _ _=>(jA 0)))),?_⟩
  try dsimp only [jY,jX]
  refine (⟨p,rfl,⟨rs,hP⟩,fun l hl=>?_⟩);refine bM (K:=K) (a:=p) (xs:=rs) (caps:=[]) (fun i ys Hi=>PartsAt Hi ys ((ps.take i).filter vV)) hl hP PartsAt.nil ?_ ?_
  . rintro i x ys Hi hx hi G I S M
    obtain ⟨t,O,J,rfl,ah,hT⟩:=hA.2 i x hx;have et:(ps.take (i+1)).filter vV=(ps.take i).filter vV++[(O,J)].filter vV:=by
      rw [aK,ah,fw];rfl
    refine (jJ (SqT.of (I _ _ hT)) rfl (⟨rfl,jB rfl (?_)⟩))
    by_cases Y:J=0
    . refine JV (by rw [Y]) ?_
      refine nX I S G (Same.refl _) ?_;have Z:[(O,J)].filter vV=[]:=by rw [Y];rfl
      rw [et,Z,cq];exact M
    . refine bC (fun e=>Y (V.int.inj e)) ?_
      refine (JP hl I S G (by lia) (Same.refl _) ?_);have Z:[(O,J)].filter vV=[(O,J)]:=by
        rw [aR,if_pos (show vV (O,J)=true by unfold vV;rw [ax Y];rfl)];rfl
      rw [et,Z];exact (M.snoc (I _ _ hT)).keep ((Keep.refl l Hi).upd _) S
  . intro ys Hf I S G M
    rw [hA.1,aW] at M;exact q l Hf ys I hl S M
theorem PN:jV 5 ["self","name","high","low","room"] sR:=jU
include T in
theorem MN (F:Fun K "__init__" "PlainLock.__init__" sR f fd) : FnOk P w K mg base jT 1 f fd ["self","name","high","low","room"] (fP (jG cP cB cU)):=by
 refine F.ok2 PN fun vs H Q E h=>?_
 refine zB h fun kd x I n G l r h=>?_
 refine vU h fun S M q=>?_
 subst S;refine ⟨rfl,fun _ _ _ _ Z=>?_⟩;refine tk fun V=>?_
 let O:=ru V [1] (jI (yG (jA 0) (jA 2) rfl)
   (jI (yG (jA 0) (jA 3) rfl)
   (kU (yG (jA 0) (jA 4) rfl))))
 refine ⟨_,(jI (yG (jA 0) (jA 1) rfl)
   O.h),?_⟩
 try dsimp only [jY,jX]
 refine (jQ x _ I (jB rfl (jO M (T.cl kd) (T.vp kd) (by show 0<1000;decide) ?_)));refine (jQ x _ I (jB rfl (jO jF (T.cl kd) (T.vc kd) (by show 1<1000;decide) ?_)));refine (jQ x _ I (jB rfl (jO jF (T.cl kd) (T.wx kd) ?_ ?_)))
 ·have:=JQ "high" G (jS "name" n []);have J:(jS ("name":Str) n []).length=1:=rfl
  lia
 refine (jQ x _ I (jB rfl (jO jF (T.cl kd) (T.vq kd) ?_ ?_)))
 ·have:=JQ "low" l (jS "high" G (jS "name" n []));have Y:=JQ "high" G (jS "name" n []);have J:(jS ("name":Str) n []).length=1:=rfl
  lia
 exact q _ (((((Keep.refl x H).upd _).upd _).upd _).upd _) jF
theorem OV:jV 6 ["self","name","high","low","room","side"] rT:=jU
include T in
theorem LX (F:Fun K "__init__" "BasinLock.__init__" rT f fd) (S:CmD P w K mg base 1 "PlainLock" cP "__init__" ["self","name","high","low","room"] (fP (jG cP cB cU))):FnOk P w K mg base jT 2 f fd ["self","name","high","low","room","side"] (fO (jG cP cB cU) .basin):=by
 refine F.ok2 OV fun vs H Q E h=>?_
 refine zB h fun x J n G l r v h=>?_
 refine vU h fun O M q=>?_
 subst O;refine ⟨rfl,fun _ _ _ _ V=>?_⟩;refine ⟨_,(jI (yH (HN S V rfl (gI (jA 0) (jA 1) (jA 2) (jA 3) (jA 4))))
   (kU (yG (jA 0) (jA 5) rfl))),?_⟩
 try dsimp only [jY,jX]
 refine (kL (.basin) x J n G l r ⟨rfl,M,fun H' Y I=>?_⟩);refine (jQ x _ J (jB rfl (jO I (T.cl .basin) T.xbb (DN _ _ _ _) ?_)));exact q _ (Y.upd _) jF
theorem PR:jV 6 ["self","name","high","low","room","lift"] sW:=jU
include T in
theorem MQ (F:Fun K "__init__" "PumpLock.__init__" sW f fd) (S:CmD P w K mg base 1 "PlainLock" cP "__init__" ["self","name","high","low","room"] (fP (jG cP cB cU))):FnOk P w K mg base jT 2 f fd ["self","name","high","low","room","lift"] (fO (jG cP cB cU) .pump):=by
 refine F.ok2 PR fun vs H Q E h=>?_
 refine zB h fun x J n G l r v h=>?_
 refine vU h fun O M q=>?_
 subst O;refine ⟨rfl,fun _ _ _ _ V=>?_⟩;refine ⟨_,(jI (yH (HN S V rfl (gI (jA 0) (jA 1) (jA 2) (jA 3) (jA 4))))
   (kU (yG (jA 0) (jA 5) rfl))),?_⟩
 try dsimp only [jY,jX]
 refine (kL (.pump) x J n G l r ⟨rfl,M,fun H' Y I=>?_⟩);refine (jQ x _ J (jB rfl (jO I (T.cl .pump) T.xaH (DN _ _ _ _) ?_)));exact q _ (Y.upd _) jF
theorem PV:jV 7 ["self","name","least","crest","berths","water","target"] sY:=jU
include T in
theorem MS (F:Fun K "__init__" "Reach.__init__" sY f fd) : FnOk P w K mg base jT 1 f fd ["self","name","least","crest","berths","water","target"] (wY cR):=by
 refine F.ok2 PV fun vs H Q E h=>?_
 refine ZA h fun x Y S M O G J I h=>?_
 refine vU h fun e_ hx q=>?_
 subst e_;refine ⟨rfl,fun _ _ _ _ hr=>?_⟩;refine tk fun x0=>?_
 let u0:=ru x0 [3] (jI (yG (jA 0) (jA 4) rfl)
   (jI (yG (jA 0) (jA 5) rfl)
   (kU (yG (jA 0) (jA 6) rfl))))
 let u1:=ru x0 [2] (jI (yG (jA 0) (jA 3) rfl)
   u0.h)
 let u2:=ru x0 [1] (jI (yG (jA 0) (jA 2) rfl)
   u1.h)
 refine ⟨_,(jI (yG (jA 0) (jA 1) rfl)
   u2.h),?_⟩
 try dsimp only [jY,jX]
 have Z:∀(f:Str) (z:V) (fs:List (Str×V)) (m:Nat),fs.length<=m->(jS f z fs).length<=m+1:=fun f z fs m h=>aM (JQ f z fs) (by lia)
 have l0:([]:List (Str×V)).length<=0:=ao _;refine (jQ x cR Y (jB rfl (jO hx T.clR T.zr (by lia) ?_)));have l1:=Z "name" S _ _ l0;refine (jQ x cR Y (jB rfl (jO jF T.clR T.zm (by lia) ?_)));have l2:=Z "least" M _ _ l1;refine (jQ x cR Y (jB rfl (jO jF T.clR T.zn (by lia) ?_)));have l3:=Z "crest" O _ _ l2;refine (jQ x cR Y (jB rfl (jO jF T.clR T.zf (by lia) ?_)));have l4:=Z "berths" G _ _ l3;refine (jQ x cR Y (jB rfl (jO jF T.clR T.zu (by lia) ?_)));have l5:=Z "water" J _ _ l4;refine (jQ x cR Y (jB rfl (jO jF T.clR T.zg (by lia) ?_)));have l6:=Z "target" I _ _ l5;exact q _ _ (((((((Keep.refl x H).upd _).upd _).upd _).upd _).upd _).upd _) jF (TY _ _ _ _ _ _)
theorem PP:jV 2 ["self","basin"] sU:=jU
include T in
theorem MO (F:Fun K "fill_parts" "PlainLock.fill_parts" sU f fd) (xh:Def P w K mg base 1 "parts_not_nought" ["parts"] [] (f6 K)):FnOk P w K mg base jT 2 f fd ["self","basin"] (QH (jG cP cB cU) QC .plain):=by
 refine F.ok2 PP fun vs H Q E h=>?_
 refine zB h fun x n ah l room v b h=>?_
 refine vU h fun e_ J q=>?_
 subst e_;obtain ⟨dx,hx⟩:=J;refine ⟨rfl,fun _ _ _ _ hr=>?_⟩;refine ⟨_,(jN (jR xh hr rfl (jC (qA (jC (qC (jC jP (jC (j6 K (jA 0) rfl) jE))) jE)) jE))),?_⟩
 try dsimp only [jY,jX]
 refine (j8 hx (T.cl .plain) (T.vq .plain) (fV .plain _ _ _ _ _) (⟨zz2,fun Z M=>⟨zz1,fun lp Y=>?_⟩⟩));have s1:=jK M (.tup [.str "high",.int room]);have I:=jK Y (.lst [V.ref Z]);refine jQ lp ([.ref Z]) ([("high",room)]) (jO rfl (so jF) (PartsAt.nil.snoc (I _ _ jF)) (by show 1<=10;decide) (fun rr H' O sm G S hP=>?_));exact q rr H' O ((s1.trans I).trans sm) ((s1.trans I).free G) S hP
theorem OW:jV 2 ["self","basin"] rV:=jU
include T in
theorem LY (F:Fun K "fill_parts" "BasinLock.fill_parts" rV f fd) (xh:Def P w K mg base 1 "parts_not_nought" ["parts"] [] (f6 K)):FnOk P w K mg base jT 2 f fd ["self","basin"] (QH (jG cP cB cU) QC .basin):=by
 refine F.ok2 OW fun vs H Q E h=>?_
 refine zB h fun x n an l room v b h=>?_
 refine vU h fun e_ M q=>?_
 subst e_;obtain ⟨dx,al⟩:=M;refine ⟨rfl,fun _ _ _ _ hr=>?_⟩;refine ⟨_,(jN (jR xh hr rfl (jC (qA (jC (qC (jC jP (jC (jA 1) jE))) (jC (qC (jC jP (jC (jL zA (j6 K (jA 0) rfl) (jA 1)) jE))) jE))) jE))),?_⟩
 try dsimp only [jY,jX]
 refine (⟨zz2,fun tp O=>?_⟩);have Y:=jK O (.tup [.str "basin",.int b]);have hx:=Y _ _ al;refine (j8 hx (T.cl .basin) (T.vq .basin) (fV .basin _ _ _ _ _) (kD (⟨zz2,fun tq ah=>⟨zz2,fun lp am=>?_⟩⟩)));have J:=jK ah (.tup [.str "high",.int (room - b)]);have I:=jK am (.lst [V.ref tp,V.ref tq]);refine jQ lp ([.ref tp,.ref tq]) ([("basin",b),("high",room - b)]) (jO rfl (so jF) ((PartsAt.nil.snoc (I _ _ (J _ _ jF))).snoc (I _ _ jF)) (by show 2<=10;decide) (fun rr H' S sm G Z hP=>?_));exact q rr H' S (((Y.trans J).trans I).trans sm) (((Y.trans J).trans I).free G) Z hP
theorem PU:jV 2 ["self","basin"] sX:=jU
include T in
theorem MR (F:Fun K "fill_parts" "PumpLock.fill_parts" sX f fd) (xh:Def P w K mg base 1 "parts_not_nought" ["parts"] [] (f6 K)):FnOk P w K mg base jT 2 f fd ["self","basin"] (QH (jG cP cB cU) QC .pump):=by
 refine F.ok2 PU fun vs H Q E h=>?_
 refine zB h fun x n an l room v b h=>?_
 refine vU h fun e_ O q=>?_
 subst e_;obtain ⟨dx,I⟩:=O;refine ⟨rfl,fun _ _ _ _ hr=>?_⟩;refine ⟨_,(jN (jR xh hr rfl (jC (qA (jC (qC (jC jP (jC (j6 K (jA 0) rfl) jE))) (jC (qC (jC jP (jC (jL zA (j6 K (jA 0) rfl) (j6 K (jA 0) rfl)) jE))) jE))) jE))),?_⟩
 try dsimp only [jY,jX]
 refine (j8 I (T.cl .pump) (T.xaH) (AK _ _ _ _ _ _) (⟨zz2,fun tp S=>?_⟩));have Z:=jK S (.tup [.str "low",.int v]);have hx:=Z _ _ I;refine (j8 hx (T.cl .pump) (T.vq .pump) (fV .pump _ _ _ _ _) (j8 hx (T.cl .pump) (T.xaH) (AK _ _ _ _ _ _) (kD (⟨zz2,fun tq al=>⟨zz2,fun lp am=>?_⟩⟩))));have M:=jK al (.tup [.str "high",.int (room - v)]);have J:=jK am (.lst [V.ref tp,V.ref tq]);refine jQ lp ([.ref tp,.ref tq]) ([("low",v),("high",room - v)]) (jO rfl (so jF) ((PartsAt.nil.snoc (J _ _ (M _ _ jF))).snoc (J _ _ jF)) (by show 2<=10;decide) (fun rr H' Y sm G ah hP=>?_));exact q rr H' Y (((Z.trans M).trans J).trans sm) (((Z.trans M).trans J).free G) ah hP
theorem PQ:jV 2 ["self","basin"] sV:=jU
include T in
theorem MP (F:Fun K "let_parts" "PlainLock.let_parts" sV f fd) (xh:Def P w K mg base 1 "parts_not_nought" ["parts"] [] (f6 K)):FnOk P w K mg base jT 2 f fd ["self","basin"] (W9 (jG cP cB cU)):=by
 refine F.ok2 PQ fun vs H Q E h=>?_
 refine ZA h fun kd x n ah l room v b h=>?_
 refine vU h fun e_ J q=>?_
 subst e_;obtain ⟨dx,hx⟩:=J;refine ⟨rfl,fun _ _ _ _ hr=>?_⟩;refine ⟨_,(jN (jR xh hr rfl (jC (qA (jC (qC (jC jP (jC (j6 K (jA 0) rfl) jE))) jE)) jE))),?_⟩
 try dsimp only [jY,jX]
 refine (j8 hx (T.cl kd) (T.vq kd) (fV kd _ _ _ _ _) (⟨zz2,fun Z M=>⟨zz1,fun lp Y=>?_⟩⟩));have s1:=jK M (.tup [.str "low",.int room]);have I:=jK Y (.lst [V.ref Z]);refine jQ lp ([.ref Z]) ([("low",room)]) (jO rfl (so jF) (PartsAt.nil.snoc (I _ _ jF)) (by show 1<=10;decide) (fun rr H' O sm G S hP=>?_));exact q rr H' O ((s1.trans I).trans sm) ((s1.trans I).free G) S hP
theorem CP:jV 2 ["self","basin","saved"] rW:=jU
include T in
theorem LZ (F:Fun K "let_parts" "BasinLock.let_parts" rW f fd) (xh:Def P w K mg base 1 "parts_not_nought" ["parts"] [] (f6 K)):FnOk P w K mg base jT 2 f fd ["self","basin"] (QH (jG cP cB cU) zZ .basin):=by
 refine F.ok2 CP fun vs H Q E h=>?_
 refine zB h fun x n an l room v b h=>?_
 refine vU h fun e_ S q=>?_
 subst e_;obtain ⟨dx,I⟩:=S;refine ⟨rfl,fun _ _ _ _ hr=>?_⟩;refine tk fun x0=>?_
 let u0:=ru x0 [1] (jN (jR xh hr rfl (jC (qA (jC (qC (jC jP (jC (jA 2) jE))) (jC (qC (jC jP (jC (jL zA (j6 K (jA 0) rfl) (jA 2)) jE))) jE))) jE)))
 refine ⟨_,(jI (jW 2 CP.nd (jL zA (j6 K (jA 0) rfl) (jA 1)))
   u0.h),?_⟩
 try dsimp only [jY,jX]
 have O:=I;refine (j8 O (T.cl .basin) (T.xbb) (AK _ _ _ _ _ _) (kD (?_)));refine (⟨zz2,fun tp Y=>?_⟩);have s1:=jK Y (.tup [.str "basin",.int (v - b)]);have O:=s1 _ _ I;refine (j8 O (T.cl .basin) (T.vq .basin) (fV .basin _ _ _ _ _) (kD (⟨zz2,fun tq al=>⟨zz2,fun lp am=>?_⟩⟩)));have M:=jK al (.tup [.str "low",.int (room - (v - b))]);have J:=jK am (.lst [V.ref tp,V.ref tq]);refine jQ lp ([.ref tp,.ref tq]) ([("basin",v - b),("low",room - (v - b))]) (jO rfl (so jF) ((PartsAt.nil.snoc (J _ _ (M _ _ jF))).snoc (J _ _ jF)) (by show 2<=10;decide) (fun rr H' Z sm G ah hP=>?_));exact q rr H' Z (((s1.trans M).trans J).trans sm) (((s1.trans M).trans J).free G) ah hP
theorem O8:jV 4 ["self","reaches","locks","nights"] cT:=jU
include T in
theorem MC {ds:List Value} (F:FunD K "__init__" "Canal.__init__" cT f fd ds) : FnOk P w K mg base jT 1 f fd ["self","reaches","locks","nights"] (wZ (jG cP cB cU) cR cN):=by
 refine F.ok2 O8 fun vs H Q E h=>?_
 obtain ⟨x,M,rl,ll,nv,rs,ls,R,L,N,rfl,hx,a8,bt,hR,hL,hN,q⟩:=h;refine ⟨rfl,fun _ _ _ _ hr=>?_⟩;refine tk fun x0=>?_
 let u0:=ru x0 [2] (kU (yG (jA 0) (JR (kA Y8 (jA 3) Y6) (qA jE) (pV ["night"] [] (v9 (kK cT)) (yE (jA 3)) (fun _ _ _ _ _=>(vJ (y8 K) (by rfl) T.xm aG (jC (jA 0) jE))))) rfl))
 let u1:=ru x0 [1] (jI (yG (jA 0) (vJ (y8 K) (by rfl) T.xm aG (jC (jA 2) jE)) rfl)
   u0.h)
 refine ⟨_,(jI (yG (jA 0) (vJ (y8 K) (by rfl) T.xm aG (jC (jA 1) jE)) rfl)
   u1.h),?_⟩
 try dsimp only [jY,jX]
 have ln:∀(f:Str) (z:V) (fs:List (Str×V)) (m:Nat),fs.length<=m->(jS f z fs).length<=m+1:=fun f z fs m h=>aM (JQ f z fs) (by lia)
 have ce:rl≠x:=yP a8 hx (fun z=>nomatch z);have b4:ll≠x:=yP bt hx (fun z=>nomatch z);refine (⟨rl,jB rfl (⟨.inl (so a8),fun I ah=>?_⟩)⟩);have s1:=jK ah (.lst rs);have am:I≠x:=(q9 hx ah).symm;refine (jQ x cN M (jB rfl (jO (s1 _ _ hx) T.clN T.xf (by show 0<1000;decide) ?_)));have k1:Keep x H (upd (upd H I (.lst rs)) x (.ins cN M (jS "reaches" (.ref I) []))):=(Keep.of s1).upd _;have br:upd (upd H I (.lst rs)) x (.ins cN M (jS "reaches" (.ref I) [])) I=some (.lst rs):=by rw [j7 am];exact jF
 have a4:upd (upd H I (.lst rs)) x (.ins cN M (jS "reaches" (.ref I) [])) x=some (.ins cN M (jS "reaches" (.ref I) [])):=jF;generalize upd (upd H I (.lst rs)) x (.ins cN M (jS "reaches" (.ref I) []))=H1 at k1 br a4 ⊢;have l1:=ln "reaches" (.ref I) [] 0 (ao _);refine (⟨ll,jB rfl (⟨.inl (so (k1 _ _ b4 bt)),fun J Y=>?_⟩)⟩);have s2:=jK Y (.lst ls);have an:J≠x:=(q9 a4 Y).symm;refine (jQ x cN M (jB rfl (jO (s2 _ _ a4) T.clN T.xg (by lia) ?_)));have cd:=ln "locks" (.ref J) _ _ l1;have k2:Keep x H (upd (upd H1 J (.lst ls)) x (.ins cN M (jS "locks" (.ref J) (jS "reaches" (.ref I) [])))):=(k1.trans (Keep.of s2)).upd _;have a3:upd (upd H1 J (.lst ls)) x (.ins cN M (jS "locks" (.ref J) (jS "reaches" (.ref I) []))) I=some (.lst rs):=by rw [j7 am];exact s2 _ _ br
 have a7:upd (upd H1 J (.lst ls)) x (.ins cN M (jS "locks" (.ref J) (jS "reaches" (.ref I) []))) J=some (.lst ls):=by rw [j7 an];exact jF
 have S:upd (upd H1 J (.lst ls)) x (.ins cN M (jS "locks" (.ref J) (jS "reaches" (.ref I) []))) x=some (.ins cN M (jS "locks" (.ref J) (jS "reaches" (.ref I) []))):=jF;generalize upd (upd H1 J (.lst ls)) x (.ins cN M (jS "locks" (.ref J) (jS "reaches" (.ref I) [])))=H2 at k2 a3 a7 S ⊢;have b2:∀D:List Addr,(∀d∈D,H d≠none)->I∉D:=fun D Z z=>Z _ z ah
 have b5:∀D:List Addr,(∀d∈D,H d≠none)->J∉D:=fun D Z z=>by
  by_cases e:J=x
  ·exact an e
  ·cases hh:H J with
   |none=>exact Z _ z hh
   |some o=>rw [k1 _ _ e hh] at Y;cases Y
 have done:∀(O:Addr) (ns:List V) (H3:Hp),Keep x H2 H3->H2 O=none->H3 x=some (.ins cN M (jS "locks" (.ref J) (jS "reaches" (.ref I) [])))->H3 O=some (.lst ns)->(∀D:List Addr,(∀d∈D,H2 d≠none)->AllAt (NAt D H3) ns N)->Q .non (upd H3 x (.ins cN M (jS "nights" (.ref O) (jS "locks" (.ref J) (jS "reaches" (.ref I) []))))):=by
  intro O ns H3 k3 G bv b1 b3;have kf:Keep x H (upd H3 x (.ins cN M (jS "nights" (.ref O) (jS "locks" (.ref J) (jS "reaches" (.ref I) []))))):=(k2.trans k3).upd _;have kl:Keep x H3 (upd H3 x (.ins cN M (jS "nights" (.ref O) (jS "locks" (.ref J) (jS "reaches" (.ref I) []))))):=(Keep.refl x H3).upd _;have b8:O≠x:=fun z=>by rw [z,S] at G;cases G
  have a9:∀d,H d≠none->H2 d≠none:=fun d hd=>by
   by_cases e:d=x
   ·rw [e,S];exact fun z=>nomatch z
   ·cases hh:H d with
    |none=>exact absurd hh hd
    |some o=>rw [k2 _ _ e hh];exact fun z=>nomatch z
  refine q _ kf fun D Z=>(ZU M I J O _ rs ls ns (B4 jF (TZ _ _ _) ?_ ?_ ?_ (hR.mono (RcO.keepI kf hx)) (hL.mono (LkO.keepI kf hx)) ?_ (b2 D Z) (b5 D Z) (fun z=>a9 _ (Z _ z) G)))
  ·rw [j7 am];exact k3 _ _ am a3
  ·rw [j7 an];exact k3 _ _ an a7
  ·rw [j7 b8];exact b1
  ·refine (b3 D (fun d hd=>a9 d (Z d hd))).mono ?_;rintro v p ⟨l,qs,e1,e2,e3,e4⟩;exact ⟨l,qs,(kB e1 (kl _ _ (fun z=>by rw [z,bv] at e2;cases e2) e2) (e3.mono (QAt.keep kl bv (fun _ z=>nomatch z))) e4)⟩
 refine ⟨rfl,jB rfl (?_)⟩
 rcases hN with ⟨rfl,rfl⟩|⟨nl,ns,rfl,a5,hN,b0⟩
 ·refine kX rfl ⟨zz0,fun O G=>?_⟩;have s3:=jK G (.lst []);refine (jQ x cN M (jB rfl (jO (s3 _ _ S) T.clN T.xq (by lia) ?_)));exact done O [] _ (Keep.of s3) G (s3 _ _ S) jF (fun D _=>AllAt.nil)
 ·have b9:nl≠x:=yP a5 hx (fun z=>nomatch z);have a0:=k2 _ _ b9 a5;have a6:AllAt (NAt [] H2) ns N:=hN.mono fun v p=>by
   rintro ⟨l,qs,e1,e2,e3,e4⟩;exact ⟨l,qs,(kB e1 (k2 _ _ (yP e2 hx (fun z=>nomatch z)) e2) (e3.mono (QAt.keep k2 hx (fun _ z=>nomatch z))) e4)⟩
  refine j9 (fun z=>nomatch z) (⟨nl,rfl,⟨_,so a0⟩,fun O G=>?_⟩);refine bM (K:=K) (a:=nl) (xs:=ns) (caps:=[]) (fun i ys Hi=>(∀D:List Addr,O∈D->(∀d∈D,d≠O->H2 d≠none)->AllAt (NAt D Hi) ys (N.take i))) G (so a0) (fun D _ _=>AllAt.nil) ?_ ?_
  ·rintro i v ys Hi hv hi be sm hY hI;obtain ⟨p,hp,l,qs,rfl,hl,hq,_⟩:=a6.2 i v hv;refine yZ (qG ?_);refine (⟨l,qs,rfl,.inl (so (sm _ _ hl)),fun c al=>?_⟩);have u:=jK al (.lst qs);refine JP G sm hY be (by lia) u ?_;intro D bl Z;rw [aK,hp];refine (((hI D bl Z).mono (NAt.same u)).snoc (v:=.ref c) (x:=p) ⟨c,qs,(kB rfl jF ((hq.mono (QAt.same sm)).mono (QAt.same u)) (fun z=>?_))⟩).mono (NAt.put (u _ _ hY) bl)
   by_cases e:c=O
   ·rw [e,hY] at al;cases al
   ·cases hh:H2 c with
    |none=>exact Z _ z e hh
    |some o=>rw [sm _ _ hh] at al;cases al
  rintro ys H3 s3 hY be hI;rw [a6.1,aW] at hI;refine (jQ x cN M (jB rfl (jO (s3 _ _ S) T.clN T.xq (by lia) ?_)));exact done O ys H3 (Keep.of s3) G (s3 _ _ S) hY (fun D Z=>(hI (O::D) aT (fun d hd ne=>(aj.mp hd).elim (fun z=>absurd z ne) (Z d))).mono (NAt.less (fun d hd=>aF _ hd)))
theorem PK:jV 1 ["self"] sP:=jU
include T in
theorem MJ (F:Fun K "sea" "Canal.sea" sP f fd) : FnOk P w K mg base jT 1 f fd ["self"] (bF (jG cP cB cU) cR cN QD):=by
 refine F.ok2 PK fun vs H Q E h=>?_
 refine ZB h fun x D R L N h=>?_
 refine vU h fun Z I q=>?_
 subst Z;obtain ⟨dx,rl,ll,nl,fs,rs,ls,ns,M,O,J,G,S,V,Y,hN,d1,d2,d3⟩:=I;refine ⟨rfl,fun _ _ _ _ hr=>?_⟩;refine ⟨_,(jN (jL kS (qR K T.xk (j6 K (jA 0) rfl)) (jL qU jD (qR K T.xk (j6 K (jA 0) rfl))))),?_⟩
 try dsimp only [jY,jX]
 refine (j8 M (T.clN) (T.xf) (O.1) (⟨_,jB rfl (⟨.inl (so J),(j8 M (T.clN) (T.xg) (O.2.1) (⟨_,jB rfl (⟨.inl (so G),⟨_,_,(kB rfl rfl (.inl ⟨by decide,by decide⟩) ⟨_,_,⟨rfl,rfl,?_⟩⟩)⟩⟩)⟩))⟩)⟩));rw [V.1,Y.1];exact q
theorem PL:jV 1 ["self"] sQ:=jU
include T in
theorem MK (F:Fun K "sky" "Canal.sky" sQ f fd) (V:MeD P w K mg base 1 cN "sea" ["self"] (bF (jG cP cB cU) cR cN QD)):FnOk P w K mg base jT 2 f fd ["self"] (bF (jG cP cB cU) cR cN cE):=by
 refine F.ok2 PL fun vs H Q E h=>?_
 refine ZB h fun x D R L N h=>?_
 refine vU h fun e_ I q=>?_
 subst e_;refine ⟨rfl,fun _ _ _ _ Y=>?_⟩;refine ⟨_,(jN (jL kS (kW V Y (jA 0)) jD)),?_⟩
 try dsimp only [jY,jX]
 have G:=I;obtain ⟨S,rl,ll,nl,fs,rs,ls,ns,J,Z,ah,M,O,hR,hL,hN,d1,d2,d3⟩:=I;exact (⟨x,S,jB rfl (⟨J,Z.no (by trivial) (by trivial) (by trivial),(qO x D R L N ⟨rfl,G,⟨_,_,⟨rfl,rfl,q⟩⟩⟩)⟩)⟩)
theorem PH:jV 1 ["self"] sM:=jU
include T in
theorem MH (F:Fun K "many" "Canal.many" sM f fd) (Z:MeD P w K mg base 2 cN "sky" ["self"] (bF (jG cP cB cU) cR cN cE)):FnOk P w K mg base jT 3 f fd ["self"] (bF (jG cP cB cU) cR cN pH):=by
 refine F.ok2 PH fun vs H Q E h=>?_
 refine ZB h fun x D R L N h=>?_
 refine vU h fun e_ I q=>?_
 subst e_;refine ⟨rfl,fun _ _ _ _ V=>?_⟩;refine ⟨_,(jN (jL kS (kW Z V (jA 0)) jD)),?_⟩
 try dsimp only [jY,jX]
 have G:=I;obtain ⟨S,rl,ll,nl,fs,rs,ls,ns,J,Y,ah,M,O,hR,hL,hN,d1,d2,d3⟩:=I;exact (⟨x,S,jB rfl (⟨J,Y.no (by trivial) (by trivial) (by trivial),(qO x D R L N ⟨rfl,G,⟨_,_,⟨rfl,rfl,q⟩⟩⟩)⟩)⟩)
theorem PB:jV 2 ["self","k"] sJ:=jU
include T in
theorem ME (F:Fun K "chamber" "Canal.chamber" sJ f fd) : FnOk P w K mg base jT 1 f fd ["self","k"] (dR (jG cP cB cU) cR cN QO):=by
 refine F.ok2 PB fun vs H Q E h=>?_
 refine cH h fun x D R L N k h=>?_
 refine vU h fun Y G q=>?_
 subst Y;obtain ⟨dx,rl,ll,nl,fs,rs,ls,ns,J,V,I,M,O,S,hL,hN,d1,d2,Z⟩:=G;refine ⟨rfl,fun _ _ _ _ hr=>?_⟩;refine ⟨_,(jN (jL kS (qR K T.xk (j6 K (jA 0) rfl)) (jA 1))),?_⟩
 try dsimp only [jY,jX]
 refine (j8 J (T.clN) (T.xf) (V.1) (⟨_,jB rfl (⟨.inl (so I),(kD (?_))⟩)⟩));rw [S.1];exact q
theorem O9:jV 2 ["self","k"] sI:=jU
include T in
theorem MD (F:Fun K "basin" "Canal.basin" sI f fd) : FnOk P w K mg base jT 1 f fd ["self","k"] (dR (jG cP cB cU) cR cN JA):=by
 refine F.ok2 O9 fun vs H Q E h=>?_
 refine cH h fun x D R L N k h=>?_
 refine vU h fun Z I q=>?_
 subst Z;obtain ⟨dx,rl,ll,nl,fs,rs,ls,ns,M,O,J,G,S,V,Y,hN,d1,d2,d3⟩:=I;refine ⟨rfl,fun _ _ _ _ hr=>?_⟩;refine ⟨_,(jN (jL kS (jL kS (qR K T.xk (j6 K (jA 0) rfl)) (qR K T.xk (j6 K (jA 0) rfl))) (jA 1))),?_⟩
 try dsimp only [jY,jX]
 refine (j8 M (T.clN) (T.xf) (O.1) (⟨_,jB rfl (⟨.inl (so J),(j8 M (T.clN) (T.xg) (O.2.1) (⟨_,jB rfl (⟨.inl (so G),_,_,rfl,rfl,(kD (?_))⟩)⟩))⟩)⟩));rw [V.1,Y.1];exact q
theorem PM:jV 1 ["self"] lX:=jU
include T in
theorem MM (F:Fun K "weirs" "Canal.weirs" lX f fd) (ve:MeD P w K mg base 1 cN "sea" ["self"] (bF (jG cP cB cU) cR cN QD)):FnOk P w K mg base jT 2 f fd ["self"] (iD (jG cP cB cU) cR cN):=by
 refine F.ok2 PM fun vs H Q E h=>?_
 refine ZB h fun x D R L N h=>?_
 refine d9 h fun e_ hc a0 q=>?_
 subst e_;refine ⟨rfl,fun _ _ _ _ hr=>?_⟩;refine ⟨_,(jN (pV ["reach","self"] [0] (v9 (kK lX)) (yE (j6 K (jA 0) rfl)) (fun _ _ _ _ _=>(qC (jC (j6 K (jA 0) rfl) (jC (JR (kA kM (j6 K (jA 0) rfl) (ZK (v:=.int (-1)) rfl T.xbJ ⟨_,rfl⟩)) (kW ve hr (jA 1)) (j6 K (jA 0) rfl)) jE)))))),?_⟩
 try dsimp only [jY,jX]
 have am:=hc;obtain ⟨dx,rl,ll,nl,fs,rs,ls,ns,hx,hf,al,a3,a4,hR,hL,hN,d1,d2,d3⟩:=hc;refine (j8 hx (T.clN) (T.xf) (hf.1) (⟨rl,rfl,⟨_,so al⟩,fun wl J=>?_⟩));refine bM (K:=K) (a:=rl) (xs:=rs) (caps:=[some (.ref x)]) (fun i ys M=>AllAt (QAt M) ys ((R.take i).map (QL (QD R.length L.length)))) J (so al) AllAt.nil ?_ ?_
 ·rintro i v ys M hv hi ah S hY hW;obtain ⟨r,hr,y,rfl,dy,gs,Y,hg⟩:=hR.2 i v hv;have Y:=S _ _ Y;have an:i<100:=by rw [hR.1] at hi;lia
  refine yZ (qG ?_);refine (j8 Y (T.clR) (T.zn) (hg.2.2.1) (j8 Y (T.clR) (T.zg) (hg.2.2.2.2.2) (⟨rfl,jB rfl (?_)⟩)));have Z:∀z:Int,z=(QL (QD R.length L.length) r).2->∀G,M G=none->∃O,upd M G (.tup [.int r.crest,.int z]) wl=some (.lst O)/\O.length<sizeLine/\JK H wl [some (.ref x)] (fun i ys M=>AllAt (QAt M) ys ((R.take i).map (QL (QD R.length L.length)))) (i+1) [some (.ref y),some (.ref x)] (upd (upd M G (.tup [.int r.crest,.int z])) wl (.lst (O++[.ref G]))):=by
   intro z hz G I;have u:=jK I (.tup [V.int r.crest,V.int z]);exact JP (R:=fun i ys M=>AllAt (QAt M) ys ((R.take i).map (QL (QD R.length L.length)))) (c:=some (.ref y)) (caps:=[some (.ref x)]) (v:=.ref G) J S hY ah (by lia) u (by
    rw [aK,hr,aJ];exact ((hW.mono (QAt.same u)).snoc (v:=.ref G) (x:=QL (QD R.length L.length) r) ⟨G,rfl,by rw [<- hz];exact jF⟩).mono (QAt.put (u _ _ hY)))
  by_cases ht:r.target = -1
  ·refine kX (bf V.int ht) (⟨x,dx,jB rfl (⟨(S _ _ hx),hf.no (by trivial) (by trivial) (by trivial),qO x D R L N (kB rfl (am.same S) zz2 (fun G I=>?_))⟩)⟩);exact Z _ (by unfold QL;rw [if_pos ht]) G I
  ·refine j9 (fun z=>ht (V.int.inj z)) (j8 Y (T.clR) (T.zg) (hg.2.2.2.2.2) (⟨zz2,fun G I=>?_⟩));exact Z _ (by unfold QL;rw [if_neg ht]) G I
 rintro ys Hf S hY ah hW;rw [hR.1,aW] at hW;exact q wl ys Hf S J hY hW
theorem PD:jV 3 ["self","waters","k"] sK:=jU
include T in
theorem MF (F:Fun K "full" "Canal.full" sK f fd) (zh:MeD P w K mg base 1 cN "chamber" ["self","k"] (dR (jG cP cB cU) cR cN QO)):FnOk P w K mg base jT 2 f fd ["self","waters","k"] (oR (jG cP cB cU) cR cN):=by
 refine F.ok2 PD fun vs H Q E h=>?_
 refine ZA h fun x wa D R L N ms k h=>?_
 refine cJ h fun e_ M I hk q=>?_
 subst e_;refine ⟨rfl,fun _ _ _ _ hr=>?_⟩;refine ⟨_,(jN (zC pG (jH (jM K) (jA 1) (cG zh hr (jA 0) (jC (jA 2) jE))) jD)),?_⟩
 try dsimp only [jY,jX]
 have G:=M;obtain ⟨Z,rl,ll,nl,fs,rs,ls,ns,O,hf,ah,S,Y,hR,hL,hN,d1,d2,d3⟩:=M;have J:vM (ms.map V.int) (QO R.length L.length (k:Int))=some (.int (ms.getD (R.length+k) 0)):=by
  rw [show QO R.length L.length (k:Int)=((R.length+k:Nat):Int) by unfold QO;lia];exact yT hk
 exact (⟨x,Z,jB rfl (⟨O,hf.no (by trivial) (by trivial) (by trivial),(qO x D R L N (jB rfl (⟨G,jJ (SqT.of I) J (kD (q))⟩)))⟩)⟩)
theorem wF:jV 1 ["self","waters","others"] lW:=jU
include T in
theorem ML (F:Fun K "start" "Canal.start" lW f fd) (a4:MeD P w K mg base 3 cN "many" ["self"] (bF (jG cP cB cU) cR cN pH)) (a9:Def P w K mg base 4 "settled" ["weirs","waters"] [] (EB K)) (xp:MeD P w K mg base 2 cN "weirs" ["self"] (iD (jG cP cB cU) cR cN)):FnOk P w K mg base jT 5 f fd ["self"] (x6 (jG cP cB cU) cR cN):=by
 refine F.ok2 wF fun vs H Q E h=>?_
 refine ZB h fun x D R L N h=>?_
 refine JZ h fun e_ hc O a6 hT q=>?_
 subst e_;refine ⟨rfl,fun _ _ _ _ S=>?_⟩;refine tk fun x0=>?_
 let u0:=ru x0 [1] (jI (jW 2 wF.nd (jL IW (qA (jC jD jE)) (jL zA (kW a4 S (jA 0)) (qR K T.xk (jA 1)))))
   (jN (jR a9 S rfl (jC (kW xp S (jA 0)) (jC (jL bW (jA 1) (jA 2)) jE)))))
 refine ⟨_,(jI (bO (i:=1) ["reach"] (vZ 1 []) wF.nd rfl (.inl rfl) rfl (v9 (kK lW)) (cps 1 []) (yE (j6 K (jA 0) rfl)) (fun _ _ _ _ _=>(kT (i:=0) (show List.Nodup (["reach"]:List Str) from by trivial) rfl (.inl rfl))) (fun _ _ _ _ _=>zN) (fun _ _ _ _ _=>(j6 K (jA 0) rfl)))
   u0.h),?_⟩
 try dsimp only [jY,jX]
 have ah:=hc;obtain ⟨dx,rl,ll,nl,fs,rs,ls,ns,hx,hf,a0,b0,bv,hR,hL,hN,d1,d2,d3⟩:=hc;refine (j8 hx (T.clN) (T.xf) (hf.1) (⟨rl,rfl,⟨_,so a0⟩,fun wl J=>?_⟩));refine bM (K:=K) (a:=rl) (xs:=rs) (caps:=[]) (fun i ys Hi=>ys=((R.take i).map (·.water)).map V.int) J (so a0) rfl ?_ ?_
 ·rintro i v ys Hi hv hi an sm hY rfl;obtain ⟨r,S,y,rfl,dy,gs,hy,hg⟩:=hR.2 i v hv;have hy:=sm _ _ hy;have a7:i<100:=by rw [hR.1] at hi;lia
  refine yZ (qG (j8 hy (T.clR) (T.zu) (hg.2.2.2.2.1) (JP J sm hY an (by lia) (Same.refl _) ?_)));rw [aK,S,aJ,aJ];rfl
 rintro ys H1 s1 Z an rfl;rw [hR.1,aW] at Z;refine ⟨zz1,fun lp br=>?_⟩;have s2:=jK br (.lst [V.int 0]);have Y:=s1.trans s2;refine (⟨x,dx,jB rfl (⟨(Y _ _ hx),hf.no (by trivial) (by trivial) (by trivial),qO x D R L N (kN rfl (ah.same Y) (⟨wl,jB rfl (⟨.inl (so (s2 _ _ Z)),_,_,rfl,rfl,?_⟩)⟩))⟩)⟩);have e1:pH R.length L.length - ((((R.map (·.water)).map V.int).length:Nat):Int)=((2*L.length+2:Nat):Int):=by
  rw [ae,ae];unfold pH;lia
 try dsimp only
 rw [e1];refine jQ lp _ _ (vD rfl rfl jF (by lia) (by lia) ?_ (fun gp a5=>?_))
 ·rw [ay,aE,Nat.one_mul];exact small (by lia)
 rw [ay,FQ];have s3:=jK a5 (.lst ((List.replicate (2*L.length+2) (0:Int)).map V.int));have G:=Y.trans s3;have I:upd (upd H1 lp (.lst [V.int 0])) gp (.lst ((List.replicate (2*L.length+2) (0:Int)).map V.int)) gp=_:=jF;have M:=s3 _ _ (s2 _ _ Z);generalize upd (upd H1 lp (.lst [V.int 0])) gp (.lst ((List.replicate (2*L.length+2) (0:Int)).map V.int))=H3 at s3 G I M ⊢;refine (⟨x,dx,jB rfl (⟨(G _ _ hx),hf.no (by trivial) (by trivial) (by trivial),qO x D R L N (kB rfl (ah.same G) O (fun wq ws H4 s4 bt bl hW=>?_))⟩)⟩);refine (j0 wl gp _ _ (j5 rfl rfl (s4 _ _ M) (s4 _ _ I) ?_ (fun al be=>?_)))
 ·rw [ae,ae,ae,cb];exact small (by lia)
 have e2:(R.map (·.water)).map V.int++(List.replicate (2*L.length+2) (0:Int)).map V.int=(v8 R L.length).map V.int:=by unfold v8;rw [aJ]
 rw [e2];have s5:=jK be (.lst ((v8 R L.length).map V.int));have am:=(G.trans s4).trans s5;refine qO wq al ws (kR R L.length) (v8 R L.length) ⟨rfl,⟨so (s5 _ _ bl),E7 hT (hW.mono (QAt.same s5)),.inl (so jF),mS hT,by rw [zG,QW];lia,by rw [QW];lia⟩,fun r H' gs s' a8 S a3=>?_⟩;exact q r H' gs (am.trans s') (am.free a8) S a3
theorem P7:jV 2 ["lock","basin"] mB:=jU
include T in
theorem NM (F:kG K "filling" mB f fd) (va:MeK P w K mg base 2 (jG cP cB cU) "fill_parts" ["self","basin"] (QH (jG cP cB cU) QC)):FnOk P w K mg base jT 3 f fd ["lock","basin"] (iE (jG cP cB cU) qX):=by
 refine F.ok2 P7 fun vs H Q E h=>?_
 refine ZA h fun x kd n M l room v b h=>?_
 refine vU h fun e_ Z q=>?_
 subst e_;obtain ⟨dx,hx⟩:=Z;refine ⟨rfl,fun _ _ _ _ hr=>?_⟩;refine ⟨_,(jN (QY ["giver","amount"] (vZ 2 []) rfl (v9 (kK mB)) (cps 2 []) (yE (KS va hr (jA 0) (jC (jA 1) jE))) (fun _ _ _ _ _=>(QK (n:=2) K rfl (qZ (kT (i:=0) (show List.Nodup (["giver","amount"]:List Str) from by trivial) rfl (.inl rfl)) (qZ (kT (i:=1) (show List.Nodup (["giver","amount"]:List Str) from by trivial) rfl (.inl rfl)) JH)))) (fun _ _ _ _ _=>zN) (fun _ _ _ _ _=>(qC (kH (jA 0) jP (jA 1)))))),?_⟩
 try dsimp only [jY,jX]
 refine (jQ kd x dx (jB rfl (⟨hx,X9 kd _ _ _ _ _,(jQ x n M (j0 l room v b (kN rfl ⟨dx,hx⟩ (fun pl H1 rs s1 an I hP=>?_))))⟩)));have am:=ET kd room v b;refine ⟨pl,rfl,⟨_,so I⟩,fun D hD=>?_⟩;have u0:=jK hD (.lst []);refine cZ (K:=K) (a:=pl) (xs:=rs) (fun i S G=>∃(c1 c2:Option V) (ys:List V),S=[c1,c2]/\G D=some (.lst ys)/\PoursS G ys ((QC kd room v b).take i |>.map (fun p=>(p.1,"chamber",p.2)))/\Same H1 G)
  (jQ none none ([]) (kB rfl jF PoursS.nil u0)) (fun i S G _ ⟨_,_,_,_,_,_,s⟩=>so (s _ _ I)) ?_ ?_
 ·rintro i y S G hy ⟨c1,c2,ys,rfl,Y,J,O⟩;have hi:i<rs.length:=(ad.mp hy).1;obtain ⟨t,sN,nN,rfl,al,hT⟩:=hP.2 i y hy;have hl:ys.length<=i:=by rw [J.1,ae];exact gy _ _
  refine ⟨t,jB rfl (⟨SqT.of (O _ _ hT),rfl,_,jB rfl (⟨_,_,rfl,rfl,?_⟩)⟩)⟩;refine yZ (qG ?_);refine (⟨zz3,fun tp ah=>?_⟩);have v1:∀o,Same G (upd G tp o):=fun o=>jK ah o
  refine ⟨ys,⟨v1 _ _ _ Y,vN (by rw [hP.1] at hi;lia),(jQ _ _ (ys++[.ref tp]) (kB rfl jF ?_ (qY hD (O.trans (v1 _)))))⟩⟩;rw [C6 al];exact PoursS.keep ((Keep.refl D _).upd _) (v1 _ _ _ Y) ((J.same (v1 _)).append (PoursS.one jF))
 ·rintro S G ⟨c1,c2,ys,rfl,Y,J,O⟩;rw [hP.1,aW] at J;exact q D G ys (s1.trans O) (s1.free hD) Y J
theorem RF:jV 2 ["lock","basin"] mD:=jU
include T in
theorem NU (F:kG K "letting" mD f fd) (vf:MeK P w K mg base 2 (jG cP cB cU) "let_parts" ["self","basin"] (QH (jG cP cB cU) zZ)):FnOk P w K mg base jT 3 f fd ["lock","basin"] (iE (jG cP cB cU) qN):=by
 refine F.ok2 RF fun vs H Q E h=>?_
 refine ZA h fun x kd n M l room v b h=>?_
 refine vU h fun e_ Z q=>?_
 subst e_;obtain ⟨dx,hx⟩:=Z;refine ⟨rfl,fun _ _ _ _ hr=>?_⟩;refine ⟨_,(jN (QY ["taker","amount"] (vZ 2 []) rfl (v9 (kK mD)) (cps 2 []) (yE (KS vf hr (jA 0) (jC (jA 1) jE))) (fun _ _ _ _ _=>(QK (n:=2) K rfl (qZ (kT (i:=0) (show List.Nodup (["taker","amount"]:List Str) from by trivial) rfl (.inl rfl)) (qZ (kT (i:=1) (show List.Nodup (["taker","amount"]:List Str) from by trivial) rfl (.inl rfl)) JH)))) (fun _ _ _ _ _=>zN) (fun _ _ _ _ _=>(qC (kH jP (jA 0) (jA 1)))))),?_⟩
 try dsimp only [jY,jX]
 refine (jQ kd x dx (jB rfl (⟨hx,jAl kd _ _ _ _ _,(jQ x n M (j0 l room v b (kN rfl ⟨dx,hx⟩ (fun pl H1 rs s1 an I hP=>?_))))⟩)));have am:=GC kd room v b;refine ⟨pl,rfl,⟨_,so I⟩,fun D hD=>?_⟩;have u0:=jK hD (.lst []);refine cZ (K:=K) (a:=pl) (xs:=rs) (fun i S G=>∃(c1 c2:Option V) (ys:List V),S=[c1,c2]/\G D=some (.lst ys)/\PoursS G ys ((zZ kd room v b).take i |>.map (fun p=>("chamber",p.1,p.2)))/\Same H1 G)
  (jQ none none ([]) (kB rfl jF PoursS.nil u0)) (fun i S G _ ⟨_,_,_,_,_,_,s⟩=>so (s _ _ I)) ?_ ?_
 ·rintro i y S G hy ⟨c1,c2,ys,rfl,Y,J,O⟩;have hi:i<rs.length:=(ad.mp hy).1;obtain ⟨t,sN,nN,rfl,al,hT⟩:=hP.2 i y hy;have hl:ys.length<=i:=by rw [J.1,ae];exact gy _ _
  refine ⟨t,jB rfl (⟨SqT.of (O _ _ hT),rfl,_,jB rfl (⟨_,_,rfl,rfl,?_⟩)⟩)⟩;refine yZ (qG ?_);refine (⟨zz3,fun tp ah=>?_⟩);have v1:∀o,Same G (upd G tp o):=fun o=>jK ah o
  refine ⟨ys,⟨v1 _ _ _ Y,vN (by rw [hP.1] at hi;lia),(jQ _ _ (ys++[.ref tp]) (kB rfl jF ?_ (qY hD (O.trans (v1 _)))))⟩⟩;rw [C6 al];exact PoursS.keep ((Keep.refl D _).upd _) (v1 _ _ _ Y) ((J.same (v1 _)).append (PoursS.one jF))
 ·rintro S G ⟨c1,c2,ys,rfl,Y,J,O⟩;rw [hP.1,aW] at J;exact q D G ys (s1.trans O) (s1.free hD) Y J
theorem P8:jV 2 ["vessel","pours"] mC:=jU
include T in
theorem NN (F:kG K "given_by" mC f fd) : FnOk P w K mg base jT 1 f fd ["vessel","pours"] (HA):=by
 refine F.ok2 P8 fun vs H Q E h=>?_
 refine cI h fun G p rs qs h=>?_
 refine cJ h fun e_ hP hA hn q=>?_
 subst e_;refine ⟨rfl,fun _ _ _ _ hr=>?_⟩;refine ⟨_,(jN (yX (xU rfl) (by rfl) T.wp gq (jC (QY ["source","target","amount","vessel"] (vZ 3 [0]) rfl (v9 (kK mC)) (cps 3 [0]) (yE (jA 1)) (fun _ _ _ _ _=>(QK (n:=3) K rfl (qZ (kT (i:=0) (show List.Nodup (["source","target","amount","vessel"]:List Str) from by trivial) rfl (.inl rfl)) (qZ (kT (i:=1) (show List.Nodup (["source","target","amount","vessel"]:List Str) from by trivial) rfl (.inl rfl)) (qZ (kT (i:=2) (show List.Nodup (["source","target","amount","vessel"]:List Str) from by trivial) rfl (.inl rfl)) JH))))) (fun _ _ _ _ _=>(fQ (kA kM (jA 0) (jA 3)))) (fun _ _ _ _ _=>(jA 2))) jE))),?_⟩
 try dsimp only [jY,jX]
 refine (⟨p,rfl,⟨_,so hP⟩,fun D hD=>?_⟩);have u0:=jK hD (.lst []);refine cZ (K:=K) (a:=p) (xs:=rs) (fun i S J=>∃(c1 Y Z:Option V),S=[c1,Y,Z,some (.str G)]/\J D=some (.lst ((kZ (v7 G) (qs.take i)).map V.int))/\Same H J)
  (jQ none none none (kN rfl jF u0)) (fun i S J _ ⟨_,_,_,_,_,s⟩=>so (s _ _ hP)) ?_ ?_
 ·rintro i y S J hy ⟨c1,Y,Z,rfl,O,M⟩;have hi:i<rs.length:=(ad.mp hy).1;obtain ⟨t,sS,sT,nN,rfl,hq,hT⟩:=hA.2 i y hy;have I:=DT (v7 G) qs i _ hq;have ah:=E3 (v7 G) qs i;refine ⟨t,jB rfl (⟨SqT.of (M _ _ hT),rfl,_,jB rfl (⟨_,jB rfl (⟨_,_,rfl,rfl,?_⟩)⟩)⟩)⟩;refine (⟨rfl,jB rfl (?_)⟩);rw [GO]
  by_cases c:(v7 G) (sS,sT,nN)=true
  ·rw [if_pos c] at I
   have c':=bc c;refine kX c' (⟨_,O,vN (by rw [ae];lia),_,_,jB rfl (⟨?_,qY hD M⟩)⟩);rw [jF,I,aJ];rfl
  ·rw [if_neg c,cq] at I
   have c':¬_:=gl (fg.mpr c);refine j9 c' ⟨_,_,jB rfl (⟨?_,M⟩)⟩;rw [O,I]
 ·rintro S J ⟨c1,Y,Z,rfl,O,M⟩;rw [hA.1,aW] at O;exact ⟨D,jB rfl (⟨so O,q J M⟩)⟩
theorem CW:jV 2 ["basin","pours","got"] l7:=jU
include T in
theorem NE (F:kG K "basin_after" l7 f fd) (Y:Def P w K mg base 1 "given_by" ["vessel","pours"] [] (HA)):FnOk P w K mg base jT 2 f fd ["basin","pours"] (HG):=by
 refine F.ok2 CW fun vs H Q E h=>?_
 refine cI h fun b p rs qs h=>?_
 refine cJ h fun e_ hP Z hn q=>?_
 subst e_;refine ⟨rfl,fun _ _ _ _ hr=>?_⟩;refine ⟨_,(jI (jW 2 CW.nd (yX (xU rfl) (by rfl) T.wp gq (jC (QY ["source","target","amount"] (vZ 3 []) rfl (v9 (kK l7)) (cps 3 []) (yE (jA 1)) (fun _ _ _ _ _=>(QK (n:=3) K rfl (qZ (kT (i:=0) (show List.Nodup (["source","target","amount"]:List Str) from by trivial) rfl (.inl rfl)) (qZ (kT (i:=1) (show List.Nodup (["source","target","amount"]:List Str) from by trivial) rfl (.inl rfl)) (qZ (kT (i:=2) (show List.Nodup (["source","target","amount"]:List Str) from by trivial) rfl (.inl rfl)) JH))))) (fun _ _ _ _ _=>(fQ (kA kM (jA 1) jP))) (fun _ _ _ _ _=>(jA 2))) jE)))
   (jN (jL zA (jL kS (jA 0) (jA 2)) (jR Y hr rfl (jC jP (jC (jA 1) jE)))))),?_⟩
 try dsimp only [jY,jX]
 refine (⟨p,rfl,⟨_,so hP⟩,fun D hD=>?_⟩);have u0:=jK hD (.lst []);refine cZ (K:=K) (a:=p) (xs:=rs) (fun i O M=>∃(c1 S c3:Option V),O=[c1,S,c3]/\M D=some (.lst ((kZ (toS "basin") (qs.take i)).map V.int))/\Same H M)
  (jQ none none none (kN rfl jF u0)) (fun i O M _ ⟨_,_,_,_,_,s⟩=>so (s _ _ hP)) ?_ ?_
 ·rintro i y O M hy ⟨c1,S,c3,rfl,J,I⟩;have hi:i<rs.length:=(ad.mp hy).1;obtain ⟨t,sS,sT,nN,rfl,hq,hT⟩:=Z.2 i y hy;have G:=DT (toS "basin") qs i _ hq;have ah:=E3 (toS "basin") qs i;refine ⟨t,jB rfl (⟨SqT.of (I _ _ hT),rfl,_,jB rfl (⟨_,jB rfl (⟨_,_,rfl,rfl,?_⟩)⟩)⟩)⟩;refine ⟨rfl,jB rfl (?_)⟩;rw [GO]
  by_cases c:(toS "basin") (sS,sT,nN)=true
  ·rw [if_pos c] at G
   have c':=bc c;refine kX c' (⟨_,J,vN (by rw [ae];lia),_,_,jB rfl (⟨?_,qY hD I⟩)⟩);rw [jF,G,aJ];rfl
  ·rw [if_neg c,cq] at G
   have c':¬_:=gl (fg.mpr c);refine j9 c' ⟨_,_,jB rfl (⟨?_,I⟩)⟩;rw [J,G]
 ·rintro O M ⟨c1,S,c3,rfl,J,I⟩;rw [Z.1,aW] at J;refine ⟨D,jB rfl (⟨so J,?_⟩)⟩;refine (kD (⟨"basin",jQ p rs qs (jO rfl (I _ _ hP) (Z.same I) hn (fun H' s2=>⟨_,_,rfl,rfl,q H' (I.trans s2)⟩))⟩))
theorem wK:jV 4 ["lock","full","basin","way","made_ready"] uJ:=jU
include T in
theorem N5 (F:kG K "passage" uJ f fd) (wc:Def P w K mg base 3 "letting" ["lock","basin"] [] (iE (jG cP cB cU) qN)) (al:Def P w K mg base 3 "filling" ["lock","basin"] [] (iE (jG cP cB cU) qX)) (we:Def P w K mg base 2 "basin_after" ["basin","pours"] [] (HG)):FnOk P w K mg base jT 4 f fd ["lock","full","basin","way"] (EE (jG cP cB cU)):=by
 refine F.ok2 wK fun vs H Q E h=>?_
 obtain ⟨x,kd,n,O,l,room,v,b,f,w,rfl,hx,q⟩:=h;refine ⟨rfl,fun _ _ _ _ hr=>?_⟩;refine tk fun x0=>?_
 let u0:=ru x0 [0,0,0] (jI (jW 4 wK.nd (JR (vQ (jA 1)) (jR wc hr rfl (jC (jA 0) (jC (jA 2) jE))) (qA jE)))
   (jN (jL bW (jA 4) (jR al hr rfl (jC (jA 0) (jC (jR we hr rfl (jC (jA 2) (jC (jA 4) jE))) jE))))))
 let u1:=ru x0 [1] (jI (jW 4 wK.nd (JR (vQ (jA 1)) (qA jE) (jR al hr rfl (jC (jA 0) (jC (jA 2) jE)))))
   (jN (jL bW (jA 4) (jR wc hr rfl (jC (jA 0) (jC (jR we hr rfl (jC (jA 2) (jC (jA 4) jE))) jE))))))
 refine ⟨_,(jI (kE (kA kM (jA 3) jP) u0.h kI)
   u1.h),?_⟩
 try dsimp only [jY,jX]
 cases w with
 |true =>
  refine ⟨rfl,jB rfl (kX rfl ?_)⟩;cases f with
  |true =>
   refine (jB rfl (qG (j0 x kd n O (j0 l room v b (kN rfl hx (fun m H1 rs V Z Y hA=>?_))))));have hl:=dE kd room v b;have am:=iB kd room v (qT b (qN kd room v b));refine (jQ b m rs (jB rfl (kB Y hA (by rw [hA.1];lia) (fun H2 M=>?_))));refine kL x kd n O l room v (jB rfl (⟨(hx.same V).same M,fun z H3 G S ah hz J=>?_⟩));refine j0 m z _ _ (j5 rfl rfl (S _ _ (M _ _ Y)) hz (small (by rw [hA.1,J.1];lia)) (fun y I=>?_));have s4:=jK I (.lst (rs++G));exact q y _ (rs++G) (((V.trans M).trans S).trans s4) (((V.trans M).trans S).free I) jF ((((hA.same M).same S).append J).same s4)
  |false =>
   refine (jB rfl (qK ⟨zz0,fun m Z=>?_⟩));have V:=jK Z (.lst []);have Y:upd H m (.lst []) m=some (.lst []):=jF;generalize upd H m (.lst [])=H1 at V Y ⊢;refine (j0 b m ([]) ([]) (jO rfl Y PoursS.nil (by decide) (fun H2 M=>?_)));rw [DU];refine j0 x kd n O (j0 l room v b (kN rfl ((hx.same V).same M) (fun z H3 G S ah hz J=>?_)));refine j0 m z _ _ (j5 rfl rfl (S _ _ (M _ _ Y)) hz (small (by rw [J.1];have:=iB kd room v b;have:=dE kd room v b;show 0+_<=1000;lia)) (fun y I=>?_));have s4:=jK I (.lst ([]++G));exact q y _ G (((V.trans M).trans S).trans s4) (((V.trans M).trans S).free I) jF (J.same s4)
 |false =>
  refine ⟨rfl,jB rfl (j9 jAp ?_)⟩;cases f with
  |false =>
   refine (jB rfl (qK (j0 x kd n O (j0 l room v b (kN rfl hx (fun m H1 rs V Z Y hA=>?_))))));have hl:=iB kd room v b;have am:=dE kd room v (qT b (qX kd room v b));refine (jQ b m rs (jB rfl (kB Y hA (by rw [hA.1];lia) (fun H2 M=>?_))));refine kL x kd n O l room v (jB rfl (⟨(hx.same V).same M,fun z H3 G S ah hz J=>?_⟩));refine j0 m z _ _ (j5 rfl rfl (S _ _ (M _ _ Y)) hz (small (by rw [hA.1,J.1];lia)) (fun y I=>?_));have s4:=jK I (.lst (rs++G));exact q y _ (rs++G) (((V.trans M).trans S).trans s4) (((V.trans M).trans S).free I) jF ((((hA.same M).same S).append J).same s4)
  |true =>
   refine (jB rfl (qG ⟨zz0,fun m Z=>?_⟩));have V:=jK Z (.lst []);have Y:upd H m (.lst []) m=some (.lst []):=jF;generalize upd H m (.lst [])=H1 at V Y ⊢;refine (j0 b m ([]) ([]) (jO rfl Y PoursS.nil (by decide) (fun H2 M=>?_)));rw [DU];refine j0 x kd n O (j0 l room v b (kN rfl ((hx.same V).same M) (fun z H3 G S ah hz J=>?_)));refine j0 m z _ _ (j5 rfl rfl (S _ _ (M _ _ Y)) hz (small (by rw [J.1];have:=iB kd room v b;have:=dE kd room v b;show 0+_<=1000;lia)) (fun y I=>?_));have s4:=jK I (.lst ([]++G));exact q y _ G (((V.trans M).trans S).trans s4) (((V.trans M).trans S).free I) jF (J.same s4)
theorem RP:jV 2 ["lock","side"] uW:=jU
include T in
theorem OJ (F:kG K "step_ends" uW f fd) : FnOk P w K mg base jT 1 f fd ["lock","side"] (IQ (jG cP cB cU)):=by
 refine F.ok2 RP fun vs H Q E h=>?_
 refine lG h fun y l b h=>?_
 refine vU h fun O J q=>?_
 subst O;obtain ⟨M,e,S,I⟩:=J;refine ⟨rfl,fun _ _ _ _ V=>?_⟩;refine ⟨_,(jN (JR (kA kM (jA 1) jP) (qC (jC (j6 K (jA 0) rfl) (jC (j6 K (jA 0) rfl) jE))) (qC (jC (j6 K (jA 0) rfl) (jC (j6 K (jA 0) rfl) jE))))),?_⟩
 try dsimp only [jY,jX]
 cases e;refine ⟨rfl,jB rfl (?_)⟩;rw [KG];cases b with
 |true=>exact qG (j8 I (T.cl l.kd) (T.wx l.kd) (dO l.kd _ _ _ _ _) (j8 I (T.cl l.kd) (T.vc l.kd) (dI l.kd _ _ _ _ _) (⟨zz2,fun t G=>q t _ (jK G _) G jF⟩)))
 |false=>exact qK (j8 I (T.cl l.kd) (T.vc l.kd) (dI l.kd _ _ _ _ _) (j8 I (T.cl l.kd) (T.wx l.kd) (dO l.kd _ _ _ _ _) (⟨zz2,fun t G=>q t _ (jK G _) G jF⟩)))
theorem gS:jV 3 ["canal","start","steps","along","k","side","ends"] uD:=jU
include T in
theorem NV (F:kG K "linked" uD f fd) (be:Def P w K mg base 1 "step_ends" ["lock","side"] [] (IQ (jG cP cB cU))):FnOk P w K mg base (kO P w) 2 f fd ["canal","start","steps"] (x9 K (jG cP cB cU) cR cN eL):=by
 refine F.okX2 gS fun vs H Q E h=>?_
 refine JY h fun x st G us ps D R L N h=>?_
 refine gF h fun e_ a6 a3 hP a8 bl qv qe=>?_
 subst e_;obtain ⟨dx,rl,ll,nl,fs,rs,ls,ns,hx,hf,bv,a7,bt,hR,hL,hN,d1,d2,d3⟩:=a6;refine ⟨rfl,fun _ _ _ _ hr=>?_⟩;refine tk fun x0=>?_
 let u0:=ru x0 [1,0,1] (jI (kE (kA JU (jH (jM K) (jA 6) jD) (jH (kQ K) (jA 3) (iW iO jD))) (kU (ZI ZG rfl rfl T.ux T.uz (jC jP jE))) kI)
   (kU (yH (zR aQ aY aZ J7 (jA 3) (jC (jH (jM K) (jA 6) jD) jE)))))
 let u1:=ru x0 [1,0,0] (jI (jW 6 gS.nd (jR be hr rfl (jC (jH (kQ K) (j6 K (jA 0) rfl) (jA 4)) (jC (jA 5) jE))))
   u0.h)
 let u2:=ru x0 [1] (jI (yU iT rfl (BC (jA 2)) (o6 rfl (qZ (kT (i:=4) gS.nd rfl (.inl rfl)) (qZ (kT (i:=5) gS.nd rfl (.inl rfl)) JH)))
    u1.h)
   (jN (jA 3)))
 refine ⟨_,(jI (jW 3 gS.nd (qA (jC (jA 1) jE)))
   u2.h),?_⟩
 try dsimp only [jY,jX]
 refine (⟨zz1,fun al J=>?_⟩);have s1:=jK J (.lst [V.int G]);refine ⟨st,rfl,⟨_,SqT.of (s1 _ _ a3)⟩,X8 (K:=K) (a:=st) (xs:=us) (fun i σ Hi=>∃c4 c5 c6:Option V,σ=[some (.ref x),some (.int G),some (.ref st),some (.ref al),c4,c5,c6]/\Hi al=some (.lst ((vC L G (ps.take i)).map V.int))/\(∀(j:Nat) (p:Nat×Bool),j<i->ps[j]?=some p->(vC L G ps)[j]?=some (yO L p).1)/\Same H Hi)
  (jQ none none none (kB rfl jF (fun j p hj=>absurd hj (gc j)) s1)) (fun i σ Hi _ ⟨_,_,_,_,_,_,s⟩=>SqT.of (s _ _ a3)) ?_ ?_⟩
 ·rintro i v σ Hi hv ⟨c4,c5,c6,rfl,M,an,Y⟩;obtain ⟨⟨pk,pb⟩,S,t,rfl,ht⟩:=hP.2 i v hv;have a9:pk<L.length:=a8 _ (ag S);have hi:i<ps.length:=(ad.mp S).1;obtain ⟨l,am⟩:∃l,L[pk]?=some l:=⟨_,aa a9⟩;obtain ⟨w,hw,y,rfl,dl,hl⟩:=hL.get am;have a4:(vC L G (ps.take i)).length=i+1:=by rw [iH,bd];lia
  obtain ⟨z,hz⟩:∃z,(vC L G (ps.take i))[i]?=some z:=⟨_,aa (by lia)⟩;have ah:vM ((vC L G (ps.take i)).map V.int) (-1)=some (.int z):=atI_last (n:=i) (by rw [ae,a4]) (by rw [ap,hz];rfl);refine ⟨t,jB rfl (⟨SqT.of (Y _ _ ht),rfl,_,jB rfl (⟨_,_,rfl,rfl,?_⟩)⟩)⟩;refine (j8 (Y _ _ hx) (T.clN) (T.xg) (hf.2.1) (k7 (so (Y _ _ a7)) (qF hw) (jQ y l pb (kN rfl ⟨y,rfl,dl,Y _ _ hl⟩ (fun te He se br a5=>?_)))));have a0:=Y.trans se;have I:=se _ _ M;have ee:yO L (pk,pb)=(if pb then l.low else l.high,if pb then l.high else l.low):=by cases pb;exact Z2 am;exact Z5 am
  have O:(vC L G ps)[i]?=some z:=by rw [YB (by lia)];exact hz
  refine (jJ (SqT.of a5) rfl (jB rfl (k7 (so I) ah (⟨rfl,jB rfl (?_)⟩))))
  by_cases h:(if pb then l.low else l.high)=z
  ·refine JV (bf V.int h) ?_;refine (⟨.inl ⟨rfl,_,so I⟩,(jJ (SqT.of a5) rfl (jQ al _ _ (jO rfl rfl I (vN (by rw [ae,a4];lia)) ?_)))⟩);refine ⟨_,_,jB rfl (⟨?_,fun j p hj Z=>?_,qY J a0⟩)⟩
   ·rw [jF,aK,S];show _=some (HO.lst ((vC L G (ps.take i++[(pk,pb)])).map V.int));rw [xS,aJ,ee];rfl
   ·by_cases c:j=i
    ·subst c;rw [S] at Z;cases Z;rw [O,ee,h]
    ·exact an j p (by lia) Z
  ·refine bC (fun e=>h (V.int.inj e)) ⟨by show 1<=sizeLine;decide,qe (fun ok=>h ?_) _ a0⟩;have:=ok i _ S;rw [O,ee] at this;exact (aA this).symm
 rintro σ Hi ⟨c4,c5,c6,rfl,M,an,Y⟩;rw [hP.1,aW] at M;exact (qv (fun j p S=>an j p (by rw [hP.1];exact (ad.mp S).1) S) al Hi Y J M)
theorem RQ:jV 2 ["way","place"] uX:=jU
include T in
theorem OK (F:kG K "steps_to_do" uX f fd) : FnOk P w K mg base jT 1 f fd ["way","place"] (IN):=by
 refine F.ok2 RQ fun vs H Q E h=>?_
 refine lG h fun t y p h=>?_
 refine vU h fun S G q=>?_
 subst S;obtain ⟨I,J,Z,e,V,M,O⟩:=G;refine ⟨rfl,fun _ _ _ _ Y=>?_⟩;refine ⟨_,(jN (jL zA (qR K T.xk (jH (jM K) (jA 0) jD)) (jA 1))),?_⟩
 try dsimp only [jY,jX]
 cases e;refine (jJ (SqT.of V) rfl (⟨J,jB rfl (⟨.inr (SqT.of M),(kD (?_))⟩)⟩));rw [O.1];exact q
theorem RL:jV 3 ["canal","way","place"] uO:=jU
include T in
theorem OA (F:kG K "reach_of" uO f fd) (M:Def P w K mg base 1 "steps_to_do" ["way","place"] [] (IN)) (O:Def P w K mg base 2 "linked" ["canal","start","steps"] [] (xM K (jG cP cB cU) cR cN)):FnOk P w K mg base jT 3 f fd ["canal","way","place"] (xK (jG cP cB cU) cR cN):=by
 refine F.ok2 RL fun vs H Q E h=>?_
 refine ZA h fun x t y p D R L N h=>?_
 refine JZ h fun e_ hc G J hp q=>?_
 subst e_;refine ⟨rfl,fun _ _ _ _ I=>?_⟩;refine tk fun x0=>?_
 let u0:=ru x0 [1] (jN (jH (kQ K) (jR O I rfl (kH (jA 0) (jH (jM K) (jA 1) jD) (jH (jM K) (jA 1) jD))) (jA 2)))
 refine ⟨_,(jI (kE (kA kM (jR M I rfl (jC (jA 1) (jC (jA 2) jE))) jD) (jN (ZK (v:=.int (-1)) rfl T.xaJ ⟨_,rfl⟩)) kI)
   u0.h),?_⟩
 try dsimp only [jY,jX]
 obtain ⟨Y,st,us,e,S,h2,h3⟩:=id G;cases e;refine (⟨t,y,jB rfl (⟨G,rfl,jB rfl (?_)⟩)⟩)
 by_cases h:p=y.2.length
 ·refine kX (bf V.int (by lia)) ?_;have:=q H (Same.refl _);rw [show qP L y p = -1 from if_pos h] at this;exact this
 ·refine j9 (fun z=>h (by have:=V.int.inj z;lia)) ?_;have al:=J.le;refine (jJ (SqT.of S) rfl (jJ (SqT.of S) rfl (vP x st y.1 us y.2 D R L N (JD rfl hc h2 h3 J.lt (by lia) J.ok (fun r H' Z ah I=>?_)))));have hl:p<(vC L y.1 y.2).length:=by rw [iH];lia
  refine (k7 (so I) (yT hl) (?_));have:=q H' Z;rw [show qP L y p=(vC L y.1 y.2).getD p 0 from if_neg h] at this;exact this
theorem RG:jV 4 ["canal","ways","state","reach"] mE:=jU
include T in
theorem NW (F:kG K "lying" mE f fd) (vg:Def P w K mg base 3 "reach_of" ["canal","way","place"] [] (xK (jG cP cB cU) cR cN)):FnOk P w K mg base jT 4 f fd ["canal","ways","state","reach"] (GY (jG cP cB cU) cR cN):=by
 refine F.ok2 RG fun vs H Q E h=>?_
 obtain ⟨x,wl,st,r,us,ys,d,ms,pl,D,R,L,N,rfl,hc,am,hA,an,G,q⟩:=h;obtain ⟨wt,pt,a4,a8,Z⟩:=an;refine ⟨rfl,fun _ _ _ _ hr=>?_⟩;refine ⟨_,(jN (zR aQ PySem.F.slot_list_count PySem.F.type_list_count WE (QY ["way","place","canal"] (vZ 2 [0]) rfl (v9 (kK mE)) (cps 2 [0]) (XJ (by rfl) T.jo (jC (jA 1) (jC (jH (jM K) (jA 2) jD) jE))) (fun _ _ _ _ _=>(QK (n:=2) K rfl (qZ (kT (i:=0) (show List.Nodup (["way","place","canal"]:List Str) from by trivial) rfl (.inl rfl)) (qZ (kT (i:=1) (show List.Nodup (["way","place","canal"]:List Str) from by trivial) rfl (.inl rfl)) JH)))) (fun _ _ _ _ _=>zN) (fun _ _ _ _ _=>(jR vg hr rfl (kH (jA 2) (jA 0) (jA 1))))) (jC (jA 3) jE))),?_⟩
 try dsimp only [jY,jX]
 refine (jJ (SqT.of a4) rfl (⟨wl,pt,(kB rfl ⟨_,so am⟩ ⟨_,SqT.of Z⟩ (fun O I=>?_))⟩));refine DF (K:=K) (a1:=wl) (a2:=pt) (xs:=us) (ys:=pl.map fun (p:Nat)=>V.int (p:Int)) (fun i σ Hi=>∃c1 c2:Option V,σ=[c1,c2,some (.ref x)]/\Hi O=some (.lst (((vT L ys pl).take i).map V.int))/\Same H Hi)
  ⟨none,none,rfl,by rw [jF,take_zero];rfl,jK I _⟩ (fun i σ Hi _ ⟨_,_,_,_,s⟩=>⟨so (s _ _ am),SqT.of (s _ _ Z)⟩) (by rw [hA.1,ae,G.len]) ?_ ?_
 ·rintro i v z σ Hi M hv hz ⟨c1,c2,rfl,hY,sm⟩ hT;obtain ⟨y,hy,ah⟩:=hA.2 i v hv;have hi:i<ys.length:=(ad.mp hy).1;obtain ⟨t,a0,a5,rfl,be,bl,a7⟩:=id ah;have Y:i<pl.length:=by rw [G.len];exact hi
  rw [ap,aa Y] at hz;cases hz;have u:=jK hT (.tup [V.ref t,V.int ((pl[i]:Nat):Int)]);have J:=sm.trans u;have S:=WyAt.same J _ _ ah;have hp:=G.le i y pl[i] hy (aa Y);have a3:ys.getD i (0,[])=y:=by rw [ac,hy];rfl
  have a6:pl.getD i 0=pl[i]:=by rw [ac,aa Y];rfl
  have a9:=G.n10;have al:=u _ _ hY;refine ⟨M,jB rfl (⟨SqT.of jF,rfl,_,jB rfl (⟨_,_,rfl,rfl,?_⟩)⟩)⟩;generalize upd Hi M (.tup [V.ref t,V.int ((pl[i]:Nat):Int)])=Hj at u J S al ⊢;refine yZ (qG ?_);refine (j0 x t y (pl[i]) (j0 D R L N (j5 rfl (hc.same J) S (G.ok y (ag hy)) hp (fun H' s'=>?_))));refine ⟨_,s' _ _ al,vN (by rw [ae,bd];unfold vT;rw [ae,bg];lia),_,jB rfl (⟨?_,qY I (J.trans s')⟩)⟩;rw [jF,aK,show (vT L ys pl)[i]?=some (qP L y pl[i]) by unfold vT;rw [ap,cg hi,<- a3,<- a6];rfl,aJ];rfl
 rintro σ Hf ⟨c1,c2,rfl,hY,sm⟩;rw [hA.1,bn (by unfold vT;rw [ae,bg];exact ao _)] at hY;refine ⟨.inl ⟨rfl,_,so hY⟩,(jQ O _ _ (j5 rfl rfl hY rfl (nI _) ?_))⟩;have e:((vT L ys pl).map V.int).countP (fun z=>yW z (.int r))=(vT L ys pl).countP fun z=>decide (z=r):=by rw [countP_map];rfl
 rw [e];exact q Hf sm
theorem P3:jV 2 ["canal","ways"] tT:=jU
include T in
theorem NF (F:kG K "begun" tT f fd) (xz:MeD P w K mg base 5 cN "start" ["self"] (x6 (jG cP cB cU) cR cN)):FnOk P w K mg base jT 6 f fd ["canal","ways"] (HE (jG cP cB cU) cR cN):=by
 refine F.ok2 P3 fun vs H Q E h=>?_
 refine zB h fun x wl us D R L N h=>?_
 refine gF h fun e_ hc al am b1 b2 hT q=>?_
 subst e_;refine ⟨rfl,fun _ _ _ _ hr=>?_⟩;refine ⟨_,(jN (qC (kH jD (kW xz hr (jA 0)) (jL XS (qC (jC jD jE)) (qR K T.xk (jA 1)))))),?_⟩
 try dsimp only [jY,jX]
 have Z:=hc;obtain ⟨dx,rl,ll,nl,fs,rs,ls,nv,hx,hf,a4,a0,a3,hR,hL,hN,d1,d2,d3⟩:=hc;refine (⟨x,dx,jB rfl (⟨hx,hf.no (by trivial) (by trivial) (by trivial),qO x D R L N (j5 rfl Z b1 b2 hT (fun wt H1 gs s1 an Y S=>?_))⟩)⟩);refine ⟨zz1,fun p hp=>?_⟩;have O:=jK hp (.tup [V.int 0]);refine (⟨wl,jB rfl (⟨.inl (so (O _ _ (s1 _ _ al))),?_⟩)⟩);have ah:=s1.trans O;have J:∀(G:Addr) (M:Hp),Same (upd H1 p (.tup [V.int 0])) M->M G=some (.tup (List.replicate us.length (.int 0)))->(3<=sizeLine/\∀t,M t=none->Q (.ref t) (upd M t (.tup [.int 0,.ref wt,.ref G]))):=fun G M s3 I=>⟨by decide,fun t ht=>by
  have s4:=jK ht (.tup [V.int 0,V.ref wt,V.ref G]);exact q t wt G _ gs ((ah.trans s3).trans s4) jF (s4 _ _ (s3 _ _ (O _ _ Y))) S (s4 _ _ I)⟩
 refine jQ p (.int 0) us.length (j5 rfl rfl jF (by lia) (fun h1=>?_) (fun h1 G I=>?_))
 ·exact J p _ (Same.refl _) (by rw [h1];exact jF)
 ·exact J G _ (jK I _) jF
theorem gT:jV 3 ["canal","state","weather","waters","sky","sun","rain"] eR:=jU
include T in
theorem NY (F:kG K "night_pours" eR f fd) (zc:MeD P w K mg base 2 cN "sky" ["self"] (bF (jG cP cB cU) cR cN cE)) (zd:Def P w K mg base 4 "with_spills" ["weirs","waters","pours"] [] (oQ K)) (xp:MeD P w K mg base 2 cN "weirs" ["self"] (iD (jG cP cB cU) cR cN)):FnOk P w K mg base jT 5 f fd ["canal","state","weather"] (FL K (jG cP cB cU) cR cN):=by
 refine F.ok2 gT fun vs H Q E h=>?_
 obtain ⟨x,t,wl,d,ms,ps,us,W,D,R,L,N,rfl,hc,c7,a5,hA,cd,cz,am,bt,co,q⟩:=h;obtain ⟨wt,pt,h1,h2,h3⟩:=c7;refine ⟨rfl,fun _ _ _ _ hr=>?_⟩;refine tk fun x0=>?_
 let u0:=ru x0 [4] (jN (jR zd hr rfl (kH (kW xp hr (jA 0)) (jA 3) (rJ ["pour"] [] (v9 (kK eR)) (yE (jL bW (jA 5) (jA 6))) (fun _ _ _ _ _=>(fQ (kA JU (jH (jM K) (jA 0) jD) jD))) (fun _ _ _ _ _=>(jA 0))))))
 let u1:=ru x0 [3] (jI (bO (i:=6) ["at","pair","sky"] (vZ 2 [4]) gT.nd rfl (.inl rfl) rfl (v9 (kK eR)) (cps 2 [4]) (AB (by rfl) T.xt (jC (jA 2) jE)) (fun _ _ _ _ _=>(QK (n:=2) K rfl (qZ (kT (i:=0) (show List.Nodup (["at","pair","sky"]:List Str) from by trivial) rfl (.inl rfl)) (qZ (kT (i:=1) (show List.Nodup (["at","pair","sky"]:List Str) from by trivial) rfl (.inl rfl)) JH)))) (fun _ _ _ _ _=>zN) (fun _ _ _ _ _=>(qC (kH (jA 2) (jA 0) (jH (jM K) (jA 1) jD)))))
   u0.h)
 let u2:=ru x0 [2] (jI (bO (i:=5) ["at","pair","sky","waters"] (vZ 2 [4,3]) gT.nd rfl (.inl rfl) rfl (v9 (kK eR)) (cps 2 [4,3]) (AB (by rfl) T.xt (jC (jA 2) jE)) (fun _ _ _ _ _=>(QK (n:=2) K rfl (qZ (kT (i:=0) (show List.Nodup (["at","pair","sky","waters"]:List Str) from by trivial) rfl (.inl rfl)) (qZ (kT (i:=1) (show List.Nodup (["at","pair","sky","waters"]:List Str) from by trivial) rfl (.inl rfl)) JH)))) (fun _ _ _ _ _=>zN) (fun _ _ _ _ _=>(qC (kH (jA 0) (jA 2) (yX (xV rfl) (by rfl) T.wr gr (jC (jH (jM K) (jA 1) jD) (jC (jH (jM K) (jA 3) (jA 0)) jE)))))))
   u1.h)
 let u3:=ru x0 [1] (jI (jW 4 gT.nd (kW zc hr (jA 0)))
   u2.h)
 refine ⟨_,(jI (jW 3 gT.nd (jH (jM K) (jA 1) jD))
   u3.h),?_⟩
 try dsimp only [jY,jX]
 have b5:=hc;obtain ⟨dx,rl,ll,nl,fs,rs,ls,nv,hx,hf,dk,dn,df,hR,hL,hN,d1,d2,d3⟩:=hc;obtain ⟨S,ce⟩:∃S,S=R.length+2*L.length+1:=⟨_,rfl⟩;have cC:cE R.length L.length=(S:Int):=by unfold cE;lia
 refine (jJ (SqT.of h1) rfl (?_));refine (⟨x,dx,jB rfl (⟨hx,hf.no (by trivial) (by trivial) (by trivial),qO x D R L N (kN rfl b5 (?_))⟩)⟩);rw [cC];refine (⟨wl,rfl,⟨_,SqT.of a5⟩,fun a8 a3=>?_⟩);refine wV (K:=K) (a:=wl) (xs:=us) (fun i σ I=>∃c1 c2:Option V,σ=[c1,c2,some (.int (S:Int)),some (.ref wt)]/\∃ys:List V,I a8=some (.lst ys)/\PoursH I ys ((cD S ms W R.length).take i) ms.length/\Same H I) ⟨none,none,rfl,[],jF,PoursH.nil _ _,jK a3 _⟩ (fun i σ I _ ⟨_,_,_,_,_,_,s⟩=>SqT.of (s _ _ a5)) ?_ ?_
 ·rintro i v σ I J hv ⟨c1,c2,rfl,ys,hY,hP,sm⟩ hT;have hi:i<us.length:=(ad.mp hv).1;rw [hA.1] at hi;obtain ⟨y,hy,t1,rfl,ah⟩:=hA.2 i v hv;have u:=jK hT (.tup [V.int (i:Int),V.ref t1]);have G:=sm.trans u;have an:=u _ _ hY;refine ⟨J,jB rfl (⟨SqT.of jF,rfl,_,jB rfl (⟨_,_,rfl,rfl,?_⟩)⟩)⟩;generalize upd I J (.tup [V.int (i:Int),V.ref t1])=Hj at u G an ⊢;refine yZ (qG ?_);refine (jJ (SqT.of (G _ _ ah)) rfl (jJ (SqT.of (G _ _ h2)) (yT (by lia)) (⟨_,jB rfl (?_)⟩)))
  try dsimp only
  first|rw [<- AJ hy]|rw [<- VR hy]
  refine ⟨zz3,fun tp bl=>?_⟩;have u2:=jK bl (.tup [V.int (i:Int),V.int (S:Int),V.int (Q6 ms W i)]);have M:=u2 _ _ an;have Z:=hP.1;rw [bd,nZ] at Z;refine ⟨ys,M,vN (by lia),_,jB rfl (⟨ys++[.ref tp],jF,?_,qY a3 (G.trans u2)⟩)⟩;rw [T7 (by lia)];exact (((hP.same u).same u2).snoc jF (by lia) (by lia)).put M
 rintro σ H1 ⟨c1,c2,rfl,Y,c9,a9,s1⟩;rw [hA.1,cd,bn (by rw [nZ];exact ao _)] at a9;refine (⟨wl,rfl,⟨_,SqT.of (s1 _ _ a5)⟩,fun a7 a4=>?_⟩);refine wV (K:=K) (a:=wl) (xs:=us) (fun i σ I=>∃c1 c2:Option V,σ=[c1,c2,some (.int (S:Int))]/\∃ys:List V,I a7=some (.lst ys)/\PoursH I ys ((b6 S W R.length).take i) ms.length/\Same H1 I) ⟨none,none,rfl,[],jF,PoursH.nil _ _,jK a4 _⟩ (fun i σ I _ ⟨_,_,_,_,_,_,s⟩=>SqT.of (s _ _ (s1 _ _ a5))) ?_ ?_
 ·rintro i v σ I J hv ⟨c1,c2,rfl,ys,hY,hP,sm⟩ hT;have hi:i<us.length:=(ad.mp hv).1;rw [hA.1] at hi;obtain ⟨y,hy,t1,rfl,ah⟩:=hA.2 i v hv;have ah:=s1 _ _ ah;have u:=jK hT (.tup [V.int (i:Int),V.ref t1]);have G:=sm.trans u;have an:=u _ _ hY;refine ⟨J,jB rfl (⟨SqT.of jF,rfl,_,jB rfl (⟨_,_,rfl,rfl,?_⟩)⟩)⟩;generalize upd I J (.tup [V.int (i:Int),V.ref t1])=Hj at u G an ⊢;refine yZ (qG ?_);refine (jJ (SqT.of (G _ _ ah)) rfl (?_));rw [show y.1=(W.getD i (0,0)).1 by rw [CB hy]];refine ⟨zz3,fun tp bl=>?_⟩;have u2:=jK bl (.tup [V.int (S:Int),V.int (i:Int),V.int (W.getD i (0,0)).1]);have M:=u2 _ _ an;have Z:=hP.1;rw [bd,nS] at Z;refine ⟨ys,M,vN (by lia),_,jB rfl (⟨ys++[.ref tp],jF,?_,qY a4 (G.trans u2)⟩)⟩;rw [S5 (by lia)];exact (((hP.same u).same u2).snoc jF (by lia) (by lia)).put M
 rintro σ H2 ⟨dj,dl,rfl,O,M,be,s2⟩;rw [hA.1,cd,bn (by rw [nS];exact ao _)] at be;have b0:=s1.trans s2;have c0:=a9.1;have cn:=be.1;rw [nZ] at c0;rw [nS] at cn;refine (⟨x,dx,jB rfl (⟨(b0 _ _ hx),hf.no (by trivial) (by trivial) (by trivial),qO x D R L N (kB rfl (b5.same b0) am (fun wq ws H3 s3 db cj hW=>?_))⟩)⟩);have cr:=b0.trans s3;refine (j0 a8 a7 _ _ (j5 rfl rfl (s3 _ _ (s2 _ _ c9)) (s3 _ _ M) (small (by lia)) (fun al c3=>?_)));have s4:=jK c3 (.lst (Y++O));have a0:upd H3 al (.lst (Y++O)) al=_:=jF;have br:PoursH (upd H3 al (.lst (Y++O))) (Y++O) (zH S ms W R.length) ms.length:=(((a9.same s2).same s3).same s4).append ((be.same s3).same s4);have b2:=cr.trans s4;have a6:=s4 _ _ cj;have b1:=hW.mono (QAt.same s4);generalize upd H3 al (.lst (Y++O))=H4 at s4 a0 br b2 a6 b1 ⊢;refine ⟨al,rfl,⟨_,so a0⟩,fun Df b8=>?_⟩;refine bM (K:=K) (a:=al) (xs:=Y++O) (caps:=[]) (fun i ys I=>PoursH I ys (((zH S ms W R.length).take i).filter qM) ms.length) b8 (so a0) (PoursH.nil _ _) ?_ ?_
 ·rintro i v ys I hv hi b4 sm hY hP;rw [af] at hi;obtain ⟨a,s,tt,m,rfl,hq,hT,hs,ht⟩:=br.2 i v hv;have ef:((zH S ms W R.length).take (i+1)).filter qM=((zH S ms W R.length).take i).filter qM++[(s,tt,m)].filter qM:=by
   rw [aK,hq,fw];rfl
  refine (jJ (SqT.of (sm _ _ hT)) rfl (⟨rfl,jB rfl (?_)⟩))
  by_cases hz:m=0
  ·refine JV (bf V.int hz) (nX sm hY b4 (Same.refl _) ?_);rw [ef,aR,if_neg (by unfold qM;rw [aB (show m=0 from hz)];decide)];show PoursH I ys (_++[]) _;rw [cq];exact hP
  refine bC (fun e=>hz (V.int.inj e)) (JP b8 sm hY b4 (by lia) (Same.refl _) ?_);rw [ef,aR,if_pos (by unfold qM;rw [ax (show ¬m=0 from hz)];rfl)];exact (hP.snoc (sm _ _ hT) hs ht).put hY
 rintro ys H5 s5 c4 b9 b3;rw [br.1,bn (ao _)] at b3;have bv:=b2.trans s5;refine kL wq wt Df ws ys (kR R L.length) ms (jB rfl (jO (mU co (b1.mono (QAt.same s5)) (s5 _ _ a6) (.inr (SqT.of (bv _ _ h2))) cz am bt) c4 b3 ?_ (fun r H' gs zs s' c5 hr c6 hS=>?_)))
 ·rw [af] at b9
  lia
 subst ce;exact q r H' gs zs (bv.trans s') (bv.free c5) hr c6 hS
theorem RT:jV 2 ["weather","other"] mJ:=jU
include T in
theorem OO (F:kG K "wet_enough" mJ f fd) : FnOk P w K mg base jT 1 f fd ["weather","other"] (IM):=by
 refine F.ok2 RT fun vs H Q E h=>?_
 refine cH h fun a b us ws p p' h=>?_
 refine gF h fun e_ ha hb hA hB am an q=>?_
 subst e_;refine ⟨rfl,fun _ _ _ _ hr=>?_⟩;refine ⟨_,(jN (yX (EX rfl) (by rfl) T.jp PyProof.Rows.boot_all (jC (QY ["pair","wanted"] (vZ 2 []) rfl (v9 (kK mJ)) (cps 2 []) (XI (by rfl) T.jo (jC (jA 0) (jC (jA 1) jE))) (fun _ _ _ _ _=>(QK (n:=2) K rfl (qZ (kT (i:=0) (show List.Nodup (["pair","wanted"]:List Str) from by trivial) rfl (.inl rfl)) (qZ (kT (i:=1) (show List.Nodup (["pair","wanted"]:List Str) from by trivial) rfl (.inl rfl)) JH)))) (fun _ _ _ _ _=>zN) (fun _ _ _ _ _=>(ZN (zC iY (jH (jM K) (jA 0) jD) (jH (jM K) (jA 1) jD)) (bV (zC iX (jH (jM K) (jA 0) jD) (jH (jM K) (jA 1) jD)))))) jE))),?_⟩
 try dsimp only [jY,jX]
 refine (⟨a,b,(kB rfl ⟨_,SqT.of ha⟩ ⟨_,so hb⟩ (fun M I=>?_))⟩);refine DF (K:=K) (a1:=a) (a2:=b) (xs:=us) (ys:=ws) (fun i σ Z=>∃c1 c2:Option V,σ=[c1,c2]/\Z M=some (.lst (((List.range i).map (dW p p')).map V.bl))/\Same H Z) ⟨none,none,rfl,jF,jK I _⟩ (fun i σ Z _ ⟨_,_,_,_,s⟩=>⟨SqT.of (s _ _ ha),so (s _ _ hb)⟩) (by rw [hA.1,hB.1,am]) ?_ ?_
 ·rintro i v z σ Z J hv hz ⟨c1,c2,rfl,hY,sm⟩ hT;have hi:i<us.length:=(ad.mp hv).1;rw [hA.1] at hi;obtain ⟨y1,al,t1,rfl,Y⟩:=hA.2 i v hv;obtain ⟨y2,ah,t2,rfl,S⟩:=hB.2 i z hz;have hw:=W5 al ah;have u:=jK hT (.tup [V.ref t1,V.ref t2]);have G:=sm.trans u;have O:=u _ _ hY;refine ⟨J,jB rfl (⟨SqT.of jF,rfl,_,jB rfl (⟨_,_,rfl,rfl,?_⟩)⟩)⟩;generalize upd Z J (.tup [V.ref t1,V.ref t2])=Hj at u G O ⊢;refine yZ (qG ?_);refine (jJ (SqT.of (G _ _ Y)) rfl (jJ (SqT.of (G _ _ S)) rfl (kD (jB rfl (?_)))))
  by_cases h:y2.1<=y1.1
  ·refine kX h (jJ (SqT.of (G _ _ Y)) rfl (jJ (SqT.of (G _ _ S)) rfl (kD (?_))));exact ⟨_,O,vN (by rw [ae,ae,bg];lia),_,_,rfl,(by
    rw [jF,ei,aJ,aJ];show some (HO.lst (_++[V.bl _]))=some (HO.lst (_++[V.bl (dW p p' i)]));rw [hw]
    first|rw [aB h]|rw [ax h]
    rfl),qY I G⟩
  ·refine j9 h ?_;exact ⟨_,O,vN (by rw [ae,ae,bg];lia),_,_,rfl,(by
    rw [jF,ei,aJ,aJ];show some (HO.lst (_++[V.bl _]))=some (HO.lst (_++[V.bl (dW p p' i)]));rw [hw]
    first|rw [aB h]|rw [ax h]
    rfl),qY I G⟩
 rintro σ Hf ⟨c1,c2,rfl,hY,sm⟩;rw [hA.1] at hY;refine ⟨M,jB rfl (⟨so hY,?_⟩)⟩;rw [all_map];exact q Hf sm
theorem P9:jV 4 ["canal","ways","state","reach"] t7:=jU
include T in
theorem NO (F:kG K "has_no_berth" t7 f fd) (S:Def P w K mg base 4 "lying" ["canal","ways","state","reach"] [] (GY (jG cP cB cU) cR cN)):FnOk P w K mg base jT 5 f fd ["canal","ways","state","reach"] (xL (jG cP cB cU) cR cN):=by
 refine F.ok2 P9 fun vs H Q E h=>?_
 obtain ⟨x,wl,st,b,r,us,ys,d,ms,pl,D,R,L,N,rfl,hG,M,q⟩:=h;refine ⟨rfl,fun _ _ _ _ hr=>?_⟩;refine ⟨_,(jN (zC iY (jR S hr rfl (zD (jA 0) (jA 1) (jA 2) (jA 3))) (j6 K (jH (kQ K) (j6 K (jA 0) rfl) (jA 3)) rfl))),?_⟩
 try dsimp only [jY,jX]
 obtain ⟨hc,am,Z,hA,O,J,an⟩:=id hG;have I:=hc;obtain ⟨dx,rl,ll,nl,fs,rs,ls,nv,hx,hf,V,ah,al,hR,hL,hN,d1,d2,d3⟩:=hc;obtain ⟨z,hz,yr,rfl,dy,gs,Y,hg⟩:=hR.get M;refine (B2 x wl st _ us ys d ms pl D R L N (vD rfl I Z hA O J (fun H3 G=>?_)));exact (j8 (G _ _ hx) (T.clN) (T.xf) (hf.1) (k7 (so (G _ _ V)) (qF hz) (j8 (G _ _ Y) (T.clR) (T.zf) (hg.2.2.2.1) (kD (q H3 G)))))
theorem RH:jV 2 ["way","place"] uE:=jU
include T in
theorem NX (F:kG K "next_step" uE f fd) : FnOk P w K mg base jT 1 f fd ["way","place"] (AY):=by
 refine F.ok2 RH fun vs H Q E h=>?_
 refine cI h fun t y p Z h=>?_
 refine d9 h fun e_ S hs q=>?_
 subst e_;obtain ⟨ah,M,I,e,O,V,J⟩:=S;refine ⟨rfl,fun _ _ _ _ hr=>?_⟩;refine ⟨_,(jN (jH (jM K) (jH (jM K) (jA 0) jD) (jA 1))),?_⟩
 try dsimp only [jY,jX]
 cases e;obtain ⟨v3,Y,G⟩:=J.get hs;exact (jJ (SqT.of O) rfl (jJ (SqT.of V) (qF Y) (q _ G)))
theorem RJ:jV 2 ["places","boat"] mF:=jU
include T in
theorem N0 (F:kG K "one_step_on" mF f fd) : FnOk P w K mg base jT 1 f fd ["places","boat"] (FD):=by
 refine F.ok2 RJ fun vs H Q E h=>?_
 refine lG h fun pt pl b h=>?_
 refine d9 h fun e_ S ah q=>?_
 subst e_;refine ⟨rfl,fun _ _ _ _ hr=>?_⟩;refine ⟨_,(jN (vJ (cX K) (by rfl) T.xy bx (jC (QY ["at","place","boat"] (vZ 2 [1]) rfl (v9 (kK mF)) (cps 2 [1]) (AB (by rfl) T.xt (jC (jA 0) jE)) (fun _ _ _ _ _=>(QK (n:=2) K rfl (qZ (kT (i:=0) (show List.Nodup (["at","place","boat"]:List Str) from by trivial) rfl (.inl rfl)) (qZ (kT (i:=1) (show List.Nodup (["at","place","boat"]:List Str) from by trivial) rfl (.inl rfl)) JH)))) (fun _ _ _ _ _=>zN) (fun _ _ _ _ _=>(JR (kA kM (jA 0) (jA 2)) (jL kS (jA 1) jD) (jA 1)))) jE))),?_⟩
 try dsimp only [jY,jX]
 refine (⟨pt,rfl,⟨_,SqT.of S⟩,fun J G=>?_⟩);refine wV (K:=K) (a:=pt) (xs:=pl.map fun (p:Nat)=>V.int (p:Int)) (fun i σ Z=>∃c1 c2:Option V,σ=[c1,c2,some (.int (b:Int))]/\Z J=some (.lst (((zX pl b).take i).map fun (p:Nat)=>V.int (p:Int)))/\Same H Z) ⟨none,none,rfl,jF,jK G _⟩ (fun i σ Z _ ⟨_,_,_,_,s⟩=>SqT.of (s _ _ S)) ?_ ?_
 ·rintro i v σ Z I hv ⟨c1,c2,rfl,hY,sm⟩ hT;have hi:i<pl.length:=by have:=(ad.mp hv).1;rw [ae] at this;exact this
  rw [ap,aa hi] at hv;cases hv;have u:=jK hT (.tup [V.int (i:Int),V.int ((pl[i]:Nat):Int)]);have M:=sm.trans u;have O:=u _ _ hY;refine ⟨I,jB rfl (⟨SqT.of jF,rfl,_,jB rfl (⟨_,_,rfl,rfl,?_⟩)⟩)⟩;generalize upd Z I (.tup [V.int (i:Int),V.int ((pl[i]:Nat):Int)])=Hj at u M O ⊢;have eg:pl.getD i 0=pl[i]:=by rw [ac,aa hi];rfl
  refine yZ (qG ?_);refine (⟨rfl,jB rfl (?_)⟩)
  by_cases h:i=b
  ·refine kX (by rw [h]) (kD (⟨_,O,vN (by rw [ae,bd,nE];lia),_,jB rfl (⟨?_,qY G M⟩)⟩));rw [jF,DB hi,if_pos h,eg,aJ];rfl
  ·refine j9 (fun e=>h (by have:=V.int.inj e;lia)) (⟨_,O,vN (by rw [ae,bd,nE];lia),_,jB rfl (⟨?_,qY G M⟩)⟩);rw [jF,DB hi,if_neg h,eg,aJ];rfl
 rintro σ Hf ⟨c1,c2,rfl,hY,sm⟩;rw [ae,bn (by rw [nE];exact ao _)] at hY;refine ⟨J,jB rfl (.inl ⟨so hY,fun r Y=>?_⟩)⟩;exact q r _ (sm.trans (jK Y _)) (sm.free Y) jF
theorem P5:jV 3 ["state","deed","waters"] tW:=jU
include T in
theorem NI (F:kG K "counted_on" tW f fd) (am:Def P w K mg base 1 "one_step_on" ["places","boat"] [] (FD)):FnOk P w K mg base jT 2 f fd ["state","deed","waters"] (EG):=by
 refine F.ok2 P5 fun vs H Q E h=>?_
 refine ZA h fun st dd Y de d ms mo pl h=>?_
 refine JZ h fun e_ al J O Z q=>?_
 subst e_;refine ⟨rfl,fun _ _ _ _ hr=>?_⟩;refine tk fun x0=>?_
 let u0:=ru x0 [1,0,0] (jN (qC (kH (jH (jM K) (jA 0) jD) (jA 2) (jR am hr rfl (jC (jH (jM K) (jA 0) jD) (jC (jH (jM K) (jA 1) jD) jE))))))
 let u1:=ru x0 [1] (jI (kE (kA kM (jH (jM K) (jA 1) jD) jP) u0.h kI)
   (jN (qC (kH (jH (jM K) (jA 0) jD) (jA 2) (jH (jM K) (jA 0) jD)))))
 refine ⟨_,(jI (kE (kA kM (jH (jM K) (jA 1) jD) jP) (jN (qC (kH (jL kS (jH (jM K) (jA 0) jD) jD) (jA 2) (jH (jM K) (jA 0) jD)))) kI)
   u1.h),?_⟩
 try dsimp only [jY,jX]
 obtain ⟨wt,pt,G,a0,S⟩:=id al;cases de with
 |night =>
  refine (jJ (SqT.of J) rfl (⟨rfl,jB rfl (kX rfl ?_)⟩));refine (jJ (SqT.of G) rfl (kD (jJ (SqT.of G) rfl (⟨zz3,fun t3 I=>?_⟩))));have M:=jK I (.tup [V.int (d+1),V.ref Y,V.ref pt]);exact q t3 _ M I ⟨Y,pt,jF,M _ _ O,M _ _ S⟩
 |pass b =>
  refine (jJ (SqT.of J) rfl (⟨rfl,jB rfl (j9 (fun e=>absurd (V.str.inj e) (by trivial)) ?_)⟩));refine (jJ (SqT.of J) rfl (⟨rfl,jB rfl (kX rfl ?_)⟩));refine (jJ (SqT.of G) rfl (jJ (SqT.of G) rfl (jJ (SqT.of J) rfl (jQ pt pl b (kB rfl S Z (fun po H3 M an ah=>?_))))));refine ⟨zz3,fun t3 I=>?_⟩;have s4:=jK I (.tup [V.int d,V.ref Y,V.ref po]);exact q t3 _ (M.trans s4) (M.free I) ⟨Y,po,jF,s4 _ _ (M _ _ O),s4 _ _ ah⟩
 |«let» k =>
  refine (jJ (SqT.of J) rfl (⟨rfl,jB rfl (j9 (fun e=>absurd (V.str.inj e) (by trivial)) ?_)⟩));refine (jJ (SqT.of J) rfl (⟨rfl,jB rfl (j9 (fun e=>absurd (V.str.inj e) (by trivial)) ?_)⟩));refine (jJ (SqT.of G) rfl (jJ (SqT.of G) rfl (⟨zz3,fun t3 I=>?_⟩)));have M:=jK I (.tup [V.int d,V.ref Y,V.ref pt]);exact q t3 _ M I ⟨Y,pt,jF,M _ _ O,M _ _ S⟩
theorem wI:jV 3 ["canal","k","named","lock","vessel"] l9:=jU
include T in
theorem NH (F:kG K "by_number" l9 f fd) (za:MeD P w K mg base 1 cN "basin" ["self","k"] (dR (jG cP cB cU) cR cN JA)) (zh:MeD P w K mg base 1 cN "chamber" ["self","k"] (dR (jG cP cB cU) cR cN QO)):FnOk P w K mg base jT 2 f fd ["canal","k","named"] (AO (jG cP cB cU) cR cN):=by
 refine F.ok2 wI fun vs H Q E h=>?_
 obtain ⟨x,p,k,l,rp,ps,D,R,L,N,rfl,hc,ah,hg,hp,hP,a4,a7,q⟩:=h;refine ⟨rfl,fun _ _ _ _ hr=>?_⟩;have al:=BQ hr;refine tk fun x0=>?_
 let u0:=ru x0 [2] (jN (QY ["source","target","amount","vessel"] (vZ 3 [4]) rfl (v9 (kK l9)) (cps 3 [4]) (yE (jA 2)) (fun _ _ _ _ _=>(QK (n:=3) K rfl (qZ (kT (i:=0) (show List.Nodup (["source","target","amount","vessel"]:List Str) from by trivial) rfl (.inl rfl)) (qZ (kT (i:=1) (show List.Nodup (["source","target","amount","vessel"]:List Str) from by trivial) rfl (.inl rfl)) (qZ (kT (i:=2) (show List.Nodup (["source","target","amount","vessel"]:List Str) from by trivial) rfl (.inl rfl)) JH))))) (fun _ _ _ _ _=>zN) (fun _ _ _ _ _=>(qC (kH (zP al (jA 3) (jA 0) (fun _ _=>rfl)) (zP al (jA 3) (jA 1) (fun _ _=>rfl)) (jA 2))))))
 let u1:=ru x0 [1] (jI (jW 4 wI.nd (HM (bQ jP (j6 K (jA 3) rfl) (bQ jP (j6 K (jA 3) rfl) (bQ jP (cG zh hr (jA 0) (jC (jA 1) jE)) (bQ jP (cG za hr (jA 0) (jC (jA 1) jE)) HJ)))) rfl rfl (cons_ne_nil _ _) (by decide)))
   u0.h)
 refine ⟨_,(jI (jW 3 wI.nd (jH (kQ K) (j6 K (jA 0) rfl) (jA 1)))
   u1.h),?_⟩
 try dsimp only [jY,jX]
 have am:=hc;obtain ⟨dx,rl,ll,nl,fs,rs,ls,nv,hx,hf,a8,a5,a6,hR,hL,hN,d1,d2,d3⟩:=hc;obtain ⟨v,hv,y,rfl,dl,hl⟩:=hL.get ah;have Y:k<L.length:=(ad.mp ah).1;refine (j8 hx (T.clN) (T.xg) (hf.2.1) (k7 (so a5) (qF hv) (?_)));refine fun w Z=>?_
 have O:=jK Z (.dK []);refine (j8 (O _ _ hl) (T.cl l.kd) (T.vc l.kd) (dI l.kd _ _ _ _ _) (j8 (O _ _ hl) (T.cl l.kd) (T.wx l.kd) (dO l.kd _ _ _ _ _) (⟨x,dx,jB rfl (⟨(O _ _ hx),hf.no (by trivial) (by trivial) (by trivial),(qO x D R L N (jB rfl (⟨am.same O,(⟨x,dx,jB rfl (⟨(O _ _ hx),hf.no (by trivial) (by trivial) (by trivial),(qO x D R L N (jB rfl (⟨am.same O,?_⟩)))⟩)⟩)⟩)))⟩)⟩)));refine ⟨jF,[(.inr "high",.int l.high),(.inr "low",.int l.low),(.inr "chamber",.int (QO R.length L.length (k:Int))),(.inr "basin",.int (JA R.length L.length (k:Int)))],rfl,(by show 4<=15;decide),?_⟩;rw [jAb];have S:Same H (upd (upd H w (.dK [])) w (.dK (d4 (.int l.high) (.int l.low) (.int (QO R.length L.length (k:Int))) (.int (JA R.length L.length (k:Int)))))):=qY Z O;have hw:upd (upd H w (.dK [])) w (.dK (d4 (.int l.high) (.int l.low) (.int (QO R.length L.length (k:Int))) (.int (JA R.length L.length (k:Int))))) w=_:=jF;generalize upd (upd H w (.dK [])) w (.dK (d4 (.int l.high) (.int l.low) (.int (QO R.length L.length (k:Int))) (.int (JA R.length L.length (k:Int)))))=H1 at S hw ⊢;have an:∀(I:Hp) (s:Str),Same H1 I->okW s->DGet I w (.str s) (some (.int ((yD R.length L.length k l s:Nat):Int))):=fun I s J hs=>by
  obtain ⟨e1,e2,e3,e4⟩:=jBt (J _ _ hw);obtain ⟨g1,g2,g3,g4,_⟩:=hg;cases hs
  ·rw [fI,show ((l.high.toNat:Nat):Int)=l.high by lia];exact e1
  ·rw [fN,show ((l.low.toNat:Nat):Int)=l.low by lia];exact e2
  ·rw [dA,show ((R.length+k:Nat):Int)=QO R.length L.length (k:Int) by unfold QO;lia];exact e3
  ·rw [fC,show ((R.length+L.length+k:Nat):Int)=JA R.length L.length (k:Int) by unfold JA;lia];exact e4
 refine (⟨p,rfl,⟨_,so (S _ _ hp)⟩,fun M G=>?_⟩);refine cZ (K:=K) (a:=p) (xs:=rp) (fun i σ I=>∃(c1 c2 c3:Option V) (zs:List V),σ=[c1,c2,c3,some (.ref w)]/\I M=some (.lst zs)/\PoursH I zs ((ps.take i).map (JO R.length L.length k l)) (R.length+2*L.length+2)/\Same H1 I)
  (j0 none none none ([]) (kB rfl jF (PoursH.nil _ _) (jK G _))) (fun i σ I _ ⟨_,_,_,_,_,_,_,s⟩=>so (s _ _ (S _ _ hp))) ?_ ?_
 ·rintro i v σ I hv ⟨c1,c2,c3,zs,rfl,hY,hA,J⟩;have hi:i<rp.length:=(ad.mp hv).1;rw [hP.1] at hi;obtain ⟨t,sS,sT,nN,rfl,a0,hT⟩:=hP.2 i v hv;obtain ⟨o1,o2⟩:=a4 _ (ag a0);have a9:zs.length<=i:=by rw [hA.1,ae];exact gy _ _
  refine ⟨t,jB rfl (⟨SqT.of (J _ _ (S _ _ hT)),rfl,_,jB rfl (⟨_,jB rfl (⟨_,_,rfl,rfl,?_⟩)⟩)⟩)⟩;refine yZ (qG ?_);refine (⟨w,jB rfl (⟨an I _ J o1,(⟨w,jB rfl (⟨an I _ J o2,(⟨zz3,fun tp a3=>?_⟩)⟩)⟩)⟩)⟩);have u:=jK a3 (.tup [V.int ((yD R.length L.length k l sS:Nat):Int),V.int ((yD R.length L.length k l sT:Nat):Int),V.int nN]);refine ⟨zs,⟨u _ _ hY,vN (by lia),(j0 _ _ _ (zs++[.ref tp]) (kB rfl jF ?_ (qY G (J.trans u))))⟩⟩;rw [aK,a0,aJ];exact ((hA.same u).snoc jF (o0 o1 hg Y) (o0 o2 hg Y)).put (u _ _ hY)
 rintro σ Hf ⟨c1,c2,c3,zs,rfl,hY,hA,J⟩;rw [hP.1,aW] at hA;exact q M Hf zs (S.trans J) (S.free G) hY hA
theorem mP:jV 4 ["canal","ways","state","boat","step","k","basin"] uH:=jU
include T in
theorem N3 (F:kG K "pass_pours" uH f fd) (vv:Def P w K mg base 1 "next_step" ["way","place"] [] (AY)) (za:MeD P w K mg base 1 cN "basin" ["self","k"] (dR (jG cP cB cU) cR cN JA)) (vw:Def P w K mg base 2 "by_number" ["canal","k","named"] [] (AO (jG cP cB cU) cR cN)) (bl:Def P w K mg base 4 "passage" ["lock","full","basin","way"] [] (EE (jG cP cB cU))) (ze:MeD P w K mg base 2 cN "full" ["self","waters","k"] (oR (jG cP cB cU) cR cN)):FnOk P w K mg base jT 6 f fd ["canal","ways","state","boat"] (AN (jG cP cB cU) cR cN):=by
 refine F.ok2 mP fun vs H Q E h=>?_
 obtain ⟨x,wl,st,b,us,ys,y,p,G,d,ms,pl,D,R,L,N,rfl,hG,hy,a9,hs,q⟩:=h;refine ⟨rfl,fun _ _ _ _ O=>?_⟩;refine tk fun x0=>?_
 let u0:=ru x0 [3] (jN (jR vw O rfl (kH (jA 0) (jA 5) (jR bl O rfl (zD (jH (kQ K) (j6 K (jA 0) rfl) (jA 5)) (cG ze O (jA 0) (jC (jH (jM K) (jA 2) jD) (jC (jA 5) jE))) (jA 6) (jH (jM K) (jA 4) jD))))))
 let u1:=ru x0 [2] (jI (jW 6 mP.nd (jH (jM K) (jH (jM K) (jA 2) jD) (cG za O (jA 0) (jC (jA 5) jE))))
   u0.h)
 let u2:=ru x0 [1] (jI (jW 5 mP.nd (jH (jM K) (jA 4) jD))
   u1.h)
 refine ⟨_,(jI (jW 4 mP.nd (jR vv O rfl (jC (jH (kQ K) (jA 1) (jA 3)) (jC (jH (jM K) (jH (jM K) (jA 2) jD) (jA 3)) jE))))
   u2.h),?_⟩
 try dsimp only [jY,jX]
 obtain ⟨hc,a5,a8,hA,⟨wt,pt,I,an,bt⟩,be,a6⟩:=id hG;have S:=hc;obtain ⟨dx,rl,ll,nl,fs,rs,ls,nv,hx,hf,b8,b2,b5,hR,hL,hN,d1,d2,d3⟩:=hc;obtain ⟨v,b3,t,M,Y,rfl,a7,bv,a0⟩:=hA.get hy;have ah:=be.ok y (ag hy);have a3:=ah.lt G (ag hs);obtain ⟨l,J⟩:∃l,L[G.1]?=some l:=⟨_,aa a3⟩;obtain ⟨v4,b4,y4,rfl,dl,hl⟩:=hL.get J;have b0:=a5.lock _ _ J;have am:JA R.length L.length (G.1:Int)=((R.length+L.length+G.1:Nat):Int):=by unfold JA;lia
 have br:vM (ms.map V.int) (JA R.length L.length (G.1:Int))=some (.int (ms.getD (R.length+L.length+G.1) 0)):=by rw [am];exact yT (by lia)
 refine (j0 wl _ _ _ (jO rfl rfl (so a8) (qF b3) (j0 st _ _ _ (jO rfl rfl (SqT.of I) rfl (j0 pt _ _ _ (jO rfl rfl (SqT.of bt) (qF (v:=.int (p:Int)) (by rw [ap,a9];rfl)) (j0 t y p G (kB rfl (jQ t M Y (kB rfl a7 bv a0)) hs (fun v3 ⟨t3,e3,al⟩=>?_)))))))));subst e3;refine (j0 t3 _ _ _ (jO rfl rfl (SqT.of al) rfl ?_));refine (j0 st _ _ _ (jO rfl rfl (SqT.of I) rfl (⟨x,dx,jB rfl (⟨hx,hf.no (by trivial) (by trivial) (by trivial),(qO x D R L N (jB rfl (⟨S,(j0 wt _ _ _ (jO rfl rfl (SqT.of an) br ?_))⟩)))⟩)⟩)));refine (j0 x cN dx _ (jB rfl (jO hx T.clN T.xg hf.2.1 (j0 ll _ _ _ (jO rfl rfl (so b2) (qF b4) (⟨x,dx,jB rfl (⟨hx,hf.no (by trivial) (by trivial) (by trivial),(j0 st _ _ _ (jO rfl rfl (SqT.of I) rfl (ZU x wt D R L N ms G.1 (jO rfl S an (by lia) (j0 t3 _ _ _ (jO rfl rfl (SqT.of al) rfl (gE y4 l.kd _ _ _ l.room l.extra _ _ G.2 ⟨(by rw [jAo];rfl),⟨dl,hl⟩,fun r H1 rs s1 b9 O hP=>?_⟩)))))))⟩)⟩))))));refine gE x r G.1 l rs _ D R L N (eJ rfl (S.same s1) J b0 O hP (oG _ _ _ _ _ _) (aM (EK _ _ _ _ _ _) (by decide)) (fun r2 H2 zs s2 Z b1 a4=>?_));refine q r2 H2 zs (s1.trans s2) (s1.free Z) b1 ?_;unfold zS vX;rw [J,a6];exact a4
theorem RE:jV 3 ["canal","state","k"] uC:=jU
include T in
theorem NT (F:kG K "let_pours" uC f fd) (vw:Def P w K mg base 2 "by_number" ["canal","k","named"] [] (AO (jG cP cB cU) cR cN)) (wc:Def P w K mg base 3 "letting" ["lock","basin"] [] (iE (jG cP cB cU) qN)) (za:MeD P w K mg base 1 cN "basin" ["self","k"] (dR (jG cP cB cU) cR cN JA)):FnOk P w K mg base jT 4 f fd ["canal","state","k"] (G7 (jG cP cB cU) cR cN):=by
 refine F.ok2 RE fun vs H Q E h=>?_
 obtain ⟨x,wl,st,k,us,ys,d,ms,pl,D,R,L,N,rfl,hG,S,q⟩:=h;refine ⟨rfl,fun _ _ _ _ M=>?_⟩;refine ⟨_,(jN (jR vw M rfl (kH (jA 0) (jA 2) (jR wc M rfl (jC (jH (kQ K) (j6 K (jA 0) rfl) (jA 2)) (jC (jH (jM K) (jH (jM K) (jA 1) jD) (cG za M (jA 0) (jC (jA 2) jE))) jE)))))),?_⟩
 try dsimp only [jY,jX]
 obtain ⟨hc,an,be,hA,⟨wt,pt,O,am,a6⟩,a7,a0⟩:=id hG;have I:=hc;obtain ⟨dx,rl,ll,nl,fs,rs,ls,nv,hx,hf,a9,ah,a5,hR,hL,hN,d1,d2,d3⟩:=hc;obtain ⟨l,G⟩:∃l,L[k]?=some l:=⟨_,aa S⟩;obtain ⟨v4,a3,y4,rfl,dl,hl⟩:=hL.get G;have Y:=an.lock _ _ G;have a4:vM (ms.map V.int) (JA R.length L.length (k:Int))=some (.int (ms.getD (R.length+L.length+k) 0)):=by
  rw [show JA R.length L.length (k:Int)=((R.length+L.length+k:Nat):Int) by unfold JA;lia];exact yT (by lia)
 refine (j8 hx (T.clN) (T.xg) (hf.2.1) (k7 (so ah) (qF a3) (jJ (SqT.of O) rfl (⟨x,dx,jB rfl (⟨hx,hf.no (by trivial) (by trivial) (by trivial),(qO x D R L N (jB rfl (⟨I,jJ (SqT.of am) a4 (kL y4 l.kd _ _ _ l.room l.extra (jB rfl (⟨⟨dl,hl⟩,fun r H1 rs s1 a8 M hP=>?_⟩)))⟩)))⟩)⟩))));refine gE x r k l rs _ D R L N (eJ rfl (I.same s1) G Y M hP (dG _ _ _ _) (aM (dE _ _ _ _) (by decide)) (fun r2 H2 zs s2 J Z al=>?_));refine q r2 H2 zs (s1.trans s2) (s1.free J) Z ?_;unfold Q9;rw [G,a0];exact al
theorem RA:jV 3 ["canal","waters","vessel"] t9:=jU
include T in
theorem NP (F:kG K "is_below_least" t9 f fd) : FnOk P w K mg base jT 1 f fd ["canal","waters","vessel"] (KP (jG cP cB cU) cR cN):=by
 refine F.ok2 RA fun vs H Q E h=>?_
 refine ZA h fun x w v ms D R L N h=>?_
 refine cJ h fun e_ hc hw hv q=>?_
 subst e_;refine ⟨rfl,fun _ _ _ _ I=>?_⟩;refine ⟨_,(jN (ZN (zC bB (jA 2) (qR K T.xk (j6 K (jA 0) rfl))) (bV (zC bB (jH (jM K) (jA 1) (jA 2)) (j6 K (jH (kQ K) (j6 K (jA 0) rfl) (jA 2)) rfl))))),?_⟩
 try dsimp only [jY,jX]
 obtain ⟨dx,rl,ll,nl,fs,rs,ls,nv,J,O,G,S,V,M,hL,hN,d1,d2,d3⟩:=hc;refine (j8 J (T.clN) (T.xf) (O.1) (⟨rl,jB rfl (⟨.inl (so G),_,_,rfl,rfl,jB rfl (?_)⟩)⟩));rw [M.1]
 by_cases h:v<R.length
 ·obtain ⟨r,I⟩:∃r,R[v]?=some r:=⟨_,aa h⟩;obtain ⟨z,Y,y,rfl,dy,gs,Z,hg⟩:=M.get I;refine kX (by lia) (jJ (SqT.of hw) (yT hv) (j8 J (T.clN) (T.xf) (O.1) (k7 (so G) (qF Y) (j8 Z (T.clR) (T.zm) (hg.2.1) (kD (?_))))));rw [show Q8 R ms v=decide (ms.getD v 0<r.least) by unfold Q8;rw [I]] at q;exact q
 ·refine j9 (by lia) ?_;rw [show Q8 R ms v=false by unfold Q8;rw [dg (by lia)]] at q;exact q
theorem mO:jV 3 ["canal","waters","moved","held","pour"] tZ:=jU
include T in
theorem NL (F:kG K "falls_short" tZ f fd) (xv:Def P w K mg base 1 "poured_all" ["waters","pours"] [] (iV K)) (uk:Def P w K mg base 1 "is_below_least" ["canal","waters","vessel"] [] (KP (jG cP cB cU) cR cN)):FnOk P w K mg base jT 2 f fd ["canal","waters","moved"] (FG (jG cP cB cU) cR cN):=by
 refine F.ok2 mO fun vs H Q E h=>?_
 obtain ⟨x,w,p,ms,zs,qs,D,R,L,N,rfl,hc,hw,hp,hP,I,q⟩:=h;refine ⟨rfl,fun _ _ _ _ J=>?_⟩;refine tk fun x0=>?_
 let u0:=ru x0 [1,0,0] (jI (jW 3 mO.nd (jR xv J rfl (jC (jA 3) (jC (qA (jC (jA 4) jE)) jE))))
   (kU (kE (vQ (jR uk J rfl (kH (jA 0) (jA 3) (jH (jM K) (jA 4) jD)))) (jN vW) kI)))
 let u1:=ru x0 [1] (jI (yU bj rfl (yE (jA 2)) (kT (i:=4) mO.nd rfl (.inl rfl))
    u0.h)
   (jN vW))
 refine ⟨_,(jI (jW 3 mO.nd (jA 1))
   u1.h),?_⟩
 try dsimp only [jY,jX]
 refine (?_);refine ⟨p,rfl,⟨_,so hp⟩,ZJ (K:=K) (a:=p) (xs:=zs) (fun i Y M=>∃(h:Addr) (c:Option V),Y=[some (.ref x),some (.ref w),some (.ref p),some (.ref h),c]/\M h=some (.tup ((kC ms (qs.take i)).map V.int))/\JT R ms qs=JT R (kC ms (qs.take i)) (qs.drop i)/\Same H M)
  ⟨w,none,(kB rfl hw rfl (Same.refl _))⟩ (fun i Y M _ ⟨_,_,_,_,_,s⟩=>so (s _ _ hp)) ?_ ?_⟩
 ·rintro i v Y M hv ⟨h,c,rfl,hh,Z,S⟩;obtain ⟨a,s,t,m,rfl,hq,hT,hs,ht⟩:=hP.2 i v hv;have el:(kC ms (qs.take i)).length=ms.length:=yB _ _;refine (⟨zz1,fun lp al=>?_⟩);have u:=jK al (.lst [V.ref a]);refine ⟨h,j0 lp _ ([.ref a]) ([(s,t,m)]) (j5 rfl (.inr (SqT.of (u _ _ hh))) (so jF) ((PoursH.nil _ _ |>.snoc (u _ _ (S _ _ hT)) (by rw [el];exact hs) (by rw [el];exact ht)).pa) (by rw [el];exact I) (fun r H' s' am J=>?_))⟩;have G:=(S.trans u).trans s';have ep:kC (kC ms (qs.take i)) [(s,t,m)]=kC ms (qs.take (i+1)):=by rw [mT ms qs i _ hq];rfl
  rw [ep] at J;have ed:qs.drop i=(s,t,m)::qs.drop (i+1):=(drop_eq_getElem_cons (ad.mp hq).1).trans (by rw [(ad.mp hq).2]);have O:JT R ms qs=(Q8 R (kC ms (qs.take (i+1))) s||JT R (kC ms (qs.take (i+1))) (qs.drop (i+1))):=by
   rw [Z,ed];show (Q8 R (pour (kC ms (qs.take i)) (s,t,m)) s||JT R (pour (kC ms (qs.take i)) (s,t,m)) (qs.drop (i+1)))=_;rw [mT ms qs i _ hq]
  have ah:(kC ms (qs.take (i+1))).length=ms.length:=yB _ _;refine (jJ (SqT.of (G _ _ hT)) rfl (ZU x r s _ D R L N (jO rfl (hc.same G) J (by rw [ah];exact hs) (jB rfl (?_)))));cases hb:Q8 R (kC ms (qs.take (i+1))) s with
  |true =>
   refine qG ?_;have:=q H' G;rw [O,hb] at this;exact this
  |false =>
   refine qK ⟨r,jB rfl (⟨J,?_,G⟩)⟩;rw [O,hb];rfl
 rintro Y M ⟨h,c,rfl,hh,Z,S⟩;rw [hP.1,drop_length] at Z;have:=q M S;rw [Z] at this;exact this
theorem wP:jV 4 ["canal","ways","state","boat","place","target"] wB:=jU
include T in
theorem OQ (F:kG K "why_no_pass" wB f fd) (vg:Def P w K mg base 3 "reach_of" ["canal","way","place"] [] (xK (jG cP cB cU) cR cN)) (zv:Def P w K mg base 5 "has_no_berth" ["canal","ways","state","reach"] [] (xL (jG cP cB cU) cR cN)) (bv:Def P w K mg base 2 "falls_short" ["canal","waters","moved"] [] (FG (jG cP cB cU) cR cN)) (vh:Def P w K mg base 6 "pass_pours" ["canal","ways","state","boat"] [] (AN (jG cP cB cU) cR cN)):FnOk P w K mg base jT 7 f fd ["canal","ways","state","boat"] (IL (jG cP cB cU) cR cN):=by
  refine F.ok2 wP fun vs H Q E h=>?_
  obtain ⟨x,wl,st,b,us,ys,d,ms,pl,D,R,L,N,rfl,hG,hb,q⟩:=h;refine ⟨rfl,fun _ _ _ _ M=>?_⟩;refine tk fun x0=>?_
  let u0:=ru x0 [4] (jI (kE (vQ (jR bv M rfl (kH (jA 0) (jH (jM K) (jA 2) jD) (jR vh M rfl (zD (jA 0) (jA 1) (jA 2) (jA 3)))))) (jN jP) kI)
      (jN jP))
  let u1:=ru x0 [3] (fR (kE (PW.pt (iR (kA JU (jA 5) (ZK (v:=.int (-1)) rfl T.xaJ ⟨_,rfl⟩)) (iI (vQ (jR zv M rfl (zD (jA 0) (jA 1) (jA 2) (jA 5))))))) (jN jP) kI)
      u0.h)
  let u2:=ru x0 [2] (jI (jW 5 wP.nd (jR vg M rfl (kH (jA 0) (jH (kQ K) (jA 1) (jA 3)) (jL kS (jA 4) jD))))
      u1.h)
  let u3:=ru x0 [1] (jI (kE (kA kM (jR vg M rfl (kH (jA 0) (jH (kQ K) (jA 1) (jA 3)) (jA 4))) (ZK (v:=.int (-1)) rfl T.xaJ ⟨_,rfl⟩)) (jN jP) kI)
      u2.h)
  refine ⟨_,(jI (jW 4 wP.nd (jH (jM K) (jH (jM K) (jA 2) jD) (jA 3)))
      u3.h),?_⟩
  try dsimp only [jY,jX]
  obtain ⟨hc,O,a3,hA,bl,ah,cd⟩:=id hG;obtain ⟨wt,pt,Y,b0,bt⟩:=id bl;have an:=hc;obtain ⟨dx,rl,ll,nl,fs,rs,ls,nv,hx,hf,cj,cr,b9,hR,hL,hN,d1,d2,d3⟩:=hc;have b1:=O.r8;have b2:=O.l8;obtain ⟨y,hy⟩:∃y,ys[b]?=some y:=⟨_,aa hb⟩;obtain ⟨p,hp⟩:∃p,pl[b]?=some p:=⟨_,aa (by rw [ah.len];exact hb)⟩;obtain ⟨v,a7,al⟩:=hA.get hy;obtain ⟨t,br,b4,rfl,ce,co,b8⟩:=id al;have a5:=ah.le b y p hy hp;have G:=ah.ok y (ag hy);have ey:ys.getD b (0,[])=y:=by rw [ac,hy];rfl
  have ep:pl.getD b 0=p:=by rw [ac,hp];rfl
  unfold Q5 at q;rw [ey,ep] at q;refine (jJ (SqT.of Y) rfl (jJ (SqT.of bt) (qF (v:=.int (p:Int)) (by rw [ap,hp];rfl)) (?_)));refine (k7 (so a3) (qF a7) (ZU x t y p D R L N (j5 rfl an al G a5 (fun H1 s1=>⟨rfl,jB rfl (?_)⟩))))
  by_cases h0:p=y.2.length
  . refine kX (by rw [h0,HK]) ?_
    have:=q H1 s1;rw [if_pos h0] at this;exact this
  have a0:p<y.2.length:=by lia
  have b5:=IV O G a0;refine j9 (fun e=>by have:=V.int.inj e;lia) ?_;have q:∀H',Same H H'->Q (.str (if ¬qP L y (p+1) = -1/\fL R (qP L y (p+1))<=(((vT L ys pl).countP fun z=>decide (z=qP L y (p+1)):Nat):Int) then "berth" else if JT R ms (zS R.length L ms (y.2.getD p (0,true)))=true then "water" else "")) H':=fun H' s'=>by
    have:=q H' s';rw [if_neg h0] at this;exact this
  have cz:=s1;refine (k7 (so (s1 _ _ a3)) (qF a7) (kD (ZU x t y (p+1) D R L N (j5 rfl (an.same s1) (WyAt.same s1 _ _ al) G (by lia) (fun H2 s2=>?_)))));have Z:=s1.trans s2;refine ⟨fun a6 Ha=>a6=[some (.ref x),some (.ref wl),some (.ref st),some (.int (b:Int)),some (.int (p:Int)),some (.int (qP L y (p+1)))]/\Same H Ha/\¬(¬qP L y (p+1) = -1/\fL R (qP L y (p+1))<=(((vT L ys pl).countP fun z=>decide (z=qP L y (p+1)):Nat):Int)),?_,?_⟩
  . refine ⟨rfl,jB rfl (?_)⟩
    by_cases h1:qP L y (p+1) = -1
    . exact JV (bf V.int h1) (qK ⟨rfl,Z,fun z=>z.1 h1⟩)
    refine bC (fun e=>h1 (V.int.inj e)) ?_;have a8:p+1<y.2.length:=by
      by_cases e:p+1=y.2.length
      . rw [e,HK] at h1;exact absurd rfl h1
      . lia
    have be:=IV O G a8;obtain ⟨S,a4⟩:∃S:Nat,qP L y (p+1)=(S:Int):=⟨(qP L y (p+1)).toNat,by lia⟩;rw [a4] at h1 ⊢;obtain ⟨r,M⟩:∃r,R[S]?=some r:=⟨_,aa (by lia)⟩;have eb:fL R (S:Int)=r.berths:=by unfold fL;rw [show ((S:Nat):Int).toNat=S from rfl,M]
    refine (lH x wl st S r us ys d ms pl D R L N (kB rfl (hG.same Z) M (fun H3 s3=>(jB rfl (?_)))));have I:=Z.trans s3
    by_cases h2:r.berths<=(((vT L ys pl).countP fun z=>decide (z=(S:Int)):Nat):Int)
    . rw [aB h2]
      refine qG ?_;have:=q H3 I;rw [a4,eb,if_pos ⟨h1,h2⟩] at this;exact this
    . rw [ax h2]
      exact qK ⟨rfl,I,fun z=>h2 (by rw [eb] at z;exact z.2)⟩
  rintro a6 H3 ⟨rfl,I,b3⟩;obtain ⟨J,hs⟩:∃s,y.2[p]?=some s:=⟨_,aa a0⟩;have es:y.2.getD p (0,true)=J:=by rw [ac,hs];rfl
  refine (jJ (SqT.of (I _ _ Y)) rfl (B0 x wl st b us ys y p J d ms pl D R L N (j5 rfl (hG.same I) hy hp hs (fun r H4 zs s4 cn M hP=>?_))));have am:=I.trans s4;refine gE x wt r ms zs _ D R L N (vD rfl (an.same am) (am _ _ b0) M hP (by lia) (fun H5 s5=>(jB rfl (?_))));have:=q H5 (am.trans s5);rw [if_neg b3,es] at this;cases a9:JT R ms (zS R.length L ms J) with
  |true =>
    refine qG ?_;rw [a9,if_pos rfl] at this;exact this
  |false =>
    refine qK ?_;rw [a9,if_neg (by decide)] at this;exact this
theorem RU:jV 4 ["canal","ways","state","deed"] wC:=jU
include T in
theorem OR (F:kG K "why_not" wC f fd) (Y:Def P w K mg base 7 "why_no_pass" ["canal","ways","state","boat"] [] (IL (jG cP cB cU) cR cN)) (ze:MeD P w K mg base 2 cN "full" ["self","waters","k"] (oR (jG cP cB cU) cR cN)):FnOk P w K mg base jT 8 f fd ["canal","ways","state","deed"] (AV (jG cP cB cU) cR cN):=by
 refine F.ok2 RU fun vs H Q E h=>?_
 obtain ⟨x,wl,st,dd,de,us,ys,d,ms,pl,D,R,L,N,rfl,hG,G,J,q⟩:=h;refine ⟨rfl,fun _ _ _ _ hr=>?_⟩;refine tk fun x0=>?_
 let u0:=ru x0 [1,0,0] (jN (JR (vQ (cG ze hr (jA 0) (jC (jH (jM K) (jA 2) jD) (jC (jH (jM K) (jA 3) jD) jE)))) jP jP))
 let u1:=ru x0 [2] (jN (JR (kA bB (jH (jM K) (jA 2) jD) (qR K T.xk (j6 K (jA 0) rfl))) jP jP))
 let u2:=ru x0 [1] (jI (kE (kA kM (jH (jM K) (jA 3) jD) jP) u0.h kI)
   u1.h)
 refine ⟨_,(jI (kE (kA kM (jH (jM K) (jA 3) jD) jP) (jN (jR Y hr rfl (zD (jA 0) (jA 1) (jA 2) (jH (jM K) (jA 3) jD)))) kI)
   u2.h),?_⟩
 try dsimp only [jY,jX]
 obtain ⟨hc,al,a4,hA,Z,a0,an⟩:=id hG;obtain ⟨wt,pt,I,O,am⟩:=id Z;have S:=hc;obtain ⟨dx,rl,ll,nl,fs,rs,ls,nv,hx,hf,a3,ah,M,hR,hL,hN,d1,d2,d3⟩:=hc;cases de with
 |pass b =>
  refine (jJ (SqT.of G) rfl (⟨rfl,jB rfl (kX rfl ?_)⟩));exact (jJ (SqT.of G) rfl (B2 x wl st b us ys d ms pl D R L N (kB rfl hG J q)))
 |«let» k =>
  have hk:k<L.length:=J;refine (jJ (SqT.of G) rfl (⟨rfl,jB rfl (j9 (fun e=>absurd (V.str.inj e) (by trivial)) ?_)⟩));refine (jJ (SqT.of G) rfl (⟨rfl,jB rfl (kX rfl ?_)⟩));refine (⟨x,dx,jB rfl (⟨hx,hf.no (by trivial) (by trivial) (by trivial),(jJ (SqT.of I) rfl (jJ (SqT.of G) rfl (ZU x wt D R L N ms k (jO rfl S O (by lia) (jB rfl (?_))))))⟩)⟩);have:=q H (Same.refl _)
  change Q (.str (if vX R.length ms k=true then "" else "empty")) H at this
  unfold vX at this
  by_cases h:0<ms.getD (R.length+k) 0
  ·rw [if_pos (aB h)] at this;exact kX h this
  ·rw [if_neg (by rw [eh];exact h)] at this;exact j9 h this
 |night =>
  refine (jJ (SqT.of G) rfl (⟨rfl,jB rfl (j9 (fun e=>absurd (V.str.inj e) (by trivial)) ?_)⟩));refine (jJ (SqT.of G) rfl (⟨rfl,jB rfl (j9 (fun e=>absurd (V.str.inj e) (by trivial)) ?_)⟩));refine (jJ (SqT.of I) rfl (j8 hx (T.clN) (T.xq) (hf.2.2.1) (⟨nl,jB rfl (⟨.inl (so M),_,_,rfl,rfl,jB rfl (?_)⟩)⟩)));rw [hN.1];have:=q H (Same.refl _)
  change Q (.str (if d<(N.length:Int) then "" else "over")) H at this
  by_cases h:d<(N.length:Int)
  ·rw [if_pos h] at this;exact kX h this
  ·rw [if_neg h] at this;exact j9 h this
theorem mQ:jV 4 ["canal","ways","state","deed","word","passes","moved"] uN:=jU
include T in
theorem N9 (F:kG K "pours" uN f fd) (um:Def P w K mg base 8 "why_not" ["canal","ways","state","deed"] [] (AV (jG cP cB cU) cR cN)) (vh:Def P w K mg base 6 "pass_pours" ["canal","ways","state","boat"] [] (AN (jG cP cB cU) cR cN)) (br:Def P w K mg base 4 "let_pours" ["canal","state","k"] [] (G7 (jG cP cB cU) cR cN)) (zd:Def P w K mg base 4 "with_spills" ["weirs","waters","pours"] [] (oQ K)) (xp:MeD P w K mg base 2 cN "weirs" ["self"] (iD (jG cP cB cU) cR cN)):FnOk P w K mg base (kO P w) 9 f fd ["canal","ways","state","deed"] (FI (jG cP cB cU) cR cN eW):=by
 refine F.okX2 mQ fun vs H Q E h=>?_
 obtain ⟨x,wl,st,dd,de,us,ys,d,ms,pl,D,R,L,N,rfl,hG,a7,am,b8,bl,qv,qe⟩:=h;refine ⟨rfl,fun _ _ _ _ S=>?_⟩;refine tk fun x0=>?_
 let u0:=ru x0 [4] (jI (jW 6 mQ.nd (JR (vQ (jA 5)) (jR vh S rfl (zD (jA 0) (jA 1) (jA 2) (jH (jM K) (jA 3) jD))) (jR br S rfl (kH (jA 0) (jA 2) (jH (jM K) (jA 3) jD)))))
   (jN (jR zd S rfl (kH (kW xp S (jA 0)) (jH (jM K) (jA 2) jD) (jA 6)))))
 let u1:=ru x0 [3] (jI (jW 5 mQ.nd (zC kM (jH (jM K) (jA 3) jD) jP))
   u0.h)
 let u2:=ru x0 [2] (jI (kE (kA kM (jH (jM K) (jA 3) jD) jP) IU kI)
   u1.h)
 let u3:=ru x0 [1] (jI (kE (kA JU (jA 4) jP) (kU (ZI ZG rfl rfl T.jr T.jt (jC (jA 4) jE))) kI)
   u2.h)
 refine ⟨_,(jI (jW 4 mQ.nd (jR um S rfl (zD (jA 0) (jA 1) (jA 2) (jA 3))))
   u3.h),?_⟩
 try dsimp only [jY,jX]
 obtain ⟨hc,Y,b4,hA,be,a4,a0⟩:=id hG;obtain ⟨wt,pt,M,a5,b9⟩:=id be;have a6:=hc;obtain ⟨dx,rl,ll,nl,fs,rs,ls,nv,hx,hf,b5,cd,b3,hR,hL,hN,d1,d2,d3⟩:=hc;have b1:=Y.r8;have b2:=Y.l8;have a3:=JE Y;refine (lH x wl st dd de us ys d ms pl D R L N (jO rfl hG a7 am (fun H1 s1=>?_)));refine ⟨rfl,jB rfl (?_)⟩
 by_cases hw:zJ R L N.length ys d ms pl de=""
 rotate_left
 ·exact bC (fun e=>hw (V.str.inj e)) (⟨by show 1<=sizeLine;decide,qe hw _ s1⟩)
 refine JV (bf V.str hw) ?_;have qv:=qv hw;have G:=s1 _ _ a7;have bt:=s1 _ _ M;cases de with
 |night =>
  exact absurd rfl bl
 |pass b =>
  have hb:b<ys.length:=am;obtain ⟨y,hy⟩:∃y,ys[b]?=some y:=⟨_,aa hb⟩;obtain ⟨p,hp⟩:∃p,pl[b]?=some p:=⟨_,aa (by rw [a4.len];exact hb)⟩;have b0:=a4.le b y p hy hp;have ey:ys.getD b (0,[])=y:=by rw [ac,hy];rfl
  have ep:pl.getD b 0=p:=by rw [ac,hp];rfl
  have bv:=fH hw;rw [ey,ep] at bv;obtain ⟨O,hs⟩:∃s,y.2[p]?=some s:=⟨_,aa (by lia)⟩;have es:y.2.getD p (0,true)=O:=by rw [ac,hs];rfl
  refine (jJ (SqT.of G) rfl (⟨rfl,jB rfl (j9 (fun e=>absurd (V.str.inj e) (by trivial)) ?_)⟩));refine (jJ (SqT.of G) rfl (⟨rfl,?_⟩));rw [aB rfl];refine (jB rfl (qG ?_));refine (jJ (SqT.of G) rfl (B0 x wl st b us ys y p O d ms pl D R L N (j5 rfl (hG.same s1) hy hp hs (fun m H2 zs s2 a9 hm hP=>?_))));have J:=s1.trans s2;refine (⟨x,dx,jB rfl (⟨(J _ _ hx),hf.no (by trivial) (by trivial) (by trivial),qO x D R L N (kB rfl (a6.same J) (by lia) (fun wq ws H3 s3 a8 Z hW=>?_))⟩)⟩);have I:=J.trans s3;have hl:=hP.1;refine (jJ (SqT.of (I _ _ M)) rfl (kL wq wt m ws zs (kR R L.length) ms (jB rfl (jO (mU a3 hW Z (.inr (SqT.of (I _ _ a5))) a0 (by lia) (by lia)) (s3 _ _ hm) (hP.same s3) ?_ (fun r H4 gs al s4 an S ah hS=>?_)))))
  ·rw [hl];exact aM (EJ _ _ _ _) (by decide)
  have e:vB R L N ys d ms pl (.pass b)=zS R.length L ms O:=by show zS R.length L ms _=_;rw [ey,ep,es]
  refine qv r H4 gs al (I.trans s4) (I.free an) S ?_ ?_
  ·unfold JJ;rw [e];exact ah
  ·rw [e];exact hS
 |«let» k =>
  have hk:k<L.length:=am;refine (jJ (SqT.of G) rfl (⟨rfl,jB rfl (j9 (fun e=>absurd (V.str.inj e) (by trivial)) ?_)⟩));refine (jJ (SqT.of G) rfl (⟨rfl,?_⟩));rw [ax (fun e=>absurd (V.str.inj e) (show ¬("let":Str)="pass" by trivial))];refine (jB rfl (qK ?_));refine (jJ (SqT.of G) rfl (B2 x wl st k us ys d ms pl D R L N (kB rfl (hG.same s1) hk (fun m H2 zs s2 a9 hm hP=>?_))));have J:=s1.trans s2;refine (⟨x,dx,jB rfl (⟨(J _ _ hx),hf.no (by trivial) (by trivial) (by trivial),qO x D R L N (kB rfl (a6.same J) (by lia) (fun wq ws H3 s3 a8 Z hW=>?_))⟩)⟩);have I:=J.trans s3;have hl:=hP.1;refine (jJ (SqT.of (I _ _ M)) rfl (kL wq wt m ws zs (kR R L.length) ms (jB rfl (jO (mU a3 hW Z (.inr (SqT.of (I _ _ a5))) a0 (by lia) (by lia)) (s3 _ _ hm) (hP.same s3) ?_ (fun r H4 gs al s4 an S ah hS=>?_)))))
  ·rw [hl];exact aM (GB _ _ _ _) (by decide)
  exact qv r H4 gs al (I.trans s4) (I.free an) S ah hS
theorem wM:jV 2 ["name","things","place","thing"] uL:=jU
include T in
theorem N7 (F:kG K "place_called" uL f fd) : FnOk P w K mg base (kO P w) 1 f fd ["name","things"] (AM K eU):=by
 refine F.okX2 wM fun vs H Q E h=>?_
 refine cI h fun nm l us zs h=>?_
 refine JZ h fun e_ hl hA al qv qe=>?_
 subst e_;refine ⟨rfl,fun _ _ _ _ hr=>?_⟩;refine ⟨_,(jI (yU iT rfl (XL (by rfl) T.xt (jC (jA 1) jE)) (o6 rfl (qZ (kT (i:=2) wM.nd rfl (.inl rfl)) (qZ (kT (i:=3) wM.nd rfl (.inl rfl)) JH)))
    (kU (kE (kA kM (j6 K (jA 3) rfl) (jA 0)) (jN (jA 2)) kI)))
   (kU (ZI ZG rfl rfl T.ui T.uj (jC jP jE)))),?_⟩
 try dsimp only [jY,jX]
 refine (⟨l,rfl,⟨_,so hl⟩,WL (K:=K) (a:=l) (xs:=us) (fun i M O=>∃Y Z:Option V,M=[some (.str nm),some (.ref l),Y,Z]/\(∀j:Nat,j<i->zs[j]?≠some nm)/\Same H O) ⟨none,none,rfl,fun j hj=>absurd hj (gc j),Same.refl _⟩ (fun i M O _ ⟨_,_,_,_,s⟩=>so (s _ _ hl)) ?_ ?_⟩)
 ·rintro i v M O J hv ⟨Y,Z,rfl,G,S⟩ hT;obtain ⟨z,hz,x,C,dx,fs,rfl,hx,cC,nC,lk⟩:=hA.2 i v hv;have u:=jK hT (.tup [V.int (i:Int),V.ref x]);have I:=S.trans u;refine ⟨J,jB rfl (⟨SqT.of jF,rfl,_,jB rfl (⟨_,_,rfl,rfl,?_⟩)⟩)⟩;refine (j0 x C dx _ (jB rfl (j5 (I _ _ hx) cC nC lk rfl (jB rfl (?_)))))
  by_cases h:z=nm
  ·exact kX (bf V.str h) (qv i ⟨by rw [<- h];exact hz,G⟩ _ I)
  ·refine j9 (fun e=>h (V.str.inj e)) ⟨_,jB rfl (⟨fun j hj=>?_,I⟩)⟩
   by_cases c:j=i
   ·rw [c,hz];exact fun e=>h (aA e)
   ·exact G j (by lia)
 rintro M O ⟨Y,Z,rfl,G,S⟩;refine ⟨by show 1<=sizeLine;decide,qe (fun i hi=>?_) _ S⟩;have ah:i<zs.length:=(ad.mp hi).1;exact G i (by rw [hA.1];exact ah) hi
theorem PJ:jV 2 ["self","name"] sO:=jU
include T in
theorem MI (F:Fun K "reach_at" "Canal.reach_at" sO f fd) (zp:DefX P w K mg base 1 "place_called" ["name","things"] [] (AM K eU)):FnOk P w K mg base (kO P w) 2 f fd ["self","name"] (bA (jG cP cB cU) cR cN eU 0):=by
 refine F.okX2 PJ fun vs H Q E h=>?_
 refine cH h fun x D R L N nm h=>?_
 refine JZ h fun e_ G b1 b2 Y V=>?_
 subst e_;obtain ⟨dx,rl,ll,nl,fs,rs,ls,ns,M,hf,I,O,S,J,hL,hN,d1,d2,d3⟩:=G;refine ⟨rfl,fun _ _ _ _ Z=>?_⟩;refine ⟨_,(jN (vA zp qI Z rfl (jC (jA 1) (jC (j6 K (jA 0) rfl) jE)))),?_⟩
 try dsimp only [jY,jX]
 exact (j8 M (T.clN) (T.xf) (hf.1) (j0 nm rl rs (o8 0 R L) (j5 rfl I (SK T.clR T.zr J) (by rw [J.1];lia) Y V)))
theorem PF:jV 2 ["self","name"] sL:=jU
include T in
theorem MG (F:Fun K "lock_at" "Canal.lock_at" sL f fd) (zp:DefX P w K mg base 1 "place_called" ["name","things"] [] (AM K eU)):FnOk P w K mg base (kO P w) 2 f fd ["self","name"] (bA (jG cP cB cU) cR cN eU 1):=by
 refine F.okX2 PF fun vs H Q E h=>?_
 refine cH h fun x D R L N nm h=>?_
 refine JZ h fun e_ I b1 b2 Z Y=>?_
 subst e_;obtain ⟨dx,rl,M,nl,fs,rs,V,ns,O,hf,ah,G,S,hR,J,hN,d1,d2,d3⟩:=I;refine ⟨rfl,fun _ _ _ _ hr=>?_⟩;refine ⟨_,(jN (vA zp qI hr rfl (jC (jA 1) (jC (j6 K (jA 0) rfl) jE)))),?_⟩
 try dsimp only [jY,jX]
 exact (j8 O (T.clN) (T.xg) (hf.2.1) (j0 nm M V (o8 1 R L) (j5 rfl G (S8 T.cl T.vp J) (by rw [J.1];lia) Z Y)))
theorem C3:jV 2 ["canal","entry","start"] mI:=jU
include T in
theorem OM (F:kG K "way_told" mI f fd) (xu:MeX P w K mg base 2 cN "reach_at" ["self","name"] (bA (jG cP cB cU) cR cN eU 0)) (zi:MeX P w K mg base 2 cN "lock_at" ["self","name"] (bA (jG cP cB cU) cR cN eU 1)):FnOk P w K mg base (kO P w) 3 f fd ["canal","entry"] (xJ (jG cP cB cU) cR cN eU):=by
 refine F.okX2 C3 fun vs H Q E h=>?_
 refine zB h fun x t e D R L N h=>?_
 refine gF h fun e_ hc b1 b2 am a5 qv qe=>?_
 subst e_;obtain ⟨st,us,h1,h2,h3⟩:=am;refine ⟨rfl,fun _ _ _ _ hr=>?_⟩;refine tk fun x0=>?_
 let u0:=ru x0 [1] (jN (qC (jC (jA 2) (jC (vJ (cX K) (by rfl) T.xy bx (jC (V2 ["name","side","canal"] (vZ 2 [0]) (v9 (kK mI)) (cps 2 [0]) (BC (jH (jM K) (jA 1) jD)) (fun _ _ _ _ _=>(QK (n:=2) K rfl (qZ (kT (i:=0) (show List.Nodup (["name","side","canal"]:List Str) from by trivial) rfl (.inl rfl)) (qZ (kT (i:=1) (show List.Nodup (["name","side","canal"]:List Str) from by trivial) rfl (.inl rfl)) JH)))) (fun _ _ _ _ _=>zN) (fun _ _ _ _ _=>(qC (jC (Q3 zi TK hr (jA 2) (jC (jA 0) jE)) (jC (jA 1) jE))))) jE)) jE))))
 refine ⟨_,(jI (jW 2 C3.nd (Q3 xu qI hr (jA 0) (jC (jH (jM K) (jA 1) jD) jE)))
   u0.h),?_⟩
 try dsimp only [jY,jX]
 have S:=hc;obtain ⟨dx,rl,ll,nl,fs,rs,ls,nv,hx,hf,a8,a7,a6,hR,hL,hN,d1,d2,d3⟩:=hc;refine (⟨x,dx,jB rfl (⟨hx,hf.no (by trivial) (by trivial) (by trivial),(jJ (SqT.of h1) rfl (JC x D R L N e.start (j5 rfl S b1 b2 (fun a ha H1 M=>?_) (fun J H1 M=>qe ?_ H1 M))))⟩)⟩)
 case refine_2 =>
  unfold zV;rw [fF (show ZL (R.map (·.name)) e.start from J)]
 have ha:kJ (R.map (·.name)) e.start=some a:=dB ha;have a4:=h3.1;refine (jJ (SqT.of (M _ _ h1)) rfl (⟨st,rfl,⟨_,SqT.of (M _ _ h2)⟩,fun bt Y=>?_⟩));refine DZ (K:=K) (a:=st) (xs:=us) (fun i σ Z=>∃(c1 c2:Option V) (zs:List V) (ps:List (Nat×Bool)),σ=[c1,c2,some (.ref x)]/\y9 (L.map (·.name)) (e.steps.take i)=some ps/\Z bt=some (.lst zs)/\AllAt (PAt Z) zs ps/\Same H Z) (j0 none none ([]) ([]) (jO rfl rfl jF AllAt.nil (M.trans (jK Y _)))) (fun i σ Z _ ⟨_,_,_,_,_,_,_,_,s⟩=>SqT.of (s _ _ h2)) ?_ ?_
 ·rintro i v σ Z hv ⟨c1,c2,zs,ps,rfl,G,hY,hA,I⟩;obtain ⟨p,hp,tp,rfl,an⟩:=h3.2 i v hv;have hi:i<e.steps.length:=(ad.mp hp).1;have ht:e.steps.take (i+1)=e.steps.take i++[p]:=by rw [aK,hp];rfl
  have hpl:=(xI G).1;rw [bd] at hpl;refine ⟨tp,jB rfl (⟨SqT.of (I _ _ an),rfl,_,jB rfl (⟨_,_,rfl,rfl,?_⟩)⟩)⟩;refine yZ (qG (⟨x,dx,jB rfl (⟨(I _ _ hx),hf.no (by trivial) (by trivial) (by trivial),(JC x D R L N p.1 (j5 rfl (S.same I) b1 b2 (fun k hk H2 O=>?_) (fun J H2 O=>qe ?_ H2 (I.trans O))))⟩)⟩))
  case refine_2 =>
   unfold zV;rw [ha];show (y9 (L.map (·.name)) e.steps).map _=none;rw [DH (fF (show ZL (L.map (·.name)) p.1 from J)) (ag hp)];rfl
  have hk:kJ (L.map (·.name)) p.1=some k:=dB hk;refine (⟨zz2,fun t2 a0=>?_⟩);have u:=jK a0 (.tup [V.int (k:Int),V.str (bL p.2)]);have ah:=u _ _ (O _ _ hY);refine ⟨zs,⟨ah,vN (by rw [hA.1];lia),(j0 _ _ (zs++[.ref t2]) (ps++[(k,p.2)]) (jO rfl (by rw [ht];exact DA hk G) jF ?_ (qY (M.free Y) ((I.trans O).trans u))))⟩⟩;exact ((hA.mono (PAt.same (O.trans u))).snoc (v:=.ref t2) (x:=(k,p.2)) ⟨t2,rfl,jF⟩).mono (PAt.put ah)
 rintro σ Hf ⟨c1,c2,zs,ps,rfl,G,hY,hA,I⟩;rw [a4,aW] at G;refine ⟨bt,zs,rfl,.inl ⟨so hY,fun w1 a3=>?_⟩⟩;have v1:=jK a3 (.tup zs);refine ⟨zz2,fun w2 al=>?_⟩;have v2:=jK al (.tup [V.int (a:Int),V.ref w1]);refine qv ((a:Int),ps) ?_ w2 _ ((I.trans v1).trans v2) ((I.trans v1).free al) (jQ w2 w1 zs (kB rfl jF (v2 _ _ jF) (hA.mono (PAt.same (v1.trans v2)))));unfold zV;rw [ha];show (y9 (L.map (·.name)) e.steps).map _=_;rw [G];rfl
theorem OY:jV 1 ["self"] rZ:=jU
include T in
theorem L3 (F:Fun K "canal" "Book.canal" rZ f fd) : FnOk P w K mg base jT 1 f fd ["self"] (Z9 (jG cP cB cU) cR cN cO):=by
 refine F.ok2 OY fun vs H Q E h=>?_
 refine zB h fun b x A R L N B h=>?_
 refine vU h fun e_ Z q=>?_
 subst e_;refine ⟨rfl,fun _ _ _ _ hr=>?_⟩;refine ⟨_,(jN (j6 K (jA 0) rfl)),?_⟩
 try dsimp only [jY,jX]
 obtain ⟨db,nl,wl,pl,ql,el,fs,hA,V,M,Y,J,S,O,G,I,ah⟩:=Z.ob;exact (j8 V (T.clO) (T.nO_kept_canal) (Y.1) (q))
theorem O6:jV 1 ["self"] sE:=jU
include T in
theorem MA (F:Fun K "state" "Book.state" sE f fd) : FnOk P w K mg base jT 1 f fd ["self"] (vI (jG cP cB cU) cR cN cO Z8):=by
 refine F.ok2 O6 fun vs H Q E h=>?_
 refine zB h fun b x A R L N B h=>?_
 refine vU h fun e_ Z q=>?_
 subst e_;refine ⟨rfl,fun _ _ _ _ hr=>?_⟩;refine ⟨_,(jN (j6 K (jA 0) rfl)),?_⟩
 try dsimp only [jY,jX]
 obtain ⟨db,nl,wl,pl,ql,el,fs,hA,V,M,Y,J,S,O,G,I,ah⟩:=Z.ob;exact (j8 V (T.clO) (T.nO_kept_state) (Y.2.2.2.1) (q))
theorem O5:jV 1 ["self"] sD:=jU
include T in
theorem L9 (F:Fun K "names" "Book.names" sD f fd) : FnOk P w K mg base jT 1 f fd ["self"] (vI (jG cP cB cU) cR cN cO (zK fun B=>B.zs.map V.str)):=by
 refine F.ok2 O5 fun vs H Q E h=>?_
 refine zB h fun b x A R L N B h=>?_
 refine vU h fun e_ hq q=>?_
 subst e_;refine ⟨rfl,fun _ _ _ _ hr=>?_⟩;refine ⟨_,(jN (vJ (y8 K) (by rfl) T.xm aG (jC (j6 K (jA 0) rfl) jE))),?_⟩
 try dsimp only [jY,jX]
 obtain ⟨db,M,wl,pl,ql,el,fs,hA,hb,S,hf,G,Z,Y,J,O,ah⟩:=hq.ob;exact (j8 hb (T.clO) (T.nO_kept_names) (hf.2.1) (⟨M,jB rfl (⟨.inl (so G),fun l I=>q l _ (jK I _) I jF⟩)⟩))
theorem O7:jV 1 ["self"] sF:=jU
include T in
theorem MB (F:Fun K "ways" "Book.ways" sF f fd) : FnOk P w K mg base jT 1 f fd ["self"] (vI (jG cP cB cU) cR cN cO (zK BkS.us)):=by
 refine F.ok2 O7 fun vs H Q E h=>?_
 refine zB h fun b x A R L N B h=>?_
 refine vU h fun e_ hq q=>?_
 subst e_;refine ⟨rfl,fun _ _ _ _ hr=>?_⟩;refine ⟨_,(jN (vJ (y8 K) (by rfl) T.xm aG (jC (j6 K (jA 0) rfl) jE))),?_⟩
 try dsimp only [jY,jX]
 obtain ⟨db,nl,wl,pl,ql,el,fs,hA,Z,S,hf,O,Y,V,J,M,G⟩:=hq.ob;exact (j8 Z (T.clO) (T.nO_kept_ways) (hf.2.2.1) (⟨wl,jB rfl (⟨.inl (so (JG _ _ _ _ G)),fun l I=>q l _ (jK I _) I jF⟩)⟩))
theorem O4:jV 1 ["self"] sC:=jU
include T in
theorem L8 (F:Fun K "ledger" "Book.ledger" sC f fd) : FnOk P w K mg base jT 1 f fd ["self"] (vI (jG cP cB cU) cR cN cO (zK BkS.ps)):=by
 refine F.ok2 O4 fun vs H Q E h=>?_
 refine zB h fun b x A R L N B h=>?_
 refine vU h fun e_ hq q=>?_
 subst e_;refine ⟨rfl,fun _ _ _ _ hr=>?_⟩;refine ⟨_,(jN (vJ (y8 K) (by rfl) T.xm aG (jC (j6 K (jA 0) rfl) jE))),?_⟩
 try dsimp only [jY,jX]
 obtain ⟨db,nl,wl,pl,ql,el,fs,hA,Y,S,Z,O,G,V,J,M,ah⟩:=hq.ob;exact (j8 Y (T.clO) (T.nO_kept_pours) (Z.2.2.2.2.1) (⟨pl,jB rfl (⟨.inl (so G),fun l I=>q l _ (jK I _) I jF⟩)⟩))
theorem OZ:jV 1 ["self"] sA:=jU
include T in
theorem L5 (F:Fun K "entries" "Book.entries" sA f fd) : FnOk P w K mg base jT 1 f fd ["self"] (vI (jG cP cB cU) cR cN cO (zK BkS.es)):=by
 refine F.ok2 OZ fun vs H Q E h=>?_
 refine zB h fun b x A R L N B h=>?_
 refine vU h fun e_ hq q=>?_
 subst e_;refine ⟨rfl,fun _ _ _ _ hr=>?_⟩;refine ⟨_,(jN (vJ (y8 K) (by rfl) T.xm aG (jC (j6 K (jA 0) rfl) jE))),?_⟩
 try dsimp only [jY,jX]
 obtain ⟨db,nl,wl,pl,ql,el,fs,hA,Y,O,Z,M,V,S,G,J,ah⟩:=hq.ob;exact (j8 Y (T.clO) (T.nO_kept_entries) (Z.2.2.2.2.2.2.1) (⟨el,jB rfl (⟨.inl (so G),fun l I=>q l _ (jK I _) I jF⟩)⟩))
theorem O3:jV 1 ["self"] lV:=jU
include T in
theorem L7 (F:Fun K "gatework" "Book.gatework" lV f fd) : FnOk P w K mg base jT 1 f fd ["self"] (vI (jG cP cB cU) cR cN cO BF):=by
 refine F.ok2 O3 fun vs H Q E h=>?_
 refine zB h fun b x A R L N B h=>?_
 refine vU h fun e_ hq q=>?_
 subst e_;refine ⟨rfl,fun _ _ _ _ hr=>?_⟩;refine ⟨_,(jN (QY ["name","words"] (vZ 2 []) rfl (v9 (kK lV)) (cps 2 []) (yE (j6 K (jA 0) rfl)) (fun _ _ _ _ _=>(QK (n:=2) K rfl (qZ (kT (i:=0) (show List.Nodup (["name","words"]:List Str) from by trivial) rfl (.inl rfl)) (qZ (kT (i:=1) (show List.Nodup (["name","words"]:List Str) from by trivial) rfl (.inl rfl)) JH)))) (fun _ _ _ _ _=>zN) (fun _ _ _ _ _=>(qC (jC (jA 0) (jC (vJ (y8 K) (by rfl) T.xm aG (jC (jA 1) jE)) jE)))))),?_⟩
 try dsimp only [jY,jX]
 obtain ⟨db,nl,wl,pl,ql,el,fs,J,hb,a4,hf,a3,a5,O,an,a0,a6⟩:=hq.ob;refine (j8 hb (T.clO) (T.nO_kept_words) (hf.2.2.2.2.2.1) (⟨ql,rfl,⟨_,so O⟩,fun l hl=>?_⟩));have Y:=hq.wd.mono (WdAt.same (JG H A));have o1:=hq.ok.e15;have o2:=hq.ok.qn;refine cZ (K:=K) (a:=ql) (xs:=B.qs) (fun i σ M=>∃(c1 c2:Option V) (vs:List V),σ=[c1,c2]/\M l=some (.lst vs)/\AllAt (WdNew H l M) vs (B.qd.take i)/\Same H M) (jQ none none ([]) (kB rfl jF AllAt.nil (jK hl _))) (fun i σ M _ ⟨_,_,_,_,_,_,s⟩=>so (s _ _ O)) ?_ ?_
 ·rintro i v σ M hv ⟨c1,c2,vs,rfl,hY,J,I⟩;have hi:=(ad.mp hv).1;obtain ⟨p,hp,t,lw,rfl,ht,am⟩:=Y.2 i v hv;refine ⟨t,jB rfl (⟨SqT.of (I _ _ ht),rfl,_,jB rfl (⟨_,_,rfl,rfl,?_⟩)⟩)⟩;refine yZ (qG (⟨lw,jB rfl (⟨.inl (so (I _ _ am)),fun l2 G=>⟨zz2,fun t2 S=>?_⟩⟩)⟩));have u:=jK G (.lst (p.2.map V.str));have u2:=jK S (.tup [V.str p.1,V.ref l2]);have ah:=u2 _ _ (jF (H:=M) (a:=l2) (o:=.lst (p.2.map V.str)));have Z:=u2 _ _ (u _ _ hY);have al:=J.1;rw [bd] at al;refine ⟨vs,⟨Z,vN (by lia),(jQ _ _ (vs++[.ref t2]) (kB rfl jF ?_ (qY hl ((I.trans u).trans u2))))⟩⟩;rw [aK,hp];exact ((J.mono (WdNew.same (u.trans u2))).snoc (v:=.ref t2) (x:=p) ⟨t2,l2,(j5 rfl ((I.trans u).free S) (I.free G) ((q9 hY G).symm) jF ah)⟩).mono (WdNew.put Z)
 rintro σ Hf ⟨c1,c2,vs,rfl,hY,J,I⟩;rw [Y.1,aW] at J;exact q l vs Hf I hl hY J
theorem OX:jV 2 ["self","canal"] rX:=jU
include T in
theorem L0 (F:Fun K "__init__" "Book.__init__" rX f fd) (a8:Def P w K mg base 6 "begun" ["canal","ways"] [] (HE (jG cP cB cU) cR cN)):FnOk P w K mg base jT 7 f fd ["self","canal"] (xC (jG cP cB cU) cR cN cO):=by
 refine F.ok2 OX fun vs H Q E h=>?_
 refine cH h fun b O x R L N h=>?_
 refine cJ h fun e_ hb am M q=>?_
 subst e_;refine ⟨rfl,fun _ _ _ _ hr=>?_⟩;refine tk fun x0=>?_
 let u0:=ru x0 [4] (jI (yG (jA 0) (qA jE) rfl)
   (jI (yG (jA 0) (qA jE) rfl)
   (kU (yG (jA 0) (qA jE) rfl))))
 let u1:=ru x0 [3] (jI (yG (jA 0) (jR a8 hr rfl (jC (jA 1) (jC (qA jE) jE))) rfl)
   u0.h)
 let u2:=ru x0 [2] (jI (yG (jA 0) (qA jE) rfl)
   u1.h)
 let u3:=ru x0 [1] (jI (yG (jA 0) (qA jE) rfl)
   u2.h)
 refine ⟨_,(jI (yG (jA 0) (jA 1) rfl)
   u3.h),?_⟩
 try dsimp only [jY,jX]
 have hT:=JE M;have r1:R.length<=100:=by have:=M.r8;lia
 have al:L.length<=100:=by have:=M.l8;lia
 have J:IniJ H H b O cO [] 0 []:=⟨hb,ao _,(fun c hc=>by cases hc),fe,Same.refl _⟩;refine (jQ b cO O (jB rfl (jO hb T.clO T.nO_kept_canal (by show 0<1000;decide) ?_)));obtain ⟨G0,e0,J,k0⟩:=J.set "kept_canal" (.ref x);rw [e0];refine ⟨aN _,fun nl V=>(jQ b cO O (jB rfl (jO ((jK V _) _ _ J.jb) T.clO T.nO_kept_names (cy J.jn (by decide)) ?_)))⟩;obtain ⟨G1,e1,J,k1⟩:=J.step V "kept_names";rw [e1];refine ⟨aN _,fun wl Y=>(jQ b cO O (jB rfl (jO ((jK Y _) _ _ J.jb) T.clO T.nO_kept_ways (cy J.jn (by decide)) ?_)))⟩;obtain ⟨G2,e2,J,k2⟩:=J.step Y "kept_ways";rw [e2];refine (⟨aN _,fun ex a5=>?_⟩);have u1:=jK a5 (.lst []);have a0:CnAt (jG cP cB cU) cR cN [] (upd G2 ex (.lst [])) x R L N:=(am.same J.jd).same ((JG _ _).trans u1);refine kL x ex ([]) ([]) R L N (JD rfl a0 jF (aN _) r1 al hT (fun st wt zt Hs gs s4 g1 g2 a6 g3=>?_));have G:StAt Hs st 0 (yK (v8 R L.length) (kR R L.length) gs) (List.replicate 0 0):=⟨wt,zt,g1,g2,g3⟩
 replace J:=J.same (u1.trans s4)
 refine (jQ b cO O (jB rfl (jO J.jb T.clO T.nO_kept_state (cy J.jn (by decide)) ?_)));have a7:=J.jb;obtain ⟨G3,e3,J,k3⟩:=J.set "kept_state" (.ref st);rw [e3]
 replace G:=G.tup fun t l ht=>k3 _ _ (yP ht a7 (fun z=>nomatch z)) ht
 refine ⟨aN _,fun pl Z=>(jQ b cO O (jB rfl (jO ((jK Z _) _ _ J.jb) T.clO T.nO_kept_pours (cy J.jn (by decide)) ?_)))⟩;obtain ⟨G4,e4,J,k4⟩:=J.step Z "kept_pours";rw [e4]
 replace G:=G.tup k4
 refine ⟨aN _,fun ql S=>(jQ b cO O (jB rfl (jO ((jK S _) _ _ J.jb) T.clO T.nO_kept_words (cy J.jn (by decide)) ?_)))⟩;obtain ⟨G5,e5,J,k5⟩:=J.step S "kept_words";rw [e5]
 replace G:=G.tup k5
 refine ⟨aN _,fun el ah=>(jQ b cO O (jB rfl (jO ((jK ah _) _ _ J.jb) T.clO T.nO_kept_entries (cy J.jn (by decide)) ?_)))⟩;obtain ⟨G6,e6,J,k6⟩:=J.step ah "kept_entries";rw [e6]
 replace G:=G.tup k6
 have nd:=J.jnd;simp only [cu,aj,au,bb,not_or,gd,fe,and_true] at nd;obtain ⟨⟨a1,a2,a3,a4⟩,⟨b1,b2,b3⟩,⟨c1,c2⟩,c3⟩:=nd;have nd:[nl,pl,ql,el].Nodup:=by
  simp only [cu,aj,au,bb,not_or,gd,fe,and_true];exact ⟨⟨Ne.symm c2,Ne.symm b3,Ne.symm a4⟩,⟨Ne.symm b1,Ne.symm a2⟩,Ne.symm a1⟩
 have d8:Same (qD H [b]) (qD G6 [b,nl,pl,ql,el]):=J.jd.trans (WU fun a h=>by simp only [aj,au,bb] at h ⊢;rcases h with h|h|h|h|h<;>simp [h]);have I:=fun c hc=>J.jl c hc
 have nT:∀a∈[b,nl,pl,ql,el],∀l,G6 a≠some (.tup l):=fun a h l e=>by
  rcases aj.mp h with rfl|h
  ·rw [J.jb] at e;cases e
  ·rw [I a (by simp only [aj,au,bb] at h ⊢;rcases h with h|h|h|h<;>simp [h])] at e;cases e
 have an:qD G6 [b,nl,pl,ql,el] wl=some (.lst []):=by
  rw [yJ]
  ·exact I wl (by simp)
  ·simp only [aj,au,bb,not_or];exact jO (yP (I wl (by simp)) J.jb (fun z=>nomatch z)) c3 (Ne.symm c1) (Ne.symm b2) (Ne.symm a3)
 refine q [b,nl,pl,ql,el] ⟨[],[],0,yK (v8 R L.length) (kR R L.length) gs,[],[],st,[],[],[],[],[]⟩ G6 ⟨(JC O nl wl pl ql el (jB rfl (eJ J.jb J.jn (YM _ _ _ _ _ _ _) (I nl (by simp)) (I pl (by simp)) (I ql (by simp)) (I el (by simp)) nd an))),am.same d8,AllAt.nil,StAt.del nT G,AllAt.nil,PoursH.nil _ _,?_⟩ (eA rfl rfl rfl rfl rfl rfl rfl rfl rfl ⟨gs,⟨a6,rfl⟩⟩) d8;exact ⟨M,⟨rfl,aN _,(fun y hy=>by cases hy),fun i y p hy=>by cases hy⟩,by show (yK _ _ _).length=_;unfold yK;rw [yB,QW],dq _,rfl,aN _,aN _,aN _,aN _,(fun z hz=>by cases hz),fun z hz=>by cases hz⟩
theorem RY:jV 2 ["word","signs"] mK:=jU
include T in
theorem OU (F:kG K "written_with" mK f fd) : FnOk P w K mg base jT 1 f fd ["word","signs"] (IK):=by
 refine F.ok2 RY fun vs H Q E h=>?_
 obtain ⟨w,S,rfl,hw,q⟩:=h;refine ⟨rfl,fun _ _ _ _ hr=>?_⟩;refine ⟨_,(jN (ZN (V3 iX iX jD (yX SE (by rfl) T.xk PySem.boot_len (jC (jA 0) jE)) (ZK (v:=.int 12) rfl T.wz ⟨_,rfl⟩)) (bV (yX (EX rfl) (by rfl) T.jp PyProof.Rows.boot_all (jC (pV ["sign","signs"] [1] (v9 (kK mK)) (Y4 (jA 0)) (fun _ _ _ _ _=>(zC UJ (jA 0) (jA 1)))) jE))))),?_⟩
 try dsimp only [jY,jX]
 have Z:w.length<=sizeLine:=small (by lia);refine (⟨w,rfl,Z,_,_,rfl,rfl,jB rfl (?_)⟩);have J:∀H':Hp,Same H H'->JM S w=false->Q (.bl false) H':=fun H' s e=>by
  have:=q H' s;rw [e] at this;exact this
 by_cases h1:(1:Int)<=((w.length:Nat):Int)
 ·refine kX h1 ⟨_,_,rfl,rfl,jB rfl (?_)⟩
  by_cases h2:((w.length:Nat):Int)<=12
  ·refine kX h2 (⟨w,rfl,fun D hD=>?_⟩);refine VE (z:=w) (caps:=[some (.str S)]) (fun i ys Hi=>∃G:List Bool,ys=G.map V.bl/\G.length=i/\G.all id=eE S w i) hD ⟨[],rfl,rfl,rfl⟩ ?_ ?_
   ·rintro i c ys Hi hc O Y hY ⟨G,rfl,M,I⟩;have hi:i<w.length:=(fi.mp hc).1;refine yZ (qG (⟨(⟨#[c]⟩:Str),S,rfl,rfl,?_⟩));refine JP hD Y hY O (by lia) (Same.refl _) ⟨G++[pN S c],by rw [aJ];rfl,by rw [af,M];rfl,?_⟩;rw [VJ hc,all_append,I];simp
   ·rintro ys Hf Y hY O ⟨G,rfl,M,I⟩;refine ⟨D,G,rfl,so hY,?_⟩;have e:G.all id=JM S w:=by
     unfold JM;rw [I,aB (show 0<w.length by lia),aB (show w.length<13 by lia)];rfl
    rw [e];exact q Hf Y
  ·refine j9 h2 (J H (Same.refl _) ?_);unfold JM;rw [ax (show ¬w.length<13 by lia),Bool.and_false];rfl
 ·refine j9 h1 (jB rfl (qK (J H (Same.refl _) ?_)));unfold JM;rw [ax (show ¬0<w.length by lia)];rfl
theorem RB:jV 1 ["word"] uA:=jU
include T in
theorem NQ (F:kG K "is_name" uA f fd) (I:Def P w K mg base 1 "written_with" ["word","signs"] [] (IK)):FnOk P w K mg base jT 2 f fd ["word"] (FM):=by
 refine F.ok2 RB fun vs H Q E h=>?_
 obtain ⟨w,rfl,G,q⟩:=h;refine ⟨rfl,fun _ _ _ _ J=>?_⟩;refine ⟨_,(jN (jR I J rfl (jC (jA 0) (jC (ZK (v:=.str lettersS) rfl T.xaF ⟨_,rfl⟩) jE)))),?_⟩
 try dsimp only [jY,jX]
 exact (⟨w,lettersS,rfl,G,q⟩)
theorem P4:jV 2 ["name","names"] tU:=jU
include T in
theorem NG (F:kG K "boat_called" tU f fd) : FnOk P w K mg base (kO P w) 1 f fd ["name","names"] (IR eU):=by
 refine F.okX2 P4 fun vs H Q E h=>?_
 refine lG h fun nm l zs h=>?_
 refine cJ h fun Z I J S O=>?_
 subst Z;refine ⟨rfl,fun _ _ _ _ hr=>?_⟩;refine ⟨_,(jI (kE (kA SB (jA 0) (jA 1)) (kU (ZI ZG rfl rfl T.ui T.uj (jC jP jE))) kI)
   (jN (zR aQ PySem.F.slot_list_index PySem.F.type_list_index WD (jA 1) (jC (jA 0) jE)))),?_⟩
 try dsimp only [jY,jX]
 refine (⟨l,jB rfl (kB (.inl (so I)) rfl (xH zs) (jB rfl (?_)))⟩);show if (!ZT (V.str nm) (zs.map V.str))=true then _ else _
 cases G:kJ zs nm with
 |none =>
  rw [fg.mpr fun h=>absurd (in_iff.mp h) (fun z=>z (m6 G))];exact qG ⟨by show 1<=sizeLine;decide,O G⟩
 |some i =>
  rw [mem_inV.mpr (ag (cY G).1)];obtain ⟨M,f2,Y⟩:=U2 (cY G);exact qK (⟨.inl ⟨rfl,_,so I⟩,(j0 l _ _ i (eA rfl rfl I rfl (xH _) M (by rw [ae] at M;lia) f2 Y (S i G)))⟩)
theorem RI:jV 2 ["book","entry"] uF:=jU
include T in
theorem NZ (F:kG K "number_named" uF f fd) (jv:DefX P w K mg base 1 "boat_called" ["name","names"] [] (IR eU)) (xo:MeD P w K mg base 1 cO "names" ["self"] (vI (jG cP cB cU) cR cN cO (zK fun B=>B.zs.map V.str))) (zi:MeX P w K mg base 2 cN "lock_at" ["self","name"] (bA (jG cP cB cU) cR cN eU 1)) (xc:MeD P w K mg base 1 cO "canal" ["self"] (Z9 (jG cP cB cU) cR cN cO)) (xu:MeX P w K mg base 2 cN "reach_at" ["self","name"] (bA (jG cP cB cU) cR cN eU 0)):FnOk P w K mg base (kO P w) 3 f fd ["book","entry"] (vH (jG cP cB cU) cR cN cO (dX eU)):=by
 refine F.okX2 RI fun vs H Q E h=>?_
 refine JY h fun b t x A R L N B e h=>?_
 refine QQ h fun e_ Z G a0 ah qv qe=>?_
 subst e_;refine ⟨rfl,fun _ _ _ _ hr=>?_⟩;refine tk fun x0=>?_
 let u0:=ru x0 [1] (jI (kE (kA kM (jH (jM K) (jA 1) jD) jP) (jN (Q3 zi qI hr (kW xc hr (jA 0)) (jC (jH (jM K) (jA 1) jD) jE))) kI)
   (jN (Q3 xu qI hr (kW xc hr (jA 0)) (jC (jH (jM K) (jA 1) jD) jE))))
 refine ⟨_,(jI (kE (kA kM (jH (jM K) (jA 1) jD) jP) (jN (vA jv qI hr rfl (jC (jH (jM K) (jA 1) jD) (jC (kW xo hr (jA 0)) jE)))) kI)
   u0.h),?_⟩
 try dsimp only [jY,jX]
 obtain ⟨db,fs,hb,Y⟩:=Z.ins;have S:=Z.cnH;have O:=S;have r8:=Z.ok.dr.r8;have l8:=Z.ok.dr.l8;have z9:=Z.ok.z9;cases e with
 |come e=>cases ah
 |night W=>cases ah
 |pas n =>
  refine (jJ (SqT.of G) rfl (⟨rfl,jB rfl (kX rfl (jJ (SqT.of G) rfl (⟨b,db,jB rfl (⟨hb,Y _ (by trivial),kL b x A R L N B (kN rfl Z (fun l M J a3 hl=>?_))⟩)⟩)))⟩));exact jQ n l B.zs (jO rfl hl (by lia) (fun i I=>qv i I M J) (fun I=>qe I M J))
 |lt n =>
  refine (jJ (SqT.of G) rfl (⟨rfl,jB rfl (j9 (fun e=>absurd (V.str.inj e) (by trivial)) (jJ (SqT.of G) rfl (⟨rfl,jB rfl (kX rfl ?_)⟩)))⟩));refine (⟨b,db,jB rfl (⟨hb,Y _ (by trivial),kL b x A R L N B (kN rfl Z (?_))⟩)⟩);obtain ⟨dx,rl,ll,nl,gs,rs,ls,nv,hx,hf,an,al,am,hR,hL,hN,d1,d2,d3⟩:=S;exact ⟨x,dx,jB rfl (⟨hx,hf.no (by trivial) (by trivial) (by trivial),(jJ (SqT.of G) rfl (JC x ([]) R L N n (j5 rfl O (c8 r8) (c8 l8) (fun i I M J=>qv i (dB I) M J) (fun I M J=>qe (fF I) M J))))⟩)⟩
 |take n a =>
  refine (jJ (SqT.of G) rfl (⟨rfl,jB rfl (j9 (fun e=>absurd (V.str.inj e) (by trivial)) (jJ (SqT.of G) rfl (⟨rfl,jB rfl (j9 (fun e=>absurd (V.str.inj e) (by trivial)) ?_)⟩)))⟩));refine (⟨b,db,jB rfl (⟨hb,Y _ (by trivial),kL b x A R L N B (kN rfl Z (?_))⟩)⟩);obtain ⟨dx,rl,ll,nl,gs,rs,ls,nv,hx,hf,an,al,am,hR,hL,hN,d1,d2,d3⟩:=S;exact ⟨x,dx,jB rfl (⟨hx,hf.no (by trivial) (by trivial) (by trivial),(jJ (SqT.of G) rfl (JC x ([]) R L N n (j5 rfl O (c8 r8) (c8 l8) (fun i I M J=>qv i (dB I) M J) (fun I M J=>qe (fF I) M J))))⟩)⟩
 |rain n a =>
  refine (jJ (SqT.of G) rfl (⟨rfl,jB rfl (j9 (fun e=>absurd (V.str.inj e) (by trivial)) (jJ (SqT.of G) rfl (⟨rfl,jB rfl (j9 (fun e=>absurd (V.str.inj e) (by trivial)) ?_)⟩)))⟩));refine (⟨b,db,jB rfl (⟨hb,Y _ (by trivial),kL b x A R L N B (kN rfl Z (?_))⟩)⟩);obtain ⟨dx,rl,ll,nl,gs,rs,ls,nv,hx,hf,an,al,am,hR,hL,hN,d1,d2,d3⟩:=S;exact ⟨x,dx,jB rfl (⟨hx,hf.no (by trivial) (by trivial) (by trivial),(jJ (SqT.of G) rfl (JC x ([]) R L N n (j5 rfl O (c8 r8) (c8 l8) (fun i I M J=>qv i (dB I) M J) (fun I M J=>qe (fF I) M J))))⟩)⟩
theorem C0:jV 2 ["book","entry","way"] uQ:=jU
include T in
theorem OC (F:kG K "refuse_wrong_come" uQ f fd) (an:Def P w K mg base 2 "is_name" ["word"] [] (FM)) (xo:MeD P w K mg base 1 cO "names" ["self"] (vI (jG cP cB cU) cR cN cO (zK fun B=>B.zs.map V.str))) (vx:DefX P w K mg base 3 "way_told" ["canal","entry"] [] (xJ (jG cP cB cU) cR cN eU)) (xc:MeD P w K mg base 1 cO "canal" ["self"] (Z9 (jG cP cB cU) cR cN cO)) (a3:DefX P w K mg base 2 "linked" ["canal","start","steps"] [] (x9 K (jG cP cB cU) cR cN eL)):FnOk P w K mg base (kO P w) 4 f fd ["book","entry"] (EC (jG cP cB cU) cR cN cO eB eT eM eU eL):=by
 refine F.okX2 C0 fun vs H Q E h=>?_
 refine JY h fun b t x A R L N B e h=>?_
 refine JZ h fun e_ Z ah a7 qv qe=>?_
 subst e_;obtain ⟨a5,a9,bt⟩:=a7;refine ⟨rfl,fun _ _ _ _ hr=>?_⟩;refine tk fun x0=>?_
 let u0:=ru x0 [4] (kU (yH (vA a3 qI hr rfl (kH (kW xc hr (jA 0)) (jH (jM K) (jA 2) jD) (jH (jM K) (jA 2) jD)))))
 let u1:=ru x0 [3] (jI (jW 2 C0.nd (vA vx qI hr rfl (jC (kW xc hr (jA 0)) (jC (jA 1) jE))))
   u0.h)
 let u2:=ru x0 [2] (jI (kE (kA iY (qR K T.xk (kW xo hr (jA 0))) (ZK (v:=.int 9) rfl T.ua ⟨_,rfl⟩)) (kU (ZI ZG rfl rfl T.xaD T.xaE (jC jP jE))) kI)
   u1.h)
 let u3:=ru x0 [1] (jI (kE (kA UK (jH (jM K) (jA 1) jD) (kW xo hr (jA 0))) (kU (ZI ZG rfl rfl T.xbi T.xbj (jC jP jE))) kI)
   u2.h)
 refine ⟨_,(jI (kE (J8 (vQ (jR an hr rfl (jC (jH (jM K) (jA 1) jD) jE)))) (kU (ZI ZG rfl rfl T.xaY T.xa0 (jC jP jE))) kI)
   u3.h),?_⟩
 try dsimp only [jY,jX]
 obtain ⟨db,fs,hb,S⟩:=Z.ins;obtain ⟨st,us,h1,h2,h3⟩:=id ah;have r8:=Z.ok.dr.r8;have l8:=Z.ok.dr.l8;have J:∀(n:Nat) (H':Hp),Same H H'->vS R L B.zs e=n->n≠0->E (.ref (rA eB eT eM eU eL n)) none H':=fun n H' s h1 h2=>by
  rw [<- h1];exact qe (by rw [h1];exact h2) H' s
 refine (jJ (SqT.of h1) rfl (⟨e.name,rfl,a5,fun H1 s1=>(jB rfl (?_))⟩));cases hg:JM lettersS e.name with
 |false =>
  have O:vS R L B.zs e=1:=by unfold vS;rw [if_pos hg]
  exact qG ⟨by show 1<=sizeLine;decide,J 1 H1 s1 O (by decide)⟩
 |true =>
  have I:¬JM lettersS e.name=false:=by rw [hg];decide
  refine qK (jJ (SqT.of (s1 _ _ h1)) rfl (⟨b,db,jB rfl (⟨(s1 _ _ hb),S _ (by trivial),kL b x A R L N B (kN rfl (Z.same s1) (fun l H2 s2 br hl=>?_))⟩)⟩));have Y:=s1.trans s2;refine ⟨l,jB rfl (kB (.inl (so hl)) rfl (xH B.zs) (jB rfl (?_)))⟩;show if ZT (V.str e.name) (B.zs.map V.str)=true then _ else _
  by_cases hz:e.name∈B.zs
  ·have O:vS R L B.zs e=2:=by unfold vS;rw [if_neg I,if_pos hz]
   rw [mem_inV.mpr hz];exact qG ⟨by show 1<=sizeLine;decide,J 2 H2 Y O (by decide)⟩
  rw [fg.mpr fun h=>hz (mem_inV.mp h)];refine qK (⟨b,db,jB rfl (⟨(Y _ _ hb),S _ (by trivial),kL b x A R L N B (kN rfl (Z.same Y) (fun l2 H3 s3 a8 am=>?_))⟩)⟩);have G:=Y.trans s3;refine ⟨l2,jB rfl (⟨.inl (so am),_,_,rfl,rfl,jB rfl (?_)⟩)⟩;rw [ae]
  by_cases h9:9<=B.zs.length
  ·have O:vS R L B.zs e=3:=by unfold vS;rw [if_neg I,if_neg hz,if_pos h9]
   exact kX (by lia) ⟨by show 1<=sizeLine;decide,J 3 H3 G O (by decide)⟩
  refine j9 (by lia) (⟨b,db,jB rfl (⟨(G _ _ hb),S _ (by trivial),kL b x A R L N B (kN rfl (Z.same G) (kL x t e ([]) R L N (JD rfl ((Z.same G).cnH) (c8 r8) (c8 l8) (ah.same G) (by lia) (fun y hy w1 H4 s4 be a0=>?_) (fun hn H4 s4=>?_))))⟩)⟩)
  case refine_2 =>
   have O:vS R L B.zs e=4:=by unfold vS;rw [if_neg I,if_neg hz,if_neg h9,hn]
   exact J 4 H4 (G.trans s4) O (by decide)
  have M:=G.trans s4;obtain ⟨tw,sw,vs,ew,g1,g2,g3⟩:=id a0;cases ew;obtain ⟨a,_,_,_,bv,a4⟩:=nM hy;refine (⟨b,db,jB rfl (⟨(M _ _ hb),S _ (by trivial),kL b x A R L N B (kN rfl (Z.same M) (jJ (SqT.of g1) rfl (jJ (SqT.of g1) rfl (vP x sw y.1 vs y.2 ([]) R L N (JD rfl ((Z.same M).cnH) g2 g3 a4 (by lia) (fun a6 r H5 s5 bl hr=>?_) (fun al H5 s5=>?_))))))⟩)⟩)
  ·have O:vS R L B.zs e=0:=by unfold vS;rw [if_neg I,if_neg hz,if_neg h9,hy];exact if_pos a6
   exact qv O H5 (M.trans s5)
  ·have O:vS R L B.zs e=5:=by unfold vS;rw [if_neg I,if_neg hz,if_neg h9,hy];exact if_neg al
   exact J 5 H5 (M.trans s5) O (by decide)
theorem wN:jV 2 ["book","weather","canal","day"] uR:=jU
include T in
theorem OD (F:kG K "refuse_wrong_night" uR f fd) (xc:MeD P w K mg base 1 cO "canal" ["self"] (Z9 (jG cP cB cU) cR cN cO)) (xb:MeD P w K mg base 1 cO "state" ["self"] (vI (jG cP cB cU) cR cN cO Z8)) (a3:Def P w K mg base 1 "wet_enough" ["weather","other"] [] (IM)):FnOk P w K mg base (kO P w) 3 f fd ["book","weather"] (DJ (jG cP cB cU) cR cN cO eN eD):=by
 refine F.okX2 wN fun vs H Q E h=>?_
 obtain ⟨b,wt,x,A,R,L,N,B,us,W,rfl,I,Y,hA,S,q0,q7,q8⟩:=h;refine ⟨rfl,fun _ _ _ _ hr=>?_⟩;refine tk fun x0=>?_
 let u0:=ru x0 [3] (kU (kE (PW.pt (iR (kA bB (jA 3) (qR K T.xk (j6 K (jA 2) rfl))) (iI (J8 (vQ (jR a3 hr rfl (jC (jA 1) (jC (jH (kQ K) (j6 K (jA 2) rfl) (jA 3)) jE)))))))) (kU (ZI ZG rfl rfl T.xaZ T.xa1 (jC jP jE))) kI))
 let u1:=ru x0 [2] (jI (kE (kA JU (qR K T.xk (jA 1)) (qR K T.xk (j6 K (jA 2) rfl))) (kU (ZI ZG rfl rfl T.uy T.ja (jC jP jE))) kI)
   u0.h)
 let u2:=ru x0 [1] (jI (jW 3 wN.nd (jH (jM K) (kW xb hr (jA 0)) jD))
   u1.h)
 refine ⟨_,(jI (jW 2 wN.nd (kW xc hr (jA 0)))
   u2.h),?_⟩
 try dsimp only [jY,jX]
 obtain ⟨db,fs,hb,al⟩:=I.ins;have an:=I.cnH;obtain ⟨dx,rl,ll,nl,gs,rs,ls,nv,hx,hf,a4,a8,O,hR,hL,hN,d1,d2,d3⟩:=id an;have a0:=I.stH;obtain ⟨ww,pt,g1,g2,g3⟩:=a0;have r8:=I.ok.dr.r8;have d0:=I.ok.d0;refine (⟨b,db,jB rfl (⟨hb,al _ (by trivial),kL b x A R L N B (kN rfl I (?_))⟩)⟩);refine (⟨b,db,jB rfl (⟨hb,al _ (by trivial),kL b x A R L N B (kN rfl I (jJ (SqT.of g1) rfl (?_)))⟩)⟩);refine (⟨wt,jB rfl (⟨.inr (SqT.of Y),(j8 hx (T.clN) (T.xf) (hf.1) (⟨rl,jB rfl (⟨.inl (so a4),rfl,jB rfl (?_)⟩)⟩))⟩)⟩);have be:=hA.1;have a6:=hR.1;have G:qL R L N B (.night W)=if W.length=R.length then (if B.d<(N.length:Int)/\b7 W (N.getD B.d.toNat [])=false then 8 else 0) else 7:=rfl
 by_cases hw:W.length=R.length
 case neg =>
  rw [if_neg hw] at G;exact bC (fun z=>hw (by have:=V.int.inj z;lia)) ⟨by show 1<=sizeLine;decide,q7 G H (Same.refl _)⟩
 rw [if_pos hw] at G;refine JV (bf V.int (by lia)) ?_;have a7:=hN.1;refine (j8 hx (T.clN) (T.xq) (hf.2.2.1) (⟨nl,jB rfl (⟨.inl (so O),_,_,rfl,rfl,jB rfl (?_)⟩)⟩))
 by_cases hd:B.d<(N.length:Int)
 case neg =>
  rw [if_neg (fun z=>hd z.1)] at G;exact j9 (by lia) (q0 G H (Same.refl _))
 obtain ⟨dn,ah⟩:∃dn:Nat,B.d=(dn:Int):=⟨B.d.toNat,by lia⟩;obtain ⟨M,J⟩:∃M,N[dn]?=some M:=⟨_,aa (by lia)⟩;obtain ⟨v,hv,wn,qs,rfl,a5,am,_⟩:=hN.get J;have eW:N.getD B.d.toNat []=M:=by rw [ah,ay,ac,J];rfl
 rw [eW] at G;have a9:=I.ok.dr.night M (ag J);refine kX (by lia) (j8 hx (T.clN) (T.xq) (hf.2.2.1) (jQ nl _ _ (jB rfl (kB (by rw [ah]) (so O) (qF hv) (JC wt wn us qs W M (JD rfl Y a5 hA am (by lia) S (fun H1 s1=>(jB rfl (?_)))))))));cases Z:b7 W M with
 |true =>
  rw [Z,if_neg (fun z=>nomatch z.2)] at G;exact qK (q0 G H1 s1)
 |false =>
  rw [Z,if_pos ⟨hd,rfl⟩] at G;exact qG ⟨by show 1<=sizeLine;decide,q8 G H1 s1⟩
theorem RM:jV 2 ["book","entry"] uP:=jU
include T in
theorem OB (F:kG K "refuse_wrong" uP f fd) (vy:DefX P w K mg base 4 "refuse_wrong_come" ["book","entry"] [] (EC (jG cP cB cU) cR cN cO eB eT eM eU eL)) (vo:DefX P w K mg base 3 "refuse_wrong_night" ["book","weather"] [] (DJ (jG cP cB cU) cR cN cO eN eD)) (xi:DefX P w K mg base 3 "number_named" ["book","entry"] [] (vH (jG cP cB cU) cR cN cO (dX eU))):FnOk P w K mg base (kO P w) 5 f fd ["book","entry"] (vH (jG cP cB cU) cR cN cO (LB eB eT eM eU eL eN eD)):=by
 refine F.okX2 RM fun vs H Q E h=>?_
 refine JY h fun b t x A R L N B e h=>?_
 refine JZ h fun e_ hq J M Z S=>?_
 subst e_;refine ⟨rfl,fun _ _ _ _ hr=>?_⟩;refine tk fun x0=>?_
 let u0:=ru x0 [0,1,0] (kU (kE (kA kM (jH (jM K) (jA 1) jD) jP) (kU (yH (vA vo qI hr rfl (jC (jA 0) (jC (jH (jM K) (jA 1) jD) jE))))) (kU (yH (vA xi qI hr rfl (jC (jA 0) (jC (jA 1) jE)))))))
 refine ⟨_,(kU (kE (kA kM (jH (jM K) (jA 1) jD) jP) (kU (yH (vA vy qI hr rfl (jC (jA 0) (jC (jA 1) jE))))) u0.h)),?_⟩
 try dsimp only [jY,jX]
 have ah:zT e=true->dX eU R L N B t e H (fun _ H'=>Q .non H') E:=fun h=>by
  have I:qL R L N B e=if Q7 R L B.zs e=none then 4 else 0:=by cases e<;>first|rfl|cases h
  refine ⟨h,fun i Y H' s=>Z (by rw [I,if_neg (by rw [Y];simp)]) H' s,fun Y H' s=>?_⟩;rw [if_pos Y] at I;have:=S (by rw [I];decide) H' s;rw [I] at this;exact this
 by_cases G:zT e=true
 ·obtain ⟨tl,hh⟩:=J.head;obtain ⟨k1,k2⟩:=GD G;exact (jJ (SqT.of hh) zW (⟨rfl,jB rfl (j9 (fun z=>k1 (V.str.inj z)) (jJ (SqT.of hh) zW (⟨rfl,jB rfl (j9 (fun z=>k2 (V.str.inj z)) (vP b t x A R L N B e (jO rfl hq J M (ah G))))⟩)))⟩))
 cases e with
 |pas n=>exact absurd rfl G
 |lt n=>exact absurd rfl G
 |take n a=>exact absurd rfl G
 |rain n a=>exact absurd rfl G
 |come e =>
  obtain ⟨st,us,O,h2,h3⟩:=id J;refine (jJ (SqT.of O) rfl (⟨rfl,jB rfl (kX rfl (vP b t x A R L N B e (j5 rfl hq J M Z (fun I H' s=>?_))))⟩));have:=S I H' s;have hE:dY eB eT eM eU eL eN eD (qL R L N B (.come e))=rA eB eT eM eU eL (vS R L B.zs e):=by
   show dY eB eT eM eU eL eN eD (vS R L B.zs e)=_;have:=W1 R L B.zs e;unfold dY;rw [if_neg (by lia),if_neg (by lia)]
  rw [hE] at this;exact this
 |night W =>
  obtain ⟨wt,us,O,h2,h3⟩:=id J;refine (jJ (SqT.of O) rfl (⟨rfl,jB rfl (j9 (fun e=>absurd (V.str.inj e) (by trivial)) (jJ (SqT.of O) rfl (⟨rfl,jB rfl (kX rfl (jJ (SqT.of O) rfl (gE b wt x A R L N B us W (JD rfl hq h2 h3 M Z (fun I H' s=>?_) (fun I H' s=>?_)))))⟩)))⟩))
  ·have:=S (by rw [I];decide) H' s;rw [I] at this;exact this
  ·have:=S (by rw [I];decide) H' s;rw [I] at this;exact this
theorem P6:jV 2 ["book","entry"] tX:=jU
include T in
theorem NJ (F:kG K "deed_of" tX f fd) (xi:DefX P w K mg base 3 "number_named" ["book","entry"] [] (vH (jG cP cB cU) cR cN cO (dX eU))):FnOk P w K mg base (kO P w) 4 f fd ["book","entry"] (vH (jG cP cB cU) cR cN cO pI):=by
 refine F.okX2 P6 fun vs H Q E h=>?_
 refine JY h fun b t x A R L N B e h=>?_
 refine cJ h fun e_ hq G S Y=>?_
 subst e_;obtain ⟨de,I,q⟩:=Y;refine ⟨rfl,fun _ _ _ _ hr=>?_⟩;refine tk fun x0=>?_
 let u0:=ru x0 [1] (jI (kE (PW.pt (y6 (kA kM (jH (jM K) (jA 1) jD) jP) (QM (kA kM (jH (jM K) (jA 1) jD) jP)))) (jN (qC (jC (jH (jM K) (jA 1) jD) (jC (vA xi qI hr rfl (jC (jA 0) (jC (jA 1) jE))) jE)))) kI)
   IU)
 refine ⟨_,(jI (kE (kA kM (jH (jM K) (jA 1) jD) jP) (jN (qC (jC jP jE))) kI)
   u0.h),?_⟩
 try dsimp only [jY,jX]
 cases e with
 |come e=>cases I
 |take n a=>cases I
 |rain n a=>cases I
 |night W =>
  cases I;obtain ⟨wt,us,h1,h2,h3⟩:=id G;exact (jJ (SqT.of h1) rfl (⟨rfl,jB rfl (kX rfl ⟨zz1,fun M J=>q M _ (jK J _) jF⟩)⟩))
 |pas n =>
  obtain ⟨i,O,rfl⟩:=ba.mp I;refine (jJ (SqT.of G) rfl (⟨rfl,jB rfl (j9 (fun e=>absurd (V.str.inj e) (by trivial)) (jJ (SqT.of G) rfl (⟨rfl,jB rfl (kX rfl (jJ (SqT.of G) rfl (vP b t x A R L N B (.pas n) (vD rfl hq G S rfl (fun j hj H1 Z=>⟨zz2,fun M J=>?_⟩) (fun hn=>absurd (O.symm.trans hn) (by simp))))))⟩)))⟩));cases O.symm.trans hj;exact q M _ (Z.trans (jK J _)) jF
 |lt n =>
  obtain ⟨i,O,rfl⟩:=ba.mp I;refine (jJ (SqT.of G) rfl (⟨rfl,jB rfl (j9 (fun e=>absurd (V.str.inj e) (by trivial)) (jJ (SqT.of G) rfl (⟨rfl,jB rfl (j9 (fun e=>absurd (V.str.inj e) (by trivial)) (jJ (SqT.of G) rfl (⟨rfl,jB rfl (kX rfl (jJ (SqT.of G) rfl (vP b t x A R L N B (.lt n) (vD rfl hq G S rfl (fun j hj H1 Z=>⟨zz2,fun M J=>?_⟩) (fun hn=>absurd (O.symm.trans hn) (by simp))))))⟩)))⟩)))⟩));cases O.symm.trans hj;exact q M _ (Z.trans (jK J _)) jF
theorem C2:jV 2 ["book","entry","at"] uY:=jU
include T in
theorem OL (F:kG K "takes_too_much" uY f fd) (xi:DefX P w K mg base 3 "number_named" ["book","entry"] [] (vH (jG cP cB cU) cR cN cO (dX eU))) (xb:MeD P w K mg base 1 cO "state" ["self"] (vI (jG cP cB cU) cR cN cO Z8)) (xc:MeD P w K mg base 1 cO "canal" ["self"] (Z9 (jG cP cB cU) cR cN cO)):FnOk P w K mg base (kO P w) 4 f fd ["book","entry"] (vH (jG cP cB cU) cR cN cO KY):=by
 refine F.okX2 C2 fun vs H Q E h=>?_
 obtain ⟨b,t,x,A,R,L,N,B,e,rfl,I,O,Y,n,a,i,rfl,Z,q⟩:=h;refine ⟨rfl,fun _ _ _ _ J=>?_⟩;refine tk fun x0=>?_
 let u0:=ru x0 [1] (jN (zC bB (jL zA (jH (jM K) (jH (jM K) (kW xb J (jA 0)) jD) (jA 2)) (jH (jM K) (jA 1) jD)) (j6 K (jH (kQ K) (j6 K (kW xc J (jA 0)) rfl) (jA 2)) rfl)))
 refine ⟨_,(jI (jW 2 C2.nd (vA xi qI J rfl (jC (jA 0) (jC (jA 1) jE))))
   u0.h),?_⟩
 try dsimp only [jY,jX]
 obtain ⟨db,fs,hb,S⟩:=I.ins;refine (vP b t x A R L N B (.take n a) (vD rfl I O Y rfl (fun j hj H1 G=>?_) (fun hn=>absurd (Z.symm.trans hn) (by simp))));cases Z.symm.trans hj;have ah:=(I.same G).cnH;obtain ⟨dx,rl,ll,nl,gs,rs,ls,nv,hx,hf,al,an,a0,hR,hL,hN,d1,d2,d3⟩:=id ah;obtain ⟨ww,pt,g1,g2,g3⟩:=(I.same G).stH;have ml:=I.ok.ml;have M:=ZH Z;rw [ae] at M;obtain ⟨r,J⟩:∃r,R[i]?=some r:=⟨_,aa M⟩;obtain ⟨z,hz,yr,rfl,dy,hs,am,hg⟩:=hR.get J;have V:=G _ _ O;refine (⟨b,db,jB rfl (⟨(G _ _ hb),S _ (by trivial),kL b x A R L N B (kN rfl (I.same G) (jJ (SqT.of g1) rfl (jJ (SqT.of g2) (yT (by lia)) (jJ (SqT.of V) rfl (kD (?_))))))⟩)⟩);refine (⟨b,db,jB rfl (⟨(G _ _ hb),S _ (by trivial),kL b x A R L N B (kN rfl (I.same G) (j8 hx (T.clN) (T.xf) (hf.1) (k7 (so al) (qF hz) (j8 am (T.clR) (T.zm) (hg.2.1) (kD (?_))))))⟩)⟩);have q:=q H1 G;rw [J] at q;exact q
theorem C4:jV 2 ["book","entry","start"] wA:=jU
include T in
theorem OP (F:kG K "why_no_entry" wA f fd) (xu:MeX P w K mg base 2 cN "reach_at" ["self","name"] (bA (jG cP cB cU) cR cN eU 0)) (xc:MeD P w K mg base 1 cO "canal" ["self"] (Z9 (jG cP cB cU) cR cN cO)) (zv:Def P w K mg base 5 "has_no_berth" ["canal","ways","state","reach"] [] (xL (jG cP cB cU) cR cN)) (xj:MeD P w K mg base 1 cO "ways" ["self"] (vI (jG cP cB cU) cR cN cO (zK BkS.us))) (xb:MeD P w K mg base 1 cO "state" ["self"] (vI (jG cP cB cU) cR cN cO Z8)) (ud:DefX P w K mg base 4 "takes_too_much" ["book","entry"] [] (vH (jG cP cB cU) cR cN cO KY)) (um:Def P w K mg base 8 "why_not" ["canal","ways","state","deed"] [] (AV (jG cP cB cU) cR cN)) (zw:DefX P w K mg base 4 "deed_of" ["book","entry"] [] (vH (jG cP cB cU) cR cN cO pI)):FnOk P w K mg base (kO P w) 9 f fd ["book","entry"] (vH (jG cP cB cU) cR cN cO LA):=by
 refine F.okX2 C4 fun vs H Q E h=>?_
 refine JY h fun b t x A R L N B e h=>?_
 refine JZ h fun e_ I G am hc q=>?_
 subst e_;refine ⟨rfl,fun _ _ _ _ J=>?_⟩;refine tk fun x0=>?_
 let u0:=ru x0 [0,0,1] (jN (JR (vQ (jR zv J rfl (zD (kW xc J (jA 0)) (kW xj J (jA 0)) (kW xb J (jA 0)) (jA 2)))) jP jP))
 let u1:=ru x0 [0,0,0] (jI (jW 2 C4.nd (Q3 xu qI J (kW xc J (jA 0)) (jC (jH (jM K) (jA 1) jD) jE)))
   u0.h)
 let u2:=ru x0 [3] (jN (jR um J rfl (zD (kW xc J (jA 0)) (kW xj J (jA 0)) (kW xb J (jA 0)) (vA zw qI J rfl (jC (jA 0) (jC (jA 1) jE))))))
 let u3:=ru x0 [2] (jI (kE (kA kM (jH (jM K) (jA 1) jD) jP) (jN jP) kI)
   u2.h)
 let u4:=ru x0 [1] (jI (kE (kA kM (jH (jM K) (jA 1) jD) jP) (jN (JR (vQ (vA ud qI J rfl (jC (jA 0) (jC (jA 1) jE)))) jP jP)) kI)
   u3.h)
 refine ⟨_,(jI (kE (kA kM (jH (jM K) (jA 1) jD) jP) u1.h kI)
   u4.h),?_⟩
 try dsimp only [jY,jX]
 obtain ⟨db,fs,hb,O⟩:=I.ins;have r8:=I.ok.dr.r8;have l8:=I.ok.dr.l8
 by_cases M:ZO e=true
 ·obtain ⟨tl,hh⟩:=G.head;obtain ⟨k1,k2,k3⟩:=xO M;obtain ⟨de,a7,a5,a6,_⟩:=iM I.ok.zl M hc;rw [a6] at q;refine (jJ (SqT.of hh) zW (⟨rfl,jB rfl (j9 (fun z=>k1 (V.str.inj z)) (jJ (SqT.of hh) zW (⟨rfl,jB rfl (j9 (fun z=>k2 (V.str.inj z)) (jJ (SqT.of hh) zW (⟨rfl,jB rfl (j9 (fun z=>k3 (V.str.inj z)) ?_)⟩)))⟩)))⟩));refine (⟨b,db,jB rfl (⟨hb,O _ (by trivial),kL b x A R L N B (kN rfl I (⟨b,db,jB rfl (⟨hb,O _ (by trivial),kL b x A R L N B (kN rfl I (fun wl H2 s2 ah Z=>?_))⟩)⟩))⟩)⟩);refine (⟨b,db,jB rfl (⟨(s2 _ _ hb),O _ (by trivial),kL b x A R L N B (kN rfl (I.same s2) (vP b t x A R L N B e (jO rfl (I.same s2) (G.same s2) am ⟨de,a7,fun dd H3 s3 M=>?_⟩)))⟩)⟩);have a0:=s2.trans s3;exact lH x wl B.st dd de B.us B.ys B.d B.ms B.pl ([]) R L N (jO rfl ((I.same a0).stage (s3 _ _ Z)) M a5 (fun H4 s4=>q H4 (a0.trans s4)))
 cases e with
 |pas n=>exact absurd rfl M
 |lt n=>exact absurd rfl M
 |night W=>exact absurd rfl M
 |come e =>
  obtain ⟨b0,gH,h1,h2,h3⟩:=id G;obtain ⟨y,hy,bt,a9,h9⟩:=oN (show vS R L B.zs e=0 from hc);obtain ⟨a,ha,an,a4,bl,be⟩:=nM hy;obtain ⟨r,J⟩:∃r,R[a]?=some r:=⟨_,aa a4⟩;have al:=I.cnH;refine (jJ (SqT.of h1) rfl (⟨rfl,jB rfl (kX rfl (⟨b,db,jB rfl (⟨hb,O _ (by trivial),kL b x A R L N B (kN rfl I (?_))⟩)⟩))⟩));obtain ⟨dx,rl,ll,nl,gs,rs,ls,nv,hx,hf,br,bv,a8,hR,hL,hN,d1,d2,d3⟩:=id al;refine ⟨x,dx,jB rfl (⟨hx,hf.no (by trivial) (by trivial) (by trivial),(jJ (SqT.of h1) rfl (JC x ([]) R L N e.start (j5 rfl al (c8 r8) (c8 l8) (fun i S H1 s1=>?_) (fun hn=>absurd (fF (show ZL (R.map (·.name)) e.start from hn)) (by rw [an];simp)))))⟩)⟩;have S:kJ (R.map (·.name)) e.start=some i:=dB S;rw [an] at S;cases S;refine (⟨b,db,jB rfl (⟨(s1 _ _ hb),O _ (by trivial),kL b x A R L N B (kN rfl (I.same s1) (⟨b,db,jB rfl (⟨(s1 _ _ hb),O _ (by trivial),kL b x A R L N B (kN rfl (I.same s1) (fun wl H2 s2 ah Z=>?_))⟩)⟩))⟩)⟩);have Y:=s1.trans s2;refine (⟨b,db,jB rfl (⟨(Y _ _ hb),O _ (by trivial),kL b x A R L N B (kN rfl (I.same Y) (lH x wl B.st a r B.us B.ys B.d B.ms B.pl ([]) R L N (kB rfl ((I.same Y).stage Z) J (fun H3 s3=>(jB rfl (?_))))))⟩)⟩);have a3:bY R L B e=decide (r.berths<=(((vT L B.ys B.pl).countP fun z=>decide (z=(a:Int)):Nat):Int)):=by
   unfold bY;rw [hy];show decide (((R[y.1.toNat]?).map (·.berths)).getD 0<=_)=_;rw [ha,ay,J];rfl
  have q:=q H3 (Y.trans s3);have q:Q (.str (if bY R L B e=true then "berth" else "")) H3:=q;rw [a3] at q;cases hd:decide (r.berths<=(((vT L B.ys B.pl).countP fun z=>decide (z=(a:Int)):Nat):Int)) with
  |true=>rw [hd] at q;exact qG q
  |false=>rw [hd] at q;exact qK q
 |take n a =>
  obtain ⟨i,S⟩:=QJ (e:=.take n a) rfl hc;have S:kJ (R.map (·.name)) n=some i:=S;refine (jJ (SqT.of G) rfl (⟨rfl,jB rfl (j9 (fun e=>absurd (V.str.inj e) (by trivial)) (jJ (SqT.of G) rfl (⟨rfl,jB rfl (kX rfl (vP b t x A R L N B (.take n a) (jO rfl I G am (jQ n a i (kN rfl S (fun H1 s1=>(jB rfl (?_))))))))⟩)))⟩));have q:=q H1 s1;have q:Q (.str (match kJ (R.map (·.name)) n with|some i=>if B.ms.getD i 0 - a<((R[i]?).map (·.least)).getD 0 then "water" else ""|none=>"")) H1:=q;rw [S] at q
  by_cases hw:B.ms.getD i 0 - a<((R[i]?).map (·.least)).getD 0
  ·rw [aB hw];have q:Q (.str (if B.ms.getD i 0 - a<((R[i]?).map (·.least)).getD 0 then "water" else "")) H1:=q;rw [if_pos hw] at q;exact qG q
  ·rw [ax hw];have q:Q (.str (if B.ms.getD i 0 - a<((R[i]?).map (·.least)).getD 0 then "water" else "")) H1:=q;rw [if_neg hw] at q;exact qK q
 |rain n a =>
  exact (jJ (SqT.of G) rfl (⟨rfl,jB rfl (j9 (fun e=>absurd (V.str.inj e) (by trivial)) (jJ (SqT.of G) rfl (⟨rfl,jB rfl (j9 (fun e=>absurd (V.str.inj e) (by trivial)) (jJ (SqT.of G) rfl (⟨rfl,jB rfl (kX rfl (q H (Same.refl _)))⟩)))⟩)))⟩))
theorem RO:jV 3 ["source","target","amount"] uT:=jU
include T in
theorem OF (F:kG K "single_pour" uT f fd) : FnOk P w K mg base jT 1 f fd ["source","target","amount"] (FF):=by
 refine F.ok2 RO fun vs H Q E h=>?_
 refine cI h fun s t m a h=>?_
 refine d9 h fun S Y O q=>?_
 subst S;refine ⟨rfl,fun _ _ _ _ G=>?_⟩;refine ⟨_,(jN (JR (kA kM (jA 2) jD) (qA jE) (qA (jC (qC (kH (jA 0) (jA 1) (jA 2))) jE)))),?_⟩
 try dsimp only [jY,jX]
 refine ⟨rfl,jB rfl (?_)⟩
 by_cases h:a=0
 ·exact kX (bf V.int h) ⟨aN _,fun r G=>q r [] _ (jK G _) G jF (by rw [h];exact PoursH.nil _ _) (aN _)⟩
 refine j9 (fun z=>h (V.int.inj z)) (⟨zz3,fun p M=>⟨zz1,fun r G=>?_⟩⟩);have I:=jK M (.tup [V.int (s:Int),V.int (t:Int),V.int a]);have J:=jK G (.lst [V.ref p]);exact q r [.ref p] _ (I.trans J) (I.free G) jF (by unfold yN;rw [if_neg h];exact (PoursH.nil _ _).snoc (J _ _ jF) Y O) (ao _)
theorem wJ:jV 2 ["book","entry","canal","fallen"] tY:=jU
include T in
theorem NK (F:kG K "entry_pours" tY f fd) (xc:MeD P w K mg base 1 cO "canal" ["self"] (Z9 (jG cP cB cU) cR cN cO)) (wf:Def P w K mg base 1 "single_pour" ["source","target","amount"] [] (FF)) (xi:DefX P w K mg base 3 "number_named" ["book","entry"] [] (vH (jG cP cB cU) cR cN cO (dX eU))) (zc:MeD P w K mg base 2 cN "sky" ["self"] (bF (jG cP cB cU) cR cN cE)) (zd:Def P w K mg base 4 "with_spills" ["weirs","waters","pours"] [] (oQ K)) (xp:MeD P w K mg base 2 cN "weirs" ["self"] (iD (jG cP cB cU) cR cN)) (xb:MeD P w K mg base 1 cO "state" ["self"] (vI (jG cP cB cU) cR cN cO Z8)) (bl:Def P w K mg base 5 "night_pours" ["canal","state","weather"] [] (FL K (jG cP cB cU) cR cN)) (b5:DefX P w K mg base 9 "pours" ["canal","ways","state","deed"] [] (FI (jG cP cB cU) cR cN eW)) (xj:MeD P w K mg base 1 cO "ways" ["self"] (vI (jG cP cB cU) cR cN cO (zK BkS.us))) (zw:DefX P w K mg base 4 "deed_of" ["book","entry"] [] (vH (jG cP cB cU) cR cN cO pI)):FnOk P w K mg base (kO P w) 10 f fd ["book","entry"] (vH (jG cP cB cU) cR cN cO BG):=by
 refine F.okX2 wJ fun vs H Q E h=>?_
 refine JY h fun b t x A R L N B e h=>?_
 refine QQ h fun e_ M I an hc hw q=>?_
 subst e_;refine ⟨rfl,fun _ _ _ _ G=>?_⟩;refine tk fun x0=>?_
 let u0:=ru x0 [2,0,0] (jN (jR wf G rfl (kH (vA xi qI G rfl (jC (jA 0) (jC (jA 1) jE))) (kW zc G (jA 2)) (jH (jM K) (jA 1) jD))))
 let u1:=ru x0 [3,0,1] (jN (jR zd G rfl (kH (kW xp G (jA 2)) (jH (jM K) (kW xb G (jA 0)) jD) (jA 3))))
 let u2:=ru x0 [3,0,0] (jI (jW 3 wJ.nd (jR wf G rfl (kH (kW zc G (jA 2)) (vA xi qI G rfl (jC (jA 0) (jC (jA 1) jE))) (jH (jM K) (jA 1) jD))))
   u1.h)
 let u3:=ru x0 [5] (jN (vA b5 qI G rfl (zD (jA 2) (kW xj G (jA 0)) (kW xb G (jA 0)) (vA zw qI G rfl (jC (jA 0) (jC (jA 1) jE))))))
 let u4:=ru x0 [4] (jI (kE (kA kM (jH (jM K) (jA 1) jD) jP) (jN (jR bl G rfl (kH (jA 2) (kW xb G (jA 0)) (jH (jM K) (jA 1) jD)))) kI)
   u3.h)
 let u5:=ru x0 [3] (jI (kE (kA kM (jH (jM K) (jA 1) jD) jP) u2.h kI)
   u4.h)
 let u6:=ru x0 [2] (jI (kE (kA kM (jH (jM K) (jA 1) jD) jP) u0.h kI)
   u5.h)
 let u7:=ru x0 [1] (jI (kE (kA kM (jH (jM K) (jA 1) jD) jP) (jN (qA jE)) kI)
   u6.h)
 refine ⟨_,(jI (jW 2 wJ.nd (kW xc G (jA 0)))
   u7.h),?_⟩
 try dsimp only [jY,jX]
 obtain ⟨db,fs,hb,al⟩:=M.ins;have Z:=M.cnH;have dr:=M.ok.dr;have r8:=dr.r8;have l8:=dr.l8;have ml:=M.ok.ml;have a5:=JE dr;obtain ⟨ww,pt,g1,g2,g3⟩:=M.stH;obtain ⟨dx,rl,ll,nl,gs,rs,ls,nv,hx,hf,ce,cj,cd,hR,hL,hN,d1,d2,d3⟩:=id Z;have a7:cE R.length L.length=((R.length+2*L.length+1:Nat):Int):=by unfold cE;lia
 refine (⟨b,db,jB rfl (⟨hb,al _ (by trivial),kL b x A R L N B (kN rfl M (?_))⟩)⟩)
 by_cases J:ZO e=true/\zT e=true
 ·have a9:=J;obtain ⟨tl,hh⟩:=I.head;obtain ⟨k1,k2,k3⟩:=xO J.1;obtain ⟨_,k4⟩:=GD J.2;obtain ⟨de,a8,b0,b2,b4⟩:=iM M.ok.zl J.1 hc;obtain ⟨b1,h4⟩:=b4 J.2;rw [b2] at hw;refine (jJ (SqT.of hh) zW (⟨rfl,jB rfl (j9 (fun z=>k1 (V.str.inj z)) (jJ (SqT.of hh) zW (⟨rfl,jB rfl (j9 (fun z=>k2 (V.str.inj z)) (jJ (SqT.of hh) zW (⟨rfl,jB rfl (j9 (fun z=>k3 (V.str.inj z)) (jJ (SqT.of hh) zW (⟨rfl,jB rfl (j9 (fun z=>k4 (V.str.inj z)) ?_)⟩)))⟩)))⟩)))⟩));refine (⟨b,db,jB rfl (⟨hb,al _ (by trivial),kL b x A R L N B (kN rfl M (fun wl H2 s2 b8 bt=>?_))⟩)⟩);refine (⟨b,db,jB rfl (⟨(s2 _ _ hb),al _ (by trivial),kL b x A R L N B (kN rfl (M.same s2) (vP b t x A R L N B e (jO rfl (M.same s2) (I.same s2) an ⟨de,a8,fun dd H3 s3 J=>?_⟩)))⟩)⟩);have a0:=s2.trans s3;refine lH x wl B.st dd de B.us B.ys B.d B.ms B.pl ([]) R L N (JD rfl ((M.same a0).stage (s3 _ _ bt)) J b0 M.ok.d0 b1 (fun _ r H4 O zs s4 Y G hP hS=>?_) (fun h=>absurd hw h));refine q r zs _ H4 (a0.trans s4) (a0.free Y) G hP ?_ (UD a9.1 a9.2 a8 hS);rw [hP.1];unfold JJ;rw [af];have h1:=@xZ R L.length fun a=>O.getD a 0
  lia
 cases e with
 |pas n=>exact absurd ⟨rfl,rfl⟩ J
 |lt n=>exact absurd ⟨rfl,rfl⟩ J
 |come e =>
  obtain ⟨cn,gH,h1,h2,h3⟩:=id I;exact (jJ (SqT.of h1) rfl (⟨rfl,jB rfl (kX rfl ⟨aN _,fun r G=>q r [] [] _ (jK G _) G jF (PoursH.nil _ _) (aN _) (.inl ⟨rfl,rfl⟩)⟩)⟩))
 |take n a =>
  obtain ⟨i,hi⟩:=QJ (e:=.take n a) rfl hc;have am:=ZH (show kJ (R.map (·.name)) n=some i from hi);rw [ae] at am;refine (jJ (SqT.of I) rfl (⟨rfl,jB rfl (j9 (fun e=>absurd (V.str.inj e) (by trivial)) (jJ (SqT.of I) rfl (⟨rfl,jB rfl (kX rfl (vP b t x A R L N B (.take n a) (vD rfl M I an rfl (fun j hj H1 s1=>?_) (fun hn=>absurd (hi.symm.trans hn) (by simp)))))⟩)))⟩));cases hi.symm.trans hj;have ah:=s1 _ _ I;refine (⟨x,dx,jB rfl (⟨(s1 _ _ hx),hf.no (by trivial) (by trivial) (by trivial),qO x ([]) R L N (kN rfl (Z.same s1) (?_))⟩)⟩);rw [a7];exact (jJ (SqT.of ah) rfl (j0 i (R.length+2*L.length+1) B.ms.length a (kB rfl (by lia) (by lia) (fun r zs H2 s2 Y G hP hl=>q r zs _ H2 (s1.trans s2) (s1.free Y) G hP (by lia) (.inl ⟨rfl,FS hi⟩)))))
 |rain n a =>
  obtain ⟨i,hi⟩:=QJ (e:=.rain n a) rfl hc;have am:=ZH (show kJ (R.map (·.name)) n=some i from hi);rw [ae] at am;refine (jJ (SqT.of I) rfl (⟨rfl,jB rfl (j9 (fun e=>absurd (V.str.inj e) (by trivial)) (jJ (SqT.of I) rfl (⟨rfl,jB rfl (j9 (fun e=>absurd (V.str.inj e) (by trivial)) (jJ (SqT.of I) rfl (⟨rfl,jB rfl (kX rfl ?_)⟩)))⟩)))⟩));refine (⟨x,dx,jB rfl (⟨hx,hf.no (by trivial) (by trivial) (by trivial),qO x ([]) R L N (kN rfl Z (?_))⟩)⟩);rw [a7];refine (vP b t x A R L N B (.rain n a) (vD rfl M I an rfl (fun j hj H1 s1=>?_) (fun hn=>absurd (hi.symm.trans hn) (by simp))));cases hi.symm.trans hj;have ah:=s1 _ _ I;refine (jJ (SqT.of ah) rfl (⟨R.length+2*L.length+1,jQ i B.ms.length a (kB rfl (by lia) (by lia) (fun fl zs H2 s2 Y G hP hl=>?_))⟩));have a3:=s1.trans s2;refine (⟨x,dx,jB rfl (⟨(a3 _ _ hx),hf.no (by trivial) (by trivial) (by trivial),qO x ([]) R L N (kB rfl (Z.same a3) (by lia) (fun wq ws H3 s3 b9 br hW=>?_))⟩)⟩);have S:=a3.trans s3;refine (⟨b,db,jB rfl (⟨(S _ _ hb),al _ (by trivial),kL b x A R L N B (kN rfl (M.same S) (jJ (SqT.of (S _ _ g1)) rfl (ZU wq ww fl ws zs (kR R L.length) B.ms (yN (R.length+2*L.length+1) i a) (j5 rfl (mU a5 hW br (.inr (SqT.of (S _ _ g2))) ml (by lia) (by lia)) (s3 _ _ G) (hP.same s3) (by lia) (fun r H4 O bv s4 a6 be a4 hS=>?_)))))⟩)⟩);refine q r bv _ H4 (S.trans s4) (S.free a6) be a4 ?_ (.inr ⟨rfl,O,by rw [AC hi];exact hS,by rw [AC hi];rfl⟩);rw [a4.1,af,<- hP.1];have:=@xZ R L.length fun a=>O.getD a 0
  lia
 |night W =>
  obtain ⟨wt,us,h1,h2,h3⟩:=id I;have b3:=FY hc;refine (jJ (SqT.of h1) rfl (⟨rfl,jB rfl (j9 (fun e=>absurd (V.str.inj e) (by trivial)) (jJ (SqT.of h1) rfl (⟨rfl,jB rfl (j9 (fun e=>absurd (V.str.inj e) (by trivial)) (jJ (SqT.of h1) rfl (⟨rfl,jB rfl (j9 (fun e=>absurd (V.str.inj e) (by trivial)) (jJ (SqT.of h1) rfl (⟨rfl,jB rfl (kX rfl ?_)⟩)))⟩)))⟩)))⟩));refine (⟨b,db,jB rfl (⟨hb,al _ (by trivial),kL b x A R L N B (kN rfl M (jJ (SqT.of h1) rfl (LE x B.st wt _ B.ms _ us W ([]) R L N (B4 rfl Z M.stH.toI h2 h3 b3 ml (by lia) (by lia) a5 (fun r H2 O zs s2 Y G hP hS=>?_)))))⟩)⟩);refine q r zs _ H2 s2 Y G hP ?_ (.inr ⟨rfl,O,hS,rfl⟩);rw [hP.1];unfold FZ;rw [af];have h1:=@xZ R L.length fun a=>O.getD a 0
  have h2:=bw qM (zH (R.length+2*L.length+1) B.ms W R.length);rw [S7] at h2
  lia
theorem wL:jV 2 ["full","way","made_ready"] uK:=jU
include T in
theorem N6 (F:kG K "passing" uK f fd) : FnOk P w K mg base jT 1 f fd ["full","way"] (FK):=by
 refine F.ok2 wL fun vs H Q E h=>?_
 obtain ⟨f,S,rfl,q⟩:=h;refine ⟨rfl,fun _ _ _ _ J=>?_⟩;refine tk fun Y=>?_
 let Z:=ru Y [0,0,0] (jI (jW 2 wL.nd (JR (vQ (jA 0)) (qA (jC jP jE)) (qA jE)))
   (jN (jL bW (jA 2) (vJ (y8 K) (by rfl) T.xm aG (jC (ZK (v:=.ref aU) rfl T.xcm rfl) jE)))))
 let u1:=ru Y [1] (jI (jW 2 wL.nd (JR (vQ (jA 0)) (qA jE) (qA (jC jP jE))))
   (jN (jL bW (jA 2) (vJ (y8 K) (by rfl) T.xm aG (jC (ZK (v:=.ref aD) rfl T.xbq rfl) jE)))))
 refine ⟨_,(jI (kE (kA kM (jA 1) jP) Z.h kI)
   u1.h),?_⟩
 try dsimp only [jY,jX]
 cases S with
 |true =>
  refine ⟨rfl,jB rfl (kX rfl ?_)⟩;cases f with
  |true =>
   refine (jB rfl (qG ?_));refine ⟨(by show _<=sizeLine;decide),fun m I=>?_⟩;have M:=jK I (.lst ((["let"]:List Str).map V.str));refine (⟨aU,jB rfl (⟨.inr (T.up _),fun c O=>?_⟩)⟩);have G:=jK O (.lst (upT.map V.str));refine j0 m c _ _ (j5 rfl rfl (G _ _ jF) jF (by show _<=sizeLine;decide) (fun r J=>?_));exact q r _ ((M.trans G).trans (jK J _)) ((M.trans G).free J) jF
  |false =>
   refine (jB rfl (qK ?_));refine ⟨(by show _<=sizeLine;decide),fun m I=>?_⟩;have M:=jK I (.lst (([]:List Str).map V.str));refine (⟨aU,jB rfl (⟨.inr (T.up _),fun c O=>?_⟩)⟩);have G:=jK O (.lst (upT.map V.str));refine j0 m c _ _ (j5 rfl rfl (G _ _ jF) jF (by show _<=sizeLine;decide) (fun r J=>?_));exact q r _ ((M.trans G).trans (jK J _)) ((M.trans G).free J) jF
 |false =>
  refine ⟨rfl,jB rfl (j9 (fun e=>absurd (V.str.inj e) (by trivial)) ?_)⟩;cases f with
  |true =>
   refine (jB rfl (qG ?_));refine ⟨(by show _<=sizeLine;decide),fun m I=>?_⟩;have M:=jK I (.lst (([]:List Str).map V.str));refine (⟨aD,jB rfl (⟨.inr (T.down _),fun c O=>?_⟩)⟩);have G:=jK O (.lst (downT.map V.str));refine j0 m c _ _ (j5 rfl rfl (G _ _ jF) jF (by show _<=sizeLine;decide) (fun r J=>?_));exact q r _ ((M.trans G).trans (jK J _)) ((M.trans G).free J) jF
  |false =>
   refine (jB rfl (qK ?_));refine ⟨(by show _<=sizeLine;decide),fun m I=>?_⟩;have M:=jK I (.lst ((["fill"]:List Str).map V.str));refine (⟨aD,jB rfl (⟨.inr (T.down _),fun c O=>?_⟩)⟩);have G:=jK O (.lst (downT.map V.str));refine j0 m c _ _ (j5 rfl rfl (G _ _ jF) jF (by show _<=sizeLine;decide) (fun r J=>?_));exact q r _ ((M.trans G).trans (jK J _)) ((M.trans G).free J) jF
theorem CZ:jV 4 ["canal","ways","state","boat","step"] uI:=jU
include T in
theorem N4 (F:kG K "pass_worked" uI f fd) (vv:Def P w K mg base 1 "next_step" ["way","place"] [] (AY)) (an:Def P w K mg base 1 "passing" ["full","way"] [] (FK)) (ze:MeD P w K mg base 2 cN "full" ["self","waters","k"] (oR (jG cP cB cU) cR cN)):FnOk P w K mg base jT 3 f fd ["canal","ways","state","boat"] (FC (jG cP cB cU) cR cN):=by
 refine F.ok2 CZ fun vs H Q E h=>?_
 obtain ⟨x,wl,st,b,us,ys,y,p,G,d,ms,pl,D,R,L,N,rfl,hG,hy,br,hs,q⟩:=h;refine ⟨rfl,fun _ _ _ _ hr=>?_⟩;refine tk fun x0=>?_
 let u0:=ru x0 [1] (jN (qC (jC (j6 K (jH (kQ K) (j6 K (jA 0) rfl) (jH (jM K) (jA 4) jD)) rfl) (jC (jR an hr rfl (jC (cG ze hr (jA 0) (jC (jH (jM K) (jA 2) jD) (jC (jH (jM K) (jA 4) jD) jE))) (jC (jH (jM K) (jA 4) jD) jE))) jE))))
 refine ⟨_,(jI (jW 4 CZ.nd (jR vv hr rfl (jC (jH (kQ K) (jA 1) (jA 3)) (jC (jH (jM K) (jH (jM K) (jA 2) jD) (jA 3)) jE))))
   u0.h),?_⟩
 try dsimp only [jY,jX]
 obtain ⟨hc,b0,bl,hA,a8,a5,b1⟩:=id hG;obtain ⟨wt,pt,I,a0,a3⟩:=id a8;have a4:=hc;obtain ⟨dx,rl,ll,nl,fs,rs,ls,nv,hx,hf,b2,am,bv,hR,hL,hN,d1,d2,d3⟩:=hc;obtain ⟨v,hv,Y⟩:=hA.get hy;obtain ⟨S,a6,a7,rfl,g1,g2,g3⟩:=id Y;have al:G.1<L.length:=(a5.ok y (ag hy)).lt G (ag hs);obtain ⟨l,Z⟩:∃l,L[G.1]?=some l:=⟨_,aa al⟩;obtain ⟨vl,ah,yl,rfl,dl,hl⟩:=hL.get Z;refine (k7 (so bl) (qF hv) (jJ (SqT.of I) rfl (jJ (SqT.of a3) (qF (v:=.int (p:Int)) (by rw [ap,br];rfl)) (j0 S y p G (kB rfl Y hs (fun bt be=>?_))))));obtain ⟨ts,rfl,J⟩:=be;refine (j8 hx (T.clN) (T.xg) (hf.2.1) (jJ (SqT.of J) rfl (k7 (so am) (qF ah) (j8 hl (T.cl l.kd) (T.vp l.kd) (dH l.kd _ _ _ _ _) (?_)))));refine (⟨x,dx,jB rfl (⟨hx,hf.no (by trivial) (by trivial) (by trivial),(jJ (SqT.of I) rfl (jJ (SqT.of J) rfl (ZU x wt D R L N ms G.1 (jO rfl a4 a0 (by lia) (jJ (SqT.of J) rfl (⟨vX R.length ms G.1,G.2,rfl,fun lw H1 s1 M a9=>⟨zz2,fun tt O=>?_⟩⟩))))))⟩)⟩);have u:=jK O (.tup [V.str l.name,V.ref lw]);exact q tt lw l _ Z (s1.trans u) (s1.free O) M jF (u _ _ a9)
theorem RS:jV 2 ["book","entry"] uZ:=jU
include T in
theorem ON (F:kG K "ways_behind" uZ f fd) (xj:MeD P w K mg base 1 cO "ways" ["self"] (vI (jG cP cB cU) cR cN cO (zK BkS.us))) (vx:DefX P w K mg base 3 "way_told" ["canal","entry"] [] (xJ (jG cP cB cU) cR cN eU)) (xc:MeD P w K mg base 1 cO "canal" ["self"] (Z9 (jG cP cB cU) cR cN cO)):FnOk P w K mg base (kO P w) 4 f fd ["book","entry"] (vH (jG cP cB cU) cR cN cO I0):=by
 refine F.okX2 RS fun vs H Q E h=>?_
 refine JY h fun b t x A R L N B e h=>?_
 refine JZ h fun e_ G J a0 hc q=>?_
 subst e_;refine ⟨rfl,fun _ _ _ _ Z=>?_⟩;refine tk fun x0=>?_
 let u0:=ru x0 [0,0,0] (jN (jL bW (kW xj Z (jA 0)) (qA (jC (vA vx qI Z rfl (jC (kW xc Z (jA 0)) (jC (jA 1) jE))) jE))))
 refine ⟨_,(jI (kE (kA kM (jH (jM K) (jA 1) jD) jP) u0.h kI)
   (jN (kW xj Z (jA 0)))),?_⟩
 try dsimp only [jY,jX]
 obtain ⟨db,fs,hb,M⟩:=G.ins;have r8:=G.ok.dr.r8;have l8:=G.ok.dr.l8;have z9:=G.ok.z9;have zl:=G.ok.zl
 rcases EO e with hk|⟨e,rfl⟩
 ·obtain ⟨tl,hh⟩:=J.head;refine (jJ (SqT.of hh) zW (⟨rfl,jB rfl (j9 (fun z=>hk (V.str.inj z)) (⟨b,db,jB rfl (⟨hb,M _ (by trivial),kL b x A R L N B (kN rfl G (fun l H1 I al hl=>q l _ H1 I al hl ?_))⟩)⟩))⟩));have he:QN R L B e=B.ys:=by cases e<;>first|rfl|exact absurd rfl hk
  rw [he];exact (G.same I).wyH
 obtain ⟨a6,gH,h1,h2,h3⟩:=id J;obtain ⟨y,hy,a8,a7,h9⟩:=oN (show vS R L B.zs e=0 from hc);have a4:=a0.2.1;have am:QN R L B (.come e)=B.ys++[y]:=by show B.ys++(zV R L e).toList=_;rw [hy];rfl
 refine (jJ (SqT.of h1) rfl (⟨rfl,jB rfl (kX rfl (⟨b,db,jB rfl (⟨hb,M _ (by trivial),kL b x A R L N B (kN rfl G (fun wl H1 I a3 an=>?_))⟩)⟩))⟩));have hA:=(G.same I).wyH;refine (⟨b,db,jB rfl (⟨(I _ _ hb),M _ (by trivial),kL b x A R L N B (kN rfl (G.same I) (kL x t e ([]) R L N (JD rfl ((G.same I).cnH) (c8 r8) (c8 l8) (CoAt.same I J) (by lia) (fun y' S w1 H2 Y a5 ah=>?_) (fun hn=>absurd hn (by rw [hy];simp)))))⟩)⟩);rw [hy] at S;cases S;refine ⟨zz1,fun l2 O=>?_⟩;have u:=jK O (.lst [V.ref w1]);have a9:=hA.1;refine j0 wl l2 _ _ (j5 rfl rfl (u _ _ (Y _ _ an)) jF (gY (by rw [aE];lia)) (fun p hp=>?_));have v:=jK hp (.lst (B.us++[V.ref w1]));have w2:=(Y.trans u).trans v;refine q p _ _ ((I.trans Y).trans (u.trans v)) (((I.trans Y).trans u).free hp) jF ?_;rw [am];exact (hA.mono (WyAt.same w2)).snoc (WyAt.same (u.trans v) _ _ ah)
theorem wO:jV 2 ["book","entry","state","waters"] uV:=jU
include T in
theorem OI (F:kG K "state_behind" uV f fd) (xb:MeD P w K mg base 1 cO "state" ["self"] (vI (jG cP cB cU) cR cN cO Z8)) (xv:Def P w K mg base 1 "poured_all" ["waters","pours"] [] (iV K)) (zx:DefX P w K mg base 10 "entry_pours" ["book","entry"] [] (vH (jG cP cB cU) cR cN cO BG)) (a5:Def P w K mg base 2 "counted_on" ["state","deed","waters"] [] (EG)) (zw:DefX P w K mg base 4 "deed_of" ["book","entry"] [] (vH (jG cP cB cU) cR cN cO pI)):FnOk P w K mg base (kO P w) 11 f fd ["book","entry"] (vH (jG cP cB cU) cR cN cO HV):=by
 refine F.okX2 wO fun vs H Q E h=>?_
 refine JY h fun b t x A R L N B e h=>?_
 refine QQ h fun e_ O I an hc hw q=>?_
 subst e_;refine ⟨rfl,fun _ _ _ _ Z=>?_⟩;refine tk fun x0=>?_
 let u0:=ru x0 [2,0,0] (jN (qC (kH (jH (jM K) (jA 2) jD) (jA 3) (jL V7 (jH (jM K) (jA 2) jD) (qC (jC jD jE))))))
 let u1:=ru x0 [3] (jI (kE (PW.pt (y6 (kA kM (jH (jM K) (jA 1) jD) jP) (QM (kA kM (jH (jM K) (jA 1) jD) jP)))) (jN (qC (kH (jH (jM K) (jA 2) jD) (jA 3) (jH (jM K) (jA 2) jD)))) kI)
   (jN (jR a5 Z rfl (kH (jA 2) (vA zw qI Z rfl (jC (jA 0) (jC (jA 1) jE))) (jA 3)))))
 let u2:=ru x0 [2] (jI (kE (kA kM (jH (jM K) (jA 1) jD) jP) u0.h kI)
   u1.h)
 let u3:=ru x0 [1] (jI (jW 3 wO.nd (jR xv Z rfl (jC (jH (jM K) (jA 2) jD) (jC (vA zx qI Z rfl (jC (jA 0) (jC (jA 1) jE))) jE))))
   u2.h)
 refine ⟨_,(jI (jW 2 wO.nd (kW xb Z (jA 0)))
   u3.h),?_⟩
 try dsimp only [jY,jX]
 obtain ⟨db,fs,hb,a7⟩:=O.ins;obtain ⟨wt,pt,g1,g2,g3⟩:=O.stH;have ml:=O.ok.ml;have r8:=O.ok.dr.r8;have l8:=O.ok.dr.l8;have hpl:=O.ok.fl.len;have a8:=O.ok.fl.n10;refine (⟨b,db,jB rfl (⟨hb,a7 _ (by trivial),kL b x A R L N B (kN rfl O (?_))⟩)⟩);refine (jJ (SqT.of g1) rfl (vP b t x A R L N B e (vD rfl O I an hc hw (fun l zs qs H1 s1 be hl hP br ah=>?_))));refine qO wt l B.ms zs qs (j5 rfl (.inr (SqT.of (s1 _ _ g2))) (so hl) hP.pa (by lia) (fun r H2 s2 bl Z=>?_));have G:=s1.trans s2;obtain ⟨tl,hh⟩:=(EnAt.same G I).head;have M:=G _ _ g1
 by_cases J:ZO e=true
 ·obtain ⟨k1,k2,k3⟩:=xO J;obtain ⟨de,a0,_⟩:=iM O.ok.zl J hc;refine (jJ (SqT.of hh) zW (⟨rfl,jB rfl (j9 (fun z=>k1 (V.str.inj z)) (jJ (SqT.of hh) zW (⟨rfl,jB rfl (j9 (fun z=>k2 (V.str.inj z)) (jJ (SqT.of hh) zW (⟨rfl,jB rfl (j9 (fun z=>k3 (V.str.inj z)) ?_)⟩)))⟩)))⟩));refine (vP b t x A R L N B e (jO rfl (O.same G) (I.same G) an ⟨de,a0,fun dd H3 s3 J=>?_⟩));have am:=G.trans s3;refine (ZU B.st dd r de B.d B.ms _ B.pl (j5 rfl ((O.same am).stH) J (s3 _ _ Z) (by lia) (fun st H4 s4 a9 a4=>?_)));have e1:=KI (e:=e) ‹_› a0;rw [e1.1,e1.2] at q;exact q st qs H4 (am.trans s4) a4 ah
 have tr:(e=e/\J3 R L B e=B.pl/\dZ B e=B.d)->(3<=sizeLine/\∀Y,H2 Y=none->Q (.ref Y) (upd H2 Y (.tup [.int B.d,.ref r,.ref pt]))):=fun ⟨_,p1,p2⟩=>⟨by decide,fun Y al=>by
  have v:=jK al (.tup [V.int B.d,V.ref r,V.ref pt]);rw [p1,p2] at q;exact q Y qs _ (G.trans v) ⟨r,pt,jF,v _ _ Z,v _ _ (G _ _ g3)⟩ ah⟩
 cases e with
 |pas n=>exact absurd rfl J
 |lt n=>exact absurd rfl J
 |night W=>exact absurd rfl J
 |take n a=>exact (jJ (SqT.of (G _ _ I)) rfl (⟨rfl,jB rfl (j9 (fun e=>absurd (V.str.inj e) (by trivial)) (jJ (SqT.of (G _ _ I)) rfl (⟨rfl,jB rfl (kX rfl (jJ (SqT.of M) rfl (jJ (SqT.of M) rfl (tr ⟨rfl,rfl,rfl⟩))))⟩)))⟩))
 |rain n a=>exact (jJ (SqT.of (G _ _ I)) rfl (⟨rfl,jB rfl (j9 (fun e=>absurd (V.str.inj e) (by trivial)) (jJ (SqT.of (G _ _ I)) rfl (⟨rfl,jB rfl (j9 (fun e=>absurd (V.str.inj e) (by trivial)) (jJ (SqT.of (G _ _ I)) rfl (⟨rfl,jB rfl (kX rfl (jJ (SqT.of M) rfl (jJ (SqT.of M) rfl (tr ⟨rfl,rfl,rfl⟩))))⟩)))⟩)))⟩))
 |come e =>
  obtain ⟨bt,gH,h1,h2,h3⟩:=id I;refine (jJ (SqT.of (G _ _ h1)) rfl (⟨rfl,jB rfl (kX rfl ?_)⟩));refine (jJ (SqT.of M) rfl (jJ (SqT.of M) rfl (⟨zz1,fun p hp=>?_⟩)));have u:=jK hp (.tup [V.int 0]);have a3:∀(S:Addr) (H3:Hp),Same (upd H2 p (.tup [V.int 0])) H3->H3 S=some (.tup ((B.pl++[0]).map fun (p:Nat)=>V.int (p:Int)))->(3<=sizeLine/\∀Y,H3 Y=none->Q (.ref Y) (upd H3 Y (.tup [.int B.d,.ref r,.ref S]))):=fun S H3 s3 h=>⟨by decide,fun Y al=>by
   have v:=jK al (.tup [V.int B.d,V.ref r,V.ref S]);exact q Y qs _ ((G.trans u).trans (s3.trans v)) ⟨r,S,jF,v _ _ (s3 _ _ (u _ _ Z)),v _ _ h⟩ ah⟩
  refine j0 pt p _ _ (JD rfl rfl (SqT.of (u _ _ (G _ _ g3))) (SqT.of jF) (by simp) (gY (by rw [ae];show B.pl.length+1<=1000;lia)) (fun hn=>?_) (fun hn p2 a6=>?_))
  ·have h0:B.pl=[]:=map_eq_nil_iff.mp hn;exact a3 p _ (Same.refl _) (by rw [h0];exact jF)
  ·have v:=jK a6 (.tup ((B.pl.map fun (p:Nat)=>V.int (p:Int))++[V.int 0]));exact a3 p2 _ v (by rw [jF,aJ];rfl)
theorem RW:jV 2 ["book","entry"] wE:=jU
include T in
theorem OT (F:kG K "words_worked" wE f fd) (a0:Def P w K mg base 3 "pass_worked" ["canal","ways","state","boat"] [] (FC (jG cP cB cU) cR cN)) (xc:MeD P w K mg base 1 cO "canal" ["self"] (Z9 (jG cP cB cU) cR cN cO)) (xj:MeD P w K mg base 1 cO "ways" ["self"] (vI (jG cP cB cU) cR cN cO (zK BkS.us))) (xb:MeD P w K mg base 1 cO "state" ["self"] (vI (jG cP cB cU) cR cN cO Z8)) (xi:DefX P w K mg base 3 "number_named" ["book","entry"] [] (vH (jG cP cB cU) cR cN cO (dX eU))):FnOk P w K mg base (kO P w) 4 f fd ["book","entry"] (vH (jG cP cB cU) cR cN cO KW):=by
 refine F.okX2 RW fun vs H Q E h=>?_
 refine JY h fun b t x A R L N B e h=>?_
 refine QQ h fun e_ hq S a3 hc hw q=>?_
 subst e_;refine ⟨rfl,fun _ _ _ _ hr=>?_⟩;refine tk fun x0=>?_
 let u0:=ru x0 [1,0,0] (jN (qA (jC (jR a0 hr rfl (zD (kW xc hr (jA 0)) (kW xj hr (jA 0)) (kW xb hr (jA 0)) (vA xi qI hr rfl (jC (jA 0) (jC (jA 1) jE))))) jE)))
 let u1:=ru x0 [1] (jI (kE (kA kM (jH (jM K) (jA 1) jD) jP) u0.h kI)
   (jN (qA jE)))
 refine ⟨_,(jI (kE (kA kM (jH (jM K) (jA 1) jD) jP) (jN (qA (jC (qC (jC (jH (jM K) (jA 1) jD) (jC (qA (jC jP jE)) jE))) jE))) kI)
   u1.h),?_⟩
 try dsimp only [jY,jX]
 obtain ⟨db,fs,hb,ah⟩:=hq.ins
 rcases UW e with hk|⟨n,rfl⟩|⟨n,rfl⟩
 ·obtain ⟨tl,hh⟩:=S.head;exact (jJ (SqT.of hh) zW (⟨rfl,jB rfl (j9 (fun z=>hk.1 (V.str.inj z)) (jJ (SqT.of hh) zW (⟨rfl,jB rfl (j9 (fun z=>hk.2 (V.str.inj z)) ⟨aN _,fun l J=>q l [] _ (jK J _) J jF (by rw [SV hk];exact AllAt.nil) (aN _)⟩)⟩)))⟩))
 ·have h1:=id S;obtain ⟨i,hi⟩:=QJ (e:=.pas n) rfl hc;have hi:kJ B.zs n=some i:=hi;have be:=ZH hi;have zl:=hq.ok.zl;have fl:=hq.ok.fl;have a6:Q5 R L B.ys B.ms B.pl i="":=by
   have e1:yQ R L N B (.pas n)=match vR R L B.zs (.pas n) with|some de=>zJ R L N.length B.ys B.d B.ms B.pl de|none=>"":=rfl
   rw [e1,(show vR R L B.zs (.pas n)=some (.pass i) from by show (kJ B.zs n).map Deed.pass=_;rw [hi];rfl)] at hw;exact hw
  obtain ⟨y,hy⟩:∃y,B.ys[i]?=some y:=⟨_,aa (by lia)⟩;obtain ⟨p,hp⟩:∃p,B.pl[i]?=some p:=⟨_,aa (by rw [fl.len];lia)⟩;have a9:=fl.le i y p hy hp;have a5:=fH a6;rw [show B.ys.getD i (0,[])=y by rw [ac,hy];rfl,show B.pl.getD i 0=p by rw [ac,hp];rfl] at a5;obtain ⟨G,hs⟩:∃s,y.2[p]?=some s:=⟨_,aa (by lia)⟩;refine (jJ (SqT.of h1) rfl (⟨rfl,jB rfl (j9 (fun e=>absurd (V.str.inj e) (by trivial)) (jJ (SqT.of h1) rfl (⟨rfl,jB rfl (kX rfl (⟨b,db,jB rfl (⟨hb,ah _ (by trivial),kL b x A R L N B (kN rfl hq (⟨b,db,jB rfl (⟨hb,ah _ (by trivial),kL b x A R L N B (kN rfl hq (fun wl H2 s2 a8 a7=>?_))⟩)⟩))⟩)⟩))⟩)))⟩));refine (⟨b,db,jB rfl (⟨(s2 _ _ hb),ah _ (by trivial),kL b x A R L N B (kN rfl (hq.same s2) (vP b t x A R L N B (.pas n) (vD rfl (hq.same s2) (EnAt.same s2 S) a3 rfl (fun j hj H3 s3=>?_) (fun hn=>absurd (hi.symm.trans hn) (by simp)))))⟩)⟩);cases hi.symm.trans hj;have O:=s2.trans s3;refine B0 x wl B.st i B.us B.ys y p G B.d B.ms B.pl ([]) R L N (j5 rfl ((hq.same O).stage (s3 _ _ a7)) hy hp hs (fun Y lw lc H4 a4 s4 am al M I=>⟨zz1,fun l J=>?_⟩));have v:=jK J (.lst [V.ref Y]);have an:=O.trans s4;exact q l [.ref Y] _ (an.trans v) (an.free J) jF (by rw [DV hi hy hp hs a4];exact AllAt.nil.snoc (v:=.ref Y) (x:=(lc.name,dS (vX R.length B.ms G.1) G.2)) ⟨Y,lw,(j5 rfl (O.free am) (O.free al) (q9 I J) (v _ _ M) (v _ _ I))⟩) (ao _)
 ·have h1:=id S;refine (jJ (SqT.of h1) rfl (⟨rfl,jB rfl (kX rfl (jJ (SqT.of h1) rfl (⟨zz1,fun lw I=>⟨zz2,fun Y M=>⟨zz1,fun l J=>?_⟩⟩⟩)))⟩));have u1:=jK I (.lst [V.str "let"]);have u2:=jK M (.tup [V.str n,V.ref lw]);have u3:=jK J (.lst [V.ref Y]);have Z:=u2 _ _ (jF (H:=H) (a:=lw) (o:=.lst [V.str "let"]));exact q l [.ref Y] _ ((u1.trans u2).trans u3) ((u1.trans u2).free J) jF (AllAt.nil.snoc (v:=.ref Y) (x:=(n,[("let":Str)])) ⟨Y,lw,(j5 rfl (u1.free M) I (q9 Z J) (u3 _ _ jF) (u3 _ _ Z))⟩) (ao _)
theorem O0:jV 2 ["self","entry"] sB:=jU
include T in
theorem L6 (F:Fun K "fault" "Book.fault" sB f fd) (jc:DefX P w K mg base 5 "refuse_wrong" ["book","entry"] [] (vH (jG cP cB cU) cR cN cO (LB eB eT eM eU eL eN eD))) (je:DefX P w K mg base 9 "why_no_entry" ["book","entry"] [] (vH (jG cP cB cU) cR cN cO LA)):FnOk P w K mg base (kO P w) 10 f fd ["self","entry"] (vH (jG cP cB cU) cR cN cO (pC eB eT eM eU eL eN eD)):=by
 refine F.okX2 O0 fun vs H Q E h=>?_
 refine JY h fun b t x A R L N B e h=>?_
 refine JZ h fun e_ M G I Y V=>?_
 subst e_;refine ⟨rfl,fun _ _ _ _ O=>?_⟩;refine ⟨_,(jI (yH (vA jc qI O rfl (jC (jA 0) (jC (jA 1) jE))))
   (jN (vA je qI O rfl (jC (jA 0) (jC (jA 1) jE))))),?_⟩
 try dsimp only [jY,jX]
 refine (vP b t x A R L N B e (j5 rfl M G I (fun S H1 J=>?_) V));exact (vP b t x A R L N B e (j5 rfl (M.same J) (G.same J) I S (fun H2 Z=>Y S H2 (J.trans Z))))
theorem CQ:jV 2 ["self","entry","word"] rY:=jU
include T in
theorem L1 (F:Fun K "behind" "Book.behind" rY f fd) (zk:MeX P w K mg base 10 cO "fault" ["self","entry"] (vH (jG cP cB cU) cR cN cO (pC eB eT eM eU eL eN eD))) (jf:DefX P w K mg base 11 "state_behind" ["book","entry"] [] (vH (jG cP cB cU) cR cN cO HV)) (jw:DefX P w K mg base 4 "ways_behind" ["book","entry"] [] (vH (jG cP cB cU) cR cN cO I0)):FnOk P w K mg base (kO P w) 12 f fd ["self","entry"] (vH (jG cP cB cU) cR cN cO (AS eB eT eM eU eL eN eD eW)):=by
 refine F.okX2 CQ fun vs H Q E h=>?_
 refine JY h fun b t x A R L N B e h=>?_
 refine QQ h fun e_ Y I G qv qn qe=>?_
 subst e_;refine ⟨rfl,fun _ _ _ _ hr=>?_⟩;refine tk fun x0=>?_
 let u0:=ru x0 [1] (jI (kE (kA JU (jA 2) jP) (kU (ZI ZG rfl rfl T.jr T.jt (jC (jA 2) jE))) kI)
   (jN (qC (jC (vA jw qI hr rfl (jC (jA 0) (jC (jA 1) jE))) (jC (vA jf qI hr rfl (jC (jA 0) (jC (jA 1) jE))) jE)))))
 refine ⟨_,(jI (jW 2 CQ.nd (Q3 zk qI hr (jA 0) (jC (jA 1) jE)))
   u0.h),?_⟩
 try dsimp only [jY,jX]
 obtain ⟨db,fs,hb,ah⟩:=Y.ins;refine (⟨b,db,jB rfl (⟨hb,ah _ (by trivial),(vP b t x A R L N B e (j5 rfl Y I G (fun Z H1 O=>?_) qe))⟩)⟩)
 by_cases S:yQ R L N B e=""
 case neg=>exact ⟨rfl,jB rfl (bC (fun z=>S (V.str.inj z)) (⟨by show 1<=sizeLine;decide,qn Z S H1 O⟩))⟩
 refine ⟨rfl,jB rfl (JV (bf V.str S) ?_)⟩;refine (vP b t x A R L N B e (j5 rfl (Y.same O) (I.same O) G Z (fun l us H2 s2 al hl hA=>?_)));have J:=O.trans s2;refine (vP b t x A R L N B e (vD rfl (Y.same J) (I.same J) G Z S (fun st qs H3 s3 am an=>?_)));refine ⟨zz2,fun p hp=>?_⟩;have u:=jK hp (.tup [V.ref l,V.ref st]);have M:=s3.trans u;exact qv Z S p l st us qs _ (J.trans M) jF (O.free al) (M _ _ hl) (hA.mono (WyAt.same M)) (am.same u) an
theorem mL:jV 2 ["self","entry","come_to","poured","worked"] r9:=jU
include T in
theorem L4 (F:Fun K "do" "Book.do" r9 f fd) (jx:MeX P w K mg base 12 cO "behind" ["self","entry"] (vH (jG cP cB cU) cR cN cO (AS eB eT eM eU eL eN eD eW))) (zx:DefX P w K mg base 10 "entry_pours" ["book","entry"] [] (vH (jG cP cB cU) cR cN cO BG)) (jg:DefX P w K mg base 4 "words_worked" ["book","entry"] [] (vH (jG cP cB cU) cR cN cO KW)):FnOk P w K mg base (kO P w) 13 f fd ["self","entry"] (BY (jG cP cB cU) cR cN cO eB eT eM eU eL eN eD eW):=by
 refine F.okX2 mL fun vs H Q E h=>?_
 refine JY h fun b t x A R L N B e h=>?_
 refine QQ h fun e_ J a6 a4 qv qn qe=>?_
 subst e_;refine ⟨rfl,fun _ _ _ _ hr=>?_⟩;refine tk fun x0=>?_
 let u0:=ru x0 [7] (jI (yH (zR aQ PySem.F.slot_list_extend PySem.F.type_list_extend EM (j6 K (jA 0) rfl) (jC (jA 4) jE)))
   (kU (yH (zR aQ aY aZ J7 (j6 K (jA 0) rfl) (jC (jA 1) jE)))))
 let u1:=ru x0 [6] (jI (yH (zR aQ PySem.F.slot_list_extend PySem.F.type_list_extend EM (j6 K (jA 0) rfl) (jC (jA 3) jE)))
   u0.h)
 let u2:=ru x0 [5] (jI (yG (jA 0) (jH (jM K) (jA 2) jD) rfl)
   u1.h)
 let u3:=ru x0 [4] (jI (yG (jA 0) (jH (jM K) (jA 2) jD) rfl)
   u2.h)
 let u4:=ru x0 [3] (fR (kE (kA kM (jH (jM K) (jA 1) jD) jP) (kU (yH (zR aQ aY aZ J7 (j6 K (jA 0) rfl) (jC (jH (jM K) (jA 1) jD) jE)))) kI)
   u3.h)
 let u5:=ru x0 [2] (jI (jW 4 mL.nd (vA jg qI hr rfl (jC (jA 0) (jC (jA 1) jE))))
   u4.h)
 let u6:=ru x0 [1] (jI (jW 3 mL.nd (vA zx qI hr rfl (jC (jA 0) (jC (jA 1) jE))))
   u5.h)
 refine ⟨_,(jI (jW 2 mL.nd (Q3 jx qI hr (jA 0) (jC (jA 1) jE)))
   u6.h),?_⟩
 try dsimp only [jY,jX]
 obtain ⟨Y,fs,hb,dy⟩:=J.ins;obtain ⟨dt,nl,wl,pl,ql,el,c9,hA,bv,dU,hf,al,a7,b0,bt,c2,dj⟩:=J.ob;obtain ⟨rfl,rfl⟩:Y=dt/\fs=c9:=by rw [hb] at bv;cases bv;exact ⟨rfl,rfl⟩
 clear bv dj;have z9:=J.ok.z9;have o1:=J.ok.pn;have o2:=J.ok.qn;refine (⟨b,Y,jB rfl (⟨hb,dy _ (by trivial),(vP b t x A R L N B e (vD rfl J a6 a4 (fun hc hw p l st us dV H1 s1 hp dn hl b2 bl dk=>?_) qn qe))⟩)⟩);obtain ⟨c1,qv⟩:=qv hc hw;refine (vP b t x A R L N B e (vD rfl (J.same s1) (a6.same s1) a4 hc hw (fun l1 M an H2 s2 a9 br hP d2 be=>?_)));obtain rfl:=PourE.unique J.ok.dr dk be;have O:=s1.trans s2;refine (vP b t x A R L N B e (vD rfl (J.same O) (a6.same O) a4 hc hw (fun l2 vs H3 s3 am dl hW dT=>?_)));have I:=O.trans s3;have a5:=s2.trans s3
 replace br:=s3 _ _ br
 replace hp:=a5 _ _ hp
 replace hl:=a5 _ _ hl
 replace b2:=b2.mono (WyAt.same a5)
 replace bl:=bl.same a5
 replace hP:=hP.same s3
 have b1:=I _ _ hb;have Z:=I _ _ al;have c4:=I _ _ a7;have b8:=I _ _ b0;have c3:=I _ _ bt;have a0:∀(a c:Addr) (o:HO) (G:Hp),H a=some o->Same H G->G c=none->c≠a:=fun a c o G h s hc=>(q9 (s _ _ h) hc).symm
 have nn:=c2;simp only [cu,aj,au,bb,not_or,gd,fe,and_true] at nn;obtain ⟨⟨c0,c5,cj⟩,⟨cd,b5⟩,cz⟩:=nn;have b3:nl≠b:=yP al hb (fun z=>nomatch z);have a3:pl≠b:=yP a7 hb (fun z=>nomatch z);have b4:ql≠b:=yP b0 hb (fun z=>nomatch z);have cC:el≠b:=yP bt hb (fun z=>nomatch z);have np:p≠nl:=yP hp Z (fun z=>nomatch z);have df:p≠b:=yP hp b1 (fun z=>nomatch z);refine ⟨fun σ Hj=>σ=[some (.ref b),some (.ref t),some (.ref p),some (.ref l1),some (.ref l2)]/\Hj nl=some (.lst ((ZR B e).map V.str))/\∀a,a≠nl->Hj a=H3 a,?_,?_⟩
 ·have a8:=EnAt.same I a6
  rcases EO e with hk|⟨e,rfl⟩
  ·obtain ⟨tl,hh⟩:=a8.head;have he:ZR B e=B.zs:=by cases e<;>first|rfl|exact absurd rfl hk
   exact (jJ (SqT.of hh) zW (⟨rfl,jB rfl (j9 (fun z=>hk (V.str.inj z)) ⟨rfl,by rw [he];exact Z,fun _ _=>rfl⟩)⟩))
  obtain ⟨d1,gH,h1,h2,h3⟩:=id a8;refine (jJ (SqT.of h1) rfl (⟨rfl,jB rfl (kX rfl (j8 b1 (T.clO) (T.nO_kept_names) (hf.2.1) (⟨.inl ⟨rfl,_,so Z⟩,(jJ (SqT.of h1) rfl (jQ nl _ _ (vD rfl rfl Z (vN (by rw [ae];lia)) rfl ?_ (fun a ha=>j7 ha))))⟩)))⟩));rw [jF];show some (HO.lst _)=some (HO.lst ((B.zs++[e.name]).map V.str));rw [aJ];rfl
 rintro σ H4 ⟨rfl,co,g4⟩;refine (jJ (SqT.of (show H4 p=_ by rw [g4 p np];exact hp)) rfl (j0 b cO Y fs (j5 rfl (by rw [g4 b b3.symm];exact b1) T.clO T.nO_kept_ways (by lia) (?_))));refine (jJ (SqT.of (show upd H4 b _ p=_ by rw [j7 df,g4 p np];exact hp)) rfl (j0 b cO Y (jS "kept_ways" (.ref l) fs) (j5 rfl jF T.clO T.nO_kept_state (by have:=JQ "kept_ways" (.ref l) fs;lia) ?_)));have F:=(hf.put2 (.ref l)).put3 (.ref st);have ah:upd (upd H4 b (.ins cO Y (jS "kept_ways" (.ref l) fs))) b (.ins cO Y (jS "kept_state" (.ref st) (jS "kept_ways" (.ref l) fs))) b=some (.ins cO Y (jS "kept_state" (.ref st) (jS "kept_ways" (.ref l) fs))):=jF;have g6:∀a,a≠nl->a≠b->upd (upd H4 b (.ins cO Y (jS "kept_ways" (.ref l) fs))) b (.ins cO Y (jS "kept_state" (.ref st) (jS "kept_ways" (.ref l) fs))) a=H3 a:=fun a h1 h2=>by rw [j7 h2,j7 h2,g4 a h1]
 have n6:upd (upd H4 b (.ins cO Y (jS "kept_ways" (.ref l) fs))) b (.ins cO Y (jS "kept_state" (.ref st) (jS "kept_ways" (.ref l) fs))) nl=some (.lst ((ZR B e).map V.str)):=by rw [j7 b3,j7 b3];exact co
 generalize upd (upd H4 b (.ins cO Y (jS "kept_ways" (.ref l) fs))) b (.ins cO Y (jS "kept_state" (.ref st) (jS "kept_ways" (.ref l) fs)))=H6 at ah g6 n6 ⊢;have lf:(jS "kept_state" (.ref st) (jS "kept_ways" (.ref l) fs)).length<=7+2*(B.es.length+1):=by
  have h1:=JQ "kept_ways" (.ref l) fs;have h2:=JQ "kept_state" (.ref st) (jS "kept_ways" (.ref l) fs)
  lia
 generalize jS "kept_state" (.ref st) (jS "kept_ways" (.ref l) fs)=b9 at ah F lf;have p6:H6 pl=some (.lst B.ps):=by rw [g6 pl (Ne.symm c0) a3];exact c4
 have c7:H6 l1=some (.lst M):=by rw [g6 l1 (a0 _ _ _ _ al s1 a9) (a0 _ _ _ _ hb s1 a9)];exact br
 refine (j8 ah (T.clO) (T.nO_kept_pours) (F.2.2.2.2.1) (⟨.inl ⟨rfl,_,so p6⟩,(j0 pl l1 B.ps M (j5 rfl rfl p6 c7 (SJ (by lia)) ?_))⟩));have q7:upd H6 pl (.lst (B.ps++M)) ql=some (.lst B.qs):=by rw [j7 (Ne.symm cd),g6 ql (Ne.symm c5) b4];exact b8
 have dp:upd H6 pl (.lst (B.ps++M)) l2=some (.lst vs):=by rw [j7 (a0 _ _ _ _ a7 O am),g6 l2 (a0 _ _ _ _ al O am) (a0 _ _ _ _ hb O am)];exact dl
 refine (j8 (by rw [j7 (Ne.symm a3)];exact ah) (T.clO) (T.nO_kept_words) (F.2.2.2.2.2.1) (⟨.inl ⟨rfl,_,so q7⟩,(j0 ql l2 B.qs vs (j5 rfl rfl q7 dp (gY (by lia)) ?_))⟩));have e8:upd (upd H6 pl (.lst (B.ps++M))) ql (.lst (B.qs++vs)) el=some (.lst B.es):=by rw [j7 (Ne.symm cz),j7 (Ne.symm b5),g6 el (Ne.symm cj) cC];exact c3
 refine (j8 (by rw [j7 (Ne.symm b4),j7 (Ne.symm a3)];exact ah) (T.clO) (T.nO_kept_entries) (F.2.2.2.2.2.2.1) (⟨.inl ⟨rfl,_,so e8⟩,(jQ el _ _ (jO rfl rfl e8 (vN (by lia)) ?_))⟩));have ce:∀a,a∉A->a≠b/\a≠nl/\a≠pl/\a≠ql/\a≠el:=fun a h=>by
  rw [hA] at h;simp only [aj,au,bb,not_or] at h;exact h
 have S:qD (upd (upd (upd H6 pl (.lst (B.ps++M))) ql (.lst (B.qs++vs))) el (.lst (B.es++[.ref t]))) A=qD H3 A:=YD fun a ha=>by
  obtain ⟨m1,m2,m3,m4,m5⟩:=ce a ha;rw [j7 m5,j7 m4,j7 m3,g6 a m2 m1]
 have cr:∀a∈A,∃o,H a=some o/\∀l',o≠.tup l':=fun a h=>by
  rw [hA] at h;simp only [aj,au,bb] at h
  rcases h with rfl|rfl|rfl|rfl|rfl
  ·exact ⟨_,hb,fun _ z=>nomatch z⟩
  ·exact ⟨_,al,fun _ z=>nomatch z⟩
  ·exact ⟨_,a7,fun _ z=>nomatch z⟩
  ·exact ⟨_,b0,fun _ z=>nomatch z⟩
  ·exact ⟨_,bt,fun _ z=>nomatch z⟩
 have nT:∀a∈A,∀l',H3 a≠some (.tup l'):=fun a h l' e=>by
  obtain ⟨o,ho,hn⟩:=cr a h;rw [I _ _ ho] at e;exact hn l' (aA e)
 have nF:∀(a:Addr) (G:Hp),Same H G->G a=none->a∉A:=fun a G s h z=>by
  obtain ⟨o,ho,_⟩:=cr a z;rw [s _ _ ho] at h;cases h
 obtain ⟨dx,dD,c6⟩:=WM J.ok a4 hc hw;refine qv ⟨ZR B e,QN R L B e,dZ B e,kC B.ms an,J3 R L B e,us,st,B.ps++M,B.pd++an,B.qs++vs,B.qd++bU R L B e,B.es++[.ref t]⟩ _ ⟨(kL Y nl l pl ql el b9 (eA hA ?_ ?_ F ?_ ?_ ?_ jF c2 ?_)),?_,?_,?_,?_,?_,?_⟩ ⟨rfl,rfl,rfl,rfl,⟨an,be,rfl,rfl⟩,rfl,rfl⟩ ?_
 ·rw [j7 (Ne.symm cC),j7 (Ne.symm b4),j7 (Ne.symm a3)];exact ah
 ·show b9.length<=7+2*(B.es++[V.ref t]).length;rw [af];exact lf
 ·rw [j7 cj,j7 c5,j7 c0];exact n6
 ·rw [j7 b5,j7 cd];exact jF
 ·rw [j7 cz];exact jF
 ·rw [S,yJ (nF l H (Same.refl _) dn)];exact hl
 ·rw [S];exact J.cn.same (yS I)
 ·rw [S];exact b2.mono (WyAt.del nT)
 ·rw [S];exact StAt.del nT bl
 ·rw [S];refine (J.wd.mono (WdAt.same (yS I))).app (hW.mono fun v d ⟨t',l',e1,w1,w2,w3,w4,w5⟩=>⟨t',l',e1,?_,?_⟩)
  ·rw [yJ (nF t' H2 O w1)];exact w4
  ·rw [yJ (nF l' H2 O w2)];exact w5
 ·rw [S];show PoursH _ _ _ (kC B.ms an).length;rw [yB];exact (J.pp.same (yS I)).append (hP.delT nT)
 ·refine ⟨J.ok.dr,dx,by show (kC B.ms an).length=_;rw [yB];exact J.ok.ml,WW J.ok.d0,dD,c6,by show (B.es++[_]).length<=45;rw [af];exact c1,?_,?_,?_,?_⟩
  ·show (B.ps++M).length<=24*(B.es++[_]).length;rw [af,af,aE]
   lia
  ·show (B.qs++vs).length<=(B.es++[_]).length;rw [af,af,aE]
   lia
  ·intro z hz
   rcases aI.mp hz with h|h
   ·exact J.ok.pr z h
   ·obtain ⟨i,hi⟩:=cc.mp h;obtain ⟨a,s',t',m',ez,dK⟩:=hP.2 i z hi;exact ⟨a,ez⟩
  ·intro z hz
   rcases aI.mp hz with h|h
   ·exact J.ok.er z h
   ·exact ⟨t,av.mp h⟩
 ·rw [S];exact yS I
def rB:Ent->Prop
 |.take _ a=>0<=a
 |.rain _ a=>0<=a
 |.night W=>∀q∈W,0<=q.1/\0<=q.2
 |_=>True
def JN (h:List Int) (k m:Int):Int:=if h.length=0 then (k*k*7+3*k)%m else (h.getD (k%(((h.map V.int).length:Nat):Int)).toNat 0%1000003*(k*k+48271)+k*7919)%2147483647%m
theorem bP (E:List Int) (k:Int) {m:Int} (h:1<=m):0<=JN E k m/\JN E k m<m:=by
 unfold JN
 split
 ·exact ⟨ci _ (by lia),bu _ (by lia)⟩
 ·exact ⟨ci _ (by lia),bu _ (by lia)⟩
def oS (K:W.Frag):Sp:=fun vs H Q _=>∃s h,∃(k:Int) (m:Int),vs=[.ref s,.int k,.int m]/\SqL K H s (h.map V.int)/\h.length<=63/\0<=k/\k<=100000/\1<=m/\Q (.int (JN h k m)) H
theorem WT {K:W.Frag}:∀vs H Q E,dJ K vs H Q E->oS K vs H Q (fun _ _ _=>False):=by
 rintro vs H Q E ⟨s,F,k,m,e,J,G,I,M,h,q⟩;exact ⟨s,F,k,m,e,J,G,I,M,h,q _ (bP F k h).1 (bP F k h).2⟩
theorem fK (c n:Nat):(qV ⟨#[c]⟩ n).cps.toList=List.replicate n c:=by
 rw [AA];show (List.replicate n [c]).flatten=_;simp
theorem E5:("xyz":Str).cps.toList=[120,121,122]:=by trivial
theorem nQ (c s a b:Nat):(qV ⟨#[c]⟩ a++(⟨#[s]⟩:Str)++qV ⟨#[c]⟩ b).cps.toList=List.replicate a c++[s]++List.replicate b c:=by
 show ((qV ⟨#[c]⟩ a).cps++#[s]++(qV ⟨#[c]⟩ b).cps).toList=_;rw [Array.toList_append,Array.toList_append,fK,fK]
theorem YY (c n:Nat):qV ⟨#[c]⟩ n≠"xyz":=fun h=>by
 have E:(qV ⟨#[c]⟩ n).cps.toList=[120,121,122]:=by rw [h];exact E5
 rw [fK] at E;have F:(120:Nat)=c:=ca (n:=n) (by rw [E];simp);have G:(121:Nat)=c:=ca (n:=n) (by rw [E];simp)
 lia
theorem XE (c s a b:Nat):qV ⟨#[c]⟩ a++(⟨#[s]⟩:Str)++qV ⟨#[c]⟩ b≠"xyz":=fun h=>by
 have E:(qV ⟨#[c]⟩ a++(⟨#[s]⟩:Str)++qV ⟨#[c]⟩ b).cps.toList=[120,121,122]:=by rw [h];exact E5
 rw [nQ] at E
 match a,E with
 |0,E =>
  have F:s::List.replicate b c=[120,121,122]:=E;have G:=(gh F).2;have a1:(121:Nat)=c:=ca (n:=b) (by rw [G];simp);have a2:(122:Nat)=c:=ca (n:=b) (by rw [G];simp)
  lia
 |1,E =>
  have F:c::s::List.replicate b c=[120,121,122]:=E;have G:=(gh (gh F).2).2;have a1:(122:Nat)=c:=ca (n:=b) (by rw [G];simp);have a2:=(gh F).1
  lia
 |a+2,E =>
  have F:c::c::(List.replicate a c++[s]++List.replicate b c)=[120,121,122]:=E;have a1:=(gh F).1;have a2:=(gh (gh F).2).1
  lia
def B8 (z:Str):Prop:=JM lettersS z=true/\z≠"xyz"/\z.length<=50
def NmsOk (zs:List Str):Prop:=zs.Nodup/\∀z∈zs,B8 z
theorem NmsOk.take {zs:List Str} (h:NmsOk zs) (n:Nat):NmsOk (zs.take n):=⟨h.1.sublist (take_sublist n zs),fun z E=>h.2 z (mem_of_mem_take E)⟩
theorem DO:∀z:Nat,z<26->oW z=97+z/\pN lettersS (97+z)=true:=by trivial
theorem HZ {z:Str} (I:1<=z.length) (G:z.length<=12) (h:∀c∈z.cps.toList,97<=c/\c<123):JM lettersS z=true:=by
 unfold JM;rw [aB (show 0<z.length by lia),aB (show z.length<13 by lia)];show eE lettersS z z.cps.size=true;unfold eE;rw [dw];intro c E;obtain ⟨J,F⟩:=h c (mem_of_mem_take E);have:=(DO (c - 97) (by lia)).2
 rwa [show 97+(c - 97)=c by lia] at this
def ZE (h:Bool) (ch a b e:Nat) (j:Nat):Str:=if h=true then qV ⟨#[97+ch]⟩ (j+1) else qV ⟨#[97+ch]⟩ a++(⟨#[97+(e+j)%26]⟩:Str)++qV ⟨#[97+ch]⟩ b
theorem xB (a b:Str):(a++b).length=a.length+b.length:=by
 show (a.cps++b.cps).size=a.cps.size+b.cps.size;exact Array.size_append
theorem Y9 {G:Bool} {ch a b e j:Nat} (I:ch<26) (F:a+b<=11) (J:j<12):B8 (ZE G ch a b e j):=by
 have E:∀(c n:Nat),(qV ⟨#[c]⟩ n).length=n:=fun c n=>by rw [oE];show n*1=n;lia
 unfold ZE
 split
 ·refine ⟨HZ (by rw [E];lia) (by rw [E];lia) fun c h=>?_,YY _ _,by rw [E];lia⟩;rw [fK] at h;rw [ca h]
  lia
 ·have M:(qV ⟨#[97+ch]⟩ a++(⟨#[97+(e+j)%26]⟩:Str)++qV ⟨#[97+ch]⟩ b).length=a+1+b:=by rw [xB,xB,E,E];rfl
  refine ⟨HZ (by lia) (by lia) fun c h=>?_,XE _ _ _ _,by lia⟩;rw [nQ] at h
  rcases aI.mp h with h|h
  ·rcases aI.mp h with h|h
   ·rw [ca h];lia
   ·rw [av.mp h];lia
  ·rw [ca h];lia
theorem XY {E:Bool} {ch a b e i j:Nat} (hi:i<12) (F:j<12) (h:ZE E ch a b e i=ZE E ch a b e j):i=j:=by
 unfold ZE at h;have h:=bf (fun z:Str=>z.cps.toList) h;cases E
 ·simp only [Bool.false_eq_true,if_false] at h;rw [nQ,nQ] at h;have h:=append_cancel_left (append_cancel_right h);have h:=(gh h).1
  lia
 ·simp only [if_true] at h;rw [fK,fK] at h;have:=bf List.length h;rw [cb,cb] at this
  lia
theorem XZ {J:Bool} {ch a b e m:Nat} (G:ch<26) (F:a+b<=11) (O:m<=12):NmsOk ((List.range m).map (ZE J ch a b e)):=by
 refine ⟨?_,fun z I=>?_⟩
 ·refine pairwise_map.mpr (List.Pairwise.imp_of_mem (fun {i j} M E h z=>h (XY (e:=e) ?_ ?_ z)) nodup_range)
  ·have:=bp.mp M;lia
  ·have:=bp.mp E;lia
 ·obtain ⟨j,E,rfl⟩:=aO.mp I;have:=bp.mp E;exact Y9 G F (by lia)
def fE (K:W.Frag):Sp:=fun vs H Q _=>∃s,∃(h:List Int) (k:Int) (m:Nat),vs=[.ref s,.int k,.int (m:Int)]/\SqL K H s (h.map V.int)/\h.length<=63/\0<=k/\k<=90000/\m<=12/\∀l zs H',Same H H'->H l=none->H' l=some (.lst (zs.map V.str))->zs.length=m->NmsOk zs->Q (.ref l) H'
theorem UQ {K:W.Frag}:∀vs H Q E,fE K vs H Q E->fE K vs H Q (fun _ _ _=>False):=fun vs H Q E h=>h
theorem ID {i:Int} (E:0<=i) (h:i<26):vM ("abcdefghijklmnopqrstuvwxyz":Str).cps.toList i=some (97+i.toNat):=by
 rw [<- (DO i.toNat (by lia)).1];exact TW E h
def FH (K:W.Frag) (cR:Addr):Sp:=fun vs H Q _=>∃s,∃(h:List Int) (k:Nat) (u:Int) (nm:Str),vs=[.ref s,.int (k:Int),.int u,.str nm]/\SqL K H s (h.map V.int)/\h.length<=63/\k<8/\1<=u/\u<=10000000000/\∀x r H',r.good k->r.name=nm->Same H H'->H x=none->RcAt cR H' x r->Q (.ref x) H'
def GZ (K:W.Frag) (cs:Kd->Addr):Sp:=fun vs H Q _=>∃s,∃(h:List Int) (k n:Nat) (u:Int) (nm:Str),vs=[.ref s,.int (k:Int),.int (n:Int),.int u,.str nm]/\SqL K H s (h.map V.int)/\h.length<=63/\k<4/\2<=n/\n<=8/\1<=u/\u<=10000000000/\∀x l H',l.good n->l.name=nm->Same H H'->H x=none->LkO cs H' (.ref x) l->Q (.ref x) H'
def FO (K:W.Frag) (cs:Kd->Addr) (cR cN:Addr):Sp:=fun vs H Q _=>∃s,∃(G:List Int) (h E F:Nat),vs=[.ref s,.int (h:Int),.int (E:Int),.int (F:Int)]/\SqL K H s (G.map V.int)/\G.length<=63/\2<=h/\h<=8/\1<=E/\E<=4/\F<=5/\∀x R L N H',Drawn R L N->(∀p∈N,∀q∈p,0<=q.1/\0<=q.2)->NmsOk (R.map (·.name))->NmsOk (L.map (·.name))->R.length<=h->L.length<=E->N.length<=F->2<=R.length->1<=L.length->Same H H'->H x=none->CnAt cs cR cN [] H' x R L N->Q (.ref x) H'
theorem VC {zs:List Str} {c:Nat} (h:c<=zs.length):QP (zs.map V.str) none (some (c:Int))=(zs.take c).map V.str:=by
 unfold QP;rw [ae,HT.sIx_none,HT.sIx_nat,Nat.min_eq_left h,drop_zero,Nat.sub_zero,map_take]
def GW (K:W.Frag) (cs:Kd->Addr) (cR cN:Addr):Sp:=fun vs H Q _=>∃s x,∃(E:List Int) (k h:Nat),∃D R L N,vs=[.ref s,.int (k:Int),.ref x,.int (h:Int)]/\SqL K H s (E.map V.int)/\E.length<=63/\k<20/\1<=h/\h<=8/\CnAt cs cR cN D H x R L N/\Drawn R L N/\1<=L.length/\∀t y H',WyOk L y->1<=y.2.length->(∃a:Nat,y.1=(a:Int)/\a<R.length)->Same H H'->H t=none->WyAt H' (.ref t) y->Q (.ref t) H'
theorem U7 {R:List RC} {L:List LC} {N:List (List (Int×Int))} (d:Drawn R L N) {a:Int} (h:EndAt L a):∃n:Nat,a=(n:Int)/\n<R.length:=by
 obtain ⟨⟨k,b⟩,I,E⟩:=h;obtain ⟨l,F,G⟩:=xF d I;have F:L[k]?=some l:=F;obtain ⟨S,J,M,O,_⟩:=G;cases b
 ·rw [Z2 F] at E;have E:l.high=a:=E;exact ⟨a.toNat,by lia,by lia⟩
 ·rw [Z5 F] at E;have E:l.low=a:=E;exact ⟨a.toNat,by lia,by lia⟩
def QA (L:List LC) (k:Nat):Str:=((L[k]?).map (·.name)).getD ""
def ZM (R:List RC) (k:Nat):Str:=((R[k]?).map (·.name)).getD ""
def FN (cs:Kd->Addr) (cR cN:Addr):Sp:=fun vs H Q _=>∃x t nm y,∃(a:Nat),∃D R L N,vs=[.ref x,.str nm,.ref t]/\CnAt cs cR cN D H x R L N/\WyAt H (.ref t) y/\WyOk L y/\y.1=(a:Int)/\a<R.length/\
 ∀e H',Same H H'->H e=none->CoAt H' e ⟨nm,ZM R a,y.2.map fun p=>(QA L p.1,p.2)⟩->Q (.ref e) H'
theorem eZ {zs:List Str} {n:Str} {i:Nat} (h:zs.Nodup) (hi:zs[i]?=some n):kJ zs n=some i:=by
 refine dB ⟨hi,fun j G e=>?_⟩;obtain ⟨I,J⟩:=ad.mp hi;obtain ⟨E,F⟩:=ad.mp e;have:=(pairwise_iff_getElem.mp h) j i E I G;exact this (by rw [J,F])
theorem xE {zs:List Str} {n:Str} (h:n∈zs):∃i,kJ zs n=some i:=by
 cases E:kJ zs n with
 |some i=>exact ⟨i,rfl⟩
 |none =>
  obtain ⟨i,F⟩:=cc.mp h;exact absurd F (m6 E i)
theorem UU {L:List LC} {k:Nat} (h:k<L.length):(L.map (·.name))[k]?=some (QA L k):=by
 unfold QA;rw [ap,aa h];rfl
theorem UC {R:List RC} {k:Nat} (h:k<R.length):(R.map (·.name))[k]?=some (ZM R k):=by
 unfold ZM;rw [ap,aa h];rfl
theorem DG {L:List LC} (h:(L.map (·.name)).Nodup):∀{ps:List (Nat×Bool)},(∀p∈ps,p.1<L.length)->y9 (L.map (·.name)) (ps.map fun p=>(QA L p.1,p.2))=some ps
 |[],_=>rfl
 |p::ps,E=>by
  rw [cf];unfold y9;rw [eZ h (UU (E p aT)),DG h fun q F=>E q (aF _ F)];rfl
theorem VF {R:List RC} {L:List LC} (G:NmsOk (R.map (·.name))) (O:NmsOk (L.map (·.name))) {y:vE} {a:Nat} (E:WyOk L y) (I:y.1=(a:Int)) (h:a<R.length) {nm:Str} {zs:List Str} (M:B8 nm) (F:nm∉zs) (S:zs.length<9):vS R L zs ⟨nm,ZM R a,y.2.map fun p=>(QA L p.1,p.2)⟩=0:=by
 have J:zV R L ⟨nm,ZM R a,y.2.map fun p=>(QA L p.1,p.2)⟩=some y:=by
  unfold zV;show (match kJ (R.map fun r:RC=>r.name) (ZM R a) with|none=>none|some a=>(y9 (L.map fun l:LC=>l.name) (y.2.map fun p:Nat×Bool=>(QA L p.1,p.2))).map fun ps=>((a:Int),ps))=_;rw [eZ G.1 (UC h),DG O.1 E.lt];show some ((a:Int),y.2)=some y;rw [<- I]
 unfold vS;rw [if_neg (show ¬JM lettersS nm=false by rw [M.1];decide),if_neg F,if_neg (by lia),J];exact if_pos E.ok
def J9 (N:List (List (Int×Int))) (d:Int) (r:Nat):Int×Int:=if d<(N.length:Int) then (N.getD d.toNat []).getD r (0,0) else (0,0)
def DC (cs:Kd->Addr) (cR cN:Addr):Sp:=fun vs H Q _=>∃x,∃(d h:Int),∃R L N,vs=[.ref x,.int d,.int h]/\CnAt cs cR cN [] H x R L N/\Drawn R L N/\eI N/\0<=d/\0<=h/\h<=100000000000/\
 ∀E F W H',Same H H'->H E=none->H' E=some (.tup F)->AllAt (QAt H') F W->W.length=R.length->(d<(N.length:Int)->b7 W (N.getD d.toNat [])=true)->(∀q∈W,0<=q.1/\0<=q.2)->Q (.ref E) H'
def EF (cs:Kd->Addr) (cR cN:Addr):Sp:=fun vs H Q _=>∃x h zs,∃(d c u:Int),∃R L N,vs=[.ref x,.ref h,.int d,.int c,.int u]/\CnAt cs cR cN [] H x R L N/\Drawn R L N/\eI N/\1<=R.length/\1<=L.length/\0<=d/\1<=u/\u<=10000000000/\H h=some (.lst (zs.map V.str))/\zs.length<=100/\
 ∀t e H',Same H H'->EnAt H' t e->cK e->(∀B:BkS,B.zs=zs->B.d=d->qL R L N B e=0)->(∀B:BkS,ZR B e=B.zs)->rB e->Q (.ref t) H'
theorem YI (zs:List Str) {d:Int} (F:0<=d) (E:d<(zs.length:Int)):∃z,z∈zs/\vM (zs.map V.str) d=some (.str z):=by
 obtain ⟨k,rfl⟩:∃k:Nat,d=(k:Int):=⟨d.toNat,by lia⟩;have h:k<zs.length:=by lia
 exact ⟨zs[k],cw h,qF (by rw [ap,aa h];rfl)⟩
theorem nA {R:List RC} {L:List LC} {N:List (List (Int×Int))} {B:BkS} {e:Ent} {i:Nat} (h:zT e=true) (hi:Q7 R L B.zs e=some i):qL R L N B e=0:=by
 have:qL R L N B e=if Q7 R L B.zs e=none then 4 else 0:=by cases e<;>first|rfl|cases h
 rw [this,hi,if_neg (by simp)]
section
variable {R:List RC} {L:List LC} {N:List (List (Int×Int))} {ms gs:List Int} {B B':BkS} {e:Ent}
theorem V8 {s t j:Nat} {a:Int} (h:s<ms.length) (F:t<ms.length):(kC ms [(s,t,a)]).getD j 0=ms.getD j 0+((if t=j then a else 0) - (if s=j then a else 0)):=by
 rw [QV _ _ _ (fun q E=>by rw [av.mp E];exact ⟨h,F⟩)];show _+((if t=j then a else 0) - (if s=j then a else 0)+0)=_
 lia
theorem IT {s t n:Nat} {a:Int} (E:s<n) (F:t<n):∀q∈yN s t a,q.1<n/\q.2.1<n:=fun q h=>by
 unfold yN at h
 split at h
 ·cases h
 ·rw [av.mp h];exact ⟨E,F⟩
theorem FP {s t j:Nat} {a:Int} (E:s<ms.length) (F:t<ms.length):(kC ms (yN s t a)).getD j 0=ms.getD j 0+((if t=j then a else 0) - (if s=j then a else 0)):=by
 unfold yN
 by_cases h:a=0
 ·rw [if_pos h,h];show ms.getD j 0=_
  split<;>split<;>lia
 ·rw [if_neg h];exact V8 E F
theorem IS {s t:Nat} {a:Int} (F:0<=a) (E:s≠t):∀q∈yN s t a,ZD q:=fun q h=>by
 unfold yN at h
 split at h
 ·cases h
 ·rw [av.mp h];exact ⟨by show 0<a;lia,E⟩
theorem BE {mt:List Int} (h:LkOk R L ms) (F:mt.length=ms.length) (k:∀j,R.length<=j->j<R.length+2*L.length->mt.getD j 0=ms.getD j 0):LkOk R L mt :=
 ⟨F.trans h.len,fun i l E=>by have:=(ad.mp E).1;rw [k _ (by lia) (by lia)];exact h.cham i l E,fun i l E=>by have:=(ad.mp E).1;rw [k _ (by lia) (by lia)];exact h.bas i l E⟩
theorem BM (E:Drawn R L N) (h:ms.length=R.length+2*L.length+2):∀q∈yM (qB (kR R L.length)) (fun a=>gs.getD a 0) (kR R L.length).length,q.1<ms.length/\q.2.1<ms.length:=fB (by rw [zG];lia) (by rw [h];exact fD (JE E))
theorem YN (h:Drawn R L N) (E:LkOk R L ms) (O:QR ms) (M:Spl (kR R L.length) ms gs):WOk R L (kC ms (bK R L gs))/\(∀q∈bK R L gs,ZD q/\q.1<ms.length/\q.2.1<ms.length)/\∀j,R.length<=j->j<R.length+2*L.length->(kC ms (bK R L gs)).getD j 0=ms.getD j 0:=by
 have F:∀j,R.length<=j->j<R.length+2*L.length->(kC ms (bK R L gs)).getD j 0=ms.getD j 0:=fun j I G=>by
  unfold bK;rw [QV _ _ _ (fun q J=>BM (gs:=gs) h E.len q (aV.mp J).1)];rw [nP (JE h) I G]
  lia
 have e:kC ms (bK R L gs)=yK ms (kR R L.length) gs:=xD (BM h E.len);obtain ⟨V,Y⟩:=oB h E.len O M;refine ⟨⟨BE E (yB _ _) F,by rw [e];exact V,by rw [e];exact Y⟩,fun q J=>?_,F⟩;obtain ⟨I,G⟩:=aV.mp J;refine ⟨?_,BM h E.len q I⟩;obtain ⟨i,hi,rfl⟩:=aO.mp I;have hi:=mem_downs.mp hi;have Z:¬gs.getD i 0=0:=fun e=>by unfold qM at G;rw [aB (show gs.getD i 0=0 from e)] at G;cases G
 have O:0<=gs.getD i 0:=by
  have:=M.2 i hi;rw [show gs.getD i 0=(fun a=>gs.getD a 0) i from rfl,this];exact wT _ _
 refine ⟨by show 0<gs.getD i 0;lia,?_⟩;show i≠qB (kR R L.length) i;rw [zG] at hi;obtain ⟨r,S⟩:∃r,R[i]?=some r:=⟨_,aa hi⟩;have:=JE h i r S;rw [nG S]
 split<;>lia
theorem YO {qs:List (Nat×Nat×Int)} (O:BkOk R L N B) (hn:eI N) (G:WOk R L B.ms) (V:rB e) (hc:qL R L N B e=0) (I:yQ R L N B e="") (hP:PourE R L N B e qs) :
  WOk R L (kC B.ms qs)/\(∀q∈qs,ZD q)/\(kC B.ms qs).sum=B.ms.sum/\
  ((∀de,vR R L B.zs e=some de->zT e=true->ZP B.ys.length L.length de/\zJ R L N.length B.ys B.d B.ms B.pl de=""/\∀k,k<L.length->(kC B.ms qs).getD (R.length+k) 0=fY B.ms R.length L B.ys B.pl de k)/\((vR R L B.zs e=none\/zT e=false)->∀k,k<L.length->(kC B.ms qs).getD (R.length+k) 0=B.ms.getD (R.length+k) 0)):=by
 have J:=O.dr;have hl:=G.lk.len
 by_cases E:ZO e=true/\zT e=true
 ·obtain ⟨de,Z,S,a0,_⟩:=iM O.zl E.1 hc;rw [a0] at I;obtain ⟨e1,e2⟩:=FT (N:=N) E.1 E.2 Z
  rcases hP with ⟨a,_⟩|⟨_,gs,Y,rfl⟩
  ·rw [e2] at a;cases a
  rw [e1] at Y ⊢;obtain ⟨w1,w2,w3⟩:=E6 J hn G O.fl O.d0 S I Y;refine ⟨w1,w2,w3,fun a6 h _=>?_,fun h=>?_⟩
  ·rw [Z] at h;cases h;exact ⟨S,I,(oV J G.lk O.fl S I).2⟩
  ·rcases h with h|h
   ·rw [Z] at h;cases h
   ·rw [E.2] at h;cases h
 cases e with
 |pas n=>exact absurd ⟨rfl,rfl⟩ E
 |lt n=>exact absurd ⟨rfl,rfl⟩ E
 |come e =>
  rcases hP with ⟨_,rfl⟩|⟨a,_⟩
  ·exact ⟨G,(fun q hq=>by cases hq),rfl,(fun de h=>by cases h),fun _ _ _=>rfl⟩
  ·cases a
 |take n a =>
  obtain ⟨i,hi⟩:=QJ (e:=.take n a) rfl hc
  rcases hP with ⟨_,rfl⟩|⟨a,_⟩
  case inr=>cases a
  rw [<- FS hi];have M:=ZH (show kJ (R.map (·.name)) n=some i from hi);rw [ae] at M;obtain ⟨r,hr⟩:∃r,R[i]?=some r:=⟨_,aa M⟩;have I:¬B.ms.getD i 0 - a<r.least:=fun h=>by
   have e1:yQ R L N B (.take n a)=match kJ (R.map (·.name)) n with|some i=>if B.ms.getD i 0 - a<((R[i]?).map (·.least)).getD 0 then "water" else ""|none=>"":=rfl
   rw [e1,show kJ (R.map (·.name)) n=some i from hi] at I;have I:(if B.ms.getD i 0 - a<((R[i]?).map (·.least)).getD 0 then ("water":Str) else "")="":=I;rw [if_pos (show B.ms.getD i 0 - a<((R[i]?).map (·.least)).getD 0 by rw [hr];exact h)] at I;exact absurd I (by trivial)
  have ha:0<=a:=V;have hg:=J.good i r hr;unfold RC.good at hg;have g:∀j,(kC B.ms (yN i (R.length+2*L.length+1) a)).getD j 0=_:=fun j=>FP (by lia) (by lia)
  have F:∀j,R.length<=j->j<R.length+2*L.length->(kC B.ms (yN i (R.length+2*L.length+1) a)).getD j 0=B.ms.getD j 0:=fun j h1 h2=>by rw [g,if_neg (by lia),if_neg (by lia)];lia
  refine ⟨⟨BE G.lk (yB _ _) F,fun j hj=>?_,fun j r' ah=>?_⟩,IS ha (by lia),mX _ _ (IT (by lia) (by lia)),(fun de h=>by cases h),fun _ k an=>F _ (by lia) (by lia)⟩
  ·rw [yB] at hj;rw [g,if_neg (by lia)];have:=G.lo j hj
   split
   ·rename_i h;subst h;lia
   ·lia
  ·have hj:=(ad.mp ah).1;rw [g,if_neg (by lia)];have:=G.hi j r' ah
   split<;>lia
 |rain n a =>
  obtain ⟨i,hi⟩:=QJ (e:=.rain n a) rfl hc
  rcases hP with ⟨a,_⟩|⟨_,gs,Y,rfl⟩
  ·cases a
  rw [AC hi] at Y ⊢;have M:=ZH (show kJ (R.map (·.name)) n=some i from hi);rw [ae] at M;have ha:0<=a:=V;have g:∀j,(kC B.ms (yN (R.length+2*L.length+1) i a)).getD j 0=_:=fun j=>FP (by lia) (by lia)
  have F:∀j,R.length<=j->j<R.length+2*L.length->(kC B.ms (yN (R.length+2*L.length+1) i a)).getD j 0=B.ms.getD j 0:=fun j h1 h2=>by rw [g,if_neg (by lia),if_neg (by lia)];lia
  have a5:=BE (mt:=kC B.ms (yN (R.length+2*L.length+1) i a)) G.lk (yB _ _) F;obtain ⟨w1,w2,w3⟩:=YN J a5 (fun j hj=>by
   rw [yB] at hj;rw [g,if_neg (show ¬R.length+2*L.length+1=j by lia)];have:=G.lo j hj
   split<;>lia) Y
  have ep:kC B.ms (yN (R.length+2*L.length+1) i a++bK R L gs)=kC (kC B.ms (yN (R.length+2*L.length+1) i a)) (bK R L gs):=by
   show List.foldl pour B.ms _=_;rw [il];rfl
  refine ⟨by rw [ep];exact w1,fun q hq=>?_,mX _ _ fun q hq=>?_,(fun de h=>by cases h),fun _ k an=>by rw [ep,w3 _ (by lia) (by lia),F _ (by lia) (by lia)]⟩
  ·rcases aI.mp hq with h|h
   ·exact IS ha (by lia) q h
   ·exact (w2 q h).1
  ·rcases aI.mp hq with h|h
   ·exact IT (by lia) (by lia) q h
   ·have:=(w2 q h).2
    rwa [yB] at this
 |night W =>
  have a3:=FY hc
  rcases hP with ⟨a,_⟩|⟨_,gs,Y,rfl⟩
  ·cases a
  have al:Drawn R L [W]:=⟨J.r8,J.r1,J.l8,by show 1<=6;decide,J.good,J.lock,fun p hp=>by rw [av.mp hp];exact a3⟩;have a4:eI [W]:=fun p hp=>by rw [av.mp hp];exact V
  have am:zJ R L [W].length B.ys 0 B.ms B.pl .night="":=rfl;obtain ⟨w1,w2,w3⟩:=E6 (N:=[W]) (d:=0) (de:=.night) (gs:=gs) al a4 G O.fl (dq _) trivial am Y;exact ⟨w1,w2,w3,(fun de _ h=>by cases h),fun _=>(oV (N:=[W]) (d:=0) (de:=.night) (gs:=gs) al G.lk O.fl trivial am).2⟩
end
section
variable {R:List RC} {L:List LC} {N:List (List (Int×Int))} {ys:List vE} {pl:List Nat}
theorem UF (h:pl.length=ys.length) (y:vE):vT L (ys++[y]) (pl++[0])=vT L ys pl++[qP L y 0]:=by
 unfold vT;rw [af,aE,ei,aJ]
 congr 1
 ·refine map_congr_left fun i hi=>?_
  have hi:=bp.mp hi;rw [ac,ac,aw hi,aw (by lia),<- ac,<- ac]
 ·show [qP L ((ys++[y]).getD ys.length (0,[])) ((pl++[0]).getD ys.length 0)]=[_];rw [ac,ac,ar (ao _),ar (by lia),h,gm];rfl
def pS (R:List RC) (L:List LC) (ys:List vE) (pl:List Nat):Prop:=∀(i:Nat) r,R[i]?=some r->(JB L ys pl (i:Int):Int)<=r.berths
theorem jAm {B:BkS} {e:Ent} (S:BkOk R L N B) (M:pS R L B.ys B.pl) (a3:cK e) (hc:qL R L N B e=0) (O:yQ R L N B e=""):pS R L (QN R L B e) (J3 R L B e):=by
 by_cases F:ZO e=true
 ·obtain ⟨de,J,V,am,_⟩:=iM S.zl F hc;have e1:=(KI (e:=e) F J).2;have e2:QN R L B e=B.ys:=by cases e<;>first|rfl|cases F
  rw [e1,e2];intro i r I
  by_cases hN:zT e=true
  ·rw [am] at O
   rcases ST S.fl V O I with h|h
   ·exact Int.le_trans h (M i r I)
   ·exact h
  ·have:QI B.pl de=B.pl:=by
    cases e with
    |night W=>cases J;rfl
    |pas n=>exact absurd rfl hN
    |lt n=>exact absurd rfl hN
    |come e=>cases F
    |take n a=>cases F
    |rain n a=>cases F
   rw [this];exact M i r I
 cases e with
 |pas n=>exact absurd rfl F
 |lt n=>exact absurd rfl F
 |night W=>exact absurd rfl F
 |take n a=>exact M
 |rain n a=>exact M
 |come e =>
  obtain ⟨y,Y,a8,a5,h9⟩:=oN (show vS R L B.zs e=0 from hc);obtain ⟨a,ha,a4,a7,a9,a6⟩:=nM Y;have a0:QN R L B (.come e)=B.ys++[y]:=by show B.ys++(zV R L e).toList=_;rw [Y];rfl
  have al:J3 R L B (.come e)=B.pl++[0]:=rfl;have h1:=a3.2.2;rw [a0,al];intro i r I;have Z:qP L y 0=(a:Int):=by
   unfold qP;rw [if_neg (by lia)];exact ha
  have E:bY R L B e=false:=by
   cases hB:bY R L B e with
   |false=>rfl
   |true =>
    have e1:yQ R L N B (.come e)=if bY R L B e=true then ("berth":Str) else "":=rfl
    rw [e1,if_pos hB] at O;exact absurd O (by trivial)
  have G:¬((R[a]?).map (·.berths)).getD 0<=((JB L B.ys B.pl (a:Int):Nat):Int):=fun h=>by
   unfold bY at E;rw [Y] at E;have E:decide (((R[y.1.toNat]?).map (·.berths)).getD 0<=(((vT L B.ys B.pl).countP fun z=>decide (z=y.1):Nat):Int))=false:=E;rw [ha] at E;exact absurd h (gl E)
  unfold JB;rw [UF S.fl.len,countP_append];have an:=M i r I;unfold JB at an;rw [Z]
  by_cases ah:a=i
  ·subst ah;rw [I] at G;have G:¬r.berths<=((JB L B.ys B.pl (a:Int):Nat):Int):=G;unfold JB at G;have h3:List.countP (fun z=>decide (z=(a:Int))) [(a:Int)]<=1:=countP_le_length
   lia
  ·have h3:List.countP (fun z=>decide (z=(i:Int))) [(a:Int)]=0:=by
    rw [countP_eq_zero];intro z hz;rw [av.mp hz];simp
    lia
   lia
end
structure Gt where
 hi:Bool
 lo:Bool
 fu:Bool
 bo:Bool
inductive Act
 |opn|sht|inn|out
inductive Wd
 |fil|lte
 |act (a:Act) (s:Bool)
def yV:Wd->Str
 |.fil=>"fill"
 |.lte=>"let"
 |.act .opn true=>"open high"
 |.act .opn false=>"open low"
 |.act .sht true=>"shut high"
 |.act .sht false=>"shut low"
 |.act .inn true=>"in high"
 |.act .inn false=>"in low"
 |.act .out true=>"out high"
 |.act .out false=>"out low"
def Gt.at (g:Gt) (s:Bool):Bool:=if s then g.hi else g.lo
def Gt.set (g:Gt) (s v:Bool):Gt:=if s then {g with hi:=v} else {g with lo:=v}
def gW:Wd->Gt->Option Gt
 |.fil,g=>if g.hi||g.lo||g.fu then none else some {g with fu:=true}
 |.lte,g=>if g.hi||g.lo || !g.fu then none else some {g with fu:=false}
 |.act .opn s,g=>if g.at s||g.at (!s)||(g.fu != s) then none else some (g.set s true)
 |.act .sht s,g=>if g.at s then some (g.set s false) else none
 |.act .inn s,g=>if g.at s && !g.bo then some {g with bo:=true} else none
 |.act .out s,g=>if g.at s&&g.bo then some {g with bo:=false} else none
def cF:List Wd->Gt->Option Gt
 |[],g=>some g
 |d::ds,g=>(gW d g).bind (cF ds)
def LH:List Wd:=[.act .opn false,.act .inn false,.act .sht false,.fil,.act .opn true,.act .out true,.act .sht true]
def KZ:List Wd:=[.act .opn true,.act .inn true,.act .sht true,.lte,.act .opn false,.act .out false,.act .sht false]
def BO (f w:Bool):List Wd:=match f,w with
 |true,true=>.lte::LH
 |false,true=>LH
 |true,false=>KZ
 |false,false=>.fil::KZ
theorem V5 (f w:Bool):(BO f w).map yV=dS f w:=by cases f<;>cases w<;>rfl
theorem VT (f w:Bool):cF (BO f w) ⟨false,false,f,false⟩=some ⟨false,false,w,false⟩:=by cases f<;>cases w<;>rfl
def GRun (h:List Str):List (Str×List Str)->(Str->Bool)->(Str->Bool)->Prop
 |[],f,E=>f=E
 |p::r,f,E=>p.1∈h/\∃(ds:List Wd) (b:Bool),p.2=ds.map yV/\ds.length<=8/\cF ds ⟨false,false,f p.1,false⟩=some ⟨false,false,b,false⟩/\GRun h r (fun z=>if z=p.1 then b else f z) E
theorem GRun.snoc {E:List Str} {F:Str->Bool} {b:List (Str×List Str)}:∀{a:List (Str×List Str)} {f G:Str->Bool},GRun E a f G->GRun E b G F->GRun E (a++b) f F
 |[],_,_,h,h'=>by cases h;exact h'
 |_::_,_,_,⟨S,ds,c,M,I,J,O⟩,h'=>⟨S,ds,c,M,I,J,O.snoc h'⟩
def lE (R:List RC) (L:List LC) (ms:List Int) (E:List (Str×List Str)):Prop:=∃h,GRun (L.map (·.name)) E (fun _=>false) h/\∀(k:Nat) l,L[k]?=some l->h l.name=vX R.length ms k
section
variable {R:List RC} {L:List LC} {N:List (List (Int×Int))}
theorem oH (E:(L.map (·.name)).Nodup) {i k:Nat} {a b:LC} (F:L[i]?=some a) (I:L[k]?=some b) (e:b.name=a.name):k=i:=by
 have G:=eZ E (i:=i) (n:=a.name) (by rw [ap,F];rfl);have h:=eZ E (i:=k) (n:=a.name) (by rw [ap,I];exact bf some e);rw [G] at h;exact (aA h).symm
theorem jAk {B:BkS} {e:Ent} {qs:List (Nat×Nat×Int)} (ok:BkOk R L N B) (hL:(L.map (·.name)).Nodup) (hk:WOk R L B.ms) (hg:lE R L B.ms B.qd) (hc:qL R L N B e=0) (hw:yQ R L N B e="")
  (hD:(∀de,vR R L B.zs e=some de->zT e=true->ZP B.ys.length L.length de/\zJ R L N.length B.ys B.d B.ms B.pl de=""/\∀k,k<L.length->(kC B.ms qs).getD (R.length+k) 0=fY B.ms R.length L B.ys B.pl de k)/\((vR R L B.zs e=none\/zT e=false)->∀k,k<L.length->(kC B.ms qs).getD (R.length+k) 0=B.ms.getD (R.length+k) 0)):lE R L (kC B.ms qs) (B.qd++bU R L B e):=by
 obtain ⟨fl,g1,g2⟩:=hg;have G:(vR R L B.zs e=none\/zT e=false)->bU R L B e=[]->lE R L (kC B.ms qs) (B.qd++bU R L B e):=fun h h0=>by
  rw [h0,cq];refine ⟨fl,g1,fun k l F=>?_⟩;rw [g2 k l F];unfold vX;rw [hD.2 h k (ad.mp F).1]
 cases e with
 |come e=>exact G (.inl rfl) rfl
 |take n a=>exact G (.inl rfl) rfl
 |rain n a=>exact G (.inl rfl) rfl
 |night W=>exact G (.inr rfl) rfl
 |lt n =>
  obtain ⟨i,M⟩:=QJ (e:=.lt n) rfl hc;have M:kJ (L.map (·.name)) n=some i:=M;have Z:vR R L B.zs (.lt n)=some (.let i):=by show (kJ (L.map (·.name)) n).map Deed.let=_;rw [M];rfl
  obtain ⟨S,I,Y⟩:=hD.1 _ Z rfl;have a3:i<L.length:=S;obtain ⟨lc,E⟩:∃lc,L[i]?=some lc:=⟨_,aa a3⟩;have J:lc.name=n:=by
   have:=(cY M).1;rw [ap,E] at this;exact aA this
  have a0:vX R.length B.ms i=true:=by
   have I:(if vX R.length B.ms i=true then ("":Str) else "empty")="":=I
   by_cases h:vX R.length B.ms i=true
   ·exact h
   ·rw [if_neg h] at I;exact absurd I (by trivial)
  refine ⟨fun z=>if z=n then false else fl z,g1.snoc ⟨by rw [<- J];exact aO.mpr ⟨lc,ag E,rfl⟩,[.lte],false,rfl,by decide,by rw [<- J,g2 i lc E,a0];rfl,rfl⟩,fun k l F=>?_⟩;have O:=(ad.mp F).1;unfold vX;rw [Y k O];show (if l.name=n then false else fl l.name)=decide (0<(if i=k then 0 else B.ms.getD (R.length+k) 0))
  by_cases h:i=k
  ·rw [if_pos h,if_pos]
   ·rfl
   ·subst h;rw [E] at F;cases F;exact J
  ·rw [if_neg h,if_neg (fun z=>h (oH hL E F (z.trans J.symm)).symm),g2 k l F];rfl
 |pas n =>
  obtain ⟨i,M⟩:=QJ (e:=.pas n) rfl hc;have M:kJ B.zs n=some i:=M;have Z:vR R L B.zs (.pas n)=some (.pass i):=by show (kJ B.zs n).map Deed.pass=_;rw [M];rfl
  obtain ⟨S,I,Y⟩:=hD.1 _ Z rfl;have ah:i<B.ys.length:=S;have V:=ok.fl;obtain ⟨y,hy⟩:∃y,B.ys[i]?=some y:=⟨_,aa ah⟩;obtain ⟨p,hp⟩:∃p,B.pl[i]?=some p:=⟨_,aa (by rw [V.len];exact ah)⟩;have an:=fH I;have ey:B.ys.getD i (0,[])=y:=by rw [ac,hy];rfl
  have ep:B.pl.getD i 0=p:=by rw [ac,hp];rfl
  rw [ey,ep] at an;have a4:=V.le i y p hy hp;obtain ⟨s,hs⟩:∃s,y.2[p]?=some s:=⟨_,aa (by lia)⟩;have O:s.1<L.length:=(V.ok y (ag hy)).lt s (ag hs);obtain ⟨lc,E⟩:∃lc,L[s.1]?=some lc:=⟨_,aa O⟩;have am:=ok.dr.lock s.1 lc E;have a5:1<=lc.room:=by unfold LC.good at am;lia
  rw [DV M hy hp hs E];refine ⟨fun z=>if z=lc.name then s.2 else fl z,g1.snoc ⟨aO.mpr ⟨lc,ag E,rfl⟩,BO (vX R.length B.ms s.1) s.2,s.2,(V5 _ _).symm,by cases vX R.length B.ms s.1<;>cases s.2<;>decide,by show cF _ ⟨false,false,fl lc.name,false⟩=_;rw [g2 s.1 lc E];exact VT _ _,rfl⟩,fun k l F=>?_⟩;have al:=(ad.mp F).1;unfold vX;rw [Y k al];have es:((B.ys.getD i (0,[])).2.getD (B.pl.getD i 0) (0,true))=s:=by rw [ey,ep,ac,hs];rfl
  show (if l.name=lc.name then s.2 else fl l.name)=decide (0<(if ((B.ys.getD i (0,[])).2.getD (B.pl.getD i 0) (0,true)).1=k then (if ((B.ys.getD i (0,[])).2.getD (B.pl.getD i 0) (0,true)).2 then (L.getD k ⟨"",0,0,0,.plain,0⟩).room else 0) else B.ms.getD (R.length+k) 0));rw [es]
  by_cases h:s.1=k
  ·rw [if_pos h,if_pos]
   ·subst h;rw [ac,E];show s.2=decide (0<(if s.2=true then lc.room else 0));cases s.2
    ·rfl
    ·exact (aB (show 0<lc.room by lia)).symm
   ·subst h;rw [E] at F;cases F;rfl
  ·rw [if_neg h,if_neg (fun z=>h (oH hL E F z).symm),g2 k l F];rfl
structure BkG (R:List RC) (L:List LC) (M:List Int) (B:BkS):Prop where
 wok:WOk R L B.ms
 okq:∀q∈B.pd,ZD q
 led:kC M B.pd=B.ms
 sum:B.ms.sum=M.sum
 ber:pS R L B.ys B.pl
 gat:lE R L B.ms B.qd
theorem BkG.do {M:List Int} {B V:BkS} {e:Ent} {t:Addr} (g:BkG R L M B) (F:BkOk R L N B) (hn:eI N) (hL:(L.map (·.name)).Nodup) (O:cK e) (G:rB e) (J:qL R L N B e=0) (I:yQ R L N B e="") (d:DoE R L N B e t V):BkG R L M V:=by
 obtain ⟨qs,hP,E,S⟩:=d.po;obtain ⟨w1,Z,w3,w4⟩:=YO F hn g.wok G J I hP;refine ⟨by rw [E];exact w1,fun q Y=>?_,?_,by rw [E,w3];exact g.sum,by rw [d.ys,d.pl];exact jAm F g.ber O J I,by rw [E,d.qd];exact jAk F hL g.wok g.gat J I w4⟩
 ·rw [S] at Y
  rcases aI.mp Y with h|h
  ·exact g.okq q h
  ·exact Z q h
 ·rw [S,E,<- g.led];show List.foldl pour M _=_;rw [il];rfl
theorem R3 {gs:List Int} (E:Drawn R L N) (k:Nat) (F:k<L.length):(yK (v8 R L.length) (kR R L.length) gs).getD (R.length+k) 0=0:=by
 have h:=JE E;unfold yK;rw [QV _ _ _ (fB (by rw [zG,QW];lia) (by rw [QW];exact fD h)),<- bS,nP h (by lia) (by lia),fb];unfold v8;rw [ac,ar (by rw [ae];lia),dm]
 split<;>rfl
theorem YG {B:BkS} (E:Drawn R L N) (h:K2 R L B):BkG R L B.ms B:=by
 obtain ⟨h1,M,h3,S,Z,h6,F,O,h9,gs,J,G⟩:=h;refine ⟨by rw [G];exact T1 E J,(fun q I=>by rw [F] at I;cases I),by rw [F];rfl,rfl,fun i r V=>?_,⟨fun _=>false,by rw [O];rfl,fun k l Y=>?_⟩⟩
 ·rw [M,S];have:=E.good i r V;unfold RC.good at this;show ((0:Nat):Int)<=_
  lia
 ·unfold vX;rw [G];rw [(R3 (gs:=gs) E k (ad.mp Y).1)];rfl
end
theorem WX {ms:List Int} (h:1<=ms.length):QP (ms.map V.int) none (some (-1))=(ms.take (ms.length - 1)).map V.int:=by
 unfold QP;rw [ae,HT.sIx_none,drop_zero,Nat.sub_zero,map_take]
 congr 1
 show (if (-1:Int)<0 then (-1+(ms.length:Int)).toNat else min (-1:Int).toNat ms.length)=ms.length - 1;rw [if_pos (by decide)]
 lia
def FJ:Sp:=fun vs H Q _=>∃h E ms zs qs,vs=[.ref h,.ref E]/\H h=some (.lst (ms.map V.int))/\H E=some (.lst zs)/\E≠h/\PoursH H zs qs ms.length/\(∀q∈qs,ZD q)/\2<=ms.length/\ms.length<=500/\QR (kC ms qs)/\∀H',Keep h H H'->H' h=some (.lst ((kC ms qs).map V.int))->Q (.bl true) H'
def ED (cs:Kd->Addr) (cR cN:Addr):Sp:=fun vs H Q _=>∃x t y,∃(p:Nat),∃D R L N,vs=[.ref x,.ref t,.int (p:Int)]/\CnAt cs cR cN D H x R L N/\WyAt H (.ref t) y/\WyOk L y/\p<=y.2.length/\Q (.int (qP L y p)) H
def HD (cs:Kd->Addr) (cR cN:Addr):Sp:=fun vs H Q _=>∃x h E F ys,∃(d:Int),∃ms pl D R L N,vs=[.ref x,.ref h,.ref E]/\Stage cs cR cN D H x h E F R L N ys d ms pl/\(∀(i:Nat) r,R[i]?=some r->ms.getD i 0<=r.crest)/\pS R L ys pl/\∀H',Same H H'->Q (.bl true) H'
def yR (g:Gt):List (kY×V):=[(.inr "high",.bl g.hi),(.inr "low",.bl g.lo),(.inr "full",.bl g.fu),(.inr "boat",.bl g.bo)]
def KQ:Wd->Str
 |.fil=>"fill"
 |.lte=>"let"
 |.act _ s=>if s then "high" else "low"
theorem XB (d:Wd):Txt.slice (yV d) (some (Txt.find (yV d) " "+1)) none=KQ d:=by
 cases d with
 |fil=>trivial
 |lte=>trivial
 |act a s=>cases a<;>cases s<;>trivial
theorem YQ (d:Wd):(yV d).length<=sizeLine:=by
 cases d with
 |fil=>trivial
 |lte=>trivial
 |act a s=>cases a<;>cases s<;>trivial
def ZS (s:Bool):Str:=if s then "high" else "low"
section
variable {H:Hp} {a:Addr} {g:Gt}
theorem pL (h:H a=some (.dK (yR g))):DGet H a (.str "high") (some (.bl g.hi)):=DGet.kq (k:=.inr "high") h
theorem pK (h:H a=some (.dK (yR g))):DGet H a (.str "low") (some (.bl g.lo)):=DGet.kq (k:=.inr "low") h
theorem pM (h:H a=some (.dK (yR g))):DGet H a (.str "full") (some (.bl g.fu)):=DGet.kq (k:=.inr "full") h
theorem BR (h:H a=some (.dK (yR g))):DGet H a (.str "boat") (some (.bl g.bo)):=DGet.kq (k:=.inr "boat") h
theorem lB (s:Bool) (h:H a=some (.dK (yR g))):DGet H a (.str (ZS s)) (some (.bl (g.at s))):=by
 cases s
 ·exact pK h
 ·exact pL h
theorem KB (v:Bool) (h:H a=some (.dK (yR g))):DPut H a (.str "full") (.bl v) (upd H a (.dK (yR {g with fu:=v}))):=DPut.kq (k:=.inr "full") h (by show 4<sizeLine;decide)
theorem KC (v:Bool) (h:H a=some (.dK (yR g))):DPut H a (.str "boat") (.bl v) (upd H a (.dK (yR {g with bo:=v}))):=DPut.kq (k:=.inr "boat") h (by show 4<sizeLine;decide)
theorem KD (s v:Bool) (h:H a=some (.dK (yR g))):DPut H a (.str (ZS s)) (.bl v) (upd H a (.dK (yR (g.set s v)))):=by
 cases s
 ·exact DPut.kq (k:=.inr "low") h (by show 4<sizeLine;decide)
 ·exact DPut.kq (k:=.inr "high") h (by show 4<sizeLine;decide)
end
theorem HH (s:Bool):decide (V.str (ZS s)=V.str "high")=s:=by
 cases s
 ·exact ax (fun e=>absurd (V.str.inj e) (by trivial))
 ·exact aB rfl
theorem VS (s:Bool):vM [V.str "high",V.str "low"] (if s=true then 1 else 0)=some (.str (ZS (!s))):=by cases s<;>rfl
theorem YL (a:Act) (s:Bool):¬yV (.act a s)="fill"/\¬yV (.act a s)="let"/\(¬ZS s="high"->ZS s="low"):=by
 cases a<;>cases s<;>exact ⟨by trivial,by trivial,by trivial⟩
theorem W4 (s:Bool):Txt.slice (yV (.act .opn s)) none (some 5)="open ":=by cases s<;>trivial
theorem GS (s:Bool):Txt.slice (yV (.act .sht s)) none (some 5)="shut ":=by cases s<;>trivial
theorem jAn (s:Bool):¬Txt.slice (yV (.act .inn s)) none (some 5)="open "/\¬Txt.slice (yV (.act .inn s)) none (some 5)="shut "/\Txt.slice (yV (.act .inn s)) none (some 3)="in ":=by cases s<;>exact ⟨by trivial,by trivial,by trivial⟩
theorem YK (s:Bool):¬Txt.slice (yV (.act .out s)) none (some 5)="open "/\¬Txt.slice (yV (.act .out s)) none (some 5)="shut "/\¬Txt.slice (yV (.act .out s)) none (some 3)="in "/\Txt.slice (yV (.act .out s)) none (some 4)="out ":=by cases s<;>exact ⟨by trivial,by trivial,by trivial,by trivial⟩
def IP:Sp:=fun vs H Q _=>∃(h:Addr) (d:Wd) (g E:Gt),vs=[.ref h,.str (yV d)]/\H h=some (.dK (yR g))/\gW d g=some E/\∀H',Keep h H H'->H' h=some (.dK (yR E))->Q (.bl true) H'
structure LksAt (L:List LC) (H:Hp) (D:Addr) (as:List Addr) (fl:Str->Bool):Prop where
 dd:∃kj,H D=some (.dK kj)/\kj.length<=as.length/\∀(k:Nat) (l:LC) (a:Addr),L[k]?=some l->as[k]?=some a->vL kj (.inr l.name)=some (.ref a)
 inn:∀(k:Nat) (l:LC) (a:Addr),L[k]?=some l->as[k]?=some a->H a=some (.dK (yR ⟨false,false,fl l.name,false⟩))
 nd:as.Nodup
 nD:D∉as
theorem LksAt.get {L:List LC} {H:Hp} {D:Addr} {as:List Addr} {F:Str->Bool} (h:LksAt L H D as F) {k:Nat} {l:LC} {a:Addr} (G:L[k]?=some l) (E:as[k]?=some a):DGet H D (.str l.name) (some (.ref a)):=by
 obtain ⟨I,e,_,f⟩:=h.dd;have:=DGet.kq (k:=.inr l.name) e
 rwa [f k l a G E] at this
theorem LksAt.same {L:List LC} {H H':Hp} {D:Addr} {as:List Addr} {E:Str->Bool} (h:LksAt L H D as E) (s:Same H H'):LksAt L H' D as E:=by
 obtain ⟨G,e,J,M⟩:=h.dd;exact ⟨⟨G,s _ _ e,J,M⟩,fun k l a I F=>s _ _ (h.inn k l a I F),h.nd,h.nD⟩
theorem jBm {as:List Addr} (h:as.Nodup) {i k:Nat} {a:Addr} (F:as[i]?=some a) (E:as[k]?=some a):k=i:=by
 exact (List.getElem?_inj (ad.mp E).1 h).mp (E.trans F.symm)
theorem LksAt.put {L:List LC} {H H':Hp} {D:Addr} {as:List Addr} {J:Str->Bool} (h:LksAt L H D as J) (hn:(L.map (·.name)).Nodup) {k:Nat} {l:LC} {a:Addr} {b:Bool} (O:L[k]?=some l) (G:as[k]?=some a) (M:Keep a H H') (V:H' a=some (.dK (yR ⟨false,false,b,false⟩))):LksAt L H' D as (fun z=>if z=l.name then b else J z):=by
 obtain ⟨Y,e,Z,f2⟩:=h.dd;refine ⟨⟨Y,M _ _ (fun z=>h.nD (by rw [z];exact ag G)) e,Z,f2⟩,fun j l' S E F=>?_,h.nd,h.nD⟩
 by_cases I:j=k
 ·subst I;rw [O] at E;rw [G] at F;cases E;cases F;rw [if_pos rfl];exact V
 ·rw [if_neg fun z=>I (oH hn O E z)];exact M _ _ (fun z=>I (jBm h.nd G (by rw [<- z];exact F))) (h.inn j l' S E F)
theorem VW {d:Wd} {ds:List Wd} {g e:Gt} (h:cF (d::ds) g=some e):∃g',gW d g=some g'/\cF ds g'=some e:=by
 have h:(gW d g).bind (cF ds)=some e:=h;cases E:gW d g with
 |none=>rw [E] at h;cases h
 |some g'=>rw [E] at h;exact ⟨g',rfl,h⟩
theorem GJ {α:Type} {l:List α} {i:Nat} {x:α} (h:l[i]?=some x):l.drop i=x::l.drop (i+1):=by
 obtain ⟨E,rfl⟩:=ad.mp h;exact (List.getElem_cons_drop E).symm
def HB (cs:Kd->Addr) (cR cN:Addr):Sp:=fun vs H Q _=>∃x E F zs h,∃(d:Int),∃ms pl R L N,vs=[.ref x,.ref E,.ref F]/\CnAt cs cR cN [] H x R L N/\Drawn R L N/\(L.map (·.name)).Nodup/\StAt H E d ms pl/\LkOk R L ms/\H F=some (.lst zs)/\AllAt (WdAt H) zs h/\h.length<=100/\lE R L ms h/\∀H',Same H H'->Q (.bl true) H'
def WdT (E:Hp) (F:List Addr) (H:Hp) (v:V) (p:Str×List Str):Prop:=∃t h:Addr,v=.ref t/\E t=none/\E h=none/\h∉F/\H t=some (.tup [.str p.1,.ref h])/\H h=some (.lst (p.2.map V.str))
theorem WdT.same {h H H':Hp} {E:List Addr} (s:Same H H') (v:V) (p:Str×List Str):WdT h E H v p->WdT h E H' v p:=fun ⟨t,l,e,F,M,G,I,J⟩=>⟨t,l,e,F,M,G,s _ _ I,s _ _ J⟩
def TldAt (M H:Hp) (l:Addr) (zs:List Str) (us ps:List V) (S:List (Str×List Str)) (O:List V) (st:Addr):Prop:=∃G h F J E I vs,H l=some (.lst [.ref G,.ref h,.ref F,.ref J,.ref E,.ref I])/\H G=some (.lst (zs.map V.str))/\H h=some (.lst us)/\H F=some (.lst ps)/\H J=some (.lst vs)/\H E=some (.lst O)/\H I=some (.lst [.ref st])/\AllAt (WdT M [l,G,h,F,J,E,I] H) vs S/\[l,G,h,F,J,E,I].Nodup/\∀c∈[l,G,h,F,J,E,I],M c=none
theorem TldAt.same {G H H':Hp} {l:Addr} {zs:List Str} {us ps F:List V} {I:List (Str×List Str)} {st:Addr} (s:Same H H') (h:TldAt G H l zs us ps I F st):TldAt G H' l zs us ps I F st:=by
 obtain ⟨a0,J,O,a3,a4,a5,vs,Y,h2,h3,h4,Z,h6,M,S,h9,E⟩:=h;exact ⟨a0,J,O,a3,a4,a5,vs,s _ _ Y,s _ _ h2,s _ _ h3,s _ _ h4,s _ _ Z,s _ _ h6,s _ _ M,S.mono (WdT.same s),h9,E⟩
def AX (cs:Kd->Addr) (cR cN cO:Addr):Sp:=vI cs cR cN cO fun B H Q=>∀l H',Same H H'->TldAt H H' l B.zs B.us B.ps B.qd B.es B.st->Q (.ref l) H'
def BA:Sp:=fun vs H Q _=>∃J l zs I ps h F E,vs=[.ref l]/\TldAt J H l zs I ps h F E/\h.length<=100/\∀G H',Same H H'->TldAt H H' G zs I ps h F E->Q (.ref G) H'
def lF (zs:List V):Prop:=∀z∈zs,∃c,z=.ref c
theorem QZ {K:W.Frag} {H:Hp} (n:Nat) {x:V} (h:vY x=true\/∃c,x=.ref c):AEq K H n x x:=by
 cases n with
 |zero=>exact ⟨rfl,h⟩
 |succ n=>exact .inl ⟨rfl,h⟩
theorem Q1 {K:W.Frag} {H:Hp} (n:Nat) {a b:Addr} {xs:List V} (G:H a=some (.lst xs)) (F:H b=some (.lst xs)) (h:∀x∈xs,vY x=true\/∃c,x=.ref c):AEq K H (n+1) (.ref a) (.ref b):=by
 by_cases e:a=b
 ·rw [e];exact QZ _ (.inr ⟨b,rfl⟩)
 ·refine .inr ⟨a,b,xs,xs,rfl,rfl,e,.inl ⟨so G,so F⟩,rfl,fun j E=>QZ _ (h _ ?_)⟩;rw [ac,aa E];exact cw E
theorem VM {K:W.Frag} {H H0 H1:Hp} {f0 f1:List Addr} {a b:Addr} {vs ws:List V} {S:List (Str×List Str)} (Z:H a=some (.lst vs)) (hb:H b=some (.lst ws)) (h:AllAt (WdT H0 f0 H) vs S) (h':AllAt (WdT H1 f1 H) ws S):AEq K H 3 (.ref a) (.ref b):=by
 by_cases e:a=b
 ·rw [e];exact QZ _ (.inr ⟨b,rfl⟩)
 refine .inr ⟨a,b,vs,ws,rfl,rfl,e,.inl ⟨so Z,so hb⟩,h.1.trans h'.1.symm,fun j F=>?_⟩;obtain ⟨p,hp,t,lw,e1,_,_,_,g1,g2⟩:=h.2 j _ (aa F);obtain ⟨p',E,G,ah,I,_,_,_,J,M⟩:=h'.2 j _ (aa (by rw [h'.1,<- h.1];exact F));rw [hp] at E;cases E;rw [ac,ac,aa F,aa (by rw [h'.1,<- h.1];exact F)];show AEq K H 2 (vs[j]) (ws[j]'(by rw [h'.1,<- h.1];exact F));rw [e1,I]
 by_cases O:t=G
 ·rw [O];exact QZ _ (.inr ⟨G,rfl⟩)
 refine .inr ⟨t,G,_,_,rfl,rfl,O,.inr ⟨SqT.of g1,SqT.of J⟩,rfl,fun k hk=>?_⟩
 match k,hk with
 |0,_=>exact QZ _ (.inl rfl)
 |1,_=>exact Q1 0 g2 M fun x Y=>by obtain ⟨z,_,rfl⟩:=aO.mp Y;exact .inl rfl
theorem IH {K:W.Frag} {H H0 H1:Hp} {l G:Addr} {zs:List Str} {us ps F:List V} {I:List (Str×List Str)} {st:Addr} (h:TldAt H0 H l zs us ps I F st) (h':TldAt H1 H G zs us ps I F st) (r1:lF us) (r2:lF ps) (r3:lF F):∃xs ys,SqL K H l xs/\SqL K H G ys/\xs.length=ys.length/\∀j,j<xs.length->AEq K H 3 (xs.getD j .non) (ys.getD j .non):=by
 obtain ⟨a0,a1,a2,a3,a4,a5,vs,S,h2,h3,h4,h5,h6,J,O,_⟩:=h;obtain ⟨b0,b1,b2,b3,b4,b5,ws,i1,i2,i3,Y,i5,i6,Z,M,_⟩:=h';refine ⟨_,_,so S,so i1,rfl,fun j hj=>?_⟩
 match j,hj with
 |0,_=>exact Q1 2 h2 i2 fun x E=>by obtain ⟨z,_,rfl⟩:=aO.mp E;exact .inl rfl
 |1,_=>exact Q1 2 h3 i3 fun x E=>.inr (r1 x E)
 |2,_=>exact Q1 2 h4 Y fun x E=>.inr (r2 x E)
 |3,_=>exact VM h5 i5 O M
 |4,_=>exact Q1 2 h6 i6 fun x E=>.inr (r3 x E)
 |5,_=>exact Q1 2 J Z fun x E=>.inr ⟨st,av.mp E⟩
theorem WdNew.told {E H:Hp} {D:Addr} {G:List Addr} (Y:∀c∈G,c=D\/E c≠none\/H c=none) (v:V) (p:Str×List Str) (h:WdNew E D H v p):WdT E G H v p:=by
 obtain ⟨t,l,e,J,I,M,O,F⟩:=h;refine ⟨t,l,e,J,I,fun S=>?_,O,F⟩
 rcases Y l S with h|h|h
 ·exact M h
 ·exact h I
 ·rw [h] at F;cases F
theorem WdT.free {E h H:Hp} {F:List Addr} (s:Same h E) (v:V) (p:Str×List Str):WdT E F H v p->WdT h F H v p:=fun ⟨t,l,e,G,O,I,J,M⟩=>⟨t,l,e,s.free G,s.free O,I,J,M⟩
theorem T9 {n:Nat} (h:n<=3000):n<sizeLine:=cy h (by show 3000<2 ^ 24;decide)
def rS (H h:Hp) (c:Addr):Prop:=H c=none/\h c≠none
structure ApAt (H H1 H2 Hi:Hp) (fr:List Addr) (vs:List V) (n:Nat):Prop where
 old:∀c o,¬rS H H1 c->H2 c=some o->Hi c=some o
 kept:∀c∈fr,Hi c=H2 c
 wd:∀v∈vs,∃(t lw:Addr) (nm:V) (ws:List V),v=.ref t/\Hi t=some (.tup [nm,.ref lw])/\Hi lw=some (.lst ws)/\ws.length<=50+n/\rS H H1 lw/\lw∉fr
theorem TldAt.keep {F M O:Hp} {l:Addr} {zs:List Str} {us ps G:List V} {J:List (Str×List Str)} {st:Addr} (k:∀c o,F c=none->M c=some o->O c=some o) (h:TldAt F M l zs us ps J G st):TldAt F O l zs us ps J G st:=by
 obtain ⟨a0,Y,a2,a3,a4,a5,vs,h1,h2,h3,h4,h5,h6,Z,h8,h9,E⟩:=h;exact ⟨a0,Y,a2,a3,a4,a5,vs,k _ _ (E _ (by simp)) h1,k _ _ (E _ (by simp)) h2,k _ _ (E _ (by simp)) h3,k _ _ (E _ (by simp)) h4,k _ _ (E _ (by simp)) h5,k _ _ (E _ (by simp)) h6,k _ _ (E _ (by simp)) Z,h8.mono fun v p ⟨t,lw,e,I,S,n3,g1,g2⟩=>⟨t,lw,e,I,S,n3,k _ _ I g1,k _ _ S g2⟩,h9,E⟩
def HF (cs:Kd->Addr) (cR cN cO:Addr):Sp:=vI cs cR cN cO fun B H Q=>(∀p∈B.qd,p.2.length<=50)/\B.qd.length<=100/\B.us.length<=100/\lF B.us/\∀H',Same H H'->Q (.bl true) H'
theorem X5 {K:W.Frag}:∀vs H Q E,dQ K vs H Q E->dQ K vs H Q (fun _ _ _=>False):=fun vs H Q E h=>h
theorem BkAt.out {cs:Kd->Addr} {cR cN cO:Addr} {A:List Addr} {H:Hp} {b x a:Addr} {R:List RC} {L:List LC} {N:List (List (Int×Int))} {B:BkS} (h:BkAt cs cR cN cO A H b x R L N B) (E:H a=none):a∉A:=fun z=>by
 obtain ⟨db,nl,wl,pl,ql,Z,fs,I,J,V,Y,M,F,O,G,h8,S⟩:=h.ob;rw [I] at z;simp only [aj,au,bb] at z
 rcases z with rfl|rfl|rfl|rfl|rfl
 ·rw [J] at E;cases E
 ·rw [M] at E;cases E
 ·rw [F] at E;cases E
 ·rw [O] at E;cases E
 ·rw [G] at E;cases E
theorem jBu (E:List Int):QP (E.map V.int) none (some 40)=(E.take 40).map V.int:=by
 unfold QP;rw [HT.sIx_none,show (some (40:Int))=some ((40:Nat):Int) from rfl,HT.sIx_nat,ae,drop_zero,Nat.sub_zero,map_take]
 by_cases h:40<=E.length
 ·rw [Nat.min_eq_left h]
 ·rw [Nat.min_eq_right (by lia),bn (by rw [ae];exact ao _),bn (by rw [ae];lia)]
theorem GRun.short {E:List Str}:∀{I:List (Str×List Str)} {f G:Str->Bool},GRun E I f G->∀p∈I,p.2.length<=50
 |[],_,_,_,p,F=>by cases F
 |q::r,f,G,⟨_,ds,b,e,M,_,J⟩,p,F=>by
  rcases aj.mp F with rfl|h
  ·rw [e,ae];lia
  ·exact J.short p h
theorem VP {α:Type} (a b:List α):(a++b).take a.length=a:=by rw [take_append_of_le_length (ao _),aW]
theorem IE {K:W.Frag} {H:Hp} (n:Nat) {a b:Addr} {xs:List V} (G:H a=some (.tup xs)) (F:H b=some (.tup xs)) (h:∀x∈xs,vY x=true\/∃c,x=.ref c):AEq K H (n+1) (.ref a) (.ref b):=by
 by_cases e:a=b
 ·rw [e];exact QZ _ (.inr ⟨b,rfl⟩)
 ·refine .inr ⟨a,b,xs,xs,rfl,rfl,e,.inr ⟨SqT.of G,SqT.of F⟩,rfl,fun j E=>QZ _ (h _ ?_)⟩;rw [ac,aa E];exact cw E
theorem WO {K:W.Frag} {H H0:Hp} {l l' e0 e1 Z e3 e4 F I t3 tz E:Addr} {M:List Int} (h:TldAt H0 H l [] [] [] [] [] E) (Y:StAt H E 0 M []) (h':H l'=some (.lst [.ref e0,.ref e1,.ref Z,.ref e3,.ref e4,.ref F])) (i0:H e0=some (.lst [])) (i1:H e1=some (.lst [])) (i2:H Z=some (.lst [])) (i3:H e3=some (.lst [])) (i4:H e4=some (.lst [])) (i5:H F=some (.lst [.ref I])) (O:H I=some (.tup [.int 0,.ref t3,.ref tz])) (h3:H t3=some (.tup (M.map V.int))) (hz:H tz=some (.tup [])):∃xs ys,SqL K H l xs/\SqL K H l' ys/\xs.length=ys.length/\∀j,j<xs.length->AEq K H 3 (xs.getD j .non) (ys.getD j .non):=by
 obtain ⟨a0,a1,a2,a3,a4,S,vs,g1,g2,g3,g4,g5,g6,g7,g8,_⟩:=h;obtain ⟨wt,pt,f1,f2,f3⟩:=Y;obtain rfl:vs=[]:=length_eq_zero_iff.mp g8.1;have G:∀x∈([]:List V),vY x=true\/∃c,x=.ref c:=fun x J=>by cases J
 refine ⟨_,_,so g1,so h',rfl,fun j hj=>?_⟩
 match j,hj with
 |0,_=>exact Q1 2 g2 i0 G
 |1,_=>exact Q1 2 g3 i1 G
 |2,_=>exact Q1 2 g4 i2 G
 |3,_=>exact Q1 2 g5 i3 G
 |4,_=>exact Q1 2 g6 i4 G
 |5,_ =>
  show AEq K H 3 (.ref S) (.ref F)
  by_cases e:S=F
  ·rw [e];exact QZ _ (.inr ⟨F,rfl⟩)
  refine .inr ⟨S,F,_,_,rfl,rfl,e,.inl ⟨so g7,so i5⟩,rfl,fun k hk=>?_⟩
  match k,hk with
  |0,_ =>
   show AEq K H 2 (.ref E) (.ref I)
   by_cases e:E=I
   ·rw [e];exact QZ _ (.inr ⟨I,rfl⟩)
   refine .inr ⟨E,I,_,_,rfl,rfl,e,.inr ⟨SqT.of f1,SqT.of O⟩,rfl,fun m hm=>?_⟩
   match m,hm with
   |0,_=>exact QZ _ (.inl rfl)
   |1,_=>exact IE 0 f2 h3 fun x J=>by obtain ⟨z,_,rfl⟩:=aO.mp J;exact .inl rfl
   |2,_=>exact IE 0 f3 hz G
theorem YF (a b:List V):QP (a++b) none (some ((a.length:Nat):Int))=a:=by
 unfold QP;rw [HT.sIx_none,HT.sIx_nat,drop_zero,Nat.sub_zero,af,Nat.min_eq_left (Nat.le_add_right _ _)];exact VP a b
theorem E8 {H:Hp} {us:List V} {ys:List vE} (h:AllAt (WyAt H) us ys):lF us:=fun z E=>by
 obtain ⟨i,F⟩:=cc.mp E;obtain ⟨y,_,t,_,_,e,_⟩:=h.2 i z F;exact ⟨t,e⟩
theorem CU:jV 3 ["script","k","many","cell"] tD:=jU
include T in
theorem MY (F:kG K "_law_draw" tD f fd) : FnOk P w K mg base (kO P w) 1 f fd ["script","k","many"] (oS K):=by
 refine F.okX2 CU fun vs H Q E h=>?_
 refine cI h fun s G k m h=>?_
 refine QQ h fun e_ Z a0 ah Y hm q=>?_
 subst e_;refine ⟨rfl,fun _ _ _ _ hr=>?_⟩;refine tk fun x0=>?_
 let u0:=ru x0 [0,0,0] (jN (jL zY (jL kS (jL qU (jL qU (jA 1) (jA 1)) jD) (jL qU jD (jA 1))) (jA 2)))
 let u1:=ru x0 [2] (jN (jL zY (jL zY (jL kS (jL qU (jA 3) (jL kS (jL qU (jA 1) (jA 1)) jD)) (jL qU (jA 1) jD)) jD) (jA 2)))
 let u2:=ru x0 [1] (jI (jW 3 CU.nd (jL zY (jH (kQ K) (jA 0) (jL zY (jA 1) (qR K T.xk (jA 0)))) jD))
   u1.h)
 refine ⟨_,(jI (kE (kA kM (qR K T.xk (jA 0)) jD) u0.h kI)
   u2.h),?_⟩
 try dsimp only [jY,jX]
 have I:(G.map V.int).length=G.length:=ae _;obtain ⟨an,am⟩:=jBn ah Y;have J:(0:Int)<m:=by lia
 refine (⟨s,jB rfl (⟨.inl Z,rfl,jB rfl (?_)⟩)⟩)
 by_cases O:G.length=0
 ·refine kX (by rw [I,O];rfl) ?_;refine (kD (⟨.inl ⟨by lia,by lia⟩,⟨_,_,(kB rfl rfl (.inr ⟨by decide,by decide⟩) (kD (⟨.inl ⟨by decide,by decide⟩,_,_,rfl,rfl,(kD (⟨J,?_⟩))⟩)))⟩⟩));unfold JN at q;rw [if_pos O] at q;exact q
 refine j9 (fun z=>O (by have:=V.int.inj z;rw [I] at this;lia)) ?_;have M:(0:Int)<(((G.map V.int).length:Nat):Int):=by rw [I];lia
 obtain ⟨j,ej,S⟩:=xG (a:=k) M;have S:j<G.length:=by rw [I] at S;lia
 refine (⟨s,jB rfl (⟨.inl Z,⟨_,_,(kB rfl rfl M ?_)⟩⟩)⟩)
 try dsimp only
 rw [ej];have eF:JN G k m=(G.getD j 0%1000003*(k*k+48271)+k*7919)%2147483647%m:=by unfold JN;rw [if_neg O,ej,ay]
 refine j0 s _ _ _ (jO rfl rfl Z (yT S) ⟨_,_,(kB rfl rfl (by show (0:Int)<1000003;decide) ?_)⟩);have c0:=ci (G.getD j 0) (by decide:(1000003:Int)≠0);have c1:=bu (G.getD j 0) (by decide:(0:Int)<1000003)
 try dsimp only
 generalize G.getD j 0%1000003=al at c0 c1 eF ⊢;refine (kD (⟨.inl ⟨by lia,by lia⟩,⟨_,_,⟨rfl,rfl,⟨_,_,(kB rfl rfl (.inl ⟨by lia,by lia⟩) (kD (⟨.inr ⟨by decide,by decide⟩,⟨_,_,⟨rfl,rfl,⟨_,_,(kB rfl rfl (by show (0:Int)<2147483647;decide) (kD (⟨J,?_⟩)))⟩⟩⟩⟩)))⟩⟩⟩⟩));rw [eF] at q;exact q
theorem PY:jV 1 ["script"] tO:=jU
include T in
theorem M9 (F:kG K "_law_unit" tO f fd) : FnOk P w K mg base jT 1 f fd ["script"] (AW K):=by
 refine F.ok2 PY fun vs H Q E h=>?_
 obtain ⟨s,G,rfl,M,Z,q⟩:=h;refine ⟨rfl,fun _ _ _ _ hr=>?_⟩;refine ⟨_,(jI (kE (kA kM (qR K T.xk (jA 0)) jD) (jN jD) kI)
   (jN (jL kS jD (jL zY (jH (kQ K) (jA 0) jD) (jL IX jD jD))))),?_⟩
 try dsimp only [jY,jX]
 have I:(G.map V.int).length=G.length:=ae _;refine (⟨s,jB rfl (⟨.inl M,rfl,jB rfl (?_)⟩)⟩)
 by_cases O:G.length=0
 ·exact kX (by rw [I,O];rfl) (q 1 (by decide) (by decide))
 refine j9 (fun z=>O (by have:=V.int.inj z;rw [I] at this;lia)) ?_;have J:(10:Int) ^ Int.toNat 10=10000000000:=by trivial
 have S:=ci (G.getD 0 0) (show (10:Int) ^ Int.toNat 10≠0 from by trivial);have Y:=bu (G.getD 0 0) (show (0:Int)<10 ^ Int.toNat 10 from by trivial);refine (j0 s _ _ _ (jO rfl rfl M (yT (s:=0) (by lia)) ⟨_,_,(kB rfl rfl ⟨by decide,by decide,by decide⟩ ⟨_,_,(kB rfl rfl (show (0:Int)<10 ^ Int.toNat 10 from by trivial) ⟨_,_,⟨rfl,rfl,?_⟩⟩)⟩)⟩));rw [J] at S Y
 try dsimp only
 rw [J];exact q _ (by lia) (by lia)
theorem bN:jV 3 ["script","k","many","signs","size","at","letter","some","j","sign"] tI:=jU
include T in
theorem M3 (F:kG K "_law_names" tI f fd) (xw:DefX P w K mg base 1 "_law_draw" ["script","k","many"] [] (oS K)):FnOk P w K mg base (kO P w) 2 f fd ["script","k","many"] (fE K):=by
  refine F.okX2 bN fun vs H Q E h=>?_
  refine cI h fun s I k m h=>?_
  refine QQ h fun e_ hS M a9 a8 hm q=>?_
  subst e_;refine ⟨rfl,fun _ _ _ _ hr=>?_⟩;refine tk fun Y=>?_
  let u0:=ru Y [5,0,0,1,1] (kU (yH (zR aQ aY aZ J7 (jA 7) (jC (jL DL (jL DL (jL AR (jA 6) (jA 5)) (jA 9)) (jL AR (jA 6) (jL zA (jL zA (jA 4) jD) (jA 5)))) jE))))
  let u1:=ru Y [5,0,0,1,0] (jI (jW 9 bN.nd (jH BH (jA 3) (jL zY (jL kS (vA xw qI hr rfl (kH (jA 0) (jL kS (jA 1) jD) jD)) (jA 8)) jD)))
      u0.h)
  let u2:=ru Y [5,0,0] (kU (kE (kA kM (vA xw qI hr rfl (kH (jA 0) (jL kS (jA 1) jD) jD)) jD) (kU (yH (zR aQ aY aZ J7 (jA 7) (jC (jL AR (jA 6) (jL kS (jA 8) jD)) jE)))) u1.h))
  let u3:=ru Y [5] (jI (yU iT rfl (J6 (by rfl) T.xn (jC (jA 2) jE)) (kT (i:=8) bN.nd rfl (.inl rfl))
        u2.h)
      (jN (jA 7)))
  let u4:=ru Y [4] (jI (jW 7 bN.nd (qA jE))
      u3.h)
  let u5:=ru Y [3] (jI (jW 6 bN.nd (jH BH (jA 3) (vA xw qI hr rfl (kH (jA 0) (jL kS (jA 1) jD) jD))))
      u4.h)
  let u6:=ru Y [2] (jI (jW 5 bN.nd (vA xw qI hr rfl (kH (jA 0) (jL kS (jA 1) jD) (jA 4))))
      u5.h)
  let u7:=ru Y [1] (jI (jW 4 bN.nd (jL kS jD (vA xw qI hr rfl (kH (jA 0) (jA 1) jD))))
      u6.h)
  refine ⟨_,(jI (jW 3 bN.nd jP)
      u7.h),?_⟩
  try dsimp only [jY,jX]
  obtain ⟨a5,a4⟩:=bP I k (show (1:Int)<=12 by decide);refine (jQ s I _ (jB rfl (j5 hS M (by lia) (by lia) (by lia) ⟨_,_,⟨rfl,rfl,?_⟩⟩)));generalize JN I k 12=S at a5 a4 ⊢;obtain ⟨a0,a1⟩:=bP I (k+1) (show (1:Int)<=1+S by lia);refine (kD (jQ s I _ (jB rfl (j5 hS M (by lia) (by lia) (by lia) ?_))));generalize JN I (k+1) (1+S)=a at a0 a1 ⊢;obtain ⟨c0,c1⟩:=bP I (k+2) (show (1:Int)<=26 by decide);refine (kD (jQ s I _ (jB rfl (j5 hS M (by lia) (by lia) (by lia) ?_))));generalize JN I (k+2) 26=c at c0 c1 ⊢;refine jQ _ _ (97+c.toNat) (jO rfl rfl (by trivial) (ID c0 c1) ?_);obtain ⟨G,rfl⟩:∃G:Nat,c=(G:Int):=⟨c.toNat,by lia⟩;rw [ay];have an:G<26:=by lia
  refine ⟨aN _,fun l O=>?_⟩;have l1:(⟨#[97+G]⟩:Str).length=1:=rfl;obtain ⟨d0,d1⟩:=bP I (k+3) (show (1:Int)<=3 by decide);obtain ⟨e0,e1⟩:=bP I (k+4) (show (1:Int)<=26 by decide);obtain ⟨eN,a6⟩:∃eN:Nat,JN I (k+4) 26=(eN:Int):=⟨(JN I (k+4) 26).toNat,by lia⟩;generalize am:decide (JN I (k+3) 3=0)=br;refine (jB rfl (⟨by lia,by lia,Z1 (n:=((m:Nat):Int).toNat) (fun i σ Hi=>∃(zs:List Str) (c8 c9:Option V),σ=[some (.ref s),some (.int k),some (.int (m:Int)),some (.str "abcdefghijklmnopqrstuvwxyz"),some (.int (1+S)),some (.int a),some (.str ⟨#[97+G]⟩),some (.ref l),c8,c9]/\Hi l=some (.lst (zs.map V.str))/\zs=(List.range i).map (ZE br G a.toNat (1+S - 1 - a).toNat eN)/\Same H Hi) (jQ ([]) none none (kB rfl jF rfl (jK O _))) ?_ ?_⟩))
  . rintro i σ Hi hi ⟨zs,c8,c9,rfl,hl,J,Z⟩
    rw [ay] at hi;rw [ck];have a7:zs.length=i:=by rw [J,ae,bg]
    have ah:∀z:Str,z=ZE br G a.toNat (1+S - 1 - a).toNat eN i->zs++[z]=(List.range (i+1)).map (ZE br G a.toNat (1+S - 1 - a).toNat eN):=fun z h=>by rw [ei,aJ,<- J,h];rfl
    refine (kD (jQ s I _ (jB rfl (vD (Z.seq hS) M (by lia) (by lia) (by lia) rfl (jB rfl (?_))))))
    by_cases hd:JN I (k+3) 3=0
    . have hb:br=true:=by rw [<- am,aB hd]
      refine kX (by rw [hd]) (⟨.inl ⟨rfl,_,so hl⟩,(kD (⟨(⟨#[97+G]⟩:Str),_,(j5 rfl rfl (by lia) (by lia) (by rw [l1];decide) ?_)⟩))⟩);refine jQ l _ _ (jO rfl rfl hl (vN (by rw [ae];lia)) ⟨zs++[qV ⟨#[97+G]⟩ ((i:Int)+1).toNat],_,jB rfl (⟨?_,ah _ ?_,qY O Z⟩)⟩)
      . rw [jF,aJ];rfl
      . unfold ZE;rw [if_pos hb,show ((i:Int)+1).toNat=i+1 by lia]
    have hb:¬br=true:=by rw [<- am,ax hd];decide
    refine j9 (fun z=>hd (V.int.inj z)) (kD (jQ s I _ (jB rfl (j5 (Z.seq hS) M (by lia) (by lia) (by lia) ?_))));rw [a6];refine (kD (kD (⟨(show (0:Int)<26 from by decide),?_⟩)));have al:=ID (ci ((eN:Int)+(i:Int)) (by decide:(26:Int)≠0)) (bu ((eN:Int)+(i:Int)) (by decide:(0:Int)<26));have a3:(((eN:Int)+(i:Int))%26).toNat=(eN+i)%26:=by lia
    rw [a3] at al;have l2:(⟨#[97+(eN+i)%26]⟩:Str).length=1:=rfl;have r1:(qV ⟨#[97+G]⟩ a.toNat).length=a.toNat:=by rw [oE,l1,Nat.mul_one]
    have r2:(qV ⟨#[97+G]⟩ (1+S - 1 - a).toNat).length=(1+S - 1 - a).toNat:=by rw [oE,l1,Nat.mul_one]
    have w1:(qV ⟨#[97+G]⟩ a.toNat++(⟨#[97+(eN+i)%26]⟩:Str)).length=a.toNat+1:=by rw [xB,r1,l2]
    refine jQ _ _ (97+(eN+i)%26) (jO rfl rfl (by trivial) al ?_);refine (⟨.inl ⟨rfl,_,so hl⟩,(⟨(⟨#[97+G]⟩:Str),_,(j5 rfl rfl (by lia) (by lia) (by rw [l1];decide) (⟨(qV ⟨#[97+G]⟩ a.toNat),_,(kB rfl rfl (gY (by rw [r1,l2];lia)) (kD (kD (⟨(⟨#[97+G]⟩:Str),_,(j5 rfl rfl (by lia) (by lia) (by rw [l1];decide) ⟨(qV ⟨#[97+G]⟩ a.toNat++(⟨#[97+(eN+i)%26]⟩:Str)),_,(kB rfl rfl (gY (by rw [w1,r2];lia)) ?_)⟩)⟩))))⟩))⟩)⟩);refine jQ l _ _ (jO rfl rfl hl (vN (by rw [ae];lia)) ⟨zs++[qV ⟨#[97+G]⟩ a.toNat++(⟨#[97+(eN+i)%26]⟩:Str)++qV ⟨#[97+G]⟩ (1+S - 1 - a).toNat],_,jB rfl (⟨?_,ah _ ?_,qY O Z⟩)⟩)
    . rw [jF,aJ];rfl
    . unfold ZE;rw [if_neg hb]
  rintro σ Hi ⟨zs,c8,c9,rfl,hl,J,Z⟩;rw [ay] at J;exact (q l zs Hi Z O hl (by rw [J,ae,bg]) (by rw [J];exact XZ an (by lia) hm))
theorem gP:jV 4 ["script","k","unit","named","least","crest","water","berths"] tK:=jU
include T in
theorem M5 (F:kG K "_law_reach" tK f fd) (S:Def P w K mg base 1 "_law_draw" ["script","k","many"] [] (dJ K)) (a8:MkD P w K mg base 1 "Reach" cR ["self","name","least","crest","berths","water","target"] (wY cR)):FnOk P w K mg base jT 3 f fd ["script","k","unit","named"] (FH K cR):=by
 refine F.ok2 gP fun vs H Q E h=>?_
 refine ZB h fun s J k u nm h=>?_
 refine QQ h fun e_ Y G hk M O q=>?_
 subst e_;refine ⟨rfl,fun _ _ _ _ I=>?_⟩;refine tk fun x0=>?_
 let u0:=ru x0 [4] (jN (f7 a8 I rfl (rK (jA 3) (jA 4) (jA 5) (jA 7) (jA 6) (jL zA (jR S I rfl (kH (jA 0) (jL kS (jL qU jD (jA 1)) jD) (jL kS (jA 1) jD))) jD))))
 let u1:=ru x0 [3] (jI (jW 7 gP.nd (jH (kQ K) (qA (zD jD jD jD jD)) (jR S I rfl (kH (jA 0) (jL kS (jL qU jD (jA 1)) jD) jD))))
   u0.h)
 let u2:=ru x0 [2] (jI (jW 6 gP.nd (jL kS (jL qU (jR S I rfl (kH (jA 0) (jL kS (jL qU jD (jA 1)) jD) jD)) (jA 2)) (jR S I rfl (kH (jA 0) (jL kS (jL qU jD (jA 1)) jD) jD))))
   u1.h)
 let u3:=ru x0 [1] (jI (jW 5 gP.nd (jL kS (jL kS (jA 4) (jL qU (jR S I rfl (kH (jA 0) (jL kS (jL qU jD (jA 1)) jD) jD)) (jA 2))) (jR S I rfl (kH (jA 0) (jL kS (jL qU jD (jA 1)) jD) jD))))
   u2.h)
 refine ⟨_,(jI (jW 4 gP.nd (jL qU (jR S I rfl (kH (jA 0) (jL kS (jL qU jD (jA 1)) jD) jD)) (jA 2)))
   u3.h),?_⟩
 try dsimp only [jY,jX]
 refine (kD (⟨.inl ⟨by decide,by decide⟩,⟨_,_,⟨rfl,rfl,(jQ s J _ (jB rfl (j5 Y G (by lia) (by lia) (by lia) (fun d1 a5 cd=>?_))))⟩⟩⟩));obtain ⟨a1,a2⟩:=dL a5 (show d1<=3 by lia) M O (by decide);refine (kD (⟨.inl ⟨by lia,by lia⟩,?_⟩))
 try dsimp only
 generalize d1*u=le at a1 a2 ⊢;refine (kD (⟨.inl ⟨by decide,by decide⟩,⟨_,_,⟨rfl,rfl,(jQ s J _ (jB rfl (j5 Y G (by lia) (by lia) (by lia) (fun d2 a7 bv=>?_))))⟩⟩⟩));obtain ⟨b1,b2⟩:=dL a7 (show d2<=15 by lia) M O (by decide);refine (kD (⟨.inl ⟨by lia,by lia⟩,_,_,rfl,rfl,?_⟩))
 try dsimp only
 generalize d2*u=cr at b1 b2 ⊢;refine (kD (⟨.inl ⟨by decide,by decide⟩,⟨_,_,⟨rfl,rfl,(jQ s J _ (jB rfl (j5 Y G (by lia) (by lia) (by lia) (fun d3 ce b3=>?_))))⟩⟩⟩));refine ⟨_,_,rfl,rfl,?_⟩;refine (kD (⟨.inl ⟨by decide,by decide⟩,⟨_,_,⟨rfl,rfl,(jQ s J _ (jB rfl (j5 Y G (by lia) (by lia) (by lia) (fun d4 a9 b9=>?_))))⟩⟩⟩));obtain ⟨c1,c2⟩:=dL a9 (show d4<=24 by lia) M O (by decide);refine (kD (⟨.inl ⟨by lia,by lia⟩,?_⟩))
 try dsimp only
 generalize d4*u=wa at c1 c2 ⊢;refine (kD (⟨.inl ⟨by decide,by decide⟩,⟨_,_,⟨rfl,rfl,(jQ s J _ (jB rfl (j5 Y G (by lia) (by lia) (by lia) (fun d5 b4 b8=>?_))))⟩⟩⟩));refine ⟨_,_,rfl,rfl,?_⟩;refine ⟨zz4,fun p2 an=>?_⟩;have s2:=jK an (.lst ([(1:Int),2,2,9].map V.int));have Z:=s2.seq Y;refine (kD (⟨.inl ⟨by decide,by decide⟩,⟨_,_,⟨rfl,rfl,(jQ s J _ (jB rfl (j5 Z G (by lia) (by lia) (by lia) (fun d6 bt a6=>?_))))⟩⟩⟩));obtain ⟨be,al,bl⟩:=KJ [(1:Int),2,2,9] bt a6;refine k7 (so jF) bl (?_);have ah:1<=be/\be<=9:=by
  simp only [aj,au,bb] at al
  rcases al with rfl|rfl|rfl|rfl<;>decide
 obtain ⟨am,a3⟩:=ah;have br:=Z;have s3:=s2;refine (?_);refine (kD (⟨.inl ⟨by decide,by decide⟩,_,_,rfl,rfl,(kD (jQ s J _ (jB rfl (j5 br G (by lia) (by lia) (by lia) (fun d7 b5 b0=>?_)))))⟩));refine ⟨_,_,rfl,rfl,?_⟩;intro x dx nx a0 cj;refine kL x dx _ _ _ _ _ (jB rfl (⟨jF,fun H' fs kp hx a4=>⟨rfl,?_⟩⟩));exact q x ⟨nm,le,le+cr+d3,be,wa+d5,d7 - 1⟩ H' (eJ a1 (by show le<=le+cr+d3;lia) (by show le+cr+d3<=999999999999;lia) am a3 (by show 0<=wa+d5;lia) (by show wa+d5<=999999999999;lia) (by show -1<=d7 - 1;lia) (by show d7 - 1<(k:Int);lia)) rfl (s3.trans (iF nx (iJ nx a0) kp)) (s3.free nx) ⟨dx,fs,hx,a4⟩
theorem eS:jV 5 ["script","k","reaches","unit","named","high","low","room","part","made"] tH:=jU
include T in
theorem M2 (F:kG K "_law_lock" tH f fd) (xa:Def P w K mg base 1 "_law_draw" ["script","k","many"] [] (dJ K)) (a8:MkD P w K mg base 2 "BasinLock" cB ["self","name","high","low","room","side"] (fO (jG cP cB cU) .basin)) (a3:MkD P w K mg base 2 "PumpLock" cU ["self","name","high","low","room","lift"] (fO (jG cP cB cU) .pump)) (a6:MkD P w K mg base 1 "PlainLock" cP ["self","name","high","low","room"] (fP (jG cP cB cU))):FnOk P w K mg base jT 4 f fd ["script","k","reaches","unit","named"] (GZ K (jG cP cB cU)):=by
 refine F.ok2 eS fun vs H Q E h=>?_
 obtain ⟨s,ns,k,n,u,nm,rfl,hS,I,hk,bv,ce,am,a5,q⟩:=h;refine ⟨rfl,fun _ _ _ _ hr=>?_⟩;refine tk fun x0=>?_
 let u0:=ru x0 [6] (jI (kE (kA kM (jA 9) jD) (jN (f7 a3 hr rfl (gI (jA 4) (jA 5) (jA 6) (jA 7) (jA 8)))) kI)
   (jN (f7 a6 hr rfl (zD (jA 4) (jA 5) (jA 6) (jA 7)))))
 let u1:=ru x0 [5] (jI (kE (kA kM (jA 9) jD) (jN (f7 a8 hr rfl (gI (jA 4) (jA 5) (jA 6) (jA 7) (jA 8)))) kI)
   u0.h)
 let u2:=ru x0 [4] (jI (jW 9 eS.nd (jR xa hr rfl (kH (jA 0) (jL kS jD (jL qU jD (jA 1))) jD)))
   u1.h)
 let u3:=ru x0 [3] (jI (jW 8 eS.nd (jH (kQ K) (qA (zD jD (jA 7) (jL kS jD (jL dF (jA 7) jD)) (jL zA (jA 7) (jL dF (jA 7) jD)))) (jR xa hr rfl (kH (jA 0) (jL kS jD (jL qU jD (jA 1))) jD))))
   u2.h)
 let u4:=ru x0 [2] (jI (jW 7 eS.nd (jL kS (jL qU (jL kS jD (jR xa hr rfl (kH (jA 0) (jL kS jD (jL qU jD (jA 1))) jD))) (jA 3)) (jR xa hr rfl (kH (jA 0) (jL kS jD (jL qU jD (jA 1))) jD))))
   u3.h)
 let u5:=ru x0 [1] (jI (jW 6 eS.nd (jR xa hr rfl (kH (jA 0) (jL kS jD (jL qU jD (jA 1))) (jA 5))))
   u4.h)
 refine ⟨_,(jI (jW 5 eS.nd (jL kS jD (jR xa hr rfl (kH (jA 0) (jL kS jD (jL qU jD (jA 1))) (jL zA (jA 2) jD)))))
   u5.h),?_⟩
 try dsimp only [jY,jX]
 refine (kD (⟨.inl ⟨by decide,by decide⟩,_,_,rfl,rfl,(kD (jQ s ns _ (jB rfl (j5 hS I (by lia) (by lia) (by lia) (fun J b4 br=>?_)))))⟩));refine ⟨_,_,rfl,rfl,?_⟩;refine (kD (⟨.inl ⟨by decide,by decide⟩,_,_,rfl,rfl,(jQ s ns _ (jB rfl (j5 hS I (by lia) (by lia) (by lia) (fun lo al b8=>?_))))⟩));refine (kD (⟨.inl ⟨by decide,by decide⟩,⟨_,_,⟨rfl,rfl,(jQ s ns _ (jB rfl (j5 hS I (by lia) (by lia) (by lia) (fun d2 b5 bl=>?_))))⟩⟩⟩));obtain ⟨b1,b2⟩:=dL (a:=1+d2) (by lia) (show 1+d2<=4 by lia) am a5 (by decide);refine ⟨_,_,rfl,rfl,(kD (⟨.inl ⟨by lia,by lia⟩,?_⟩))⟩;have b3:1<=(1+d2)*u:=by
  have:=Int.mul_le_mul (show (1:Int)<=1+d2 by lia) am (by decide) (by lia)
  lia
 try dsimp only
 generalize (1+d2)*u=r0 at b1 b2 b3 ⊢;refine (kD (⟨.inl ⟨by decide,by decide⟩,⟨_,_,⟨rfl,rfl,(jQ s ns _ (jB rfl (j5 hS I (by lia) (by lia) (by lia) (fun d3 cd bt=>?_))))⟩⟩⟩));refine ⟨_,_,rfl,rfl,?_⟩;have Z:1<=r0+d3:=by lia
 have ah:r0+d3<=999999999999:=by lia
 try dsimp only
 generalize r0+d3=M at Z ah ⊢;refine (kD (⟨⟨by decide,by decide⟩,_,_,rfl,rfl,(kD (⟨⟨by decide,by decide⟩,⟨_,_,(kB rfl rfl zz4 (fun p2 a4=>?_))⟩⟩))⟩));have s2:=jK a4 (.lst ([(1:Int),M,1+M / 2,M - M / 3].map V.int));have an:=s2.seq hS;refine (kD (⟨.inl ⟨by decide,by decide⟩,⟨_,_,⟨rfl,rfl,(jQ s ns _ (jB rfl (j5 an I (by lia) (by lia) (by lia) (fun d4 a9 a7=>?_))))⟩⟩⟩));obtain ⟨pa,O,be⟩:=KJ [(1:Int),M,1+M / 2,M - M / 3] a9 a7;refine k7 (so jF) be (?_);have O:1<=pa/\pa<=M:=by
  simp only [aj,au,bb] at O
  rcases O with rfl|rfl|rfl|rfl<;>lia
 refine (kD (⟨.inl ⟨by decide,by decide⟩,⟨_,_,⟨rfl,rfl,(jQ s ns _ (jB rfl (j5 an I (by lia) (by lia) (by lia) (fun d5 b0 b9=>?_))))⟩⟩⟩));have G:=s2;refine ⟨rfl,jB rfl (bG (fun _=>?_) (fun _=>?_))⟩
 ·refine (?_);intro x dx Y S a0;refine JC x dx _ _ _ _ (jB rfl (⟨jF,fun H' kp hx=>⟨rfl,?_⟩⟩));refine q x ⟨nm,1+J,lo,M,.basin,pa⟩ H' (JD (by show 1<=1+J;lia) (by show 1+J<(n:Int);lia) al (by show lo<1+J;lia) Z ah (fun z=>nomatch z) (fun _=>O)) rfl (G.trans (iF Y (iJ Y S) kp)) (G.free Y) ⟨x,rfl,dx,hx⟩
 refine ⟨rfl,jB rfl (bG (fun _=>?_) (fun _=>?_))⟩
 ·refine (?_);intro x dx Y S a0;refine JC x dx _ _ _ _ (jB rfl (⟨jF,fun H' kp hx=>⟨rfl,?_⟩⟩));refine q x ⟨nm,1+J,lo,M,.pump,pa⟩ H' (JD (by show 1<=1+J;lia) (by show 1+J<(n:Int);lia) al (by show lo<1+J;lia) Z ah (fun z=>nomatch z) (fun _=>O)) rfl (G.trans (iF Y (iJ Y S) kp)) (G.free Y) ⟨x,rfl,dx,hx⟩
 refine (?_);intro x dx Y S a0;refine JC (.plain) x dx _ _ _ (jB rfl (⟨jF,fun H' kp hx=>⟨rfl,?_⟩⟩));refine q x ⟨nm,1+J,lo,M,.plain,0⟩ H' (JD (by show 1<=1+J;lia) (by show 1+J<(n:Int);lia) al (by show lo<1+J;lia) Z ah (fun _=>rfl) (fun z=>absurd rfl z)) rfl (G.trans (iF Y (iJ Y S) kp)) (G.free Y) ⟨x,rfl,dx,hx⟩
theorem mM:jV 4 ["script","k","reaches","unit","some","r","comes"] tQ:=jU
include T in
theorem NB (F:kG K "_law_weather" tQ f fd) (xa:Def P w K mg base 1 "_law_draw" ["script","k","many"] [] (dJ K)):FnOk P w K mg base jT 2 f fd ["script","k","reaches","unit"] (EA K):=by
 refine F.ok2 mM fun vs H Q E h=>?_
 refine ZB h fun s ns k n u h=>?_
 refine gF h fun e_ hS O hk a4 S Y q=>?_
 subst e_;refine ⟨rfl,fun _ _ _ _ hr=>?_⟩;refine tk fun x0=>?_
 let u0:=ru x0 [1,0,1] (kU (yH (zR aQ aY aZ J7 (jA 4) (jC (qC (jC (jA 6) (jC (jL dF (jL qU (jR xa hr rfl (kH (jA 0) (jL kS (jL kS jD (jL qU jD (jA 1))) (jL qU jD (jA 5))) jD)) (jA 3)) jD) jE))) jE))))
 let u1:=ru x0 [1,0,0] (jI (jW 6 mM.nd (jL qU (jR xa hr rfl (kH (jA 0) (jL kS (jL kS jD (jL qU jD (jA 1))) (jL qU jD (jA 5))) jD)) (jA 3)))
   u0.h)
 let u2:=ru x0 [1] (jI (yU bj rfl (J6 (by rfl) T.xn (jC (jA 2) jE)) (kT (i:=5) mM.nd rfl (.inl rfl))
    u1.h)
   (jN (jA 4)))
 refine ⟨_,(jI (jW 4 mM.nd (qA jE))
   u2.h),?_⟩
 try dsimp only [jY,jX]
 refine ⟨zz0,fun l I=>?_⟩;refine ⟨_,rfl,by lia,by lia,Z1 (n:=((n:Nat):Int).toNat) (fun i σ M=>∃(J:List V) (p:List (Int×Int)) (c5 c6:Option V),σ=[some (.ref s),some (.int (k:Int)),some (.int (n:Int)),some (.int u),some (.ref l),c5,c6]/\M l=some (.lst J)/\AllAt (QAt M) J p/\p.length=i/\(∀q∈p,0<=q.1/\0<=q.2)/\Same H M)
  (j0 ([]) ([]) none none (j5 rfl jF AllAt.nil rfl (fun q hq=>by cases hq) (jK I _))) ?_ ?_⟩
 ·rintro i σ M hi ⟨J,p,c5,c6,rfl,Z,hA,hp,G,sm⟩;rw [ay] at hi;rw [ck];have ah:=sm.seq hS;refine (kD (⟨.inl ⟨by decide,by decide⟩,_,_,rfl,rfl,(kD (⟨.inl ⟨by decide,by decide⟩,⟨_,_,⟨rfl,rfl,(jQ s ns _ (jB rfl (j5 ah O (by lia) (by lia) (by lia) (fun d1 am a3=>?_))))⟩⟩⟩))⟩));refine (kD (⟨.inl ⟨by lia,by lia⟩,?_⟩));refine (⟨.inl ⟨rfl,_,so Z⟩,(kD (⟨.inl ⟨by decide,by decide⟩,_,_,rfl,rfl,(kD (⟨.inl ⟨by decide,by decide⟩,⟨_,_,⟨rfl,rfl,(jQ s ns _ (jB rfl (j5 ah O (by lia) (by lia) (by lia) (fun d2 an a0=>?_))))⟩⟩⟩))⟩))⟩);refine (kD (⟨.inl ⟨by lia,by lia⟩,⟨_,_,(jO rfl rfl ⟨by decide,by decide⟩ zz2 (fun tp al=>?_))⟩⟩));have v:=jK al (.tup [V.int (d1*u),V.int (d2*u / 2)]);refine jQ l _ _ (jO rfl rfl (v _ _ Z) (vN (by rw [hA.1];lia)) ?_);refine jQ (J++[.ref tp]) (p++[(d1*u,d2*u / 2)]) _ (jB rfl (jO jF ?_ (by rw [af,hp];rfl) (fun q hq=>?_) (qY I (sm.trans v))))
  rotate_left
  ·rcases aI.mp hq with h|h
   ·exact G q h
   ·rw [av.mp h];have m1:=(dL am (show d1<=3 by lia) S Y (by decide)).1;have m2:=(dL an (show d2<=3 by lia) S Y (by decide)).1;exact ⟨m1,by show 0<=d2*u / 2;lia⟩
  exact ((hA.mono (QAt.same v)).snoc (v:=.ref tp) (x:=(d1*u,d2*u / 2)) ⟨tp,rfl,jF⟩).mono (QAt.put (v _ _ Z))
 rintro σ M ⟨J,p,c5,c6,rfl,Z,hA,hp,G,sm⟩;rw [ay] at hp;exact (q l p M hp G sm I ⟨l,J,(kB rfl Z hA (by simp))⟩)
theorem ZX:jV 4 ["script","most_reaches","most_locks","most_nights","unit","many","locks","called","named","nights","reaches"] eQ:=jU
include T in
theorem MV (F:kG K "_law_canal" eQ f fd) (vz:Def P w K mg base 1 "_law_unit" ["script"] [] (AW K)) (xa:Def P w K mg base 1 "_law_draw" ["script","k","many"] [] (dJ K)) (ue:Def P w K mg base 2 "_law_names" ["script","k","many"] [] (fE K)) (jy:Def P w K mg base 2 "_law_weather" ["script","k","reaches","unit"] [] (EA K)) (cj:Def P w K mg base 3 "_law_reach" ["script","k","unit","named"] [] (FH K cR)) (b9:MkD P w K mg base 1 "Canal" cN ["self","reaches","locks","nights"] (wZ (jG cP cB cU) cR cN)) (c5:Def P w K mg base 4 "_law_lock" ["script","k","reaches","unit","named"] [] (GZ K (jG cP cB cU))):FnOk P w K mg base jT 6 f fd ["script","most_reaches","most_locks","most_nights"] (FO K (jG cP cB cU) cR cN):=by
 refine F.ok2 ZX fun vs H Q E h=>?_
 obtain ⟨s,ns,mr,ml,mn,rfl,hS,G,dy,dl,dr,dp,dU,q⟩:=h;refine ⟨rfl,fun _ _ _ _ Z=>?_⟩;refine tk fun x0=>?_
 let u0:=ru x0 [8] (jN (f7 b9 Z rfl (kH (jA 10) (pV ["k","script","many","unit","named"] [0,5,4,8] (v9 (kK eQ)) (J6 (by rfl) T.xn (jC (jA 6) jE)) (fun _ _ _ _ _=>(jR c5 Z rfl (gI (jA 1) (jA 0) (jA 2) (jA 3) (jH (kQ K) (jA 4) (jA 0)))))) (jA 9))))
 let u1:=ru x0 [7] (jI (bO (i:=10) ["k","script","unit","called"] (vZ 1 [0,4,7]) ZX.nd rfl (.inl rfl) rfl (v9 (kK eQ)) (cps 1 [0,4,7]) (J6 (by rfl) T.xn (jC (jA 5) jE)) (fun _ _ _ _ _=>(kT (i:=0) (show List.Nodup (["k","script","unit","called"]:List Str) from by trivial) rfl (.inl rfl))) (fun _ _ _ _ _=>zN) (fun _ _ _ _ _=>(jR cj Z rfl (zD (jA 1) (jA 0) (jA 2) (jH (kQ K) (jA 3) (jA 0))))))
   u0.h)
 let u2:=ru x0 [6] (jI (bO (i:=9) ["k","script","many","unit"] (vZ 1 [0,5,4]) ZX.nd rfl (.inl rfl) rfl (v9 (kK eQ)) (cps 1 [0,5,4]) (J6 (by rfl) T.xn (jC (jR xa Z rfl (kH (jA 0) jD (jL kS (jA 3) jD))) jE)) (fun _ _ _ _ _=>(kT (i:=0) (show List.Nodup (["k","script","many","unit"]:List Str) from by trivial) rfl (.inl rfl))) (fun _ _ _ _ _=>zN) (fun _ _ _ _ _=>(jR jy Z rfl (zD (jA 1) (jA 0) (jA 2) (jA 3)))))
   u1.h)
 let u3:=ru x0 [5] (fR (kE (PW.pt (iR (kA iX (jA 6) (jA 5)) (iI (kA kM (jR xa Z rfl (kH (jA 0) jD jD)) jD)))) (kU (jW 8 ZX.nd (Z3 (oA K) (jA 7) Z4 (ZV (jA 6))))) kI)
   u2.h)
 let u4:=ru x0 [4] (jI (jW 8 ZX.nd (jR ue Z rfl (kH (jA 0) jD (jA 6))))
   u3.h)
 let u5:=ru x0 [3] (jI (jW 7 ZX.nd (jR ue Z rfl (kH (jA 0) jD (jA 5))))
   u4.h)
 let u6:=ru x0 [2] (jI (jW 6 ZX.nd (jL kS jD (jR xa Z rfl (kH (jA 0) jD (jA 2)))))
   u5.h)
 let u7:=ru x0 [1] (jI (jW 5 ZX.nd (jL kS jD (jR xa Z rfl (kH (jA 0) jD (jL zA (jA 1) jD)))))
   u6.h)
 refine ⟨_,(jI (jW 4 ZX.nd (jR vz Z rfl (jC (jA 0) jE)))
   u7.h),?_⟩
 try dsimp only [jY,jX]
 refine (⟨s,ns,(kB rfl hS G (fun u a9 bl=>?_))⟩);refine (kD (jQ s ns _ (jB rfl (j5 hS G (by lia) (by lia) (by lia) (fun m0 d2 dk=>⟨_,_,rfl,rfl,?_⟩)))));obtain ⟨n,hn⟩:∃n:Nat,2+m0=(n:Int):=⟨(2+m0).toNat,by lia⟩
 try dsimp only
 rw [hn];have cd:2<=n:=by lia
 have b5:n<=8:=by lia
 refine (jQ s ns _ (jB rfl (j5 hS G (by lia) (by lia) (by lia) (fun m1 dT dK=>⟨_,_,rfl,rfl,?_⟩))));obtain ⟨m,hm⟩:∃m:Nat,1+m1=(m:Int):=⟨(1+m1).toNat,by lia⟩
 try dsimp only
 rw [hm];refine (j0 s ns _ n (vD rfl hS G (by decide) (by decide) (by lia) (fun cl cs H1 s1 c6 al dj S=>?_)));refine (j0 s ns _ m (vD rfl (s1.seq hS) G (by decide) (by decide) (by lia) (fun n0 z0 H2 s2 c7 b2 a0 M=>?_)));have am:=s1.trans s2;refine ⟨fun σ Hj=>∃(na:Addr) (zs:List Str),σ=[some (.ref s),some (.int (mr:Int)),some (.int (ml:Int)),some (.int (mn:Int)),some (.int u),some (.int (n:Int)),some (.int (m:Int)),some (.ref cl),some (.ref na),none,none]/\Hj na=some (.lst (zs.map V.str))/\zs.length=m/\NmsOk zs/\Hj cl=some (.lst (cs.map V.str))/\Same H Hj,?_,?_⟩
 ·refine (kD (jB rfl (bG (fun c=>?_) (fun c=>⟨n0,z0,(j5 rfl b2 a0 M (s2 _ _ al) am)⟩))));have J:m<=n:=by have:(m:Int)<=(n:Int):=bc c;lia
  refine (jQ s ns _ (jB rfl (j5 (am.seq hS) G (by decide) (by decide) (by decide) (fun d d0 d1=>⟨rfl,jB rfl (bG (fun c=>?_) (fun c=>⟨n0,z0,(j5 rfl b2 a0 M (s2 _ _ al) am)⟩))⟩))));refine (jB rfl (⟨cl,jB rfl (⟨so (s2 _ _ al),fun p hp=>?_⟩)⟩));rw [VC (show m<=cs.length by lia)];have u:=jK hp (.lst ((cs.take m).map V.str));exact ⟨p,cs.take m,(j5 rfl jF (by rw [bd];lia) (S.take m) (u _ _ (s2 _ _ al)) (am.trans u))⟩
 rintro σ H3 ⟨na,zs,rfl,cC,dD,c4,b1,s3⟩;refine (kD (jQ s ns _ (jB rfl (j5 (s3.seq hS) G (by lia) (by lia) (by lia) (fun m2 dV dn=>?_)))));obtain ⟨c,hc⟩:∃c:Nat,m2=(c:Int):=⟨m2.toNat,by lia⟩;rw [hc];refine jB rfl (⟨by lia,by lia,fun nl an=>?_⟩);refine m9 (n:=((c:Nat):Int).toNat) (caps:=[some (.ref s),some (.int (n:Int)),some (.int u)]) (fun i ys Hi=>∃N:List (List (Int×Int)),AllAt (NAt [nl] Hi) ys N/\N.length=i/\(∀p∈N,∀q∈p,0<=q.1/\0<=q.2)/\∀p∈N,p.length=n) an ⟨[],(kB AllAt.nil rfl (fun l hl=>by cases hl) (fun l hl=>by cases hl))⟩ ?_ ?_
 ·rintro i ys Hi hi J sm hY ⟨N,hN,a7,a5,a8⟩;rw [ay] at hi;rw [ck];refine yZ (qG (qO s ns i n u (JD rfl ((s3.trans sm).seq hS) G (by lia) b5 a9 bl (fun l p H' hg c2 s' cn hl=>JP an sm hY J (by lia) s' ?_))));obtain ⟨l',qs,e,h1,h2,_⟩:=hl;cases e;refine ⟨N++[p],(kB (((hN.mono (NAt.same s')).snoc (v:=.ref l) (x:=p) ⟨l,qs,(kB rfl h1 h2 (fun z=>q9 hY cn (av.mp z).symm))⟩).mono (NAt.put (s' _ _ hY) (by simp))) (by rw [af,a7];rfl) (fun p' I=>(aI.mp I).elim (a5 p') fun h=>by rw [av.mp h];exact c2) (fun p' I=>?_))⟩
  rcases aI.mp I with I|I
  ·exact a8 p' I
  ·rw [av.mp I];exact hg
 rintro nv H4 s4 b8 c9 ⟨N,hN,a7,a5,a8⟩;rw [ay] at a7;have c0:=s3.trans s4;refine (jB rfl (⟨by lia,by lia,fun rl a3=>?_⟩));refine m9 (n:=((n:Nat):Int).toNat) (caps:=[some (.ref s),some (.int u),some (.ref cl)]) (fun i ys Hi=>∃R:List RC,AllAt (RcO cR Hi) ys R/\R.length=i/\R.map (·.name)=cs.take i/\∀(j:Nat) (r:RC),R[j]?=some r->r.good j) a3 ⟨[],(kB AllAt.nil rfl rfl (fun j r hj=>by cases hj))⟩ ?_ ?_
 ·rintro i ys Hi hi J sm hY ⟨R,hR,Y,b0,bt⟩;rw [ay] at hi;rw [ck];obtain ⟨nm,ah⟩:∃nm,cs[i]?=some nm:=⟨_,aa (show i<cs.length by lia)⟩;have a6:(cs.map V.str)[i]?=some (.str nm):=by rw [ap,ah];rfl
  refine yZ (qG (k7 (so (sm _ _ (s4 _ _ b1))) (qF a6) (qO s ns i u nm (vD rfl ((c0.trans sm).seq hS) G (by lia) a9 bl (fun x r H' hg co s' cz hx=>JP a3 sm hY J (by lia) s' ?_)))));refine ⟨R++[r],(kB (((hR.mono (RcO.same s')).snoc (v:=.ref x) (x:=r) ⟨x,rfl,hx⟩).mono (RcO.keep ((Keep.refl rl H').upd _) (s' _ _ hY))) (by rw [af,Y];rfl) (by rw [aJ,b0,aK,ah,<- co];rfl) (fun j r' hj=>?_))⟩
  by_cases hl:j<R.length
  ·rw [aw hl] at hj;exact bt j r' hj
  ·rw [ar (by lia)] at hj;have hz:j - R.length=0:=by
    have:=(ad.mp hj).1;rw [aE] at this
    lia
   rw [hz] at hj;cases hj;rw [show j=i by lia];exact hg
 rintro rs H5 s5 cr db ⟨R,hR,Y,b0,bt⟩;rw [ay] at Y;have b4:=s4.trans s5;have b3:=s3.trans b4;refine (jB rfl (⟨by lia,by lia,fun ll a4=>?_⟩));refine m9 (n:=((m:Nat):Int).toNat) (caps:=[some (.ref s),some (.int (n:Int)),some (.int u),some (.ref na)]) (fun i ys Hi=>∃L:List LC,AllAt (LkO (jG cP cB cU) Hi) ys L/\L.length=i/\L.map (·.name)=zs.take i/\∀l∈L,l.good n) a4 ⟨[],(kB AllAt.nil rfl rfl (fun l hl=>by cases hl))⟩ ?_ ?_
 ·rintro i ys Hi hi J sm hY ⟨L,hL,br,be,bv⟩;rw [ay] at hi;rw [ck];obtain ⟨nm,ah⟩:∃nm,zs[i]?=some nm:=⟨_,aa (show i<zs.length by lia)⟩;have a6:(zs.map V.str)[i]?=some (.str nm):=by rw [ap,ah];rfl
  refine yZ (qG (k7 (so (sm _ _ (b4 _ _ cC))) (qF a6) (JC s ns i n u nm (eJ rfl ((b3.trans sm).seq hS) G (by lia) cd b5 a9 bl (fun x l H' hg ce s' cz hx=>JP a4 sm hY J (by lia) s' ?_)))));refine ⟨L++[l],(kB (((hL.mono (LkO.same s')).snoc (v:=.ref x) (x:=l) hx).mono (LkO.keep ((Keep.refl ll H').upd _) (s' _ _ hY))) (by rw [af,br];rfl) (by rw [aJ,be,aK,ah,<- ce];rfl) (fun l' O=>?_))⟩
  rcases aI.mp O with O|O
  ·exact bv l' O
  ·rw [av.mp O];exact hg
 rintro ls H6 s6 c3 df ⟨L,hL,br,be,bv⟩;rw [ay] at br;refine (?_);intro x dx nx c1 dt;have v:=fun o o'=>iJ (o:=o) (o':=o') nx c1
 refine gE x dx rl ll _ rs ls R L N (JD rfl jF (v _ _ _ _ (s6 _ _ cr)) (v _ _ _ _ c3) ((hR.mono (RcO.same s6)).mono (RcO.same (v _ _))) (hL.mono (LkO.same (v _ _))) (.inr ⟨nl,nv,(kB rfl (v _ _ _ _ (s6 _ _ (s5 _ _ b8))) ((hN.mono (NAt.same (s5.trans s6))).mono (NAt.same (v _ _)) |>.mono (NAt.less (by simp))) (by rw [hN.1];lia))⟩) (fun H' kp hC=>⟨rfl,?_⟩));have w:=b3.trans s6;exact q x R L N H' ⟨by lia,by lia,by lia,by lia,bt,fun i l hl=>by rw [Y];exact bv l (ag hl),fun p hp=>by rw [Y];exact a8 p hp⟩ a5 (by rw [b0,ay];exact S.take n) (by rw [be,ay];exact c4.take m) (by lia) (by lia) (by lia) (by lia) (by lia) (w.trans (iF nx (v _ _) kp)) (w.free nx) (hC [] (fun d hd=>nomatch hd))
theorem wH:jV 2 ["canal","reach","some","k"] tN:=jU
include T in
theorem M8 (F:kG K "_law_turns" tN f fd) : FnOk P w K mg base jT 1 f fd ["canal","reach"] (GX (jG cP cB cU) cR cN):=by
 refine F.ok2 wH fun vs H Q E h=>?_
 refine cH h fun x r D R L N h=>?_
 refine d9 h fun e_ am b8 q=>?_
 subst e_;obtain ⟨dx,rl,ll,nl,fs,rs,ls,ns,hx,hf,a4,S,a3,hR,hL,hN,d1,d2,d3⟩:=am;refine ⟨rfl,fun _ _ _ _ hr=>?_⟩;refine tk fun x0=>?_
 let u0:=ru x0 [1,0,1] (kU (kE (kA kM (j6 K (jH (kQ K) (j6 K (jA 0) rfl) (jA 3)) rfl) (jA 1)) (kU (yH (zR aQ aY aZ J7 (jA 2) (jC (qC (jC (jA 3) (jC jP jE))) jE)))) kI))
 let u1:=ru x0 [1,0,0] (fR (kE (kA kM (j6 K (jH (kQ K) (j6 K (jA 0) rfl) (jA 3)) rfl) (jA 1)) (kU (yH (zR aQ aY aZ J7 (jA 2) (jC (qC (jC (jA 3) (jC jP jE))) jE)))) kI)
   u0.h)
 let u2:=ru x0 [1] (jI (yU bj rfl (J6 (by rfl) T.xn (jC (qR K T.xk (j6 K (jA 0) rfl)) jE)) (kT (i:=3) wH.nd rfl (.inl rfl))
    u1.h)
   (jN (jA 2)))
 refine ⟨_,(jI (jW 2 wH.nd (qA jE))
   u2.h),?_⟩
 try dsimp only [jY,jX]
 refine ⟨zz0,fun Z I=>?_⟩;have s1:=jK I (.lst []);refine ⟨x,cN,dx,_,_,rfl,(s1 _ _ hx),T.clN,T.xg,hf.2.1,ll,_,rfl,.inl (so (s1 _ _ S)),_,rfl,by lia,by rw [hL.1];lia,Z1 (n:=((ls.length:Nat):Int).toNat) (fun i σ Hi=>∃(M:List V) (c:Option V),σ=[some (.ref x),some (.int r),some (.ref Z),c]/\Hi Z=some (.lst M)/\AllAt (PAt Hi) M (bR L r i)/\Same H Hi)
  ⟨[],none,(kB rfl jF AllAt.nil s1)⟩ ?_ ?_⟩
 ·rintro i σ Hi hi ⟨M,c,rfl,G,O,J⟩;rw [ay,hL.1] at hi;rw [ck];obtain ⟨l,al⟩:∃l,L[i]?=some l:=⟨_,aa hi⟩;obtain ⟨v,hv,y,rfl,dl,hl⟩:=hL.get al;have an:=SG L r i;have ek:bZ L r i=(if l.low=r then [(i,true)] else [])++(if l.high=r then [(i,false)] else []):=by unfold bZ;rw [al]
  refine ⟨fun ah H'=>∃M:List V,ah=[some (.ref x),some (.int r),some (.ref Z),some (.int (i:Int))]/\H' Z=some (.lst M)/\AllAt (PAt H') M (bR L r i++(if l.low=r then [(i,true)] else []))/\Same H H',?_,?_⟩
  ·refine (j8 (J _ _ hx) (T.clN) (T.xg) (hf.2.1) (k7 (so (J _ _ S)) (qF hv) (j8 (J _ _ hl) (T.cl l.kd) (T.wx l.kd) (dO l.kd _ _ _ _ _) (⟨rfl,jB rfl (?_)⟩))))
   by_cases h:l.low=r
   ·refine kX (bf V.int h) (⟨.inl ⟨rfl,_,so G⟩,(⟨zz2,fun tp Y=>?_⟩)⟩);have u:=jK Y (.tup [V.int (i:Int),V.str "up"]);refine jQ Z _ _ (jO rfl rfl (u _ _ G) (vN (by rw [O.1];lia)) (jB rfl (⟨jF,?_,qY I (J.trans u)⟩)));rw [if_pos h];exact ((O.mono (PAt.same u)).snoc (v:=.ref tp) (x:=(i,true)) ⟨tp,rfl,jF⟩).mono (PAt.put (u _ _ G))
   ·refine j9 (fun z=>h (V.int.inj z)) ⟨M,(kB rfl G ?_ J)⟩;rw [if_neg h,cq];exact O
  rintro ah H' ⟨M,rfl,G,O,J⟩;have a0:(if l.low=r then [(i,true)] else ([]:List (Nat×Bool))).length<=1:=by split<;>simp
  refine (j8 (J _ _ hx) (T.clN) (T.xg) (hf.2.1) (k7 (so (J _ _ S)) (qF hv) (j8 (J _ _ hl) (T.cl l.kd) (T.vc l.kd) (dI l.kd _ _ _ _ _) (⟨rfl,jB rfl (?_)⟩))))
  by_cases h:l.high=r
  ·refine kX (bf V.int h) (⟨.inl ⟨rfl,_,so G⟩,(⟨zz2,fun tp Y=>?_⟩)⟩);have u:=jK Y (.tup [V.int (i:Int),V.str "down"]);refine jQ Z _ _ (jO rfl rfl (u _ _ G) (vN (by rw [O.1,af];lia)) ⟨_,jB rfl (⟨jF,?_,qY I (J.trans u)⟩)⟩);rw [wS,ek,if_pos h,<- ig];exact ((O.mono (PAt.same u)).snoc (v:=.ref tp) (x:=(i,false)) ⟨tp,rfl,jF⟩).mono (PAt.put (u _ _ G))
  ·refine j9 (fun z=>h (V.int.inj z)) ⟨M,jB rfl (⟨G,?_,J⟩)⟩;rw [wS,ek,if_neg h,cq];exact O
 rintro σ Hi ⟨M,c,rfl,G,O,J⟩;rw [ay,hL.1] at O;exact (q Z M Hi J I G O)
theorem ZY:jV 4 ["script","k","canal","most","lock","at","start","steps","j","some","step"] tP:=jU
include T in
theorem NA (F:kG K "_law_way" tP f fd) (xa:Def P w K mg base 1 "_law_draw" ["script","k","many"] [] (dJ K)) (cz:Def P w K mg base 1 "_law_turns" ["canal","reach"] [] (GX (jG cP cB cU) cR cN)):FnOk P w K mg base jT 2 f fd ["script","k","canal","most"] (GW K (jG cP cB cU) cR cN):=by
 refine F.ok2 ZY fun vs H Q E h=>?_
 obtain ⟨s,x,ns,k,mo,D,R,L,N,rfl,hS,ah,hk,df,dt,hc,a4,b1,q⟩:=h;refine ⟨rfl,fun _ _ _ _ hr=>?_⟩;refine tk fun x0=>?_
 let u0:=ru x0 [4,0,3] (kU (jW 5 ZY.nd (jH (kQ K) (qA (jC (j6 K (jH (kQ K) (j6 K (jA 2) rfl) (jH (jM K) (jA 10) jD)) rfl) (jC (j6 K (jH (kQ K) (j6 K (jA 2) rfl) (jH (jM K) (jA 10) jD)) rfl) jE))) (vJ xW (by rfl) T.wu gt (jC (zC kM (jH (jM K) (jA 10) jD) jP) jE)))))
 let u1:=ru x0 [4,0,2] (jI (yH (zR aQ aY aZ J7 (jA 7) (jC (jA 10) jE)))
   u0.h)
 let u2:=ru x0 [4,0,1] (jI (jW 10 ZY.nd (jH (kQ K) (jA 9) (jR xa hr rfl (kH (jA 0) (jL kS (jL kS jD (jL qU jD (jA 1))) (jA 8)) (qR K T.xk (jA 9))))))
   u1.h)
 let u3:=ru x0 [4,0,0] (jI (jW 9 ZY.nd (jR cz hr rfl (jC (jA 2) (jC (jA 5) jE))))
   u2.h)
 let u4:=ru x0 [4] (jI (yU bj rfl (J6 (by rfl) T.xn (jC (jL kS jD (jR xa hr rfl (kH (jA 0) (jL kS jD (jL qU jD (jA 1))) (jA 3)))) jE)) (kT (i:=8) ZY.nd rfl (.inl rfl))
    u3.h)
   (jN (qC (jC (jA 6) (jC (vJ (cX K) (by rfl) T.xy bx (jC (jA 7) jE)) jE)))))
 let u5:=ru x0 [3] (jI (jW 7 ZY.nd (qA jE))
   u4.h)
 let u6:=ru x0 [2] (jI (jW 6 ZY.nd (jA 5))
   u5.h)
 let u7:=ru x0 [1] (jI (jW 5 ZY.nd (jH (kQ K) (qA (jC (j6 K (jA 4) rfl) (jC (j6 K (jA 4) rfl) jE))) (jR xa hr rfl (kH (jA 0) (jL kS jD (jL qU jD (jA 1))) jD))))
   u6.h)
 refine ⟨_,(jI (jW 4 ZY.nd (jH (kQ K) (j6 K (jA 2) rfl) (jR xa hr rfl (kH (jA 0) (jL kS jD (jL qU jD (jA 1))) (qR K T.xk (j6 K (jA 2) rfl))))))
   u7.h),?_⟩
 try dsimp only [jY,jX]
 have c2:=hc;obtain ⟨dx,rl,ll,nl,fs,rs,ls,nv,hx,hf,dk,al,c6,hR,hL,hN,d1,d2,d3⟩:=hc;have b8:=a4.l8;refine (j8 hx (T.clN) (T.xg) (hf.2.1) (kD (⟨.inl ⟨by decide,by decide⟩,_,_,rfl,rfl,(j8 hx (T.clN) (T.xg) (hf.2.1) (⟨ll,jB rfl (⟨.inl (so al),(jQ s ns _ (jB rfl (j5 hS ah (by lia) (by lia) (by rw [hL.1];lia) (fun d1 dp c4=>?_))))⟩)⟩))⟩)));obtain ⟨k1,cr⟩:∃k1:Nat,d1=(k1:Int):=⟨d1.toNat,by lia⟩;subst cr;have Z:k1<L.length:=by rw [hL.1] at c4;lia
 obtain ⟨I,a8⟩:∃l,L[k1]?=some l:=⟨_,aa Z⟩;obtain ⟨v,hv,yl,rfl,dl,hl⟩:=hL.get a8;refine k7 (so al) (qF hv) (?_);refine (j8 hl (T.cl I.kd) (T.wx I.kd) (dO I.kd _ _ _ _ _) (j8 hl (T.cl I.kd) (T.vc I.kd) (dI I.kd _ _ _ _ _) (⟨zz2,fun p1 c3=>?_⟩)));have s1:=jK c3 (.lst [V.int I.low,V.int I.high]);refine (kD (⟨.inl ⟨by decide,by decide⟩,⟨_,_,⟨rfl,rfl,(jQ s ns _ (jB rfl (j5 (s1.seq hS) ah (by lia) (by lia) (by lia) (fun d2 c7 dn=>?_))))⟩⟩⟩));obtain ⟨a0,be,a3⟩:∃a0:Int,vM [V.int I.low,V.int I.high] d2=some (.int a0)/\EndAt L a0:=by
  obtain ⟨k2,cC⟩:∃k2:Nat,d2=(k2:Int):=⟨d2.toNat,by lia⟩;subst cC
  rcases k2 with _|_|k2
  ·exact ⟨I.low,rfl,(k1,true),Z,by rw [Z5 a8]⟩
  ·exact ⟨I.high,rfl,(k1,false),Z,by rw [Z2 a8]⟩
  ·lia
 refine k7 (so jF) be (?_);refine (⟨zz0,fun O am=>?_⟩);have s2:=jK am (.lst []);have bt:=s1.trans s2;have S:upd (upd H p1 (.lst [V.int I.low,V.int I.high])) O (.lst []) O=some (.lst []):=jF;have b5:=s1.free am;generalize upd (upd H p1 (.lst [V.int I.low,V.int I.high])) O (.lst [])=H2 at s2 bt S ⊢;refine (kD (⟨.inl ⟨by decide,by decide⟩,_,_,rfl,rfl,(jQ s ns _ (jB rfl (j5 (bt.seq hS) ah (by lia) (by lia) (by lia) (fun m0 dK db=>?_))))⟩));obtain ⟨n,hn⟩:∃n:Nat,1+m0=(n:Int):=⟨(1+m0).toNat,by lia⟩;refine ⟨_,_,⟨rfl,rfl,⟨(n:Int),(kB (by show [V.int (1+m0)]=_;rw [hn]) (by lia) (by lia) ?_)⟩⟩⟩;refine Z1 (n:=((n:Nat):Int).toNat) (fun i σ Hi=>∃(a:Int) (ps:List (Nat×Bool)) (J:List V) (c8 c9 a6:Option V),σ=[some (.ref s),some (.int (k:Int)),some (.ref x),some (.int (mo:Int)),some (.ref yl),some (.int a),some (.int a0),some (.ref O),c8,c9,a6]/\Hi O=some (.lst J)/\AllAt (PAt Hi) J ps/\(∀p∈ps,p.1<L.length)/\ps.length=i/\(vC L a0 ps)[ps.length]?=some a/\QS L a0 ps/\EndAt L a/\Same H Hi)
  (JC a0 ([]) ([]) none none none (eJ rfl S AllAt.nil (fun p hp=>(by cases hp)) rfl rfl (XU _ _) a3 bt)) ?_ ?_
 ·rintro i σ Hi hi ⟨a,ps,J,c8,c9,a6,rfl,S,hA,a5,br,Y,a9,ce,sm⟩;rw [ay] at hi;rw [ck];refine (JC x a _ R L N (kB rfl (c2.same sm) b8 (fun cn c0 H4 s4 c5 cj b0=>?_)));have b3:=sm.trans s4;have dj:=ce.turns;refine (kD (⟨.inl ⟨by decide,by decide⟩,_,_,rfl,rfl,(kD (⟨cn,jB rfl (⟨.inl (so cj),(jQ s ns _ (jB rfl (j5 (b3.seq hS) ah (by lia) (by lia) (by rw [b0.1];lia) (fun d4 dr dD=>?_))))⟩)⟩))⟩));obtain ⟨m,hm⟩:∃m:Nat,d4=(m:Int):=⟨d4.toNat,by lia⟩;subst hm;have bv:m<c0.length:=by lia
  obtain ⟨p,hp,t,et,ht⟩:=b0.2 m _ (aa bv);obtain ⟨bl,co⟩:=turns_mem.mp (ag hp);refine k7 (so cj) (qF (v:=.ref t) (by rw [aa bv,et])) (?_);have M:=s4 _ _ S;refine (⟨.inl ⟨rfl,_,so M⟩,(jQ O _ _ (jO rfl rfl M (vN (by rw [hA.1];lia)) ?_))⟩);have cd:AllAt (PAt (upd H4 O (.lst (J++[.ref t])))) (J++[.ref t]) (ps++[p]):=((hA.mono (PAt.same s4)).snoc ⟨t,rfl,ht⟩).mono (PAt.put M);have G:Same H (upd H4 O (.lst (J++[.ref t]))):=qY b5 b3;have an:upd H4 O (.lst (J++[.ref t])) O=some (.lst (J++[.ref t])):=jF;have ht:upd H4 O (.lst (J++[.ref t])) t=some (.tup [.int (p.1:Int),.str (bL p.2)]):=by rw [j7 (fun z=>by rw [z,M] at ht;cases ht)];exact ht
  generalize upd H4 O (.lst (J++[.ref t]))=H5 at cd G an ht ⊢;obtain ⟨l,a7,dy⟩:=xF a4 bl;obtain ⟨w,hw,y,rfl,dl,hl⟩:=hL.get a7;refine (j8 (G _ _ hx) (T.clN) (T.xg) (hf.2.1) (jJ (SqT.of ht) rfl (k7 (so (G _ _ al)) (qF hw) (j8 (G _ _ hl) (T.cl l.kd) (T.wx l.kd) (dO l.kd _ _ _ _ _) (j8 (G _ _ hx) (T.clN) (T.xg) (hf.2.1) (jJ (SqT.of ht) rfl (k7 (so (G _ _ al)) (qF hw) (j8 (G _ _ hl) (T.cl l.kd) (T.vc l.kd) (dI l.kd _ _ _ _ _) (⟨zz2,fun pl b9=>?_⟩)))))))));have u:=jK b9 (.lst [V.int l.low,V.int l.high]);refine (jJ (SqT.of (u _ _ ht)) rfl (⟨rfl,.inr (jB rfl (?_))⟩));rw [KG];have be:vM [V.int l.low,V.int l.high] (if p.2=true then 1 else 0)=some (.int (yO L p).2):=by
   obtain ⟨pk,pb⟩:=p;cases pb
   ·rw [Z2 a7];rfl
   ·rw [Z5 a7];rfl
  refine k7 (so jF) be (?_);refine qO _ (ps++[p]) (J++[.ref t]) _ _ (jB rfl (JD (u _ _ an) (cd.mono (PAt.same u)) (fun p' c1=>?_) (by rw [af,br];rfl) ?_ ((V9 Y).mpr ⟨a9,co⟩) (EndAt.next bl) (G.trans u)))
  ·rcases aI.mp c1 with h|h
   ·exact a5 p' h
   ·rw [av.mp h];exact bl
  ·rw [xS,af,ar (by rw [iH];exact ao _),iH];show [(yO L p).2][ps.length+1 - (ps.length+1)]?=_;rw [gm];rfl
 rintro σ Hi ⟨a,ps,J,c8,c9,a6,rfl,S,hA,a5,br,Y,a9,ce,sm⟩;rw [ay] at br;refine (⟨O,J,rfl,.inl ⟨so S,fun st b4=>?_⟩⟩);have v1:=jK b4 (.tup J);refine ⟨zz2,fun t b2=>?_⟩;have v2:=jK b2 (.tup [V.int a0,V.ref st]);have w:=(sm.trans v1).trans v2;exact q t (a0,ps) _ ⟨a5,a9,by show ps.length<=8;lia⟩ (by show 1<=ps.length;lia) (U7 a4 a3) w ((sm.trans v1).free b2) (jQ t st J (kB rfl jF (v2 _ _ jF) (hA.mono (PAt.same (v1.trans v2)))))
theorem CS:jV 3 ["canal","name","way","steps"] lY:=jU
include T in
theorem MW (F:kG K "_law_come" lY f fd) : FnOk P w K mg base jT 1 f fd ["canal","name","way"] (FN (jG cP cB cU) cR cN):=by
 refine F.ok2 CS fun vs H Q E h=>?_
 refine JY h fun x t nm y a D R L N h=>?_
 refine QQ h fun e_ hc ah ok ha a4 q=>?_
 subst e_;obtain ⟨a7,st,us,e,h1,h2,h3⟩:=ah;refine ⟨rfl,fun _ _ _ _ hr=>?_⟩;refine tk fun x0=>?_
 let u0:=ru x0 [1] (jN (qC (zD jP (jA 1) (j6 K (jH (kQ K) (j6 K (jA 0) rfl) (jH (jM K) (jA 2) jD)) rfl) (vJ (cX K) (by rfl) T.xy bx (jC (jA 3) jE)))))
 refine ⟨_,(jI (bO (i:=3) ["step","canal"] (vZ 1 [0]) CS.nd rfl (.inl rfl) rfl (v9 (kK lY)) (cps 1 [0]) (BC (jH (jM K) (jA 2) jD)) (fun _ _ _ _ _=>(kT (i:=0) (show List.Nodup (["step","canal"]:List Str) from by trivial) rfl (.inl rfl))) (fun _ _ _ _ _=>zN) (fun _ _ _ _ _=>(qC (jC (j6 K (jH (kQ K) (j6 K (jA 1) rfl) (jH (jM K) (jA 0) jD)) rfl) (jC (jH (jM K) (jA 0) jD) jE)))))
   u0.h),?_⟩
 try dsimp only [jY,jX]
 cases e;have be:=hc;obtain ⟨dx,rl,ll,nl,fs,rs,ls,nv,hx,hf,a3,Z,a9,hR,hL,hN,d1,d2,d3⟩:=hc;have a6:=h3.1;have h8:=ok.le;refine (jJ (SqT.of h1) rfl (⟨st,rfl,⟨_,SqT.of h2⟩,fun bt S=>?_⟩));refine VD (K:=K) (a:=st) (xs:=us) (caps:=[some (.ref x)]) (fun i zs Hi=>AllAt (SAt Hi) zs ((y.2.take i).map fun p=>(QA L p.1,p.2))) S h2 AllAt.nil ?_ ?_
 ·rintro i v zs Hi hv hi an I hY G;obtain ⟨p,hp,tp,rfl,O⟩:=h3.2 i v hv;obtain ⟨l,Y⟩:∃l,L[p.1]?=some l:=⟨_,aa (ok.lt p (ag hp))⟩;obtain ⟨w,hw,yl,rfl,dl,hl⟩:=hL.get Y;refine yZ (qG (j8 (I _ _ hx) (T.clN) (T.xg) (hf.2.1) (jJ (SqT.of (I _ _ O)) rfl (k7 (so (I _ _ Z)) (qF hw) (j8 (I _ _ hl) (T.cl l.kd) (T.vp l.kd) (dH l.kd _ _ _ _ _) (jJ (SqT.of (I _ _ O)) rfl (⟨zz2,fun t3 al=>?_⟩)))))));have u:=jK al (.tup [V.str l.name,V.str (bL p.2)]);refine JP S I hY an (by lia) u ?_;rw [aK,hp,aJ];refine ((G.mono (SAt.same u)).snoc (v:=.ref t3) (x:=(QA L p.1,p.2)) ⟨t3,rfl,?_⟩).mono (SAt.put (u _ _ hY));rw [jF];unfold QA;rw [Y];rfl
 rintro zs Hg J am a8 G;rw [a6,aW] at G;obtain ⟨r,hr⟩:∃r,R[a]?=some r:=⟨_,aa a4⟩;obtain ⟨w,hw,xr,rfl,dr,gs,a0,hg⟩:=hR.get hr;refine (j8 (J _ _ hx) (T.clN) (T.xf) (hf.1) (jJ (SqT.of (J _ _ h1)) rfl (jQ rl _ _ (jB rfl (kB (by rw [ha]) (so (J _ _ a3)) (qF hw) (j8 (J _ _ a0) (T.clR) (T.zr) (hg.1) (⟨bt,zs,rfl,.inl ⟨so am,fun s2 a5=>?_⟩⟩)))))));have u1:=jK a5 (.tup zs);refine ⟨zz4,fun t4 M=>?_⟩;have u2:=jK M (.tup [V.str "come",V.str nm,V.str r.name,V.ref s2]);have w2:=(J.trans u1).trans u2;refine q t4 _ w2 ((J.trans u1).free M) ⟨s2,zs,?_,u2 _ _ jF,(G.mono (SAt.same u1)).mono (SAt.same u2)⟩;rw [jF];unfold ZM;rw [hr];rfl
theorem gR:jV 3 ["canal","day","more","some","r","told"] tR:=jU
include T in
theorem NC (F:kG K "_law_weather_of" tR f fd) : FnOk P w K mg base jT 1 f fd ["canal","day","more"] (DC (jG cP cB cU) cR cN):=by
 refine F.ok2 gR fun vs H Q E h=>?_
 refine cH h fun x d G R L N h=>?_
 refine gF h fun e_ bv am b1 b9 a5 b8 q=>?_
 subst e_;refine ⟨rfl,fun _ _ _ _ hr=>?_⟩;refine tk fun x0=>?_
 let u0:=ru x0 [1,0,2] (kU (yH (zR aQ aY aZ J7 (jA 3) (jC (qC (jC (jL kS (jH (jM K) (jA 5) jD) (jL qU (jA 2) (jL zY (jA 4) jD))) (jC (jL zA (jH (jM K) (jA 5) jD) (yX (xV rfl) (by rfl) T.wr gr (jC (jH (jM K) (jA 5) jD) (jC (jA 2) jE)))) jE))) jE))))
 let u1:=ru x0 [1,0,1] (fR (kE (kA bB (jA 1) (qR K T.xk (j6 K (jA 0) rfl))) (kU (jW 5 gR.nd (jH (kQ K) (jH (kQ K) (j6 K (jA 0) rfl) (jA 1)) (jA 4)))) kI)
   u0.h)
 let u2:=ru x0 [1,0,0] (jI (jW 5 gR.nd (qC (jC jD (jC jD jE))))
   u1.h)
 let u3:=ru x0 [1] (jI (yU bj rfl (J6 (by rfl) T.xn (jC (qR K T.xk (j6 K (jA 0) rfl)) jE)) (kT (i:=4) gR.nd rfl (.inl rfl))
    u2.h)
   (jN (vJ (cX K) (by rfl) T.xy bx (jC (jA 3) jE))))
 refine ⟨_,(jI (jW 3 gR.nd (qA jE))
   u3.h),?_⟩
 try dsimp only [jY,jX]
 obtain ⟨dx,rl,ll,nl,gs,rs,ls,nv,hx,hf,b0,cd,a4,hR,hL,hN,d1,d2,d3⟩:=id bv;have r8:=am.r8;have b5:=hR.1;have b4:=hN.1;refine ⟨aN _,fun l a7=>?_⟩;have u0:=jK a7 (.lst []);refine (j8 (u0 _ _ hx) (T.clN) (T.xf) (hf.1) (⟨rl,jB rfl (⟨.inl (so (u0 _ _ b0)),jB rfl (⟨by lia,by lia,Z1 (n:=((rs.length:Nat):Int).toNat) (fun i σ Hi=>∃(us:List V) (W:List (Int×Int)) (c4 c5:Option V),σ=[some (.ref x),some (.int d),some (.int G),some (.ref l),c4,c5]/\Hi l=some (.lst us)/\AllAt (QAt Hi) us W/\W.length=i/\(∀(j:Nat) (p:Int×Int),W[j]?=some p->d<(N.length:Int)->(J9 N d j).1<=p.1/\p.2<=(J9 N d j).2)/\(∀q∈W,0<=q.1/\0<=q.2)/\Same H Hi) (j0 ([]) ([]) none none (vD rfl jF AllAt.nil rfl (fun j p S=>by cases S) (fun q hq=>by cases hq) u0)) ?_ ?_⟩)⟩)⟩))
 ·rintro i σ Hi hi ⟨us,W,c4,c5,rfl,hl,hA,a3,Z,Y,sm⟩;rw [ay] at hi;rw [ck];have ah:0<=(J9 N d i).1/\0<=(J9 N d i).2:=by
   unfold J9
   by_cases hd:d<(N.length:Int)
   ·rw [if_pos hd];obtain ⟨O,J⟩:∃O,N[d.toNat]?=some O:=⟨_,aa (by lia)⟩;rw [ac (l:=N),J];show 0<=(O.getD i (0,0)).1/\0<=(O.getD i (0,0)).2;have a6:=am.night O (ag J);rw [ac,aa (show i<O.length by lia)];exact b1 O (ag J) _ (cw _)
   ·rw [if_neg hd];exact ⟨dq _,dq _⟩
  refine ⟨zz2,fun t0 bt=>?_⟩;have u1:=jK bt (.tup [V.int 0,V.int 0]);have M:=sm.trans u1;refine ⟨fun σ Hj=>∃tt:Addr,σ=[some (.ref x),some (.int d),some (.int G),some (.ref l),some (.int (i:Int)),some (.ref tt)]/\Hj tt=some (.tup [.int (J9 N d i).1,.int (J9 N d i).2])/\Hj l=some (.lst us)/\Same Hi Hj,?_,?_⟩
  ·refine (j8 (M _ _ hx) (T.clN) (T.xq) (hf.2.2.1) (⟨nl,jB rfl (⟨.inl (so (M _ _ a4)),_,_,rfl,rfl,jB rfl (?_)⟩)⟩))
   by_cases hd:d<(N.length:Int)
   case neg =>
    refine j9 (by lia) ⟨t0,(kB rfl ?_ (u1 _ _ hl) u1)⟩;unfold J9;rw [if_neg hd];exact jF
   obtain ⟨dn,rfl⟩:∃dn:Nat,d=(dn:Int):=⟨d.toNat,by lia⟩;obtain ⟨O,J⟩:∃O,N[dn]?=some O:=⟨_,aa (by lia)⟩;obtain ⟨v,hv,wn,qs,rfl,b2,b3,_⟩:=hN.get J;have a6:=am.night O (ag J);obtain ⟨p,hp⟩:∃p,O[i]?=some p:=⟨_,aa (by lia)⟩;obtain ⟨v2,br,tp,rfl,a0⟩:=b3.get hp;refine kX (by lia) (j8 (M _ _ hx) (T.clN) (T.xq) (hf.2.2.1) (k7 (so (M _ _ a4)) (qF hv) (k7 (so (M _ _ b2)) (qF br) (⟨tp,(kB rfl ?_ (u1 _ _ hl) u1)⟩))));have e:J9 N (dn:Int) i=p:=by
    unfold J9;rw [if_pos hd,ay,ac (l:=N),J];show O.getD i (0,0)=p;rw [ac,hp];rfl
   rw [e];exact M _ _ a0
  rintro σ Hj ⟨tt,rfl,al,an,a8⟩;generalize hP:J9 N d i=P at al ah;obtain ⟨p1,I⟩:=P;have m2:=ci (i:Int) (by decide:(2:Int)≠0);have m3:=bu (i:Int) (by decide:(0:Int)<2);refine (⟨.inl ⟨rfl,_,so an⟩,(jJ (SqT.of al) rfl (kD (⟨(by show (0:Int)<2;decide),⟨_,_,(kB rfl rfl (.inr ⟨by lia,by lia⟩) ⟨_,_,⟨rfl,rfl,?_⟩⟩)⟩⟩)))⟩);refine (jJ (SqT.of al) rfl (jJ (SqT.of al) rfl (⟨_,jB rfl (⟨_,_,(kB rfl rfl zz2 (fun tp a0=>?_))⟩)⟩)));have v:=jK a0 (.tup [V.int (p1+G*((i:Int)%2)),V.int (I - (if G<I then G else I))]);refine jQ l _ _ (jO rfl rfl (v _ _ an) (vN (by rw [hA.1];lia)) ?_);refine jQ (us++[.ref tp]) (W++[(p1+G*((i:Int)%2),I - (if G<I then G else I))]) _ (jB rfl (j5 jF ?_ (by rw [af,a3];rfl) (fun j p S hd=>?_) (fun q hq=>?_) (qY a7 ((sm.trans a8).trans v))))
  ·exact ((hA.mono (QAt.same (a8.trans v))).snoc (v:=.ref tp) (x:=(p1+G*((i:Int)%2),I - (if G<I then G else I))) ⟨tp,rfl,jF⟩).mono (QAt.put (v _ _ an))
  ·by_cases be:j<W.length
   ·rw [aw be] at S;exact Z j p S hd
   ·rw [ar (by lia)] at S;have h0:j - W.length=0:=by
     have:=(ad.mp S).1;rw [aE] at this
     lia
    rw [h0] at S;cases S;rw [show j=i by lia,hP];have ah:0<=p1/\0<=I:=ah;have bl:0<=G*((i:Int)%2):=Int.mul_nonneg a5 m2;show p1<=p1+G*((i:Int)%2)/\I - (if G<I then G else I)<=I
    split<;>lia
  ·rcases aI.mp hq with h|h
   ·exact Y q h
   ·rw [av.mp h];have ah:0<=p1/\0<=I:=ah;have bl:0<=G*((i:Int)%2):=Int.mul_nonneg a5 m2;show 0<=p1+G*((i:Int)%2)/\0<=I - (if G<I then G else I)
    split<;>lia
 rintro σ Hi ⟨us,W,c4,c5,rfl,hl,hA,a3,Z,Y,sm⟩;rw [ay] at a3;refine (⟨l,us,rfl,.inl ⟨so hl,fun wt a9=>?_⟩⟩);have u:=jK a9 (.tup us);refine q wt us W _ (sm.trans u) (sm.free a9) jF (hA.mono (QAt.same u)) (by lia) (fun hd=>?_) Y;unfold b7;rw [dw];intro j S;have S:=bp.mp S;obtain ⟨p,hp⟩:∃p,W[j]?=some p:=⟨_,aa S⟩;obtain ⟨h1,h2⟩:=Z j p hp hd;have e:J9 N d j=(N.getD d.toNat []).getD j (0,0):=by unfold J9;rw [if_pos hd]
 rw [e] at h1 h2;unfold dW;rw [show W.getD j (0,0)=p by rw [ac,hp];rfl,aB h1,aB h2];rfl
theorem gO:jV 5 ["canal","names","day","cell","unit","what","k","amount","name"] tE:=jU
include T in
theorem MZ (F:kG K "_law_entry" tE f fd) (uf:Def P w K mg base 1 "_law_weather_of" ["canal","day","more"] [] (DC (jG cP cB cU) cR cN)):FnOk P w K mg base jT 2 f fd ["canal","names","day","cell","unit"] (EF (jG cP cB cU) cR cN):=by
 refine F.ok2 gO fun vs H Q E h=>?_
 obtain ⟨x,G,zs,d,c,u,R,L,N,rfl,a3,O,br,ce,cd,bl,b2,J,S,be,q⟩:=h;refine ⟨rfl,fun _ _ _ _ hr=>?_⟩;refine tk fun M=>?_
 let u0:=ru M [4,0,0] (jN (qC (jC jP (jC (j6 K (jH (kQ K) (j6 K (jA 0) rfl) (jL zY (jA 6) (qR K T.xk (j6 K (jA 0) rfl)))) rfl) jE))))
 let u1:=ru M [7] (jI (kE (kA kM (jA 5) jD) (jN (qC (kH jP (jA 8) (jA 7)))) kI)
   (jN (qC (kH jP (jA 8) (jL zY (jL dF (jA 3) jD) (jL IX jD jD))))))
 let u2:=ru M [6] (jI (jW 8 gO.nd (j6 K (jH (kQ K) (j6 K (jA 0) rfl) (jL zY (jA 6) (qR K T.xk (j6 K (jA 0) rfl)))) rfl))
   u1.h)
 let u3:=ru M [5] (jI (kE (kA kM (jA 5) jD) (jN (qC (jC jP (jC (jR uf hr rfl (kH (jA 0) (jA 2) (jA 7))) jE)))) kI)
   u2.h)
 let u4:=ru M [4] (jI (kE (kA bB (jA 5) jD) u0.h kI)
   u3.h)
 let u5:=ru M [3] (fR (kE (PW.pt (iR (kA bB (jA 5) jD) (iI (kA pG (qR K T.xk (jA 1)) jD)))) (jN (qC (jC jP (jC (jH (kQ K) (jA 1) (jL zY (jA 6) (qR K T.xk (jA 1)))) jE)))) kI)
   u4.h)
 let u6:=ru M [2] (jI (jW 7 gO.nd (jL kS (jL qU (jL zY (jL dF (jA 3) jD) jD) (jA 4)) (jL zY (jL dF (jA 3) jD) jD)))
   u5.h)
 let u7:=ru M [1] (jI (jW 6 gO.nd (jL zY (jL dF (jA 3) jD) jD))
   u6.h)
 refine ⟨_,(jI (jW 5 gO.nd (jL zY (jA 3) jD))
   u7.h),?_⟩
 try dsimp only [jY,jX]
 obtain ⟨dx,rl,ll,nl,gs,rs,ls,nv,hx,hf,a4,a5,b8,hR,hL,hN,d1,d2,d3⟩:=id a3;have r8:=O.r8;have l8:=O.l8;have b5:=hR.1;have b4:=hL.1;have cn:(10:Int) ^ Int.toNat 12=1000000000000:=by trivial
 have w0:=ci c (by decide:(8:Int)≠0);have w1:=bu c (by decide:(0:Int)<8);have k0:=ci (c / 8) (by decide:(97:Int)≠0);have k1:=bu (c / 8) (by decide:(0:Int)<97);have a0:=ci (c / 776) (by decide:(3:Int)≠0);have a1:=bu (c / 776) (by decide:(0:Int)<3);have b0:=ci (c / 2328) (by decide:(2:Int)≠0);have b1:=bu (c / 2328) (by decide:(0:Int)<2);obtain ⟨m1,m2⟩:=dL a0 (show c / 776%3<=2 by lia) b2 J (by decide);refine (kD (⟨(by show (0:Int)<8;decide),?_⟩));refine (kD (⟨⟨by decide,by decide⟩,⟨_,_,(kB rfl rfl (by show (0:Int)<97;decide) ?_)⟩⟩));refine (kD (⟨⟨by decide,by decide⟩,⟨_,_,(kB rfl rfl (by show (0:Int)<3;decide) (kD (⟨.inl ⟨by lia,by lia⟩,(kD (⟨⟨by decide,by decide⟩,⟨_,_,(kB rfl rfl (by show (0:Int)<2;decide) ⟨_,_,⟨rfl,rfl,?_⟩⟩)⟩⟩))⟩)))⟩⟩));have Y:0<=c / 776%3*u+c / 2328%2:=by lia
 have a6:c / 776%3*u+c / 2328%2<=100000000000:=by lia
 try dsimp only
 generalize c / 776%3*u+c / 2328%2=am at Y a6 ⊢;generalize c / 8%97=k at k0 k1 ⊢;generalize c%8=wh at w0 w1 ⊢;have cj:(zs.map V.str).length=zs.length:=ae _;refine ⟨fun σ Hj=>σ=[some (.ref x),some (.ref G),some (.int d),some (.int c),some (.int u),some (.int wh),some (.int k),some (.int am),none]/\Hj=H,?_,?_⟩
 ·refine (kD (jB rfl (bG (fun _=>?_) (fun _=>⟨rfl,rfl⟩))));refine (⟨G,jB rfl (⟨.inl (so S),_,_,rfl,rfl,jB rfl (bG (fun h=>?_) (fun _=>⟨rfl,rfl⟩))⟩)⟩);have h:=bc h;have ah:(0:Int)<(((zs.map V.str).length:Nat):Int):=by lia
  obtain ⟨z,hz,a9⟩:=YI zs (ci k (by lia:(((zs.map V.str).length:Nat):Int)≠0)) (by have:=bu k ah;lia);refine (⟨G,jB rfl (⟨.inl (so S),⟨_,_,(kB rfl rfl ah (k7 (so S) a9 (⟨zz2,fun t I=>?_⟩)))⟩⟩)⟩);obtain ⟨i,Z⟩:=xE hz;exact q t (.pas z) _ (jK I _) jF trivial (fun B e1 e2=>nA (i:=i) rfl (by show kJ B.zs z=some i;rw [e1];exact Z)) (fun _=>rfl) trivial
 rintro σ Hj ⟨rfl,rfl⟩;refine (kD (jB rfl (bG (fun _=>?_) (fun _=>?_))))
 ·have hp:(0:Int)<((ls.length:Nat):Int):=by lia
  obtain ⟨j,ej,lj⟩:=xG (a:=k) hp;obtain ⟨l,hl⟩:∃l,L[j]?=some l:=⟨_,aa (by lia)⟩;obtain ⟨v,hv,yl,rfl,dl,a7⟩:=hL.get hl;refine (j8 hx (T.clN) (T.xg) (hf.2.1) (j8 hx (T.clN) (T.xg) (hf.2.1) (⟨ll,jB rfl (⟨.inl (so a5),⟨_,_,(kB rfl rfl hp ?_)⟩⟩)⟩)))
  try dsimp only
  rw [ej];refine k7 (so a5) (qF hv) (j8 a7 (T.cl l.kd) (T.vp l.kd) (dH l.kd _ _ _ _ _) (⟨zz2,fun t I=>?_⟩));obtain ⟨i,Z⟩:=xE (zs:=L.map (·.name)) (n:=l.name) (aO.mpr ⟨l,ag hl,rfl⟩);exact q t (.lt l.name) _ (jK I _) jF trivial (fun B e1 e2=>nA (i:=i) rfl Z) (fun _=>rfl) trivial
 refine ⟨rfl,jB rfl (bG (fun _=>?_) (fun _=>?_))⟩
 ·refine (JC x d am R L N (JD rfl a3 O br bl Y a6 (fun wt us W H1 s1 b3 bv hA bt an al=>⟨zz2,fun t I=>?_⟩)));have v:=jK I (.tup [V.str "night",V.ref wt]);refine q t (.night W) _ (s1.trans v) ⟨wt,us,jF,v _ _ bv,hA.mono (QAt.same v)⟩ (by show W.length<=100;lia) (fun B e1 e2=>?_) (fun _=>rfl) al;show (if W.length=R.length then (if B.d<(N.length:Int)/\b7 W (N.getD B.d.toNat [])=false then 8 else 0) else 7)=0;rw [if_pos bt,e2,if_neg fun z=>by rw [an z.1] at z;exact nomatch z.2]
 have hp:(0:Int)<((rs.length:Nat):Int):=by lia
 obtain ⟨j,ej,lj⟩:=xG (a:=k) hp;obtain ⟨r,hr⟩:∃r,R[j]?=some r:=⟨_,aa (by lia)⟩;obtain ⟨v,hv,xr,rfl,dr,b9,a8,hg⟩:=hR.get hr;obtain ⟨i,Z⟩:=xE (zs:=R.map (·.name)) (n:=r.name) (aO.mpr ⟨r,ag hr,rfl⟩);refine (j8 hx (T.clN) (T.xf) (hf.1) (j8 hx (T.clN) (T.xf) (hf.1) (⟨rl,jB rfl (⟨.inl (so a4),⟨_,_,(kB rfl rfl hp ?_)⟩⟩)⟩)))
 try dsimp only
 rw [ej];refine k7 (so a4) (qF hv) (j8 a8 (T.clR) (T.zr) (hg.1) (?_));refine ⟨rfl,jB rfl (bG (fun _=>?_) (fun _=>?_))⟩
 ·refine (⟨zz3,fun t I=>?_⟩);exact q t (.take r.name am) _ (jK I _) jF trivial (fun B e1 e2=>nA (i:=i) rfl Z) (fun _=>rfl) Y
 refine (kD (⟨⟨by decide,by decide⟩,⟨_,_,(kB rfl rfl ⟨by decide,by decide,by decide⟩ ⟨_,_,(jO rfl rfl (show (0:Int)<10 ^ Int.toNat 12 from by trivial) zz3 (fun t I=>?_))⟩)⟩⟩));exact q t (.rain r.name _) _ (jK I _) jF trivial (fun B e1 e2=>nA (i:=i) rfl Z) (fun _=>rfl) (ci _ (by trivial))
theorem PZ:jV 1 ["found"] tS:=jU
include T in
theorem ND (F:kG K "_law_whole" tS f fd) : FnOk P w K mg base jT 1 f fd ["found"] (GV):=by
 refine F.ok2 PZ fun vs H Q E h=>?_
 obtain ⟨i,rfl,q⟩:=h;refine ⟨rfl,fun _ _ _ _ G=>?_⟩;refine ⟨_,(jN (ZN (yX (fG (K:=K)) (by rfl) T.xl cm (jC (jA 0) (jC (fT (v:=.ty "int") rfl T.wu gt rfl) jE))) (bV (o7 (yX (fG (K:=K)) (by rfl) T.xl cm (jC (jA 0) (jC (fT (v:=.ty "bool") rfl T.uh PyProof.Rows.boot_bool rfl) jE))))))),?_⟩
 try dsimp only [jY,jX]
 refine (qO _ _ _ _ _ (jO rfl rfl (TyOf.int i) (iG "int") ⟨true,⟨rfl,qG ?_⟩⟩));exact (qO _ _ _ _ _ (jO rfl rfl (TyOf.int i) SC ⟨false,⟨rfl,q⟩⟩))
theorem CV:jV 2 ["waters","told","one"] tJ:=jU
include T in
theorem M4 (F:kG K "_law_poured" tJ f fd) (vi:Def P w K mg base 1 "_law_whole" ["found"] [] (GV)):FnOk P w K mg base jT 2 f fd ["waters","told"] (FJ):=by
 refine F.ok2 CV fun vs H Q E h=>?_
 obtain ⟨J,tl,ms,zs,qs,rfl,Y,S,an,hP,a0,a6,a4,al,q⟩:=h;refine ⟨rfl,fun _ _ _ _ hr=>?_⟩;refine tk fun Z=>?_
 let u0:=ru Z [0,0,4] (kU (BB (jL kS (jH (kQ K) (jA 0) (jH (jM K) (jA 2) jD)) (jH (jM K) (jA 2) jD)) (BD (jA 0) (jH (jM K) (jA 2) jD) fJ)))
 let u1:=ru Z [0,0,3] (jI (BB (jL zA (jH (kQ K) (jA 0) (jH (jM K) (jA 2) jD)) (jH (jM K) (jA 2) jD)) (BD (jA 0) (jH (jM K) (jA 2) jD) fJ))
   u0.h)
 let u2:=ru Z [0,0,2] (jI (kE (kA iY (yX (EW rfl) (by rfl) T.jm PyProof.Rows.boot_max (jC (jH (jM K) (jA 2) jD) (jC (jH (jM K) (jA 2) jD) jE))) (qR K T.xk (jA 0))) (jN vW) kI)
   u1.h)
 let u3:=ru Z [0,0,1] (jI (kE (PW.pt (y6 (J8 (vQ (jR vi hr rfl (jC (jH (jM K) (jA 2) jD) jE)))) (y6 (kA iX (jH (jM K) (jA 2) jD) jD) (y6 (kA kM (jH (jM K) (jA 2) jD) (jH (jM K) (jA 2) jD)) (QM (kA bB (yX (xV rfl) (by rfl) T.wr gr (jC (jH (jM K) (jA 2) jD) (jC (jH (jM K) (jA 2) jD) jE))) jD)))))) (jN vW) kI)
   u2.h)
 let u4:=ru Z [0,0,0] (jI (kE (PW.pt (y6 (J8 (vQ (yX (fG (K:=K)) (by rfl) T.xl cm (jC (jA 2) (jC (fT (v:=.ty "tuple") rfl T.xy bx rfl) jE))))) (y6 (kA JU (qR K T.xk (jA 2)) jD) (y6 (J8 (vQ (jR vi hr rfl (jC (jH (jM K) (jA 2) jD) jE)))) (QM (J8 (vQ (jR vi hr rfl (jC (jH (jM K) (jA 2) jD) jE))))))))) (jN vW) kI)
   u3.h)
 refine ⟨_,(jI (yU bj rfl (yE (jA 1)) (kT (i:=2) CV.nd rfl (.inl rfl))
    u4.h)
   (jN (zC iY (yX (VI rfl) (by rfl) T.wr gr (jC (Z3 (oA K) (jA 0) Z4 (ZV (iW iO jD))) jE)) jD))),?_⟩
 try dsimp only [jY,jX]
 refine ⟨tl,rfl,⟨_,so S⟩,ZJ (K:=K) (a:=tl) (xs:=zs) (fun i σ Hi=>∃c:Option V,σ=[some (.ref J),some (.ref tl),c]/\Hi J=some (.lst ((kC ms (qs.take i)).map V.int))/\Keep J H Hi)
  ⟨none,rfl,Y,Keep.refl _ _⟩ (fun i σ Hi _ ⟨_,_,_,k⟩=>so (k _ _ an S)) ?_ ?_⟩
 ·rintro i v σ Hi hv ⟨c,rfl,I,kp⟩;obtain ⟨a,s,tt,m,rfl,hq,hT,a5,a7⟩:=hP.2 i v hv;have O:a≠J:=fun z=>by rw [z,Y] at hT;cases hT
  have el:(kC ms (qs.take i)).length=ms.length:=yB _ _;have G:=kp _ _ O hT;obtain ⟨o1,o2⟩:=a0 _ (ag hq);have o1:0<m:=o1;have o2:s≠tt:=o2;generalize ah:kC ms (qs.take i)=m1 at I el;refine (qO _ _ _ _ _ (jO rfl rfl (TyOf.tup G) (iG "tuple") (jB rfl (qK (⟨a,jB rfl (⟨.inr (SqT.of G),rfl,jB rfl (JV rfl (j0 a _ _ _ (jO rfl rfl (SqT.of G) rfl (jB rfl (jB rfl (qK (j0 a _ _ _ (jO rfl rfl (SqT.of G) rfl (jB rfl (jB rfl (qK ?_)))))))))))⟩)⟩)))));refine (j0 a _ _ _ (jO rfl rfl (SqT.of G) rfl (jB rfl (jB rfl (qK (j0 a _ _ _ (jO rfl rfl (SqT.of G) rfl ⟨_,_,⟨rfl,rfl,jB rfl (j9 (by lia) (j0 a _ _ _ (jO rfl rfl (SqT.of G) rfl (j0 a _ _ _ (j5 rfl rfl (SqT.of G) rfl rfl (jB rfl (j9 (fun e=>o2 (by have:=V.int.inj e;lia)) (j0 a _ _ _ (jO rfl rfl (SqT.of G) rfl (j0 a _ _ _ (jO rfl rfl (SqT.of G) rfl ⟨_,jB rfl (⟨_,_,rfl,rfl,jB rfl (j9 (by split<;>lia) ?_)⟩)⟩)))))))))))⟩⟩)))))));refine (j0 a _ _ _ (jO rfl rfl (SqT.of G) rfl (j0 a _ _ _ (jO rfl rfl (SqT.of G) rfl ⟨_,jB rfl (⟨J,jB rfl (⟨.inl (so I),_,_,rfl,rfl,jB rfl (j9 (by rw [ae,el];split<;>lia) ?_)⟩)⟩)⟩))));refine (j0 a _ _ _ (jO rfl rfl (SqT.of G) rfl (j0 J _ _ _ (jO rfl rfl (so I) (yT (by lia)) (j0 a _ _ _ (jO rfl rfl (SqT.of G) rfl ⟨_,_,⟨rfl,rfl,(j0 a _ _ _ (jO rfl rfl (SqT.of G) rfl (j0 J _ _ _ (jO rfl rfl I (fU (by rw [ae];lia)) ?_))))⟩⟩))))))
  try dsimp only
  rw [fA];have M:∀o,upd Hi J o a=some (.tup [V.int (s:Int),V.int (tt:Int),V.int m]):=fun o=>by rw [j7 O];exact G
  refine (j0 a _ _ _ (jO rfl rfl (SqT.of (M _)) rfl (j0 J _ _ _ (jO rfl rfl (so jF) (yT (by rw [cv];lia)) (j0 a _ _ _ (jO rfl rfl (SqT.of (M _)) rfl ⟨_,_,⟨rfl,rfl,(j0 a _ _ _ (jO rfl rfl (SqT.of (M _)) rfl (j0 J _ _ _ (jO rfl rfl jF (fU (by rw [ae,cv];lia)) ?_))))⟩⟩))))))
  try dsimp only
  rw [fA];refine jB rfl (⟨?_,(kp.upd _).upd _⟩);rw [jF,mT ms qs i _ hq,ah];rfl
 rintro σ H1 ⟨c,rfl,I,kp⟩;rw [hP.1,aW] at I;have el:(kC ms qs).length=ms.length:=yB _ _;refine (⟨1,rfl,-1,rfl,J,jB rfl (⟨so I,fun sl a3=>?_⟩)⟩);rw [WX (by lia)];have u:=jK a3 (.lst (((kC ms qs).take ((kC ms qs).length - 1)).map V.int));refine ⟨sl,jB rfl (⟨so jF,by rw [bd];lia,fun m hm _=>?_⟩)⟩;have am:0<=m:=by
  obtain ⟨j,hj,e⟩:=iw.mp hm;rw [bd] at hj;rw [List.getElem_take] at e;have:=al j (by lia);rw [ac,aa (show j<(kC ms qs).length by lia)] at this;have h:(kC ms qs)[j]=m:=e
  change 0<=(kC ms qs)[j] at this
  lia
 refine ⟨_,_,rfl,rfl,?_⟩;show Q (.bl (decide (0<=m))) _;rw [aB am];exact q _ (kp.trans (Keep.of u)) (u _ _ I)
theorem gQ:jV 3 ["canal","way","place","at","k","lock"] tL:=jU
include T in
theorem M6 (F:kG K "_law_reach_by" tL f fd) : FnOk P w K mg base jT 1 f fd ["canal","way","place"] (ED (jG cP cB cU) cR cN):=by
 refine F.ok2 gQ fun vs H Q E h=>?_
 refine ZA h fun x t y p D R L N h=>?_
 refine JZ h fun e_ hc Y M hp q=>?_
 subst e_;refine ⟨rfl,fun _ _ _ _ hr=>?_⟩;refine tk fun x0=>?_
 let u0:=ru x0 [2,0,0] (jI (jW 5 gQ.nd (jH (kQ K) (j6 K (jA 0) rfl) (jH (HW K) (jH (jM K) (jH (jM K) (jA 1) jD) (jA 4)) jD)))
   (kU (jW 3 gQ.nd (jL zA (jL kS (j6 K (jA 5) rfl) (j6 K (jA 5) rfl)) (jA 3)))))
 let u1:=ru x0 [2] (jI (yU bj rfl (J6 (by rfl) T.xn (jC (jA 2) jE)) (kT (i:=4) gQ.nd rfl (.inl rfl))
    u0.h)
   (jN (jA 3)))
 let u2:=ru x0 [1] (jI (jW 3 gQ.nd (jH (jM K) (jA 1) jD))
   u1.h)
 refine ⟨_,(jI (kE (kA kM (jA 2) (qR K T.xk (jH (jM K) (jA 1) jD))) (jN (iW iO jD)) kI)
   u2.h),?_⟩
 try dsimp only [jY,jX]
 have an:=hc;obtain ⟨dx,rl,ll,nl,fs,rs,ls,nv,hx,hf,a3,O,am,hR,hL,hN,d1,d2,d3⟩:=hc;obtain ⟨al,st,us,e,S,h2,h3⟩:=id Y;cases e;refine (jJ (SqT.of S) rfl (⟨st,jB rfl (⟨.inr (SqT.of h2),rfl,jB rfl (?_)⟩)⟩))
 by_cases h:p=y.2.length
 ·refine kX (bf V.int (by rw [h3.1];lia)) ?_;rw [show qP L y p = -1 from if_pos h] at q;exact jB rfl (q)
 ·refine j9 (fun z=>h (by have:=V.int.inj z;rw [h3.1] at this;lia)) ?_;have a0:=M.le;rw [show qP L y p=(vC L y.1 y.2).getD p 0 from if_neg h] at q;refine (jJ (SqT.of S) rfl (?_));refine (jB rfl (⟨by lia,by lia,Z1 (n:=((p:Nat):Int).toNat) (fun i σ Hi=>∃c4 c5:Option V,σ=[some (.ref x),some (.ref t),some (.int (p:Int)),some (.int ((vC L y.1 y.2).getD i 0)),c4,c5]/\Hi=H) ⟨none,none,rfl,rfl⟩ ?_ ?_⟩))
  ·rintro i σ Hi hi ⟨c4,c5,rfl,rfl⟩;rw [ay] at hi;rw [ck];obtain ⟨J,G⟩:∃J,y.2[i]?=some J:=⟨_,aa (by lia)⟩;obtain ⟨v,hv,t3,rfl,Z⟩:=h3.get G;have ah:=M.lt J (ag G);obtain ⟨l,I⟩:∃l,L[J.1]?=some l:=⟨_,aa ah⟩;obtain ⟨w,hw,z,rfl,dl,hl⟩:=hL.get I;refine (j8 hx (T.clN) (T.xg) (hf.2.1) (jJ (SqT.of S) rfl (jJ (SqT.of h2) (qF hv) (.inr (.inl (jJ (SqT.of Z) rfl (k7 (so O) (qF hw) (?_))))))));refine (j8 hl (T.cl l.kd) (T.wx l.kd) (dO l.kd _ _ _ _ _) (j8 hl (T.cl l.kd) (T.vc l.kd) (dI l.kd _ _ _ _ _) (kD (kD (?_)))));refine ⟨some (.int (i:Int)),some (.ref z),?_,rfl⟩;rw [<- WS M G I];rfl
  ·rintro σ Hi ⟨c4,c5,rfl,rfl⟩;rw [ay];exact (q)
theorem wG:jV 3 ["canal","ways","state","lie","r"] gM:=jU
include T in
theorem MU (F:kG K "_law_bounds" gM f fd) (jh:Def P w K mg base 1 "_law_reach_by" ["canal","way","place"] [] (ED (jG cP cB cU) cR cN)):FnOk P w K mg base jT 2 f fd ["canal","ways","state"] (HD (jG cP cB cU) cR cN):=by
 refine F.ok2 wG fun vs H Q E h=>?_
 obtain ⟨x,wl,st,us,ys,d,ms,pl,D,R,L,N,rfl,hG,b3,b0,q⟩:=h;refine ⟨rfl,fun _ _ _ _ hr=>?_⟩;refine tk fun x0=>?_
 let u0:=ru x0 [1,0,1] (kU (kE (kA pG (qR K T.xk (rJ ["at","r"] [4] (v9 (kK gM)) (yE (jA 3)) (fun _ _ _ _ _=>(fQ (kA kM (jA 0) (jA 1)))) (fun _ _ _ _ _=>(jA 0)))) (j6 K (jH (kQ K) (j6 K (jA 0) rfl) (jA 4)) rfl)) (jN vW) kI))
 let u1:=ru x0 [1,0,0] (jI (kE (kA pG (jH (jM K) (jH (jM K) (jA 2) jD) (jA 4)) (j6 K (jH (kQ K) (j6 K (jA 0) rfl) (jA 4)) rfl)) (jN vW) kI)
   u0.h)
 let u2:=ru x0 [1] (jI (yU bj rfl (J6 (by rfl) T.xn (jC (qR K T.xk (j6 K (jA 0) rfl)) jE)) (kT (i:=4) wG.nd rfl (.inr rfl))
    u1.h)
   (jN vW))
 refine ⟨_,(jI (bO (i:=3) ["k","canal","ways","state"] (vZ 1 [0,1,2]) wG.nd rfl (.inl rfl) rfl (v9 (kK gM)) (cps 1 [0,1,2]) (J6 (by rfl) T.xn (jC (qR K T.xk (jA 1)) jE)) (fun _ _ _ _ _=>(kT (i:=0) (show List.Nodup (["k","canal","ways","state"]:List Str) from by trivial) rfl (.inl rfl))) (fun _ _ _ _ _=>zN) (fun _ _ _ _ _=>(jR jh hr rfl (kH (jA 1) (jH (kQ K) (jA 2) (jA 0)) (jH (jM K) (jH (jM K) (jA 3) jD) (jA 0))))))
   u2.h),?_⟩
 try dsimp only [jY,jX]
 obtain ⟨hc,be,a5,hA,bt,I,b9⟩:=id hG;obtain ⟨wt,pt,ah,b1,bv⟩:=id bt;have b2:=hc;obtain ⟨dx,rl,ll,nl,fs,rs,ls,nv,hx,hf,an,c0,b8,hR,hL,hN,d1,d2,d3⟩:=hc;have r8:=be.r8;have cr:=hA.1;have cd:=I.n10;have hpl:=I.len;have co:=hR.1;have b5:=FR L ys pl;refine (⟨wl,jB rfl (⟨.inl (so a5),jB rfl (⟨by lia,by lia,fun J M=>?_⟩)⟩)⟩);refine m9 (n:=((us.length:Nat):Int).toNat) (caps:=[some (.ref x),some (.ref wl),some (.ref st)]) (fun i zs _=>zs=((vT L ys pl).take i).map V.int) M rfl ?_ ?_
 ·rintro i zs Hi hi a8 sm hY hz;rw [ay,hA.1] at hi;rw [ck];obtain ⟨y2,Z⟩:∃y,ys[i]?=some y:=⟨_,aa hi⟩;obtain ⟨p2,a0⟩:∃p,pl[i]?=some p:=⟨_,aa (by rw [I.len];exact hi)⟩;obtain ⟨v2,S,al⟩:=hA.get Z;obtain ⟨t2,cn,cz,rfl,cC,cj,c1⟩:=id al;refine yZ (qG (k7 (so (sm _ _ a5)) (qF S) (jJ (SqT.of (sm _ _ ah)) rfl (jJ (SqT.of (sm _ _ bv)) (qF (v:=.int (p2:Int)) (by rw [ap,a0];rfl)) (ZU x t2 y2 p2 D R L N (j5 rfl (b2.same sm) (WyAt.same sm _ _ al) (I.ok y2 (ag Z)) (I.le i y2 p2 Z a0) (JP M sm hY a8 (by lia) (Same.refl _) ?_)))))));rw [hz,aK,XH Z a0,aJ];rfl
 rintro zs H2 s2 hY a8 hz;rw [ay,hA.1,bn (by rw [FR];exact ao _)] at hz;subst hz;refine (j8 (s2 _ _ hx) (T.clN) (T.xf) (hf.1) (⟨rl,jB rfl (⟨.inl (so (s2 _ _ an)),jB rfl (⟨by lia,by lia,Z1 (n:=((rs.length:Nat):Int).toNat) (fun i σ Hi=>∃c4,σ=[some (.ref x),some (.ref wl),some (.ref st),some (.ref J),c4]/\Same H2 Hi) ⟨none,rfl,Same.refl _⟩ ?_ ?_⟩)⟩)⟩))
 ·rintro i σ Hi hi ⟨c4,rfl,s3⟩;rw [ay] at hi;rw [ck];have G:=s2.trans s3;obtain ⟨r,hr⟩:∃r,R[i]?=some r:=⟨_,aa (by lia)⟩;obtain ⟨v,hv,y,rfl,dy,ce,hy,hg⟩:=hR.get hr;have h1:=b3 i r hr;have h2:=b0 i r hr;refine (jJ (SqT.of (G _ _ ah)) rfl (jJ (SqT.of (G _ _ b1)) (yT (by lia)) (j8 (G _ _ hx) (T.clN) (T.xf) (hf.1) (k7 (so (G _ _ an)) (qF hv) (j8 (G _ _ hy) (T.clR) (T.zn) (hg.2.2.1) (kD (jB rfl (j9 (by show ¬_<_;lia) ?_))))))));refine (⟨J,rfl,⟨_,so (s3 _ _ hY)⟩,fun a6 O=>?_⟩);refine bM (K:=K) (a:=J) (xs:=(vT L ys pl).map V.int) (caps:=[some (.int (i:Int))]) (fun i' zs _=>zs.length=((vT L ys pl).take i').countP fun z=>decide (z=(i:Int))) O (so (s3 _ _ hY)) rfl ?_ ?_
  ·rintro i' v zs Hj S bl am sj a9 hz;rw [ap] at S;obtain ⟨z,a4,rfl⟩:=ba.mp S;rw [ae] at bl;refine (⟨rfl,jB rfl (?_)⟩)
   by_cases Y:z=(i:Int)
   ·refine kX (bf V.int Y) (JP O sj a9 am (by lia) (Same.refl _) ?_);rw [af,hz,aK,a4,countP_append];show _=_+List.countP _ [z];rw [ip,if_pos (aB Y)];rfl
   ·refine j9 (fun e=>Y (V.int.inj e)) (nX sj a9 am (Same.refl _) ?_);rw [hz,aK,a4,countP_append];show _=_+List.countP _ [z];rw [ip,if_neg (by rw [eh];exact Y)];rfl
  rintro zs H4 s4 br b4 a7;rw [ae,bn (ao _)] at a7;have a3:=G.trans s4;unfold JB at h2;refine ⟨a6,jB rfl (⟨.inl (so br),(j8 (a3 _ _ hx) (T.clN) (T.xf) (hf.1) (k7 (so (a3 _ _ an)) (qF hv) (j8 (a3 _ _ hy) (T.clR) (T.zf) (hg.2.2.2.1) (kD (jB rfl (j9 (by show ¬_<_;rw [a7];lia) (jB rfl (s3.trans s4))))))))⟩)⟩
 rintro σ Hi ⟨c4,rfl,s3⟩;exact q Hi (s2.trans s3)
theorem cV:jV 2 ["lock","word","side","other","good"] tF:=jU
include T in
theorem M0 (F:kG K "_law_gate" tF f fd) : FnOk P w K mg base jT 2 f fd ["lock","word"] (IP):=by
 refine F.ok2 cV fun vs H Q E h=>?_
 refine cI h fun M d g g' h=>?_
 refine d9 h fun e_ am J q=>?_
 subst e_;refine ⟨rfl,fun _ _ _ _ hr=>?_⟩;have I:=BQ hr;refine tk fun Z=>?_
 let u0:=ru Z [2,0,0] (jI (kE (PW.pt (y6 (vQ (zP I (jA 0) jP (fun _ _=>rfl))) (y6 (vQ (zP I (jA 0) jP (fun _ _=>rfl))) (QM (kA kM (zP I (jA 0) jP (fun _ _=>rfl)) (zC kM (jA 1) jP)))))) (jN vW) kI)
   (jI (fS I (jA 0) jP (zC kM (jA 1) jP) rfl)
   (jN vW)))
 let u1:=ru Z [4,0,0] (jI (jW 4 cV.nd (ZN (o7 (zP I (jA 0) (jA 2) (fun _ _=>rfl))) (ZN (o7 (zP I (jA 0) (jA 3) (fun _ _=>rfl))) (bV (zC kM (zP I (jA 0) jP (fun _ _=>rfl)) (zC kM (jA 2) jP))))))
   (jI (fS I (jA 0) (jA 2) vW rfl)
   (jN (jA 4))))
 let u2:=ru Z [6,1,0,0,0] (jI (jW 4 cV.nd (ZN (jA 4) (bV (o7 (zP I (jA 0) jP (fun _ _=>rfl))))))
   (kU (fS I (jA 0) jP vW rfl)))
 let u3:=ru Z [6,1,0,1,0] (jI (jW 4 cV.nd (ZN (jA 4) (ZN (zP I (jA 0) jP (fun _ _=>rfl)) (bV (zC kM (Z3 iP (jA 1) Z4 (ZV jD)) jP)))))
   (kU (fS I (jA 0) jP vW rfl)))
 let u4:=ru Z [6,1,0] (kU (kE (kA kM (Z3 iP (jA 1) Z4 (ZV jD)) jP) u2.h u3.h))
 let u5:=ru Z [6] (jI (kE (kA kM (Z3 iP (jA 1) Z4 (ZV jD)) jP) (kU (fS I (jA 0) (jA 2) vW rfl)) u4.h)
   (jN (jA 4)))
 let u6:=ru Z [5] (jI (jW 4 cV.nd (zP I (jA 0) (jA 2) (fun _ _=>rfl)))
   u5.h)
 let u7:=ru Z [4] (jI (kE (kA kM (Z3 iP (jA 1) Z4 (ZV jD)) jP) u1.h kI)
   u6.h)
 let u8:=ru Z [3] (jI (kE (PW.pt (iR (kA JU (jA 2) jP) (iI (kA JU (jA 2) jP)))) (jN vW) kI)
   u7.h)
 let u9:=ru Z [2] (jI (kE (PW.pt (y6 (kA kM (jA 1) jP) (QM (kA kM (jA 1) jP)))) u0.h kI)
   u8.h)
 let an:=ru Z [1] (jI (jW 3 cV.nd (jH (kQ K) (qA (jC jP (jC jP jE))) (vJ xW (by rfl) T.wu gt (jC (zC kM (jA 2) jP) jE))))
   u9.h)
 refine ⟨_,(jI (jW 2 cV.nd (Z3 iP (jA 1) (ZV (jL kS (zR PySem.F.plainAttrs_str PySem.F.slot_str_find PySem.F.type_str_find X0 (jA 1) (jC jP jE)) jD)) Z4))
   an.h),?_⟩
 try dsimp only [jY,jX]
 have S:=YQ d;refine ⟨rfl,_,_,rfl,rfl,_,_,rfl,rfl,jB rfl (jB rfl (⟨S,?_⟩))⟩;rw [XB d];refine ⟨zz2,fun p hp=>?_⟩;have s1:=jK hp (.lst [V.str "high",V.str "low"]);have k1:Keep M H (upd H p (.lst [V.str "high",V.str "low"])):=Keep.of s1;have ah:upd H p (.lst [V.str "high",V.str "low"]) p=some (.lst [V.str "high",V.str "low"]):=jF;have G:=s1 _ _ am;generalize upd H p (.lst [V.str "high",V.str "low"])=H1 at s1 k1 ah G ⊢;have O:∀(o:HO),o=.dK (yR g')->Q (.bl true) (upd H1 M o):=fun o e=>q _ (k1.upd _) (by rw [jF,e])
 cases d with
 |fil =>
  obtain ⟨hi,lo,fu,bo⟩:=g;refine ⟨rfl,.inr (jB rfl (?_))⟩;rw [ax (fun e=>absurd (V.str.inj e) (by trivial))];refine k7 (so ah) rfl (⟨rfl,jB rfl (kX rfl ?_)⟩);cases hi
  case true=>cases J
  cases lo
  case true=>cases J
  cases fu
  case true=>cases J
  cases J;exact ⟨M,jB rfl (⟨pL G,jB rfl (qK ⟨M,jB rfl (⟨pK G,jB rfl (qK ⟨M,jB rfl (kB (pM G) rfl rfl (jB rfl (j9 (fun e=>nomatch V.bl.inj (e.trans (bf V.bl (aB rfl)))) ⟨rfl,M,jB rfl (⟨KB _ G,O _ (by rw [aB (show V.str (yV .fil)=V.str "fill" from rfl)])⟩)⟩)))⟩)⟩)⟩)⟩)⟩
 |lte =>
  obtain ⟨hi,lo,fu,bo⟩:=g;refine ⟨rfl,.inr (jB rfl (?_))⟩;rw [ax (fun e=>absurd (V.str.inj e) (by trivial))];have nf:¬V.str (yV .lte)=V.str "fill":=fun e=>absurd (V.str.inj e) (by trivial)
  refine k7 (so ah) rfl (⟨rfl,jB rfl (j9 nf ⟨rfl,jB rfl (kX rfl ?_)⟩)⟩);cases hi
  case true=>cases J
  cases lo
  case true=>cases J
  cases fu
  case false=>cases J
  cases J;exact ⟨M,jB rfl (⟨pL G,jB rfl (qK ⟨M,jB rfl (⟨pK G,jB rfl (qK ⟨M,jB rfl (kB (pM G) rfl rfl (jB rfl (j9 (fun e=>nomatch V.bl.inj (e.trans (bf V.bl (ax nf)))) ⟨rfl,M,jB rfl (⟨KB _ G,O _ (by rw [ax nf])⟩)⟩)))⟩)⟩)⟩)⟩)⟩
 |act a s =>
  refine ⟨rfl,.inr (jB rfl (?_))⟩;rw [show KQ (.act a s)=ZS s from rfl,HH];obtain ⟨n1,n2,n3⟩:=YL a s;refine k7 (so ah) (VS s) (⟨rfl,jB rfl (j9 (fun e=>n1 (V.str.inj e)) ⟨rfl,jB rfl (j9 (fun e=>n2 (V.str.inj e)) ?_)⟩)⟩)
  suffices al:u7.t {nx:=fun _ H'=>Q .non H',rt:=Q} [some (.ref M),some (.str (yV (.act a s))),some (.str (ZS s)),some (.str (ZS (!s))),none] H1 by
   cases s
   ·exact ⟨rfl,jB rfl (bC (fun e=>absurd (V.str.inj e) (by trivial)) ⟨rfl,jB rfl (JV rfl al)⟩)⟩
   ·exact ⟨rfl,jB rfl (JV rfl al)⟩
  cases a with
  |opn =>
   have h3:g.at s=false/\g.at (!s)=false/\g.fu=s/\g'=g.set s true:=by
    have J:(if g.at s||g.at (!s)||(g.fu != s) then none else some (g.set s true))=some g':=J
    split at J
    ·cases J
    ·rename_i h;simp at h;exact kB h.1.1 h.1.2 h.2 ((aA J).symm)
   obtain ⟨h1,h2,h3,rfl⟩:=h3;have Y:=lB s G;have g2:=lB (!s) G;have g3:=pM G;rw [h1] at Y;rw [h2] at g2;rw [h3] at g3;refine jB rfl (jB rfl (⟨S,rfl,jB rfl (kX (bf V.str (W4 s)) ⟨M,jB rfl (⟨Y,jB rfl (jB rfl (qG ⟨M,jB rfl (⟨g2,jB rfl (jB rfl (qG ⟨M,jB rfl (kB g3 rfl rfl ⟨M,jB rfl (⟨KD s true G,?_⟩)⟩)⟩))⟩)⟩))⟩)⟩)⟩));show Q (.bl (decide (V.bl s=V.bl (decide (V.str (ZS s)=V.str "high"))))) _;rw [HH,aB rfl];exact O _ rfl
  |sht =>
   have h3:g.at s=true/\g'=g.set s false:=by
    have J:(if g.at s then some (g.set s false) else none)=some g':=J
    split at J
    ·rename_i h;exact ⟨h,(aA J).symm⟩
    ·cases J
   obtain ⟨h1,rfl⟩:=h3;have Y:=lB s G;rw [h1] at Y;exact jB rfl (jB rfl (⟨S,rfl,jB rfl (j9 (fun e=>absurd ((V.str.inj e).symm.trans (GS s)) (by trivial)) ⟨M,jB rfl (⟨Y,jB rfl (jB rfl (⟨S,rfl,jB rfl (kX (bf V.str (GS s)) ⟨M,jB rfl (⟨KD s false G,O _ rfl⟩)⟩)⟩))⟩)⟩)⟩))
  |inn =>
   have h3:g.at s=true/\g.bo=false/\g'={g with bo:=true}:=by
    have J:(if g.at s && !g.bo then some {g with bo:=true} else none)=some g':=J
    split at J
    ·rename_i h;simp at h;exact ⟨h.1,h.2,(aA J).symm⟩
    ·cases J
   obtain ⟨h1,h2,rfl⟩:=h3;obtain ⟨i1,i2,i3⟩:=jAn s;have Y:=lB s G;have g2:=BR G;rw [h1] at Y;rw [h2] at g2;exact jB rfl (jB rfl (⟨S,rfl,jB rfl (j9 (fun e=>i1 (V.str.inj e)) ⟨M,jB rfl (⟨Y,jB rfl (jB rfl (⟨S,rfl,jB rfl (j9 (fun e=>i2 (V.str.inj e)) (jB rfl (jB rfl (⟨S,rfl,jB rfl (kX (bf V.str i3) (jB rfl (qG ⟨M,jB rfl (⟨g2,jB rfl (⟨M,jB rfl (⟨KC true G,O _ rfl⟩)⟩)⟩)⟩)))⟩))))⟩))⟩)⟩)⟩))
  |out =>
   have h3:g.at s=true/\g.bo=true/\g'={g with bo:=false}:=by
    have J:(if g.at s&&g.bo then some {g with bo:=false} else none)=some g':=J
    split at J
    ·rename_i h;simp at h;exact ⟨h.1,h.2,(aA J).symm⟩
    ·cases J
   obtain ⟨h1,h2,rfl⟩:=h3;obtain ⟨i1,i2,i3,i4⟩:=YK s;have Y:=lB s G;have g2:=BR G;rw [h1] at Y;rw [h2] at g2;refine jB rfl (jB rfl (⟨S,rfl,jB rfl (j9 (fun e=>i1 (V.str.inj e)) ⟨M,jB rfl (⟨Y,jB rfl (jB rfl (⟨S,rfl,jB rfl (j9 (fun e=>i2 (V.str.inj e)) (jB rfl (jB rfl (⟨S,rfl,jB rfl (j9 (fun e=>i3 (V.str.inj e)) (jB rfl (qG ⟨M,jB rfl (⟨g2,jB rfl (qG (jB rfl (jB rfl (⟨S,rfl,M,jB rfl (⟨KC false G,?_⟩)⟩))))⟩)⟩)))⟩))))⟩))⟩)⟩)⟩));show Q (.bl (decide (V.str (Txt.slice (yV (.act .out s)) none (some 4))=V.str "out "))) _;rw [i4,aB rfl];exact O _ rfl
theorem cW:jV 3 ["canal","state","told","locks","lock","one","word","k"] tG:=jU
include T in
theorem M1 (F:kG K "_law_gates" tG f fd) (c9:Def P w K mg base 2 "_law_gate" ["lock","word"] [] (IP)):FnOk P w K mg base jT 3 f fd ["canal","state","told"] (HB (jG cP cB cU) cR cN):=by
  refine F.ok2 cW fun vs H Q E h=>?_
  obtain ⟨x,st,tl,zs,qd,d,ms,pl,R,L,N,rfl,cC,a6,b3,c1,bt,br,hW,dy,hG,q⟩:=h;refine ⟨rfl,fun _ _ _ _ hr=>?_⟩;have M:=BQ hr;refine tk fun x0=>?_
  let u0:=ru x0 [1,0,0] (kU (fS M (jA 3) (j6 K (jA 4) rfl) (HM (bQ jP vW (bQ jP vW (bQ jP vW (bQ jP vW HJ)))) rfl rfl (cons_ne_nil _ _) (by decide)) rfl))
  let u1:=ru x0 [2,0,1,0,0] (kU (kE (PW.pt (y6 (J8 (vQ (yX (fG (K:=K)) (by rfl) T.xl cm (jC (jA 6) (jC (fT (v:=.ty "str") rfl T.xaC PyProof.Rows.boot_str rfl) jE))))) (QM (J8 (vQ (jR c9 hr rfl (jC (zP M (jA 3) (jH (jM K) (jA 5) jD) (fun _ _=>rfl)) (jC (jA 6) jE)))))))) (jN vW) kI))
  let u2:=ru x0 [2,0,1] (kU (yU bj rfl (yE (jH (jM K) (jA 5) jD)) (kT (i:=6) cW.nd rfl (.inl rfl))
        u1.h))
  let u3:=ru x0 [2,0,0] (jI (kE (PW.pt (y6 (J8 (vQ (yX (fG (K:=K)) (by rfl) T.xl cm (jC (jA 5) (jC (fT (v:=.ty "tuple") rfl T.xy bx rfl) jE))))) (y6 (kA JU (qR K T.xk (jA 5)) jD) (y6 (J8 (vQ (yX (fG (K:=K)) (by rfl) T.xl cm (jC (jH (jM K) (jA 5) jD) (jC (fT (v:=.ty "list") rfl T.xm aG rfl) jE))))) (QM (Y2 (UG M (jH (jM K) (jA 5) jD) (jA 3)))))))) (jN vW) kI)
      u2.h)
  let u4:=ru x0 [3,0,2] (kU (kE (kA JU (jH (jM K) (jH (jM K) (jA 1) jD) (jL kS (qR K T.xk (j6 K (jA 0) rfl)) (jA 7))) (jH (kQ K) (qA (jC jD (jC (j6 K (jH (kQ K) (j6 K (jA 0) rfl) (jA 7)) rfl) jE))) (vJ xW (by rfl) T.wu gt (jC (zP M (jA 4) jP (fun _ _=>rfl)) jE)))) (jN vW) kI))
  let u5:=ru x0 [3,0,1] (jI (kE (PW.pt (y6 (vQ (zP M (jA 4) jP (fun _ _=>rfl))) (y6 (vQ (zP M (jA 4) jP (fun _ _=>rfl))) (QM (vQ (zP M (jA 4) jP (fun _ _=>rfl))))))) (jN vW) kI)
      u4.h)
  let u6:=ru x0 [3,0,0] (jI (jW 4 cW.nd (zP M (jA 3) (j6 K (jH (kQ K) (j6 K (jA 0) rfl) (jA 7)) rfl) (fun _ _=>rfl)))
      u5.h)
  let u7:=ru x0 [3] (jI (yU bj rfl (J6 (by rfl) T.xn (jC (qR K T.xk (j6 K (jA 0) rfl)) jE)) (kT (i:=7) cW.nd rfl (.inl rfl))
        u6.h)
      (jN vW))
  let u8:=ru x0 [2] (jI (yU bj rfl (yE (jA 2)) (kT (i:=5) cW.nd rfl (.inl rfl))
        u3.h)
      u7.h)
  let u9:=ru x0 [1] (jI (yU bj rfl (yE (j6 K (jA 0) rfl)) (kT (i:=4) cW.nd rfl (.inl rfl))
        u0.h)
      u8.h)
  refine ⟨_,(jI (jW 3 cW.nd V1)
      u9.h),?_⟩
  try dsimp only [jY,jX]
  obtain ⟨dx,rl,ll,nl,fs,rs,ls,nv,hx,hf,c3,a4,dT,hR,hL,hN,d1,d2,d3⟩:=id cC;obtain ⟨wt,pt,bl,dp,d5⟩:=id c1;obtain ⟨fl,ce,df⟩:=hG;have r8:=a6.r8;have l8:=a6.l8;have am:=hL.1;have b4:=hR.1;have dU:=bt.len;refine fun D hD=>?_
  have u0:=jK hD (.dK []);refine j8 (u0 _ _ hx) (T.clN) (T.xg) (hf.2.1) (⟨ll,rfl,⟨_,so (u0 _ _ a4)⟩,ZJ (K:=K) (a:=ll) (xs:=ls) (fun i J I=>∃(as:List Addr) (c4:Option V),J=[some (.ref x),some (.ref st),some (.ref tl),some (.ref D),c4,none,none,none]/\as.length=i/\LksAt (L.take i) I D as (fun _=>false)/\(∀a∈as,H a=none)/\Same H I) ⟨[],none,(jO rfl rfl ⟨⟨[],jF,aN _,fun k l a _ h=>by cases h⟩,(fun k l a _ h=>by cases h),fe,(fun h=>by cases h)⟩ (fun a h=>by cases h) u0)⟩ (fun i J I _ ⟨_,_,_,_,_,_,s⟩=>so (s _ _ a4)) ?_ ?_⟩)
  . rintro i v J I hv ⟨as,c4,rfl,a0,hA,al,sm⟩
    have hi:=(ad.mp hv).1;obtain ⟨l,hl,y,rfl,dl,hy⟩:=hL.2 i v hv;refine fun p hp=>⟨jF,yR ⟨false,false,false,false⟩,rfl,by decide,?_⟩
    have u1:Same I (upd (upd I p (.dK [])) p (.dK (Z6 [] (yR ⟨false,false,false,false⟩)))):=qY hp (jK hp _);have b9:upd (upd I p (.dK [])) p (.dK (Z6 [] (yR ⟨false,false,false,false⟩))) p=some (.dK (yR ⟨false,false,false,false⟩)):=jF;generalize upd (upd I p (.dK [])) p (.dK (Z6 [] (yR ⟨false,false,false,false⟩)))=H2 at u1 b9 ⊢;have su:=sm.trans u1;obtain ⟨kj,c2,c0,dk⟩:=(hA.same u1).dd;refine j8 (su _ _ hy) (T.cl l.kd) (T.vp l.kd) (dH l.kd _ _ _ _ _) (⟨D,jB rfl (⟨DPut.kq (k:=.inr l.name) c2 (vN (by lia)),?_⟩)⟩);obtain ⟨d6,e0,_⟩:=hA.dd;have be:p≠D:=(q9 e0 hp).symm;refine ⟨as++[p],jB rfl (kB (by rw [af,a0];rfl) ⟨⟨_,jF,?_,fun k l' a h1 h2=>?_⟩,fun k l' a h1 h2=>?_,?_,?_⟩ (fun a Z=>?_) ?_)⟩
    . rw [af]
      have:=mY kj (.inr l.name) (.ref p);show _<=as.length+1
      lia
    . rw [VO]
      by_cases hk:k<i
      . rw [aw (by lia)] at h2
        rw [cp (by lia)] at h1;have a9:(L.take i)[k]?=some l':=by rw [cp hk];exact h1
        rw [if_neg fun z=>absurd (oH b3 hl h1 (Sum.inr.inj z)) (by lia)];exact dk k l' a a9 h2
      . have a8:k=i:=by
          have:=(ad.mp h2).1;rw [af,aE] at this
          lia
        subst a8;rw [ar (by lia),a0,gm] at h2;cases h2;rw [cp (by lia),hl] at h1;cases h1;rw [if_pos rfl]
    . by_cases hk:k<i
      . rw [aw (by lia)] at h2
        rw [cp (by lia)] at h1;have a9:(L.take i)[k]?=some l':=by rw [cp hk];exact h1
        have h3:=(hA.same u1).inn k l' a a9 h2;rw [j7 (fun z=>hA.nD (by rw [<- z];exact ag h2))];exact h3
      . have a8:k=i:=by
          have:=(ad.mp h2).1;rw [af,aE] at this
          lia
        subst a8;rw [ar (by lia),a0,gm] at h2;cases h2;rw [j7 be];exact b9
    . refine nodup_append.mpr ⟨hA.nd,cu.mpr ⟨(fun h=>by cases h),fe⟩,fun a Z c hc e=>?_⟩
      rw [av.mp hc] at e;obtain ⟨k,hk⟩:=cc.mp Z;have c0:=(ad.mp hk).1;obtain ⟨l',cr⟩:∃l',(L.take i)[k]?=some l':=⟨_,aa (by rw [bd];lia)⟩;have:=hA.inn k l' a cr hk;rw [e,hp] at this;cases this
    . intro h
      rcases aI.mp h with h|h
      . exact hA.nD h
      . exact be (av.mp h).symm
    . rcases aI.mp Z with h|h
      . exact al a h
      . rw [av.mp h];exact sm.free hp
    . intro a o e
      rw [j7 (fun z=>by rw [z,hD] at e;cases e)];exact su _ _ e
  rintro J H1 ⟨as,c4,rfl,a0,hA,al,s1⟩;rw [am,aW] at hA;rw [am] at a0;refine ⟨tl,rfl,⟨_,so (s1 _ _ br)⟩,ZJ (K:=K) (a:=tl) (xs:=zs) (fun i J I=>∃(f:Str->Bool) (c5 c6:Option V),J=[some (.ref x),some (.ref st),some (.ref tl),some (.ref D),c4,c5,c6,none]/\GRun (L.map (·.name)) (qd.drop i) f fl/\LksAt L I D as f/\Same H I) (jQ _ none none (kB rfl ce hA s1)) (fun i J I _ ⟨_,_,_,_,_,_,s⟩=>so (s _ _ br)) ?_ ?_⟩
  . rintro i v J I hv ⟨f,c5,c6,rfl,b0,ah,si⟩
    obtain ⟨p,hp,t,lw,rfl,ht,cn⟩:=hW.2 i v hv;rw [GJ hp] at b0;obtain ⟨db,ds,b,e2,dV,b5,cz⟩:=b0;obtain ⟨l,hl,a7⟩:=aO.mp db;obtain ⟨k,hk⟩:=cc.mp hl;have dD:=(ad.mp hk).1;obtain ⟨a,Z⟩:∃a,as[k]?=some a:=⟨_,aa (by lia)⟩;have dt:a≠D:=fun z=>ah.nD (by rw [<- z];exact ag Z)
    have S:=si _ _ ht;have Y:=si _ _ cn;have a5:∀Hj,Keep a I Hj->DGet Hj D (.str p.1) (some (.ref a)):=fun Hj kp=>by
      obtain ⟨kj,e,_,f2⟩:=ah.dd;have:=DGet.kq (k:=.inr l.name) (kp _ _ (Ne.symm dt) e);rw [f2 k l a hk Z,show kV (.inr l.name)=V.str l.name from rfl,a7] at this;exact this
    refine qO _ _ _ _ _ (jO rfl rfl (TyOf.tup S) (iG "tuple") (jB rfl (qK ⟨t,jB rfl (⟨.inr (SqT.of S),rfl,jB rfl (JV rfl (jJ (SqT.of S) rfl (qO _ _ _ _ _ (jO rfl rfl (TyOf.lst Y) (iG "list") (jB rfl (qK (jJ (SqT.of S) rfl (⟨D,jB rfl (⟨a5 _ (Keep.refl _ _),jB rfl (qK ?_)⟩)⟩))))))))⟩)⟩)));refine jJ (SqT.of S) rfl (⟨lw,rfl,⟨_,so Y⟩,ZJ (K:=K) (a:=lw) (xs:=p.2.map V.str) (fun j J Hj=>∃(g:Gt) (c6:Option V),J=[some (.ref x),some (.ref st),some (.ref tl),some (.ref D),c4,some (.ref t),c6,none]/\cF (ds.drop j) g=some ⟨false,false,b,false⟩/\Hj a=some (.dK (yR g))/\Keep a I Hj) ⟨_,c6,(kB rfl b5 (by have:=ah.inn k l a hk Z;rw [a7] at this;exact this) (Keep.refl _ _))⟩ (fun j J Hj _ ⟨_,_,_,_,_,kp⟩=>so (kp _ _ (fun z=>by have:=ah.inn k l a hk Z;rw [<- z,Y] at this;cases this) Y)) ?_ ?_⟩)
    . rintro j v J Hj hv ⟨g,c6,rfl,a3,O,kp⟩
      rw [e2,map_map,ap] at hv;obtain ⟨d,hd,rfl⟩:=ba.mp hv;rw [GJ hd] at a3;obtain ⟨g',cd,dj⟩:=VW a3;have dr:=kp _ _ (fun z=>by have:=ah.inn k l a hk Z;rw [<- z,S] at this;cases this) S;exact qO _ _ _ _ _ (jO rfl rfl (TyOf.str _) (iG "str") (jB rfl (qK (jJ (SqT.of dr) rfl (⟨D,jB rfl (⟨a5 _ kp,j0 a d g g' (kB rfl O cd (fun H' dn h'=>(jB rfl (qK ⟨g',jB rfl (⟨dj,h',kp.trans dn⟩)⟩))))⟩)⟩)))))
    rintro J Hj ⟨g,c6,rfl,a3,O,kp⟩;rw [ae,e2,ae,drop_length] at a3;cases a3;have hP:=ah.put b3 hk Z kp O;rw [a7] at hP;refine ⟨_,_,jB rfl (⟨cz,hP,fun c o e=>?_⟩)⟩;exact kp _ _ (fun z=>by rw [z,al a (ag Z)] at e;cases e) (si _ _ e)
  rintro J H2 ⟨f,c5,c6,rfl,b2,cj,s2⟩;rw [hW.1,drop_length] at b2;obtain rfl:f=fl:=b2;refine j8 (s2 _ _ hx) (T.clN) (T.xg) (hf.2.1) (⟨ll,jB rfl (⟨.inl (so (s2 _ _ a4)),jB rfl (⟨by lia,by lia,Z1 (n:=((ls.length:Nat):Int).toNat) (fun i J I=>∃c4 c7:Option V,J=[some (.ref x),some (.ref st),some (.ref tl),some (.ref D),c4,c5,c6,c7]/\Same H2 I) ⟨_,jB rfl (Same.refl _)⟩ ?_ ?_⟩)⟩)⟩)
  . rintro i J I hi ⟨c4,c7,rfl,s3⟩
    rw [ay,am] at hi;rw [ck];have G:=s2.trans s3;obtain ⟨l,hl⟩:∃l,L[i]?=some l:=⟨_,aa hi⟩;obtain ⟨v,hv,y,rfl,dl,hy⟩:=hL.get hl;obtain ⟨a,Z⟩:∃a,as[i]?=some a:=⟨_,aa (by lia)⟩;have b8:=cj.same s3;have O:=b8.inn i l a hl Z;refine j8 (G _ _ hx) (T.clN) (T.xg) (hf.2.1) (k7 (so (G _ _ a4)) (qF hv) (j8 (G _ _ hy) (T.cl l.kd) (T.vp l.kd) (dH l.kd _ _ _ _ _) (⟨D,jB rfl (⟨b8.get hl Z,?_⟩)⟩)));refine ⟨a,jB rfl (⟨pL O,jB rfl (qK ⟨a,jB rfl (⟨pK O,jB rfl (qK ⟨a,jB rfl (⟨BR O,jB rfl (qK ?_)⟩)⟩)⟩)⟩)⟩)⟩;have b1:vM (ms.map V.int) (((rs.length:Nat):Int)+(i:Int))=some (.int (ms.getD (R.length+i) 0)):=by
      rw [b4,show ((R.length:Nat):Int)+(i:Int)=((R.length+i:Nat):Int) by lia];exact yT (by lia)
    refine jJ (SqT.of (G _ _ bl)) rfl (j8 (G _ _ hx) (T.clN) (T.xf) (hf.1) (⟨rl,jB rfl (⟨.inl (so (G _ _ c3)),_,_,rfl,rfl,jJ (SqT.of (G _ _ dp)) b1 (?_)⟩)⟩));refine j8 (G _ _ hx) (T.clN) (T.xg) (hf.2.1) (k7 (so (G _ _ a4)) (qF hv) (j8 (G _ _ hy) (T.cl l.kd) (T.vq l.kd) (fV l.kd _ _ _ _ _) (⟨zz2,fun p hp=>?_⟩)));have u:=jK hp (.lst [V.int 0,V.int l.room]);have hg:=a6.lock i l hl;unfold LC.good at hg;refine ⟨a,jB rfl (⟨pM (u _ _ O),.inr (jB rfl (?_))⟩)⟩;have an:=df i l hl;have d0:=bt.cham i l hl;obtain ⟨ex,co,he⟩:∃ex:Int,vM [V.int 0,V.int l.room] (if f l.name=true then 1 else 0)=some (.int ex)/\ms.getD (R.length+i) 0=ex:=by
      unfold vX at an;cases bv:f l.name with
      |true =>
        rw [bv] at an;have:=bc an.symm;exact ⟨l.room,rfl,by lia⟩
      |false =>
        rw [bv] at an;have:=gl an.symm;exact ⟨0,rfl,by lia⟩
    exact k7 (so jF) co (⟨rfl,jB rfl (JV (bf V.int he) ⟨_,jB rfl (s3.trans u)⟩)⟩)
  rintro J I ⟨c4,c7,rfl,s3⟩;exact q I (s2.trans s3)
theorem PX:jV 1 ["book"] tM:=jU
include T in
theorem M7 (F:kG K "_law_told" tM f fd) (xo:MeD P w K mg base 1 cO "names" ["self"] (vI (jG cP cB cU) cR cN cO (zK fun B=>B.zs.map V.str))) (xj:MeD P w K mg base 1 cO "ways" ["self"] (vI (jG cP cB cU) cR cN cO (zK BkS.us))) (zy:MeD P w K mg base 1 cO "ledger" ["self"] (vI (jG cP cB cU) cR cN cO (zK BkS.ps))) (zj:MeD P w K mg base 1 cO "gatework" ["self"] (vI (jG cP cB cU) cR cN cO BF)) (zq:MeD P w K mg base 1 cO "entries" ["self"] (vI (jG cP cB cU) cR cN cO (zK BkS.es))) (xb:MeD P w K mg base 1 cO "state" ["self"] (vI (jG cP cB cU) cR cN cO Z8)):FnOk P w K mg base jT 2 f fd ["book"] (AX (jG cP cB cU) cR cN cO):=by
 refine F.ok2 PX fun vs H Q E h=>?_
 refine zB h fun b x A R L N B h=>?_
 refine vU h fun e_ hq q=>?_
 subst e_;refine ⟨rfl,fun _ _ _ _ hr=>?_⟩;refine ⟨_,(jN (qA (rK (kW xo hr (jA 0)) (kW xj hr (jA 0)) (kW zy hr (jA 0)) (kW zj hr (jA 0)) (kW zq hr (jA 0)) (qA (jC (kW xb hr (jA 0)) jE))))),?_⟩
 try dsimp only [jY,jX]
 obtain ⟨db,fs,hb,I⟩:=hq.ins;refine ⟨b,db,jB rfl (⟨hb,I _ (by trivial),kL b x A R L N B (kN rfl hq (fun a0 H1 s1 n0 h0=>?_))⟩)⟩;refine ⟨b,db,jB rfl (⟨(s1 _ _ hb),I _ (by trivial),kL b x A R L N B (kN rfl (hq.same s1) (fun a1 H2 s2 n1 h1=>?_))⟩)⟩;have Y:=s1.trans s2;refine ⟨b,db,jB rfl (⟨(Y _ _ hb),I _ (by trivial),kL b x A R L N B (kN rfl (hq.same Y) (fun a2 H3 s3 n2 h2=>?_))⟩)⟩;have M:=Y.trans s3;refine ⟨b,db,jB rfl (⟨(M _ _ hb),I _ (by trivial),kL b x A R L N B (kN rfl (hq.same M) (fun a3 vs H4 s4 n3 h3 hW=>?_))⟩)⟩;have Z:=M.trans s4;refine ⟨b,db,jB rfl (⟨(Z _ _ hb),I _ (by trivial),kL b x A R L N B (kN rfl (hq.same Z) (fun a4 H5 s5 n4 h4=>?_))⟩)⟩;have S:=Z.trans s5;refine ⟨b,db,jB rfl (⟨(S _ _ hb),I _ (by trivial),kL b x A R L N B (kB rfl (hq.same S) zz1 (fun a5 n5=>⟨zz6,fun l nl=>?_⟩))⟩)⟩;have u5:=jK n5 (.lst [V.ref B.st]);have ul:=jK nl (.lst [V.ref a0,V.ref a1,V.ref a2,V.ref a3,V.ref a4,V.ref a5]);have t5:=u5.trans ul;have t4:=s5.trans t5;have t3:=s4.trans t4;have t2:=s3.trans t3;have t1:=s2.trans t2;have al:=s2 _ _ h0;have J:=s3 _ _ al;have ah:=s3 _ _ h1;have m0:=s4 _ _ J;have m1:=s4 _ _ ah;have m2:=s4 _ _ h2;have c0:=s5 _ _ m0;have c1:=s5 _ _ m1;have c2:=s5 _ _ m2;have c3:=s5 _ _ h3;refine q l _ (S.trans t5) (kL a0 a1 a2 a3 a4 a5 vs (eA jF (t1 _ _ h0) (t2 _ _ h1) (t3 _ _ h2) (t4 _ _ h3) (t5 _ _ h4) (ul _ _ jF) ?_ ?_ ?_))
 ·refine ((hW.mono (WdNew.told fun c hc=>?_)).mono (WdT.free M)).mono (WdT.same t4);simp only [aj,au,bb] at hc
  rcases hc with rfl|rfl|rfl|rfl|rfl|rfl|rfl
  ·exact .inr (.inr ((s5.trans u5).free nl))
  ·exact .inr (.inl (by rw [J];simp))
  ·exact .inr (.inl (by rw [ah];simp))
  ·exact .inr (.inl (by rw [h2];simp))
  ·exact .inl rfl
  ·exact .inr (.inr n4)
  ·exact .inr (.inr (s5.free n5))
 ·have g:∀(c d:Addr) (o:HO) (G:Hp),G c=some o->G d=none->c≠d:=fun c d o G h1 h2 e=>by rw [e,h2] at h1;cases h1
  have O:=u5.free nl;simp only [cu,aj,au,bb,not_or,gd,fe,and_true];exact j5 (j5 ((g _ _ _ _ c0 O).symm) ((g _ _ _ _ c1 O).symm) ((g _ _ _ _ c2 O).symm) ((g _ _ _ _ c3 O).symm) ((g _ _ _ _ h4 O).symm) ((g _ _ _ _ jF nl).symm)) (jO (g _ _ _ _ h0 n1) (g _ _ _ _ al n2) (g _ _ _ _ J n3) (g _ _ _ _ m0 n4) (g _ _ _ _ c0 n5)) (kB (g _ _ _ _ h1 n2) (g _ _ _ _ ah n3) (g _ _ _ _ m1 n4) (g _ _ _ _ c1 n5)) ⟨g _ _ _ _ h2 n3,g _ _ _ _ m2 n4,g _ _ _ _ c2 n5⟩ ⟨g _ _ _ _ h3 n4,g _ _ _ _ c3 n5⟩ (g _ _ _ _ h4 n5)
 ·intro c hc;simp only [aj,au,bb] at hc
  rcases hc with rfl|rfl|rfl|rfl|rfl|rfl|rfl
  ·exact (S.trans u5).free nl
  ·exact n0
  ·exact s1.free n1
  ·exact Y.free n2
  ·exact M.free n3
  ·exact Z.free n4
  ·exact S.free n5
theorem CT:jV 1 ["told","gates"] lZ:=jU
include T in
theorem MX (F:kG K "_law_copy" lZ f fd) : FnOk P w K mg base jT 2 f fd ["told"] (BA):=by
 refine F.ok2 CT fun vs H Q E h=>?_
 refine ZA h fun H0 l zs us ps qd es st h=>?_
 refine d9 h fun e_ hT a8 q=>?_
 subst e_;refine ⟨rfl,fun _ _ _ _ hr=>?_⟩;refine tk fun x0=>?_
 let u0:=ru x0 [1] (jN (qA (rK (vJ (y8 K) (by rfl) T.xm aG (jC (jH (kQ K) (jA 0) jD) jE)) (vJ (y8 K) (by rfl) T.xm aG (jC (jH (kQ K) (jA 0) jD) jE)) (vJ (y8 K) (by rfl) T.xm aG (jC (jH (kQ K) (jA 0) jD) jE)) (jA 1) (vJ (y8 K) (by rfl) T.xm aG (jC (jH (kQ K) (jA 0) jD) jE)) (vJ (y8 K) (by rfl) T.xm aG (jC (jH (kQ K) (jA 0) jD) jE)))))
 refine ⟨_,(jI (bO (i:=1) ["one"] (vZ 1 []) CT.nd rfl (.inl rfl) rfl (v9 (kK lZ)) (cps 1 []) (yE (jH (kQ K) (jA 0) jD)) (fun _ _ _ _ _=>(kT (i:=0) (show List.Nodup (["one"]:List Str) from by trivial) rfl (.inl rfl))) (fun _ _ _ _ _=>zN) (fun _ _ _ _ _=>(qC (jC (jH (jM K) (jA 0) jD) (jC (vJ (y8 K) (by rfl) T.xm aG (jC (jH (jM K) (jA 0) jD) jE)) jE)))))
   u0.h),?_⟩
 try dsimp only [jY,jX]
 obtain ⟨a0,a1,a2,a3,a4,a5,vs,I,h2,h3,h4,h5,h6,h7,hW,be,a9⟩:=hT;have an:=hW.1;refine k7 (so I) rfl (⟨a3,rfl,⟨_,so h5⟩,fun D hD=>?_⟩);refine bM (K:=K) (a:=a3) (xs:=vs) (caps:=[]) (fun i ys Hg=>AllAt (WdNew H D Hg) ys (qd.take i)) hD (so h5) AllAt.nil ?_ ?_
 ·rintro i v ys Hg hv hi al Z Y hA;obtain ⟨p,hp,t,lw,rfl,_,_,_,ht,a6⟩:=hW.2 i v hv;refine yZ (qG (jJ (SqT.of (Z _ _ ht)) rfl (jJ (SqT.of (Z _ _ ht)) rfl (⟨lw,jB rfl (⟨.inl (so (Z _ _ a6)),fun l2 O=>⟨zz2,fun t2 am=>?_⟩⟩)⟩))));have u:=jK O (.lst (p.2.map V.str));have u2:=jK am (.tup [V.str p.1,V.ref l2]);have ah:=u2 _ _ (jF (H:=Hg) (a:=l2) (o:=.lst (p.2.map V.str)));have a7:=u2 _ _ (u _ _ Y);refine JP hD Z Y al (by lia) (u.trans u2) ?_;rw [aK,hp];exact ((hA.mono (WdNew.same (u.trans u2))).snoc (v:=.ref t2) (x:=p) ⟨t2,l2,(j5 rfl ((Z.trans u).free am) (Z.free O) ((q9 Y O).symm) jF ah)⟩).mono (WdNew.put a7)
 rintro ys H2 s2 Y al hA;rw [an,aW] at hA;refine k7 (so (s2 _ _ I)) rfl (⟨a0,jB rfl (⟨.inl (so (s2 _ _ h2)),fun b0 n0=>?_⟩)⟩);have v0:=jK n0 (.lst (zs.map V.str));have s3:=s2.trans v0;refine k7 (so (s3 _ _ I)) rfl (⟨a1,jB rfl (⟨.inl (so (s3 _ _ h3)),fun b1 n1=>?_⟩)⟩);have v1:=jK n1 (.lst us);have s4:=s3.trans v1;refine k7 (so (s4 _ _ I)) rfl (⟨a2,jB rfl (⟨.inl (so (s4 _ _ h4)),fun b2 n2=>?_⟩)⟩);have v2:=jK n2 (.lst ps);have s5:=s4.trans v2;refine k7 (so (s5 _ _ I)) rfl (⟨a4,jB rfl (⟨.inl (so (s5 _ _ h6)),fun b4 S=>?_⟩)⟩);have v4:=jK S (.lst es);have s6:=s5.trans v4;refine k7 (so (s6 _ _ I)) rfl (⟨a5,jB rfl (⟨.inl (so (s6 _ _ h7)),fun b5 M=>⟨zz6,fun l' J=>?_⟩⟩)⟩);have v5:=jK M (.lst [V.ref st]);have vl:=jK J (.lst [V.ref b0,V.ref b1,V.ref b2,V.ref D,V.ref b4,V.ref b5]);have t5:=v5.trans vl;have t4:=v4.trans t5;have t2:=v2.trans t4;have t1:=v1.trans t2;have t0:=v0.trans t1;have e0:=jF (H:=H2) (a:=b0) (o:=.lst (zs.map V.str));have e1:=jF (H:=upd H2 b0 (.lst (zs.map V.str))) (a:=b1) (o:=.lst us);have d0:=v0 _ _ Y;have d1:=v1 _ _ d0;have d2:=v2 _ _ d1;have d4:=v4 _ _ d2;have d5:=v5 _ _ d4;have p1:=v1 _ _ e0;have p2:=v2 _ _ p1;have p4:=v4 _ _ p2;have p5:=v5 _ _ p4;have q2:=v2 _ _ e1;have q4:=v4 _ _ q2;have q5:=v5 _ _ q4;have r2:=jF (H:=upd (upd H2 b0 (.lst (zs.map V.str))) b1 (.lst us)) (a:=b2) (o:=.lst ps);have r4:=v4 _ _ r2;have r5:=v5 _ _ r4;have c4:=jF (H:=upd (upd (upd H2 b0 (.lst (zs.map V.str))) b1 (.lst us)) b2 (.lst ps)) (a:=b4) (o:=.lst es);have c5:=v5 _ _ c4;refine q l' _ (s6.trans t5) (kL b0 b1 b2 D b4 b5 ys (eA jF (t1 _ _ e0) (t2 _ _ e1) (t4 _ _ r2) (t0 _ _ Y) (t5 _ _ c4) (vl _ _ jF) ?_ ?_ ?_))
 ·refine (hA.mono (WdNew.told fun c hc=>?_)).mono (WdT.same t0);simp only [aj,au,bb] at hc
  rcases hc with rfl|rfl|rfl|rfl|rfl|rfl|rfl
  ·exact .inr (.inr ((v0.trans (v1.trans (v2.trans (v4.trans v5)))).free J))
  ·exact .inr (.inr n0)
  ·exact .inr (.inr (v0.free n1))
  ·exact .inr (.inr ((v0.trans v1).free n2))
  ·exact .inl rfl
  ·exact .inr (.inr ((v0.trans (v1.trans v2)).free S))
  ·exact .inr (.inr ((v0.trans (v1.trans (v2.trans v4))).free M))
 ·have g:∀(c d:Addr) (o:HO) (G:Hp),G c=some o->G d=none->c≠d:=fun c d o G I h2 e=>by rw [e,h2] at I;cases I
  simp only [cu,aj,au,bb,not_or,gd,fe,and_true];exact j5 (j5 ((g _ _ _ _ p5 J).symm) ((g _ _ _ _ q5 J).symm) ((g _ _ _ _ r5 J).symm) ((g _ _ _ _ d5 J).symm) ((g _ _ _ _ c5 J).symm) ((g _ _ _ _ jF J).symm)) (jO (g _ _ _ _ e0 n1) (g _ _ _ _ p1 n2) ((g _ _ _ _ Y n0).symm) (g _ _ _ _ p2 S) (g _ _ _ _ p4 M)) (kB (g _ _ _ _ e1 n2) ((g _ _ _ _ d0 n1).symm) (g _ _ _ _ q2 S) (g _ _ _ _ q4 M)) ⟨(g _ _ _ _ d1 n2).symm,g _ _ _ _ r2 S,g _ _ _ _ r4 M⟩ ⟨g _ _ _ _ d2 S,g _ _ _ _ d4 M⟩ (g _ _ _ _ c4 M)
 ·intro c hc;simp only [aj,au,bb] at hc
  rcases hc with rfl|rfl|rfl|rfl|rfl|rfl|rfl
  ·exact (s6.trans v5).free J
  ·exact s2.free n0
  ·exact s3.free n1
  ·exact s4.free n2
  ·exact hD
  ·exact s5.free S
  ·exact s6.free M
theorem gN:jV 1 ["book","told","kept","one"] sZ:=jU
include T in
theorem MT (F:kG K "_law_apart" sZ f fd) (zo:Def P w K mg base 2 "_law_told" ["book"] [] (AX (jG cP cB cU) cR cN cO)) (wb:Def P w K mg base 2 "_law_copy" ["told"] [] (BA)):FnOk P w K mg base jT 3 f fd ["book"] (HF (jG cP cB cU) cR cN cO):=by
 refine F.ok2 gN fun vs H Q E h=>?_
 refine zB h fun b x A R L N B h=>?_
 refine QQ h fun e_ hq b4 a8 b5 b8 q=>?_
 subst e_;refine ⟨rfl,fun _ _ _ _ hr=>?_⟩;have cd:=HY hr;refine tk fun x0=>?_
 let u0:=ru x0 [3] (jI (yU bj rfl (yE (jA 1)) (kT (i:=3) gN.nd rfl (.inl rfl))
    (kU (yH (zR aQ aY aZ J7 (jA 3) (jC jP jE)))))
   (jN (zC (HQ 3 (pJ hr)) (jR zo hr rfl (jC (jA 0) jE)) (jA 2))))
 let u1:=ru x0 [2] (jI (yU bj rfl (yE (jH (kQ K) (jA 1) jD)) (kT (i:=3) gN.nd rfl (.inl rfl))
    (kU (yH (zR aQ aY aZ J7 (jH (jM K) (jA 3) jD) (jC jP jE)))))
   u0.h)
 let u2:=ru x0 [1] (jI (jW 2 gN.nd (jR wb hr rfl (jC (jA 1) jE)))
   u1.h)
 refine ⟨_,(jI (jW 1 gN.nd (jR zo hr rfl (jC (jA 0) jE)))
   u2.h),?_⟩
 try dsimp only [jY,jX]
 have o1:=hq.ok.e15;have o2:=hq.ok.pn;have o3:=hq.ok.z9;refine kL b x A R L N B (kN rfl hq (fun Z H1 s1 hT=>?_));refine kL H Z _ _ _ _ _ (jB rfl (⟨hT,a8,fun lk H2 O hK=>?_⟩));obtain ⟨a0,a1,a2,Y,a4,a5,vs,g1,g2,g3,g4,g5,g6,g7,hW,b3,M⟩:=hT;have cj:=hW.1;have k0:ApAt H H1 H2 H2 [Z,a0,a1,a2,Y,a4,a5] vs 0:=⟨fun _ _ _ e=>e,fun _ _=>rfl,fun v hv=>by
  obtain ⟨i,hi⟩:=cc.mp hv;obtain ⟨p,hp,t,lw,rfl,n1,n2,n3,f1,f2⟩:=hW.2 i v hi;exact (jQ t lw _ (jB rfl (jO (O _ _ f1) (O _ _ f2) (by rw [ae];exact b4 p (ag hp)) ⟨n2,by rw [f2];simp⟩ n3)))⟩
 have G:=b3;simp only [cu,aj,au,bb,not_or,gd,fe,and_true] at G;refine k7 (so (O _ _ g1)) rfl (⟨Y,rfl,⟨_,so (O _ _ g5)⟩,ZJ (K:=K) (a:=Y) (xs:=vs) (fun i σ Hi=>∃c3,σ=[some (.ref b),some (.ref Z),some (.ref lk),c3]/\ApAt H H1 H2 Hi [Z,a0,a1,a2,Y,a4,a5] vs i) ⟨none,rfl,k0⟩ (fun i σ Hi _ ⟨_,_,k⟩=>so ((k.kept Y (by simp)).trans (O _ _ g5))) ?_ ?_⟩)
 ·rintro i v σ Hi hv ⟨c3,rfl,k⟩;have hi:=(ad.mp hv).1;obtain ⟨t,lw,nm,ws,rfl,ht,ah,bv,hM,b0⟩:=k.wd v (ag hv);refine jJ (SqT.of ht) rfl (⟨.inl ⟨rfl,_,so ah⟩,(jQ lw _ _ (jO rfl rfl ah (vN (by lia)) ?_))⟩);refine jB rfl (⟨fun c o J e=>?_,fun c J=>?_,fun v' b9=>?_⟩)
  ·rw [j7 (fun z=>J (by rw [z];exact hM))];exact k.old c o J e
  ·rw [j7 (fun z=>b0 (by rw [<- z];exact J))];exact k.kept c J
  ·obtain ⟨t',a7,bl,a6,rfl,al,S,ce,a9,am⟩:=k.wd v' b9;have bt:t'≠lw:=fun z=>by rw [z,ah] at al;cases al
   by_cases e:a7=lw
   ·subst e;rw [ah] at S;cases S;exact jQ t' a7 bl (jB rfl (jO (by rw [j7 bt];exact al) jF (by rw [af,aE];lia) a9 am))
   ·exact j0 t' a7 bl a6 (j5 rfl (by rw [j7 bt];exact al) (by rw [j7 e];exact S) (by lia) a9 am)
 rintro σ H3 ⟨c3,rfl,k⟩;have hm:∀c∈[a0,a1,a2,Y,a4,a5],rS H H1 c/\c≠Z/\∃ws,H3 c=some (.lst ws)/\ws.length<=2000:=fun c J=>by
  have I:c∈[Z,a0,a1,a2,Y,a4,a5]:=aF _ J;simp only [aj,au,bb] at J;have e:=k.kept c I
  rcases J with rfl|rfl|rfl|rfl|rfl|rfl
  ·exact ⟨⟨M _ I,by rw [g2];simp⟩,Ne.symm G.1.1,_,e.trans (O _ _ g2),by rw [ae];lia⟩
  ·exact ⟨⟨M _ I,by rw [g3];simp⟩,Ne.symm G.1.2.1,_,e.trans (O _ _ g3),by lia⟩
  ·exact ⟨⟨M _ I,by rw [g4];simp⟩,Ne.symm G.1.2.2.1,_,e.trans (O _ _ g4),by lia⟩
  ·exact ⟨⟨M _ I,by rw [g5];simp⟩,Ne.symm G.1.2.2.2.1,_,e.trans (O _ _ g5),by lia⟩
  ·exact ⟨⟨M _ I,by rw [g6];simp⟩,Ne.symm G.1.2.2.2.2.1,_,e.trans (O _ _ g6),by lia⟩
  ·exact ⟨⟨M _ I,by rw [g7];simp⟩,Ne.symm G.1.2.2.2.2.2,_,e.trans (O _ _ g7),by show 1<=2000;decide⟩
 have an:=(k.kept Z (by simp)).trans (O _ _ g1);refine ⟨Z,rfl,⟨_,so an⟩,ZJ (K:=K) (a:=Z) (xs:=[V.ref a0,V.ref a1,V.ref a2,V.ref Y,V.ref a4,V.ref a5]) (fun i σ Hi=>∃c3,σ=[some (.ref b),some (.ref Z),some (.ref lk),c3]/\(∀c o,¬rS H H1 c->H2 c=some o->Hi c=some o)/\Hi Z=some (.lst [.ref a0,.ref a1,.ref a2,.ref Y,.ref a4,.ref a5])/\∀c∈[a0,a1,a2,Y,a4,a5],∃ws,Hi c=some (.lst ws)/\ws.length<=2000+i) ⟨c3,(kB rfl k.old an (fun c J=>(hm c J).2.2))⟩ (fun i σ Hi _ ⟨_,_,_,h,_⟩=>so h) ?_ ?_⟩
 ·rintro i v σ Hi hv ⟨c3,rfl,ko,be,kl⟩;have hi:i<6:=(ad.mp hv).1;obtain ⟨c,rfl,J⟩:∃c,v=.ref c/\c∈[a0,a1,a2,Y,a4,a5]:=by
   have:=ag hv;simp only [aj,au,bb] at this
   rcases this with rfl|rfl|rfl|rfl|rfl|rfl<;>exact jB rfl (by simp)
  obtain ⟨hM,b2,_⟩:=hm c J;obtain ⟨ws,br,bv⟩:=kl c J;refine ⟨.inl ⟨rfl,_,so br⟩,(jQ c _ _ (jO rfl rfl br (T9 (by lia)) (jB rfl (⟨fun d o hd e=>?_,?_,fun d hd=>?_⟩))))⟩
  ·rw [j7 (fun z=>hd (by rw [z];exact hM))];exact ko d o hd e
  ·rw [j7 (Ne.symm b2)];exact be
  ·by_cases e:d=c
   ·subst e;exact ⟨_,jF,by rw [af,aE];lia⟩
   ·obtain ⟨a6,h1,h2⟩:=kl d hd;exact ⟨a6,by rw [j7 e];exact h1,by lia⟩
 rintro σ H4 ⟨c3,rfl,ko,be,kl⟩;have sH:Same H H4:=fun c o e=>ko c o (fun z=>by rw [z.1] at e;cases e) (O _ _ (s1 _ _ e))
 refine kL b x A R L N B (kN rfl (hq.same sH) (fun l2 H5 s5 b1=>?_));obtain ⟨xs,ys,f1,f2,f3,f4⟩:=IH (K:=K) b1 ((hK.keep fun c o h1 e=>ko c o (fun z=>z.2 h1) e).same s5) b8 hq.ok.pr hq.ok.er;exact j0 l2 lk xs ys (vD rfl rfl f1 f2 f3 f4 (q _ (sH.trans s5)))
theorem J5:jV 1 ["script","canal","book","called","first","k","entry","early","again","cell","state","waters"] ZW:=jU
include T in
theorem NS (F:kG K "law" ZW f fd) (h7:Def P w K mg base 6 "_law_canal" ["script","most_reaches","most_locks","most_nights"] [] (FO K (jG cP cB cU) cR cN)) (ho:MkD P w K mg base 7 "Book" cO ["self","canal"] (xC (jG cP cB cU) cR cN cO)) (jf:DefX P w K mg base 2 "_law_names" ["script","k","many"] [] (fE K)) (zo:Def P w K mg base 2 "_law_told" ["book"] [] (AX (jG cP cB cU) cR cN cO)) (xw:DefX P w K mg base 1 "_law_draw" ["script","k","many"] [] (oS K)) (jd:Def P w K mg base 1 "_law_come" ["canal","name","way"] [] (FN (jG cP cB cU) cR cN)) (jx:Def P w K mg base 2 "_law_way" ["script","k","canal","most"] [] (GW K (jG cP cB cU) cR cN)) (zk:MeX P w K mg base 10 cO "fault" ["self","entry"] (vH (jG cP cB cU) cR cN cO (pC eB eT eM eU eL eN eD))) (jz:MeX P w K mg base 13 cO "do" ["self","entry"] (BY (jG cP cB cU) cR cN cO eB eT eM eU eL eN eD eW)) (wb:Def P w K mg base 2 "_law_copy" ["told"] [] (BA)) (ht:Def P w K mg base 2 "_law_entry" ["canal","names","day","cell","unit"] [] (EF (jG cP cB cU) cR cN)) (xo:MeD P w K mg base 1 cO "names" ["self"] (vI (jG cP cB cU) cR cN cO (zK fun B=>B.zs.map V.str))) (xb:MeD P w K mg base 1 cO "state" ["self"] (vI (jG cP cB cU) cR cN cO Z8)) (vz:Def P w K mg base 1 "_law_unit" ["script"] [] (AW K)) (hI:Def P w K mg base 2 "_law_bounds" ["canal","ways","state"] [] (HD (jG cP cB cU) cR cN)) (xj:MeD P w K mg base 1 cO "ways" ["self"] (vI (jG cP cB cU) cR cN cO (zK BkS.us))) (xz:MeD P w K mg base 5 cN "start" ["self"] (x6 (jG cP cB cU) cR cN)) (hA:Def P w K mg base 2 "_law_poured" ["waters","told"] [] (FJ)) (zy:MeD P w K mg base 1 cO "ledger" ["self"] (vI (jG cP cB cU) cR cN cO (zK BkS.ps))) (i7:Def P w K mg base 3 "_law_gates" ["canal","state","told"] [] (HB (jG cP cB cU) cR cN)) (zj:MeD P w K mg base 1 cO "gatework" ["self"] (vI (jG cP cB cU) cR cN cO BF)) (g9:Def P w K mg base 3 "_law_apart" ["book"] [] (HF (jG cP cB cU) cR cN cO)) (zq:MeD P w K mg base 1 cO "entries" ["self"] (vI (jG cP cB cU) cR cN cO (zK BkS.es))):FnOk P w K mg base (kO P w) 14 f fd ["script"] (dQ K):=by
 refine F.okX2 J5 fun vs H Q E h=>?_
 obtain ⟨s,ns,rfl,hS,ce,q⟩:=h;refine ⟨rfl,fun _ _ _ _ J=>?_⟩;have hu:_<cLine:=J.units0;have ki:=HY J;refine tk fun x0=>?_
 let u0:=ru x0 [4,0,1] (kU (kE (kA kM (Q3 zk qI J (jA 2) (jC (jA 6) jE)) jP) (kU (yH (Q3 jz qI J (jA 2) (jC (jA 6) jE)))) kI))
 let u1:=ru x0 [4,0,0] (jI (jW 6 J5.nd (jR jd J rfl (kH (jA 1) (jH (kQ K) (jA 3) (jA 5)) (jR jx J rfl (zD (jA 0) (jA 5) (jA 1) jD)))))
   u0.h)
 let u2:=ru x0 [7,0,1,0,1] (kU (kE (J8 (vQ (jR hI J rfl (kH (jA 1) (kW xj J (jA 2)) (kW xb J (jA 2)))))) (jN vW) kI))
 let u3:=ru x0 [7,0,1,0,0] (jI (yH (Q3 jz qI J (jA 2) (jC (jA 6) jE)))
   u2.h)
 let u4:=ru x0 [7,0,1] (kU (kE (kA kM (Q3 zk qI J (jA 2) (jC (jA 6) jE)) jP) u3.h kI))
 let u5:=ru x0 [7,0,0] (jI (jW 6 J5.nd (jR ht J rfl (gI (jA 1) (kW xo J (jA 2)) (jH (jM K) (kW xb J (jA 2)) jD) (jA 9) (jR vz J rfl (jC (jA 0) jE)))))
   u4.h)
 let u6:=ru x0 [13] (jN (ZN (zC (HQ 3 (pJ J)) (jH (kQ K) (jA 8) jD) (Z3 (oA K) (kW zq J (jA 2)) Z4 (ZV (qR K T.xk (jH (kQ K) (jA 8) jD))))) (bV (jR g9 J rfl (jC (jA 2) jE)))))
 let u7:=ru x0 [12] (jI (kE (PW.pt (y6 (kA (HP 3 (pJ J)) (jA 7) (jA 8)) (QM (kA (HP 3 (pJ J)) (jA 4) (qA (rK (qA jE) (qA jE) (qA jE) (qA jE) (qA jE) (qA (jC (qC (kH jD (kW xz J (jA 1)) (qC jE))) jE)))))))) (jN vW) kI)
   u6.h)
 let u8:=ru x0 [11] (jI (kE (PW.pt (y6 (kA JU (yX (xU rfl) (by rfl) T.wp gq (jC (jA 11) jE)) (yX (VH rfl) (by rfl) T.wp gq (jC (kW xz J (jA 1)) jE))) (QM (J8 (vQ (jR i7 J rfl (kH (jA 1) (jA 10) (kW zj J (jA 2))))))))) (jN vW) kI)
   u7.h)
 let u9:=ru x0 [10] (jI (kE (PW.pt (y6 (J8 (vQ (jR hA J rfl (jC (jA 11) (jC (kW zy J (jA 2)) jE))))) (QM (kA (Y7 hu) (vJ (cX K) (by rfl) T.xy bx (jC (jA 11) jE)) (jH (jM K) (jA 10) jD))))) (jN vW) kI)
   u8.h)
 let jh:=ru x0 [9] (jI (jW 11 J5.nd (vJ (y8 K) (by rfl) T.xm aG (jC (kW xz J (jA 1)) jE)))
   u9.h)
 let jc:=ru x0 [8] (jI (jW 10 J5.nd (kW xb J (jA 2)))
   jh.h)
 let jb:=ru x0 [7] (jI (yU iT rfl (yE (Z3 (oA K) (jA 0) Z4 (ZV jD))) (kT (i:=9) J5.nd rfl (.inl rfl))
    u5.h)
   jc.h)
 let hQ:=ru x0 [6] (jI (jW 8 J5.nd (jR wb J rfl (jC (jA 7) jE)))
   jb.h)
 let g7:=ru x0 [5] (jI (jW 7 J5.nd (jR zo J rfl (jC (jA 2) jE)))
   hQ.h)
 let jk:=ru x0 [4] (jI (yU iT rfl (J6 (by rfl) T.xn (jC (vA xw qI J rfl (kH (jA 0) jD jD)) jE)) (kT (i:=5) J5.nd rfl (.inl rfl))
    u1.h)
   g7.h)
 let ih:=ru x0 [3] (jI (jW 4 J5.nd (jR zo J rfl (jC (jA 2) jE)))
   jk.h)
 let h3:=ru x0 [2] (jI (jW 3 J5.nd (vA jf qI J rfl (kH (jA 0) jD jD)))
   ih.h)
 let h6:=ru x0 [1] (jI (jW 2 J5.nd (f7 ho J rfl (jC (jA 1) jE)))
   h3.h)
 refine ⟨_,(jI (jW 1 J5.nd (jR h7 J rfl (zD (jA 0) jD jD jD)))
   h6.h),?_⟩
 try dsimp only [jY,jX]
 refine (qO s ns 5 4 3 (eJ rfl hS ce (by decide) (by decide) (by decide) (by decide) (by decide) (fun x R L N H1 al dD nR nL kn ln kk lj f5 s1 hh an=>?_)));refine (?_);intro b db nb ee i9;have m1:Same H1 (qD (upd (upd H1 db (.own b)) b (.ins cO db [])) [b]):=fun a o e=>by
  rw [yJ (fun z=>q9 e nb (av.mp z)),j7 (q9 e nb),j7 (q9 e ee)];exact e
 refine JC b db x R L N (jO rfl jF (an.same m1) al (fun A B H2 hB c2 hd=>⟨rfl,?_⟩));have br:=s1.trans (m1.trans hd);refine (j0 s ns _ 4 (vD rfl ((br.trans (JG _ _)).seq hS) ce (by decide) (by decide) (by decide) (fun cl cs H3 s3 dj ev kg cz=>?_)));have dp:=hB.same s3;have sc:=br.trans (yS s3);have a8:qD H3 A cl=some (.lst (cs.map V.str)):=by rw [yJ (hB.out dj)];exact ev
 refine (kL b x A R L N B (kN rfl dp (fun lf Hf sf fx=>?_)));have a7:TldAt H3 (qD Hf A) lf B.zs B.us B.ps B.qd B.es B.st:=fx.keep fun c o h1 e=>by rw [yJ (dp.out h1)];exact e
 have dy:=dp.same sf;have a3:=dy.sts;have f0:=dy.cn
 replace sc:=sc.trans (yS sf)
 replace a8:=yS sf _ _ a8
 have g0:BkG R L B.ms B:=YG al c2;obtain ⟨z1,z2,z3,z4,z5,z6,z7,z8,z9,k4,hH,eq⟩:=c2;rw [z1,z5,z6,z8,z9] at a7;rw [z3,z4] at a3;obtain ⟨M,hM⟩:∃M,M=B.ms:=⟨_,rfl⟩;obtain ⟨ex,jw⟩:∃ex,ex=B.st:=⟨_,rfl⟩;rw [<- hM] at g0 a3 eq;rw [<- jw] at a7 a3;clear ev dj br hd m1 i9 ee nb an hh s1 s3 fx;generalize hG:qD Hf A=G at sc a8 a7 a3 f0;have cC:∀O,Same G (qD O A)->SqL K O s (ns.map V.int):=fun O sG=>((sc.trans sG).trans (JG _ _)).seq hS
 have jn:∀O,Same G (qD O A)->O cl=some (.lst (cs.map V.str)):=fun O sG=>(sG.trans (JG _ _)) _ _ a8
 have fr:Same G (qD Hf A):=fun a o e=>by rw [hG];exact e
 obtain ⟨d0,d1⟩:=bP ns 93 (show (1:Int)<=5 by decide);refine (jQ s ns _ (jB rfl (j5 (cC _ fr) ce (by decide) (by decide) (by decide) ?_)));generalize JN ns 93 5=d at d0 d1 ⊢;refine jB rfl (⟨by lia,by lia,Z1 (n:=d.toNat) (fun i σ O=>∃(B:BkS) (c5 c6:Option V),σ=[some (.ref s),some (.ref x),some (.ref b),some (.ref cl),some (.ref lf),c5,c6,none,none,none,none,none]/\BkAt (jG cP cB cU) cR cN cO A O b x R L N B/\BkG R L M B/\(∀z∈B.zs,z∈cs.take i)/\B.zs.length<=i/\B.es.length<=i/\Same G (qD O A)) (jQ B none none (vD rfl dy g0 (fun z hz=>by rw [z1] at hz;cases hz) (by rw [z1];exact ao _) (by rw [z9];exact ao _) fr)) ?_ ?_⟩)
 ·rintro i σ O hi ⟨B,c5,c6,rfl,I,hg,hz,e8,be,sG⟩;rw [ck];have i5:i<cs.length:=by lia
  obtain ⟨nm,co⟩:∃nm,cs[i]?=some nm:=⟨_,aa i5⟩;have en:(cs.map V.str)[i]?=some (.str nm):=by rw [ap,co];rfl
  refine (k7 (so (jn _ sG)) (qF en) (vP s x ns i 4 ([]) R L N (eA rfl (cC _ sG) ce (by lia) (by decide) (by decide) I.cnH al f5 (fun t y H7 dT hc hC s7 kt js=>?_))));obtain ⟨a,ha,ek⟩:=hC;refine vP x t nm y a ([]) R L N (vD rfl (I.cnH.same s7) js dT ha ek (fun te H8 s8 kx hk=>?_));have a5:=s7.trans s8;have hl:nm∉B.zs:=fun h=>by
   obtain ⟨j,hj⟩:=cc.mp (hz nm h);have g6:j<i:=by have:=(ad.mp hj).1;rw [bd] at this;lia
   rw [cp g6] at hj;have f1:=eZ cz.1 hj;rw [eZ cz.1 co] at f1;have:=aA f1
   lia
  have am:qL R L N B (.come ⟨nm,ZM R a,y.2.map fun p=>(QA L p.1,p.2)⟩)=0:=VF nR nL dT ha ek (cz.2 nm (ag co)) hl (by lia);have a0:cK (.come ⟨nm,ZM R a,y.2.map fun p=>(QA L p.1,p.2)⟩):=⟨by show nm.length<=100;have:=(cz.2 nm (ag co)).2.2;lia,by show (y.2.map _).length<=8;rw [ae];exact dT.le,by show 1<=(y.2.map _).length;rw [ae];exact hc⟩;have fy:∀z∈cs.take i,z∈cs.take (i+1):=fun z h=>by rw [aK];exact ir _ h
  obtain ⟨db,fs,hb,Z⟩:=I.ins;generalize hE:Ent.come ⟨nm,ZM R a,y.2.map fun p=>(QA L p.1,p.2)⟩=e at am a0;have cr:EnAt H8 te e:=by rw [<- hE];exact hk
  have ea:ZR B e=B.zs++[nm]:=by rw [<- hE];rfl
  have d5:rB e:=by rw [<- hE];trivial
  refine (⟨b,db,jB rfl (⟨(a5 _ _ hb),Z _ (by trivial),(vP b te x A R L N B e (j5 rfl (I.same a5) cr a0 (fun _ H9 s9=>⟨rfl,jB rfl (?_)⟩) (fun h=>absurd am h)))⟩)⟩);have ah:=a5.trans s9
  by_cases hw:yQ R L N B e=""
  case neg=>exact j9 (fun z=>hw (V.str.inj z)) ⟨B,_,jB rfl (j5 (I.same ah) hg (fun z h=>fy z (hz z h)) (by lia) (by lia) (sG.trans (yS ah)))⟩
  refine kX (bf V.str hw) (⟨b,db,jB rfl (⟨(ah _ _ hb),Z _ (by trivial),(vP b te x A R L N B e (vD rfl (I.same ah) (cr.same s9) a0 (fun _ _=>⟨by lia,fun B' hD a4 a6 dV=>?_⟩) (fun _ h=>absurd hw h) (fun h=>absurd am h)))⟩)⟩);have e6:=a6.zs;have eb:=bf List.length a6.es;rw [af,aE] at eb;refine ⟨B',_,jB rfl (j5 a4 (hg.do I.ok dD nL.1 a0 d5 am hw a6) (fun z h=>?_) (by rw [e6,ea,af];show B.zs.length+1<=i+1;lia) (by lia) ((sG.trans (yS ah)).trans dV))⟩;rw [e6,ea] at h
  rcases aI.mp h with h|h
  ·exact fy z (hz z h)
  ·rw [av.mp h,aK,co];exact bi _ (by simp)
 rintro σ O ⟨B,c5,c6,rfl,I,hg,hz,e8,be,sG⟩;have be:B.es.length<=4:=by lia
 have o1:=I.wd.1;have o2:=I.ok.qn;clear hz e8;refine (kL b x A R L N B (kN rfl I (fun le He se dr=>?_)));refine (kL O le _ _ _ _ _ (jB rfl (⟨dr,by lia,fun la Ha sa gi=>?_⟩)));have ey:=I.same (se.trans sa);have S:TldAt O (qD Ha A) le B.zs B.us B.ps B.qd B.es B.st:=(dr.same sa).keep fun c o h1 e=>by rw [yJ (I.out h1)];exact e
 have Y:TldAt He (qD Ha A) la B.zs B.us B.ps B.qd B.es B.st:=gi.keep fun c o h1 e=>by rw [yJ ((I.same se).out h1)];exact e
 have g5:=sG.trans (yS (se.trans sa));have rU:=E8 I.wy;have rP:=I.ok.pr;have rE:=I.ok.er;obtain ⟨E0,ez⟩:∃E0,E0=B.es:=⟨_,rfl⟩;generalize ky:B.zs=Z0 at S Y;generalize lh:B.us=U0 at S Y rU;generalize lg:B.ps=P0 at S Y rP;generalize kr:B.qd=Q0 at S Y;generalize li:B.st=S0 at S Y;rw [<- ez] at S Y rE;clear dr gi;refine (jB rfl (⟨s,jB rfl (⟨cC _ g5,fun p hp=>?_⟩)⟩));rw [jBu];have u5:=jK hp (.lst ((ns.take 40).map V.int));have fn:=ey.same u5;have dK:=g5.trans (yS u5);have c3:=S.same (yS u5);have b8:=Y.same (yS u5);have hm:=ey.out hp;have d8:upd Ha p (.lst ((ns.take 40).map V.int)) p=some (.lst ((ns.take 40).map V.int)):=jF;generalize upd Ha p (.lst ((ns.take 40).map V.int))=H5 at u5 fn dK d8 c3 b8 ⊢;clear S Y;have h4:∀O,Same (qD H5 A) (qD O A)->O p=some (.lst ((ns.take 40).map V.int)):=fun O s=>(s.trans (JG _ _)) _ _ (by rw [yJ hm];exact d8)
 refine ⟨p,rfl,⟨_,so d8⟩,ZJ (K:=K) (a:=p) (xs:=(ns.take 40).map V.int) (fun i σ O=>∃(B:BkS) (bt:List V) (c6 c9:Option V),σ=[some (.ref s),some (.ref x),some (.ref b),some (.ref cl),some (.ref lf),c5,c6,some (.ref le),some (.ref la),c9,none,none]/\BkAt (jG cP cB cU) cR cN cO A O b x R L N B/\BkG R L M B/\B.es=E0++bt/\B.es.length<=4+i/\Same (qD H5 A) (qD O A)) (j0 B ([]) c6 none (j5 rfl fn hg (by rw [ez,cq]) (by lia) (Same.refl _))) (fun i σ O _ ⟨_,_,_,_,_,_,_,_,_,s⟩=>so (h4 O s)) ?_ ?_⟩
 ·rintro i v σ O hv ⟨B,bt,c6,c9,rfl,I,hg,c0,be,sH⟩;have sG:=dK.trans sH;have hi:i<40:=by
   have:=(ad.mp hv).1;rw [ae,bd] at this
   lia
  obtain ⟨c,rfl⟩:∃c:Int,v=.int c:=by
   rw [ap] at hv;obtain ⟨c,_,rfl⟩:=ba.mp hv;exact ⟨c,rfl⟩
  obtain ⟨db,fs,hb,Z⟩:=I.ins;have z9:=I.ok.z9;refine (⟨b,db,jB rfl (⟨hb,Z _ (by trivial),kL b x A R L N B (kN rfl I (fun l6 H6 s6 kj jl=>?_))⟩)⟩);obtain ⟨ww,pt,g1,g2,g3⟩:=(I.same s6).stH;refine (⟨b,db,jB rfl (⟨(s6 _ _ hb),Z _ (by trivial),kL b x A R L N B (kN rfl (I.same s6) (jJ (SqT.of g1) rfl (⟨s,ns,(kB rfl (s6.seq (cC _ sG)) ce (fun u ji hK=>?_))⟩)))⟩)⟩);refine vP x l6 B.zs B.d c u R L N (jCt rfl ((I.same s6).cnH) al dD (by lia) f5 I.ok.d0 ji hK jl (by lia) (fun te e H8 s8 cr a0 dt ea d5=>?_));have am:=dt B rfl rfl;have a5:=s6.trans s8;refine (⟨b,db,jB rfl (⟨(a5 _ _ hb),Z _ (by trivial),(vP b te x A R L N B e (j5 rfl (I.same a5) cr a0 (fun _ H9 s9=>⟨rfl,jB rfl (?_)⟩) (fun h=>absurd am h)))⟩)⟩);have ah:=a5.trans s9
  by_cases hw:yQ R L N B e=""
  case neg=>exact j9 (fun z=>hw (V.str.inj z)) (jQ B bt _ (jB rfl (jO (I.same ah) hg c0 (by lia) (sH.trans (yS ah)))))
  refine kX (bf V.str hw) (⟨b,db,jB rfl (⟨(ah _ _ hb),Z _ (by trivial),(vP b te x A R L N B e (vD rfl (I.same ah) (cr.same s9) a0 (fun _ _=>⟨by lia,fun B' hD a4 a6 dV=>?_⟩) (fun _ h=>absurd hw h) (fun h=>absurd am h)))⟩)⟩);have eb:=bf List.length a6.es;rw [af,aE] at eb;have dl:=hg.do I.ok dD nL.1 a0 d5 am hw a6;obtain ⟨e7,ks,f9,c4⟩:=a4.ins;refine (⟨b,e7,jB rfl (⟨f9,c4 _ (by trivial),kL b x A R L N B' (kN rfl a4 (fun wl k9 cd kf hF=>?_))⟩)⟩);refine (⟨b,e7,jB rfl (⟨(cd _ _ f9),c4 _ (by trivial),(kL b x A R L N B' ⟨rfl,a4.same cd,LE x wl B'.st B'.us B'.ys B'.d B'.ms B'.pl ([]) R L N (jO rfl ((a4.same cd).stage hF) dl.wok.hi dl.ber (fun ko br=>(jB rfl (qK (jQ B' (bt++[.ref te]) _ (jB rfl (jO (a4.same (cd.trans br)) dl (by rw [a6.es,c0,ig]) (by lia) (((sH.trans (yS ah)).trans dV).trans (yS (cd.trans br))))))))))⟩)⟩)⟩)
 rintro σ O ⟨B,bt,c6,c9,rfl,I,hg,c0,be,sH⟩;have kh:B.es.length<=44:=by rw [ae,bd] at be;lia
 clear be;have sG:=dK.trans sH;have an:=I.cnH;obtain ⟨dx,rl,ll,nl,gs,rs,ls,nv,hx,hf,k6,lm,kz,hR,hL,hN,d1,d2,d3⟩:=id an;obtain ⟨db,fs,hb,Z⟩:=I.ins;obtain ⟨ww,pt,g1,g2,g3⟩:=I.stH;have r8:=al.r8;have l8:=al.l8;have hT:=JE al;have eF:=I.ok.ml;have i6:M.length=R.length+2*L.length+2:=by rw [<- eF,<- hg.led,yB]
 have eM:∀gs,Spl (kR R L.length) (v8 R L.length) gs->yK (v8 R L.length) (kR R L.length) gs=M:=fun gs h=>by rw [eq,Spl.unique (xY (mS (m:=L.length) hT)) h hH]
 refine (⟨b,db,jB rfl (⟨hb,Z _ (by trivial),kL b x A R L N B (kN rfl I (?_))⟩)⟩);refine (⟨x,dx,jB rfl (⟨hx,hf.no (by trivial) (by trivial) (by trivial),qO x ([]) R L N (j5 rfl an (by lia) (by lia) hT (fun t1 Hb hY sb ku ed eg=>?_))⟩)⟩);rw [eM hY eg] at ed;refine ⟨t1,jB rfl (⟨.inr (SqT.of ed),fun wa gV=>?_⟩)⟩;have u6:=jK gV (.lst (M.map V.int));have b9:upd Hb wa (.lst (M.map V.int)) wa=some (.lst (M.map V.int)):=jF;have c1:=sb.trans u6;have gp:O wa=none:=sb.free gV;generalize upd Hb wa (.lst (M.map V.int))=H6 at u6 b9 c1 ⊢;refine (⟨b,db,jB rfl (⟨(c1 _ _ hb),Z _ (by trivial),kL b x A R L N B (kN rfl (I.same c1) (fun tl H7 s7 ef h5=>?_))⟩)⟩);have ec:=c1.trans s7;have ew:=s7 _ _ b9;have kc:PoursH H7 B.ps B.pd M.length:=by
  have:=I.pp.same ((JG _ _).trans ec)
  rwa [eF,<- i6] at this
 refine qO wa tl M B.ps B.pd (eA rfl ew h5 (fun z=>by rw [z,b9] at ef;cases ef) kc hg.okq (by lia) (by lia) (by rw [hg.led];exact hg.wok.lo) (fun H8 k8 cj=>(jB rfl (qK ?_))));rw [hg.led] at cj;have hn:Same O H8:=fun c o e=>k8 _ _ (fun z=>by rw [z,gp] at e;cases e) (ec _ _ e)
 refine (⟨wa,jB rfl (.inl ⟨so cj,fun tw h8=>?_⟩)⟩);have u9:=jK h8 (.tup (B.ms.map V.int));have gf:upd H8 tw (.tup (B.ms.map V.int)) tw=some (.tup (B.ms.map V.int)):=jF;have a9:=hn.trans u9;have df:=u9 _ _ cj;generalize upd H8 tw (.tup (B.ms.map V.int))=H9 at u9 gf a9 df ⊢;refine (jJ (SqT.of (a9 _ _ g1)) rfl (j0 tw ww _ _ (vD rfl rfl (SqT.of gf) (SqT.of (a9 _ _ g2)) (nI _) (nI _) (jB rfl (?_)))));rw [WQ (nI _)];refine qK ?_;refine (⟨wa,jB rfl (⟨so df,(⟨x,dx,jB rfl (⟨(a9 _ _ hx),hf.no (by trivial) (by trivial) (by trivial),qO x ([]) R L N (j5 rfl (an.same a9) (by lia) (by lia) hT (fun t2 Hc i8 jg kw fc ep=>?_))⟩)⟩)⟩)⟩);rw [eM i8 ep] at fc;have d7:=a9.trans jg;have o1:=I.wd.1;have o2:=I.ok.qn;have o3:=I.ok.z9;have o4:=I.ok.zl;refine ⟨t2,jB rfl (⟨SqT.of fc,rfl,jB rfl (JV (bf V.int hg.sum) ?_)⟩)⟩;refine (⟨b,db,jB rfl (⟨(d7 _ _ hb),Z _ (by trivial),kL b x A R L N B (kN rfl (I.same d7) (fun tg vs Hg sg kp hs jj=>?_))⟩)⟩);have d6:=d7.trans sg;refine jCr x B.st tg vs B.qd B.d B.ms B.pl R L N (B4 rfl (an.same d6) al nL.1 (I.stH.same d6) hg.wok.lk hs (jj.mono (fun v p ⟨t,l,e,_,_,_,h1,h2⟩=>⟨t,l,e,h1,h2⟩)) (by lia) hg.gat (fun Hh sh=>(jB rfl (qK ?_))));have et:=d6.trans sh;have el:=sH.trans (yS et);have g4:=(c3.same el).same (JG _ _);have fa:=(b8.same el).same (JG _ _);obtain ⟨jv,jy,f1,f2,f3,f4⟩:=IH (K:=K) g4 fa rU rP rE;refine (j0 le la jv jy (vD rfl rfl f1 f2 f3 f4 (jB rfl (qK ?_))));refine (⟨aN _,fun e0 n0=>⟨aN _,fun e1 n1=>⟨aN _,fun e2 n2=>⟨aN _,fun e3 n3=>⟨aN _,fun e4 n4=>?_⟩⟩⟩⟩⟩);have v0:=jK n0 (.lst []);have v1:=jK n1 (.lst []);have v2:=jK n2 (.lst []);have v3:=jK n3 (.lst []);have v4:=jK n4 (.lst []);have w4:=v0.trans (v1.trans (v2.trans (v3.trans v4)));have i4:=jF (H:=upd (upd (upd (upd Hh e0 (.lst [])) e1 (.lst [])) e2 (.lst [])) e3 (.lst [])) (a:=e4) (o:=.lst []);have i3:=v4 _ _ (jF (H:=upd (upd (upd Hh e0 (.lst [])) e1 (.lst [])) e2 (.lst [])) (a:=e3) (o:=.lst []));have i2:=(v3.trans v4) _ _ (jF (H:=upd (upd Hh e0 (.lst [])) e1 (.lst [])) (a:=e2) (o:=.lst []));have i1:=(v2.trans (v3.trans v4)) _ _ (jF (H:=upd Hh e0 (.lst [])) (a:=e1) (o:=.lst []));have i0:=(v1.trans (v2.trans (v3.trans v4))) _ _ (jF (H:=Hh) (a:=e0) (o:=.lst []));generalize upd (upd (upd (upd (upd Hh e0 (.lst [])) e1 (.lst [])) e2 (.lst [])) e3 (.lst [])) e4 (.lst [])=Hj at w4 i0 i1 i2 i3 i4 ⊢;clear v0 v1 v2 v3 v4 n0 n1 n2 n3 n4;have dU:=et.trans w4;refine (⟨x,dx,jB rfl (⟨(dU _ _ hx),hf.no (by trivial) (by trivial) (by trivial),qO x ([]) R L N (j5 rfl (an.same dU) (by lia) (by lia) hT (fun t3 Hd je sd km eu fl=>?_))⟩)⟩);rw [eM je fl] at eu;refine ⟨aN _,fun tz hO=>⟨zz3,fun tt iv=>⟨zz1,fun e5 n5=>⟨zz6,fun lo ju=>?_⟩⟩⟩⟩;have y1:=jK hO (.tup []);have y2:=jK iv (.tup [V.int 0,V.ref t3,V.ref tz]);have y3:=jK n5 (.lst [V.ref tt]);have y4:=jK ju (.lst [V.ref e0,V.ref e1,V.ref e2,V.ref e3,V.ref e4,V.ref e5]);have ej:=y3.trans y4
 have f8:=y2.trans ej;have dn:=y1.trans f8;have dk:=sd.trans dn;have bl:=dU.trans dk;have q1:=f8 _ _ (jF (H:=Hd) (a:=tz) (o:=.tup []));have q2:=ej _ _ (jF (H:=upd Hd tz (.tup [])) (a:=tt) (o:=.tup [V.int 0,V.ref t3,V.ref tz]));have q3:=y4 _ _ (jF (H:=upd (upd Hd tz (.tup [])) tt (.tup [V.int 0,V.ref t3,V.ref tz])) (a:=e5) (o:=.lst [V.ref tt]));have q4:=jF (H:=upd (upd (upd Hd tz (.tup [])) tt (.tup [V.int 0,V.ref t3,V.ref tz])) e5 (.lst [V.ref tt])) (a:=lo) (o:=.lst [V.ref e0,V.ref e1,V.ref e2,V.ref e3,V.ref e4,V.ref e5]);have c7:=dn _ _ eu;generalize upd (upd (upd (upd Hd tz (.tup [])) tt (.tup [V.int 0,V.ref t3,V.ref tz])) e5 (.lst [V.ref tt])) lo (.lst [V.ref e0,V.ref e1,V.ref e2,V.ref e3,V.ref e4,V.ref e5])=Hk at dn dk bl q1 q2 q3 q4 c7 ⊢;have eH:=(sG.trans (yS bl)).trans (JG _ _);obtain ⟨ke,h9,j1,j2,j3,j4⟩:=WO (K:=K) (a7.same eH) (a3.same eH) q4 (dk _ _ i0) (dk _ _ i1) (dk _ _ i2) (dk _ _ i3) (dk _ _ i4) q3 q2 c7 q1;refine j0 lf lo ke h9 (vD rfl rfl j1 j2 j3 j4 (jB rfl (qK ?_)));have fv:=(b8.same (sH.trans (yS bl))).same (JG _ _);obtain ⟨b0,b1,b2,b3,b4,b5,bv,t1,_,_,_,_,t6,_⟩:=fv;refine (k7 (so t1) rfl (⟨b,db,jB rfl (⟨(bl _ _ hb),Z _ (by trivial),kL b x A R L N B (kN rfl (I.same bl) (fun g8 Hm sm kl hW=>?_))⟩)⟩));refine (k7 (so (sm _ _ t1)) rfl (⟨b4,jB rfl (⟨.inl (so (sm _ _ t6)),jB rfl (⟨g8,jB rfl (⟨so hW,fun pz hy=>?_⟩)⟩)⟩)⟩));rw [c0,YF];have y5:=jK hy (.lst E0);refine j0 b4 pz E0 E0 (vD rfl rfl (so (y5 _ _ (sm _ _ t6))) (so jF) rfl (fun j hj=>QZ _ (.inr (rE _ ?_))) (jB rfl (qG ?_)))
 ·rw [ac,aa hj];exact cw hj
 have hP:=bl.trans (sm.trans y5);have kv:=I.wy.1;obtain ⟨ld,h0,lb⟩:=hg.gat
 exact (kL b x A R L N B (vD rfl (I.same hP) h0.short (by lia) (by lia) (E8 I.wy) (fun H' s'=>q _)))
end
theorem all_mk {l:W.OpenLaw} {w:World} {h:Heap} {mg:Str->Option Value} {fa f8 f9 ee ec cC c0 cd:Addr} {O V S:Addr} {h4:Nat} {hb:Tok} {eC eB eT eM eU eL eW eN eD:Addr} {fx:Tok} {Y:Addr} {eV:Tok} {eY:Tok} {eX:Tok} {aU aD:Addr} {oU oD:Obj} {nU nD:Nat} {f2 e2 ex h3 hs es jd hD hB f5 ep f3 g7 hM:Tok} (X:K.In h) (G:h.Ns mainGlobals mg) (wy:mg "law"=some (.ref fa))
 {hn hO eg cr:Option Addr} {la dy:Array (Option Value)} {ln e7 ld j1 dl lb d8 cn cj b4 b0 b2:Value} {lk:Addr} {c7:Obj}
  (op:qS K "PlainLock" (some (.ref O)))
  (pq:qS K "BasinLock" (some (.ref V)))
  (sk:qS K "PumpLock" (some (.ref S)))
  (sc:qS K "Reach" (some (.ref cR)))
  (qb:qS K "Canal" (some (.ref cN)))
  (vb:qS K "CanalError" (some (.ref eC)))
  (uo:qS K "BadRow" (some (.ref eB)))
  (sv:qS K "Twice" (some (.ref eT)))
  (wg:qS K "TooMany" (some (.ref eM)))
  (wj:qS K "Unknown" (some (.ref eU)))
  (vj:qS K "NotLinked" (some (.ref eL)))
  (uq:qS K "NotNow" (some (.ref eW)))
  (vk:qS K "BadNumber" (some (.ref eN)))
  (ur:qS K "TooDry" (some (.ref eD)))
  (ri:qS K "Book" (some (.ref Y)))
  (p0:kF K "poured_all" uM)
  (p1:kF K "over" uG)
  (p2:kF K "last_first" uB)
  (p3:kF K "spills" uU)
  (p4:kF K "spill_pours" mH)
  (p5:kF K "settled" uS)
  (p6:kF K "with_spills" wD)
  (p7:kF K "parts_not_nought" mG)
  (a8:qH K O "__init__" (some (.ref f8)))
  (i8:W.isFn K (.ref f8)=true)
  (sf:W.findCls K (.ref O) (.type "type") "__init__"=some (.val (.ref f8)))
  (p8:lR K "__init__" "PlainLock.__init__" sR f8)
  (a9:qH K V "__init__" (some (.ref f9)))
  (i9:W.isFn K (.ref f9)=true)
  (p9:lR K "__init__" "BasinLock.__init__" rT f9)
  (mw:qH K S "__init__" (some (.ref ee)))
  (xc:W.isFn K (.ref ee)=true)
  (qu:lR K "__init__" "PumpLock.__init__" sW ee)
  (rc:qH K cR "__init__" (some (.ref ec)))
  (x4:W.isFn K (.ref ec)=true)
  (w2:lR K "__init__" "Reach.__init__" sY ec)
  (te:yA K O "fill_parts" "PlainLock.fill_parts" sU)
  (lz:yA K V "fill_parts" "BasinLock.fill_parts" rV)
  (tc:yA K S "fill_parts" "PumpLock.fill_parts" sX)
  (nv:qH K O "let_parts" (some (.ref cC)))
  (dT:qH K S "let_parts" (some (.ref cC)))
  (kg:W.isFn K (.ref cC)=true)
  (m0:lR K "let_parts" "PlainLock.let_parts" sV cC)
  (rd:yA K V "let_parts" "BasinLock.let_parts" rW)
  (og:qH K cN "__init__" (some (.ref c0)))
  (pu:W.isFn K (.ref c0)=true)
  (tf:K.lookup c0=some ⟨ln,hn,.func (W.fnOf "__init__" "Canal.__init__" (yF cT) (vO cT) (kK cT) (.ref lk) e7 ld j1 hO dl lb),la⟩)
  (ti:W.codeIn K dl "Canal.__init__"=true)
  (wb:W.keepIn K (.ref c0)=true)
  (i3:K.lookup lk=some c7)
  (hf:c7.data=.seq ([.none]:List Value).toArray h4)
  (wn:yA K cN "sea" "Canal.sea" sP)
  (r8:yA K cN "sky" "Canal.sky" sQ)
  (n8:yA K cN "many" "Canal.many" sM)
  (qm:yA K cN "chamber" "Canal.chamber" sJ)
  (ye:yA K cN "basin" "Canal.basin" sI)
  (pg:yA K cN "weirs" "Canal.weirs" lX)
  (m2:yA K cN "full" "Canal.full" sK)
  (um:yA K cN "start" "Canal.start" lW)
  (tA:kF K "filling" mB)
  (re:kF K "letting" mD)
  (th:kF K "given_by" mC)
  (sT:kF K "basin_after" l7)
  (pn:kF K "passage" uJ)
  (nq:kF K "step_ends" uW)
  (ot:kF K "linked" uD)
  (t0:kF K "steps_to_do" uX)
  (oa:kF K "reach_of" uO)
  (x7:kF K "lying" mE)
  (xp:kF K "begun" tT)
  (nz:kF K "night_pours" eR)
  (vr:kF K "wet_enough" mJ)
  (qi:kF K "has_no_berth" t7)
  (oC:kF K "next_step" uE)
  (qr:kF K "one_step_on" mF)
  (u9:kF K "counted_on" tW)
  (x2:kF K "by_number" l9)
  (sG:kF K "pass_pours" uH)
  (ns:kF K "let_pours" uC)
  (nl:kF K "is_below_least" t9)
  (mv:kF K "falls_short" tZ)
  (u3:kF K "why_no_pass" wB)
  (vo:kF K "why_not" wC)
  (nd:kF K "pours" uN)
  (wi:kF K "place_called" uL)
  (m8:yA K cN "reach_at" "Canal.reach_at" sO)
  (xo:yA K cN "lock_at" "Canal.lock_at" sL)
  (sa:kF K "way_told" mI)
  (sd:yA K Y "canal" "Book.canal" rZ)
  (yi:yA K Y "state" "Book.state" sE)
  (o4:yA K Y "names" "Book.names" sD)
  (mb:yA K Y "ways" "Book.ways" sF)
  (l3:yA K Y "ledger" "Book.ledger" sC)
  (ww:yA K Y "entries" "Book.entries" sA)
  (xj:yA K Y "gatework" "Book.gatework" lV)
  (pj:yA K Y "__init__" "Book.__init__" rX)
  (pm:kF K "written_with" mK)
  (w1:kF K "is_name" uA)
  (oi:kF K "boat_called" tU)
  (qj:kF K "number_named" uF)
  (w5:kF K "refuse_wrong_come" uQ)
  (s2:kF K "refuse_wrong_night" uR)
  (rm:kF K "refuse_wrong" uP)
  (ph:kF K "deed_of" tX)
  (ve:kF K "takes_too_much" uY)
  (se:kF K "why_no_entry" wA)
  (mz:kF K "single_pour" uT)
  (yb:kF K "entry_pours" tY)
  (tn:kF K "passing" uK)
  (ol:kF K "pass_worked" uI)
  (ox:kF K "ways_behind" uZ)
  (xh:kF K "state_behind" uV)
  (ul:kF K "words_worked" wE)
  (ts:yA K Y "fault" "Book.fault" sB)
  (s0:yA K Y "behind" "Book.behind" rY)
  (sx:yA K Y "do" "Book.do" r9)
  (sj:kF K "_law_draw" tD)
  (l5:kF K "_law_unit" tO)
  (t8:kF K "_law_names" tI)
  (nn:kF K "_law_reach" tK)
  (x5:kF K "_law_lock" tH)
  (o3:kF K "_law_weather" tQ)
  (tm:kF K "_law_canal" eQ)
  (l8:kF K "_law_turns" tN)
  (mn:kF K "_law_way" tP)
  (lr:kF K "_law_come" lY)
  (nc:kF K "_law_weather_of" tR)
  (ta:kF K "_law_entry" tE)
  (xw:kF K "_law_whole" tS)
  (od:kF K "_law_poured" tJ)
  (pr:kF K "_law_reach_by" tL)
  (oc:kF K "_law_bounds" gM)
  (nT:kF K "_law_gate" tF)
  (kx:kF K "_law_gates" tG)
  (li:kF K "_law_told" tM)
  (e1:kF K "_law_copy" lZ)
  (eH:kF K "_law_apart" sZ)
  (c2:qS K "law" (some (.ref cd)))
  (eF:K.lookup cd=some ⟨d8,eg,.func (W.fnOf "law" "law" (yF ZW) (vO ZW) (kK ZW) .none cn cj b4 cr b0 b2),dy⟩)
  (g3:W.codeIn K b0 "law"=true)
  (c3:W.keepIn K (.ref cd)=true)
  (xm:qS K "list" none)
  (xy:qS K "tuple" none)
  (jm:qS K "max" none)
  (xn:qS K "range" none)
  (xk:qS K "len" none)
  (wp:qS K "sum" none)
  (jo:qS K "zip" none)
  (xt:qS K "enumerate" none)
  (wr:qS K "min" none)
  (jp:qS K "all" none)
  (wu:qS K "int" none)
  (xl:qS K "isinstance" none)
  (uh:qS K "bool" none)
  (xaC:qS K "str" none)
  (ym:W.plainGet K O Str.empty=true)
  (pi:W.hasDictIn K O=true)
  (n3:W.plainOver K O=true)
  (rE:qH K O "__setattr__" (some (.builtin "object.__setattr__")))
  (na:W.makesIn K O=true)
  (ny:W.keepIn K (.ref O)=true)
  (s5:qH K O "name" none)
  (t6:qH K O "high" none)
  (yl:qH K O "low" none)
  (mq:qH K O "room" none)
  (rP:W.plainGet K V Str.empty=true)
  (mr:W.hasDictIn K V=true)
  (np:W.plainOver K V=true)
  (lw:qH K V "__setattr__" (some (.builtin "object.__setattr__")))
  (lT:W.makesIn K V=true)
  (tl:W.keepIn K (.ref V)=true)
  (m5:qH K V "name" none)
  (rl:qH K V "high" none)
  (u6:qH K V "low" none)
  (tb:qH K V "room" none)
  (u5:qH K V "side" none)
  (mf:W.plainGet K S Str.empty=true)
  (ly:W.hasDictIn K S=true)
  (yk:W.plainOver K S=true)
  (n6:qH K S "__setattr__" (some (.builtin "object.__setattr__")))
  (qn:W.makesIn K S=true)
  (uc:W.keepIn K (.ref S)=true)
  (rr:qH K S "name" none)
  (vx:qH K S "high" none)
  (r6:qH K S "low" none)
  (xr:qH K S "room" none)
  (nk:qH K S "lift" none)
  (g1:W.specialIn K (.ref O) "__getattribute__"=some (some (.builtin "type.__getattribute__")))
  (g2:W.readsIn K O (.type "type")=true)
  (t1:W.plainGet K cR Str.empty=true)
  (nf:W.hasDictIn K cR=true)
  (tu:W.plainOver K cR=true)
  (t2:qH K cR "__setattr__" (some (.builtin "object.__setattr__")))
  (pd:W.makesIn K cR=true)
  (rb:W.keepIn K (.ref cR)=true)
  (zr:qH K cR "name" none)
  (zm:qH K cR "least" none)
  (zn:qH K cR "crest" none)
  (zf:qH K cR "berths" none)
  (zu:qH K cR "water" none)
  (zg:qH K cR "target" none)
  (pc:W.plainGet K cN Str.empty=true)
  (ra:W.hasDictIn K cN=true)
  (ma:W.plainOver K cN=true)
  (xb:qH K cN "__setattr__" (some (.builtin "object.__setattr__")))
  (w7:W.makesIn K cN=true)
  (qp:W.keepIn K (.ref cN)=true)
  (xf:qH K cN "reaches" none)
  (xg:qH K cN "locks" none)
  (xq:qH K cN "nights" none)
  (kz:qS K "SEA" (some (.int (-1) hb)))
  (ut:W.excIn K eB [.type "ValueError",.type "Exception",.type "BaseException",.type "object"] "ValueError.__new__"=true)
  (qg:W.excIn K eT [.type "ValueError",.type "Exception",.type "BaseException",.type "object"] "ValueError.__new__"=true)
  (wk:W.excIn K eM [.type "ValueError",.type "Exception",.type "BaseException",.type "object"] "ValueError.__new__"=true)
  (wm:W.excIn K eU [.type "ValueError",.type "Exception",.type "BaseException",.type "object"] "ValueError.__new__"=true)
  (vm:W.excIn K eL [.type "ValueError",.type "Exception",.type "BaseException",.type "object"] "ValueError.__new__"=true)
  (uu:W.excIn K eW [.type "ValueError",.type "Exception",.type "BaseException",.type "object"] "ValueError.__new__"=true)
  (vn:W.excIn K eN [.type "ValueError",.type "Exception",.type "BaseException",.type "object"] "ValueError.__new__"=true)
  (uv:W.excIn K eD [.type "ValueError",.type "Exception",.type "BaseException",.type "object"] "ValueError.__new__"=true)
  (ek:qS K "HOME" (some (.int (-1) fx)))
  (xu:W.plainGet K Y Str.empty=true)
  (td:W.hasDictIn K Y=true)
  (rz:W.plainOver K Y=true)
  (s3:qH K Y "__setattr__" (some (.builtin "object.__setattr__")))
  (wf:W.makesIn K Y=true)
  (ry:W.keepIn K (.ref Y)=true)
  (nO_kept_canal:qH K Y "kept_canal" none)
  (nO_kept_names:qH K Y "kept_names" none)
  (nO_kept_ways:qH K Y "kept_ways" none)
  (nO_kept_state:qH K Y "kept_state" none)
  (nO_kept_pours:qH K Y "kept_pours" none)
  (nO_kept_words:qH K Y "kept_words" none)
  (nO_kept_entries:qH K Y "kept_entries" none)
  (b1:qS K "LETTERS" (some (.str lettersS eV)))
  (br:qS K "MOST_SIGNS" (some (.int 12 eY)))
  (bl:qS K "MOST_BOATS" (some (.int 9 eX)))
  (ne:qS K "UP" (some (.ref aU)))
  (sg:qS K "DOWN" (some (.ref aD)))
  (lU:K.lookup aU=some oU)
  (lD:K.lookup aD=some oD)
  (px:oU.cls=.type "tuple")
  (uf:oD.cls=.type "tuple")
  (dU:oU.data=.seq ([.str "open low" f2,.str "in low" ex,.str "shut low" hs,.str "fill" jd,.str "open high" hB,.str "out high" ep,.str "shut high" g7]:List Value).toArray nU)
  (dD:oD.data=.seq ([.str "open high" e2,.str "in high" h3,.str "shut high" es,.str "let" hD,.str "open low" f5,.str "out low" f3,.str "shut low" hM]:List Value).toArray nD) :
  ∃fd:FuncData,(∀(s:Shared) (v:Value),BindsTo s fd ⟨[v],[]⟩ [("script",v)])/\∀base:Heap,K.In base->base.Ns mainGlobals mg->FnOk l.prog w K mg base jT 14 fa fd ["script"] (dQ K):=by
 have e:=wy.symm.trans (aP X G c2);cases e;obtain ⟨_,_,a0,F0⟩:=p0;obtain ⟨_,_,a1,F1⟩:=p1;obtain ⟨_,_,a2,F2⟩:=p2;obtain ⟨_,_,a3,F3⟩:=p3;obtain ⟨_,_,a4,F4⟩:=p4;obtain ⟨_,_,a5,F5⟩:=p5;obtain ⟨_,_,a6,F6⟩:=p6;obtain ⟨_,_,a7,F7⟩:=p7;obtain ⟨_,F8⟩:=p8;have k8:=F8.kp;have b8:=F8.binds (ps:=["self","name","high","low","room"]) fun _ _ _ _ _ _=>CD fun _ _ _ _ _=>rfl
 obtain ⟨_,F9⟩:=p9;have k9:=F9.kp;have b9:=F9.binds (ps:=["self","name","high","low","room","side"]) fun _ _ _ _ _ _=>CC fun _ _ _ _ _ _=>rfl
 obtain ⟨_,ej⟩:=qu;have yn:=ej.kp;have vu:=ej.binds (ps:=["self","name","high","low","room","lift"]) fun _ _ _ _ _ _=>CC fun _ _ _ _ _ _=>rfl
 obtain ⟨_,dK⟩:=w2;have yo:=dK.kp;have oj:=dK.binds (ps:=["self","name","least","crest","berths","water","target"]) fun _ _ _ _ _ _=>us7 fun _ _ _ _ _ _ _=>rfl
 obtain ⟨_,_,rq,mi,h0⟩:=te;obtain ⟨_,_,pp,tq,km⟩:=lz;obtain ⟨_,_,qv,s8,g8⟩:=tc;obtain ⟨_,d6⟩:=m0;have fn:=d6.kp;have kt:=d6.binds (ps:=["self","basin"]) fun _ _ _ _ _ _=>ZC fun _ _=>rfl
 obtain ⟨_,_,tg,qe,hI⟩:=rd;have d3:=X7 (st:=cT) (ds:=[.none]) (n:=h4) tf ti wb i3 (by first|exact hf|rfl);have rg:Binds K _ ["self","reaches","locks","nights"] []:=d3.binds [] 4 rfl fun _ _ _ _ _ _ _=>rG fun _ _ _ _=>⟨_,rfl,rfl⟩
 have py:Binds K _ ["self","reaches","locks","nights"] [.none]:=d3.binds [.none] 3 rfl fun _ _ _ _ _ _ _=>lK fun _ _ _=>⟨_,rfl,rfl⟩
 obtain ⟨_,_,sS,vl,j2⟩:=wn;obtain ⟨_,_,o1,l0,g6⟩:=r8;obtain ⟨_,_,qf,mk,hq⟩:=n8;obtain ⟨_,_,tt,rj,kl⟩:=qm;obtain ⟨_,_,si,pk,jz⟩:=ye;obtain ⟨_,_,qt,tx,hc⟩:=pg;obtain ⟨_,_,ob,oL,gp⟩:=m2;obtain ⟨_,_,mh,ql,e3⟩:=um;obtain ⟨_,_,lx,hz⟩:=tA;obtain ⟨_,_,ml,lg⟩:=re;obtain ⟨_,_,qw,ez⟩:=th;obtain ⟨_,_,mc,lh⟩:=sT;obtain ⟨_,_,ty,h7⟩:=pn;obtain ⟨_,_,xd,je⟩:=nq;obtain ⟨_,_,kj,eb⟩:=ot;obtain ⟨_,_,mo,ll⟩:=t0;obtain ⟨_,_,wh,ey⟩:=oa;obtain ⟨_,_,xi,hr⟩:=x7;obtain ⟨_,_,nL,ke⟩:=xp;obtain ⟨_,_,t5,fy⟩:=nz;obtain ⟨_,_,qd,g9⟩:=vr;obtain ⟨_,_,ro,e8⟩:=qi;obtain ⟨_,_,r3,eq⟩:=oC;obtain ⟨_,_,mm,e4⟩:=qr;obtain ⟨_,_,r2,hu⟩:=u9;obtain ⟨_,_,pb,fv⟩:=x2;obtain ⟨_,_,xv,kn⟩:=sG;obtain ⟨_,_,nb,lj⟩:=ns;obtain ⟨_,_,tz,hY⟩:=nl;obtain ⟨_,_,wc,e5⟩:=mv;obtain ⟨_,_,q3,hS⟩:=u3;obtain ⟨_,_,sr,hp⟩:=vo;obtain ⟨_,_,qh,f4⟩:=nd;obtain ⟨_,_,lu,js⟩:=wi;obtain ⟨_,_,nN,tp,d7⟩:=m8;have yc:=d7.kp;have nF:=d7.binds (ps:=["self","name"]) fun _ _ _ _ _ _=>ZC fun _ _=>rfl
 obtain ⟨_,_,m4,m7,ef⟩:=xo;have tj:=ef.kp;have su:=ef.binds (ps:=["self","name"]) fun _ _ _ _ _ _=>ZC fun _ _=>rfl
 obtain ⟨_,_,yj,hm⟩:=sa;obtain ⟨_,_,u7,n4,i4⟩:=sd;obtain ⟨_,_,u8,ub,h9⟩:=yi;obtain ⟨_,_,x1,vh,hv⟩:=o4;obtain ⟨_,_,mj,tr,kc⟩:=mb;obtain ⟨_,_,q7,m1,jx⟩:=l3;obtain ⟨_,_,w4,mA,h8⟩:=ww;obtain ⟨_,_,tv,wd,hL⟩:=xj;obtain ⟨_,_,r1,wa,hC⟩:=pj;have mx:=hC.binds (ps:=["self","canal"]) fun _ _ _ _ _ _=>ZC fun _ _=>rfl
 obtain ⟨_,_,qy,e0⟩:=pm;obtain ⟨_,_,qx,hx⟩:=w1;obtain ⟨_,_,pf,kv⟩:=oi;obtain ⟨_,_,sw,hP⟩:=qj;obtain ⟨_,_,rp,g5⟩:=w5;obtain ⟨_,_,q2,jw⟩:=s2;obtain ⟨_,_,pe,hQ⟩:=rm;obtain ⟨_,_,oq,f0⟩:=ph;obtain ⟨_,_,oo,iv⟩:=ve;obtain ⟨_,_,sy,jl⟩:=se;obtain ⟨_,_,q4,kr⟩:=mz;obtain ⟨_,_,s1,ko⟩:=yb;obtain ⟨_,_,n9,le⟩:=tn;obtain ⟨_,_,pw,kf⟩:=ol;obtain ⟨_,_,ou,hg⟩:=ox;obtain ⟨_,_,ng,k4⟩:=xh;obtain ⟨_,_,o2,hl⟩:=ul;obtain ⟨_,_,wl,tw,d1⟩:=ts;have nu:=d1.kp;have os:=d1.binds (ps:=["self","entry"]) fun _ _ _ _ _ _=>ZC fun _ _=>rfl
 obtain ⟨_,_,nt,md,el⟩:=s0;have ud:=el.kp;have wo:=el.binds (ps:=["self","entry"]) fun _ _ _ _ _ _=>ZC fun _ _=>rfl
 obtain ⟨_,_,ss,yf,d0⟩:=sx;have xx:=d0.kp;have rn:=d0.binds (ps:=["self","entry"]) fun _ _ _ _ _ _=>ZC fun _ _=>rfl
 obtain ⟨_,_,gf,ed⟩:=sj;obtain ⟨_,_,q0,f1⟩:=l5;obtain ⟨_,_,hK,ea⟩:=t8;obtain ⟨_,_,qz,hw⟩:=nn;obtain ⟨_,_,rh,e6⟩:=x5;obtain ⟨_,_,r4,ev⟩:=o3;obtain ⟨_,_,vv,hE⟩:=tm;obtain ⟨_,_,l4,h1⟩:=l8;obtain ⟨_,_,mu,er⟩:=mn;obtain ⟨_,_,q1,lq⟩:=lr;obtain ⟨_,_,l6,ht⟩:=nc;obtain ⟨_,_,oh,i6⟩:=ta;obtain ⟨_,_,q6,ks⟩:=xw;obtain ⟨_,_,sN,jc⟩:=od;obtain ⟨_,_,ya,i2⟩:=pr;obtain ⟨_,_,s6,hG⟩:=oc;obtain ⟨_,_,nC,jf⟩:=nT;obtain ⟨_,_,ky,c9⟩:=kx;obtain ⟨_,_,j4,c6⟩:=li;obtain ⟨_,_,kw,dn⟩:=e1;obtain ⟨_,_,ew,db⟩:=eH;have c1:=lS (st:=ZW) eF g3 c3;have k6:=c1.binds (ps:=["script"]) fun _ _ _ _ _ _=>rH fun _=>rfl
 refine ⟨W.fnOf "law" "law" (yF ZW) (vO ZW) (kK ZW) .none cn cj b4 cr b0 b2,fun s v=>.of_eq rfl,fun base _ _=>?_⟩;have T:Txt l.prog w base K mg O V S cR cN hb eC eB eT eM eU eL eW eN eD fx Y eV eY eX aU aD:={xm:=bh X G xm,xy:=bh X G xy,jm:=bh X G jm,xn:=bh X G xn,xk:=bh X G xk,wp:=bh X G wp,jo:=bh X G jo,xt:=bh X G xt,wr:=bh X G wr,jp:=bh X G jp,wu:=bh X G wu,xl:=bh X G xl,uh:=bh X G uh,xaC:=bh X G xaC,cl:=fun kd=>match kd with|.plain=>⟨ym,pi,n3,rE⟩|.basin=>⟨rP,mr,np,lw⟩|.pump=>⟨mf,ly,yk,n6⟩,vp:=fun kd=>match kd with|.plain=>s5|.basin=>m5|.pump=>rr,vc:=fun kd=>match kd with|.plain=>t6|.basin=>rl|.pump=>vx,wx:=fun kd=>match kd with|.plain=>yl|.basin=>u6|.pump=>r6,vq:=fun kd=>match kd with|.plain=>mq|.basin=>tb|.pump=>xr,xbb:=u5,xaH:=nk,vt:=aP X G op,uw:=aP X G pq,jq:=aP X G sk,clR:=⟨t1,nf,tu,t2⟩,zr:=zr,zm:=zm,zn:=zn,zf:=zf,zu:=zu,zg:=zg,xbg:=aP X G sc,clN:=⟨pc,ra,ma,xb⟩,xf:=xf,xg:=xg,xq:=xq,xbh:=aP X G qb,xbJ:=aP X G kz,xaI:=aP X G vb,xaY:=aP X G uo,xbi:=aP X G sv,xaD:=aP X G wg,ui:=aP X G wj,ux:=aP X G vj,jr:=aP X G uq,uy:=aP X G vk,xaZ:=aP X G ur,xa0:=ut,xbj:=qg,xaE:=wk,uj:=wm,uz:=vm,jt:=uu,ja:=vn,xa1:=uv,xaJ:=aP X G ek,clO:=⟨xu,td,rz,s3⟩,nO_kept_canal:=nO_kept_canal,nO_kept_names:=nO_kept_names,nO_kept_ways:=nO_kept_ways,nO_kept_state:=nO_kept_state,nO_kept_pours:=nO_kept_pours,nO_kept_words:=nO_kept_words,nO_kept_entries:=nO_kept_entries,xbp:=aP X G ri,xaF:=aP X G b1,wz:=aP X G br,ua:=aP X G bl,xcm:=aP X G ne,xbq:=aP X G sg,up:=fun H=>GU (its:=[.str "open low" f2,.str "in low" ex,.str "shut low" hs,.str "fill" jd,.str "open high" hB,.str "out high" ep,.str "shut high" g7]) lU px dU zz7 (.cons ⟨_,rfl⟩ (.cons ⟨_,rfl⟩ (.cons ⟨_,rfl⟩ (.cons ⟨_,rfl⟩ (.cons ⟨_,rfl⟩ (.cons ⟨_,rfl⟩ (.cons ⟨_,rfl⟩ .nil))))))),down:=fun H=>GU (its:=[.str "open high" e2,.str "in high" h3,.str "shut high" es,.str "let" hD,.str "open low" f5,.str "out low" f3,.str "shut low" hM]) lD uf dD zz7 (.cons ⟨_,rfl⟩ (.cons ⟨_,rfl⟩ (.cons ⟨_,rfl⟩ (.cons ⟨_,rfl⟩ (.cons ⟨_,rfl⟩ (.cons ⟨_,rfl⟩ (.cons ⟨_,rfl⟩ .nil)))))))};have D0:=zF X G a0 F0 (N8 T F0);have D1:=zL X G a1 F1 (N1 T F1);have D2:=cM X G a2 F2 (NR T F2);have D3:=zF X G a3 F3 (OH T F3 D2 D1);have D4:=zF X G a4 F4 (OG T F4 D3 D2);have D5:=zF X G a5 F5 (OE T F5 D0 D4);have D6:=zL X G a6 F6 (OS T F6 D4 D0);have D7:=cM X G a7 F7 (N2 T F7);have G8:=MN T F8;have x0:MkD l.prog w K mg base 1 "PlainLock" O ["self","name","high","low","room"] (fP (jG O V S)):=⟨T.vt,_,_,⟨na,a8,i8,ny⟩,G8,b8⟩;have hk:CmD l.prog w K mg base 1 "PlainLock" O "__init__" ["self","name","high","low","room"] (fP (jG O V S)):=⟨T.vt,_,_,⟨g1,g2,sf,k8⟩,G8,b8⟩;have G9:=LX T F9 hk;have pz:MkD l.prog w K mg base 2 "BasinLock" V ["self","name","high","low","room","side"] (fO (jG O V S) .basin):=⟨T.uw,_,_,⟨lT,a9,i9,tl⟩,G9,b9⟩;have u4:=MQ T ej hk;have nr:MkD l.prog w K mg base 2 "PumpLock" S ["self","name","high","low","room","lift"] (fO (jG O V S) .pump):=⟨T.jq,_,_,⟨qn,mw,xc,uc⟩,u4,vu⟩
 have s9:=MS T dK;have me:MkD l.prog w K mg base 1 "Reach" cR ["self","name","least","crest","berths","water","target"] (wY cR):=⟨T.xbg,_,_,⟨pd,rc,x4,rb⟩,s9,oj⟩;have r7:=MO T h0 D7;have ji:=gJ (T.cl .plain) rq mi h0 r7;have we:=LY T km D7;have jj:=gJ (T.cl .basin) pp tq km we;have vi:=MR T g8 D7;have jk:=gJ (T.cl .pump) qv s8 g8 vi;have va:MeK l.prog w K mg base 2 (jG O V S) "fill_parts" ["self","basin"] (QH (jG O V S) QC):=⟨fun kd=>by cases kd;exact ji;exact jj;exact jk⟩;have hd:=MP T d6 D7;have oy:MeD l.prog w K mg base 2 O "let_parts" ["self","basin"] (QH (jG O V S) zZ .plain):=⟨T.cl .plain,_,_,⟨nv,kg,fn⟩,(hd.imp (sp':=QH (jG O V S) zZ .plain) (fun vs H Q E ⟨x,n,h,l,room,v,b,e,a,q⟩=>⟨.plain,x,n,h,l,room,v,b,e,a,q⟩)),kt⟩;have sh:MeD l.prog w K mg base 2 S "let_parts" ["self","basin"] (QH (jG O V S) zZ .pump):=⟨T.cl .pump,_,_,⟨dT,kg,fn⟩,(hd.imp (sp':=QH (jG O V S) zZ .pump) (fun vs H Q E ⟨x,n,h,l,room,v,b,e,a,q⟩=>⟨.pump,x,n,h,l,room,v,b,e,a,q⟩)),kt⟩;have nh:=LZ T hI D7;have nw:=gJ (T.cl .basin) tg qe hI nh;have vf:MeK l.prog w K mg base 2 (jG O V S) "let_parts" ["self","basin"] (QH (jG O V S) zZ):=⟨fun kd=>by cases kd;exact oy;exact nw;exact sh⟩;have n5:=MC T d3;have uk:MkD l.prog w K mg base 1 "Canal" cN ["self","reaches","locks","nights"] (wZ (jG O V S) cR cN):=⟨T.xbh,_,_,⟨w7,og,pu,qp⟩,n5,rg⟩;have rk:=MJ T j2;have i5:=QT T.clN sS vl j2 rk;have vz:=MK T g6 i5;have dV:=QT T.clN o1 l0 g6 vz;have m3:=MH T hq dV;have q8:=QT T.clN qf mk hq m3;have n2:=ME T kl;have lm:=gJ T.clN tt rj kl n2;have n0:=MD T jz;have d2:=gJ T.clN si pk jz n0;have mp:=MM T hc i5;have ug:=QT T.clN qt tx hc mp;have l2:=MF T gp lm;have d5:=mM3 T.clN ob oL gp l2;have oT:=ML T e3 q8 D5 ug;have i0:=QT T.clN mh ql e3 oT;have nj:=zF X G lx hz (NM T hz va);have hy:=zF X G ml lg (NU T lg vf);have ni:=zF X G qw ez (NN T ez);have u0:=zF X G mc lh (NE T lh ni);have u2:=ZF X G ty h7 (N5 T h7 hy nj u0);have yh:=zF X G xd je (OJ T je);have dp:=(NV T eb yh);have kk:=CI X G kj eb dp;have nR:=zL X G kj eb (dp.noX (sp':=xM K (jG O V S) cR cN) TH);have w0:=zF X G mo ll (OK T ll);have et:=zL X G wh ey (OA T ey w0 nR);have lv:=ZF X G xi hr (NW T hr et);have rv:=zF X G nL ke (NF T ke i0);have w3:=zL X G t5 fy (NY T fy dV D6 ug);have qo:=zF X G qd g9 (OO T g9);have jv:=ZF X G ro e8 (NO T e8 lv);have gV:=zF X G r3 eq (NX T eq);have vw:=zF X G mm e4 (N0 T e4);have r0:=zL X G r2 hu (NI T hu vw);have i1:=zL X G pb fv (NH T fv d2 lm);have jg:=ZF X G xv kn (N3 T kn gV d2 i1 u2 d5);have sl:=zL X G nb lj (NT T lj i1 hy d2);have yg:=zL X G tz hY (NP T hY);have n7:=zL X G wc e5 (NL T e5 D0 yg);have x3:=ZF X G q3 hS (OQ T hS et jv n7 jg);have h2:=ZF X G sr hp (OR T hp x3 d5);have j3:=(N9 T f4 h2 jg sl D6 ug);have hA:=dX4 X G qh f4 j3
 have hh:=(N7 T js);have dk:=J4 X G lu js hh;have rx:=MI T d7 dk;have kh:=rx;have J:MeX l.prog w K mg base 2 cN "reach_at" ["self","name"] (bA (jG O V S) cR cN eU 0):=⟨T.clN,_,_,⟨nN,tp,yc⟩,kh,nF⟩;have vy:=MG T ef dk;have jn:=vy;have ah:MeX l.prog w K mg base 2 cN "lock_at" ["self","name"] (bA (jG O V S) cR cN eU 1):=⟨T.clN,_,_,⟨m4,m7,tj⟩,jn,su⟩;have fl:=(OM T hm J ah);have dt:=J4 X G yj hm fl;have u1:=L3 T i4;have F:=QT T.clO u7 n4 i4 u1;have oz:=MA T h9;have I:=QT T.clO u8 ub h9 oz;have r5:=L9 T hv;have Z:=QT T.clO x1 vh hv r5;have my:=MB T kc;have M:=QT T.clO mj tr kc my;have rf:=L8 T jx;have be:=QT T.clO q7 m1 jx rf;have q5:=L5 T h8;have am:=QT T.clO w4 mA h8 q5;have po:=L7 T hL;have al:=QT T.clO tv wd hL po;have ov:=L0 T hC rv;have t3:MkD l.prog w K mg base 7 "Book" Y ["self","canal"] (xC (jG O V S) cR cN Y):=⟨T.xbp,_,_,⟨wf,r1,wa,ry⟩,ov,mx⟩;have l1:=zF X G qy e0 (OU T e0);have xa:=cM X G qx hx (NQ T hx l1);have g4:=(NG T kv);have fr:=J4 X G pf kv g4;have eu:=(NZ T hP fr Z ah F J);have bv:=J4 X G sw hP eu;have ha:=(OC T g5 xa Z dt F kk);have hR:=J4 X G rp g5 ha;have hT:=(OD T jw F I qo);have fc:=J4 X G q2 jw hT;have ku:=(OB T hQ hR fc bv);have h5:=J4 X G pe hQ ku;have g0:=(NJ T f0 bv);have b3:=J4 X G oq f0 g0;have ho:=(OL T iv bv I F);have jh:=J4 X G oo iv ho;have hW:=(OP T jl J F jv M I jh h2 b3);have i7:=J4 X G sy jl hW;have wt:=zL X G q4 kr (OF T kr);have lf:=(NK T ko F wt bv dV D6 ug I w3 hA M b3);have c4:=J4 X G s1 ko lf;have vd:=zF X G n9 le (N6 T le);have om:=ZF X G pw kf (N4 T kf gV vd d5);have gi:=(ON T hg M dt F);have ki:=J4 X G ou hg gi;have hF:=(OI T k4 I D0 c4 r0 b3);have en:=J4 X G ng k4 hF;have hN:=(OT T hl om F M I bv);have jb:=J4 X G o2 hl hN;have sH:=L6 T d1 h5 i7;have hj:=sH;have an:MeX l.prog w K mg base 10 Y "fault" ["self","entry"] (vH (jG O V S) cR cN Y (pC eB eT eM eU eL eN eD)):=⟨T.clO,_,_,⟨wl,tw,nu⟩,hj,os⟩;have oe:=L1 T el an en ki;have lp:=oe;have bt:MeX l.prog w K mg base 12 Y "behind" ["self","entry"] (vH (jG O V S) cR cN Y (AS eB eT eM eU eL eN eD eW)):=⟨T.clO,_,_,⟨nt,md,ud⟩,lp,wo⟩;have ls:=L4 T d0 bt c4 jb;have hH:=ls;have cz:MeX l.prog w K mg base 13 Y "do" ["self","entry"] (BY (jG O V S) cR cN Y eB eT eM eU eL eN eD eW):=⟨T.clO,_,_,⟨ss,yf,xx⟩,hH,rn⟩;have c5:=(MY T ed);have dx:=CI X G gf ed c5;have b5:=zL X G gf ed (c5.noX (sp':=dJ K) WT);have jy:=cM X G q0 f1 (M9 T f1);have df:=(M3 T ea dx)
 have ju:=CI X G hK ea df;have qk:=zL X G hK ea (df.noX (sp':=fE K) UQ);have sq:=ZF X G qz hw (M5 T hw b5 me);have sm:=LL X G rh e6 (M2 T e6 b5 pz nr x0);have yd:=ZF X G r4 ev (NB T ev b5);have qa:=ZF X G vv hE (MV T hE jy b5 qk yd sq uk sm);have wq:=zF X G l4 h1 (M8 T h1);have ue:=ZF X G mu er (NA T er b5 wq);have qq:=zL X G q1 lq (MW T lq);have vg:=zL X G l6 ht (NC T ht);have n1:=LL X G oh i6 (MZ T i6 vg);have t4:=cM X G q6 ks (ND T ks);have ow:=zF X G sN jc (M4 T jc t4);have s4:=zL X G ya i2 (M6 T i2);have s7:=zL X G s6 hG (MU T hG s4);have xz:=zF X G nC jf (M0 T jf);have h6:=zL X G ky c9 (M1 T c9 xz);have dr:=cM X G j4 c6 (M7 T c6 Z M be al am I);have dj:=cM X G kw dn (MX T dn);have ih:=cM X G ew db (MT T db dr dj);have ce:=NS T c1 qa t3 ju dr dx qq ue an cz dj n1 Z I jy s7 M i0 ow be h6 al ih am;have co:=ce;have qc:=o9 co (aP X G c2) c3 k6;have ce:=co.noX (sp':=dQ K) X5;exact ce
theorem walk {l:W.OpenLaw} {q:Program} {E:List Str} {Z:(Str->Option Value)->Heap->Prop} {O:World->Heap->Prop} {d:DefRec} {K:Params->W.Frag} (hn:l.most=some 63) (I:d.params.defaults=[])
  (V:∀(w:World) (h:Heap),O w h->(K w.params).In h)
  (F:∀(w:World) (G:Str->Option Value) (J:Addr) (h:Heap),(K w.params).In h->h.Ns mainGlobals G->G d.name=some (.ref J)->
   ∃M:FuncData,(∀(s:Shared) (u:Value),BindsTo s M ⟨[u],[]⟩ [("script",u)])/\∀base:Heap,(K w.params).In base->base.Ns mainGlobals G->FnOk l.prog w (K w.params) G base jT 14 J M ["script"] (dQ (K w.params))) :
  W.WalkO q E Z O l.row.toRowW d [] (fun f vs=>PySem.call f vs) :=
 L2.walk_of (n:=63) (k:=14) (x:="script") (CX:=fun _=>jT) (sp:=fun w=>dQ (K w.params)) hn (by decide) I ⟨rfl,by decide,by decide⟩ V F (fun _ _ a Y hl _ S=>⟨a,Y,rfl,S,hl,fun _=>rfl⟩) fun _ _ _ _ _ z=>z
end My
/- names taken so that the head below leaves out its twins of whole states (they are not needed, and make the compiled file larger than a hand-in may be) -/
namespace PySem.W.Fast
def tw14951914612283604632:=0
def tw10054477262268932778:=0
def tw15003015243831942028:=0
def tw12145346477190290626:=0
def tw13512361037022302487:=0
def tw17493326544178385691:=0
def tw4084113885558983511:=0
def tw2375104985722863144:=0
def tw652680392886403304:=0
def tw12120274190939226408:=0
def tw11455898492599536626:=0
def tw16315115032283403069:=0
def tw7086208371445314798:=0
def tw15505496738131953971:=0
def tw4920685107936626662:=0
def tw16433635882341266294:=0
def tw2531595808846600189:=0
def tw394174607822992085:=0
def tw7442636147924595924:=0
def tw17123932098601809902:=0
def tw15537887620940690705:=0
def tw7190095917107728453:=0
def tw7793778759984956861:=0
def tw6220925622167134540:=0
def tw9447129196142685408:=0
def tw3126438757888532501:=0
def tw7164497768739318826:=0
def tw11452873739658315469:=0
def tw16899065767068983607:=0
def tw15222992226484248561:=0
def tw9783124661134723245:=0
def tw7320072582220599296:=0
def tw11859245859005007364:=0
def tw2765315749598220711:=0
def tw10602313687937124479:=0
def tw5371748664644400151:=0
def tw7298600889542537276:=0
def tw11228253243164438400:=0
def tw10969779420788305558:=0
def tw16562690980535992237:=0
def tw13889317297917311681:=0
def tw5562101598917179215:=0
def tw16012460623724400847:=0
def tw12854199030729401448:=0
def tw13251948050189635473:=0
def tw3233032208826056267:=0
def tw7317262592839927396:=0
def tw7134800525424200044:=0
def tw14279101062021813436:=0
def tw10632191653960454187:=0
def tw10051949044863820029:=0
def tw7981683936581784733:=0
def tw13035830550604512986:=0
def tw1498586956588860329:=0
def tw17816240908378127886:=0
def tw5529175770648091378:=0
def tw3245771385129858403:=0
def tw9026715060253824733:=0
def tw7047769952815292978:=0
def tw13577877769900847176:=0
def tw7029432806465051097:=0
def tw2068316514066666368:=0
def tw7403636777407120516:=0
def tw15028602534803356279:=0
def tw9734122224542322631:=0
def tw6507540870457606903:=0
def tw1929046865331678705:=0
def tw726104756669598484:=0
def tw14710043908631808253:=0
def tw5742445418881256291:=0
def tw14045055263056225483:=0
def tw558601490471408831:=0
def tw5305424706320414835:=0
def tw14273079036518252388:=0
def tw4369836670209023546:=0
def tw8557821562797490176:=0
def tw778768811026349790:=0
def tw14284685436245595383:=0
def tw11675284630648824558:=0
def tw4731474170425693084:=0
def tw13212876805414464424:=0
def tw13592538675325834339:=0
def tw12428204971486842638:=0
def tw10985573748975112678:=0
def tw4273227294978346202:=0
def tw4506088483641934619:=0
def tw16974248317586933212:=0
def tw10633907459235344768:=0
def tw9702784179331285338:=0
def tw10341131773773817976:=0
def tw11151065515307983695:=0
def tw1385863351232164916:=0
def tw15012768493654565707:=0
def tw16615310445624602742:=0
def tw2522300435505343527:=0
def tw12442210173711222499:=0
def tw2914913519374094160:=0
def tw11807158102448515993:=0
def tw16028706724231904935:=0
def tw15330696887170977156:=0
def tw3620714916052484674:=0
def tw557410715076271905:=0
def tw5211072171021355921:=0
def tw10450918219632334243:=0
def tw13925500085390684527:=0
def tw12068912630572461495:=0
def tw1180426585581958251:=0
def tw15340541199703729702:=0
def tw17349602704876419511:=0
def tw7940886180550349535:=0
def tw16163614900211307862:=0
def tw1628021902465141729:=0
def tw14924249349179700426:=0
def tw4176261883241819186:=0
def tw6025730310235001769:=0
def tw12840457839237711976:=0
def tw2338296516656436375:=0
def tw12670506482330983895:=0
def tw13690120737831697846:=0
def tw18379751313660542315:=0
def tw12569774585370586200:=0
def tw16710206745755344142:=0
def tw749844083215963122:=0
def tw14905026295792847240:=0
def tw15134994858405503068:=0
def tw15240922715348171945:=0
def tw14821208387200299807:=0
def tw5425392077459770063:=0
def tw6381957932575892746:=0
def tw16088882892039243047:=0
def tw2750773250756414383:=0
def tw938639059531382429:=0
def tw1213726515589451962:=0
def tw3224824990850468287:=0
def tw14006193470648145212:=0
def tw11876018415946478114:=0
def tw4290429406573282337:=0
def tw7525680135971346613:=0
def tw10009354399754995260:=0
def tw7749082026973608633:=0
def tw12600030788559868854:=0
def tw12676489967194300655:=0
def tw5990470517329800294:=0
def tw6176699701443653827:=0
def tw8377652217609005665:=0
def tw16404501250634409525:=0
def tw3145615087421270448:=0
def tw11568717299273856550:=0
def tw16819993335237829415:=0
def tw5006708001557570741:=0
def tw13125456605203009763:=0
def tw4892499388507305300:=0
def tw6919827475960971089:=0
def tw11035456035165836629:=0
def tw359527096812775427:=0
def tw3516759161415398046:=0
def tw3912124632778658574:=0
def tw13631902023954876691:=0
def tw11814853782009931668:=0
def tw12979610619253780886:=0
def tw6651907469100293971:=0
def tw16313364836704501593:=0
def tw13321613896750483128:=0
def tw3149336999549944007:=0
def tw4113120401472160509:=0
def tw11049583863432888125:=0
def tw13282882780389843338:=0
def tw4709014656454375938:=0
def tw15484648890776962357:=0
def tw12362039534633984054:=0
def tw3386424048593842980:=0
def tw5671051250241560210:=0
def tw1439151095053557721:=0
def tw6857614371239044102:=0
def tw2201967578080261541:=0
def tw737353120541187214:=0
def tw1864824371561741763:=0
def tw13022014632321750895:=0
def tw15786712108297138605:=0
def tw15051078785822727961:=0
def tw10190898209491439485:=0
def tw6819895550656896619:=0
def tw8389105916445924058:=0
def tw3028626482093348281:=0
def tw6247065195771833441:=0
def tw102483397466684015:=0
def tw18119900237046907784:=0
def tw15414187841070250558:=0
def tw18058512336811101202:=0
def tw6409412526739844007:=0
def tw3849647043518630907:=0
def tw15557588586155351521:=0
def tw7248320750514462227:=0
def tw9593664541553988833:=0
def tw11260394477655734797:=0
def tw553633645040102011:=0
def tw16140582481394526685:=0
def tw8496284882833147237:=0
def tw9468410154015234542:=0
def tw5268850194878606520:=0
def tw15019672366983022920:=0
def tw3180818203835490491:=0
def tw9881099034573950749:=0
def tw1463652378513374936:=0
def tw932532141421299095:=0
def tw4652154571189260474:=0
def tw9691921271721865702:=0
def tw18360050082927375438:=0
def tw17555730003131441625:=0
def tw18083892562443086683:=0
def tw14207225137939426876:=0
def tw228802653364225783:=0
def tw13799468228630641476:=0
def tw7783705547450618673:=0
def tw9213661058171119063:=0
def tw14898566038128913638:=0
def tw4936792747039416744:=0
def tw13362308349413732388:=0
def tw1838565060359593538:=0
def tw2409024093957970097:=0
def tw18177660728302471504:=0
def tw15896493931409225770:=0
def tw5543351067991127850:=0
def tw3783590689542975839:=0
def tw3772828720528263531:=0
def tw15999783423177799456:=0
def tw10015665195102496936:=0
def tw18426916020196837393:=0
def tw11398233725015049308:=0
def tw474454710454846602:=0
def tw17091131132852190104:=0
def tw7198164157352555911:=0
def tw7251789188210462966:=0
def tw15291567592293991647:=0
def tw7273899306320441934:=0
def tw18075979887080086837:=0
def tw3795038940002727333:=0
def tw1080360649611397954:=0
def tw7781912120437886782:=0
def tw15830214909545632004:=0
def tw10131701624447269528:=0
def tw8660403056762228223:=0
def tw414606685872464429:=0
def tw12208188147413082535:=0
def tw13368593297399899518:=0
def tw9229716671676985789:=0
def tw12100315381941740645:=0
def tw18269105956462080208:=0
def tw12913040551680712054:=0
def tw16698879422127335470:=0
def tw10464409859885775554:=0
def tw10947780517644952297:=0
def tw13710969954657911986:=0
def tw5284299429046002317:=0
end PySem.W.Fast
open PySem PySem.W PyProof.Rows
set_option maxRecDepth 100000 in
set_option maxHeartbeats 0 in
theorem PySem.Challenge.cw_lockhouse_k64_whole_water_and_gates_holds : PySem.Challenge.rw_lockhouse_k64_whole_water_and_gates.Holds := by
 w_on;o_law;k_head;(case hw=>w_witness2)
 k_fill
 refine My.walk (l:=PySem.Challenge.rw_lockhouse_k64_whole_water_and_gates) rfl rfl (fun w h Y=>PySem.W.kIn_of Y) ?F
 case F =>
  intro w mg fa h KX G hmg
  refine' My.all_mk KX G hmg ?xbM ?xbN ?xbO ?xbP ?xbQ ?vb ?uo ?xaa ?wg ?wj ?vj ?uq ?vk ?ur ?xbR ?p0 ?p1 ?p2 ?p3 ?p4 ?p5 ?p6 ?p7 ?a8 ?i8 ?ac8 ?p8 ?a9 ?i9 ?p9 ?a10 ?i10 ?p10 ?a11 ?i11 ?p11 ?p12 ?p13 ?p14 ?a15 ?a15_U ?i15 ?p15 ?p16 ?a17 ?i17 ?l17 ?c17 ?k17 ?lT17 ?dT17 ?p18 ?p19 ?p20 ?p21 ?p22 ?p23 ?p24 ?p25 ?p26 ?p27 ?p28 ?p29 ?p30 ?p31 ?p32 ?p33 ?p34 ?p35 ?p36 ?p37 ?p38 ?p39 ?p40 ?p41 ?p42 ?p43 ?p44 ?p45 ?p46 ?p47 ?p48 ?p49 ?p50 ?p51 ?p52 ?p53 ?p54 ?p55 ?p56 ?p57 ?p58 ?p59 ?p60 ?p61 ?p62 ?p63 ?p64 ?p65 ?p66 ?p67 ?p68 ?p69 ?p70 ?p71 ?p72 ?p73 ?p74 ?p75 ?p76 ?p77 ?p78 ?p79 ?p80 ?p81 ?p82 ?p83 ?p84 ?p85 ?p86 ?p87 ?p88 ?p89 ?p90 ?p91 ?p92 ?p93 ?p94 ?p95 ?p96 ?p97 ?p98 ?p99 ?p100 ?p101 ?p102 ?p103 ?a104 ?l104 ?c104 ?k104 ?xm ?xy ?jm ?xn ?xk ?wp ?jo ?xt ?wr ?jp ?wu ?xl ?uh ?xaC ?xbS ?xbu ?xbT ?xbU ?xbV ?xbW ?xab ?xac ?xaS ?xad ?xbX ?xbv ?xbY ?xbZ ?xb0 ?xb1 ?xae ?xaf ?xaT ?xag ?xah ?xb2 ?xbw ?xb3 ?xb4 ?xb5 ?xb6 ?xai ?xaj ?xaU ?xak ?xal ?g1 ?g2 ?xb7 ?xbx ?xb8 ?xb9 ?xca ?xcb ?zr ?zm ?zn ?zf ?zu ?zg ?xcc ?xby ?xcd ?xce ?xcf ?xcg ?xf ?xg ?xq ?gSEA ?ut ?xam ?wk ?wm ?vm ?uu ?vn ?uv ?gHOME ?xch ?xbz ?xci ?xcj ?xck ?xcl ?nO_kept_canal ?nO_kept_names ?nO_kept_ways ?nO_kept_state ?nO_kept_pours ?nO_kept_words ?nO_kept_entries ?gLETTERS ?gMOST_SIGNS ?gMOST_BOATS ?agU ?agD ?lU ?lD ?cU_ ?cD_ ?dU ?dD
  (case xbM|xbN|xbO|xbP|xbQ|vb|uo|xaa|wg|wj|vj|uq|vk|ur|xbR|a104|xm|xy|jm|xn|xk|wp|jo|xt|wr|jp|wu|xl|uh|xaC|gSEA|gHOME|gLETTERS|gMOST_SIGNS|gMOST_BOATS|agU|agD=>refine' L2.nsP_mk ?_;first|k_is|k_exc|kit_is|kts_exm|rfl)
  (case a8|a9|a10|a11|a15|a15_U|a17|xbU|xab|xac|xaS|xad|xbZ|xae|xaf|xaT|xag|xah|xb4|xai|xaj|xaU|xak|xal|xb9|zr|zm|zn|zf|zu|zg|xce|xf|xg|xq|xcj|nO_kept_canal|nO_kept_names|nO_kept_ways|nO_kept_state=>refine' L2.fnP_mk ?_;first|k_is|k_exc|kit_is|kts_exm|rfl)
  (case nO_kept_pours|nO_kept_words|nO_kept_entries=>refine' L2.fnP_mk ?_;first|k_is|k_exc|kit_is|kts_exm|rfl)
  (case i8|ac8|i9|i10|i11|i15|i17|l17|c17|k17|lT17|dT17|l104|c104|k104|xbS|xbu|xbT|xbV|xbW|xbX|xbv|xbY|xb0|xb1|xb2|xbw|xb3|xb5|xb6|g1|g2|xb7|xbx|xb8|xca|xcb|xcc|xby|xcd=>first|k_is|k_exc|kit_is|kts_exm|rfl)
  (case xcf|xcg|ut|xam|wk|wm|vm|uu|vn|uv|xch|xbz|xci|xck|xcl|lU|lD|cU_|cD_|dU|dD=>first|k_is|k_exc|kit_is|kts_exm|rfl)
  (case p8|p9|p10|p11|p15=>refine' ⟨_,L2.lS ?l ?c ?k⟩;(case l=>k_is);(case c=>k_is);(case k=>k_is))
  (case p0|p1|p2|p3|p4|p5|p6|p7|p26|p27|p28|p29|p30|p31|p32|p33|p34|p35|p36|p37|p38|p39|p40|p41|p42|p43|p44|p45|p46|p47|p48|p49|p50|p51|p54|p63|p64|p65|p66|p67=>refine' L2.fnT_mk ?a ?l ?c ?k;(case a=>k_is);(case l=>k_is);(case c=>k_is);(case k=>k_is))
  (case p68|p69|p70|p71|p72|p73|p74|p75|p76|p77|p78|p79|p83|p84|p85|p86|p87|p88|p89|p90|p91|p92|p93|p94|p95|p96|p97|p98|p99|p100|p101|p102|p103=>refine' L2.fnT_mk ?a ?l ?c ?k;(case a=>k_is);(case l=>k_is);(case c=>k_is);(case k=>k_is))
  (case p12|p13|p14|p16|p18|p19|p20|p21|p22|p23|p24|p25|p52|p53|p55|p56|p57|p58|p59|p60|p61|p62|p80|p81|p82=>refine' L2.fnC_mk ?a ?i ?l ?c ?k;(case a=>k_is);(case i=>first|k_is|rfl);(case l=>k_is);(case c=>k_is);(case k=>k_is))
