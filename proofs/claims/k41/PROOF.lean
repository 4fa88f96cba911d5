import PyProof.Rows.All
import Wide.All
import OpenK.AllK
import Wide.FinOn
import Lean
import PyProof.EqAt
import PyProof.EqKinds
import PyProof.TupleCall
import PyProof.NeKinds
import OpenK.KOwn
import KE.KTryMore
import KE.RegKTryMore
import PyProof.NsDelKeeps
import KE.KIntText
import PySem.Challenge.RW_lockhouse_k41_ways_linked
set_option Elab.async false
set_option linter.all false
set_option maxRecDepth 100000
namespace L2
open PySem PySem.Spec PyProof.Rows
abbrev Key := Sum Int Str
def keyIs : Key → Value → Bool
  | .inl k, v => Value.isInt k v
  | .inr x, v => Value.isStrOf x v
def keyH (w : World) : Key → Int
  | .inl k => hashInt k
  | .inr x => hashStr w x
theorem keyIs_shape : ∀ {k : Key} {v : Value}, keyIs k v = true → (∃ i t, k = Sum.inl i ∧ v = Value.int i t) ∨ (∃ x t, k = Sum.inr x ∧ v = Value.str x t)
  | .inl i, v, h => by
    obtain ⟨t, e⟩ := Value.isInt_shape (k := i) (v := v) h
    exact .inl ⟨i, t, rfl, e⟩
  | .inr x, v, h => by
    obtain ⟨t, e⟩ := Value.isStrOf_shape (x := x) (v := v) h
    exact .inr ⟨x, t, rfl, e⟩
theorem key_ll (a b : Int) : decide ((Sum.inl a : Key) = Sum.inl b) = (a == b) := by
  by_cases e : a = b
  · subst e; simp
  · have h : ¬ (Sum.inl a : Key) = Sum.inl b := fun q => e (Sum.inl.inj q)
    rw [decide_eq_false h]
    exact (beq_eq_false_iff_ne.mpr e).symm
theorem key_rr (a b : Str) : decide ((Sum.inr a : Key) = Sum.inr b) = decide (a = b) := by
  by_cases e : a = b
  · subst e; simp
  · have h : ¬ (Sum.inr a : Key) = Sum.inr b := fun q => e (Sum.inr.inj q)
    rw [decide_eq_false h, decide_eq_false e]
theorem key_lr (a : Int) (b : Str) : decide ((Sum.inl a : Key) = Sum.inr b) = false := decide_eq_false (fun q => nomatch q)
theorem key_rl (a : Str) (b : Int) : decide ((Sum.inr a : Key) = Sum.inl b) = false := decide_eq_false (fun q => nomatch q)
def mixKind (prog : Program) (w : World) : PySem.KeyKind prog w Key where
  is := keyIs
  hash := keyH w
  inj := fun v a b ha hb => by
    rcases keyIs_shape ha with ⟨i, t, rfl, rfl⟩ | ⟨x, t, rfl, rfl⟩
    · rcases keyIs_shape hb with ⟨j, u, rfl, e⟩ | ⟨y, u, rfl, e⟩
      · injection e with e1 _; rw [e1]
      · exact nomatch e
    · rcases keyIs_shape hb with ⟨j, u, rfl, e⟩ | ⟨y, u, rfl, e⟩
      · exact nomatch e
      · injection e with e1 _; rw [e1]
  byValue := fun k v h => by
    rcases keyIs_shape h with ⟨i, t, rfl, rfl⟩ | ⟨x, t, rfl, rfl⟩ <;> rfl
  pyHash := fun hv h => by
    rcases keyIs_shape hv with ⟨i, t, rfl, rfl⟩ | ⟨x, t, rfl, rfl⟩
    · exact wpAny_pyHash_int h
    · exact wpAny_pyHash_str h
  eqBool := fun hu hv h => by
    rcases keyIs_shape hu with ⟨i, t, rfl, rfl⟩ | ⟨x, t, rfl, rfl⟩
    · rcases keyIs_shape hv with ⟨j, u, rfl, rfl⟩ | ⟨y, u, rfl, rfl⟩
      · rw [key_ll] at h; exact wpAny_eqBool_int h
      · rw [key_lr] at h; exact SeqAt.EqAt.int_str i t y u _ _ _ _ h
    · rcases keyIs_shape hv with ⟨j, u, rfl, rfl⟩ | ⟨y, u, rfl, rfl⟩
      · rw [key_rl] at h; exact SeqAt.EqAt.str_int x t j u _ _ _ _ h
      · rw [key_rr] at h; exact wpAny_eqBool_str h
  «strs» := fun k x t v h => by
    rcases keyIs_shape h with ⟨i, u, rfl, e⟩ | ⟨y, u, rfl, e⟩
    · exact nomatch e
    · injection e with e1 _
      subst e1
      cases v <;> rfl
end L2
namespace L2
open PySem PySem.Spec PyProof.Rows
inductive V where
  | non | bl (b : Bool) | int (i : Int) | str (x : Str) | byt (b : Array UInt8) | flt (b : UInt64) | ref (a : Addr) | ty (n : String)
  deriving DecidableEq
def RelV : V → Value → Prop
  | .non, u => u = Value.none
  | .bl b, u => u = Value.bool b
  | .int i, u => ∃ t, u = Value.int i t
  | .str x, u => ∃ t, u = Value.str x t
  | .byt b, u => ∃ t, u = Value.bytes b t
  | .flt b, u => ∃ t, u = Value.float b t
  | .ref a, u => u = Value.ref a
  | .ty n, u => u = Value.type n
abbrev Vals : List V → List Value → Prop := Paired RelV
theorem Vals.length {xs : List V} {us : List Value} (r : Vals xs us) : xs.length = us.length := Paired.length r
theorem Vals.get : ∀ {xs : List V} {us : List Value} {i : Nat} {x : V}, Vals xs us → xs[i]? = some x → ∃ u, us[i]? = some u ∧ RelV x u
  | _, _, _, _, .nil, e => by simp at e
  | _, _, 0, _, .cons r _, e => by simp at e; subst e; exact ⟨_, rfl, r⟩
  | _, _, i + 1, x, .cons _ t, e => by
    obtain ⟨u, h1, h2⟩ := Vals.get (i := i) (x := x) t (by simpa using e)
    exact ⟨u, by simpa using h1, h2⟩
theorem Vals.set {x : V} {u : Value} (r : RelV x u) : ∀ {xs : List V} {us : List Value} (i : Nat), Vals xs us → Vals (xs.set i x) (us.set i u)
  | _, _, _, .nil => .nil
  | _, _, 0, .cons _ t => .cons r t
  | _, _, i + 1, .cons q t => .cons q (Vals.set r i t)
theorem Vals.append : ∀ {xs ys : List V} {us ws : List Value}, Vals xs us → Vals ys ws → Vals (xs ++ ys) (us ++ ws)
  | _, _, _, _, .nil, s => s
  | _, _, _, _, .cons r t, s => .cons r (Vals.append t s)
theorem Vals.take : ∀ {xs : List V} {us : List Value} (n : Nat), Vals xs us → Vals (xs.take n) (us.take n)
  | _, _, 0, _ => .nil
  | _, _, _ + 1, .nil => .nil
  | _, _, n + 1, .cons r t => .cons r (Vals.take n t)
theorem Vals.drop : ∀ {xs : List V} {us : List Value} (n : Nat), Vals xs us → Vals (xs.drop n) (us.drop n)
  | _, _, 0, r => r
  | _, _, _ + 1, .nil => .nil
  | _, _, n + 1, .cons _ t => Vals.drop n t
def RelO : Option V → Option Value → Prop
  | some v, some u => RelV v u
  | none, none => True
  | _, _ => False
def KV {κ : Type} : List (κ × V) → List (κ × Value) → Prop := Paired fun (p : κ × V) (q : κ × Value) => p.1 = q.1 ∧ RelV p.2 q.2
def kV : Key → V
  | .inl i => .int i
  | .inr x => .str x
inductive HO where
  /-- a list -/
  | lst (xs : List V)
  /-- a tuple (never changes) -/
  | tup (xs : List V)
  /-- a dict whose keys are ints and texts; one whose keys are tuples of ints and texts (the empty one is both) -/
  | dK (kvs : List (Key × V)) | dT (kvs : List (List Key × V))
  /-- a set of ints: its members, its size -/
  | set (S : Int → Bool) (n : Nat)
  /-- an instance of the class at C, its dict at dx, its attributes -/
  | ins (C dx : Addr) (fs : List (Str × V))
  /-- the dict of the instance at x -/
  | own (x : Addr)
  /-- the dict of an exception -/
  | xd (fs : List (Str × V))
  /-- a bound method, f of x -/
  | met (f x : Addr)
  /-- a range object lo, lo + 1, .. below hi -/
  | rng (lo hi : Int)
  /-- a thing that is known to the object (the script; a dict while a loop walks it): read, never written while it is so -/
  | frz (o : Obj) (u : HO)
  /-- a code object's table -/
  | tbl (ps : Array Value)
  /-- any other thing, by what is true of its one object (a def of one's own: SetO a S n := HO.ext fun h => ..) -/
  | ext (φ : Heap → Prop)
abbrev Hp := Addr → Option HO
def upd (H : Hp) (a : Addr) (o : HO) : Hp := fun b => if b = a then some o else H b
theorem upd_same {H : Hp} {a : Addr} {o : HO} : upd H a o a = some o := by unfold upd; rw [if_pos rfl]
theorem upd_ne {H : Hp} {a b : Addr} {o : HO} (h : b ≠ a) : upd H a o b = H b := by unfold upd; rw [if_neg h]
theorem ne_of {H : Hp} {a b : Addr} {o u : HO} (h : H a = some o) (h' : H b = some u) (d : o ≠ u) : a ≠ b := by
  intro e; subst e; rw [h] at h'; exact d (Option.some.inj h')
theorem ne_of_none {H : Hp} {a b : Addr} {o : HO} (h : H a = some o) (h' : H b = none) : a ≠ b := by
  intro e; subst e; rw [h] at h'; cases h'
section
variable (P : Program) (w : World)
def ObjOk (H : Hp) (h : Heap) (a : Addr) : HO → Prop
  | .lst xs => xs.length ≤ sizeLine ∧ ∃ (its : List Value) (n : Nat), Vals xs its ∧ h.get? a = some { cls := .type "list", data := .seq its.toArray n }
  | .tup xs => xs.length ≤ sizeLine ∧ ∃ its : List Value, Vals xs its ∧ IsTup h a its.toArray
  | .dK kvs => kvs.length ≤ sizeLine ∧ (a == sysModules) = false ∧ ∃ vs, KV kvs vs ∧ h.DictOf (mixKind P w) a vs
  | .dT kvs => kvs.length ≤ sizeLine ∧ (a == sysModules) = false ∧ ∃ xs : List (List Key × Addr × Value),
      Paired (fun (p : List Key × V) (q : List Key × Addr × Value) => p.1 = q.1 ∧ H q.2.1 = some (.tup (p.1.map kV)) ∧ RelV p.2 q.2.2) kvs xs ∧
      ∃ o es ep, h.get? a = some o ∧ o.ExactDict ∧ o.data = .dict es ep ∧ es.toList = xs.map (entryOfKey (tupleKind (mixKind P w))) ∧ (xs.map (·.1)).Nodup
  | .set S n => h.SetOf (intKind P w) a S n
  | .ins C dx fs => H dx = some (.own a) ∧ fs.length ≤ 1000 ∧ dx ≠ a ∧ h.get? a = some (PySem.W.instObj C dx) ∧
      ∃ mA, h.Ns1 dx mA ∧ (∀ f, RelO (fs.lookup f) (mA f)) ∧ PySem.Within mA (fs.map (·.1))
  | .own _ => ∃ o, h.get? a = some o
  | .xd fs => ∃ mA, h.Ns1 a mA ∧ ∀ f, RelO (fs.lookup f) (mA f)
  | .rng lo hi => ∃ t u v, h.get? a = some { cls := .type "range", data := .fields #[.int lo t, .int hi u, .int 1 v] }
  | .frz o u => h.get? a = some o ∧ ObjOk H h a u
  | .tbl ps => h.get? a = some { cls := .none, data := .fields ps }
  | .met f x => h.get? a = some (PySem.W.methodObj (.ref f) (.ref x))
  | .ext φ => φ h ∧ (∃ o, h.get? a = some o) ∧ ∀ h1 h2 : Heap, φ h1 → (∀ o, h1.get? a = some o → h2.get? a = some o) → φ h2
def HOk (H : Hp) (h : Heap) : Prop := ∀ a o, H a = some o → ObjOk P w H h a o
end
section
variable {P : Program} {w : World} {H H' : Hp} {h h' : Heap} {a : Addr} {o : HO}
theorem ObjOk.lt (x : ObjOk P w H h a o) : a < h.objs.size := by
  cases o with
  | lst xs => obtain ⟨_, _, _, _, e⟩ := x; exact Heap.lt_size e
  | tup xs => obtain ⟨_, _, _, p⟩ := x; exact p.lt
  | dK kvs => obtain ⟨_, _, _, _, o, _, _, e, _⟩ := x; exact Heap.lt_size e
  | dT kvs => obtain ⟨_, _, _, _, o, _, _, e, _⟩ := x; exact Heap.lt_size e
  | set S n => obtain ⟨o, _, _, _, e, _⟩ := x; exact Heap.lt_size e
  | ins C dx fs => obtain ⟨_, _, _, e, _⟩ := x; exact Heap.lt_size e
  | own y => obtain ⟨_, e⟩ := x; exact Heap.lt_size e
  | xd fs => obtain ⟨_, ⟨_, _, _, e, _⟩, _⟩ := x; exact Heap.lt_size e
  | rng lo hi => obtain ⟨_, _, _, e⟩ := x; exact Heap.lt_size e
  | frz ob u => obtain ⟨e, _⟩ := x; exact Heap.lt_size e
  | tbl ps => exact Heap.lt_size (show h.get? a = some _ from x)
  | met f y => exact Heap.lt_size (show h.get? a = some _ from x)
  | ext φ => obtain ⟨_, ⟨_, e⟩, _⟩ := x; exact Heap.lt_size e
theorem Paired.mapP {α β : Type} {F G : α → β → Prop} : ∀ {l₁ : List α} {l₂ : List β}, Paired F l₁ l₂ → (∀ a b, F a b → G a b) → Paired G l₁ l₂
  | _, _, .nil, _ => .nil
  | _, _, .cons r t, f => .cons (f _ _ r) (Paired.mapP t f)
theorem ObjOk.stay (x : ObjOk P w H h a o) (k : ∀ b u, (b = a ∨ H b = some (.own a)) → h.get? b = some u → h'.get? b = some u)
    (ho : ∀ b, H b = some (.own a) → H' b = some (.own a)) (ht : ∀ b xs, H b = some (.tup xs) → H' b = some (.tup xs)) : ObjOk P w H' h' a o := by
  induction o with
  | lst xs => obtain ⟨z, its, n, r, e⟩ := x; exact ⟨z, its, n, r, k _ _ (.inl rfl) e⟩
  | tup xs => obtain ⟨z, its, r, ob, e, c⟩ := x; exact ⟨z, its, r, ob, k _ _ (.inl rfl) e, c⟩
  | dK kvs => obtain ⟨z, y, vs, r, ob, es, ep, e, c⟩ := x; exact ⟨z, y, vs, r, ob, es, ep, k _ _ (.inl rfl) e, c⟩
  | dT kvs =>
    obtain ⟨z, y, xs, r, ob, es, ep, e, c⟩ := x
    exact ⟨z, y, xs, Paired.mapP r fun p q z => ⟨z.1, ht _ _ z.2.1, z.2.2⟩, ob, es, ep, k _ _ (.inl rfl) e, c⟩
  | set S n => obtain ⟨ob, es, ep, t, e, c⟩ := x; exact ⟨ob, es, ep, t, k _ _ (.inl rfl) e, c⟩
  | ins C dx fs =>
    obtain ⟨d, z, ne, e, mA, ⟨od, es, ep, e2, c⟩, r⟩ := x
    exact ⟨ho _ d, z, ne, k _ _ (.inl rfl) e, mA, ⟨od, es, ep, k _ _ (.inr d) e2, c⟩, r⟩
  | own y => obtain ⟨ob, e⟩ := x; exact ⟨ob, k _ _ (.inl rfl) e⟩
  | xd fs => obtain ⟨mA, ⟨od, es, ep, e, c⟩, r⟩ := x; exact ⟨mA, ⟨od, es, ep, k _ _ (.inl rfl) e, c⟩, r⟩
  | rng lo hi => obtain ⟨t, u, v, e⟩ := x; exact ⟨t, u, v, k _ _ (.inl rfl) e⟩
  | frz ob u ih => obtain ⟨e, q⟩ := x; exact ⟨k _ _ (.inl rfl) e, ih q⟩
  | tbl ps =>
    have e : h.get? a = some { cls := .none, data := .fields ps } := x
    show h'.get? a = some { cls := .none, data := .fields ps }
    exact k a _ (.inl rfl) e
  | met f y =>
    have e : h.get? a = some (PySem.W.methodObj (.ref f) (.ref y)) := x
    show h'.get? a = some (PySem.W.methodObj (.ref f) (.ref y))
    exact k a _ (.inl rfl) e
  | ext φ => obtain ⟨p, ⟨o, e⟩, st⟩ := x; exact ⟨st _ _ p fun o q => k _ _ (.inl rfl) q, ⟨o, k _ _ (.inl rfl) e⟩, st⟩
theorem HOk.lt (x : HOk P w H h) (e : H a = some o) : a < h.objs.size := (x a o e).lt
theorem HOk.fresh (x : HOk P w H h) (e : h.objs.size ≤ a) : H a = none := by
  cases q : H a with
  | none => rfl
  | some u => exact absurd (Nat.lt_of_lt_of_le (x.lt q) e) (Nat.lt_irrefl _)
theorem HOk.kept (x : HOk P w H h) (k : ∀ b u, h.get? b = some u → h'.get? b = some u) : HOk P w H h' := fun a o e =>
  (x a o e).stay (fun b u _ q => k b u q) (fun _ q => q) fun _ _ q => q
theorem HOk.laid (x : HOk P w H h) (k : ∀ b u, h.get? b = some u → h'.get? b = some u) (hp : h.objs.size ≤ a) (new : ObjOk P w (upd H a o) h' a o) : HOk P w (upd H a o) h' := fun b u e => by
  have hn := x.fresh hp
  by_cases hb : b = a
  · subst hb; rw [upd_same] at e; cases e; exact new
  · rw [upd_ne hb] at e
    exact (x b u e).stay (fun c v _ q => k c v q) (fun c q => by rw [upd_ne (ne_of_none q hn)]; exact q) fun c xs q => by rw [upd_ne (ne_of_none q hn)]; exact q
end
def Rd (H : Hp) (a : Addr) (u : HO) : Prop := H a = some u ∨ ∃ o, H a = some (.frz o u)
theorem Rd.of {H : Hp} {a : Addr} {u : HO} (h : H a = some u) : Rd H a u := .inl h
theorem Rd.ok {P : Program} {w : World} {H : Hp} {h : Heap} {a : Addr} {u : HO} (r : Rd H a u) (x : HOk P w H h) : ObjOk P w H h a u := by
  rcases r with r | ⟨o, r⟩
  · exact x a u r
  · obtain ⟨_, q⟩ := x a _ r
    exact q
def Mut : Option HO → Prop
  | some (.lst _) => True
  | some (.dK _) => True
  | some (.dT _) => True
  | some (.set _ _) => True
  | some (.ins _ _ _) => True
  | some (.ext _) => True
  | _ => False
section
variable {P : Program} {w : World} {H : Hp} {h h' : Heap} {x e : Addr} {o' : HO}
theorem HOk.write (ok : HOk P w H h) (mu : Mut (H x)) (he : e = x ∨ H e = some (.own x)) (k : ∀ b u, b ≠ e → h.get? b = some u → h'.get? b = some u) (heo : ∃ u, h'.get? e = some u)
    (new : ObjOk P w (upd H x o') h' x o') : HOk P w (upd H x o') h' := fun b u q => by
  have nown : ∀ c y, H c = some (.own y) → c ≠ x := fun c y r z => by subst z; rw [r] at mu; exact mu
  have ntup : ∀ c xs, H c = some (.tup xs) → c ≠ x := fun c xs r z => by subst z; rw [r] at mu; exact mu
  by_cases hb : b = x
  · subst hb; rw [upd_same] at q; cases q; exact new
  · rw [upd_ne hb] at q
    by_cases hbe : b = e
    · have q' : H b = some (.own x) := by
        rcases he with z | z
        · exact absurd (hbe.trans z) hb
        · rw [hbe]; exact z
      rw [q] at q'; cases q'
      obtain ⟨v, hv⟩ := heo
      exact ⟨v, by rw [hbe]; exact hv⟩
    · refine (ok b u q).stay (fun c v hc r => k c v ?_ r) (fun c r => by rw [upd_ne (nown c b r)]; exact r) fun c xs r => by rw [upd_ne (ntup c xs r)]; exact r
      rcases hc with rfl | hc
      · exact hbe
      · rintro rfl
        rcases he with z | z
        · exact nown c b hc z
        · rw [hc] at z; cases z; exact hb rfl
end
structure Un (fs ex : List Addr) (H H' : Hp) (h h' : Heap) : Prop where
  keep : ∀ b o, h.get? b = some o → H b = none → b ∉ fs → b ∉ ex → h'.get? b = some o
  slot : ∀ b o, h.get? b = some o → H b = none → b ∈ fs → b ∉ ex → ∃ sl, h'.get? b = some { o with slots := sl }
  free : ∀ b o, h.get? b = some o → H b = none → b ∉ ex → H' b = none
  there : ∀ b o, h.get? b = some o → b ∉ ex → ∃ o', h'.get? b = some o'
  tups : ∀ b xs, H b = some (.tup xs) → H' b = some (.tup xs)
  frzs : ∀ b o u, H b = some (.frz o u) → H' b = some (.frz o u)
  tbls : ∀ b ps, H b = some (.tbl ps) → ∃ more, H' b = some (.tbl (ps ++ more))
section
variable {fs fs' ex ex' : List Addr} {H H1 H2 : Hp} {h h1 h2 h' : Heap} {a x e : Addr} {o : HO}
theorem Un.any (u : Un fs ex H H1 h h1) {b : Addr} {ob : Obj} (q : h.get? b = some ob) (n : H b = none) (hx : b ∉ ex) : ∃ sl, h1.get? b = some { ob with slots := sl } := by
  by_cases hb : b ∈ fs
  · exact u.slot b ob q n hb hx
  · exact ⟨ob.slots, u.keep b ob q n hb hx⟩
theorem Un.trans (a : Un fs ex H H1 h h1) (b : Un fs ex H1 H2 h1 h2) : Un fs ex H H2 h h2 where
  keep := fun c ob q n hc hx => b.keep c ob (a.keep c ob q n hc hx) (a.free c ob q n hx) hc hx
  slot := fun c ob q n hc hx => by
    obtain ⟨sl, e1⟩ := a.slot c ob q n hc hx
    obtain ⟨sl', e2⟩ := b.slot c _ e1 (a.free c ob q n hx) hc hx
    exact ⟨sl', e2⟩
  free := fun c ob q n hx => by
    obtain ⟨o', e1⟩ := a.there c ob q hx
    exact b.free c o' e1 (a.free c ob q n hx) hx
  there := fun c ob q hx => by
    obtain ⟨o', e1⟩ := a.there c ob q hx
    exact b.there c o' e1 hx
  tups := fun c xs q => b.tups c xs (a.tups c xs q)
  frzs := fun c ob xs q => b.frzs c ob xs (a.frzs c ob xs q)
  tbls := fun c ps q => by
    obtain ⟨m1, e1⟩ := a.tbls c ps q
    obtain ⟨m2, e2⟩ := b.tbls c _ e1
    exact ⟨m1 ++ m2, by rw [e2, Array.append_assoc]⟩
theorem Un.kept (k : ∀ b u, h.get? b = some u → h'.get? b = some u) : Un fs ex H H h h' :=
  ⟨fun b ob q _ _ _ => k b ob q, fun b ob q _ _ _ => ⟨ob.slots, k b ob q⟩, fun _ _ _ n _ => n, fun b ob q _ => ⟨ob, k b ob q⟩, fun _ _ q => q, fun _ _ _ q => q, fun _ ps q => ⟨#[], by rw [q]; simp⟩⟩
theorem Un.refl : Un fs ex H H h h := Un.kept fun _ _ q => q
theorem Un.laid (k : ∀ b u, h.get? b = some u → h'.get? b = some u) (hp : h.objs.size ≤ a) (hn : H a = none) : Un fs ex H (upd H a o) h h' where
  keep := fun b u q _ _ _ => k b u q
  slot := fun b u q _ _ _ => ⟨u.slots, k b u q⟩
  free := fun b u q n _ => by rw [upd_ne (Nat.ne_of_lt (Nat.lt_of_lt_of_le (Heap.lt_size q) hp))]; exact n
  there := fun b u q _ => ⟨u, k b u q⟩
  tups := fun b xs q => by rw [upd_ne (ne_of_none q hn)]; exact q
  frzs := fun b u xs q => by rw [upd_ne (ne_of_none q hn)]; exact q
  tbls := fun b ps q => ⟨#[], by rw [upd_ne (ne_of_none q hn), q]; simp⟩
theorem Un.write (mu : Mut (H x)) (he : e = x ∨ H e = some (.own x)) (k : ∀ b u, b ≠ e → h.get? b = some u → h'.get? b = some u) (heo : ∃ u, h'.get? e = some u) : Un fs ex H (upd H x o) h h' := by
  have hx : ∀ b, H b = none → b ≠ x := fun b n z => by subst z; rw [n] at mu; exact mu
  have hb : ∀ b, H b = none → b ≠ e := fun b n z => by
    subst z
    rcases he with r | r
    · exact hx b n r
    · rw [n] at r; cases r
  have hm : ∀ b u, H b = some u → ¬ Mut (some u) → b ≠ x := fun b u q nm z => by subst z; rw [q] at mu; exact nm mu
  refine ⟨fun b u q n _ _ => k b u (hb b n) q, fun b u q n _ _ => ⟨u.slots, k b u (hb b n) q⟩, fun b u q n _ => by rw [upd_ne (hx b n)]; exact n, fun b u q _ => ?_,
    fun b xs q => by rw [upd_ne (hm b _ q fun z => z)]; exact q, fun b u xs q => by rw [upd_ne (hm b _ q fun z => z)]; exact q, fun b ps q => ⟨#[], by rw [upd_ne (hm b _ q fun z => z), q]; simp⟩⟩
  by_cases hbe : b = e
  · subst hbe; exact heo
  · exact ⟨u, k b u hbe q⟩
theorem Un.mono (u : Un fs ex H H1 h h1) (hs : ∀ b ∈ fs, b ∈ fs') (hx : ∀ b ∈ ex, b ∈ ex') : Un fs' ex' H H1 h h1 :=
  ⟨fun b ob q n hb he => u.keep b ob q n (fun z => hb (hs b z)) fun z => he (hx b z), fun _ _ q n _ he => u.any q n fun z => he (hx _ z), fun b ob q n he => u.free b ob q n fun z => he (hx b z), fun b ob q he => u.there b ob q fun z => he (hx b z), u.tups, u.frzs, u.tbls⟩
end
def trk (h : Heap) (H : Hp) : List Addr := (List.range h.objs.size).filter fun a => (H a).isSome
def hidT (h : Heap) (H : Hp) : Heap := PySem.W.hideAll h (trk h H)
theorem hidT_size (h : Heap) (H : Hp) : (hidT h H).objs.size = h.objs.size := PySem.W.hideAll_size _ _
theorem hidT_get {h : Heap} {H : Hp} {b : Addr} {o : Obj} (e : h.get? b = some o) (n : H b = none) : (hidT h H).get? b = some o :=
  PySem.W.hideAll_get _ e fun hm => by
    have q : (H b).isSome = true := (List.mem_filter.mp hm).2
    rw [n] at q; simp at q
theorem of_hidT {h : Heap} {H : Hp} {b : Addr} {o : Obj} (e : (hidT h H).get? b = some o) : h.get? b = some o ∧ H b = none := by
  have e' : h.get? b = some o := PySem.W.of_hideAll (trk h H) e
  refine ⟨e', ?_⟩
  cases q : H b with
  | none => rfl
  | some x =>
    have hm : b ∈ trk h H := List.mem_filter.mpr ⟨List.mem_range.mpr (Heap.lt_size e'), by simp [q]⟩
    have z : (hidT h H).get? b = none := PySem.W.hideAll_none (trk h H) hm
    rw [z] at e; cases e
def allNews (g h : Heap) (L : Addr) : List (Addr × Obj) := (List.range h.objs.size).filterMap fun a => if a = L ∨ (g.get? a).isSome = true then none else (h.get? a).map fun o => (a, o)
def rest (g h : Heap) (L d : Addr) : List (Addr × Obj) := (allNews g h L).filter fun p => decide (p.1 ≠ d)
end L2
namespace L2
open PySem PySem.Spec PyProof.Rows
structure Mod (K : PySem.W.Frag) (mg : Str → Option Value) (base : Heap) : Prop where
  kin : K.In base
  glob : base.Ns mainGlobals mg
  blt : ∃ mb, base.Ns builtinsNs mb ∧ ∀ x : Str, x ≠ "__name__" → mb x = bootBuiltins x
  nolimit : base.NoLimit
structure Cx where
  prog : Program
  w : World
  K : PySem.W.Frag
  mg : Str → Option Value
  base : Heap
  A : Around
  N : List Str
  s₀ : Shared
  H₀ : Hp
  env : Env
  outer : List Env
  stack : List Env
  ex : List Addr
  fn : Str → Bool
  calm : Bool
  pn : List (Addr × Obj)
  xe : Value → Shared → Prop
def frs (l : List Env) : List Addr := l.filterMap (·.frame)
abbrev Cx.fs (X : Cx) : List Addr := frs X.outer
def Vis (sc : Scope) (x : Str) : Prop := sc.names.lookup x = some .local ∨ sc.names.lookup x = some .cell ∨ sc.names.lookup x = some .free
def Loc (sc : Scope) (x : Str) : Prop := sc.names.lookup x = some .local ∨ sc.names.lookup x = some .cell
def Look (env : Env) (h : Heap) (m : Str → Option Value) (x : Str) (u : Value) : Prop :=
  (env.kindOf x = some .local ∧ m x = some u) ∨ ((env.kindOf x = some .cell ∨ env.kindOf x = some .free) ∧ ∃ c, env.cells.lookup x = some c ∧ h.IsCell c (some u))
structure Cx.Ok (X : Cx) : Prop where
  mod : Mod X.K X.mg X.base
  kind : X.env.scope.kind = .function
  glob : X.env.globals = mainGlobals
  blt : X.env.builtins = builtinsNs
  above : X.s₀.heap.objs.size ≤ X.env.locals
  inj : ∀ x y c, X.env.cells.lookup x = some c → X.env.cells.lookup y = some c → x = y
  has : ∀ x, (X.env.kindOf x = some .cell ∨ X.env.kindOf x = some .free) → ∃ c, X.env.cells.lookup x = some c
  cab : ∀ x c, X.fn x = true → X.env.cells.lookup x = some c → X.s₀.heap.objs.size ≤ c
  hd : X.calm = true → X.A.handled = none
  frames : X.A.frames = some X.stack
  stk : X.stack = X.outer ∨ (X.stack = X.env :: X.outer ∧ X.env.frame = some X.env.locals)
  exf : ∀ b ∈ X.ex, b ≠ X.env.locals ∧ ∀ x c, X.env.cells.lookup x = some c → c ≠ b
  bs : ∀ b o, X.base.get? b = some o → X.s₀.heap.get? b = some o ∧ X.H₀ b = none
  bsz : X.base.objs.size ≤ X.s₀.heap.objs.size
  noex : ∀ b o, X.base.get? b = some o → b ∉ X.ex
  exfs : ∀ b ∈ X.ex, b ∉ X.fs
  funs : X.s₀.heap.FunFrames X.base X.outer
  frf : ∀ b ∈ X.fs, X.H₀ b = none
structure Inv (X : Cx) (pins : List (Addr × Obj)) (σ : List (Option V)) (H : Hp) (s : Shared) : Prop where
  ok : X.Ok
  os : s.os = X.s₀.os
  bare : AllBare s.gens
  base : Un X.fs X.ex X.H₀ H X.s₀.heap s.heap
  loc : ∃ m, s.heap.Ns X.env.locals m ∧ ∀ (i : Nat) (x : Str) (v : V), X.N[i]? = some x → σ[i]? = some (some v) → Vis X.env.scope x → ∃ u, RelV v u ∧ Look X.env s.heap m x u
  cell : ∀ x c, X.env.cells.lookup x = some c → ∃ v, s.heap.IsCell c v
  free : H X.env.locals = none
  freeC : ∀ x c, X.env.cells.lookup x = some c → H c = none
  pin : ∀ p ∈ X.pn ++ pins, s.heap.get? p.1 = some p.2 ∧ H p.1 = none ∧ p.1 ≠ X.env.locals ∧ p.1 ∉ X.fs ∧ ∀ v, p.2.data ≠ .cell v
  hok : HOk X.prog X.w H s.heap
  len : σ.length = X.N.length
section
variable {X : Cx} {pins : List (Addr × Obj)} {σ : List (Option V)} {H H' : Hp} {s : Shared} {h' : Heap}
theorem Cx.Ok.nofr (ok : X.Ok) {b : Addr} {o : Obj} (e : X.base.get? b = some o) : b ∉ X.fs := fun hb => by
  have := (ok.funs.mem hb).1
  rw [e] at this; cases this
theorem Inv.bs (I : Inv X pins σ H s) : ∀ b o, X.base.get? b = some o → s.heap.get? b = some o ∧ H b = none := fun b o e =>
  ⟨I.base.keep b o (I.ok.bs b o e).1 (I.ok.bs b o e).2 (I.ok.nofr e) (I.ok.noex b o e), I.base.free b o (I.ok.bs b o e).1 (I.ok.bs b o e).2 (I.ok.noex b o e)⟩
theorem Inv.bk (I : Inv X pins σ H s) : ∀ b o, X.base.get? b = some o → s.heap.get? b = some o := fun b o e => (I.bs b o e).1
theorem Inv.mod (I : Inv X pins σ H s) : Mod X.K X.mg X.base := I.ok.mod
theorem Inv.kIn (I : Inv X pins σ H s) : X.K.In s.heap := I.ok.mod.kin.keeps I.bk
theorem Inv.nolimit (I : Inv X pins σ H s) : s.heap.NoLimit := I.ok.mod.nolimit.keeps I.bk
theorem Inv.fr (I : Inv X pins σ H s) : ∃ m, Fr X.base X.env.locals s.heap m :=
  let ⟨m, hn, _⟩ := I.loc
  ⟨m, hn, I.bk, Nat.le_trans I.ok.bsz I.ok.above⟩
theorem Inv.lt (I : Inv X pins σ H s) : X.env.locals < s.heap.objs.size := let ⟨_, hn, _⟩ := I.loc; hn.lt
theorem Inv.sz (I : Inv X pins σ H s) : X.s₀.heap.objs.size ≤ s.heap.objs.size := Nat.le_trans I.ok.above (Nat.le_of_lt I.lt)
theorem Inv.nofs (I : Inv X pins σ H s) {a : Addr} (h : s.heap.objs.size ≤ a) : a ∉ X.fs := fun hb => by
  obtain ⟨_, o, ho, _⟩ := I.ok.funs.mem hb
  exact absurd (Nat.lt_of_lt_of_le (Heap.lt_size ho) (Nat.le_trans I.sz h)) (Nat.lt_irrefl _)
theorem Inv.cne (I : Inv X pins σ H s) : ∀ x c, X.env.cells.lookup x = some c → c ≠ X.env.locals := fun x c e z => by
  obtain ⟨v, o, ho, hd⟩ := I.cell x c e
  obtain ⟨m, ⟨o', es, ep, ho', hd', _⟩, _⟩ := I.loc
  rw [z, ho'] at ho; cases ho; rw [hd'] at hd; cases hd
theorem Inv.funs (I : Inv X pins σ H s) : s.heap.FunFrames X.base X.outer := by
  have all : ∀ (l : List Env), (∀ b ∈ frs l, b ∈ X.fs) → X.s₀.heap.FunFrames X.base l → s.heap.FunFrames X.base l := by
    intro l
    induction l with
    | nil => intro _ _; trivial
    | cons env r ih =>
      intro hs hl
      obtain ⟨hk, ⟨L, o, hf, hn, ho, hd⟩, hr⟩ := hl
      have hL : L ∈ X.fs := hs L (by unfold frs; rw [List.filterMap_cons, hf]; exact List.mem_cons_self)
      obtain ⟨sl, e⟩ := I.base.slot L o ho (I.ok.frf L hL) hL fun z => I.ok.exfs L z hL
      exact ⟨hk, ⟨L, _, hf, hn, e, hd⟩, ih (fun b hb => hs b (by unfold frs; rw [List.filterMap_cons, hf]; exact List.mem_cons_of_mem _ hb)) hr⟩
  exact all X.outer (fun _ hb => hb) I.ok.funs
theorem Inv.stack (I : Inv X pins σ H s) : s.heap.FunFrames X.base X.stack := by
  rcases I.ok.stk with e | ⟨e, hf⟩
  · rw [e]; exact I.funs
  · rw [e]
    obtain ⟨m, hn, _⟩ := I.loc
    refine .cons (by rw [I.ok.kind]; decide) hf hn ?_ I.funs
    exact Heap.get?_none_of_le (Nat.le_trans I.ok.bsz I.ok.above)
theorem Inv.stkSub (I : Inv X pins σ H s) : ∀ b ∈ frs X.stack, b ∈ X.env.locals :: X.fs := fun b hb => by
  rcases I.ok.stk with e | ⟨e, hf⟩
  · rw [e] at hb; exact List.mem_cons_of_mem _ hb
  · rw [e] at hb
    unfold frs at hb
    rw [List.filterMap_cons, hf] at hb
    exact hb
theorem Inv.stkFree (I : Inv X pins σ H s) : ∀ b ∈ frs X.stack, H b = none := fun b hb => by
  rcases List.mem_cons.mp (I.stkSub b hb) with e | hb
  · rw [e]; exact I.free
  · obtain ⟨_, o, ho, _⟩ := I.ok.funs.mem hb
    exact I.base.free b o ho (I.ok.frf b hb) fun z => I.ok.exfs b z hb
theorem Inv.step {g' : Array GenState} {t' : Nat} {d' : Drawn} {ch : List Addr} (I : Inv X pins σ H s)
    (hch : ∀ b ∈ ch, (b ∈ X.ex ∨ X.s₀.heap.objs.size ≤ b) ∧ b ≠ X.env.locals ∧ (∀ x c, X.env.cells.lookup x = some c → c ≠ b) ∧ ∀ p ∈ X.pn ++ pins, p.1 ≠ b)
    (keep : ∀ b o, b ≠ X.env.locals → b ∉ X.fs → b ∉ ch → s.heap.get? b = some o → H b = none → h'.get? b = some o)
    (slot : ∀ b o, b ≠ X.env.locals → b ∈ X.fs → b ∉ ch → s.heap.get? b = some o → H b = none → ∃ sl, h'.get? b = some { o with slots := sl }) (free : ∀ b o, b ∉ ch → s.heap.get? b = some o → H b = none → H' b = none)
    (there : ∀ b o, b ∉ ch → s.heap.get? b = some o → ∃ o', h'.get? b = some o')
    (tups : ∀ b xs, H b = some (.tup xs) → H' b = some (.tup xs)) (frzs : ∀ b o u, H b = some (.frz o u) → H' b = some (.frz o u)) (tbls : ∀ b ps, H b = some (.tbl ps) → ∃ more, H' b = some (.tbl (ps ++ more)))
    (ns : ∀ m, s.heap.Ns X.env.locals m → h'.Ns X.env.locals m) (hok : HOk X.prog X.w H' h') (hg : AllBare g') :
    Inv X pins σ H' { s with heap := h', gens := g', drawn := d', toks := t' } := by
  have neL : ∀ b o, X.s₀.heap.get? b = some o → b ≠ X.env.locals := fun b o e => Nat.ne_of_lt (Nat.lt_of_lt_of_le (Heap.lt_size e) I.ok.above)
  have neC : ∀ b o, X.s₀.heap.get? b = some o → b ∉ X.ex → b ∉ ch := fun b o e hx hb => by
    rcases (hch b hb).1 with z | z
    · exact hx z
    · exact absurd (Nat.lt_of_lt_of_le (Heap.lt_size e) z) (Nat.lt_irrefl _)
  have cellK : ∀ x c, X.env.cells.lookup x = some c → ∀ v, s.heap.IsCell c v → h'.IsCell c v := fun x c e v ⟨o, ho, hd⟩ => by
    have nch : c ∉ ch := fun z => (hch c z).2.2.1 x c e rfl
    by_cases hc : c ∈ X.fs
    · obtain ⟨sl, q⟩ := slot c o (I.cne x c e) hc nch ho (I.freeC x c e)
      exact ⟨_, q, hd⟩
    · exact ⟨o, keep c o (I.cne x c e) hc nch ho (I.freeC x c e), hd⟩
  refine ⟨I.ok, I.os, hg, ⟨fun b o e n hb hx => ?_, fun b o e n hb hx => ?_, fun b o e n hx => ?_, fun b o e hx => ?_, fun b xs e => tups b xs (I.base.tups b xs e), fun b o xs e => frzs b o xs (I.base.frzs b o xs e), fun b ps e => ?_⟩, ?_, fun x c e => ?_, ?_, fun x c e => ?_, fun p hp => ?_, hok, I.len⟩
  · exact keep b o (neL b o e) hb (neC b o e hx) (I.base.keep b o e n hb hx) (I.base.free b o e n hx)
  · obtain ⟨sl, e1⟩ := I.base.slot b o e n hb hx
    obtain ⟨sl', e2⟩ := slot b _ (neL b o e) hb (neC b o e hx) e1 (I.base.free b o e n hx)
    exact ⟨sl', e2⟩
  · obtain ⟨o', e1⟩ := I.base.there b o e hx
    exact free b o' (neC b o e hx) e1 (I.base.free b o e n hx)
  · obtain ⟨o', e1⟩ := I.base.there b o e hx
    exact there b o' (neC b o e hx) e1
  · obtain ⟨m1, e1⟩ := I.base.tbls b ps e
    obtain ⟨m2, e2⟩ := tbls b _ e1
    exact ⟨m1 ++ m2, by rw [e2, Array.append_assoc]⟩
  · obtain ⟨m, hn, hl⟩ := I.loc
    refine ⟨m, ns m hn, fun i x v e1 e2 e3 => ?_⟩
    obtain ⟨u, r, l⟩ := hl i x v e1 e2 e3
    refine ⟨u, r, ?_⟩
    rcases l with l | ⟨k, c, e, z⟩
    · exact .inl l
    · exact .inr ⟨k, c, e, cellK x c e _ z⟩
  · obtain ⟨v, z⟩ := I.cell x c e
    exact ⟨v, cellK x c e v z⟩
  · obtain ⟨m, ⟨o, _, _, ho, _⟩, _⟩ := I.loc
    exact free _ o (fun z => (hch _ z).2.1 rfl) ho I.free
  · obtain ⟨v, o, ho, hd⟩ := I.cell x c e
    exact free c o (fun z => (hch c z).2.2.1 x c e rfl) ho (I.freeC x c e)
  · obtain ⟨e, n, ne, nf, d⟩ := I.pin p hp
    have nch : p.1 ∉ ch := fun z => (hch p.1 z).2.2.2 p hp rfl
    exact ⟨keep p.1 p.2 ne nf nch e n, free p.1 p.2 nch e n, ne, nf, d⟩
theorem Inv.un {t' : Nat} (I : Inv X pins σ H s) (u : Un X.fs [] H H' s.heap h') (hok : HOk X.prog X.w H' h') : Inv X pins σ H' { s with heap := h', toks := t' } := by
  obtain ⟨m, ⟨o, es, ep, ho, r⟩, _⟩ := id I.loc
  obtain ⟨sl, hL⟩ := u.any ho I.free (by simp)
  exact I.step (g' := s.gens) (d' := s.drawn) (ch := []) (fun _ z => nomatch z) (fun b o _ hb _ e n => u.keep b o e n hb (by simp)) (fun b o _ hb _ e n => u.slot b o e n hb (by simp)) (fun b o _ e n => u.free b o e n (by simp)) (fun b o _ e => u.there b o e (by simp)) u.tups u.frzs u.tbls (fun m' hm => by
    obtain ⟨o', es', ep', ho', r'⟩ := hm
    rw [ho] at ho'; cases ho'
    exact ⟨_, es', ep', hL, r'⟩) hok I.bare
theorem Inv.call {g' : Array GenState} {t' : Nat} {d' : Drawn} {ch : List Addr} (I : Inv X pins σ H s) (u : Un (frs X.stack) ch H H' s.heap h') (hok : HOk X.prog X.w H' h') (hg : AllBare g')
    (hch : ∀ b ∈ ch, (b ∈ X.ex ∨ X.s₀.heap.objs.size ≤ b) ∧ b ≠ X.env.locals ∧ (∀ x c, X.env.cells.lookup x = some c → c ≠ b) ∧ ∀ p ∈ X.pn ++ pins, p.1 ≠ b) :
    Inv X pins σ H' { s with heap := h', gens := g', drawn := d', toks := t' } := by
  obtain ⟨m, ⟨o, es, ep, ho, r⟩, _⟩ := id I.loc
  obtain ⟨sl, hL⟩ := u.any ho I.free fun z => (hch _ z).2.1 rfl
  exact I.step (ch := ch) hch (fun b o hL hb hc e n => u.keep b o e n (fun z => (List.mem_cons.mp (I.stkSub b z)).elim hL hb) hc) (fun b o _ _ hc e n => u.any e n hc) (fun b o hc e n => u.free b o e n hc) (fun b o hc e => u.there b o e hc) u.tups u.frzs u.tbls (fun m' hm => by
    obtain ⟨o', es', ep', ho', r'⟩ := hm
    rw [ho] at ho'; cases ho'
    exact ⟨_, es', ep', hL, r'⟩) hok hg
theorem Inv.turned {t' : Nat} {it : Addr} (I : Inv X pins σ H s) (k : ∀ b o, b ≠ it → s.heap.get? b = some o → h'.get? b = some o) (hn : H it = none) (hL : it ≠ X.env.locals)
    (h1 : it ∈ X.ex ∨ X.s₀.heap.objs.size ≤ it) (h2 : ∀ x c, X.env.cells.lookup x = some c → c ≠ it) (h3 : ∀ p ∈ X.pn ++ pins, p.1 ≠ it) : Inv X pins σ H { s with heap := h', toks := t' } := by
  have nit : ∀ b u, H b = some u → b ≠ it := fun b u e z => by rw [z, hn] at e; cases e
  refine I.step (g' := s.gens) (d' := s.drawn) (ch := [it]) (fun b hb => ?_) (fun b o _ _ hc e _ => k b o (fun z => hc (by simp [z])) e) (fun b o _ _ hc e _ => ⟨o.slots, k b o (fun z => hc (by simp [z])) e⟩) (fun _ _ _ _ n => n)
    (fun b o hc e => ⟨o, k b o (fun z => hc (by simp [z])) e⟩) (fun _ _ e => e) (fun _ _ _ e => e) (fun b ps e => ⟨#[], by rw [e]; simp⟩) (fun m hm => ?_) (fun b u e => ?_) I.bare
  · have e : b = it := by simpa using hb
    subst e
    exact ⟨h1, hL, h2, h3⟩
  · obtain ⟨o, es, ep, ho, r⟩ := hm
    exact ⟨o, es, ep, k _ o (Ne.symm hL) ho, r⟩
  · refine (I.hok b u e).stay (fun c v hc q => k c v ?_ q) (fun _ q => q) fun _ _ q => q
    rcases hc with z | z
    · rw [z]; exact nit b u e
    · exact nit c _ z
theorem Inv.tok (I : Inv X pins σ H s) (t : Nat) : Inv X pins σ H { s with toks := t } := I.un (h' := s.heap) (t' := t) Un.refl I.hok
theorem Inv.kept {t' : Nat} (I : Inv X pins σ H s) (k : ∀ b u, s.heap.get? b = some u → h'.get? b = some u) : Inv X pins σ H { s with heap := h', toks := t' } := I.un (Un.kept k) (I.hok.kept k)
theorem Inv.laid {a : Addr} {o : HO} {t' : Nat} (I : Inv X pins σ H s) (k : ∀ b u, s.heap.get? b = some u → h'.get? b = some u) (hp : s.heap.objs.size ≤ a) (new : ObjOk X.prog X.w (upd H a o) h' a o) :
    Inv X pins σ (upd H a o) { s with heap := h', toks := t' } := I.un (Un.laid k hp (I.hok.fresh hp)) (I.hok.laid k hp new)
theorem Inv.write {x e : Addr} {o : HO} {t' : Nat} (I : Inv X pins σ H s) (mu : Mut (H x)) (he : e = x ∨ H e = some (.own x)) (k : ∀ b u, b ≠ e → s.heap.get? b = some u → h'.get? b = some u) (heo : ∃ u, h'.get? e = some u)
    (new : ObjOk X.prog X.w (upd H x o) h' x o) : Inv X pins σ (upd H x o) { s with heap := h', toks := t' } := I.un (Un.write mu he k heo) (I.hok.write mu he k heo new)
theorem Inv.pins_of {pins' : List (Addr × Obj)} (I : Inv X pins σ H s) (h : ∀ p ∈ pins', s.heap.get? p.1 = some p.2 ∧ H p.1 = none ∧ p.1 ≠ X.env.locals ∧ p.1 ∉ X.fs ∧ ∀ v, p.2.data ≠ .cell v) : Inv X pins' σ H s :=
  ⟨I.ok, I.os, I.bare, I.base, I.loc, I.cell, I.free, I.freeC, fun p hp => (List.mem_append.mp hp).elim (fun z => I.pin p (List.mem_append_left _ z)) (h p), I.hok, I.len⟩
theorem nodup_ix {N : List Str} (hN : N.Nodup) {i j : Nat} {x : Str} (a : N[i]? = some x) (b : N[j]? = some x) : i = j := by
  obtain ⟨h1, e1⟩ := List.getElem?_eq_some_iff.mp a
  obtain ⟨h2, e2⟩ := List.getElem?_eq_some_iff.mp b
  exact (List.getElem_inj hN).mp (e1.trans e2.symm)
theorem store_ok2 {M : Model} {A : Around} {E : Value → Shared → Prop} {i : Nat} {x : Str} {v : V} {u : Value} {Q : Unit → Shared → Prop} (I : Inv X pins σ H s) (hN : X.N.Nodup) (hi : X.N[i]? = some x) (hx : Loc X.env.scope x) (r : RelV v u)
    (h : ∀ s', Inv X pins (σ.set i (some v)) H s' → (∃ a, Heap.SameBut a s.heap s'.heap ∧ (a = X.env.locals ∨ X.env.cells.lookup x = some a)) → Q () s') (hf : X.fn x = true ∨ X.env.scope.names.lookup x = some .local := by first | exact .inl rfl | exact .inr rfl | assumption) : wpAny M A (storeName X.env x u) Q E s := by
  obtain ⟨m, hn, hl⟩ := id I.loc
  have hcls : (X.env.scope.kind == .class || (X.env.scope.kind == .module && X.env.locals != X.env.globals)) = false := by rw [I.ok.kind]; rfl
  have hiσ : i < σ.length := by rw [I.len]; exact (List.getElem?_eq_some_iff.mp hi).1
  have cne := I.cne
  have tracked : ∀ {a : Addr} {h' : Heap}, (∃ o, s.heap.get? a = some o ∧ H a = none) → Heap.SameBut a s.heap h' → HOk X.prog X.w H h' := fun {a h'} ha hs b ob e => by
    obtain ⟨_, _, hfree⟩ := ha
    refine (I.hok b ob e).stay (fun c w' hc q => (hs.2 c ?_).trans q) (fun _ q => q) fun _ _ q => q
    rintro rfl
    rcases hc with rfl | hc
    · rw [hfree] at e; cases e
    · rw [hfree] at hc; cases hc
  rcases hx with hk | hk
  · refine wpAny_storeName_local hk hn (fun h' hn' hs => ?_) hcls
    obtain ⟨oL, _, _, hoL, _⟩ := id hn
    refine h _ ⟨I.ok, I.os, I.bare, ⟨fun b o e n hb hx => ?_, fun b o e n hb hx => ?_, I.base.free, fun b o e hx => ?_, I.base.tups, I.base.frzs, I.base.tbls⟩, ⟨_, hn', fun j y v' e1 e2 e3 => ?_⟩, fun y c e => ?_, I.free, I.freeC, fun p hp => ?_, tracked ⟨oL, hoL, I.free⟩ hs, by simpa using I.len⟩ ⟨_, hs, .inl rfl⟩
    · exact (hs.2 b (Nat.ne_of_lt (Nat.lt_of_lt_of_le (Heap.lt_size e) I.ok.above))).trans (I.base.keep b o e n hb hx)
    · obtain ⟨sl, e1⟩ := I.base.slot b o e n hb hx
      exact ⟨sl, (hs.2 b (Nat.ne_of_lt (Nat.lt_of_lt_of_le (Heap.lt_size e) I.ok.above))).trans e1⟩
    · obtain ⟨o', e1⟩ := I.base.there b o e hx
      exact ⟨o', (hs.2 b (Nat.ne_of_lt (Nat.lt_of_lt_of_le (Heap.lt_size e) I.ok.above))).trans e1⟩
    · by_cases hj : j = i
      · subst hj
        rw [hi] at e1; cases e1
        rw [List.getElem?_set_self hiσ] at e2
        cases e2
        exact ⟨u, r, .inl ⟨hk, by simp⟩⟩
      · rw [List.getElem?_set_ne (Ne.symm hj)] at e2
        obtain ⟨u', r', q⟩ := hl j y v' e1 e2 e3
        refine ⟨u', r', ?_⟩
        rcases q with ⟨k, e⟩ | ⟨k, c, e, z⟩
        · refine .inl ⟨k, ?_⟩
          have : y ≠ x := fun e => hj (nodup_ix hN e1 (e ▸ hi))
          simp [this, e]
        · exact .inr ⟨k, c, e, z.sameBut hs (cne y c e)⟩
    · obtain ⟨w', z⟩ := I.cell y c e
      exact ⟨w', z.sameBut hs (cne y c e)⟩
    · obtain ⟨e, n, ne, nf, d⟩ := I.pin p hp
      exact ⟨(hs.2 p.1 ne).trans e, n, ne, nf, d⟩
  · have hfn : X.fn x = true := by
      rcases hf with z | z
      · exact z
      · rw [z] at hk; cases hk
    obtain ⟨c, hc⟩ := I.ok.has x (.inl hk)
    obtain ⟨w', z⟩ := I.cell x c hc
    refine wpAny_storeName_cell I.ok.kind hk hc z (fun h' hc' hs => ?_)
    obtain ⟨oc, hoc, hocd⟩ := id z
    refine h { s with heap := h' } ⟨I.ok, I.os, I.bare, ⟨fun b o e n hb hx => ?_, fun b o e n hb hx => ?_, I.base.free, fun b o e hx => ?_, I.base.tups, I.base.frzs, I.base.tbls⟩, ⟨m, hn.sameBut hs (Ne.symm (cne x c hc)), fun j y v' e1 e2 e3 => ?_⟩, fun y c' e => ?_, I.free, I.freeC, fun p hp => ?_, tracked ⟨oc, hoc, I.freeC x c hc⟩ hs, by simpa using I.len⟩ ⟨c, hs, .inr hc⟩
    · exact (hs.2 b (Nat.ne_of_lt (Nat.lt_of_lt_of_le (Heap.lt_size e) (I.ok.cab x c hfn hc)))).trans (I.base.keep b o e n hb hx)
    · obtain ⟨sl, e1⟩ := I.base.slot b o e n hb hx
      exact ⟨sl, (hs.2 b (Nat.ne_of_lt (Nat.lt_of_lt_of_le (Heap.lt_size e) (I.ok.cab x c hfn hc)))).trans e1⟩
    · obtain ⟨o', e1⟩ := I.base.there b o e hx
      exact ⟨o', (hs.2 b (Nat.ne_of_lt (Nat.lt_of_lt_of_le (Heap.lt_size e) (I.ok.cab x c hfn hc)))).trans e1⟩
    · by_cases hj : j = i
      · subst hj
        rw [hi] at e1; cases e1
        rw [List.getElem?_set_self hiσ] at e2
        cases e2
        exact ⟨u, r, .inr ⟨.inl hk, c, hc, hc'⟩⟩
      · rw [List.getElem?_set_ne (Ne.symm hj)] at e2
        obtain ⟨u', r', q⟩ := hl j y v' e1 e2 e3
        refine ⟨u', r', ?_⟩
        rcases q with q | ⟨k, c', e, z'⟩
        · exact .inl q
        · refine .inr ⟨k, c', e, z'.sameBut hs ?_⟩
          rintro rfl
          exact hj (nodup_ix hN e1 (I.ok.inj _ _ _ e hc ▸ hi))
    · by_cases hcc : c' = c
      · subst hcc; exact ⟨_, hc'⟩
      · obtain ⟨w2, z2⟩ := I.cell y c' e
        exact ⟨w2, z2.sameBut hs hcc⟩
    · obtain ⟨e, n, ne, nf, d⟩ := I.pin p hp
      refine ⟨(hs.2 p.1 ?_).trans e, n, ne, nf, d⟩
      intro q
      rw [q, hoc] at e
      have q' : oc = p.2 := Option.some.inj e
      exact d w' (by rw [← q']; exact hocd)
theorem store_ok {M : Model} {A : Around} {E : Value → Shared → Prop} {i : Nat} {x : Str} {v : V} {u : Value} {Q : Unit → Shared → Prop} (I : Inv X pins σ H s) (hN : X.N.Nodup) (hi : X.N[i]? = some x) (hx : Loc X.env.scope x) (r : RelV v u)
    (h : ∀ s', Inv X pins (σ.set i (some v)) H s' → Q () s') (hf : X.fn x = true ∨ X.env.scope.names.lookup x = some .local := by first | exact .inl rfl | exact .inr rfl | assumption) : wpAny M A (storeName X.env x u) Q E s :=
  store_ok2 I hN hi hx r (fun s' I' _ => h s' I') hf
theorem Inv.call' {s' : Shared} {ch : List Addr} (I : Inv X pins σ H s) (ho : s'.os = s.os) (u : Un (frs X.stack) ch H H' s.heap s'.heap) (hok : HOk X.prog X.w H' s'.heap) (hg : AllBare s'.gens)
    (hch : ∀ b ∈ ch, (b ∈ X.ex ∨ X.s₀.heap.objs.size ≤ b) ∧ b ≠ X.env.locals ∧ (∀ x c, X.env.cells.lookup x = some c → c ≠ b) ∧ ∀ p ∈ X.pn ++ pins, p.1 ≠ b) : Inv X pins σ H' s' := by
  obtain ⟨h', g', d', t', o'⟩ := s'
  have e : o' = s.os := ho
  subst e
  exact I.call (g' := g') (t' := t') (d' := d') u hok hg hch
end
abbrev XK := Value → Option Addr → Hp → Prop
abbrev St := List (Option V)
abbrev VK := V → Hp → Prop
abbrev TE := St → Hp → VK → Prop
abbrev TT := St → Hp → (Bool → Hp → Prop) → Prop
abbrev TA := St → Hp → (List V → Hp → Prop) → Prop
structure Ends where
  nx : St → Hp → Prop
  rt : VK
  bk : St → Hp → Prop := fun _ _ => False
  ct : St → Hp → Prop := fun _ _ => False
abbrev TS := Ends → St → Hp → Prop
def EP (X : Cx) (pins : List (Addr × Obj)) (σ : St) (Q : VK) (u : Value) (s' : Shared) : Prop := ∃ v H', Inv X pins σ H' s' ∧ RelV v u ∧ Q v H'
def TP (X : Cx) (pins : List (Addr × Obj)) (σ : St) (Q : Bool → Hp → Prop) (b : Bool) (s' : Shared) : Prop := ∃ H', Inv X pins σ H' s' ∧ Q b H'
def AP (X : Cx) (pins : List (Addr × Obj)) (σ : St) (Q : List V → Hp → Prop) (us : List Value) (s' : Shared) : Prop := ∃ vs H', Inv X pins σ H' s' ∧ Vals vs us ∧ Q vs H'
def SP (X : Cx) (pins : List (Addr × Obj)) (D : Ends) (f : Flow) (s' : Shared) : Prop :=
  match f with
  | .next => ∃ σ' H', Inv X pins σ' H' s' ∧ D.nx σ' H'
  | .brk => ∃ σ' H', Inv X pins σ' H' s' ∧ D.bk σ' H'
  | .cont => ∃ σ' H', Inv X pins σ' H' s' ∧ D.ct σ' H'
  | .ret u => ∃ v σ' H', Inv X pins σ' H' s' ∧ RelV v u ∧ D.rt v H'
def PE (X : Cx) (e : Expr) (t : TE) : Prop :=
  ∀ (pins : List (Addr × Obj)) (s : Shared) (σ : St) (H : Hp) (Q : VK), Inv X pins σ H s → t σ H Q → wpAny (model X.prog X.w) X.A (eval e X.env) (EP X pins σ Q) X.xe s
def PT (X : Cx) (e : Expr) (t : TT) : Prop :=
  ∀ (pins : List (Addr × Obj)) (s : Shared) (σ : St) (H : Hp) (Q : Bool → Hp → Prop), Inv X pins σ H s → t σ H Q → wpAny (model X.prog X.w) X.A (isTrue e X.env (eval e X.env)) (TP X pins σ Q) X.xe s
def PW (X : Cx) (e : Expr) (t : TT) : Prop :=
  ∀ (whole : Sem Value) (pins : List (Addr × Obj)) (s : Shared) (σ : St) (H : Hp) (Q : Bool → Hp → Prop), Inv X pins σ H s → t σ H Q → wpAny (model X.prog X.w) X.A (isTrue e X.env whole) (TP X pins σ Q) X.xe s
theorem PW.pt {X : Cx} {e : Expr} {t : TT} (h : PW X e t) : PT X e t := h _
def PA (X : Cx) (es : List Expr) (t : TA) : Prop :=
  ∀ (pos : Pos) (pins : List (Addr × Obj)) (s : Shared) (σ : St) (H : Hp) (Q : List V → Hp → Prop), Inv X pins σ H s → t σ H Q → wpAny (model X.prog X.w) X.A (spliced (backTo pos (starEach es X.env))) (AP X pins σ Q) X.xe s
def PS (X : Cx) (st : Stmt) (t : TS) : Prop :=
  ∀ (pins : List (Addr × Obj)) (s : Shared) (σ : St) (H : Hp) (D : Ends), Inv X pins σ H s → t D σ H → wpAny (model X.prog X.w) X.A (exec st X.env) (SP X pins D) X.xe s
def PSs (X : Cx) (st : List Stmt) (t : TS) : Prop :=
  ∀ (pins : List (Addr × Obj)) (s : Shared) (σ : St) (H : Hp) (D : Ends), Inv X pins σ H s → t D σ H → wpAny (model X.prog X.w) X.A (execs st X.env) (SP X pins D) X.xe s
theorem thn {α : Type} {t : Sem α} {Q Q' : α → Shared → Prop} {M : Model} {A : Around} {E : Value → Shared → Prop} {s : Shared} (h : wpAny M A t Q E s) (hQ : ∀ a s, Q a s → Q' a s) : wpAny M A t Q' E s := wpAny_mono h hQ fun _ _ x => x
end L2
namespace L2
open PySem PySem.Spec PyProof.Rows
section
variable {X : Cx}
def tVar (i : Nat) : TE := fun σ H Q => ∃ v, σ[i]? = some (some v) ∧ Q v H
def tC (v : V) : TE := fun _ H Q => Q v H
theorem pe_var {i : Nat} {x : Str} {pos : Pos} (hN : X.N[i]? = some x) (hv : Vis X.env.scope x) (hd : (x == ("__debug__" : Str)) = false := by decide) (hcd : (x == ("__classdict__" : Str)) = false := by decide) : PE X (.Name x pos) (tVar i) := by
  intro pins s σ H Q I h
  obtain ⟨v, e, h⟩ := h
  obtain ⟨m, hn, hl⟩ := I.loc
  obtain ⟨u, r, l⟩ := hl i x v hN e hv
  have fin : EP X pins σ Q u s := ⟨v, H, I, r, h⟩
  rcases l with ⟨hk, hm⟩ | ⟨hk, c, hc, hcell⟩
  · exact wpAny_Name (wpAny_loadName_local I.ok.kind hk hn hm fin) hd
  · rcases hk with hk | hk
    · exact wpAny_Name (wpAny_loadName_cell I.ok.kind hk hc hcell fin) hd
    · exact wpAny_Name (wpAny_loadName_free I.ok.kind hk hc hcell fin hcd) hd
theorem pe_int {i j pos} : PE X (.Constant (.int i) j pos) (tC (.int i)) := fun _ _ _ H _ I h => wpAny_Constant_int ⟨.int i, H, I.tok _, ⟨_, rfl⟩, h⟩
theorem pe_bl {b j pos} : PE X (.Constant (.bool b) j pos) (tC (.bl b)) := fun _ _ _ H _ I h => Constant_bool ⟨.bl b, H, I, rfl, h⟩
theorem pe_non {j pos} : PE X (.Constant .none j pos) (tC .non) := fun _ _ _ H _ I h => Constant_none ⟨.non, H, I, rfl, h⟩
theorem pe_str {x j pos} : PE X (.Constant (.str x) j pos) (tC (.str x)) := fun _ _ _ H _ I h => Calls.Constant_str ⟨.str x, H, I.tok _, ⟨_, rfl⟩, h⟩
def Gl (X : Cx) (x : Str) : Prop := X.env.kindOf x = some .globalImplicit
theorem ld_glob {E : Value → Shared → Prop} {pins : List (Addr × Obj)} {s : Shared} {σ : St} {H : Hp} {x : Str} {u : Value} {pos : Pos} {Q : Value → Shared → Prop} (I : Inv X pins σ H s) (hg : Gl X x) (hm : X.mg x = some u) (h : Q u s)
    (hd : (x == ("__debug__" : Str)) = false := by decide) : wpAny (model X.prog X.w) X.A (eval (.Name x pos) X.env) Q E s :=
  Calls.Name_function_global I.ok.kind hg (Calls.loadGlobal_global (by rw [I.ok.glob]; exact I.mod.glob.keeps I.bk) hm h) hd
theorem ld_blt {E : Value → Shared → Prop} {pins : List (Addr × Obj)} {s : Shared} {σ : St} {H : Hp} {x : Str} {u : Value} {pos : Pos} {Q : Value → Shared → Prop} (I : Inv X pins σ H s) (hg : Gl X x) (hm : X.mg x = none) (hv : bootBuiltins x = some u) (h : Q u s)
    (hn : x ≠ "__name__" := by decide) (hd : (x == ("__debug__" : Str)) = false := by decide) : wpAny (model X.prog X.w) X.A (eval (.Name x pos) X.env) Q E s := by
  obtain ⟨mb, h1, h2⟩ := I.mod.blt
  exact Calls.Name_function_global I.ok.kind hg (Calls.loadGlobal_builtin (by rw [I.ok.glob]; exact I.mod.glob.keeps I.bk) hm (by rw [I.ok.blt]; exact h1.keeps I.bk) ((h2 x hn).trans hv) h) hd
theorem pe_glob {x : Str} {v : V} {u : Value} {pos : Pos} (hg : Gl X x) (hm : X.mg x = some u) (r : RelV v u) (hd : (x == ("__debug__" : Str)) = false := by decide) : PE X (.Name x pos) (tC v) :=
  fun _ _ _ H _ I h => ld_glob I hg hm ⟨v, H, I, r, h⟩ hd
theorem pe_bltn {x : Str} {v : V} {u : Value} {pos : Pos} (hg : Gl X x) (hm : X.mg x = none) (hv : bootBuiltins x = some u) (r : RelV v u) (hn : x ≠ "__name__" := by decide) (hd : (x == ("__debug__" : Str)) = false := by decide) : PE X (.Name x pos) (tC v) :=
  fun _ _ _ H _ I h => ld_blt I hg hm hv ⟨v, H, I, r, h⟩ hn hd
variable {a b : Expr} {ta tb : TE} {pos : Pos}
def tB (t : TE) : TT := fun σ H Q => t σ H fun x H1 => ∃ c, x = .bl c ∧ Q c H1
theorem pt_val {e : Expr} {t : TE} (h : PE X e t) (he : ∀ whole, isTrue e X.env whole = (do let v ← whole; standAt e.pos; holding [v] (truthy v)) := by intro _; rfl) : PT X e (tB t) := by
  intro pins s σ H Q I hw
  refine isTrue_plain (thn (h pins s σ H _ I hw) fun v s1 ⟨x, H1, I1, r1, q1⟩ => ?_) (he _)
  obtain ⟨d, rfl, q⟩ := q1
  cases r1
  exact wpAny_truthy_bool ⟨H1, I1, q⟩
variable {tA tB' : TT} {rest : List Expr}
def tAnd (t u : TT) : TT := fun σ H Q => t σ H fun c H1 => if c = true then u σ H1 Q else Q false H1
def tOr (t u : TT) : TT := fun σ H Q => t σ H fun c H1 => if c = true then Q true H1 else u σ H1 Q
def tNot (t : TT) : TT := fun σ H Q => t σ H fun c H1 => Q (!c) H1
theorem pw_and1 (ha : PT X a tA) : PW X (.BoolOp .And [a] pos) tA := by
  intro wh pins s σ H Q I h
  refine isTrue_and (thn (ha pins s σ H Q I h) fun c s1 e => ?_)
  cases c with
  | true => exact isTrue_and_nil e
  | false => exact e
theorem pw_or1 (ha : PT X a tA) : PW X (.BoolOp .Or [a] pos) tA := by
  intro wh pins s σ H Q I h
  refine isTrue_or (thn (ha pins s σ H Q I h) fun c s1 e => ?_)
  cases c with
  | false => exact isTrue_or_nil e
  | true => exact e
theorem pw_and (ha : PT X a tA) (hb : PW X (.BoolOp .And (b :: rest) pos) tB') : PW X (.BoolOp .And (a :: b :: rest) pos) (tAnd tA tB') := by
  intro wh pins s σ H Q I h
  refine isTrue_and (thn (ha pins s σ H _ I h) fun c s1 ⟨H1, I1, q1⟩ => ?_)
  cases c with
  | true => exact hb wh pins s1 σ H1 Q I1 q1
  | false => exact ⟨H1, I1, q1⟩
theorem pw_or (ha : PT X a tA) (hb : PW X (.BoolOp .Or (b :: rest) pos) tB') : PW X (.BoolOp .Or (a :: b :: rest) pos) (tOr tA tB') := by
  intro wh pins s σ H Q I h
  refine isTrue_or (thn (ha pins s σ H _ I h) fun c s1 ⟨H1, I1, q1⟩ => ?_)
  cases c with
  | true => exact ⟨H1, I1, q1⟩
  | false => exact hb wh pins s1 σ H1 Q I1 q1
theorem pt_not (ha : PT X a tA) : PT X (.UnaryOp .Not a pos) (tNot tA) := by
  intro pins s σ H Q I h
  exact isTrue_not (ha pins s σ H (fun c H1 => Q (!c) H1) I h)
def tAndV (ta tb : TE) : TE := fun σ H Q => ta σ H fun x H1 => ∃ c, x = .bl c ∧ if c = true then tb σ H1 Q else Q (.bl false) H1
def tNotV (ta : TE) : TE := fun σ H Q => ta σ H fun x H1 => ∃ c, x = .bl c ∧ Q (.bl (!c)) H1
theorem pe_one {op} {t : TE} (h : PE X a t) : PE X (.BoolOp op [a] pos) t := fun pins s σ H Q I hw => BoolOp_one (h pins s σ H Q I hw)
theorem pe_and (ha : PE X a ta) (hb : PE X (.BoolOp .And (b :: rest) pos) tb) : PE X (.BoolOp .And (a :: b :: rest) pos) (tAndV ta tb) := by
  intro pins s σ H Q I h
  refine BoolOp_and (thn (ha pins s σ H _ I h) fun v s1 ⟨x, H1, I1, r1, q1⟩ => ?_)
  obtain ⟨c, rfl, q1⟩ := q1
  cases r1
  refine wpAny_truthy_bool ?_
  cases c with
  | true => exact hb pins s1 σ H1 Q I1 q1
  | false => exact ⟨.bl false, H1, I1, rfl, q1⟩
theorem pe_not (ha : PE X a ta) : PE X (.UnaryOp .Not a pos) (tNotV ta) := by
  intro pins s σ H Q I h
  refine UnaryOp_ (thn (ha pins s σ H _ I h) fun v s1 ⟨x, H1, I1, r1, q1⟩ => ?_)
  obtain ⟨c, rfl, q1⟩ := q1
  cases r1
  exact not_of (wpAny_truthy_bool ⟨.bl (!c), H1, I1, rfl, q1⟩)
def tIf (t : TT) (ta tb : TE) : TE := fun σ H Q => t σ H fun c H1 => if c = true then ta σ H1 Q else tb σ H1 Q
theorem pe_ifExp {c : Expr} (hc : PT X c tA) (ha : PE X a ta) (hb : PE X b tb) : PE X (.IfExp c a b pos) (tIf tA ta tb) := by
  intro pins s σ H Q I h
  refine wpAny_IfExp (thn (hc pins s σ H _ I h) fun d s1 ⟨H1, I1, q1⟩ => ?_)
  cases d with
  | true => exact ha pins s1 σ H1 Q I1 q1
  | false => exact hb pins s1 σ H1 Q I1 q1
end
end L2
namespace L2
open PySem PySem.Spec PyProof.Rows
def SqL (K : PySem.W.Frag) (H : Hp) (a : Addr) (xs : List V) : Prop :=
  Rd H a (.lst xs) ∨
    ∃ (o : Obj) (its : Array Value) (n : Nat), K.lookup a = some o ∧ o.cls = .type "list" ∧ o.dict = none ∧ o.data = .seq its n ∧ its.size ≤ sizeLine ∧ Vals xs its.toList
def SqT (K : PySem.W.Frag) (H : Hp) (a : Addr) (xs : List V) : Prop :=
  Rd H a (.tup xs) ∨
    ∃ (o : Obj) (its : Array Value) (n : Nat), K.lookup a = some o ∧ o.cls = .type "tuple" ∧ o.data = .seq its n ∧ its.size ≤ sizeLine ∧ Vals xs its.toList
def absV : Value → Option V
  | .none => some .non
  | .bool b => some (.bl b)
  | .int i _ => some (.int i)
  | .str x _ => some (.str x)
  | .bytes b _ => some (.byt b)
  | .float b _ => some (.flt b)
  | .ref a => some (.ref a)
  | .type n => some (.ty n)
  | _ => none
theorem RelV.abs {x : V} {u : Value} (r : RelV x u) : absV u = some x := by
  cases x with
  | non => cases r; rfl
  | bl _ => cases r; rfl
  | int _ => obtain ⟨t, rfl⟩ := r; rfl
  | str _ => obtain ⟨t, rfl⟩ := r; rfl
  | byt _ => obtain ⟨t, rfl⟩ := r; rfl
  | flt _ => obtain ⟨t, rfl⟩ := r; rfl
  | ref _ => cases r; rfl
  | ty _ => cases r; rfl
theorem RelV.inj {x y : V} {u : Value} (r : RelV x u) (q : RelV y u) : x = y := Option.some.inj (r.abs.symm.trans q.abs)
theorem Vals.inj : ∀ {xs ys : List V} {us : List Value}, Vals xs us → Vals ys us → xs = ys
  | _, _, _, .nil, .nil => rfl
  | _, _, _, .cons r t, .cons r' t' => by rw [r.inj r', Vals.inj t t']
section
variable {X : Cx} {pins : List (Addr × Obj)} {σ : St} {H : Hp} {s : Shared} {a : Addr} {xs ys : List V}
theorem SqL.of {K : PySem.W.Frag} (h : H a = some (.lst xs)) : SqL K H a xs := .inl (.inl h)
theorem SqT.of {K : PySem.W.Frag} (h : H a = some (.tup xs)) : SqT K H a xs := .inl (.inl h)
theorem Inv.list (I : Inv X pins σ H s) (h : SqL X.K H a xs) : ∃ its : List Value, Vals xs its ∧ PlainL s.heap a its.toArray ∧ xs.length ≤ sizeLine := by
  rcases h with h | ⟨o, its, n, hk, hc, hd, hs, hz, r⟩
  · obtain ⟨z, its, n, r, e⟩ := h.ok I.hok
    exact ⟨its, r, ⟨_, n, e, rfl, rfl, rfl⟩, z⟩
  · refine ⟨its.toList, r, ⟨o, n, I.kIn a o hk, hc, hd, by simpa using hs⟩, ?_⟩
    have e := r.length
    simp only [Array.length_toList] at e
    omega
theorem Inv.tuple (I : Inv X pins σ H s) (h : SqT X.K H a xs) : ∃ its : List Value, Vals xs its ∧ IsTup s.heap a its.toArray ∧ xs.length ≤ sizeLine := by
  rcases h with h | ⟨o, its, n, hk, hc, hs, hz, r⟩
  · obtain ⟨z, its, r, p⟩ := h.ok I.hok
    exact ⟨its, r, p, z⟩
  · refine ⟨its.toList, r, ⟨o, I.kIn a o hk, hc, n, by simpa using hs⟩, ?_⟩
    have e := r.length
    simp only [Array.length_toList] at e
    omega
theorem Inv.list_inj (I : Inv X pins σ H s) (h : SqL X.K H a xs) (h' : SqL X.K H a ys) : xs = ys := by
  obtain ⟨its, r, ⟨o, n, e, _, _, d⟩, _⟩ := I.list h
  obtain ⟨its', r', ⟨o', n', e', _, _, d'⟩, _⟩ := I.list h'
  rw [e] at e'; cases e'
  rw [d] at d'
  injection d' with d1 _
  have : its = its' := by simpa using congrArg Array.toList d1
  subst this
  exact r.inj r'
theorem Inv.tuple_inj (I : Inv X pins σ H s) (h : SqT X.K H a xs) (h' : SqT X.K H a ys) : xs = ys := by
  obtain ⟨its, r, ⟨o, e, _, n, d⟩, _⟩ := I.tuple h
  obtain ⟨its', r', ⟨o', e', _, n', d'⟩, _⟩ := I.tuple h'
  rw [e] at e'; cases e'
  rw [d] at d'
  injection d' with d1 _
  have : its = its' := by simpa using congrArg Array.toList d1
  subst this
  exact r.inj r'
end
abbrev Cx.wish (X : Cx) (E : Value → Shared → Prop) : Cx := { X with xe := E }
abbrev Cx.nox (X : Cx) : Cx := X.wish fun _ _ => False
theorem Cx.Ok.wish {X : Cx} (ok : X.Ok) (E : Value → Shared → Prop) : (X.wish E).Ok :=
  ⟨ok.mod, ok.kind, ok.glob, ok.blt, ok.above, ok.inj, ok.has, ok.cab, ok.hd, ok.frames, ok.stk, ok.exf, ok.bs, ok.bsz, ok.noex, ok.exfs, ok.funs, ok.frf⟩
theorem Cx.Ok.unwish {X : Cx} {E : Value → Shared → Prop} (ok : (X.wish E).Ok) : X.Ok :=
  ⟨ok.mod, ok.kind, ok.glob, ok.blt, ok.above, ok.inj, ok.has, ok.cab, ok.hd, ok.frames, ok.stk, ok.exf, ok.bs, ok.bsz, ok.noex, ok.exfs, ok.funs, ok.frf⟩
section
variable {X : Cx} {pins : List (Addr × Obj)} {σ : St} {H : Hp} {s : Shared} {E : Value → Shared → Prop}
theorem Inv.wish (I : Inv X pins σ H s) (E : Value → Shared → Prop) : Inv (X.wish E) pins σ H s := ⟨I.ok.wish E, I.os, I.bare, I.base, I.loc, I.cell, I.free, I.freeC, I.pin, I.hok, I.len⟩
theorem Inv.unwish (I : Inv (X.wish E) pins σ H s) : Inv X pins σ H s := ⟨I.ok.unwish, I.os, I.bare, I.base, I.loc, I.cell, I.free, I.freeC, I.pin, I.hok, I.len⟩
theorem SP.unwish {D : Ends} {f : Flow} {s' : Shared} (h : SP (X.wish E) pins D f s') : SP X pins D f s' := by
  cases f with
  | next => obtain ⟨σ', H', I, q⟩ := h; exact ⟨σ', H', I.unwish, q⟩
  | brk => obtain ⟨σ', H', I, q⟩ := h; exact ⟨σ', H', I.unwish, q⟩
  | cont => obtain ⟨σ', H', I, q⟩ := h; exact ⟨σ', H', I.unwish, q⟩
  | ret u => obtain ⟨v, σ', H', I, r, q⟩ := h; exact ⟨v, σ', H', I.unwish, r, q⟩
theorem PE.nox {e : Expr} {t : TE} (h : PE X.nox e t) : PE X e t := fun pins s σ H Q I hw =>
  wpAny_mono (h pins s σ H Q (I.wish _) hw) (fun _ _ ⟨v, H', I', r, q⟩ => ⟨v, H', I'.unwish, r, q⟩) fun _ _ z => False.elim z
theorem PT.nox {e : Expr} {t : TT} (h : PT X.nox e t) : PT X e t := fun pins s σ H Q I hw =>
  wpAny_mono (h pins s σ H Q (I.wish _) hw) (fun _ _ ⟨H', I', q⟩ => ⟨H', I'.unwish, q⟩) fun _ _ z => False.elim z
theorem PSs.nox {st : List Stmt} {t : TS} (h : PSs X.nox st t) : PSs X st t := fun pins s σ H D I hw =>
  wpAny_mono (h pins s σ H D (I.wish _) hw) (fun _ _ q => q.unwish) fun _ _ z => False.elim z
end
section
variable {X : Cx} {st : Stmt} {rest : List Stmt} {t u : TS} {e : Expr} {te : TE} {pos : Pos}
def tNext : TS := fun D σ H => D.nx σ H
def tSeq (t u : TS) : TS := fun D σ H => t { D with nx := u D } σ H
theorem pss_nil : PSs X [] tNext := fun _ _ σ H _ I h => wpAny_execs_nil ⟨σ, H, I, h⟩
theorem pss_cons (h1 : PS X st t) (h2 : PSs X rest u) : PSs X (st :: rest) (tSeq t u) := by
  intro pins s σ H D I h
  refine wpAny_execs_cons (thn (h1 pins s σ H { D with nx := u D } I h) fun f s1 q => ?_)
  cases f with
  | next =>
    obtain ⟨σ', H', I', q⟩ := q
    exact h2 pins s1 σ' H' D I' q
  | ret v => exact q
  | brk => exact q
  | cont => exact q
theorem pss_one (h1 : PS X st t) : PSs X [st] t := by
  intro pins s σ H D I h
  refine wpAny_execs_cons (thn (h1 pins s σ H D I h) fun f s1 q => ?_)
  cases f with
  | next => exact wpAny_execs_nil q
  | ret v => exact q
  | brk => exact q
  | cont => exact q
theorem Inv.quiet {pins : List (Addr × Obj)} {σ : St} {H : Hp} {s : Shared} (I : Inv X pins σ H s) : interactive X.env = false := by simp [interactive, I.ok.kind]
def tDrop (te : TE) : TS := fun D σ H => te σ H fun _ H1 => D.nx σ H1
theorem ps_expr (he : PE X e te) (hs : swapsWith e none pos.line X.env = pure false := by rfl) : PS X (.Expr e pos) (tDrop te) := by
  intro pins s σ H D I h
  exact wpAny_Expr_any (thn (he pins s σ H _ I h) fun v s1 ⟨x, H1, I1, r1, q1⟩ => ⟨σ, H1, I1, q1⟩) I.quiet hs
def tRet (te : TE) : TS := fun D σ H => te σ H D.rt
theorem ps_ret (he : PE X e te) : PS X (.Return (some e) pos) (tRet te) := by
  intro pins s σ H D I h
  exact wpAny_Return_some (thn (he pins s σ H _ I h) fun v s1 ⟨x, H1, I1, r1, q1⟩ => ⟨x, σ, H1, I1, r1, q1⟩)
def tIfS (c : TT) (t u : TS) : TS := fun D σ H => c σ H fun b H1 => if b = true then t D σ H1 else u D σ H1
theorem ps_if {c : Expr} {a b : List Stmt} {tc : TT} (hc : PT X c tc) (ha : PSs X a t) (hb : PSs X b u) : PS X (.If c a b pos) (tIfS tc t u) := by
  intro pins s σ H D I h
  refine wpAny_If (thn (hc pins s σ H _ I h) fun d s1 ⟨H1, I1, q1⟩ => ?_)
  cases d with
  | true => exact ha pins s1 σ H1 D I1 q1
  | false => exact hb pins s1 σ H1 D I1 q1
end
abbrev TG := V → St → Hp → (St → Hp → Prop) → Prop
abbrev TGs := List V → St → Hp → (St → Hp → Prop) → Prop
def PG (X : Cx) (target : Expr) (t : TG) : Prop :=
  ∀ (pins : List (Addr × Obj)) (s : Shared) (σ : St) (H : Hp) (v : V) (u : Value) (Q : St → Hp → Prop), Inv X pins σ H s → RelV v u → t v σ H Q →
    wpAny (model X.prog X.w) X.A (assign target X.env u) (fun _ s' => ∃ σ' H', Inv X pins σ' H' s' ∧ Q σ' H') X.xe s
def PGs (X : Cx) (ts : List Expr) (t : TGs) : Prop :=
  ∀ (pins : List (Addr × Obj)) (s : Shared) (σ : St) (H : Hp) (vs : List V) (us : List Value) (Q : St → Hp → Prop), Inv X pins σ H s → Vals vs us → t vs σ H Q →
    wpAny (model X.prog X.w) X.A (assignInOrder ((assignEach ts X.env).map (·.2)) us) (fun _ s' => ∃ σ' H', Inv X pins σ' H' s' ∧ Q σ' H') X.xe s
section
variable {X : Cx} {pos : Pos}
def gName (i : Nat) : TG := fun v σ H Q => Q (σ.set i (some v)) H
theorem pg_name {i : Nat} {x : Str} (hN : X.N.Nodup) (hi : X.N[i]? = some x) (hx : Loc X.env.scope x) (hf : X.fn x = true ∨ X.env.scope.names.lookup x = some .local := by first | exact .inl rfl | exact .inr rfl | assumption) : PG X (.Name x pos) (gName i) := by
  intro pins s σ H v u Q I r h
  exact wpAny_assign_Name (store_ok I hN hi hx r (fun s' I' => ⟨_, H, I', h⟩) hf)
def gNil : TGs := fun vs σ H Q => vs = [] ∧ Q σ H
def gCons (t : TG) (u : TGs) : TGs := fun vs σ H Q => ∃ v r, vs = v :: r ∧ t v σ H fun σ' H' => u r σ' H' Q
theorem pgs_nil : PGs X [] gNil := by
  intro pins s σ H vs us Q I r h
  obtain ⟨e, h⟩ := h
  subst e
  cases r
  exact assignInOrder_nil ⟨σ, H, I, h⟩
theorem pgs_cons {e : Expr} {es : List Expr} {t : TG} {u : TGs} (h1 : PG X e t) (h2 : PGs X es u)
    (hs : (assignEach (e :: es) X.env).map (·.2) = assign e X.env :: (assignEach es X.env).map (·.2) := by rfl) : PGs X (e :: es) (gCons t u) := by
  intro pins s σ H vs us Q I r h
  obtain ⟨v, vr, e1, h⟩ := h
  subst e1
  cases r with
  | cons r rr =>
    rw [hs]
    refine assignInOrder_cons (thn (h1 pins s σ H _ _ _ I r h) fun _ s1 ⟨σ1, H1, I1, q1⟩ => ?_)
    exact h2 pins s1 σ1 H1 _ _ Q I1 rr q1
def gTup (K : PySem.W.Frag) (n : Nat) (t : TGs) : TG := fun v σ H Q => ∃ a xs, v = .ref a ∧ SqT K H a xs ∧ xs.length = n ∧ t xs σ H Q
theorem pg_tup {es : List Expr} {k : Nat} {t : TGs} {n : Nat} (hc : X.calm = true) (h : PGs X es t)
    (hn : (assignEach es X.env).length = n := by rfl) (hst : (assignEach es X.env).findIdx? (·.1) = none := by rfl) : PG X (.Tuple es k pos) (gTup X.K n t) := by
  intro pins s σ H v u Q I r hw
  obtain ⟨a, xs, e1, hq, hl, hw⟩ := hw
  subst e1
  cases r
  obtain ⟨its, rv, ht, hz⟩ := I.tuple hq
  refine assign_Tuple_tuple (I.ok.hd hc) ht (by simp [hn, ← hl, rv.length]) hst fun h' hx => ?_
  have I1 : Inv X pins σ H { s with heap := h' } := I.kept (t' := s.toks) fun b o e => hx b o (Nat.ne_of_lt (Heap.lt_size e)) e
  exact h pins _ σ H xs _ Q I1 (by simpa using rv) hw
def tAsg (te : TE) (g : TG) : TS := fun D σ H => te σ H fun x H1 => g x σ H1 D.nx
theorem ps_set {i : Nat} {x : Str} {e : Expr} {te : TE} {pos' : Pos} (hN : X.N.Nodup) (hi : X.N[i]? = some x) (hx : Loc X.env.scope x) (he : PE X e te) (hs : swapsWith e (some (.Name x pos')) pos.line X.env = pure false := by rfl) (hf : X.fn x = true ∨ X.env.scope.names.lookup x = some .local := by first | exact .inl rfl | exact .inr rfl | assumption) :
    PS X (.Assign [.Name x pos'] e pos) (tAsg te (gName i)) := by
  intro pins s σ H D I h
  refine wpAny_Assign_Name (thn (he pins s σ H _ I h) fun v s1 ⟨y, H1, I1, r1, q1⟩ => ?_) hs
  exact store_ok I1 hN hi hx r1 (fun s2 I2 => ⟨_, H1, I2, q1⟩) hf
end
section
variable {X : Cx} {pos : Pos}
end
structure It where
  go : Nat → Hp → Prop
  yld : Nat → Hp → V → Hp → Prop
  stop : Nat → Hp → Prop
def FpOk (X : Cx) (pins : List (Addr × Obj)) (H : Hp) (b : Addr) : Prop :=
  H b = none ∧ b ≠ X.env.locals ∧ b ∉ X.fs ∧ (b ∈ X.ex ∨ X.s₀.heap.objs.size ≤ b) ∧ (∀ x c, X.env.cells.lookup x = some c → c ≠ b) ∧ ∀ p ∈ X.pn ++ pins, p.1 ≠ b
theorem Inv.fpOk {X : Cx} {pins : List (Addr × Obj)} {σ : St} {H H' : Hp} {s : Shared} {b : Addr} (I : Inv X pins σ H s) (hb : s.heap.objs.size ≤ b) (hn : H' b = none) : FpOk X pins H' b := by
  refine ⟨hn, Nat.ne_of_gt (Nat.lt_of_lt_of_le I.lt hb), I.nofs hb, .inr (Nat.le_trans I.sz hb), fun x c e z => ?_, fun p hp z => ?_⟩
  · obtain ⟨v, q⟩ := I.cell x c e
    exact absurd (Nat.lt_of_lt_of_le q.lt (by rw [z]; exact hb)) (Nat.lt_irrefl _)
  · exact absurd (Nat.lt_of_lt_of_le (Heap.lt_size (I.pin p hp).1) (by rw [z]; exact hb)) (Nat.lt_irrefl _)
structure Turn (P : Program) (w : World) (K : PySem.W.Frag) (tg : Expr) (J : It) (fp : List Addr) (it : Addr) (tn : Nat → Heap → Prop) : Prop where
  mem : it ∈ fp
  obj : ∀ i h, tn i h → ∀ b ∈ fp, ∃ o, h.get? b = some o ∧ ∀ v, o.data ≠ .cell v
  keep : ∀ i h h', tn i h → (∀ b ∈ fp, ∀ o, h.get? b = some o → h'.get? b = some o) → tn i h'
  item : ∀ (X : Cx), X.prog = P → X.w = w → X.K = K → X.calm = true → ∀ (i : Nat) (pins : List (Addr × Obj)) (s : Shared) (σ : St) (H : Hp) (E : Value → Shared → Prop), Inv X pins σ H s → (∀ b ∈ fp, FpOk X pins H b) → tn i s.heap → J.go i H →
    wpAny (model P w) X.A (pyNext (.ref it)) (fun r s1 => ∃ u, r = some u ∧
      wpAny (model P w) X.A (letOwnedTupleGo tg (.ref it) u) (fun _ s2 => ∃ x H', Inv X pins σ H' s2 ∧ RelV x u ∧ J.yld i H x H' ∧ tn (i + 1) s2.heap ∧ ∀ b ∈ fp, H' b = none) E s1) E s
  done : ∀ (X : Cx), X.prog = P → X.w = w → X.K = K → X.calm = true → ∀ (i : Nat) (pins : List (Addr × Obj)) (s : Shared) (σ : St) (H : Hp) (E : Value → Shared → Prop), Inv X pins σ H s → (∀ b ∈ fp, FpOk X pins H b) → tn i s.heap → J.stop i H →
    wpAny (model P w) X.A (pyNext (.ref it)) (fun r s1 => r = none ∧ Inv X pins σ H s1) E s
  self : ∀ (A : Around) (i : Nat) (s : Shared) (Q : Value → Shared → Prop) (E : Value → Shared → Prop), tn i s.heap → Q (.ref it) s → wpAny (model P w) A (pyIter (.ref it)) Q E s
abbrev TI := St → Hp → (It → Hp → Prop) → Prop
def PIE (X : Cx) (pins : List (Addr × Obj)) (σ : St) (tg : Expr) (R : It → Hp → Prop) (itv : Value) (s2 : Shared) : Prop :=
  ∃ (it : Addr) (fp : List Addr) (tn : Nat → Heap → Prop) (J : It) (H' : Hp), itv = .ref it ∧ Inv X pins σ H' s2 ∧ Turn X.prog X.w X.K tg J fp it tn ∧ tn 0 s2.heap ∧ (∀ b ∈ fp, FpOk X pins H' b) ∧ R J H'
def PI (X : Cx) (tg iter : Expr) (wi : TI) : Prop :=
  ∀ (pins : List (Addr × Obj)) (s : Shared) (σ : St) (H : Hp) (R : It → Hp → Prop), Inv X pins σ H s → wi σ H R →
    wpAny (model X.prog X.w) X.A (eval iter X.env) (fun v s1 => wpAny (model X.prog X.w) X.A (pyIter v) (PIE X pins σ tg R) X.xe s1) X.xe s
theorem go_of {M : Model} {A : Around} {E : Value → Shared → Prop} {s : Shared} {tg : Expr} {it : Addr} {u : Value} {o : Obj} {n : String} {vs : Array Value} {Q : Unit → Shared → Prop} (ho : s.heap.get? it = some o) (hc : o.cls = .type n) (hd : o.data = .fields vs)
    (hn : ["enumerate", "zip", "dict_itemiterator", "dict_reverseitemiterator", "odict_iterator", "itertools.zip_longest", "itertools.pairwise"].contains n = false) (hQ : Q () s) : wpAny M A (letOwnedTupleGo tg (.ref it) u) Q E s := by
  unfold letOwnedTupleGo
  cases tg <;> first
    | exact wpAny_pure hQ
    | (cases u <;> first
        | exact wpAny_pure hQ
        | (refine wpAny_bind (wpAny_load ho ?_)
           rw [hc, hd]
           show wpAny M A (if (["enumerate", "zip", "dict_itemiterator", "dict_reverseitemiterator", "odict_iterator", "itertools.zip_longest", "itertools.pairwise"].contains n && vs[0]? == some (rawInt _)) = true then _ else _) Q E s
           rw [if_neg (by intro h; rw [hn, Bool.false_and] at h; cases h)]
           exact wpAny_pure hQ))
def Itl (K : PySem.W.Frag) (a : Addr) : It :=
  ⟨fun i H => ∃ xs x, SqL K H a xs ∧ xs[i]? = some x, fun i H x H' => H' = H ∧ ∀ xs, SqL K H a xs → xs[i]? = some x, fun i H => ∃ xs, SqL K H a xs ∧ xs.length ≤ i⟩
def Itt (K : PySem.W.Frag) (a : Addr) : It :=
  ⟨fun i H => ∃ xs x, SqT K H a xs ∧ xs[i]? = some x, fun i H x H' => H' = H ∧ ∀ xs, SqT K H a xs → xs[i]? = some x, fun i H => ∃ xs, SqT K H a xs ∧ xs.length ≤ i⟩
def Itr (lo : Int) (n : Nat) : It := ⟨fun i _ => i < n, fun i H x H' => H' = H ∧ x = .int (lo + i), fun i _ => n ≤ i⟩
theorem turn_list {P : Program} {w : World} {K : PySem.W.Frag} {tg : Expr} (a it : Addr) : Turn P w K tg (Itl K a) [it] it (fun i h => h.IsListIter it a i) where
  mem := by simp
  obj := fun i h st b hb => by
    have e : b = it := by simpa using hb
    subst e
    obtain ⟨o, e, c, d⟩ := st
    exact ⟨o, e, fun v z => by rw [d] at z; cases z⟩
  keep := fun i h h' st k => st.at fun o e => k it (by simp) o e
  item := by
    intro X hP hw hK hc i pins s σ H E I hf st hg
    subst hP hw hK
    obtain ⟨xs, x, hq, hx⟩ := hg
    obtain ⟨its, rv, p, hz⟩ := I.list hq
    obtain ⟨u, hu, ru⟩ := rv.get hx
    obtain ⟨f0, f1, f2, f3, f4, f5⟩ := hf it (by simp)
    refine wpAny_pyNext_list_item st p.isList (x := u) (by simpa using hu) fun h' st' sb => ?_
    have I1 : Inv X pins σ H { s with heap := h' } := I.turned (t' := s.toks) (fun b o hb e => (sb.2 b hb).trans e) f0 f1 f3 f4 f5
    obtain ⟨o, e, c, d⟩ := id st'
    exact ⟨u, rfl, go_of (s := { s with heap := h' }) e c d (by decide) ⟨x, H, I1, ru, ⟨rfl, fun ys hy => by rw [I.list_inj hy hq]; exact hx⟩, st', fun b hb => (hf b hb).1⟩⟩
  done := by
    intro X hP hw hK hc i pins s σ H E I hf st hg
    subst hP hw hK
    obtain ⟨xs, hq, hx⟩ := hg
    obtain ⟨its, rv, p, hz⟩ := I.list hq
    obtain ⟨f0, f1, f2, f3, f4, f5⟩ := hf it (by simp)
    have hl := rv.length
    exact wpAny_pyNext_list_end (I.ok.hd hc) st p.isList (by simp; omega) fun h' eb => ⟨rfl, I.turned (t' := s.toks) (fun b o hb e => eb b o hb e) f0 f1 f3 f4 f5⟩
  self := fun _ _ _ _ _ st h => wpAny_pyIter_listiter st h
theorem turn_tuple {P : Program} {w : World} {K : PySem.W.Frag} {tg : Expr} (a it : Addr) : Turn P w K tg (Itt K a) [it] it (fun i h => h.IsTupleIter it a i) where
  mem := by simp
  obj := fun i h st b hb => by
    have e : b = it := by simpa using hb
    subst e
    obtain ⟨o, e, c, d⟩ := st
    exact ⟨o, e, fun v z => by rw [d] at z; cases z⟩
  keep := fun i h h' st k => st.at fun o e => k it (by simp) o e
  item := by
    intro X hP hw hK hc i pins s σ H E I hf st hg
    subst hP hw hK
    obtain ⟨xs, x, hq, hx⟩ := hg
    obtain ⟨its, rv, p, hz⟩ := I.tuple hq
    obtain ⟨u, hu, ru⟩ := rv.get hx
    obtain ⟨f0, f1, f2, f3, f4, f5⟩ := hf it (by simp)
    refine wpAny_pyNext_tuple_item st (show s.heap.IsTuple a its.toArray from p) (x := u) (by simpa using hu) fun h' st' sb => ?_
    have I1 : Inv X pins σ H { s with heap := h' } := I.turned (t' := s.toks) (fun b o hb e => (sb.2 b hb).trans e) f0 f1 f3 f4 f5
    obtain ⟨o, e, c, d⟩ := id st'
    exact ⟨u, rfl, go_of (s := { s with heap := h' }) e c d (by decide) ⟨x, H, I1, ru, ⟨rfl, fun ys hy => by rw [I.tuple_inj hy hq]; exact hx⟩, st', fun b hb => (hf b hb).1⟩⟩
  done := by
    intro X hP hw hK hc i pins s σ H E I hf st hg
    subst hP hw hK
    obtain ⟨xs, hq, hx⟩ := hg
    obtain ⟨its, rv, p, hz⟩ := I.tuple hq
    obtain ⟨f0, f1, f2, f3, f4, f5⟩ := hf it (by simp)
    have hl := rv.length
    exact wpAny_pyNext_tuple_end (I.ok.hd hc) st (show s.heap.IsTuple a its.toArray from p) (by simp; omega) fun h' eb => ⟨rfl, I.turned (t' := s.toks) (fun b o hb e => eb b o hb e) f0 f1 f3 f4 f5⟩
  self := fun _ _ _ _ _ st h => wpAny_pyIter_tupleiter st h
theorem turn_range {P : Program} {w : World} {K : PySem.W.Frag} {tg : Expr} (it : Addr) (lo : Int) (n : Nat) : Turn P w K tg (Itr lo n) [it] it (fun i h => IsRangeIter h it (lo + (i : Nat) * 1) ((n : Int) - (i : Nat)) 1) where
  mem := by simp
  obj := fun i h st b hb => by
    have e : b = it := by simpa using hb
    subst e
    exact ⟨_, st, fun v z => by
      have z' : Data.fields _ = Data.cell v := z
      cases z'⟩
  keep := fun i h h' st k => k it (by simp) _ st
  item := by
    intro X hP hw hK hc i pins s σ H E I hf st hg
    subst hP hw hK
    obtain ⟨f0, f1, f2, f3, f4, f5⟩ := hf it (by simp)
    have W := Walks.range (prog := X.prog) (w := X.w) (I.ok.hd hc) it lo 1 n
    refine W.item i s _ _ hg st fun v h' tk hv st' kk => ?_
    obtain ⟨t, rfl⟩ := hv
    have I1 : Inv X pins σ H { s with heap := h', toks := tk } := I.turned (fun b o hb e => kk b o (by simpa using hb) e) f0 f1 f3 f4 f5
    refine ⟨_, rfl, go_of (s := { s with heap := h', toks := tk }) (n := "range_iterator") st' rfl rfl (by decide) ⟨.int (lo + i), H, I1, ⟨t, ?_⟩, ⟨rfl, rfl⟩, st', fun b hb => (hf b hb).1⟩⟩
    rw [Int.mul_one]
  done := by
    intro X hP hw hK hc i pins s σ H E I hf st hg
    subst hP hw hK
    obtain ⟨f0, f1, f2, f3, f4, f5⟩ := hf it (by simp)
    exact wpAny_pyNext_range_end (I.ok.hd hc) st (by have : n ≤ i := hg; omega) fun h' eb => ⟨rfl, I.turned (t' := s.toks) (fun b o hb e => eb b o hb e) f0 f1 f3 f4 f5⟩
  self := fun _ _ _ _ _ st h => wpAny_pyIter_rangeiter st h
end L2
namespace L2
open PySem PySem.Spec PyProof.Rows
section
variable {X : Cx} {tg : Expr}
def iList (K : PySem.W.Frag) (tl : TE) : TI := fun σ H R => tl σ H fun x H1 => ∃ a, x = .ref a ∧ (∃ xs, SqL K H1 a xs) ∧ R (Itl K a) H1
def iTup (K : PySem.W.Frag) (tl : TE) : TI := fun σ H R => tl σ H fun x H1 => ∃ a, x = .ref a ∧ (∃ xs, SqT K H1 a xs) ∧ R (Itt K a) H1
theorem pi_list {l : Expr} {tl : TE} (hl : PE X l tl) : PI X tg l (iList X.K tl) := by
  intro pins s σ H R I h
  refine thn (hl pins s σ H _ I h) fun v s1 ⟨x, H1, I1, r1, q1⟩ => ?_
  obtain ⟨a, e, ⟨xs, hq⟩, q⟩ := q1
  subst e
  cases r1
  obtain ⟨its, rv, p, hz⟩ := I1.list hq
  refine wpAny_pyIter_list p.isList ?_
  refine ⟨s1.heap.objs.size, [s1.heap.objs.size], _, _, H1, rfl, I1.kept (t' := s1.toks) fun b o e => Heap.get?_push_of_some _ e, turn_list a _, ⟨_, Heap.get?_push_size _ rfl, rfl, rfl⟩, fun b hb => ?_, q⟩
  have e : b = s1.heap.objs.size := by simpa using hb
  subst e
  exact I1.fpOk (Nat.le_refl _) (I1.hok.fresh (Nat.le_refl _))
theorem pi_tup {l : Expr} {tl : TE} (hl : PE X l tl) : PI X tg l (iTup X.K tl) := by
  intro pins s σ H R I h
  refine thn (hl pins s σ H _ I h) fun v s1 ⟨x, H1, I1, r1, q1⟩ => ?_
  obtain ⟨a, e, ⟨xs, hq⟩, q⟩ := q1
  subst e
  cases r1
  obtain ⟨its, rv, p, hz⟩ := I1.tuple hq
  refine wpAny_pyIter_tuple (show s1.heap.IsTuple a its.toArray from p) ?_
  refine ⟨s1.heap.objs.size, [s1.heap.objs.size], _, _, H1, rfl, I1.kept (t' := s1.toks) fun b o e => Heap.get?_push_of_some _ e, turn_tuple a _, ⟨_, Heap.get?_push_size _ rfl, rfl, rfl⟩, fun b hb => ?_, q⟩
  have e : b = s1.heap.objs.size := by simpa using hb
  subst e
  exact I1.fpOk (Nat.le_refl _) (I1.hok.fresh (Nat.le_refl _))
theorem range_it {pins : List (Addr × Obj)} {σ : St} {H : Hp} {s : Shared} {R : It → Hp → Prop} {E : Value → Shared → Prop} {lo hi : Int} {t u v : Tok} {tk : Nat} (I : Inv X pins σ H s) (h1 : -(2 ^ 62) ≤ lo) (h2 : lo < 2 ^ 62) (h3 : -(2 ^ 62) ≤ hi) (h4 : hi < 2 ^ 62)
    (q : R (Itr lo (hi - lo).toNat) H) : wpAny (model X.prog X.w) X.A (pyIter (.ref s.heap.objs.size)) (PIE X pins σ tg R) E { s with heap := s.heap.push { cls := .type "range", data := .fields #[.int lo t, .int hi u, .int 1 v] }, toks := tk } := by
  refine wpAny_pyIter_range (IsRange.new ..) (small_one h1 h2 h3 h4) ?_
  have I1 : Inv X pins σ H { s with heap := s.heap.push { cls := .type "range", data := .fields #[.int lo t, .int hi u, .int 1 v] }, toks := tk } := I.kept fun b o e => Heap.get?_push_of_some _ e
  refine ⟨(s.heap.push { cls := .type "range", data := .fields #[.int lo t, .int hi u, .int 1 v] }).objs.size, [(s.heap.push { cls := .type "range", data := .fields #[.int lo t, .int hi u, .int 1 v] }).objs.size], _, _, H, rfl,
    I1.kept (t' := tk) fun b o e => Heap.get?_push_of_some _ e, turn_range _ lo (hi - lo).toNat, ?_, fun b hb => ?_, q⟩
  · have e1 : lo + ((0 : Nat) : Int) * 1 = lo := by simp
    have e2 : (((hi - lo).toNat : Nat) : Int) - ((0 : Nat) : Int) = Builtin.Range.rangeSize lo hi 1 := by rw [rangeSize_one]; split <;> omega
    show IsRangeIter _ _ (lo + ((0 : Nat) : Int) * 1) ((((hi - lo).toNat : Nat) : Int) - ((0 : Nat) : Int)) 1
    rw [e1, e2]
    exact Heap.get?_push_size _ rfl
  · have e : b = (s.heap.push { cls := .type "range", data := .fields #[.int lo t, .int hi u, .int 1 v] }).objs.size := by simpa using hb
    subst e
    exact I1.fpOk (Nat.le_refl _) (I1.hok.fresh (Nat.le_refl _))
def iRng1 (ta : TA) : TI := fun σ H R => ta σ H fun vs H1 => ∃ j : Int, vs = [.int j] ∧ -(2 ^ 62) ≤ j ∧ j < 2 ^ 62 ∧ R (Itr 0 j.toNat) H1
theorem pi_range1 {a : Expr} {ta : TA} {p pos : Pos} (hg : Gl X "range") (hm : X.mg "range" = none) (ha : PA X [a] ta) (hs : starEach [a] X.env = [(false, eval a X.env)] := by rfl) : PI X tg (.Call (.Name "range" p) [a] [] pos) (iRng1 ta) := by
  intro pins s σ H R I h
  refine Call_ (ld_blt I hg hm boot_range (PyProof.Rows.callWith_type1 (thn (ha pos pins s σ H _ I h) fun us s1 ⟨vs, H1, I1, r1, q1⟩ => ?_) hs rfl))
  obtain ⟨j, e, q1, q2, q⟩ := q1
  subst e
  cases r1 with
  | cons r rr =>
    cases rr
    obtain ⟨t, rfl⟩ := r
    exact call_range_1 (range_it I1 (by omega) (by omega) q1 q2 (by simpa using q))
def tFor (wi : TI) (g : TG) (tb : TS) : TS := fun D σ H => wi σ H fun J H1 => ∃ W : Nat → Nat → St → Hp → Prop, (∃ m, W 0 m σ H1) ∧ ∀ i m σ H, W i m σ H →
  (J.stop i H ∧ D.nx σ H) ∨ (J.go i H ∧ ∃ N : St → Hp → Prop, (∀ σ' H', N σ' H' → ∃ m', m' < m ∧ W (i + 1) m' σ' H') ∧ ∀ x H', J.yld i H x H' → g x σ H' fun σ2 H2 => tb { D with nx := N, ct := N, bk := D.nx } σ2 H2)
def pinsAt (fp : List Addr) (h : Heap) : List (Addr × Obj) := fp.filterMap fun b => (h.get? b).map fun o => (b, o)
theorem mem_pinsAt {fp : List Addr} {h : Heap} {b : Addr} {o : Obj} (hb : b ∈ fp) (e : h.get? b = some o) : (b, o) ∈ pinsAt fp h := List.mem_filterMap.mpr ⟨b, hb, by rw [e]; rfl⟩
theorem of_pinsAt {fp : List Addr} {h : Heap} {p : Addr × Obj} (hp : p ∈ pinsAt fp h) : p.1 ∈ fp ∧ h.get? p.1 = some p.2 := by
  obtain ⟨b, hb, e⟩ := List.mem_filterMap.mp hp
  cases q : h.get? b with
  | none => rw [q] at e; cases e
  | some o =>
    rw [q] at e
    have e' : (b, o) = p := Option.some.inj e
    subst e'
    exact ⟨hb, q⟩
theorem Inv.pinned {pins : List (Addr × Obj)} {σ : St} {H : Hp} {s : Shared} {fp : List Addr} (I : Inv X pins σ H s) (hf : ∀ b ∈ fp, FpOk X pins H b) (ho : ∀ b ∈ fp, ∃ o, s.heap.get? b = some o ∧ ∀ v, o.data ≠ .cell v) : Inv X (pins ++ pinsAt fp s.heap) σ H s :=
  I.pins_of fun p hp => (List.mem_append.mp hp).elim (fun z => I.pin p (List.mem_append_right _ z)) fun z => by
    obtain ⟨hb, e⟩ := of_pinsAt z
    obtain ⟨f0, f1, f2, _⟩ := hf p.1 hb
    obtain ⟨o, e', d⟩ := ho p.1 hb
    rw [e] at e'; cases e'
    exact ⟨e, f0, f1, f2, d⟩
theorem Inv.unpinned {pins pl : List (Addr × Obj)} {σ : St} {H : Hp} {s : Shared} (I : Inv X (pins ++ pl) σ H s) : Inv X pins σ H s := I.pins_of fun p hp => I.pin p (List.mem_append_right _ (List.mem_append_left _ hp))
theorem ps_for {iter : Expr} {body : List Stmt} {wi : TI} {g : TG} {tb : TS} {pos : Pos} (hp : PassesOwn (model X.prog X.w) X.A X.env X.xe) (hc : X.calm = true) (hi : PI X tg iter wi) (hg : PG X tg g) (hb : PSs X body tb)
    (hs : ∀ x, foldedSetIterable iter X.env x = pure x := by intro _; rfl) : PS X (.For tg iter body [] pos) (tFor wi g tb) := by
  intro pins s σ H D I h
  refine wpAny_For (thn (hi pins s σ H _ I h) fun v s1 h1 => thn h1 fun itv s2 h2 => ?_) hs
  obtain ⟨it, fp, tn, J, H2, e, I2, T, st2, f2, W, ⟨m0, w0⟩, turn⟩ := h2
  subst e
  -- what stays true of the iterator's objects through the loop
  have stat : ∀ {H' : Hp}, (∀ b ∈ fp, H' b = none) → ∀ b ∈ fp, FpOk X pins H' b := fun hn b hb => ⟨hn b hb, (f2 b hb).2⟩
  refine codeAny_forLoop_any (fun n s' => ∃ i σ' H', Inv X pins σ' H' s' ∧ tn i s'.heap ∧ (∀ b ∈ fp, H' b = none) ∧ W i n σ' H') ?_ m0 ⟨0, σ, H2, I2, st2, fun b hb => (f2 b hb).1, w0⟩
  rintro n s3 ⟨i, σ3, H3, I3, st3, fr3, w3⟩
  rcases turn i n σ3 H3 w3 with ⟨stop, qn⟩ | ⟨go, N, hN, step⟩
  · refine wpAny_passesOwn hp (thn (T.done X rfl rfl rfl hc i pins s3 σ3 H3 X.xe I3 (stat fr3) st3 stop) fun r s4 ⟨hr, I4⟩ => ?_)
    subst hr
    exact wpAny_execs_nil ⟨σ3, H3, I4, qn⟩
  · refine wpAny_passesOwn hp (thn (T.item X rfl rfl rfl hc i pins s3 σ3 H3 X.xe I3 (stat fr3) st3 go) fun r s4 ⟨u, hr, h4⟩ => ?_)
    subst hr
    refine wpAny_passesOwn hp (thn h4 fun _ s5 ⟨x, H5, I5, r5, y5, st5, fr5⟩ => ?_)
    have I5' := I5.pinned (stat fr5) (T.obj _ _ st5)
    refine wpAny_passesOwn hp (thn (hg _ s5 σ3 H5 x u _ I5' r5 (step x H5 y5)) fun _ s6 ⟨σ6, H6, I6, q6⟩ => ?_)
    refine wpAny_passesOwn hp (thn (hb _ s6 σ6 H6 _ I6 q6) fun f s7 q7 => ?_)
    have again : ∀ {σ7 : St} {H7 : Hp}, Inv X (pins ++ pinsAt fp s5.heap) σ7 H7 s7 → N σ7 H7 → ∃ m, m < n ∧ ∃ i σ' H', Inv X pins σ' H' s7 ∧ tn i s7.heap ∧ (∀ b ∈ fp, H' b = none) ∧ W i m σ' H' := fun {σ7 H7} I7 n7 => by
      obtain ⟨m', hm, w7⟩ := hN σ7 H7 n7
      refine ⟨m', hm, i + 1, σ7, H7, I7.unpinned, T.keep _ _ _ st5 fun b hb o e => (I7.pin (b, o) (List.mem_append_right _ (List.mem_append_right _ (mem_pinsAt hb e)))).1, fun b hb => ?_, w7⟩
      obtain ⟨o, e, d⟩ := T.obj _ _ st5 b hb
      exact (I7.pin (b, o) (List.mem_append_right _ (List.mem_append_right _ (mem_pinsAt hb e)))).2.1
    cases f with
    | next => obtain ⟨σ7, H7, I7, n7⟩ := q7; exact again I7 n7
    | cont => obtain ⟨σ7, H7, I7, n7⟩ := q7; exact again I7 n7
    | brk => obtain ⟨σ7, H7, I7, q7⟩ := q7; exact ⟨σ7, H7, I7.unpinned, q7⟩
    | ret v => obtain ⟨x7, σ7, H7, I7, r7, q7⟩ := q7; exact ⟨x7, σ7, H7, I7.unpinned, r7, q7⟩
end
theorem for_list {K : PySem.W.Frag} {a : Addr} {xs : List V} {g : TG} {tb : TS} {D : Ends} {σ : St} {H : Hp} (Pv : Nat → St → Hp → Prop) (h0 : Pv 0 σ H) (hl : ∀ i σ H, i ≤ xs.length → Pv i σ H → SqL K H a xs)
    (hs : ∀ i x σ H, xs[i]? = some x → Pv i σ H → g x σ H fun σ2 H2 => tb { D with nx := Pv (i + 1), ct := Pv (i + 1), bk := D.nx } σ2 H2) (hd : ∀ σ H, Pv xs.length σ H → D.nx σ H) :
    ∃ W : Nat → Nat → St → Hp → Prop, (∃ m, W 0 m σ H) ∧ ∀ i m σ H, W i m σ H →
      ((Itl K a).stop i H ∧ D.nx σ H) ∨ ((Itl K a).go i H ∧ ∃ N : St → Hp → Prop, (∀ σ' H', N σ' H' → ∃ m', m' < m ∧ W (i + 1) m' σ' H') ∧ ∀ x H', (Itl K a).yld i H x H' → g x σ H' fun σ2 H2 => tb { D with nx := N, ct := N, bk := D.nx } σ2 H2) := by
  refine ⟨fun i m σ H => m = xs.length - i ∧ i ≤ xs.length ∧ Pv i σ H, ⟨xs.length, by simp, Nat.zero_le _, h0⟩, ?_⟩
  rintro i m σ H ⟨rfl, hi, p⟩
  have q := hl i σ H hi p
  by_cases hlt : i < xs.length
  · refine .inr ⟨⟨xs, xs[i], q, by simp [hlt]⟩, Pv (i + 1), fun σ' H' p' => ⟨xs.length - (i + 1), by omega, rfl, hlt, p'⟩, fun x H' y => ?_⟩
    obtain ⟨e, y⟩ := y
    subst e
    exact hs i x σ _ (y xs q) p
  · have e : i = xs.length := by omega
    subst e
    exact .inl ⟨⟨xs, q, Nat.le_refl _⟩, hd σ H p⟩
theorem for_tup {K : PySem.W.Frag} {a : Addr} {xs : List V} {g : TG} {tb : TS} {D : Ends} {σ : St} {H : Hp} (Pv : Nat → St → Hp → Prop) (h0 : Pv 0 σ H) (hl : ∀ i σ H, i ≤ xs.length → Pv i σ H → SqT K H a xs)
    (hs : ∀ i x σ H, xs[i]? = some x → Pv i σ H → g x σ H fun σ2 H2 => tb { D with nx := Pv (i + 1), ct := Pv (i + 1), bk := D.nx } σ2 H2) (hd : ∀ σ H, Pv xs.length σ H → D.nx σ H) :
    ∃ W : Nat → Nat → St → Hp → Prop, (∃ m, W 0 m σ H) ∧ ∀ i m σ H, W i m σ H →
      ((Itt K a).stop i H ∧ D.nx σ H) ∨ ((Itt K a).go i H ∧ ∃ N : St → Hp → Prop, (∀ σ' H', N σ' H' → ∃ m', m' < m ∧ W (i + 1) m' σ' H') ∧ ∀ x H', (Itt K a).yld i H x H' → g x σ H' fun σ2 H2 => tb { D with nx := N, ct := N, bk := D.nx } σ2 H2) := by
  refine ⟨fun i m σ H => m = xs.length - i ∧ i ≤ xs.length ∧ Pv i σ H, ⟨xs.length, by simp, Nat.zero_le _, h0⟩, ?_⟩
  rintro i m σ H ⟨rfl, hi, p⟩
  have q := hl i σ H hi p
  by_cases hlt : i < xs.length
  · refine .inr ⟨⟨xs, xs[i], q, by simp [hlt]⟩, Pv (i + 1), fun σ' H' p' => ⟨xs.length - (i + 1), by omega, rfl, hlt, p'⟩, fun x H' y => ?_⟩
    obtain ⟨e, y⟩ := y
    subst e
    exact hs i x σ _ (y xs q) p
  · have e : i = xs.length := by omega
    subst e
    exact .inl ⟨⟨xs, q, Nat.le_refl _⟩, hd σ H p⟩
theorem for_range {lo : Int} {n : Nat} {g : TG} {tb : TS} {D : Ends} {σ : St} {H : Hp} (Pv : Nat → St → Hp → Prop) (h0 : Pv 0 σ H)
    (hs : ∀ i σ H, i < n → Pv i σ H → g (.int (lo + i)) σ H fun σ2 H2 => tb { D with nx := Pv (i + 1), ct := Pv (i + 1), bk := D.nx } σ2 H2) (hd : ∀ σ H, Pv n σ H → D.nx σ H) :
    ∃ W : Nat → Nat → St → Hp → Prop, (∃ m, W 0 m σ H) ∧ ∀ i m σ H, W i m σ H →
      ((Itr lo n).stop i H ∧ D.nx σ H) ∨ ((Itr lo n).go i H ∧ ∃ N : St → Hp → Prop, (∀ σ' H', N σ' H' → ∃ m', m' < m ∧ W (i + 1) m' σ' H') ∧ ∀ x H', (Itr lo n).yld i H x H' → g x σ H' fun σ2 H2 => tb { D with nx := N, ct := N, bk := D.nx } σ2 H2) := by
  refine ⟨fun i m σ H => m = n - i ∧ i ≤ n ∧ Pv i σ H, ⟨n, by simp, Nat.zero_le _, h0⟩, ?_⟩
  rintro i m σ H ⟨rfl, hi, p⟩
  by_cases hlt : i < n
  · refine .inr ⟨hlt, Pv (i + 1), fun σ' H' p' => ⟨n - (i + 1), by omega, rfl, hlt, p'⟩, fun x H' y => ?_⟩
    obtain ⟨e, y⟩ := y
    subst e y
    exact hs i σ _ hlt p
  · have e : i = n := by omega
    subst e
    exact .inl ⟨Nat.le_refl _, hd σ H p⟩
end L2
namespace L2
open PySem PySem.Spec PyProof.Rows
abbrev R2 := V → V → Hp → VK → Prop
def OpR (X : Cx) (f : Value → Value → Sem Value) (r : R2) : Prop :=
  ∀ (pins : List (Addr × Obj)) (s : Shared) (σ : St) (H : Hp) (x y : V) (v u : Value) (Q : VK), Inv X pins σ H s → RelV x v → RelV y u → r x y H Q →
    wpAny (model X.prog X.w) X.A (f v u) (EP X pins σ Q) X.xe s
def UnR (X : Cx) (f : Value → Sem Value) (r : V → Hp → VK → Prop) : Prop :=
  ∀ (pins : List (Addr × Obj)) (s : Shared) (σ : St) (H : Hp) (x : V) (v : Value) (Q : VK), Inv X pins σ H s → RelV x v → r x H Q →
    wpAny (model X.prog X.w) X.A (f v) (EP X pins σ Q) X.xe s
def CallR (X : Cx) (f : Value) (r : List V → Hp → VK → Prop) : Prop :=
  ∀ (pins : List (Addr × Obj)) (s : Shared) (σ : St) (H : Hp) (xs : List V) (us : List Value) (Q : VK), Inv X pins σ H s → Vals xs us → r xs H Q →
    wpAny (model X.prog X.w) X.A (call f us) (EP X pins σ Q) X.xe s
def tOp (r : R2) (ta tb : TE) : TE := fun σ H Q => ta σ H fun x H1 => tb σ H1 fun y H2 => r x y H2 Q
def tUn (r : V → Hp → VK → Prop) (ta : TE) : TE := fun σ H Q => ta σ H fun x H1 => r x H1 Q
def rI (C : Int → Int → Prop) (g : Int → Int → V) : R2 := fun x y H Q => ∃ i j, x = .int i ∧ y = .int j ∧ C i j ∧ Q (g i j) H
def rI0 (g : Int → Int → V) : R2 := fun x y H Q => ∃ i j, x = .int i ∧ y = .int j ∧ Q (g i j) H
def rU (g : Int → V) : V → Hp → VK → Prop := fun x H Q => ∃ i, x = .int i ∧ Q (g i) H
section
variable {X : Cx} {a b c : Expr} {ta tb tc : TE} {pos : Pos}
theorem binT (ha : PE X a ta) (hb : PE X b tb) {pins : List (Addr × Obj)} {s : Shared} {σ : St} {H : Hp} {R : V → V → Hp → Prop} (I : Inv X pins σ H s)
    (h : ta σ H fun x H1 => tb σ H1 fun y H2 => R x y H2) {Q : Value → Shared → Prop} {f : Value → Value → Sem Value}
    (hf : ∀ v u s2 x y H2, Inv X pins σ H2 s2 → RelV x v → RelV y u → R x y H2 → wpAny (model X.prog X.w) X.A (f v u) Q X.xe s2) :
    wpAny (model X.prog X.w) X.A (eval a X.env) (fun v s₁ => wpAny (model X.prog X.w) X.A (eval b X.env) (fun u s₂ => wpAny (model X.prog X.w) X.A (f v u) Q X.xe s₂) X.xe s₁) X.xe s := by
  refine thn (ha pins s σ H _ I h) fun v s1 ⟨x, H1, I1, r1, q1⟩ => ?_
  refine thn (hb pins s1 σ H1 _ I1 q1) fun u s2 ⟨y, H2, I2, r2, q2⟩ => ?_
  exact hf v u s2 x y H2 I2 r1 r2 q2
theorem pe_op {op : Operator} {r : R2} (ho : OpR X (binaryOp op) r) (ha : PE X a ta) (hb : PE X b tb) : PE X (.BinOp a op b pos) (tOp r ta tb) := by
  intro pins s σ H Q I h
  exact wpAny_BinOp (binT ha hb I h fun v u s2 x y H2 I2 rx ry q => ho pins s2 σ H2 x y v u Q I2 rx ry q)
theorem pe_un {op : UnaryOp} {r : V → Hp → VK → Prop} (ho : UnR X (unaryOp op) r) (ha : PE X a ta) : PE X (.UnaryOp op a pos) (tUn r ta) := by
  intro pins s σ H Q I h
  exact UnaryOp_ (thn (ha pins s σ H _ I h) fun v s1 ⟨x, H1, I1, r1, q1⟩ => ho pins s1 σ H1 x v Q I1 r1 q1)
theorem opI {f : Value → Value → Sem Value} {C : Int → Int → Prop} {g : Int → Int → Int}
    (rule : ∀ (i j : Int) (t u : Tok) (s : Shared) (Q : Value → Shared → Prop) (E : Value → Shared → Prop), C i j → Q (.int (g i j) s.toks) { s with toks := s.toks + 1 } → wpAny (model X.prog X.w) X.A (f (.int i t) (.int j u)) Q E s) :
    OpR X f (rI C fun i j => .int (g i j)) := by
  intro pins s σ H x y v u Q I rx ry h
  obtain ⟨i, j, rfl, rfl, hc, q⟩ := h
  obtain ⟨t, rfl⟩ := rx
  obtain ⟨t', rfl⟩ := ry
  exact rule i j t t' s _ _ hc ⟨.int (g i j), H, I.tok _, ⟨_, rfl⟩, q⟩
theorem opI0 {f : Value → Value → Sem Value} {g : Int → Int → Int}
    (rule : ∀ (i j : Int) (t u : Tok) (s : Shared) (Q : Value → Shared → Prop) (E : Value → Shared → Prop), Q (.int (g i j) s.toks) { s with toks := s.toks + 1 } → wpAny (model X.prog X.w) X.A (f (.int i t) (.int j u)) Q E s) :
    OpR X f (rI0 fun i j => .int (g i j)) := by
  intro pins s σ H x y v u Q I rx ry h
  obtain ⟨i, j, rfl, rfl, q⟩ := h
  obtain ⟨t, rfl⟩ := rx
  obtain ⟨t', rfl⟩ := ry
  exact rule i j t t' s _ _ ⟨.int (g i j), H, I.tok _, ⟨_, rfl⟩, q⟩
theorem opB0 {f : Value → Value → Sem Value} {g : Int → Int → Bool}
    (rule : ∀ (i j : Int) (t u : Tok) (s : Shared) (Q : Value → Shared → Prop) (E : Value → Shared → Prop), Q (.bool (g i j)) s → wpAny (model X.prog X.w) X.A (f (.int i t) (.int j u)) Q E s) :
    OpR X f (rI0 fun i j => .bl (g i j)) := by
  intro pins s σ H x y v u Q I rx ry h
  obtain ⟨i, j, rfl, rfl, q⟩ := h
  obtain ⟨t, rfl⟩ := rx
  obtain ⟨t', rfl⟩ := ry
  exact rule i j t t' s _ _ ⟨.bl (g i j), H, I, rfl, q⟩
def CDiv (i j : Int) : Prop := 0 < j ∧ j < 1073741824
def CPow (i j : Int) : Prop := 0 ≤ j ∧ j ≤ 1000000 ∧ i.natAbs < 2 ^ 64
def CMul (i j : Int) : Prop := (-(2 ^ 64) < i ∧ i < 2 ^ 64) ∨ (-(2 ^ 64) < j ∧ j < 2 ^ 64)
theorem CMul.ok {i j : Int} (h : CMul i j) : IntMulOk i j := by
  rcases h with ⟨h1, h2⟩ | ⟨h1, h2⟩
  · exact .of_left (intBits_le_64 h1 h2)
  · exact .of_right (intBits_le_64 h1 h2)
theorem op_add : OpR X (binaryOp .Add) (rI0 fun i j => .int (i + j)) := opI0 fun _ _ _ _ _ _ _ q => add_int q
theorem op_sub : OpR X (binaryOp .Sub) (rI0 fun i j => .int (i - j)) := opI0 fun _ _ _ _ _ _ _ q => sub_int q
theorem op_mul : OpR X (binaryOp .Mult) (rI CMul fun i j => .int (i * j)) := opI fun _ _ _ _ _ _ _ hc q => mul_int q hc.ok
theorem op_fdiv : OpR X (binaryOp .FloorDiv) (rI CDiv fun i j => .int (i / j)) := opI fun i j _ _ _ _ _ hc q => by
  have h1 : (0 : Int) < j := hc.1
  have h2 : j < 1073741824 := hc.2
  exact floordiv_int (by omega) (by rw [Int.fdiv_eq_ediv_of_nonneg i (by omega)]; exact q) (.inl (PyProof.noPylong_small (by omega)))
theorem op_mod : OpR X (binaryOp .Mod) (rI (fun _ j => 0 < j) fun i j => .int (i % j)) := opI fun i j _ _ _ _ _ hc q => by
  have h1 : (0 : Int) < j := hc
  exact mod_int' (by omega) (by rw [Int.fmod_eq_emod_of_nonneg i (by omega)]; exact q)
theorem op_pow : OpR X (binaryOp .Pow) (rI CPow fun i j => .int (i ^ j.toNat)) := opI fun _ _ _ _ _ _ _ hc q => pow_int_small hc.1 hc.2.1 hc.2.2 q
theorem unI {f : Value → Sem Value} {g : Int → Int}
    (rule : ∀ (i : Int) (t : Tok) (s : Shared) (Q : Value → Shared → Prop) (E : Value → Shared → Prop), Q (.int (g i) s.toks) { s with toks := s.toks + 1 } → wpAny (model X.prog X.w) X.A (f (.int i t)) Q E s) :
    UnR X f (rU fun i => .int (g i)) := by
  intro pins s σ H x v Q I rx h
  obtain ⟨i, rfl, q⟩ := h
  obtain ⟨t, rfl⟩ := rx
  exact rule i t s _ _ ⟨.int (g i), H, I.tok _, ⟨_, rfl⟩, q⟩
theorem un_neg : UnR X (unaryOp .USub) (rU fun i => .int (-i)) := unI fun _ _ _ _ _ q => neg_int q
end
def scal : V → V → Bool
  | .non, .non => true | .non, .int _ => true | .int _, .non => true | .non, .bl _ => true | .bl _, .non => true | .non, .str _ => true | .str _, .non => true
  | .int _, .int _ => true | .bl _, .bl _ => true | .str _, .str _ => true | .byt _, .byt _ => true
  | .int _, .str _ => true | .str _, .int _ => true | .bl _, .str _ => true | .str _, .bl _ => true
  | _, _ => false
def rEq : R2 := fun x y H Q => scal x y = true ∧ Q (.bl (decide (x = y))) H
def rNe : R2 := fun x y H Q => scal x y = true ∧ Q (.bl (!decide (x = y))) H
theorem dec_int {i j : Int} : decide (V.int i = V.int j) = (i == j) := by
  rw [Bool.eq_iff_iff]
  simp
theorem dec_bl {i j : Bool} : decide (V.bl i = V.bl j) = (i == j) := by
  rw [Bool.eq_iff_iff]
  simp
theorem dec_str {i j : Str} : decide (V.str i = V.str j) = (i == j) := by
  rw [Bool.eq_iff_iff]
  simp
theorem dec_byt {i j : Array UInt8} : decide (V.byt i = V.byt j) = (i.toList == j.toList) := by
  rw [Bool.eq_iff_iff]
  cases i
  cases j
  simp
section
variable {X : Cx} {a b c : Expr} {ta tb tc : TE} {pos : Pos}
theorem fin_bl {pins : List (Addr × Obj)} {σ : St} {H : Hp} {s : Shared} {Q : VK} {k k' : Bool} (I : Inv X pins σ H s) (q : Q (.bl k) H) (e : k = k') : EP X pins σ Q (.bool k') s := by
  subst e
  exact ⟨.bl k, H, I, rfl, q⟩
theorem op_eq : OpR X (compareOp .Eq) rEq := by
  intro pins s σ H x y v u Q I rx ry h
  obtain ⟨hs, q⟩ := h
  cases x with
  | non =>
    cases rx
    cases y with
    | non => cases ry; exact PySem.EqNone.eq_none_none (fin_bl I q (by simp))
    | bl j => cases ry; exact PySem.EqNone.eq_none_bool (fin_bl I q (by simp))
    | int j => obtain ⟨t', rfl⟩ := ry; exact PySem.EqNone.eq_none_int (fin_bl I q (by simp))
    | str j => obtain ⟨t', rfl⟩ := ry; exact PySem.EqNone.eq_none_str (fin_bl I q (by simp))
    | _ => exact absurd (show false = true from hs) Bool.false_ne_true
  | bl i =>
    cases rx
    cases y with
    | non => cases ry; exact PySem.EqNone.eq_bool_none (fin_bl I q (by simp))
    | bl j => cases ry; exact eq_bool (fin_bl I q dec_bl)
    | str j => obtain ⟨t', rfl⟩ := ry; exact PySem.EqMixed.eq_bool_str (fin_bl I q (by simp))
    | _ => exact absurd (show false = true from hs) Bool.false_ne_true
  | int i =>
    obtain ⟨t, rfl⟩ := rx
    cases y with
    | non => cases ry; exact PySem.EqNone.eq_int_none (fin_bl I q (by simp))
    | int j => obtain ⟨t', rfl⟩ := ry; exact eq_int (fin_bl I q dec_int)
    | str j => obtain ⟨t', rfl⟩ := ry; exact PySem.EqMixed.eq_int_str (fin_bl I q (by simp))
    | _ => exact absurd (show false = true from hs) Bool.false_ne_true
  | str i =>
    obtain ⟨t, rfl⟩ := rx
    cases y with
    | non => cases ry; exact PySem.EqNone.eq_str_none (fin_bl I q (by simp))
    | bl j => cases ry; exact PySem.EqMixed.eq_str_bool (fin_bl I q (by simp))
    | int j => obtain ⟨t', rfl⟩ := ry; exact PySem.EqMixed.eq_str_int (fin_bl I q (by simp))
    | str j => obtain ⟨t', rfl⟩ := ry; exact eq_str (fin_bl I q dec_str)
    | _ => exact absurd (show false = true from hs) Bool.false_ne_true
  | byt i =>
    obtain ⟨t, rfl⟩ := rx
    cases y with
    | byt j => obtain ⟨t', rfl⟩ := ry; exact PySem.W.eq_bytes (fin_bl I q dec_byt)
    | _ => exact absurd (show false = true from hs) Bool.false_ne_true
  | _ => cases y <;> exact absurd (show false = true from hs) Bool.false_ne_true
theorem op_ne : OpR X (compareOp .NotEq) rNe := by
  intro pins s σ H x y v u Q I rx ry h
  obtain ⟨hs, q⟩ := h
  cases x with
  | non =>
    cases rx
    cases y with
    | non => cases ry; exact PySem.EqNone.ne_none_none (fin_bl I q (by simp))
    | bl j => cases ry; exact PySem.EqNone.ne_none_bool (fin_bl I q (by simp))
    | int j => obtain ⟨t', rfl⟩ := ry; exact PySem.EqNone.ne_none_int (fin_bl I q (by simp))
    | str j => obtain ⟨t', rfl⟩ := ry; exact PySem.EqNone.ne_none_str (fin_bl I q (by simp))
    | _ => exact absurd (show false = true from hs) Bool.false_ne_true
  | bl i =>
    cases rx
    cases y with
    | non => cases ry; exact PySem.EqNone.ne_bool_none (fin_bl I q (by simp))
    | bl j => cases ry; exact ne_bool (fin_bl I q (congrArg not dec_bl))
    | str j => obtain ⟨t', rfl⟩ := ry; exact PySem.EqMixed.ne_bool_str (fin_bl I q (by simp))
    | _ => exact absurd (show false = true from hs) Bool.false_ne_true
  | int i =>
    obtain ⟨t, rfl⟩ := rx
    cases y with
    | non => cases ry; exact PySem.EqNone.ne_int_none (fin_bl I q (by simp))
    | int j => obtain ⟨t', rfl⟩ := ry; exact ne_int (fin_bl I q (congrArg not dec_int))
    | str j => obtain ⟨t', rfl⟩ := ry; exact PySem.EqMixed.ne_int_str (fin_bl I q (by simp))
    | _ => exact absurd (show false = true from hs) Bool.false_ne_true
  | str i =>
    obtain ⟨t, rfl⟩ := rx
    cases y with
    | non => cases ry; exact PySem.EqNone.ne_str_none (fin_bl I q (by simp))
    | bl j => cases ry; exact PySem.EqMixed.ne_str_bool (fin_bl I q (by simp))
    | int j => obtain ⟨t', rfl⟩ := ry; exact PySem.EqMixed.ne_str_int (fin_bl I q (by simp))
    | str j => obtain ⟨t', rfl⟩ := ry; exact ne_str (fin_bl I q (congrArg not dec_str))
    | _ => exact absurd (show false = true from hs) Bool.false_ne_true
  | byt i =>
    obtain ⟨t, rfl⟩ := rx
    cases y with
    | byt j => obtain ⟨t', rfl⟩ := ry; exact PySem.W.ne_bytes (fin_bl I q (congrArg not dec_byt))
    | _ => exact absurd (show false = true from hs) Bool.false_ne_true
  | _ => cases y <;> exact absurd (show false = true from hs) Bool.false_ne_true
theorem op_gt : OpR X (compareOp .Gt) (rI0 fun i j => .bl (decide (j < i))) := opB0 fun _ _ _ _ _ _ _ q => gt_int q
theorem op_isN : OpR X (compareOp .Is) (fun x y H Q => y = .non ∧ Q (.bl (decide (x = .non))) H) := by
  intro pins s σ H x y v u Q I rx ry h
  obtain ⟨rfl, q⟩ := h
  cases ry
  refine is_none_gen (fin_bl I q ?_)
  cases x <;> first
    | (cases rx; rfl)
    | (obtain ⟨t, rfl⟩ := rx; rfl)
theorem OpR.or {f : Value → Value → Sem Value} {r r' : R2} (h : OpR X f r) (h' : OpR X f r') : OpR X f (fun x y H Q => r x y H Q ∨ r' x y H Q) := by
  intro pins s σ H x y v u Q I rx ry q
  rcases q with q | q
  · exact h pins s σ H x y v u Q I rx ry q
  · exact h' pins s σ H x y v u Q I rx ry q
theorem nomark (b : Expr) {op : CmpOp} (h : op ≠ .In := by decide) (h2 : op ≠ .NotIn := by decide) : behindInMarks op b = false := by
  have e1 : (op == CmpOp.In) = false := by cases op <;> first | rfl | exact absurd rfl h
  have e2 : (op == CmpOp.NotIn) = false := by cases op <;> first | rfl | exact absurd rfl h2
  cases b <;> simp [behindInMarks, e1, e2]
theorem pe_cmpR {op : CmpOp} {r : R2} (ho : OpR X (compareOp op) r) (ha : PE X a ta) (hb : PE X b tb) (hm : behindInMarks op b = false) : PE X (.Compare a [op] [b] pos) (tOp r ta tb) := by
  intro pins s σ H Q I h
  exact wpAny_Compare1 (binT ha hb I h fun v u s2 x y H2 I2 rx ry q => ho pins s2 σ H2 x y v u Q I2 rx ry q) hm
def tTest (t : TE) : TT := fun σ H Q => t σ H fun x H' => ∃ k, x = .bl k ∧ Q k H'
theorem pt_cmpR {op : CmpOp} {r : R2} (ho : OpR X (compareOp op) r) (ha : PE X a ta) (hb : PE X b tb) (hm : behindInMarks op b = false) : PT X (.Compare a [op] [b] pos) (tTest (tOp r ta tb)) := by
  intro pins s σ H Q I h
  refine wpAny_isTrue_Compare1 (thn (ha pins s σ H _ I h) fun v s1 ⟨x, H1, I1, r1, q1⟩ => thn (hb pins s1 σ H1 _ I1 q1) fun u s2 ⟨y, H2, I2, r2, q2⟩ =>
    thn (ho pins s2 σ H2 x y v u _ I2 r1 r2 q2) fun c s3 ⟨z, H3, I3, r3, k, e, q3⟩ => ?_) hm
  subst e
  cases r3
  exact wpAny_truthy_bool ⟨H3, I3, q3⟩
theorem line63 : (sizeLine : Nat) < 2 ^ 63 := by rw [sizeLine_eq]; decide
theorem vals1 {x : V} {us : List Value} (r : Vals [x] us) : ∃ u, us = [u] ∧ RelV x u := by
  cases r with
  | cons r1 r2 => cases r2; exact ⟨_, rfl, r1⟩
theorem vals2 {x y : V} {us : List Value} (r : Vals [x, y] us) : ∃ u w', us = [u, w'] ∧ RelV x u ∧ RelV y w' := by
  cases r with
  | cons r1 r2 =>
    cases r2 with
    | cons r3 r4 => cases r4; exact ⟨_, _, rfl, r1, r3⟩
theorem call_int1 : CallR X (.type "int") (fun xs H Q => (∃ i, xs = [.int i] ∧ Q (.int i) H) ∨ ∃ k, xs = [.bl k] ∧ Q (.int (if k then 1 else 0)) H) := by
  intro pins s σ H xs us Q I r h
  rcases h with ⟨i, rfl, q⟩ | ⟨k, rfl, q⟩
  · obtain ⟨u, rfl, t, rfl⟩ := vals1 r
    exact call_int_int ⟨.int i, H, I, ⟨_, rfl⟩, q⟩
  · obtain ⟨u, rfl, r1⟩ := vals1 r
    cases r1
    exact call_int_bool ⟨.int (if k then 1 else 0), H, I.tok _, ⟨_, rfl⟩, q⟩
end
end L2
namespace L2
open PySem PySem.Spec PyProof.Rows
structure ObjM (h : Heap) (x dx C : Addr) (mA : Str → Option Value) : Prop where
  obj : h.get? x = some (PySem.W.instObj C dx)
  ns : h.Ns1 dx mA
  ne : dx ≠ x
theorem lookIn_ns {h : Heap} {dx : Addr} {mA : Str → Option Value} (n : h.Ns1 dx mA) : ∃ od, h.get? dx = some od ∧ ∀ name, PySem.W.lookIn name od = some (mA name) := by
  obtain ⟨o, es, ep, ho, hd, hk, _, hm⟩ := n
  refine ⟨o, ho, fun name => ?_⟩
  have e := hm name
  unfold nsFind findBy at e
  rw [← Array.find?_toList] at e
  unfold PySem.W.lookIn
  rw [hd]
  dsimp only
  split
  · rename_i y q
    rw [q] at e
    exact congrArg some e
  · rename_i q
    rw [q] at e
    have a : es.toList.any (·.refKey) = false := by
      rw [List.any_eq_false]
      intro y hy
      obtain ⟨z, t, hkey⟩ := hk y (Array.mem_toList_iff.mp hy)
      simp [DictEntry.refKey, hkey]
    have a' : ¬ es.toList.any (·.refKey) = true := by rw [a]; exact Bool.false_ne_true
    rw [if_neg a']
    exact congrArg some e
theorem ObjM.look {h : Heap} {x dx C : Addr} {mA : Str → Option Value} (I : ObjM h x dx C mA) : ∃ od, PySem.W.InstAt h x (PySem.W.instObj C dx) C (some od) ∧ ∀ name, PySem.W.lookIn name od = some (mA name) :=
  let ⟨od, ho, hl⟩ := lookIn_ns I.ns
  ⟨od, ⟨I.obj, rfl, rfl, ho⟩, hl⟩
section
variable {prog : Program} {w : World} {A : Around} {E : Value → Shared → Prop} {s : Shared} {K : PySem.W.Frag} {x dx C f : Addr} {mA : Str → Option Value} {name : Str} {v : Value}
theorem get_map {expr : Bool} {Q : Value → Shared → Prop} (X : K.In s.heap) (I : ObjM s.heap x dx C mA) (hg : PySem.W.plainGet K C name = true) (hh : PySem.W.hasDictIn K C = true)
    (ha : PySem.W.findIn K (.ref C) name = some none) (hv : mA name = some v) (hv' : PySem.W.handedIn v = true) (h : Q v { s with toks := s.toks + 1 }) :
    wpAny (model prog w) A (getAttr (.ref x) name expr) Q E s := by
  obtain ⟨od, J, hl⟩ := I.look
  exact PySem.W.get_value X J (PySem.W.plainGet_of hg).1 (PySem.W.findObj_own hh ha rfl (by rw [hl, hv])) hv' h
theorem set_map {ns : List Str} {Q : Unit → Shared → Prop} (X : K.In s.heap) (I : ObjM s.heap x dx C mA)
    (hs : PySem.W.findIn K (.ref C) "__setattr__" = some (some (.builtin "object.__setattr__"))) (hp : PySem.W.plainOver K C = true) (ht : PySem.W.takerIn K C name = some none) (hh : PySem.W.hasDictIn K C = true)
    (hw : PySem.Within mA ns) (hsz : ns.length ≤ sizeLine)
    (h : ∀ h', ObjM h' x dx C (fun y => if y = name then some v else mA y) → Heap.SameBut dx s.heap h' → Q () { s with heap := h', toks := s.toks + 2 }) :
    wpAny (model prog w) A (setAttr (.ref x) name v) Q E s := by
  obtain ⟨od, J, hl⟩ := I.look
  refine PySem.W.set_plain X J hs (PySem.W.osa_open (s := { s with toks := s.toks + 1 }) (r := none) X J hp ht fun b => ?_)
  obtain ⟨cd, hc, hd'⟩ := PySem.W.any_some hh
  have hx : s.heap.get? x = some ⟨.ref C, some dx, .plain, #[]⟩ := I.obj
  refine wpAny_bind (wpAny_pure (wpAny_bind (wpAny_bind (wpAny_loadPart hx (wpAny_bind (PySem.W.Looks.here (s := { s with toks := s.toks + 1 }) (PySem.W.looks_clsIn X hc) ?_))))))
  rw [hd']
  refine wpAny_pure (a := some dx) (wpAny_bind (wpAny_pure (wpAny_bind ?_)))
  refine wpAny_nsSet1 (s := { s with toks := s.toks + 1 }) I.ns fun h' hn2 hs2 => ?_
  obtain ⟨oD, esD, epD, hoD, hdD, hcD⟩ := hn2.count (PySem.Within.cons name v hw)
  refine wpAny_bind (wpAny_lookBehind hoD (by rw [hdD]; exact pastItsLine_dict (Nat.le_trans hcD (by rw [List.length_cons]; omega))) ?_)
  exact wpAny_pure (h _ ⟨(hs2.2 _ (Ne.symm I.ne)).trans I.obj, hn2, I.ne⟩ hs2)
theorem make_map {R : Result → Shared → Prop} {vs : List Value} {kw : List (Str × Value)} (X : K.In s.heap) (hm : PySem.W.makesIn K C = true)
    (hi : PySem.W.findIn K (.ref C) "__init__" = some (some (.ref f))) (hf : PySem.W.typeIn K (.ref f) = some (.type "function"))
    (h : codeAny (model prog w) (A.under (.builtin "type.__call__" ⟨.ref C :: vs, kw⟩)) (.call (.ref f) ⟨.ref (s.heap.objs.size + 1) :: vs, kw⟩) (PySem.W.InitBack (s.heap.objs.size + 1) R)
      { s with heap := (s.heap.push PySem.W.emptyDict).push (PySem.W.instObj C s.heap.objs.size) }) :
    codeAny (model prog w) A (.call (.ref C) ⟨vs, kw⟩) R s := by
  obtain ⟨hh, g, d, t, os⟩ := s
  exact PySem.W.make_core (PySem.W.makes_of X hm) (PySem.W.looks_findIn X hi) (fun self => PySem.W.bind_fn X self hf) (.inl rfl) h
end
def putF (f : Str) (v : V) : List (Str × V) → List (Str × V)
  | [] => [(f, v)]
  | (g, x) :: r => if g = f then (g, v) :: r else (g, x) :: putF f v r
theorem lookup_putF (f g : Str) (v : V) : ∀ fs : List (Str × V), (putF f v fs).lookup g = if g = f then some v else fs.lookup g
  | [] => by
    show List.lookup g [(f, v)] = _
    by_cases h : g = f
    · have hb : (g == f) = true := beq_iff_eq.mpr h
      simp only [List.lookup, hb, if_pos h]
    · have hb : (g == f) = false := beq_eq_false_iff_ne.mpr h
      simp only [List.lookup, hb, if_neg h]
  | (k, x) :: r => by
    have ih := lookup_putF f g v r
    rw [show putF f v ((k, x) :: r) = (if k = f then (k, v) :: r else (k, x) :: putF f v r) from rfl]
    by_cases hk : k = f
    · rw [if_pos hk]
      by_cases h : g = k
      · have hb : (g == k) = true := beq_iff_eq.mpr h
        simp only [List.lookup, hb, if_pos (h.trans hk)]
      · have hb : (g == k) = false := beq_eq_false_iff_ne.mpr h
        simp only [List.lookup, hb, if_neg (fun e : g = f => h (e.trans hk.symm))]
    · rw [if_neg hk]
      by_cases h : g = k
      · have hb : (g == k) = true := beq_iff_eq.mpr h
        simp only [List.lookup, hb, if_neg (fun e : g = f => hk (h.symm.trans e))]
      · have hb : (g == k) = false := beq_eq_false_iff_ne.mpr h
        simp only [List.lookup, hb]
        exact ih
theorem keys_putF (f : Str) (v : V) : ∀ fs : List (Str × V), f ∈ (putF f v fs).map (·.1) ∧ ∀ g, g ∈ fs.map (·.1) → g ∈ (putF f v fs).map (·.1)
  | [] => ⟨by simp [putF], fun g h => by simp at h⟩
  | (k, x) :: r => by
    obtain ⟨i1, i2⟩ := keys_putF f v r
    rw [show putF f v ((k, x) :: r) = (if k = f then (k, v) :: r else (k, x) :: putF f v r) from rfl]
    by_cases hk : k = f
    · rw [if_pos hk]
      subst hk
      exact ⟨by simp, fun g h => by simpa using h⟩
    · rw [if_neg hk]
      refine ⟨?_, fun g h => ?_⟩
      · rw [List.map_cons]
        exact List.mem_cons_of_mem _ i1
      · rw [List.map_cons] at h ⊢
        rcases List.mem_cons.mp h with e | e
        · exact List.mem_cons.mpr (.inl e)
        · exact List.mem_cons_of_mem _ (i2 g e)
theorem length_putF (f : Str) (v : V) : ∀ fs : List (Str × V), (putF f v fs).length ≤ fs.length + 1
  | [] => by simp [putF]
  | (k, x) :: r => by
    have ih := length_putF f v r
    rw [show putF f v ((k, x) :: r) = (if k = f then (k, v) :: r else (k, x) :: putF f v r) from rfl]
    by_cases hk : k = f
    · rw [if_pos hk, List.length_cons, List.length_cons]; omega
    · rw [if_neg hk, List.length_cons, List.length_cons]; omega
theorem RelO.some_of {v : V} {o : Option Value} (r : RelO (some v) o) : ∃ u, o = some u ∧ RelV v u := by
  cases o with
  | none => exact (show False from r).elim
  | some u => exact ⟨u, rfl, r⟩
theorem handed_of {v : V} {u : Value} (r : RelV v u) : PySem.W.handedIn u = true := by
  cases v with
  | non => cases (show u = Value.none from r); rfl
  | bl b => cases (show u = Value.bool b from r); rfl
  | int i => obtain ⟨t, e⟩ := (show ∃ t, u = Value.int i t from r); cases e; rfl
  | str x => obtain ⟨t, e⟩ := (show ∃ t, u = Value.str x t from r); cases e; rfl
  | byt b => obtain ⟨t, e⟩ := (show ∃ t, u = Value.bytes b t from r); cases e; rfl
  | flt b => obtain ⟨t, e⟩ := (show ∃ t, u = Value.float b t from r); cases e; rfl
  | ref a => cases (show u = Value.ref a from r); rfl
  | ty n => cases (show u = Value.type n from r); rfl
section
variable {P : Program} {w : World} {H H' : Hp} {h h' : Heap} {a C dx : Addr} {fs fs' : List (Str × V)}
theorem ins_get (hok : HOk P w H h) (e : H a = some (.ins C dx fs)) : ∃ mA, ObjM h a dx C mA ∧ (∀ f, RelO (fs.lookup f) (mA f)) ∧ PySem.Within mA (fs.map (·.1)) ∧ fs.length ≤ 1000 ∧ H dx = some (.own a) := by
  obtain ⟨d, z, ne, ob, mA, n, r, q⟩ := (show ObjOk P w H h a (.ins C dx fs) from hok a _ e)
  exact ⟨mA, ⟨ob, n, ne⟩, r, q, z, d⟩
end
structure Cls (K : PySem.W.Frag) (C : Addr) : Prop where
  pg : PySem.W.plainGet K C Str.empty = true
  hd : PySem.W.hasDictIn K C = true
  po : PySem.W.plainOver K C = true
  sa : PySem.W.findIn K (.ref C) "__setattr__" = some (some (.builtin "object.__setattr__"))
theorem Cls.get {K : PySem.W.Frag} {C : Addr} (c : Cls K C) (f : Str) : PySem.W.plainGet K C f = true := c.pg
def NoAttr (K : PySem.W.Frag) (C : Addr) (f : Str) : Prop := PySem.W.findIn K (.ref C) f = some none
theorem NoAttr.taker {K : PySem.W.Frag} {C : Addr} {f : Str} (n : NoAttr K C f) : PySem.W.takerIn K C f = some none := by
  unfold PySem.W.takerIn
  rw [show PySem.W.findIn K (.ref C) f = some none from n]
  rfl
section
variable {X : Cx} {pins : List (Addr × Obj)} {σ : St} {H : Hp} {s : Shared} {a C dx : Addr} {fs : List (Str × V)} {f : Str} {v : V} {A : Around} {E : Value → Shared → Prop}
theorem getattr_ok {b : Bool} {Q : Value → Shared → Prop} (I : Inv X pins σ H s) (e : H a = some (.ins C dx fs)) (c : Cls X.K C) (n : NoAttr X.K C f) (l : fs.lookup f = some v)
    (h : ∀ u s', Inv X pins σ H s' → RelV v u → Q u s') : wpAny (model X.prog X.w) A (getAttr (.ref a) f b) Q E s := by
  obtain ⟨mA, O, r, _, _, _⟩ := ins_get I.hok e
  obtain ⟨u, hu, ru⟩ := RelO.some_of (v := v) (o := mA f) (by rw [← l]; exact r f)
  exact get_map I.kIn O (c.get f) c.hd n hu (handed_of ru) (h u _ (I.tok _) ru)
theorem setattr_ok {y : V} {u : Value} {Q : Unit → Shared → Prop} (I : Inv X pins σ H s) (e : H a = some (.ins C dx fs)) (c : Cls X.K C) (n : NoAttr X.K C f) (hl : fs.length < 1000) (ry : RelV y u)
    (h : ∀ s', Inv X pins σ (upd H a (.ins C dx (putF f y fs))) s' → Q () s') : wpAny (model X.prog X.w) A (setAttr (.ref a) f u) Q E s := by
  obtain ⟨mA, O, r, wi, _, ho⟩ := ins_get I.hok e
  have hz : (fs.map (·.1)).length ≤ sizeLine := by rw [List.length_map, sizeLine_eq]; omega
  refine set_map I.kIn O c.sa c.po n.taker c.hd wi hz fun h' O' sb => h _ ?_
  have hd : ∃ o, h'.get? dx = some o := let ⟨o, _, _, e', _⟩ := O'.ns; ⟨o, e'⟩
  refine I.write (x := a) (e := dx) (by rw [e]; exact True.intro) (.inr ho) (fun b q hb z => (sb.2 b hb).trans z) hd ?_
  refine ⟨by rw [upd_ne O.ne]; exact ho, ?_, O.ne, O'.obj, _, O'.ns, fun g => ?_, fun g hg => ?_⟩
  · have := length_putF f y fs; omega
  · show RelO ((putF f y fs).lookup g) (if g = f then some u else mA g)
    rw [lookup_putF]
    by_cases q : g = f
    · rw [if_pos q, if_pos q]; exact ry
    · rw [if_neg q, if_neg q]; exact r g
  · by_cases q : g = f
    · rw [q]; exact (keys_putF f y fs).1
    · refine (keys_putF f y fs).2 g (wi g fun z => hg ?_)
      show (if g = f then some u else mA g) = none
      rw [if_neg q]; exact z
theorem Inv.made (I : Inv X pins σ H s) : Inv X pins σ (upd (upd H s.heap.objs.size (.own (s.heap.objs.size + 1))) (s.heap.objs.size + 1) (.ins C s.heap.objs.size []))
    { s with heap := (s.heap.push PySem.W.emptyDict).push (PySem.W.instObj C s.heap.objs.size) } := by
  have e1 : (s.heap.push PySem.W.emptyDict).get? s.heap.objs.size = some PySem.W.emptyDict := Heap.get?_push_size s.heap rfl
  have e2 : ((s.heap.push PySem.W.emptyDict).push (PySem.W.instObj C s.heap.objs.size)).get? (s.heap.objs.size + 1) = some (PySem.W.instObj C s.heap.objs.size) := by
    have := Heap.get?_push_size (s.heap.push PySem.W.emptyDict) (o := PySem.W.instObj C s.heap.objs.size) rfl
    rwa [Heap.size_push] at this
  have e3 : (s.heap.push PySem.W.emptyDict).Ns s.heap.objs.size (fun _ => none) := ⟨PySem.W.emptyDict, #[], _, e1, rfl, (fun e he => absurd he (by simp)), fun _ => rfl⟩
  have I1 := I.laid (a := s.heap.objs.size) (o := .own (s.heap.objs.size + 1)) (h' := s.heap.push PySem.W.emptyDict) (t' := s.toks) (fun b u q => Heap.get?_push_of_some _ q) (Nat.le_refl _) ⟨_, e1⟩
  refine I1.laid (a := s.heap.objs.size + 1) (o := .ins C s.heap.objs.size []) (t' := s.toks) (fun b u q => Heap.get?_push_of_some _ q) (Nat.le_of_eq (Heap.size_push _ _)) ?_
  have ne : s.heap.objs.size ≠ s.heap.objs.size + 1 := Nat.ne_of_lt (Nat.lt_succ_self _)
  refine ⟨by rw [upd_ne ne, upd_same], Nat.zero_le _, ne, e2, fun _ => none, (Heap.Ns1.of_empty e3).at fun o q => Heap.get?_push_of_some _ q, fun _ => True.intro, fun y hy => absurd rfl hy⟩
theorem attr_of {prog : Program} {w : World} {env : Env} {e : Expr} {f : Str} {pos : Pos} {s : Shared} {Q : Value → Shared → Prop} (hb : attributeBase e f env (eval e env) = eval e env)
    (h : wpAny (model prog w) A (eval e env) (fun o s₁ => wpAny (model prog w) A (getAttr o f true) Q E s₁) E s) : wpAny (model prog w) A (eval (.Attribute e f pos) env) Q E s :=
  Attribute_any_ h (by rw [arm_eval_Attribute, hb])
end
def tFld (K : PySem.W.Frag) (ta : TE) (f : Str) : TE := fun σ H Q => ta σ H fun x H1 => ∃ a C dx fs v, x = .ref a ∧ H1 a = some (.ins C dx fs) ∧ Cls K C ∧ NoAttr K C f ∧ fs.lookup f = some v ∧ Q v H1
def sFld (K : PySem.W.Frag) (ta tv : TE) (f : Str) : TS := fun D σ H => tv σ H fun y H1 => ta σ H1 fun x H2 => ∃ a C dx fs, x = .ref a ∧ H2 a = some (.ins C dx fs) ∧ Cls K C ∧ NoAttr K C f ∧ fs.length < 1000 ∧
  D.nx σ (upd H2 a (.ins C dx (putF f y fs)))
section
variable {X : Cx} {o e value : Expr} {f : Str} {pos pos' tpos : Pos} {ta tv : TE}
theorem pe_fld (he : PE X e ta) (hb : attributeBase e f X.env (eval e X.env) = eval e X.env) : PE X (.Attribute e f pos) (tFld X.K ta f) := by
  intro pins s σ H Q I h
  refine attr_of hb (thn (he pins s σ H _ I h) fun u s1 ⟨x, H1, I1, rx, a, C, dx, fs, v, ex, ea, c, n, l, q⟩ => ?_)
  subst ex
  obtain rfl : u = Value.ref a := rx
  exact getattr_ok I1 ea c n l fun u' s2 I2 ru => ⟨v, H1, I2, ru, q⟩
theorem ps_fld (ha : PE X o ta) (hv : PE X value tv) (hs : swapsWith value (some (.Attribute o f pos')) pos.line X.env = pure false) : PS X (.Assign [.Attribute o f pos'] value pos) (sFld X.K ta tv f) := by
  intro pins s σ H D I h
  refine plainObj_wpAny_Assign_Attribute (thn (hv pins s σ H _ I h) fun u s1 ⟨y, H1, I1, ry, q⟩ => thn (ha pins s1 σ H1 _ I1 q) fun ov s2 ⟨x, H2, I2, rx, a, C, dx, fs, ex, ea, c, n, l, q2⟩ => ?_) hs
  subst ex
  obtain rfl : ov = Value.ref a := rx
  exact setattr_ok I2 ea c n l ry fun s3 I3 => ⟨σ, _, I3, q2⟩
end
section
variable {X : Cx} {pins : List (Addr × Obj)} {σ : St} {H : Hp} {s : Shared} {A : Around} {E : Value → Shared → Prop} {Q : Value → Shared → Prop} {c : Value} {b : Bool}
inductive TyOf (K : PySem.W.Frag) (H : Hp) : V → Value → Prop where
  | non : TyOf K H .non (.type "NoneType")
  | bl (x : Bool) : TyOf K H (.bl x) (.type "bool")
  | int (i : Int) : TyOf K H (.int i) (.type "int")
  | str (x : Str) : TyOf K H (.str x) (.type "str")
  | flt (x : UInt64) : TyOf K H (.flt x) (.type "float")
  | lst {a : Addr} {xs : List V} (e : H a = some (.lst xs)) : TyOf K H (.ref a) (.type "list")
  | frz {a : Addr} {o : Obj} {xs : List V} (e : H a = some (.frz o (.lst xs))) : TyOf K H (.ref a) (.type "list")
  | tup {a : Addr} {xs : List V} (e : H a = some (.tup xs)) : TyOf K H (.ref a) (.type "tuple")
  | dK {a : Addr} {kvs : List (Key × V)} (e : H a = some (.dK kvs)) : TyOf K H (.ref a) (.type "dict")
  | dT {a : Addr} {kvs : List (List Key × V)} (e : H a = some (.dT kvs)) : TyOf K H (.ref a) (.type "dict")
  | ins {a C dx : Addr} {fs : List (Str × V)} (e : H a = some (.ins C dx fs)) (cl : Cls K C) (ha : PySem.W.findIn K (.ref C) "__class__" = some (some (.builtin "object.__class__")))
      (hn : PySem.W.specialIn K (.builtin "object.__class__") "__get__" = some (some (.builtin "getset_descriptor.__get__"))) (htk : PySem.W.takesIn K (.builtin "object.__class__") = some true)
      (hm : PySem.W.mroIn K C (.type "object") = some true) : TyOf K H (.ref a) (.ref C)
theorem isinst_ok {x : V} {u t : Value} (I : Inv X pins σ H s) (rx : RelV x u) (ty : TyOf X.K H x t) (e : PySem.W.kitOne X.K t c = some b) (h : ∀ tk, Q (.bool b) { s with toks := tk }) :
    wpAny (model X.prog X.w) A (call (.builtin "isinstance") [u, c]) Q E s := by
  cases ty with
  | non => cases (show u = Value.none from rx); exact PySem.W.kia_one PySem.W.kitx_none I.kIn True.intro e (fun z => nomatch z) h
  | bl y => cases (show u = Value.bool y from rx); exact PySem.W.kia_one PySem.W.kitx_bool I.kIn True.intro e (fun z => nomatch z) h
  | int i => obtain ⟨t, q⟩ := (show ∃ t, u = Value.int i t from rx); cases q; exact PySem.W.kia_one PySem.W.kitx_int I.kIn True.intro e (fun z => nomatch z) h
  | str y => obtain ⟨t, q⟩ := (show ∃ t, u = Value.str y t from rx); cases q; exact PySem.W.kia_one PySem.W.kitx_str I.kIn True.intro e (fun z => nomatch z) h
  | flt y => obtain ⟨t, q⟩ := (show ∃ t, u = Value.float y t from rx); cases q; exact PySem.W.kia_one PySem.W.kitx_float I.kIn True.intro e (fun z => nomatch z) h
  | @lst a xs ea =>
    cases (show u = Value.ref a from rx)
    obtain ⟨_, _, n, _, h1⟩ := (show ObjOk X.prog X.w H s.heap a (.lst xs) from I.hok a _ ea)
    exact PySem.W.kia_one PySem.W.kitx_list I.kIn ⟨_, h1, rfl⟩ e (fun z => nomatch z) h
  | @frz a ob xs ea =>
    cases (show u = Value.ref a from rx)
    obtain ⟨_, _, _, n, _, h1⟩ := (show ObjOk X.prog X.w H s.heap a (.frz ob (.lst xs)) from I.hok a _ ea)
    exact PySem.W.kia_one PySem.W.kitx_list I.kIn ⟨_, h1, rfl⟩ e (fun z => nomatch z) h
  | @tup a xs ea =>
    cases (show u = Value.ref a from rx)
    obtain ⟨_, _, _, p⟩ := (show ObjOk X.prog X.w H s.heap a (.tup xs) from I.hok a _ ea)
    obtain ⟨o, h1, h2, _⟩ := p
    exact PySem.W.kia_one PySem.W.kitx_tuple I.kIn ⟨o, h1, h2⟩ e (fun z => nomatch z) h
  | @dK a kvs ea =>
    cases (show u = Value.ref a from rx)
    obtain ⟨_, _, vs, _, p⟩ := (show ObjOk X.prog X.w H s.heap a (.dK kvs) from I.hok a _ ea)
    obtain ⟨o, es, ep, h1, h2, _⟩ := p
    exact PySem.W.kia_one PySem.W.kitx_dict I.kIn ⟨o, h1, h2.1⟩ e (fun z => nomatch z) h
  | @dT a kvs ea =>
    cases (show u = Value.ref a from rx)
    obtain ⟨_, _, xs, _, o, es, ep, h1, h2, _⟩ := (show ObjOk X.prog X.w H s.heap a (.dT kvs) from I.hok a _ ea)
    exact PySem.W.kia_one PySem.W.kitx_dict I.kIn ⟨o, h1, h2.1⟩ e (fun z => nomatch z) h
  | @ins a C dx fs ea cl ha hn htk hm =>
    cases (show u = Value.ref a from rx)
    obtain ⟨mA, O, _⟩ := ins_get I.hok ea
    obtain ⟨od, J, _⟩ := O.look
    exact PySem.W.kia_one (PySem.W.kitx_own (cl.get _) cl.hd ha hn htk hm) I.kIn J e (fun z => nomatch z) h
end
end L2
namespace L2
open PySem PySem.Spec PyProof.Rows
structure Room (k : Nat) (A : Around) : Prop where
  hd : A.handled = none
  dp : A.depth + 3 * k + 5 < recursionLimit
  un : A.units + 16 * k + 200 < cLine
theorem Room.mono {j k : Nat} {A : Around} (r : Room k A) (h : j ≤ k) : Room j A := ⟨r.hd, by have := r.dp; omega, by have := r.un; omega⟩
theorem Room.deeper {k : Nat} {A : Around} (r : Room (k + 1) A) (env : Env) : Room k (A.deeper env) :=
  ⟨r.hd, by have := r.dp; show A.depth + 1 + 3 * k + 5 < _; omega, by have := r.un; show A.units + 3 + 16 * k + 200 < _; omega⟩
theorem make_depth {A : Around} {C : Addr} {us : List Value} {kw : List (Str × Value)} : (A.under (.builtin "type.__call__" ⟨.ref C :: us, kw⟩)).depth = A.depth + 1 := by
  first | rfl | simp [Around.under, Code.weight, Code.isCreation, Code.isGuard, Code.isCaller, Code.frames, Code.isFrame, guardIds]
theorem make_units {A : Around} {C : Addr} {us : List Value} {kw : List (Str × Value)} : (A.under (.builtin "type.__call__" ⟨.ref C :: us, kw⟩)).units = A.units + 1 := by
  first | rfl | simp [Around.under, Code.cUnits, Code.frames, Code.isFrame]
theorem Room.make {k : Nat} {A : Around} (r : Room (k + 1) A) (C : Addr) (us : List Value) (kw : List (Str × Value)) : Room k (A.under (.builtin "type.__call__" ⟨.ref C :: us, kw⟩)) :=
  ⟨r.hd, by have := r.dp; rw [make_depth]; omega, by have := r.un; rw [make_units]; omega⟩
theorem Room.depth {k : Nat} {A : Around} (r : Room k A) : A.depth < recursionLimit := by have := r.dp; omega
theorem Room.units {k : Nat} {A : Around} (r : Room k A) : A.units + 64 < cLine := by have := r.un; omega
theorem Room.units0 {k : Nat} {A : Around} (r : Room k A) : A.units < cLine := by have := r.un; omega
def tNil : TA := fun _ H Q => Q [] H
def tCons (ta : TE) (tr : TA) : TA := fun σ H Q => ta σ H fun x H1 => tr σ H1 fun xs H2 => Q (x :: xs) H2
section
variable {X : Cx} {e : Expr} {es : List Expr} {te : TE} {t : TA} {pos : Pos}
theorem pa_nil : PA X [] tNil := fun _ _ _ _ H Q I h => Calls.spliced_nil ⟨[], H, I, .nil, h⟩
theorem pa_cons (ha : PE X e te) (hr : PA X es t) (hs : starEach (e :: es) X.env = (false, eval e X.env) :: starEach es X.env := by rfl) : PA X (e :: es) (tCons te t) := by
  intro pos pins s σ H Q I h
  rw [hs]
  show wpAny _ _ (spliced ((false, eval e X.env) :: backTo pos (starEach es X.env))) _ _ s
  refine Calls.spliced_cons (thn (ha pins s σ H _ I h) fun u s1 ⟨x, H1, I1, r1, q1⟩ => ?_)
  exact thn (hr pos pins s1 σ H1 _ I1 q1) fun us s2 ⟨xs, H2, I2, r2, q2⟩ => ⟨x :: xs, H2, I2, .cons r1 r2, q2⟩
def tTup (t : TA) : TE := fun σ H Q => t σ H fun xs H1 => xs.length ≤ sizeLine ∧ ∀ p, H1 p = none → Q (.ref p) (upd H1 p (.tup xs))
def tLst (t : TA) : TE := fun σ H Q => t σ H fun xs H1 => xs.length ≤ sizeLine ∧ ∀ p, H1 p = none → Q (.ref p) (upd H1 p (.lst xs))
theorem pe_tup {x1} (h : PA X es t) : PE X (.Tuple es x1 pos) (tTup t) := by
  intro pins s σ H Q I hq
  refine wpAny_Tuple_spliced (thn (h pos pins s σ H _ I hq) fun us s1 ⟨xs, H1, I1, r, z, q⟩ => ⟨by rw [← r.length]; exact z, ?_⟩)
  have hf : H1 s1.heap.objs.size = none := I1.hok.fresh (Nat.le_refl _)
  refine ⟨.ref s1.heap.objs.size, upd H1 s1.heap.objs.size (.tup xs), I1.laid (t' := s1.toks) (fun b u e => Heap.get?_push_of_some _ e) (Nat.le_refl _) ?_, rfl, q _ hf⟩
  exact ⟨z, us, r, ⟨_, Heap.get?_push_size _ rfl, rfl, _, rfl⟩⟩
theorem pe_lst (h : PA X es t) : PE X (.List es pos) (tLst t) := by
  intro pins s σ H Q I hq
  refine wpAny_List_spliced (thn (h pos pins s σ H _ I hq) fun us s1 ⟨xs, H1, I1, r, z, q⟩ => ⟨by rw [← r.length]; exact z, ?_⟩)
  have hf : H1 s1.heap.objs.size = none := I1.hok.fresh (Nat.le_refl _)
  refine ⟨.ref s1.heap.objs.size, upd H1 s1.heap.objs.size (.lst xs), I1.laid (t' := s1.toks) (fun b u e => Heap.get?_push_of_some _ e) (Nat.le_refl _) ?_, rfl, q _ hf⟩
  exact ⟨z, us, 0, r, Heap.get?_push_size _ rfl⟩
end
abbrev Sp := List V → Hp → VK → XK → Prop
abbrev CXT := List Env → Hp → Shared → XK → Value → Shared → Prop
structure Env0 (P : Program) (w : World) (K : PySem.W.Frag) (mg : Str → Option Value) (base : Heap) (A : Around) (outer : List Env) (s : Shared) (H : Hp) : Prop where
  frames : A.frames = some outer
  mod : Mod K mg base
  bs : ∀ b o, base.get? b = some o → s.heap.get? b = some o ∧ H b = none
  bsz : base.objs.size ≤ s.heap.objs.size
  funs : s.heap.FunFrames base outer
  frf : ∀ b ∈ frs outer, H b = none
  hok : HOk P w H s.heap
  bare : AllBare s.gens
def CE (outer : List Env) (P : Program) (w : World) (H : Hp) (s : Shared) (Q : VK) (u : Value) (s' : Shared) : Prop :=
  ∃ v H', s'.os = s.os ∧ AllBare s'.gens ∧ Un (frs outer) [] H H' s.heap s'.heap ∧ HOk P w H' s'.heap ∧ RelV v u ∧ Q v H'
def CR (CX : CXT) (outer : List Env) (P : Program) (w : World) (H : Hp) (s : Shared) (Q : VK) (E : XK) (r : Result) (s' : Shared) : Prop :=
  match r with
  | .ok (.ret u) => CE outer P w H s Q u s'
  | .ok _ => False
  | .error e => CX outer H s E e s'
structure FnOk (P : Program) (w : World) (K : PySem.W.Frag) (mg : Str → Option Value) (base : Heap) (CX : CXT) (k : Nat) (f : Addr) (fd : FuncData) (ps : List Str) (sp : Sp) : Prop where
  len : ∀ vs H Q E, sp vs H Q E → vs.length = ps.length
  run : ∀ (A : Around) (outer : List Env) (s : Shared) (H : Hp) (args : Args) (us : List Value) (vs : List V) (Q : VK) (E : XK), Room k A → Env0 P w K mg base A outer s H → BindsTo s fd args (ps.zip us) → Vals vs us → sp vs H Q E →
    codeAny (model P w) A (.call (.ref f) args) (CR CX outer P w H s Q E) s
theorem FnOk.mono {P : Program} {w : World} {K : PySem.W.Frag} {mg : Str → Option Value} {base : Heap} {CX : CXT} {j k : Nat} {f : Addr} {fd : FuncData} {ps : List Str} {sp : Sp} (F : FnOk P w K mg base CX j f fd ps sp) (h : j ≤ k) :
    FnOk P w K mg base CX k f fd ps sp := ⟨F.len, fun A outer s H args us vs Q E hr => F.run A outer s H args us vs Q E (hr.mono h)⟩
theorem Env0.make {P : Program} {w : World} {K : PySem.W.Frag} {mg : Str → Option Value} {base : Heap} {A : Around} {outer : List Env} {s : Shared} {H : Hp} (e : Env0 P w K mg base A outer s H) (C : Addr) (us : List Value) (kw : List (Str × Value)) :
    Env0 P w K mg base (A.under (.builtin "type.__call__" ⟨.ref C :: us, kw⟩)) outer s H := ⟨by first | exact e.frames | (simpa [Around.under, Code.envs, Code.isFrame, pushEnvs] using e.frames), e.mod, e.bs, e.bsz, e.funs, e.frf, e.hok, e.bare⟩
section
variable {X : Cx} {pins : List (Addr × Obj)} {σ : St} {H : Hp} {s s' : Shared}
theorem Inv.env0 (I : Inv X pins σ H s) : Env0 X.prog X.w X.K X.mg X.base X.A X.stack s H :=
  ⟨I.ok.frames, I.ok.mod, I.bs, Nat.le_trans I.ok.bsz I.sz, I.stack, I.stkFree, I.hok, I.bare⟩
theorem Inv.after {Q : VK} {u : Value} (I : Inv X pins σ H s) (h : CE X.stack X.prog X.w H s Q u s') : EP X pins σ Q u s' := by
  obtain ⟨v, H', os, bare, un, hok, r, q⟩ := h
  obtain ⟨hh, g, d, t, os'⟩ := s'
  obtain rfl : os' = s.os := os
  exact ⟨v, H', I.call (h' := hh) (g' := g) (d' := d) (t' := t) (ch := []) un hok bare (fun b z => absurd z (by simp)), r, q⟩
end
def tCall (sp : Sp) (dvs : List V) (E : XK) (t : TA) : TE := fun σ H Q => t σ H fun vs H1 => sp (vs ++ dvs) H1 Q E
def tMake (C : Addr) (sp : Sp) (dvs : List V) (E : XK) (t : TA) : TE := fun σ H Q => t σ H fun vs H1 => ∀ x dx, H1 x = none → H1 dx = none → dx ≠ x →
  sp (.ref x :: (vs ++ dvs)) (upd (upd H1 dx (.own x)) x (.ins C dx [])) (fun v H2 => v = .non ∧ Q (.ref x) H2) E
def Binds (K : PySem.W.Frag) (fd : FuncData) (ps : List Str) (ds : List Value) : Prop :=
  ∀ (s : Shared) (us : List Value), K.In s.heap → (us ++ ds).length = ps.length → BindsTo s fd ⟨us, []⟩ (ps.zip (us ++ ds))
theorem Binds.all {K : PySem.W.Frag} {fd : FuncData} {ps : List Str} (h : ∀ us : List Value, us.length = ps.length → bindArgs fd ⟨us, []⟩ = pure (ps.zip us)) : Binds K fd ps [] := fun s us _ hl => by
  rw [List.append_nil] at hl ⊢
  exact .of_eq (h us hl)
def Passes (CX : CXT) (X : Cx) (E : XK) : Prop := ∀ (pins : List (Addr × Obj)) (σ : St) (H : Hp) (s : Shared) (e : Value) (s' : Shared), Inv X pins σ H s → CX X.stack H s E e s' → X.xe e s'
section
variable {X : Cx} {CX : CXT} {k : Nat} {f C : Addr} {fd : FuncData} {ps : List Str} {sp : Sp} {dvs : List V} {ds : List Value} {E : XK} {x m : Str} {p pos apos : Pos} {e o : Expr} {es : List Expr} {ta : TE} {t : TA}
theorem run_fn {pins : List (Addr × Obj)} {σ : St} {H : Hp} {s : Shared} {Q : VK} {us : List Value} {vs : List V} (F : FnOk X.prog X.w X.K X.mg X.base CX k f fd ps sp) (hr : Room k X.A) (hb : Binds X.K fd ps ds) (hd : Vals dvs ds) (hx : Passes CX X E)
    (I : Inv X pins σ H s) (r : Vals vs us) (h : sp (vs ++ dvs) H Q E) : wpAny (model X.prog X.w) X.A (call (.ref f) us) (EP X pins σ Q) X.xe s := by
  have r2 : Vals (vs ++ dvs) (us ++ ds) := r.append hd
  have hl : (us ++ ds).length = ps.length := by rw [← r2.length]; exact F.len _ _ _ _ h
  refine wpAny_call (codeAny_mono (F.run X.A X.stack s H ⟨us, []⟩ (us ++ ds) (vs ++ dvs) Q E hr I.env0 (hb s us I.kIn hl) r2 h) fun r s' hq => ?_)
  cases r with
  | error e => exact hx pins σ H s e s' I hq
  | ok fl =>
    cases fl with
    | ret u => exact I.after hq
    | next => exact False.elim hq
    | brk => exact False.elim hq
    | cont => exact False.elim hq
theorem pe_call (F : FnOk X.prog X.w X.K X.mg X.base CX k f fd ps sp) (hr : Room k X.A) (hg : Gl X x) (hm : X.mg x = some (.ref f)) (hk : PySem.W.keepIn X.K (.ref f) = true) (hb : Binds X.K fd ps ds) (hd : Vals dvs ds) (hx : Passes CX X E)
    (ha : PA X (e :: es) t) (hdb : (x == ("__debug__" : Str)) = false := by decide) (he : starEach (e :: es) X.env = (false, eval e X.env) :: starEach es X.env := by rfl) (hpl : (backTo pos (starEach es X.env)).any (·.1) = false := by rfl) :
    PE X (.Call (.Name x p) (e :: es) [] pos) (tCall sp dvs E t) := by
  intro pins s σ H Q I h
  refine wpAny_Call_Name_kw (ld_glob I hg hm ?_ hdb)
  refine PySem.W.callWith_K (h₀ := X.base) I.ok.mod.kin hk (thn (ha pos pins s σ H _ I h) fun us s1 ⟨vs, H1, I1, r, q⟩ => ⟨I1.kIn, ?_⟩) he hpl
  exact run_fn F hr hb hd hx I1 r q
structure Mk (K : PySem.W.Frag) (C f : Addr) : Prop where
  makes : PySem.W.makesIn K C = true
  init : PySem.W.findIn K (.ref C) "__init__" = some (some (.ref f))
  fn : PySem.W.isFn K (.ref f) = true
  kp : PySem.W.keepIn K (.ref C) = true
theorem run_make {pins : List (Addr × Obj)} {σ : St} {H : Hp} {s : Shared} {Q : VK} {us : List Value} {vs : List V} (M : Mk X.K C f) (F : FnOk X.prog X.w X.K X.mg X.base CX k f fd ps sp) (hr : Room (k + 1) X.A) (hb : Binds X.K fd ps ds) (hd : Vals dvs ds)
    (hx : Passes CX X E) (I : Inv X pins σ H s) (r : Vals vs us)
    (h : ∀ x dx, H x = none → H dx = none → dx ≠ x → sp (.ref x :: (vs ++ dvs)) (upd (upd H dx (.own x)) x (.ins C dx [])) (fun v H2 => v = .non ∧ Q (.ref x) H2) E) :
    wpAny (model X.prog X.w) X.A (call (.ref C) us) (EP X pins σ Q) X.xe s := by
  have hq := h (s.heap.objs.size + 1) s.heap.objs.size (I.hok.fresh (Nat.le_succ _)) (I.hok.fresh (Nat.le_refl _)) (Nat.ne_of_lt (Nat.lt_succ_self _))
  have I2 := Inv.made (C := C) I
  have r2 : Vals (V.ref (s.heap.objs.size + 1) :: (vs ++ dvs)) (Value.ref (s.heap.objs.size + 1) :: (us ++ ds)) := .cons rfl (r.append hd)
  have hl : (Value.ref (s.heap.objs.size + 1) :: us ++ ds).length = ps.length := by
    have e := r2.length
    rw [F.len _ _ _ _ hq] at e
    exact e.symm
  refine wpAny_call (make_map (f := f) I.kIn M.makes M.init (beq_iff_eq.mp M.fn) (codeAny_mono (F.run _ X.stack _ _ ⟨Value.ref (s.heap.objs.size + 1) :: us, []⟩ (Value.ref (s.heap.objs.size + 1) :: (us ++ ds)) _ _ E (hr.make C us [])
    (I2.env0.make C us []) (hb _ (Value.ref (s.heap.objs.size + 1) :: us) I2.kIn hl) r2 hq) fun r s' hq' => ?_))
  cases r with
  | error e => exact hx pins σ _ _ e s' I2 hq'
  | ok fl =>
    cases fl with
    | ret u =>
      obtain ⟨v, H', I3, rv, ev, q3⟩ := I2.after hq'
      subst ev
      exact ⟨rv, ⟨V.ref (s.heap.objs.size + 1), H', I3, rfl, q3⟩⟩
    | next => exact False.elim hq'
    | brk => exact False.elim hq'
    | cont => exact False.elim hq'
theorem pe_make (M : Mk X.K C f) (F : FnOk X.prog X.w X.K X.mg X.base CX k f fd ps sp) (hr : Room (k + 1) X.A) (hg : Gl X x) (hm : X.mg x = some (.ref C)) (hb : Binds X.K fd ps ds) (hd : Vals dvs ds) (hx : Passes CX X E)
    (ha : PA X (e :: es) t) (hdb : (x == ("__debug__" : Str)) = false := by decide) (he : starEach (e :: es) X.env = (false, eval e X.env) :: starEach es X.env := by rfl) (hpl : (backTo pos (starEach es X.env)).any (·.1) = false := by rfl) :
    PE X (.Call (.Name x p) (e :: es) [] pos) (tMake C sp dvs E t) := by
  intro pins s σ H Q I h
  refine wpAny_Call_Name_kw (ld_glob I hg hm ?_ hdb)
  refine PySem.W.callWith_K (h₀ := X.base) I.ok.mod.kin M.kp (thn (ha pos pins s σ H _ I h) fun us s1 ⟨vs, H1, I1, r, q⟩ => ⟨I1.kIn, ?_⟩) he hpl
  exact run_make M F hr hb hd hx I1 r q
end
section
variable {X : Cx} {CX : CXT} {k : Nat} {f C : Addr} {fd : FuncData} {ps ks : List Str} {sp : Sp} {E : XK} {x m : Str} {p pos apos kpos : Pos} {e o : Expr} {es : List Expr} {kws : List Keyword} {te ta : TE} {t tk : TA} {nm : Option Str}
variable {g : List Value → List Value → List Value} {gV : List V → List V → List V}
end
structure FnScope (N P : List Str) (sc : Scope) : Prop where
  kind : sc.kind = .function
  co : sc.isCoroutine = false
  gen : sc.isGenerator = false
  nd : N.Nodup
  pre : N.take P.length = P
  par : ∀ x ∈ P, sc.names.lookup x = some .local ∨ sc.names.lookup x = some .cell
  nofree : ∀ y ∈ sc.names, y.2 ≠ .free
theorem bindL_out {kindOf : Str → Option NameKind} {x : Str} : ∀ {binds : List (Str × Value)} {m : Str → Option Value}, (∀ v, (x, v) ∉ binds) → bindL kindOf binds m x = m x
  | [], _, _ => rfl
  | (n, v) :: r, m, h => by
    unfold bindL
    rw [bindL_out fun w hw => h w (List.mem_cons_of_mem _ hw)]
    split
    · have : x ≠ n := by rintro rfl; exact h v List.mem_cons_self
      simp [this]
    · rfl
theorem bindC_out {kindOf : Str → Option NameKind} {x : Str} : ∀ {binds : List (Str × Value)} {m : Str → Option Value}, (∀ v, (x, v) ∉ binds) → bindC kindOf binds m x = m x
  | [], _, _ => rfl
  | (n, v) :: r, m, h => by
    unfold bindC
    rw [bindC_out fun w hw => h w (List.mem_cons_of_mem _ hw)]
    split
    · rfl
    · have : x ≠ n := by rintro rfl; exact h v List.mem_cons_self
      simp [this]
theorem bindL_get {kindOf : Str → Option NameKind} {x : Str} {v : Value} : ∀ {P : List Str} {vs : List Value} {i : Nat} {m : Str → Option Value}, P.Nodup → P[i]? = some x → vs[i]? = some v → kindOf x = some .local →
    bindL kindOf (P.zip vs) m x = some v
  | [], _, _, _, _, h, _, _ => by simp at h
  | _ :: _, [], _, _, _, _, h, _ => by simp at h
  | p :: P, w :: vs, 0, m, nd, h1, h2, hk => by
    simp at h1 h2; subst h1; subst h2
    show bindL kindOf ((p, w) :: P.zip vs) m p = _
    unfold bindL
    rw [bindL_out fun v hv => (List.nodup_cons.mp nd).1 (List.of_mem_zip hv).1, if_pos hk]
    simp
  | p :: P, w :: vs, i + 1, m, nd, h1, h2, hk => by
    show bindL kindOf ((p, w) :: P.zip vs) m x = _
    unfold bindL
    exact bindL_get (i := i) (List.nodup_cons.mp nd).2 (by simpa using h1) (by simpa using h2) hk
theorem bindC_get {kindOf : Str → Option NameKind} {x : Str} {v : Value} : ∀ {P : List Str} {vs : List Value} {i : Nat} {m : Str → Option Value}, P.Nodup → P[i]? = some x → vs[i]? = some v → kindOf x ≠ some .local →
    bindC kindOf (P.zip vs) m x = some v
  | [], _, _, _, _, h, _, _ => by simp at h
  | _ :: _, [], _, _, _, _, h, _ => by simp at h
  | p :: P, w :: vs, 0, m, nd, h1, h2, hk => by
    simp at h1 h2; subst h1; subst h2
    show bindC kindOf ((p, w) :: P.zip vs) m p = _
    unfold bindC
    rw [bindC_out fun v hv => (List.nodup_cons.mp nd).1 (List.of_mem_zip hv).1, if_neg hk]
    simp
  | p :: P, w :: vs, i + 1, m, nd, h1, h2, hk => by
    show bindC kindOf ((p, w) :: P.zip vs) m x = _
    unfold bindC
    exact bindC_get (i := i) (List.nodup_cons.mp nd).2 (by simpa using h1) (by simpa using h2) hk
def start (N : List Str) (vs : List V) : St := vs.map some ++ List.replicate (N.length - vs.length) none
def cxOf (CX : CXT) (P : Program) (w : World) (K : PySem.W.Frag) (mg : Str → Option Value) (base : Heap) (N : List Str) (qual : Str) (scope : Scope) (f : Addr) (cd : Value) (A : Around) (outer : List Env) (s : Shared) (H : Hp) (E : XK) : Cx where
  prog := P
  w := w
  K := K
  mg := mg
  base := base
  A := A.deeper (envOfC qual scope s.heap.objs.size f cd)
  N := N
  s₀ := s
  H₀ := H
  env := envOfC qual scope s.heap.objs.size f cd
  outer := outer
  stack := envOfC qual scope s.heap.objs.size f cd :: outer
  ex := []
  calm := true
  fn := fun _ => true
  pn := []
  xe := fun e s' => wpAny (model P w) (A.deeper (envOfC qual scope s.heap.objs.size f cd)) (leaving (envOfC qual scope s.heap.objs.size f cd) e) (fun _ s'' => CX outer H s E e s'') (fun e' s'' => CX outer H s E e' s'') s'
theorem cell_has {sc : Scope} {n : Nat} {x : Str} (h : sc.names.lookup x = some .cell) : ∃ c, (cellsFrom n sc.names []).lookup x = some c := by
  have q := PySem.W.cellsFrom_some sc.names n [] (.inl h)
  exact Option.isSome_iff_exists.mp q
theorem inv_start {CX : CXT} {P : Program} {w : World} {K : PySem.W.Frag} {mg : Str → Option Value} {base : Heap} {N ps : List Str} {qual : Str} {scope : Scope} {f : Addr} {cd : Value} {A : Around} {outer : List Env} {s s1 : Shared} {H : Hp} {E : XK} {us : List Value} {vs : List V}
    (S : FnScope N ps scope) (hd : A.handled = none) (e0 : Env0 P w K mg base A outer s H) (hl : vs.length = ps.length) (r : Vals vs us)
    (x : InCallC s s.heap.objs.size (bindL (envOfC qual scope s.heap.objs.size f cd).kindOf (ps.zip us) fun _ => none) (cellsFrom (s.heap.objs.size + 1) scope.names []) (bindC (envOfC qual scope s.heap.objs.size f cd).kindOf (ps.zip us) fun _ => none) s1) :
    Inv (cxOf CX P w K mg base N qual scope f cd A outer s H E) [] (start N vs) H s1 := by
  have hpl : ps.length ≤ N.length := by have := congrArg List.length S.pre; rw [List.length_take] at this; omega
  obtain ⟨h1, tk, rfl, hk⟩ := x.done
  have noA : ∀ b : Addr, b ∉ (cxOf CX P w K mg base N qual scope f cd A outer s H E).ex := fun b z => absurd (show b ∈ ([] : List Addr) from z) (by simp)
  refine ⟨⟨e0.mod, S.kind, rfl, rfl, Nat.le_refl _, fun y z c h1 h2 => ?_, fun y hy => ?_, fun y c _ h => ?_, fun _ => hd, Around.frames_deeper e0.frames, .inr ⟨rfl, rfl⟩, fun b z => absurd z (noA b), e0.bs, e0.bsz, fun b _ _ => noA b, fun b z => absurd z (noA b), e0.funs, e0.frf⟩,
    rfl, e0.bare, Un.kept hk, ⟨_, x.toInCall.ns, fun i y v h1 h2 h3 => ?_⟩, fun y c h => ⟨_, x.cell y c h⟩, e0.hok.fresh (Nat.le_refl _), fun y c h => ?_, fun p hp => absurd (show p ∈ ([] : List (Addr × Obj)) from hp) (by simp), e0.hok.kept hk, ?_⟩
  · exact name_of_addr x.apart (PySem.mem_of_lookup h1) (PySem.mem_of_lookup h2)
  · have hy : scope.names.lookup y = some .cell ∨ scope.names.lookup y = some .free := hy
    rcases hy with hy | hy
    · exact cell_has hy
    · exact absurd rfl (S.nofree _ (PySem.mem_of_lookup hy))
  · exact Nat.le_of_lt (x.above y c (PySem.mem_of_lookup h))
  · have hi : i < vs.length := by
      unfold start at h2
      by_cases hi : i < vs.length
      · exact hi
      · rw [List.getElem?_append_right (by simpa using hi)] at h2
        rw [List.getElem?_replicate] at h2
        split at h2 <;> cases h2
    have ha : vs[i]? = some v := by
      unfold start at h2
      rw [List.getElem?_append_left (by simpa using hi), List.getElem?_map] at h2
      cases e : vs[i]? with
      | none => rw [e] at h2; cases h2
      | some a => rw [e] at h2; cases h2; rfl
    obtain ⟨u, hu, rv⟩ := r.get ha
    have hp : ps[i]? = some y := by
      rw [← S.pre, List.getElem?_take_of_lt (by omega)]; exact h1
    have ndP : ps.Nodup := by rw [← S.pre]; exact S.nd.sublist (List.take_sublist _ _)
    refine ⟨u, rv, ?_⟩
    rcases S.par y (List.mem_of_getElem? hp) with k | k
    · exact .inl ⟨k, bindL_get ndP hp hu k⟩
    · obtain ⟨c, e⟩ := cell_has (n := s.heap.objs.size + 1) k
      refine .inr ⟨.inl k, c, e, ?_⟩
      have q := x.cell y c e
      rw [bindC_get ndP hp hu (by show scope.names.lookup y ≠ _; rw [k]; decide)] at q
      exact q
  · exact e0.hok.fresh (Nat.le_of_lt (x.above y c (PySem.mem_of_lookup h)))
  · unfold start
    show _ = N.length
    rw [List.length_append, List.length_map, List.length_replicate]
    omega
theorem fn_of {CX : CXT} {P : Program} {w : World} {K : PySem.W.Frag} {mg : Str → Option Value} {base : Heap} {k : Nat} {f : Addr} {name qual : Str} {params : Arguments} {body : List Stmt} {scope : Scope} {dV kV doc pm cdv ct oc : Value} {an od : Option Addr}
    {osl : Array (Option Value)} {N ps : List Str} {sp : Sp} (lk : K.lookup f = some ⟨oc, od, .func (PySem.W.fnOf name qual params body scope dV kV doc pm an cdv ct), osl⟩) (hcd : PySem.W.codeIn K cdv qual = true) (S : FnScope N ps scope)
    (len : ∀ vs H Q E, sp vs H Q E → vs.length = ps.length)
    (hbody : ∀ (A : Around) (outer : List Env) (s : Shared) (H : Hp) (vs : List V) (Q : VK) (E : XK), Room k (A.deeper (envOfC qual scope s.heap.objs.size f cdv)) → sp vs H Q E →
      ∃ t, PSs (cxOf CX P w K mg base N qual scope f cdv A outer s H E) body t ∧ t { nx := fun _ H' => Q .non H', rt := Q } (start N vs) H) :
    FnOk P w K mg base CX (k + 1) f (PySem.W.fnOf name qual params body scope dV kV doc pm an cdv ct) ps sp := by
  refine ⟨len, fun A outer s H args us vs Q E hr e0 hb r hsp => ?_⟩
  have hl := len _ _ _ _ hsp
  have KX : K.In s.heap := e0.mod.kin.keeps fun b o e => (e0.bs b o e).1
  have lim : s.heap.NoLimit := e0.mod.nolimit.keeps fun b o e => (e0.bs b o e).1
  have hkind : ∀ y ∈ ps.zip us, scope.names.lookup y.1 = some .local ∨ (scope.names.lookup y.1 = some .cell ∧ ((cellsFrom (s.heap.objs.size + 1) scope.names []).lookup y.1).isSome = true) := fun ⟨n, v⟩ hy => by
    rcases S.par n (List.of_mem_zip hy).1 with q | q
    · exact .inl q
    · exact .inr ⟨q, PySem.W.cellsFrom_some _ _ _ (.inl q)⟩
  refine codeAny_call_function hr.depth (KX _ _ lk) rfl S.co S.gen rfl (PySem.W.codeRec_of KX hcd) (hb _ _ _ _ ?_)
  refine wpAny_newFunctionEnv_cells S.kind hkind fun env he s1 x => ?_
  subst he
  refine ⟨lim.keeps x.toInCall.keep, codeAny_func ?_⟩
  obtain ⟨t, ht, hq⟩ := hbody A outer s H vs Q E (hr.deeper _) hsp
  have I : Inv (cxOf CX P w K mg base N qual scope f cdv A outer s H E) [] (start N vs) H s1 := inv_start S hr.hd e0 hl r x
  refine wpAny_mono (ht [] s1 (start N vs) H _ I hq) (fun fl s' hs => ?_) fun e s' hs => hs
  have fin : ∀ {σ' : St} {H' : Hp} {v : V} {u : Value}, Inv (cxOf CX P w K mg base N qual scope f cdv A outer s H E) [] σ' H' s' → RelV v u → Q v H' → CE outer P w H s Q u s' :=
    fun {σ' H' v u} J rv q => ⟨v, H', J.os, J.bare, J.base, J.hok, rv, q⟩
  cases fl with
  | ret u =>
    obtain ⟨v, σ', H', J, rv, q⟩ := hs
    exact fin J rv q
  | next =>
    obtain ⟨σ', H', J, q⟩ := hs
    exact fin (v := V.non) (u := Value.none) J rfl q
  | brk =>
    obtain ⟨_, _, _, q⟩ := hs
    exact False.elim q
  | cont =>
    obtain ⟨_, _, _, q⟩ := hs
    exact False.elim q
end L2
namespace L2
open PySem PySem.Spec PyProof.Rows
section
variable {X : Cx} {x : Str} {p pos : Pos} {e : Expr} {es : List Expr} {t : TA} {id T : String} {r : List V → Hp → VK → Prop}
def tCB (r : List V → Hp → VK → Prop) (t : TA) : TE := fun σ H Q => t σ H fun vs H1 => r vs H1 Q
theorem pe_callB (hc : CallR X (.builtin id) r) (hg : Gl X x) (hm : X.mg x = none) (hv : bootBuiltins x = some (.builtin id)) (ha : PA X (e :: es) t) (hn : x ≠ "__name__" := by decide) (hdb : (x == ("__debug__" : Str)) = false := by decide)
    (he : starEach (e :: es) X.env = (false, eval e X.env) :: starEach es X.env := by rfl) (hpl : (backTo pos (starEach es X.env)).any (·.1) = false := by rfl) : PE X (.Call (.Name x p) (e :: es) [] pos) (tCB r t) := by
  intro pins s σ H Q I h
  refine wpAny_Call_Name_kw (ld_blt I hg hm hv ?_ hn hdb)
  exact PyProof.Rows.callWith_builtin1 (thn (ha pos pins s σ H _ I h) fun us s1 ⟨vs, H1, I1, r1, q1⟩ => hc pins s1 σ H1 vs us Q I1 r1 q1) he hpl
theorem pe_callTy (hc : CallR X (.type T) r) (hg : Gl X x) (hm : X.mg x = none) (hv : bootBuiltins x = some (.type T)) (ha : PA X (e :: es) t) (hn : x ≠ "__name__" := by decide) (hdb : (x == ("__debug__" : Str)) = false := by decide)
    (he : starEach (e :: es) X.env = (false, eval e X.env) :: starEach es X.env := by rfl) (hpl : (backTo pos (starEach es X.env)).any (·.1) = false := by rfl) : PE X (.Call (.Name x p) (e :: es) [] pos) (tCB r t) := by
  intro pins s σ H Q I h
  refine wpAny_Call_Name_kw (ld_blt I hg hm hv ?_ hn hdb)
  exact PyProof.Rows.callWith_type1 (thn (ha pos pins s σ H _ I h) fun us s1 ⟨vs, H1, I1, r1, q1⟩ => hc pins s1 σ H1 vs us Q I1 r1 q1) he hpl
end
end L2
namespace HT
open PySem PyProof.Rows
section
open PySem.SeqAt
open PySem.AutoSeq1 (wpAny_loadPart')
open PySem.MeetsSeq PySem.MeetsSeq2 PySem.MeetsSeq3
end
section
variable {prog : Program} {w : World} {A : Around} {E : Value → Shared → Prop} {s : Shared}
end
end HT
namespace L2
open PySem PySem.Spec PyProof.Rows
abbrev TO := St → Hp → (Option Int → Hp → Prop) → Prop
section
variable {X : Cx} {e : Expr} {te : TE} {lo hi : Option Expr} {tl th : TO} {pos p2 : Pos}
def SlR (X : Cx) (r : V → Option Int → Option Int → Hp → VK → Prop) : Prop :=
  ∀ (pins : List (Addr × Obj)) (s : Shared) (σ : St) (H : Hp) (x : V) (v vl vu : Value) (lo hi : Option Int) (sl : Addr) (Q : VK), Inv X pins σ H s → RelV x v → s.heap.IsSliceOf sl vl vu .none → IsPart vl lo → IsPart vu hi → r x lo hi H Q →
    ∃ T id, typeLookup (.type T) "__getitem__" = pure (some (.builtin id)) ∧ s.TypeIs v T ∧ wpAny (model X.prog X.w) X.A (getItem v (.ref sl)) (EP X pins σ Q) X.xe s
theorem SlR.or {r r' : V → Option Int → Option Int → Hp → VK → Prop} (h : SlR X r) (h' : SlR X r') : SlR X (fun x lo hi H Q => r x lo hi H Q ∨ r' x lo hi H Q) := by
  intro pins s σ H x v vl vu lo hi sl Q I rx hs pl pu q
  rcases q with q | q
  · exact h pins s σ H x v vl vu lo hi sl Q I rx hs pl pu q
  · exact h' pins s σ H x v vl vu lo hi sl Q I rx hs pl pu q
end
end L2
namespace L2
open PySem PySem.Spec PyProof.Rows
def ixN (n : Nat) (i : Int) : Option Nat := if 0 ≤ i then (if i < n then some i.toNat else none) else if -(n : Int) ≤ i then some (i + n).toNat else none
def atI {α : Type} (xs : List α) (i : Int) : Option α := (ixN xs.length i).bind fun j => xs[j]?
theorem ixN_seq {n : Nat} {i : Int} {j : Nat} (h : ixN n i = some j) : seqIndex? i n = some j ∧ j < n ∧ -(n : Int) ≤ i ∧ i < n := by
  unfold ixN at h
  by_cases h0 : 0 ≤ i
  · rw [if_pos h0] at h
    by_cases h1 : i < n
    · rw [if_pos h1] at h
      have e : i.toNat = j := Option.some.inj h
      exact ⟨by rw [seqIndex_of h0 h1, e], by omega, by omega, h1⟩
    · rw [if_neg h1] at h; cases h
  · rw [if_neg h0] at h
    by_cases h1 : -(n : Int) ≤ i
    · rw [if_pos h1] at h
      have e : (i + n).toNat = j := Option.some.inj h
      exact ⟨by rw [seqIndex_neg (by omega) h1, e], by omega, h1, by omega⟩
    · rw [if_neg h1] at h; cases h
theorem atI_get {α : Type} {xs : List α} {i : Int} {v : α} (h : atI xs i = some v) : ∃ j, seqIndex? i xs.length = some j ∧ xs[j]? = some v ∧ j < xs.length ∧ -(xs.length : Int) ≤ i ∧ i < xs.length := by
  unfold atI at h
  cases e : ixN xs.length i with
  | none => rw [e] at h; cases h
  | some j =>
    rw [e] at h
    obtain ⟨h1, h2, h3, h4⟩ := ixN_seq e
    exact ⟨j, h1, h, h2, h3, h4⟩
theorem atI_nat {α : Type} {xs : List α} {j : Nat} {v : α} (h : xs[j]? = some v) : atI xs (j : Int) = some v := by
  have hj : j < xs.length := (List.getElem?_eq_some_iff.mp h).1
  have e : ixN xs.length (j : Int) = some j := by
    unfold ixN
    rw [if_pos (by omega), if_pos (by omega)]; simp
  unfold atI; rw [e]; exact h
theorem atI_last {α : Type} (xs : List α) (v : α) : atI (xs ++ [v]) (-1) = some v := by
  have hl : (xs ++ [v]).length = xs.length + 1 := by simp
  have e : ixN (xs ++ [v]).length (-1) = some xs.length := by
    unfold ixN
    rw [hl, if_neg (by decide), if_pos (by omega)]
    congr 1
    omega
  unfold atI
  rw [e]
  show (xs ++ [v])[xs.length]? = some v
  simp
def PlainIx (b : Expr) : Prop := ∀ o i, subscripted b false o i = operate [o, i] (getItem o i)
def IxR (X : Cx) (r : R2) : Prop :=
  ∀ (value slice : Expr) (pins : List (Addr × Obj)) (s : Shared) (σ : St) (H : Hp) (x y : V) (v u : Value) (Q : VK), Inv X pins σ H s → RelV x v → RelV y u → r x y H Q →
    subscripted slice false v u = operate [v, u] (getItem v u) → wpAny (model X.prog X.w) X.A (subscriptTail value slice v u) (EP X pins σ Q) X.xe s
def MtR (X : Cx) (id : String) (r : V → List V → Hp → VK → Prop) : Prop :=
  ∀ (pins : List (Addr × Obj)) (s : Shared) (σ : St) (H : Hp) (x : V) (xs : List V) (v : Value) (us : List Value) (Q : VK), Inv X pins σ H s → RelV x v → Vals xs us → r x xs H Q →
    wpAny (model X.prog X.w) X.A (call (.builtin id) (v :: us)) (EP X pins σ Q) X.xe s
section
variable {X : Cx} {a b : Expr} {ta tb : TE} {pos : Pos}
theorem IxR.or {r r' : R2} (h : IxR X r) (h' : IxR X r') : IxR X (fun x y H Q => r x y H Q ∨ r' x y H Q) := by
  intro value slice pins s σ H x y v u Q I rx ry q hs
  rcases q with q | q
  · exact h value slice pins s σ H x y v u Q I rx ry q hs
  · exact h' value slice pins s σ H x y v u Q I rx ry q hs
theorem MtR.or {id : String} {r r' : V → List V → Hp → VK → Prop} (h : MtR X id r) (h' : MtR X id r') : MtR X id (fun x xs H Q => r x xs H Q ∨ r' x xs H Q) := by
  intro pins s σ H x xs v us Q I rx rs q
  rcases q with q | q
  · exact h pins s σ H x xs v us Q I rx rs q
  · exact h' pins s σ H x xs v us Q I rx rs q
theorem pe_ix {r : R2} (hr : IxR X r) (ha : PE X a ta) (hb : PE X b tb) (hs : PlainIx b) : PE X (.Subscript a b pos) (tOp r ta tb) := by
  intro pins s σ H Q I h
  exact Subscript_ (binT ha hb I h fun v u s2 x y H2 I2 rx ry q => hr a b pins s2 σ H2 x y v u Q I2 rx ry q (hs _ _))
def rIxL (K : PySem.W.Frag) : R2 := fun x y H Q => ∃ p xs i v, x = .ref p ∧ y = .int i ∧ SqL K H p xs ∧ atI xs i = some v ∧ Q v H
def rIxT (K : PySem.W.Frag) : R2 := fun x y H Q => ∃ p xs i v, x = .ref p ∧ y = .int i ∧ SqT K H p xs ∧ atI xs i = some v ∧ Q v H
theorem ix_list : IxR X (rIxL X.K) := by
  intro value slice pins s σ H x y v u Q I rx ry h hs
  obtain ⟨p, xs, i, z, rfl, rfl, hq, he, q⟩ := h
  cases rx
  obtain ⟨t, rfl⟩ := ry
  obtain ⟨its, r, pl, hz⟩ := I.list hq
  obtain ⟨j, h1, h2, h3, h4, h5⟩ := atI_get he
  obtain ⟨w, ew, rw'⟩ := r.get h2
  have hl := r.length
  have hn := line63
  have fin : EP X pins σ Q w s := ⟨z, H, I, rw', q⟩
  by_cases h0 : 0 ≤ i
  · have hj : i.toNat = j := by
      rw [seqIndex_of h0 h5] at h1
      exact Option.some.inj h1
    exact item_listR pl.isList h0 (by omega) (by rw [hj]; simpa using ew) fin hs
  · have hj : (i + (its.toArray.size : Int)).toNat = j := by
      rw [seqIndex_neg (by omega) h4] at h1
      rw [List.size_toArray, ← hl]
      exact Option.some.inj h1
    exact subscriptTail_builtinR (x := w) pl.isList.typeIs slot_list_getitem.lookup
      (wpAny_getItem_list_neg (Q := fun r s' => r = w ∧ EP X pins σ Q r s') pl.isList (by omega) (by rw [List.size_toArray] <;> omega) (by omega) (by rw [hj]; simpa using ew) ⟨rfl, fin⟩) hs
theorem ix_tup : IxR X (rIxT X.K) := by
  intro value slice pins s σ H x y v u Q I rx ry h hs
  obtain ⟨p, xs, i, z, rfl, rfl, hq, he, q⟩ := h
  cases rx
  obtain ⟨t, rfl⟩ := ry
  obtain ⟨its, r, pl, hz⟩ := I.tuple hq
  obtain ⟨j, h1, h2, h3, h4, h5⟩ := atI_get he
  obtain ⟨w, ew, rw'⟩ := r.get h2
  have hl := r.length
  have hn := line63
  have fin : EP X pins σ Q w s := ⟨z, H, I, rw', q⟩
  exact subscriptTail_builtinR (x := w) pl.typeIs slot_tuple_getitem.lookup
    (getItem_tuple (j := j) (Q := fun r s' => r = w ∧ EP X pins σ Q r s') pl (by omega) (by omega) (by rw [List.size_toArray, ← hl]; exact h1) (by simpa using ew) ⟨rfl, fin⟩) hs
theorem Inv.lst {pins : List (Addr × Obj)} {σ : St} {H : Hp} {s : Shared} {p : Addr} {xs : List V} (I : Inv X pins σ H s) (h : H p = some (.lst xs)) :
    ∃ (its : List Value) (n : Nat), Vals xs its ∧ s.heap.get? p = some { cls := .type "list", data := .seq its.toArray n } ∧ xs.length ≤ sizeLine := by
  obtain ⟨z, its, n, r, e⟩ := I.hok p _ h
  exact ⟨its, n, r, e, z⟩
def flatV : V → Bool
  | .non => true
  | .bl _ => true
  | .int _ => true
  | .str _ => true
  | _ => false
def eqV : V → V → Bool
  | .non, .non => true
  | .bl a, .bl b => a == b
  | .bl a, .int b => (if a then 1 else 0) == b
  | .int a, .bl b => a == (if b then 1 else 0)
  | .int a, .int b => a == b
  | .str a, .str b => a == b
  | _, _ => false
theorem eqAt_V {A : Around} {s : Shared} {y x : V} {u v : Value} (ry : RelV y u) (rx : RelV x v) (fy : flatV y = true) (fx : flatV x = true) : SeqAt.EqAt A s u v (eqV y x) := by
  cases y with
  | non =>
    cases ry
    cases x with
    | non => cases rx; exact SeqAt.EqAt.same _
    | bl b => cases rx; exact SeqAt.EqAt.none_bool b
    | int b => obtain ⟨t, rfl⟩ := rx; exact SeqAt.EqAt.none_int b t
    | str b => obtain ⟨t, rfl⟩ := rx; exact SeqAt.EqAt.none_str b t
    | _ => exact absurd (show false = true from fx) Bool.false_ne_true
  | bl a =>
    cases ry
    cases x with
    | non => cases rx; exact SeqAt.EqAt.bool_none a
    | bl b => cases rx; exact SeqAt.EqAt.bool_bool a b
    | int b => obtain ⟨t, rfl⟩ := rx; exact SeqAt.EqAt.bool_int a b t
    | str b => obtain ⟨t, rfl⟩ := rx; exact SeqAt.EqAt.bool_str a b t
    | _ => exact absurd (show false = true from fx) Bool.false_ne_true
  | int a =>
    obtain ⟨t', rfl⟩ := ry
    cases x with
    | non => cases rx; exact SeqAt.EqAt.int_none a t'
    | bl b => cases rx; exact SeqAt.EqAt.int_bool a t' b
    | int b => obtain ⟨t, rfl⟩ := rx; exact SeqAt.EqAt.int_int a t' b t
    | str b => obtain ⟨t, rfl⟩ := rx; exact SeqAt.EqAt.int_str a t' b t
    | _ => exact absurd (show false = true from fx) Bool.false_ne_true
  | str a =>
    obtain ⟨t', rfl⟩ := ry
    cases x with
    | non => cases rx; exact SeqAt.EqAt.str_none a t'
    | bl b => cases rx; exact SeqAt.EqAt.str_bool a t' b
    | int b => obtain ⟨t, rfl⟩ := rx; exact SeqAt.EqAt.str_int a t' b t
    | str b => obtain ⟨t, rfl⟩ := rx; exact SeqAt.EqAt.str_str a t' b t
    | _ => exact absurd (show false = true from fx) Bool.false_ne_true
  | _ => exact absurd (show false = true from fy) Bool.false_ne_true
theorem call_len_seq : CallR X (.builtin "len") (fun xs H Q => ∃ p ys, xs = [.ref p] ∧ (SqL X.K H p ys ∨ SqT X.K H p ys) ∧ Q (.int ys.length) H) := by
  intro pins s σ H xs us Q I r h
  obtain ⟨p, ys, rfl, hq, q⟩ := h
  obtain ⟨u, rfl, rx⟩ := vals1 r
  cases rx
  have hn := line63
  rcases hq with hq | hq
  · obtain ⟨its, r', pl, hz⟩ := I.list hq
    have hlen := r'.length
    exact Calls.call_len_list pl.isList (by simp only [List.size_toArray] <;> omega) ⟨.int ys.length, H, I.tok _, ⟨s.toks + 1, by rw [List.size_toArray, hlen]⟩, q⟩
  · obtain ⟨its, r', pl, hz⟩ := I.tuple hq
    have hlen := r'.length
    exact len_tuple pl (by simp only [List.size_toArray] <;> omega) ⟨.int ys.length, H, I.tok _, ⟨s.toks + 1, by rw [List.size_toArray, hlen]⟩, q⟩
theorem CallR.or {f : Value} {r r' : List V → Hp → VK → Prop} (h : CallR X f r) (h' : CallR X f r') : CallR X f (fun xs H Q => r xs H Q ∨ r' xs H Q) := by
  intro pins s σ H xs us Q I rs q
  rcases q with q | q
  · exact h pins s σ H xs us Q I rs q
  · exact h' pins s σ H xs us Q I rs q
theorem call_list_of : CallR X (.type "list") (fun xs H Q => ∃ p ys, xs = [.ref p] ∧ (SqL X.K H p ys ∨ SqT X.K H p ys) ∧ ∀ l, H l = none → Q (.ref l) (upd H l (.lst ys))) := by
  intro pins s σ H xs us Q I r h
  obtain ⟨p, ys, rfl, hq, q⟩ := h
  obtain ⟨u, rfl, rx⟩ := vals1 r
  cases rx
  have fin : ∀ (its : List Value), Vals ys its → ys.length ≤ sizeLine → ∀ (h' : Heap) (c' : Nat), (∀ b o', s.heap.get? b = some o' → h'.get? b = some o') →
      h'.get? s.heap.objs.size = some { cls := .type "list", dict := none, data := .seq its.toArray c', slots := #[] } → EP X pins σ Q (.ref s.heap.objs.size) { s with heap := h' } := fun its r' hz h' c' kp e =>
    ⟨.ref s.heap.objs.size, _, I.laid (t' := s.toks) kp (Nat.le_refl _) (show ObjOk X.prog X.w _ h' _ (.lst ys) from ⟨hz, its, c', r', e⟩), rfl, q _ (I.hok.fresh (Nat.le_refl _))⟩
  rcases hq with hq | hq
  · obtain ⟨its, r', pl, hz⟩ := I.list hq
    have hlen := r'.length
    obtain ⟨o, ho, hc, n, hd⟩ := pl.isList
    exact call_list_seq p (.inl rfl) ho hc hd (fun h' c' kp e => fin its r' hz h' c' kp e) (by simp only [List.size_toArray] <;> omega)
  · obtain ⟨its, r', pl, hz⟩ := I.tuple hq
    have hlen := r'.length
    obtain ⟨o, ho, hc, n, hd⟩ := pl
    exact call_list_seq p (.inr rfl) ho hc hd (fun h' c' kp e => fin its r' hz h' c' kp e) (by simp only [List.size_toArray] <;> omega)
theorem call_tuple_of : CallR X (.type "tuple") (fun xs H Q => ∃ p ys, xs = [.ref p] ∧ ((SqL X.K H p ys ∧ ∀ l, H l = none → Q (.ref l) (upd H l (.tup ys))) ∨ (SqT X.K H p ys ∧ Q (.ref p) H))) := by
  intro pins s σ H xs us Q I r h
  obtain ⟨p, ys, rfl, h⟩ := h
  obtain ⟨u, rfl, rx⟩ := vals1 r
  cases rx
  rcases h with ⟨hq, q⟩ | ⟨hq, q⟩
  · obtain ⟨its, r', pl, hz⟩ := I.list hq
    have hlen := r'.length
    refine call_tuple_list pl.isList (fun h' kp => ?_) (by simp only [List.size_toArray] <;> omega)
    have I1 : Inv X pins σ H { s with heap := h' } := I.kept (t' := s.toks) kp
    have I2 : Inv X pins σ (upd H h'.objs.size (.tup ys)) { s with heap := h'.push { cls := .type "tuple", data := .seq its.toArray } } :=
      I1.laid (t' := s.toks) (fun b o e => Heap.get?_push_of_some _ e) (Nat.le_refl _) (show ObjOk X.prog X.w _ _ _ (.tup ys) from ⟨hz, its, r', IsTup.new _ _⟩)
    exact ⟨.ref h'.objs.size, _, I2, rfl, q _ (I1.hok.fresh (Nat.le_refl _))⟩
  · obtain ⟨its, r', pl, hz⟩ := I.tuple hq
    exact call_tuple_same pl ⟨.ref p, H, I, rfl, q⟩
def tyV (K : PySem.W.Frag) (T : String) (x : V) (H : Hp) : Prop := match x with
  | .str _ => T = "str"
  | .int _ => T = "int"
  | .ref p => (T = "list" ∧ ∃ xs, SqL K H p xs) ∨ (T = "tuple" ∧ ∃ o, K.lookup p = some o ∧ o.cls = .type "tuple" ∧ o.dict = none) ∨
      (T = "dict" ∧ ((∃ kvs, H p = some (.dK kvs)) ∨ ∃ kvs, H p = some (.dT kvs))) ∨ (T = "set" ∧ ∃ S n, H p = some (.set S n))
  | _ => False
theorem tyV_is {pins : List (Addr × Obj)} {σ : St} {H : Hp} {s : Shared} {T : String} {x : V} {v : Value} (I : Inv X pins σ H s) (r : RelV x v) (ty : tyV X.K T x H) :
    s.TypeIs v T ∧ ∀ a, v = .ref a → ∃ ob, s.heap.get? a = some ob ∧ ob.dict = none := by
  cases x with
  | str z =>
    obtain ⟨t, rfl⟩ := r
    cases (show T = "str" from ty)
    exact ⟨typeIs_str s z t, fun _ e => nomatch e⟩
  | int i =>
    obtain ⟨t, rfl⟩ := r
    cases (show T = "int" from ty)
    exact ⟨typeIs_int s i t, fun _ e => nomatch e⟩
  | ref p =>
    cases r
    rcases ty with ⟨rfl, xs, hq⟩ | ⟨rfl, o, hk, hc, hd⟩ | ⟨rfl, hk⟩ | ⟨rfl, S, n, hk⟩
    · obtain ⟨its, _, pl, _⟩ := I.list hq
      refine ⟨pl.isList.typeIs, fun a e => ?_⟩
      cases e
      obtain ⟨o, n, e, c, hd, _⟩ := pl
      exact ⟨o, e, hd⟩
    · refine ⟨⟨o, I.kIn p o hk, hc⟩, fun a e => ?_⟩
      cases e
      exact ⟨o, I.kIn _ o hk, hd⟩
    · have z : ∃ o, s.heap.get? p = some o ∧ o.ExactDict := by
        rcases hk with ⟨kvs, hk⟩ | ⟨kvs, hk⟩
        · obtain ⟨_, _, _, _, o, _, _, e, ex, _⟩ := I.hok p _ hk
          exact ⟨o, e, ex⟩
        · obtain ⟨_, _, _, _, o, _, _, e, ex, _⟩ := I.hok p _ hk
          exact ⟨o, e, ex⟩
      obtain ⟨o, e, ex⟩ := z
      refine ⟨⟨o, e, ex.1⟩, fun a e2 => ?_⟩
      cases e2
      exact ⟨o, e, ex.2.1⟩
    · obtain ⟨o, _, _, _, e, ex, _⟩ := I.hok p _ hk
      refine ⟨⟨o, e, ex.1⟩, fun a e2 => ?_⟩
      cases e2
      exact ⟨o, e, ex.2.1⟩
  | _ => exact False.elim ty
def tBM (K : PySem.W.Frag) (T : String) (r : V → List V → Hp → VK → Prop) (to : TE) (t : TA) : TE := fun σ H Q => to σ H fun x H1 => tyV K T x H1 ∧ t σ H1 fun xs H2 => r x xs H2 Q
variable {o e : Expr} {es : List Expr} {to : TE} {t : TA} {name : Str} {apos cpos : Pos} {T id : String} {r : V → List V → Hp → VK → Prop}
theorem pe_bm (pa : PlainAttrs T) (slot : Slot T name id) (hty : typeOf (.builtin id) = pure (.type "method_descriptor")) (hm : MtR X id r) (ho : PE X o to) (ha : PA X (e :: es) t)
    (hbase : attributeBase o name X.env (eval o X.env) = eval o X.env := by rfl)
    (hfew : ((backTo cpos (starEach (e :: es) X.env)).all (fun x => !x.1) && (backToKw cpos (keywordEach [] X.env)).all (fun x => x.1.isSome)
      && decide ((e :: es).length + ([] : List Keyword).length + (if ([] : List Keyword).isEmpty then 0 else 1) < 30)) = true := by rfl)
    (hline : (apos.endLine == cpos.line) = true := by rfl) (hs : starEach (e :: es) X.env = (false, eval e X.env) :: starEach es X.env := by rfl) (hplain : (backTo cpos (starEach es X.env)).any (·.1) = false := by rfl) :
    PE X (.Call (.Attribute o name apos) (e :: es) [] cpos) (tBM X.K T r to t) := by
  intro pins s σ H Q I h
  refine wpAny_Call_method_late hbase hfew hline rfl (thn (ho pins s σ H _ I h) fun v s1 ⟨x, H1, I1, r1, ty, q1⟩ => ?_)
  obtain ⟨h1, h2⟩ := tyV_is I1 r1 ty
  refine ⟨T, id, pa, slot, hty, h1, h2, ?_⟩
  have hA := ha cpos pins s1 σ H1 _ I1 q1
  rw [hs] at hA ⊢
  refine Calls.callWith_builtin (by show (false || (backTo cpos (starEach es X.env)).any (·.1)) = false; rw [hplain] <;> rfl) (Calls.evalArgs_plain ?_)
  exact thn hA fun us s2 ⟨vs, H2, I2, r2, q2⟩ => hm pins s2 σ H2 x vs v us Q I2 r1 r2 q2
/- xs.append(e), list.index on a module's tuple .. are MtR facts of 06m -/
end
end L2
namespace L2
open PySem PySem.Spec PyProof.Rows
def MtM (X : Cx) (id : String) (r : V → List V → Hp → VK → Prop) : Prop :=
  ∀ (pins : List (Addr × Obj)) (s : Shared) (σ : St) (H : Hp) (x : V) (xs : List V) (v : Value) (us : List Value) (Q : VK), Inv X pins σ H s → RelV x v → Vals xs us → r x xs H Q →
    wpAny (model X.prog X.w) X.A (call (.builtin id) (v :: us)) (EP X pins σ Q) X.xe s
theorem Vals.one : ∀ {x : V} {us : List Value}, Vals [x] us → ∃ u, us = [u] ∧ RelV x u
  | _, _, .cons r .nil => ⟨_, rfl, r⟩
theorem Vals.two : ∀ {x y : V} {us : List Value}, Vals [x, y] us → ∃ u v, us = [u, v] ∧ RelV x u ∧ RelV y v
  | _, _, _, .cons r (.cons q .nil) => ⟨_, _, rfl, r, q⟩
theorem Vals.zero : ∀ {us : List Value}, Vals [] us → us = []
  | _, .nil => rfl
section
variable {X : Cx} {pins : List (Addr × Obj)} {σ : St} {H : Hp} {s : Shared} {l b : Addr} {xs ys zs : List V}
theorem Inv.lset {its its' : List Value} {n : Nat} {f : Array Value → Array Value} {t' : Nat} (I : Inv X pins σ H s) (hH : H l = some (.lst xs))
    (e : s.heap.get? l = some { cls := .type "list", data := .seq its.toArray n }) (hf : f its.toArray = its'.toArray) (hv : Vals ys its') (hz : ys.length ≤ sizeLine) :
    Inv X pins σ (upd H l (.lst ys)) { s with heap := s.heap.update l (Obj.mapSeq f), toks := t' } := by
  have q := PySem.IsL.update e f
  rw [hf] at q
  refine I.write (x := l) (e := l) (by rw [hH]; exact trivial) (.inl rfl) (fun b' u hb hu => (Heap.get?_update_other s.heap (Obj.mapSeq f) (Ne.symm hb)).trans hu) ⟨_, q⟩ ?_
  exact ⟨hz, its', _, hv, q⟩
theorem Inv.fresh (I : Inv X pins σ H s) : H s.heap.objs.size = none := I.hok.fresh (Nat.le_refl _)
theorem Inv.lstM (I : Inv X pins σ H s) (hH : H l = some (.lst xs)) : xs.length ≤ sizeLine ∧ ∃ (its : List Value) (n : Nat), Vals xs its ∧ xs.length = its.length ∧ s.heap.get? l = some { cls := .type "list", data := .seq its.toArray n } := by
  obtain ⟨z, its, n, r, e⟩ := I.hok l _ hH
  exact ⟨z, its, n, r, r.length, e⟩
end
section
variable {X : Cx}
def rAppend : V → List V → Hp → VK → Prop := fun x vs H Q => ∃ l xs y, x = .ref l ∧ vs = [y] ∧ H l = some (.lst xs) ∧ xs.length < sizeLine ∧ Q .non (upd H l (.lst (xs ++ [y])))
theorem mt_append : MtM X "list.append" rAppend := by
  intro pins s σ H x vs v us Q I rx rv h
  obtain ⟨l, xs, y, rfl, rfl, hH, hz, q⟩ := h
  cases rx
  obtain ⟨u, rfl, ru⟩ := rv.one
  obtain ⟨z, its, n, r, hl, e⟩ := I.lstM hH
  refine call_meets F.slot_list_append ⟨_, e, rfl⟩ F.entry_list_append (F.args_list_append_2 _ _) (PySem.list_append l its.toArray n u (by rw [List.size_toArray]; omega)) ⟨e, ?_⟩
  refine ⟨.non, _, I.lset (its' := its ++ [u]) hH e (by simp) (r.append (.cons ru .nil)) ?_, rfl, q⟩
  rw [List.length_append, List.length_singleton]
  omega
end
section
variable {prog : Program} {w : World} {A : Around} {E : Value → Shared → Prop} {s : Shared}
end
section
variable {X : Cx}
end
end L2
namespace Att
open PySem PySem.W PySem.Calls PyProof.Rows
theorem ints_of_wellAll {P : Params} {h : Heap} : ∀ (ns : List Int) (vs : List Value), WellAll P h vs (ns.map WData.int) → IntsAre vs ns := by
  intro ns
  induction ns with
  | nil =>
    intro vs w
    rw [List.map_nil] at w
    cases w
    exact .nil
  | cons n ns ih =>
    intro vs w
    rw [List.map_cons] at w
    cases w with
    | cons a b =>
      cases a
      exact .cons _ _ (ih _ b)
theorem script_of {l : OpenLaw} {n : Nat} (hn : l.most = some n) {P : Params} {h : Heap} {args : List WData} {vals : List Value}
    (hpre : l.row.toRowW.claim.pre args = true) (hwl : WellAll P h vals args) :
    ∃ a vs ns, vals = [Value.ref a] ∧ args = [WData.list (ns.map WData.int)] ∧ h.get? a = some { cls := .type "list", data := .seq vs.toArray } ∧ IntsAre vs ns ∧ ns.length ≤ n := by
  have hsh : WShape.hasAll [] args [.list .int] = true := (pre_splitW hpre).1
  have hc : l.pre.holds [] { args := args } = true := (pre_splitW hpre).2
  obtain ⟨d, r, rfl, h1, h2⟩ := hasAllW_cons hsh
  obtain rfl := hasAllW_nil h2
  obtain ⟨xs, rfl, h3⟩ := hasW_list h1
  obtain ⟨ns, rfl⟩ := items_int h3
  have hlen : ns.length ≤ n := by
    unfold OpenLaw.pre at hc
    have h4 : (WTm.not (.lt (.lit (.int (n : Int))) (.len (.arg 0)))).holds [] { args := [.list (ns.map .int)] } = true := by
      have h4 := (holds_andW hc).1
      rw [hn] at h4
      exact h4
    have h5 := condW_of h4 (w_not (w_lt w_lit (w_len_list (w_arg rfl))))
    rw [List.length_map] at h5
    refine Nat.le_of_not_lt fun q => ?_
    have q' : (n : Int) < ((ns.length : Nat) : Int) := by omega
    first
      | (rw [decide_eq_true q'] at h5; exact absurd h5 (by decide))
      | (simp at h5; omega)
  cases hwl with
  | cons w1 w2 =>
    cases w2
    cases w1 with
    | list ho hall => exact ⟨_, _, ns, rfl, rfl, ho, ints_of_wellAll ns _ hall, hlen⟩
theorem post_true (l : OpenLaw) (args : List WData) : l.row.toRowW.claim.post args (.bool true) args = true :=
  postW_of (r := l.row.toRowW) (X := (true == true))
    (show WShape.has [] (.bool true) .bool = true by first | rfl | decide | simp [WShape.has, WShape.arms, WShape.armsAll])
    (show (WTm.eq .res (.lit (.bool true))).value [] { args := args, res := some (.bool true), after := args } = some (.bool (true == true)) from w_eq_bool (w_res rfl) w_lit) rfl
theorem attach_call {l : OpenLaw} {n : Nat} {q : Program} {loose : List Str} {XP : (Str → Option Value) → Heap → Prop} {YP : World → Heap → Prop} {d : DefRec}
    (hn : l.most = some n) (hdf : d.params.defaults = [])
    (call : ∀ (w : World) (s₀ s₁ : Shared) (mg mb : Str → Option Value) (fa : Addr) (o : Obj) (pm cd doc : Value) (a : Addr) (vs : List Value) (ns : List Int),
      Ground q loose [] XP w s₀ mg mb s₁.heap → YP w s₁.heap →
      s₁.heap.get? fa = some o → o.data = .func (docDef d.name d.params d.body d.scope pm cd doc) → s₁.heap.CodeRec cd d.name → mg d.name = some (.ref fa) →
      s₁.heap.get? a = some { cls := .type "list", data := .seq vs.toArray } → IntsAre vs ns → ns.length ≤ n → s₁.gens = #[] →
      codeAny (model l.prog w) callerA (.call (.ref fa) ⟨[.ref a], []⟩) (fun r s' => r = .ok (.ret (.bool true)) ∧ OldK s₁.heap s'.heap ∧ s'.os = s₁.os ∧ AllBare s'.gens) s₁) :
    WalkO q loose XP YP l.row.toRowW d [] (fun f vs => PySem.call f vs) := by
  intro w s₀ s₁ mg mb G Y fa o pm cd doc dV kV ho hd hcd hD hmg hg args vals as hpre hlay hrd hwl hlo
  obtain rfl : dV = .none := Dflts.none hD hdf
  obtain rfl : kV = .none := Dflts.noKw hD
  obtain ⟨a, vs, ns, rfl, rfl, hobj, hints, hlen⟩ := script_of hn hpre hwl
  refine enter_call (codeAny_mono (call w s₀ s₁ mg mb fa o pm cd doc a vs ns G Y ho (fd_plain hd) hcd hmg hobj hints hlen hg) fun r s' hq => ?_)
  obtain ⟨rfl, h2, h3, h4⟩ := hq
  exact ⟨.inl ⟨.bool true, .bool true, [], rfl, fun _ => rfl, .bool true, post_true l _, fun _ => ⟨List.Pairwise.nil, fun _ hm => (nomatch hm)⟩⟩, h2, h3, h4⟩
section
variable {prog : Program} {w : World} {A : Around} {E : Value → Shared → Prop} {s : Shared} {K : Frag}
def ledger (h : Heap) (L d : Addr) : List (Addr × Obj) := (List.range h.objs.size).filterMap fun a => if a = L ∨ a = d then none else (h.get? a).map fun o => (a, o)
end
end Att
namespace L2
open PySem PySem.Spec PyProof.Rows
theorem vals_ints : ∀ {vs : List Value} {ns : List Int}, IntsAre vs ns → Vals (ns.map V.int) vs
  | _, _, .nil => .nil
  | _, _, .cons n t h => .cons ⟨t, rfl⟩ (vals_ints h)
def Only (H : Hp) : Prop := ∀ b, H b = none ∨ ∃ o xs, H b = some (.frz o (.lst xs))
theorem law_call {P : Program} {w : World} {K : PySem.W.Frag} {mg mb : Str → Option Value} {CX : CXT} {k : Nat} {fa a : Addr} {fd : FuncData} {x : Str} {sp : Sp} {s₁ : Shared} {vs : List Value} {ns : List Int}
    (KX : K.In s₁.heap) (hns : s₁.heap.Ns mainGlobals mg) (hb : s₁.heap.Ns builtinsNs mb) (hbb : ∀ x : Str, x ≠ "__name__" → mb x = bootBuiltins x) (hlim : s₁.heap.NoLimit) (hg : s₁.gens = #[])
    (ha : s₁.heap.get? a = some { cls := .type "list", data := .seq vs.toArray }) (hi : IntsAre vs ns) (hl : ns.length ≤ sizeLine) (hr : Room k callerA)
    (F : ∀ base : Heap, K.In base → base.Ns mainGlobals mg → FnOk P w K mg base CX k fa fd [x] sp) (hbind : ∀ (s : Shared) (u : Value), BindsTo s fd ⟨[u], []⟩ [(x, u)])
    (hsp : ∀ H : Hp, Only H → SqL K H a (ns.map V.int) → sp [.ref a] H (fun v _ => v = .bl true) fun _ _ _ => False)
    (hCX : ∀ H e s', CX [] H s₁ (fun _ _ _ => False) e s' → False) :
    codeAny (model P w) callerA (.call (.ref fa) ⟨[.ref a], []⟩) (fun r s' => r = .ok (.ret (.bool true)) ∧ OldK s₁.heap s'.heap ∧ s'.os = s₁.os ∧ AllBare s'.gens) s₁ := by
  have rv := vals_ints hi
  have lenV := hi.length
  -- from an abstract heap in which nothing but the script may be tracked
  have core : ∀ H : Hp, Only H → SqL K H a (ns.map V.int) → HOk P w H s₁.heap → (∀ b, H b ≠ none → b = a) → (H a ≠ none → K.lookup a = none) →
      codeAny (model P w) callerA (.call (.ref fa) ⟨[.ref a], []⟩) (fun r s' => r = .ok (.ret (.bool true)) ∧ OldK s₁.heap s'.heap ∧ s'.os = s₁.os ∧ AllBare s'.gens) s₁ := by
    intro H hO hS hok hA hK
    have base_of : ∀ {b : Addr} {o : Obj}, s₁.heap.get? b = some o → H b = none → (hidT s₁.heap H).get? b = some o := fun e n => hidT_get e n
    have noA : ∀ {b : Addr} {o : Obj} {es : Array DictEntry} {ep : Nat}, s₁.heap.get? b = some o → o.data = .dict es ep → H b = none := fun {b o es ep} e d => by
      cases q : H b with
      | none => rfl
      | some u =>
        have e' : b = a := hA b (by rw [q]; simp)
        subst e'
        rw [ha] at e; cases e
        have d' : Data.seq vs.toArray _ = Data.dict es ep := d
        cases d'
    have nsK : ∀ {b : Addr} {m : Str → Option Value}, s₁.heap.Ns b m → (hidT s₁.heap H).Ns b m := fun {b m} ⟨o, es, ep, e, d, r⟩ => ⟨o, es, ep, base_of e (noA e d), d, r⟩
    have hKb : K.In (hidT s₁.heap H) := fun b o e => base_of (KX b o e) (by
      cases q : H b with
      | none => rfl
      | some u =>
        have e' : b = a := hA b (by rw [q]; simp)
        subst e'
        rw [hK (by rw [q]; simp)] at e; cases e)
    have hM : Mod K mg (hidT s₁.heap H) := ⟨hKb, nsK hns, ⟨mb, nsK hb, hbb⟩, let ⟨mc, h1, h2⟩ := hlim; ⟨mc, nsK h1, h2⟩⟩
    have e0 : Env0 P w K mg (hidT s₁.heap H) callerA [] s₁ H := ⟨rfl, hM, fun b o e => of_hidT e, Nat.le_of_eq (hidT_size _ _), trivial, fun b hb => absurd (show b ∈ ([] : List Addr) from hb) (by simp), hok, .of_eq hg⟩
    refine codeAny_mono ((F _ hKb (nsK hns)).run callerA [] s₁ H ⟨[.ref a], []⟩ [.ref a] [.ref a] _ _ hr e0 (hbind s₁ (.ref a)) (.cons rfl .nil) (hsp H hO hS)) fun r s' h => ?_
    cases r with
    | error e => exact (hCX H e s' h).elim
    | ok fl =>
      cases fl with
      | next => exact False.elim h
      | brk => exact False.elim h
      | cont => exact False.elim h
      | ret u =>
        obtain ⟨v, H', os, bare, un, hok', r', q⟩ := h
        have q' : v = .bl true := q
        subst q'
        obtain rfl : u = Value.bool true := r'
        refine ⟨rfl, OldK.of_keep fun b o e => ?_, os, bare⟩
        cases q : H b with
        | none => exact un.keep b o e q (by intro z; exact absurd (show b ∈ ([] : List Addr) from z) (by simp)) (by simp)
        | some u =>
          rcases hO b with z | ⟨ob, xs, z⟩
          · rw [q] at z; cases z
          · have z2 := un.frzs b ob _ z
            obtain ⟨e1, _⟩ := hok b _ z
            obtain ⟨e2, _⟩ := hok' b _ z2
            rw [e] at e1; cases e1
            exact e2
  cases hk : K.lookup a with
  | some o =>
    -- the script is one of the module's own objects
    have e := KX a o hk
    rw [ha] at e
    cases e
    refine core (fun _ => none) (fun _ => .inl rfl) (.inr ⟨_, vs.toArray, _, hk, rfl, rfl, rfl, by rw [List.size_toArray, lenV]; exact hl, by simpa using rv⟩) (fun b u z => by have z' : (none : Option HO) = some u := z; cases z') (fun b z => absurd rfl z) fun z => absurd rfl z
  | none =>
    refine core (fun b => if b = a then some (.frz { cls := .type "list", data := .seq vs.toArray } (.lst (ns.map V.int))) else none) (fun b => ?_) (.inl (.inr ⟨{ cls := .type "list", data := .seq vs.toArray }, if_pos rfl⟩)) (fun b u z => ?_) (fun b z => ?_) fun _ => hk
    · by_cases hb : b = a
      · exact .inr ⟨_, _, if_pos hb⟩
      · exact .inl (if_neg hb)
    · by_cases hb : b = a
      · have z' := (if_pos hb).symm.trans z
        cases z'
        subst hb
        exact ⟨ha, by rw [List.length_map]; exact hl, vs, _, rv, ha⟩
      · have z' := (if_neg hb).symm.trans z
        cases z'
    · by_cases hb : b = a
      · exact hb
      · exact absurd (if_neg hb) z
end L2
namespace L2
open PySem PySem.Spec PyProof.Rows
abbrev KOf {K : PySem.W.Frag} {h : Heap} (_ : K.In h) : PySem.W.Frag := K
theorem walk_of {l : PySem.W.OpenLaw} {n k : Nat} {q : Program} {loose : List Str} {XP : (Str → Option Value) → Heap → Prop} {YP : World → Heap → Prop} {d : DefRec} {K : Params → PySem.W.Frag} {CX : World → CXT} {sp : World → Sp} {x : Str}
    (hn : l.most = some n) (hn2 : n ≤ sizeLine) (hdf : d.params.defaults = []) (hr : Room k callerA)
    (hY : ∀ (w : World) (h : Heap), YP w h → (K w.params).In h)
    (F : ∀ (w : World) (mg : Str → Option Value) (fa : Addr) (h : Heap), (K w.params).In h → h.Ns mainGlobals mg → mg d.name = some (.ref fa) →
      ∃ fd : FuncData, (∀ (s : Shared) (u : Value), BindsTo s fd ⟨[u], []⟩ [(x, u)]) ∧
        ∀ base : Heap, (K w.params).In base → base.Ns mainGlobals mg → FnOk l.prog w (K w.params) mg base (CX w) k fa fd [x] (sp w))
    (hsp : ∀ (w : World) (H : Hp) (a : Addr) (ns : List Int), ns.length ≤ n → Only H → SqL (K w.params) H a (ns.map V.int) → sp w [.ref a] H (fun v _ => v = .bl true) fun _ _ _ => False)
    (hCX : ∀ (w : World) (H : Hp) (s : Shared) (e : Value) (s' : Shared), CX w [] H s (fun _ _ _ => False) e s' → False) :
    PySem.W.WalkO q loose XP YP l.row.toRowW d [] (fun f vs => PySem.call f vs) := by
  refine Att.attach_call hn hdf fun w s₀ s₁ mg mb fa o pm cd doc a vs ns G Y ho hd hcd hmg hobj hints hlen hg => ?_
  have KX := hY w _ Y
  obtain ⟨fd, hb, hF⟩ := F w mg fa _ KX G.T.g hmg
  exact law_call KX G.T.g G.T.b G.T.builtins G.T.nolimit hg hobj hints (Nat.le_trans hlen hn2) hr hF hb (fun H hO hS => hsp w H a ns hlen hO hS) fun H e s' => hCX w H s₁ e s'
end L2
/- THE LAST THEOREM (shape; LID, My.* are yours):
   My.Adr: a structure of the addresses that your layer names (classes, functions); My.Txt K t: a structure (Prop) of the equations over K;
   My.txt_mk : {K} {implicit addresses ..} (e1 : nsIn K mainGlobals "law" = some (some (.ref f))) (e2 : K.lookup f = some ⟨oc, od, .func (fnOf "law" "law" params body scope dV kV doc pm an cdv ct), sl⟩) (e3 : codeIn K cdv "law" = true) .. : ∃ t, My.Txt K t
set_option maxRecDepth 100000 in
set_option maxHeartbeats 0 in
theorem PySem.Challenge.cw_LID_holds : PySem.Challenge.rw_LID.Holds := by
  w_on; o_law; k_head; (case hw => w_witness2)
  k_fill
  refine L2.walk_of (l := PySem.Challenge.rw_LID) (n := 63) (k := 40) (x := "script") (CX := fun w => ..) (sp := fun _ => My.sp_law) rfl (by decide) rfl ⟨rfl, by decide, by decide⟩ (fun w h Y => PySem.W.kIn_of Y) ?F ?S ?C
  case F =>
    intro w mg fa h KX G hmg
    have T : ∃ t, My.Txt (L2.KOf KX) t := by
      dsimp only [L2.KOf]                          -- K must stand as «<heap const> w.params» for k_is
      refine' My.txt_mk ?e1 ?e2 ?e3 ..
      (case e1 => PySem.W.k_is)                    -- in the order: a name -> its address -> its object -> its parts
      (case e2 => PySem.W.k_is)
      ..
    obtain ⟨t, T⟩ := T
    have e0 := hmg.symm.trans (PySem.W.mg_of KX G T.law)
    cases e0                                       -- fa is the law's own address
    exact ⟨_, fun s u => .of_eq rfl, fun base kb nb => My.law_fn T kb nb⟩     -- if «.of_eq rfl» comes too early: refine' ⟨_, ?b, fun base kb nb => My.law_fn T kb nb⟩; exact fun s u => .of_eq rfl
  case S => exact fun w H a ns hl hO hS => ..
  case C => exact ..
(the tactic k_is has no namespace: write k_is) -/
namespace L2
open PySem PySem.Spec PyProof.Rows
def inClass (s : Stmt) (j : Nat) : Stmt := match s with
  | .ClassDef _ _ _ body _ _ _ _ _ _ _ => body.getD j (.Pass ⟨0, 0, 0, 0⟩)
  | _ => .Pass ⟨0, 0, 0, 0⟩
def defArgs (s : Stmt) : Arguments := match s with
  | .FunctionDef _ a _ _ _ _ _ _ _ _ => a
  | _ => { posonlyargs := [], args := [], vararg := none, kwonlyargs := [], kw_defaults := [], kwarg := none, defaults := [] }
def defBody (s : Stmt) : List Stmt := match s with
  | .FunctionDef _ _ b _ _ _ _ _ _ _ => b
  | _ => []
def defScope (s : Stmt) : Scope := match s with
  | .FunctionDef _ _ _ _ _ _ sc _ _ _ => sc
  | _ => { kind := .function, names := [], isGenerator := false, isCoroutine := false }
abbrev CX0 : CXT := fun _ _ _ _ _ _ => False
abbrev E0 : XK := fun _ _ _ => False
theorem pass0 {X : Cx} : Passes CX0 X E0 := fun _ _ _ _ _ _ _ h => h.elim
structure Fun (K : PySem.W.Frag) (x qual : Str) (st : Stmt) (f : Addr) (fd : FuncData) : Prop where
  ex : ∃ (oc : Value) (od : Option Addr) (kV doc pm : Value) (an : Option Addr) (cdv ct : Value) (osl : Array (Option Value)),
    fd = PySem.W.fnOf x qual (defArgs st) (defBody st) (defScope st) .none kV doc pm an cdv ct ∧ K.lookup f = some ⟨oc, od, .func fd, osl⟩ ∧ PySem.W.codeIn K cdv qual = true
  kp : PySem.W.keepIn K (.ref f) = true
section
variable {P : Program} {w : World} {K : PySem.W.Frag} {mg : Str → Option Value} {base : Heap}
theorem Fun.ok {x qual : Str} {st : Stmt} {f : Addr} {fd : FuncData} {N ps : List Str} {k : Nat} {sp : Sp} (F : Fun K x qual st f fd) (S : FnScope N ps (defScope st)) (len : ∀ vs H Q E, sp vs H Q E → vs.length = ps.length)
    (hbody : ∀ (cdv : Value) (A : Around) (outer : List Env) (s : Shared) (H : Hp) (vs : List V) (Q : VK) (E : XK), Room k (A.deeper (envOfC qual (defScope st) s.heap.objs.size f cdv)) → sp vs H Q E →
      ∃ t, PSs (cxOf CX0 P w K mg base N qual (defScope st) f cdv A outer s H E).nox (defBody st) t ∧ t { nx := fun _ H' => Q .non H', rt := Q } (start N vs) H) : FnOk P w K mg base CX0 (k + 1) f fd ps sp := by
  obtain ⟨oc, od, kV, doc, pm, an, cdv, ct, osl, rfl, lk, hcd⟩ := F.ex
  refine fn_of lk hcd S len fun A outer s H vs Q E hr hsp => ?_
  obtain ⟨t, h, q⟩ := hbody cdv A outer s H vs Q E hr hsp
  exact ⟨t, h.nox, q⟩
theorem Fun.binds {x qual : Str} {st : Stmt} {f : Addr} {fd : FuncData} {ps : List Str} (F : Fun K x qual st f fd)
    (h : ∀ (kV doc pm : Value) (an : Option Addr) (cdv ct : Value) (us : List Value), us.length = ps.length → bindArgs (PySem.W.fnOf x qual (defArgs st) (defBody st) (defScope st) .none kV doc pm an cdv ct) ⟨us, []⟩ = pure (ps.zip us)) : Binds K fd ps [] := by
  obtain ⟨oc, od, kV, doc, pm, an, cdv, ct, osl, rfl, lk, hcd⟩ := F.ex
  exact .all (h kV doc pm an cdv ct)
theorem fun_mk {x qual : Str} {st : Stmt} {f : Addr} {oc : Value} {od an : Option Addr} {osl : Array (Option Value)} {kV doc pm cdv ct : Value} (l : K.lookup f = some ⟨oc, od, .func (PySem.W.fnOf x qual (defArgs st) (defBody st) (defScope st) .none kV doc pm an cdv ct), osl⟩)
    (c : PySem.W.codeIn K cdv qual = true) (k : PySem.W.keepIn K (.ref f) = true) : Fun K x qual st f (PySem.W.fnOf x qual (defArgs st) (defBody st) (defScope st) .none kV doc pm an cdv ct) := ⟨⟨oc, od, kV, doc, pm, an, cdv, ct, osl, rfl, l, c⟩, k⟩
end
theorem hu_of {A : Around} {k : Nat} (hr : Room k A) : A.units + 1 < cLine := Nat.lt_of_le_of_lt (Nat.add_le_add_left (by decide : 1 ≤ 64) _) hr.units
theorem small1000 {n : Nat} (h : n ≤ 1000) : n < sizeLine := Nat.lt_of_le_of_lt h (by decide)
section
variable {X : Cx}
theorem pv (i : Nat) {x : Str} {pos : Pos} (hN : X.N[i]? = some x := by rfl) (hv : Vis X.env.scope x := by first | exact Or.inl rfl | exact Or.inr (Or.inl rfl) | exact Or.inr (Or.inr rfl)) (hd : (x == ("__debug__" : Str)) = false := by decide)
    (hcd : (x == ("__classdict__" : Str)) = false := by decide) : PE X (.Name x pos) (tVar i) := pe_var hN hv hd hcd
end
theorem iteF {A B : Prop} (h : B) : if false = true then A else B := by
  rw [if_neg Bool.false_ne_true]
  exact h
theorem iteT {A B : Prop} (h : A) : if true = true then A else B := by
  rw [if_pos rfl]
  exact h
theorem ite2 {c A B : Prop} [Decidable c] (h1 : c → A) (h2 : ¬ c → B) : if c then A else B := by
  by_cases h : c
  · rw [if_pos h]
    exact h1 h
  · rw [if_neg h]
    exact h2 h
theorem iteNS {c A B : Prop} [Decidable c] (hc : c) (h : B) : if (!decide c) = true then A else B := by
  rw [decide_eq_true hc]
  exact iteF h
def Same (H H' : Hp) : Prop := ∀ b o, H b = some o → H' b = some o
theorem Same.refl (H : Hp) : Same H H := fun _ _ h => h
theorem Same.trans {H H1 H2 : Hp} (a : Same H H1) (b : Same H1 H2) : Same H H2 := fun c o h => b c o (a c o h)
theorem Same.free {H H' : Hp} (e : Same H H') {l : Addr} (h : H' l = Option.none) : H l = Option.none := by
  cases q : H l with
  | none => rfl
  | some o =>
    rw [e l o q] at h
    cases h
theorem Same.seq {K : PySem.W.Frag} {H H' : Hp} {a : Addr} {xs : List V} (e : Same H H') (h : SqL K H a xs) : SqL K H' a xs := by
  rcases h with (h | ⟨o, h⟩) | h
  · exact .inl (.inl (e _ _ h))
  · exact .inl (.inr ⟨o, e _ _ h⟩)
  · exact .inr h
end L2
namespace L2
open PySem PySem.Spec PyProof.Rows
def takenCells (cells : List (Str × Addr)) : List (Str × NameKind) → List (Str × Addr) → List (Str × Addr)
  | [], cs => cs
  | (n, k) :: r, cs => if (k == NameKind.free) = true then takenCells cells r ((n, (cells.lookup n).getD 0) :: cs) else takenCells cells r cs
theorem closure_taken {scope : Scope} {env : Env} (h : ∀ x ∈ scope.names, x.2 = .free → ∃ c, env.cells.lookup x.1 = some c) : closureFor scope env = pure (takenCells env.cells scope.names []) := by
  simp only [closureFor]
  have go : ∀ (l : List (Str × NameKind)) (cs : List (Str × Addr)), (∀ x ∈ l, x.2 = .free → ∃ c, env.cells.lookup x.1 = some c) →
      (forIn l cs fun x r => match x with | (name, kind) => if (kind == NameKind.free) = true then do let a ← cellOf env name; pure (ForInStep.yield ((name, a) :: r)) else pure (ForInStep.yield r) : Sem (List (Str × Addr))) = pure (takenCells env.cells l cs) := by
    intro l
    induction l with
    | nil => intro cs _; rfl
    | cons p r ih =>
      intro cs hp
      obtain ⟨n, k⟩ := p
      rw [List.forIn_cons]
      have hr := fun cs => ih cs fun x hx => hp x (List.mem_cons_of_mem _ hx)
      by_cases hk : (k == NameKind.free) = true
      · have hk' : k = NameKind.free := by simpa using hk
        obtain ⟨c, hc⟩ := hp (n, k) List.mem_cons_self hk'
        have hc' : env.cells.lookup n = some c := hc
        simp only [hk, if_true, takenCells, cellOf, hc', Option.getD_some, pure_bind]
        exact hr _
      · simp only [hk, if_false, takenCells, pure_bind]
        exact hr _
  rw [go scope.names [] h]
  rfl
theorem taken_look {cells : List (Str × Addr)} : ∀ {l : List (Str × NameKind)} {cs : List (Str × Addr)} {x : Str} {c : Addr}, (∀ y ∈ l, y.2 = .free → ∃ c, cells.lookup y.1 = some c) → (∀ y d, cs.lookup y = some d → cells.lookup y = some d) →
    (takenCells cells l cs).lookup x = some c → cells.lookup x = some c
  | [], cs, x, c, _, hc, e => hc x c e
  | (n, k) :: r, cs, x, c, hl, hc, e => by
    unfold takenCells at e
    by_cases hk : (k == NameKind.free) = true
    · rw [if_pos hk] at e
      obtain ⟨d, hd⟩ := hl (n, k) List.mem_cons_self (by simpa using hk)
      have hd' : cells.lookup n = some d := hd
      refine taken_look (fun y hy => hl y (List.mem_cons_of_mem _ hy)) (fun y d' q => ?_) e
      rw [List.lookup_cons] at q
      by_cases hy : (y == n) = true
      · rw [hy] at q
        have hyn : y = n := by simpa using hy
        subst hyn
        rw [hd'] at q ⊢
        exact q
      · rw [Bool.not_eq_true] at hy
        rw [hy] at q
        exact hc y d' q
    · rw [if_neg hk] at e
      exact taken_look (fun y hy => hl y (List.mem_cons_of_mem _ hy)) hc e
theorem taken_grow {cells : List (Str × Addr)} : ∀ {l : List (Str × NameKind)} {cs : List (Str × Addr)} {x : Str}, (∃ c, cs.lookup x = some c) → ∃ c, (takenCells cells l cs).lookup x = some c
  | [], _, _, h => h
  | (n, k) :: r, cs, x, h => by
    unfold takenCells
    by_cases hk : (k == NameKind.free) = true
    · rw [if_pos hk]
      refine taken_grow ?_
      rw [List.lookup_cons]
      by_cases hy : (x == n) = true
      · rw [hy]; exact ⟨_, rfl⟩
      · rw [Bool.not_eq_true] at hy
        rw [hy]; exact h
    · rw [if_neg hk]; exact taken_grow h
theorem taken_has {cells : List (Str × Addr)} : ∀ {l : List (Str × NameKind)} {cs : List (Str × Addr)} {x : Str}, (x, NameKind.free) ∈ l → ∃ c, (takenCells cells l cs).lookup x = some c
  | (n, k) :: r, cs, x, h => by
    unfold takenCells
    rcases List.mem_cons.mp h with e | e
    · cases e
      rw [if_pos (by rfl)]
      exact taken_grow (by rw [List.lookup_cons, beq_self_eq_true]; exact ⟨_, rfl⟩)
    · by_cases hk : (k == NameKind.free) = true
      · rw [if_pos hk]; exact taken_has e
      · rw [if_neg hk]; exact taken_has e
theorem comp_loop {prog : Program} {w : World} {A : Around} {elt target iter : Expr} {ifs : List Expr} {scope : Scope} {pos : Pos} {it acc : Value} {env : Env} {R : Result → Shared → Prop} {s : Shared} (I : Nat → Shared → Prop)
    (turn : ∀ n s, I n s → wpAny (model prog w) A (pyNext it) (fun r s₁ => match r with
      | none => R (.ok .next) s₁
      | some v => wpAny (model prog w) A (letOwnedTupleGo target it v) (fun _ s₁' => wpAny (model prog w) A (assign target env v) (fun _ s₂ =>
          wpAny (model prog w) A (forIn ifs true fun c r => if r = true then do let ok ← isTrue c env (eval c env); pure (ForInStep.yield ok) else pure (ForInStep.yield r)) (fun ok s₃ =>
            if ok = true then wpAny (model prog w) A (eval elt env) (fun x s₄ =>
              wpAny (model prog w) A (call (.builtin "list.append") [acc, x]) (fun _ s₅ => ∃ m, m < n ∧ I m s₅) (fun _ _ => False) s₄) (fun _ _ => False) s₃
            else ∃ m, m < n ∧ I m s₃) (fun _ _ => False) s₂) (fun _ _ => False) s₁') (fun _ _ => False) s₁) (fun _ _ => False) s)
    (n : Nat) (h : I n s) : codeAny (model prog w) A (.compLoop (.ListComp elt [⟨target, iter, ifs, 0⟩] scope pos) 0 it acc env) R s := by
  refine codeAny_loop rfl I (fun n s hI => ?_) n h
  show wpAny _ A ((compTurn (.ListComp elt [⟨target, iter, ifs, 0⟩] scope pos) 0 it acc env).onRaise (fun x => do noteFrame x env; theTreesLotGoes x)) _ _ s
  refine wpAny_noted ?_
  rw [compTurn_list]
  refine wpAny_bind (wpAny_standAt (wpAny_bind (wpAny_mono (turn n s hI) (fun r s₁ h₁ => ?_) fun _ _ h' => h'.elim)))
  cases r with
  | none => exact wpAny_pure h₁
  | some v =>
    refine wpAny_bind (wpAny_mono h₁ (fun _ s₁' h₁' => ?_) fun _ _ h' => h'.elim)
    refine wpAny_bind (wpAny_mono h₁' (fun _ s₂ h₂ => wpAny_bind (wpAny_mono h₂ (fun ok s₃ h₃ => ?_) fun _ _ h' => h'.elim)) fun _ _ h' => h'.elim)
    cases ok with
    | false => exact wpAny_pure ⟨rfl, h₃⟩
    | true =>
      exact wpAny_bind (wpAny_bind (wpAny_mono h₃ (fun x s₄ h₄ => wpAny_bind (wpAny_mono h₄ (fun _ s₅ h₅ => wpAny_pure (wpAny_pure ⟨rfl, h₅⟩)) fun _ _ h' => h'.elim)) fun _ _ h' => h'.elim))
def compCx (X : Cx) (N : List Str) (scope : Scope) (C : Addr) (s : Shared) (H : Hp) (pins : List (Addr × Obj)) (fp : List Addr) : Cx where
  prog := X.prog
  w := X.w
  K := X.K
  mg := X.mg
  base := X.base
  A := X.A
  N := N
  s₀ := s
  H₀ := H
  env := compEnvC scope (takenCells X.env.cells scope.names []) C X.env
  outer := X.stack
  stack := X.stack
  ex := fp
  fn := fun _ => false
  calm := X.calm
  pn := X.pn ++ pins
  xe := fun _ _ => False
structure CompScope (X : Cx) (scope : Scope) : Prop where
  kind : scope.kind = .function
  nocell : ∀ y ∈ scope.names, y.2 ≠ .cell
  names : ∀ y ∈ scope.names, y.2 = .local → scope.names.lookup y.1 = some .local
  free : ∀ y ∈ scope.names, y.2 = .free → X.env.kindOf y.1 = some .cell ∨ X.env.kindOf y.1 = some .free
theorem lookup_relabel {env : Env} {x : Str} : ∀ {names : List (Str × NameKind)} {k : NameKind}, (names.map fun (n, k) => if (k == NameKind.free && env.scope.kind == .function && env.kindOf n == some .cell) then (n, NameKind.cell) else (n, k)).lookup x = some k →
    ∃ k', names.lookup x = some k' ∧ (k' = k ∨ (k' = .free ∧ k = .cell ∧ env.kindOf x = some .cell))
  | [], k, h => by simp at h
  | (n, k0) :: r, k, h => by
    have ih := @lookup_relabel env x r k
    have h' : List.lookup x ((if (k0 == NameKind.free && env.scope.kind == .function && env.kindOf n == some .cell) = true then (n, NameKind.cell) else (n, k0)) :: r.map fun (n, k) => if (k == NameKind.free && env.scope.kind == .function && env.kindOf n == some .cell) = true then (n, NameKind.cell) else (n, k)) = some k := h
    by_cases hc : (k0 == NameKind.free && env.scope.kind == .function && env.kindOf n == some .cell) = true
    · rw [if_pos hc] at h'
      rw [List.lookup_cons] at h'
      cases hx : x == n with
      | true =>
        rw [hx] at h'
        have hk : NameKind.cell = k := Option.some.inj h'
        simp only [Bool.and_eq_true, beq_iff_eq] at hc
        have hxn : x = n := by simpa using hx
        refine ⟨k0, by rw [List.lookup_cons, hx], .inr ⟨hc.1.1, hk.symm, by rw [hxn]; exact hc.2⟩⟩
      | false =>
        rw [hx] at h'
        obtain ⟨k', e1, e2⟩ := ih h'
        exact ⟨k', by rw [List.lookup_cons, hx]; exact e1, e2⟩
    · rw [if_neg hc] at h'
      rw [List.lookup_cons] at h'
      cases hx : x == n with
      | true =>
        rw [hx] at h'
        exact ⟨k0, by rw [List.lookup_cons, hx], .inl (Option.some.inj h')⟩
      | false =>
        rw [hx] at h'
        obtain ⟨k', e1, e2⟩ := ih h'
        exact ⟨k', by rw [List.lookup_cons, hx]; exact e1, e2⟩
theorem mem_of_look {α : Type} : ∀ {l : List (Str × α)} {x : Str} {k : α}, l.lookup x = some k → (x, k) ∈ l
  | [], _, _, h => by simp at h
  | (n, a) :: r, x, k, h => by
    rw [List.lookup_cons] at h
    cases hx : x == n with
    | true =>
      rw [hx] at h
      have e : a = k := Option.some.inj h
      have hxn : x = n := by simpa using hx
      subst e; subst hxn
      exact List.mem_cons_self
    | false =>
      rw [hx] at h
      exact List.mem_cons_of_mem _ (mem_of_look h)
def PTs (X : Cx) (ifs : List Expr) (t : TT) : Prop :=
  ∀ (pins : List (Addr × Obj)) (s : Shared) (σ : St) (H : Hp) (Q : Bool → Hp → Prop), Inv X pins σ H s → t σ H Q →
    wpAny (model X.prog X.w) X.A (forIn ifs true fun c r => if r = true then do let ok ← isTrue c X.env (eval c X.env); pure (ForInStep.yield ok) else pure (ForInStep.yield r)) (TP X pins σ Q) X.xe s
def tYes : TT := fun _ H Q => Q true H
theorem pts_nil {X : Cx} : PTs X [] tYes := fun _ _ _ H _ I h => wpAny_tests_nil ⟨H, I, h⟩
def cTurns (D : Addr) (J : It) (g : TG) (tc : TT) (te : TE) (σ₀ : St) (H : Hp) (Q : Hp → Prop) : Prop :=
  ∃ W : Nat → Nat → St → Hp → Prop, (∃ m, W 0 m σ₀ (upd H D (.lst []))) ∧ ∀ i m σ' H', W i m σ' H' →
    (J.stop i H' ∧ Q H') ∨ (J.go i H' ∧ ∃ N : St → Hp → Prop, (∀ σ'' H'', N σ'' H'' → ∃ m', m' < m ∧ W (i + 1) m' σ'' H'') ∧ ∀ x H2, J.yld i H' x H2 → g x σ' H2 fun σ2 H3 => tc σ2 H3 fun b H4 =>
      if b = true then te σ2 H4 fun v H5 => ∃ xs, H5 D = some (.lst xs) ∧ xs.length < sizeLine ∧ N σ2 (upd H5 D (.lst (xs ++ [v]))) else N σ2 H4)
def tComp (wi : TI) (cap : St → St) (g : TG) (tc : TT) (te : TE) : TE := fun σ H Q => wi σ H fun J H1 => ∀ D, H1 D = none → cTurns D J g tc te (cap σ) H1 fun H' => Q (.ref D) H'
def tSetComp (i : Nat) (wi : TI) (cap : St → St) (g : TG) (tc : TT) (te : TE) : TS := fun D σ H => wi σ H fun J H1 => ∀ d, H1 d = none → cTurns d J g tc te (cap σ) H1 fun H' => D.nx (σ.set i (some (.ref d))) H'
def Caps (X : Cx) (N : List Str) (scope : Scope) (cap : St → St) : Prop :=
  ∀ σ : St, σ.length = X.N.length → (cap σ).length = N.length ∧ ∀ (i : Nat) (x : Str) (v : V), N[i]? = some x → (cap σ)[i]? = some (some v) → scope.names.lookup x = some .free ∧ ∃ j : Nat, X.N[j]? = some x ∧ σ[j]? = some (some v)
def capF (n : Nat) (js : List Nat) : St → St := fun σ => List.replicate n none ++ js.map fun j => (σ[j]?).join
theorem caps_of {X : Cx} {N : List Str} {scope : Scope} (n : Nat) (js : List Nat) (h1 : N.length = n + js.length) (h2 : js.map (fun j => X.N[j]?) = (N.drop n).map some) (h3 : ∀ x ∈ N.drop n, scope.names.lookup x = some .free) : Caps X N scope (capF n js) := by
  intro σ hσ
  refine ⟨by unfold capF; rw [List.length_append, List.length_replicate, List.length_map, h1], fun i x v e1 e2 => ?_⟩
  unfold capF at e2
  by_cases hi : i < n
  · rw [List.getElem?_append_left (by simpa using hi), List.getElem?_replicate, if_pos hi] at e2
    cases e2
  · rw [List.getElem?_append_right (by simpa using hi), List.length_replicate, List.getElem?_map] at e2
    cases hj : js[i - n]? with
    | none => rw [hj] at e2; cases e2
    | some j =>
      rw [hj] at e2
      have e3 : (σ[j]?).join = some v := Option.some.inj e2
      have e4 : σ[j]? = some (some v) := by
        cases q : σ[j]? with
        | none => rw [q] at e3; cases e3
        | some o =>
          rw [q] at e3
          have e5 : o = some v := e3
          rw [e5]
      have hd : (N.drop n)[i - n]? = some x := by
        rw [List.getElem?_drop, show n + (i - n) = i by omega]
        exact e1
      have e5 := congrArg (fun l => l[i - n]?) h2
      simp only [List.getElem?_map, hj, hd, Option.map_some] at e5
      exact ⟨h3 x (List.mem_of_getElem? hd), j, Option.some.inj e5, e4⟩
theorem compScope {X : Cx} {scope : Scope} (sc : Scope) (hsc : X.env.scope = sc) (kind : scope.kind = .function) (nocell : ∀ y ∈ scope.names, y.2 ≠ .cell) (names : ∀ y ∈ scope.names, y.2 = .local → scope.names.lookup y.1 = some .local)
    (free : ∀ y ∈ scope.names, y.2 = .free → sc.names.lookup y.1 = some .cell ∨ sc.names.lookup y.1 = some .free) : CompScope X scope := ⟨kind, nocell, names, fun y hy hf => by
  subst hsc
  exact free y hy hf⟩
section
variable {X : Cx} {N : List Str} {scope : Scope} {pins : List (Addr × Obj)} {σ : St} {H : Hp} {s : Shared} {fp : List Addr}
theorem comp_cells (S : CompScope X scope) (I : Inv X pins σ H s) : ∀ y ∈ scope.names, y.2 = .free → ∃ c, X.env.cells.lookup y.1 = some c := fun y hy hf => I.ok.has y.1 (S.free y hy hf)
theorem comp_inv {cap : St → St} {D C : Addr} {h₁ : Heap} {t' : Nat} {m : Str → Option Value} (S : CompScope X scope) (I : Inv X pins σ H s) (hcap : Caps X N scope cap) (hf : ∀ b ∈ fp, FpOk X pins H b) (hfo : ∀ b ∈ fp, ∃ o, s.heap.get? b = some o)
    (hD : s.heap.objs.size ≤ D) (hC : s.heap.objs.size ≤ C) (hDC : D ≠ C) (old : ∀ b o, s.heap.get? b = some o → h₁.get? b = some o) (hns : h₁.Ns C m) (hl : h₁.get? D = some { cls := .type "list", data := .seq ([] : List Value).toArray }) :
    Inv (compCx X N scope C s H pins fp) [] (cap σ) (upd H D (.lst [])) { s with heap := h₁, toks := t' } := by
  have cellsOk := comp_cells S I
  have look : ∀ x c, (takenCells X.env.cells scope.names []).lookup x = some c → X.env.cells.lookup x = some c := fun x c e => taken_look cellsOk (fun y d q => by simp at q) e
  have lt : ∀ {b : Addr} {o : Obj}, s.heap.get? b = some o → b < s.heap.objs.size := fun e => Heap.lt_size e
  have cellLt : ∀ x c, X.env.cells.lookup x = some c → c < s.heap.objs.size := fun x c e => by
    obtain ⟨v, o, ho, _⟩ := I.cell x c e
    exact lt ho
  have nD : H D = none := I.hok.fresh hD
  have nC : H C = none := I.hok.fresh hC
  have stkNe : ∀ b : Addr, b ≠ X.env.locals → b ∉ X.fs → b ∉ frs X.stack := fun b h1 h2 z => by
    rcases List.mem_cons.mp (I.stkSub b z) with e | e
    · exact h1 e
    · exact h2 e
  refine ⟨⟨I.ok.mod, S.kind, I.ok.glob, I.ok.blt, hC, fun x y c h1 h2 => I.ok.inj x y c (look x c h1) (look y c h2), fun x hx => ?_, fun x c hfn _ => (nomatch hfn), I.ok.hd, I.ok.frames, .inl rfl, fun b hb => ⟨?_, fun x c e => (hf b hb).2.2.2.2.1 x c (look x c e)⟩,
      I.bs, Nat.le_trans I.ok.bsz I.sz, fun b o e hb => ?_, fun b hb => stkNe b (hf b hb).2.1 (hf b hb).2.2.1, I.stack, I.stkFree⟩,
    rfl, I.bare, Un.laid old hD nD, ⟨m, hns, fun i x v h1 h2 h3 => ?_⟩, fun x c e => ?_, ?_, fun x c e => ?_, fun p hp => ?_, ?_, (hcap σ I.len).1⟩
  · -- has
    have hx' : ∃ k, (relabel scope X.env).names.lookup x = some k ∧ (k = .cell ∨ k = .free) := by
      rcases hx with e | e
      · exact ⟨_, e, .inl rfl⟩
      · exact ⟨_, e, .inr rfl⟩
    obtain ⟨k, e, hk⟩ := hx'
    obtain ⟨k', e1, e2⟩ := lookup_relabel e
    have hm := mem_of_look e1
    have hfree : k' = .free := by
      rcases e2 with e2 | e2
      · subst e2
        rcases hk with hk | hk
        · subst hk
          exact absurd rfl (S.nocell _ hm)
        · exact hk
      · exact e2.1
    subst hfree
    exact taken_has hm
  · obtain ⟨o, ho⟩ := hfo b hb
    exact Nat.ne_of_lt (Nat.lt_of_lt_of_le (lt ho) hC)
  · rcases (hf b hb).2.2.2.1 with z | z
    · exact I.ok.noex b o e z
    · exact absurd (Nat.lt_of_lt_of_le (Heap.lt_size e) (Nat.le_trans I.ok.bsz z)) (Nat.lt_irrefl _)
  · -- names
    obtain ⟨hfr, j, hj, hv⟩ := (hcap σ I.len).2 i x v h1 h2
    have hm := mem_of_look hfr
    have hk := S.free _ hm rfl
    obtain ⟨m0, _, hl0⟩ := I.loc
    have vis : Vis X.env.scope x := by
      rcases hk with k | k
      · exact .inr (.inl k)
      · exact .inr (.inr k)
    obtain ⟨u, r, l⟩ := hl0 j x v hj hv vis
    refine ⟨u, r, .inr ⟨?_, ?_⟩⟩
    · have hvis : ∃ k, (relabel scope X.env).names.lookup x = some k := by
        rcases h3 with e | e | e <;> exact ⟨_, e⟩
      obtain ⟨k, e⟩ := hvis
      obtain ⟨k', e1, e2⟩ := lookup_relabel e
      rw [hfr] at e1
      cases e1
      rcases e2 with e2 | e2
      · subst e2; exact .inr e
      · rw [e2.2.1] at e; exact .inl e
    · rcases l with ⟨k, _⟩ | ⟨_, c, hc, hcell⟩
      · exfalso
        rcases hk with q | q
        · have q' : X.env.kindOf x = some .cell := q
          rw [k] at q'; cases q'
        · have q' : X.env.kindOf x = some .free := q
          rw [k] at q'; cases q'
      · obtain ⟨c', e'⟩ := taken_has (cells := X.env.cells) (cs := []) hm
        have e2 := look x c' e'
        have e2' : X.env.cells.lookup x = some c' := e2
        rw [hc] at e2'
        cases e2'
        obtain ⟨o, ho, hd⟩ := hcell
        exact ⟨c, e', o, old _ _ ho, hd⟩
  · obtain ⟨v, o, ho, hd⟩ := I.cell x c (look x c e)
    exact ⟨v, o, old _ _ ho, hd⟩
  · show upd H D (.lst []) C = none
    rw [upd_ne (Ne.symm hDC)]
    exact nC
  · have hc := look x c e
    rw [upd_ne (Nat.ne_of_lt (Nat.lt_of_lt_of_le (cellLt x c hc) hD))]
    exact I.freeC x c hc
  · have hp' : p ∈ X.pn ++ pins := by
      rcases List.mem_append.mp hp with z | z
      · exact z
      · cases z
    obtain ⟨e, n, ne, nf, d⟩ := I.pin p hp'
    refine ⟨old _ _ e, ?_, Nat.ne_of_lt (Nat.lt_of_lt_of_le (lt e) hC), stkNe p.1 ne nf, d⟩
    rw [upd_ne (Nat.ne_of_lt (Nat.lt_of_lt_of_le (lt e) hD))]
    exact n
  · refine I.hok.laid old hD ?_
    exact ⟨Nat.zero_le _, [], 0, .nil, hl⟩
theorem comp_back {σ' : St} {H' : Hp} {s' : Shared} {C : Addr} {σc : St} {Nc : List Str} (I : Inv X pins σ H s) (hf : ∀ b ∈ fp, FpOk X pins H b) (J : Inv (compCx X Nc scope C s H pins fp) [] σc H' s') : Inv X pins σ H' s' := by
  refine I.call' (ch := fp) J.os J.base J.hok J.bare fun b hb => ?_
  obtain ⟨_, h2, _, h4, h5, h6⟩ := hf b hb
  exact ⟨h4, h2, h5, h6⟩
theorem comp_off {σ' : St} {H' : Hp} {s' : Shared} {C : Addr} {h' : Heap} (I : Inv X pins σ H s) (hC : s.heap.objs.size ≤ C) (J : Inv X pins σ' H' s') (hn : H' C = none) (sb : Heap.SameBut C s'.heap h') : Inv X pins σ' H' { s' with heap := h' } := by
  refine J.turned (t' := s'.toks) (it := C) (fun b o hb e => (sb.2 b hb).trans e) hn (Nat.ne_of_gt (Nat.lt_of_lt_of_le I.lt hC)) (.inr (Nat.le_trans I.sz hC)) (fun x c e z => ?_) fun p hp z => ?_
  · obtain ⟨v, q⟩ := I.cell x c e
    exact absurd (Nat.lt_of_lt_of_le q.lt (by rw [z]; exact hC)) (Nat.lt_irrefl _)
  · exact absurd (Nat.lt_of_lt_of_le (Heap.lt_size (I.pin p hp).1) (by rw [z]; exact hC)) (Nat.lt_irrefl _)
theorem comp_run {tg iter elt : Expr} {ifs : List Expr} {pos : Pos} {cap : St → St} {g : TG} {tc : TT} {te : TE} {J : It} {it : Addr} {tn : Nat → Heap → Prop} {Q : Addr → Hp → Prop} {RR : Value → Addr → Result → Shared → Prop}
    (hcalm : X.calm = true) (S : CompScope X scope) (hcap : Caps X N scope cap) (I : Inv X pins σ H s) (T : Turn X.prog X.w X.K tg J fp it tn) (st : tn 0 s.heap) (hf : ∀ b ∈ fp, FpOk X pins H b)
    (hg : ∀ C, PG (compCx X N scope C s H pins fp) tg g) (hc : ∀ C, PTs (compCx X N scope C s H pins fp) ifs tc) (he : ∀ C, PE (compCx X N scope C s H pins fp) elt te)
    (hq : ∀ D, H D = none → cTurns D J g tc te (cap σ) H (Q D))
    (hRR : ∀ D C σc H' s', s.heap.objs.size ≤ C → Inv (compCx X N scope C s H pins fp) [] σc H' s' → Q D H' → RR (.ref D) C (.ok .next) s') :
    wpAny (model X.prog X.w) X.A (newList []) (fun acc s₃ => wpAny (model X.prog X.w) X.A (newFunctionEnv scope X.env.globals (takenCells X.env.cells scope.names []) [] X.env.qual none .none (some X.env)) (fun cenv s₄ =>
      codeAny (model X.prog X.w) X.A (.compStart (.ListComp elt [⟨tg, iter, ifs, 0⟩] scope pos) 0 (.ref it) acc { cenv with scope := relabel scope X.env }) (RR acc cenv.locals) s₄) X.xe s₃) X.xe s := by
  refine wpAny_newObj_type (wpAny_newFunctionEnv S.nocell (by intro y hy; simp at hy) (fun h₁ hns₁ hsb₁ => ?_) S.kind)
  dsimp only at hns₁ hsb₁ ⊢
  generalize hH2 : s.heap.push { cls := .type "list", dict := none, data := .seq ([] : List Value).toArray } = H2 at hns₁ hsb₁ ⊢
  have hC : H2.objs.size = s.heap.objs.size + 1 := by rw [← hH2, Heap.size_push]
  have hDC : s.heap.objs.size ≠ H2.objs.size := by rw [hC]; exact Nat.ne_of_lt (Nat.lt_succ_self _)
  have hCle : s.heap.objs.size ≤ H2.objs.size := by rw [hC]; exact Nat.le_succ _
  have below : ∀ b, b < s.heap.objs.size → b ≠ H2.objs.size := fun b hb => by rw [hC]; exact Nat.ne_of_lt (Nat.lt_succ_of_lt hb)
  have old : ∀ b o, s.heap.get? b = some o → h₁.get? b = some o := fun b o e => hsb₁.extBut b o (below b (Heap.lt_size e)) (Heap.get?_push_of_some _ (hH2 ▸ Heap.get?_push_of_some _ e))
  have hacc : h₁.get? s.heap.objs.size = some { cls := .type "list", data := .seq ([] : List Value).toArray } := hsb₁.extBut _ _ hDC (Heap.get?_push_of_some _ (hH2 ▸ Heap.get?_push_size _ rfl))
  have obj0 := T.obj 0 s.heap st
  have I1 : ∀ t', Inv (compCx X N scope H2.objs.size s H pins fp) [] (cap σ) (upd H s.heap.objs.size (.lst [])) { s with heap := h₁, toks := t' } := fun t' =>
    comp_inv S I hcap hf (fun b hb => let ⟨o, e, _⟩ := obj0 b hb; ⟨o, e⟩) (Nat.le_refl _) hCle hDC old hns₁ hacc
  have st1 : tn 0 h₁ := T.keep 0 s.heap h₁ st fun b _ o e => old b o e
  -- what stays true of the iterator's objects
  have stat : ∀ {H' : Hp}, (∀ b ∈ fp, H' b = none) → ∀ b ∈ fp, FpOk (compCx X N scope H2.objs.size s H pins fp) [] H' b := fun hn b hb => by
    obtain ⟨_, h2, h3, h4, h5, h6⟩ := hf b hb
    obtain ⟨o, ho, _⟩ := obj0 b hb
    refine ⟨hn b hb, below b (Heap.lt_size ho), ?_, .inl hb, fun x c e => h5 x c (taken_look (comp_cells S I) (fun y d q => by simp at q) e), fun p hp => ?_⟩
    · intro z
      rcases List.mem_cons.mp (I.stkSub b z) with e | e
      · exact h2 e
      · exact h3 e
    · rcases List.mem_append.mp hp with z | z
      · exact h6 p z
      · cases z
  have fr1 : ∀ b ∈ fp, upd H s.heap.objs.size (.lst []) b = none := fun b hb => by
    obtain ⟨o, ho, _⟩ := obj0 b hb
    rw [upd_ne (Nat.ne_of_lt (Heap.lt_size ho))]
    exact (hf b hb).1
  obtain ⟨W, ⟨m0, w0⟩, turn⟩ := hq s.heap.objs.size (I.hok.fresh (Nat.le_refl _))
  have loop : ∀ s₃ : Shared, s₃ = { s with heap := h₁, toks := s.toks + ([] : List (Str × Value)).length } →
      codeAny (model X.prog X.w) X.A (.compLoop (.ListComp elt [⟨tg, iter, ifs, 0⟩] scope pos) 0 (.ref it) (.ref s.heap.objs.size) (compEnvC scope (takenCells X.env.cells scope.names []) H2.objs.size X.env))
        (RR (.ref s.heap.objs.size) H2.objs.size) s₃ := by
    rintro s₃ rfl
    refine comp_loop (fun n s' => ∃ i σ' H', Inv (compCx X N scope H2.objs.size s H pins fp) [] σ' H' s' ∧ tn i s'.heap ∧ (∀ b ∈ fp, H' b = none) ∧ W i n σ' H') ?_ m0 ⟨0, cap σ, _, I1 _, st1, fr1, w0⟩
    rintro n s3 ⟨i, σ3, H3, I3, st3, fr3, w3⟩
    rcases turn i n σ3 H3 w3 with ⟨stop, qn⟩ | ⟨go, Nn, hN, step⟩
    · refine thn (T.done (compCx X N scope H2.objs.size s H pins fp) rfl rfl rfl hcalm i [] s3 σ3 H3 (fun _ _ => False) I3 (stat fr3) st3 stop) fun r s4 ⟨hr, I4⟩ => ?_
      subst hr
      exact hRR _ _ σ3 H3 s4 hCle I4 qn
    · refine thn (T.item (compCx X N scope H2.objs.size s H pins fp) rfl rfl rfl hcalm i [] s3 σ3 H3 (fun _ _ => False) I3 (stat fr3) st3 go) fun r s4 ⟨u, hr, h4⟩ => ?_
      subst hr
      refine thn h4 fun _ s5 ⟨x, H5, I5, r5, y5, st5, fr5⟩ => ?_
      have I5' := I5.pinned (stat fr5) (T.obj _ _ st5)
      have again : ∀ {σ7 : St} {H7 : Hp} {s7 : Shared}, Inv (compCx X N scope H2.objs.size s H pins fp) ([] ++ pinsAt fp s5.heap) σ7 H7 s7 → Nn σ7 H7 →
          ∃ m, m < n ∧ ∃ i σ' H', Inv (compCx X N scope H2.objs.size s H pins fp) [] σ' H' s7 ∧ tn i s7.heap ∧ (∀ b ∈ fp, H' b = none) ∧ W i m σ' H' := fun {σ7 H7 s7} I7 n7 => by
        obtain ⟨m', hm, w7⟩ := hN σ7 H7 n7
        refine ⟨m', hm, i + 1, σ7, H7, I7.unpinned, T.keep _ _ _ st5 fun b hb o e => (I7.pin (b, o) (List.mem_append_right _ (List.mem_append_right _ (mem_pinsAt hb e)))).1, fun b hb => ?_, w7⟩
        obtain ⟨o, e, d⟩ := T.obj _ _ st5 b hb
        exact (I7.pin (b, o) (List.mem_append_right _ (List.mem_append_right _ (mem_pinsAt hb e)))).2.1
      refine thn (hg _ _ s5 σ3 H5 x u _ I5' r5 (step x H5 y5)) fun _ s6 ⟨σ6, H6, I6, q6⟩ => ?_
      refine thn (hc _ _ s6 σ6 H6 _ I6 q6) fun ok s7 ⟨H7, I7, q7⟩ => ?_
      cases ok with
      | false => exact again I7 q7
      | true =>
        refine thn (he _ _ s7 σ6 H7 _ I7 q7) fun v s8 ⟨y, H8, I8, r8, xs, hD8, hz8, n8⟩ => ?_
        refine thn (mt_append _ s8 σ6 H8 (.ref s.heap.objs.size) [y] (.ref s.heap.objs.size) [v] (fun _ H9 => Nn σ6 H9) I8 rfl (.cons r8 .nil) ⟨_, _, _, rfl, rfl, hD8, hz8, n8⟩) fun _ s9 ⟨_, H9, I9, _, n9⟩ => ?_
        exact again I9 n9
  exact codeAny_compStart_list (loop _ rfl) (wpAny_mono (T.self X.A 0 _ (fun v s' => v = .ref it ∧ s' = _) (fun _ _ => False) st1 ⟨rfl, rfl⟩) (fun v s' ⟨e1, e2⟩ => by subst e1; subst e2; exact loop _ rfl) fun _ _ z => z.elim)
theorem pe_comp {tg iter elt : Expr} {ifs : List Expr} {pos : Pos} {wi : TI} {g : TG} {tc : TT} {te : TE} (N : List Str) (cap : St → St) (hcalm : X.calm = true) (S : CompScope X scope) (hcap : Caps X N scope cap) (hi : PI X tg iter wi)
    (hg : ∀ C s H pins fp, PG (compCx X N scope C s H pins fp) tg g) (hc : ∀ C s H pins fp, PTs (compCx X N scope C s H pins fp) ifs tc) (he : ∀ C s H pins fp, PE (compCx X N scope C s H pins fp) elt te)
    (hs : ∀ x, foldedSetIterable iter X.env x = pure x := by intro _; rfl) : PE X (.ListComp elt [⟨tg, iter, ifs, 0⟩] scope pos) (tComp wi cap g tc te) := by
  intro pins s σ H Q I h
  rw [eval_ListComp]
  refine wpAny_comprehension_free (use := none) rfl hs (closure_taken (comp_cells S I)) S.kind S.names (thn (hi pins s σ H _ I h) fun v s1 h1 => thn h1 fun itv s2 h2 => ?_)
  obtain ⟨it, fp, tn, J, H2, e, I2, T, st2, f2, q2⟩ := h2
  subst e
  refine comp_run (RR := fun acc C => compPost (model X.prog X.w) X.A X.xe none (EP X pins σ Q) acc C) (Q := fun D H' => Q (.ref D) H') hcalm S hcap I2 T st2 f2 (fun C => hg C _ _ _ _) (fun C => hc C _ _ _ _) (fun C => he C _ _ _ _) q2 ?_
  intro D C σc H' s' hC Jc q
  obtain ⟨m, hn, _⟩ := Jc.loc
  refine ⟨m, hn, fun h' hs' => ?_⟩
  exact ⟨.ref D, H', comp_off I2 hC (comp_back (σ' := σ) I2 f2 Jc) Jc.free hs', rfl, q⟩
theorem ps_setComp {tg iter elt : Expr} {ifs : List Expr} {pos spos py : Pos} {i : Nat} {y : Str} {wi : TI} {g : TG} {tc : TT} {te : TE} (N : List Str) (cap : St → St) (hN : X.N.Nodup) (hy : X.N[i]? = some y) (hloc : Loc X.env.scope y) (hcalm : X.calm = true) (S : CompScope X scope) (hcap : Caps X N scope cap) (hi : PI X tg iter wi)
    (hg : ∀ C s H pins fp, PG (compCx X N scope C s H pins fp) tg g) (hc : ∀ C s H pins fp, PTs (compCx X N scope C s H pins fp) ifs tc) (he : ∀ C s H pins fp, PE (compCx X N scope C s H pins fp) elt te)
    (hsw : swapsWith (.ListComp elt [⟨tg, iter, ifs, 0⟩] scope pos) (some (.Name y py)) spos.line X.env = pure true := by rfl)
    (hs : ∀ x, foldedSetIterable iter X.env x = pure x := by intro _; rfl) (hfn : X.fn y = true ∨ X.env.scope.names.lookup y = some .local := by first | exact .inl rfl | exact .inr rfl | assumption) :
    PS X (.Assign [.Name y py] (.ListComp elt [⟨tg, iter, ifs, 0⟩] scope pos) spos) (tSetComp i wi cap g tc te) := by
  intro pins s σ H D I h
  rw [exec_Assign_Name_used _ _ _ _ hsw]
  refine wpAny_bind (wpAny_standAt (wpAny_bind ?_))
  show wpAny _ X.A (do let _ ← comprehension (.ListComp elt [⟨tg, iter, ifs, 0⟩] scope pos) scope X.env _ (newList []) false (eval iter X.env) (some (assign (.Name y py) X.env))) _ _ s
  refine wpAny_bind (wpAny_mono (wpAny_comprehension_free (use := some (assign (.Name y py) X.env)) (Q := fun _ s' => SP X pins D .next s') rfl hs (closure_taken (comp_cells S I)) S.kind S.names
    (thn (hi pins s σ H _ I h) fun v s1 h1 => thn h1 fun itv s2 h2 => ?_)) (fun _ s' hq => wpAny_pure (wpAny_pure hq)) fun _ _ e => e)
  obtain ⟨it, fp, tn, J, H2, e, I2, T, st2, f2, q2⟩ := h2
  subst e
  refine comp_run (RR := fun acc C => compPost (model X.prog X.w) X.A X.xe (some (assign (.Name y py) X.env)) (fun _ s' => SP X pins D .next s') acc C) (Q := fun d H' => D.nx (σ.set i (some (.ref d))) H') hcalm S hcap I2 T st2 f2 (fun C => hg C _ _ _ _) (fun C => hc C _ _ _ _) (fun C => he C _ _ _ _) q2 ?_
  intro d C σc H' s' hC Jc q
  obtain ⟨m, hn, _⟩ := Jc.loc
  have J1 : Inv X pins σ H' s' := comp_back (σ' := σ) I2 f2 Jc
  show wpAny _ X.A (assign (.Name y py) X.env (.ref d)) _ _ _
  refine wpAny_assign_Name (store_ok2 (v := .ref d) J1 hN hy hloc rfl (fun s'' J2 hsb => ?_) hfn)
  obtain ⟨a, sb, ha⟩ := hsb
  have haC : C ≠ a := by
    rcases ha with e | e
    · rw [e]; exact Nat.ne_of_gt (Nat.lt_of_lt_of_le I2.lt hC)
    · obtain ⟨v, q'⟩ := I2.cell y a e
      exact Nat.ne_of_gt (Nat.lt_of_lt_of_le q'.lt hC)
  refine ⟨m, hn.sameBut sb haC, fun h' hs' => ?_⟩
  exact ⟨_, H', comp_off I2 hC J2 Jc.free hs', q⟩
end
end L2
namespace L2
open PySem PySem.Spec PyProof.Rows
theorem rd_yes {σ : St} {H : Hp} {Q : Bool → Hp → Prop} (h : Q true H) : tYes σ H Q := h
theorem turns_list {K : PySem.W.Frag} {a D : Addr} {xs : List V} {g : TG} {tc : TT} {te : TE} {σ₀ : St} {H : Hp} {Q : Hp → Prop} (Pv : Nat → St → Hp → Prop) (h0 : Pv 0 σ₀ (upd H D (.lst []))) (hl : ∀ i σ H, i ≤ xs.length → Pv i σ H → SqL K H a xs)
    (hs : ∀ i x σ H, xs[i]? = some x → Pv i σ H → g x σ H fun σ2 H3 => tc σ2 H3 fun b H4 => if b = true then te σ2 H4 fun v H5 => ∃ ys, H5 D = some (.lst ys) ∧ ys.length < sizeLine ∧ Pv (i + 1) σ2 (upd H5 D (.lst (ys ++ [v]))) else Pv (i + 1) σ2 H4)
    (hd : ∀ σ H, Pv xs.length σ H → Q H) : cTurns D (Itl K a) g tc te σ₀ H Q := by
  refine ⟨fun i m σ H => m = xs.length - i ∧ i ≤ xs.length ∧ Pv i σ H, ⟨xs.length, by simp, Nat.zero_le _, h0⟩, ?_⟩
  rintro i m σ H ⟨rfl, hi, p⟩
  have q := hl i σ H hi p
  by_cases hlt : i < xs.length
  · refine .inr ⟨⟨xs, xs[i], q, by simp [hlt]⟩, Pv (i + 1), fun σ' H' p' => ⟨xs.length - (i + 1), by omega, rfl, hlt, p'⟩, fun x H' y => ?_⟩
    obtain ⟨e, y⟩ := y
    subst e
    exact hs i x σ _ (y xs q) p
  · have e : i = xs.length := by omega
    subst e
    exact .inl ⟨⟨xs, q, Nat.le_refl _⟩, hd σ H p⟩
theorem turns_range {lo : Int} {n : Nat} {D : Addr} {g : TG} {tc : TT} {te : TE} {σ₀ : St} {H : Hp} {Q : Hp → Prop} (Pv : Nat → St → Hp → Prop) (h0 : Pv 0 σ₀ (upd H D (.lst [])))
    (hs : ∀ i σ H, i < n → Pv i σ H → g (.int (lo + i)) σ H fun σ2 H3 => tc σ2 H3 fun b H4 => if b = true then te σ2 H4 fun v H5 => ∃ ys, H5 D = some (.lst ys) ∧ ys.length < sizeLine ∧ Pv (i + 1) σ2 (upd H5 D (.lst (ys ++ [v]))) else Pv (i + 1) σ2 H4)
    (hd : ∀ σ H, Pv n σ H → Q H) : cTurns D (Itr lo n) g tc te σ₀ H Q := by
  refine ⟨fun i m σ H => m = n - i ∧ i ≤ n ∧ Pv i σ H, ⟨n, by simp, Nat.zero_le _, h0⟩, ?_⟩
  rintro i m σ H ⟨rfl, hi, p⟩
  by_cases hlt : i < n
  · refine .inr ⟨hlt, Pv (i + 1), fun σ' H' p' => ⟨n - (i + 1), by omega, rfl, hlt, p'⟩, fun x H' y => ?_⟩
    obtain ⟨e, y⟩ := y
    subst e y
    exact hs i σ _ hlt p
  · have e : i = n := by omega
    subst e
    exact .inl ⟨Nat.le_refl _, hd σ H p⟩
theorem same_upd {H H' : Hp} {D : Addr} {o : HO} (hD : H D = none) (s : Same H H') : Same H (upd H' D o) := fun b u q => by
  rw [upd_ne (ne_of_none q hD)]
  exact s b u q
def CompAt (H : Hp) (D : Addr) (caps : St) (R : Nat → List V → Hp → Prop) (i : Nat) (σ : St) (Hi : Hp) : Prop := ∃ ys c, σ = c :: caps ∧ Same H Hi ∧ Hi D = some (.lst ys) ∧ ys.length ≤ i ∧ R i ys Hi
theorem comp_put {H Hi H5 : Hp} {D : Addr} {caps : St} {R : Nat → List V → Hp → Prop} {i : Nat} {ys : List V} {c : Option V} {v : V} (hD : H D = none) (s : Same H Hi) (hY : Hi D = some (.lst ys)) (hl : ys.length ≤ i) (hi : i ≤ 999) (s5 : Same Hi H5)
    (r : R (i + 1) (ys ++ [v]) (upd H5 D (.lst (ys ++ [v])))) : ∃ zs, H5 D = some (.lst zs) ∧ zs.length < sizeLine ∧ CompAt H D caps R (i + 1) (c :: caps) (upd H5 D (.lst (zs ++ [v]))) := by
  refine ⟨ys, s5 _ _ hY, small1000 (by omega), ys ++ [v], c, rfl, same_upd hD (s.trans s5), upd_same, ?_, r⟩
  rw [List.length_append, List.length_singleton]; omega
theorem comp_listR {K : PySem.W.Frag} {a D : Addr} {xs : List V} {tc : TT} {te : TE} {caps : St} {H : Hp} {Q : Hp → Prop} (R : Nat → List V → Hp → Prop) (hD : H D = none) (hS : SqL K H a xs) (h0 : R 0 [] (upd H D (.lst [])))
    (hs : ∀ i x ys Hi, xs[i]? = some x → i < xs.length → ys.length ≤ i → Same H Hi → Hi D = some (.lst ys) → R i ys Hi → tc (some x :: caps) Hi fun b H4 => if b = true then te (some x :: caps) H4 fun v H5 => ∃ zs, H5 D = some (.lst zs) ∧ zs.length < sizeLine ∧ CompAt H D caps R (i + 1) (some x :: caps) (upd H5 D (.lst (zs ++ [v])))
      else CompAt H D caps R (i + 1) (some x :: caps) H4)
    (hd : ∀ ys Hf, Same H Hf → Hf D = some (.lst ys) → ys.length ≤ xs.length → R xs.length ys Hf → Q Hf) : cTurns D (Itl K a) (gName 0) tc te (none :: caps) H Q := by
  refine turns_list (xs := xs) (CompAt H D caps R) ⟨[], none, rfl, same_upd hD (Same.refl H), upd_same, Nat.le_refl _, h0⟩ (fun i σ Hi _ ⟨_, _, _, s, _⟩ => s.seq hS) ?_ ?_
  · rintro i x σ Hi hx ⟨ys, c, rfl, s, hY, hl, r⟩
    exact hs i x ys Hi hx (List.getElem?_eq_some_iff.mp hx).1 hl s hY r
  · rintro σ Hf ⟨ys, c, rfl, s, hY, hl, r⟩
    exact hd ys Hf s hY hl r
theorem comp_rangeR {lo : Int} {n : Nat} {D : Addr} {tc : TT} {te : TE} {caps : St} {H : Hp} {Q : Hp → Prop} (R : Nat → List V → Hp → Prop) (hD : H D = none) (h0 : R 0 [] (upd H D (.lst [])))
    (hs : ∀ i ys Hi, i < n → ys.length ≤ i → Same H Hi → Hi D = some (.lst ys) → R i ys Hi → tc (some (.int (lo + i)) :: caps) Hi fun b H4 => if b = true then te (some (.int (lo + i)) :: caps) H4 fun v H5 => ∃ zs, H5 D = some (.lst zs) ∧ zs.length < sizeLine ∧ CompAt H D caps R (i + 1) (some (.int (lo + i)) :: caps) (upd H5 D (.lst (zs ++ [v])))
      else CompAt H D caps R (i + 1) (some (.int (lo + i)) :: caps) H4)
    (hd : ∀ ys Hf, Same H Hf → Hf D = some (.lst ys) → ys.length ≤ n → R n ys Hf → Q Hf) : cTurns D (Itr lo n) (gName 0) tc te (none :: caps) H Q := by
  refine turns_range (CompAt H D caps R) ⟨[], none, rfl, same_upd hD (Same.refl H), upd_same, Nat.le_refl _, h0⟩ ?_ ?_
  · rintro i σ Hi hi ⟨ys, c, rfl, s, hY, hl, r⟩
    exact hs i ys Hi hi hl s hY r
  · rintro σ Hf ⟨ys, c, rfl, s, hY, hl, r⟩
    exact hd ys Hf s hY hl r
def clsV : V → Option Value
  | .ty n => some (.type n)
  | .ref a => some (.ref a)
  | _ => none
section
variable {X : Cx}
def rIsi (K : PySem.W.Frag) : List V → Hp → VK → Prop := fun xs H Q => ∃ (x c : V) (t u : Value) (b : Bool), xs = [x, c] ∧ clsV c = some u ∧ TyOf K H x t ∧ PySem.W.kitOne K t u = some b ∧ Q (.bl b) H
theorem call_isi : CallR X (.builtin "isinstance") (rIsi X.K) := by
  intro pins s σ H xs us Q I r h
  obtain ⟨x, c, t, u, b, rfl, hc, ty, e, q⟩ := h
  obtain ⟨u1, u2, rfl, r1, r2⟩ := vals2 r
  have e2 : u2 = u := by
    cases c with
    | ty n => cases (show u2 = Value.type n from r2); exact Option.some.inj hc
    | ref a => cases (show u2 = Value.ref a from r2); exact Option.some.inj hc
    | _ => cases hc
  subst e2
  exact isinst_ok I r1 ty e fun tk => ⟨.bl b, H, I.tok _, rfl, q⟩
end
theorem kit_same {K : PySem.W.Frag} (n : String) : PySem.W.kitOne K (.type n) (.type n) = some true := by
  unfold PySem.W.kitOne
  rw [if_pos (beq_self_eq_true _)]
theorem kit_int_bool {K : PySem.W.Frag} : PySem.W.kitOne K (.type "int") (.type "bool") = some false := by kernel_rfl
def eqs (xs ys : List V) : Bool := (List.range (min xs.length ys.length)).all (fun j => eqV (xs.getD j .non) (ys.getD j .non)) && xs.length == ys.length
theorem eqV_refl {x : V} (h : flatV x = true) : eqV x x = true := by
  cases x with
  | non => rfl
  | bl b => show (b == b) = true; simp
  | int i => show (i == i) = true; simp
  | str z => show (z == z) = true; simp
  | _ => exact absurd (show false = true from h) Bool.false_ne_true
theorem eqs_refl {xs : List V} (h : xs.all flatV = true) : eqs xs xs = true := by
  unfold eqs
  rw [Bool.and_eq_true]
  refine ⟨?_, by simp⟩
  rw [List.all_eq_true]
  intro j hj
  have hj' : j < xs.length := by simpa using hj
  refine eqV_refl ?_
  rw [List.getD_eq_getElem?_getD, List.getElem?_eq_getElem hj']
  exact List.all_eq_true.mp h _ (List.getElem_mem hj')
theorem vals_getD {xs : List V} {us : List Value} (r : Vals xs us) {j : Nat} (h : j < us.toArray.size) : RelV (xs.getD j .non) us.toArray[j] := by
  have hj : j < us.length := by simpa using h
  have hx : j < xs.length := by rw [r.length]; exact hj
  obtain ⟨u, e, q⟩ := r.get (List.getElem?_eq_getElem hx)
  rw [List.getElem?_eq_getElem hj] at e
  have e' := Option.some.inj e
  rw [List.getD_eq_getElem?_getD, List.getElem?_eq_getElem hx]
  show RelV xs[j] us.toArray[j]
  rw [List.getElem_toArray, e']
  exact q
theorem flat_getD {xs : List V} (h : xs.all flatV = true) {j : Nat} (hj : j < xs.length) : flatV (xs.getD j .non) = true := by
  rw [List.getD_eq_getElem?_getD, List.getElem?_eq_getElem hj]
  exact List.all_eq_true.mp h _ (List.getElem_mem hj)
section
variable {X : Cx}
end
end L2
namespace L2
open PySem PySem.Spec PyProof.Rows
def flatR : V → Bool
  | .ref _ => true
  | x => flatV x
theorem eqAt_same {A : Around} {s : Shared} {x : V} {u v : Value} (ru : RelV x u) (rv : RelV x v) (f : flatR x = true) : SeqAt.EqAt A s u v true := by
  cases x with
  | ref a =>
    cases ru
    cases rv
    exact SeqAt.EqAt.same _
  | non => have := eqAt_V (A := A) (s := s) ru rv rfl rfl; rwa [eqV_refl (x := .non) rfl] at this
  | bl b => have := eqAt_V (A := A) (s := s) ru rv rfl rfl; rwa [eqV_refl (x := .bl b) rfl] at this
  | int i => have := eqAt_V (A := A) (s := s) ru rv rfl rfl; rwa [eqV_refl (x := .int i) rfl] at this
  | str z => have := eqAt_V (A := A) (s := s) ru rv rfl rfl; rwa [eqV_refl (x := .str z) rfl] at this
  | _ => exact absurd (show false = true from f) Bool.false_ne_true
section
variable {X : Cx}
def rNeLS (K : PySem.W.Frag) : R2 := fun x y H Q => ∃ a b xs, x = .ref a ∧ y = .ref b ∧ SqL K H a xs ∧ SqL K H b xs ∧ xs.all flatR = true ∧ Q (.bl false) H
theorem op_neL (hu : X.A.units < cLine) : OpR X (compareOp .NotEq) (rNeLS X.K) := by
  intro pins s σ H x y v u Q I rx ry h
  obtain ⟨a, b, xs, rfl, rfl, ha, hb, fx, q⟩ := h
  cases rx
  cases ry
  obtain ⟨its, r, pl, hz⟩ := I.list ha
  obtain ⟨its2, r2, pl2, hz2⟩ := I.list hb
  have hl := r.length
  have hl2 := r2.length
  refine SeqAt.RcNeAt.lists (e := fun _ => true) pl.isList pl2.isList (by rw [List.size_toArray, List.size_toArray, ← hl, hl2]) hu (fun j h1 h2 => ?_) X.prog X.w X.xe _ ⟨.bl _, H, I, rfl, ?_⟩
  · refine eqAt_same (vals_getD r h1) (vals_getD r2 h2) ?_
    have hj : j < xs.length := by rw [hl]; simpa using h1
    rw [List.getD_eq_getElem?_getD, List.getElem?_eq_getElem hj]
    exact List.all_eq_true.mp fx _ (List.getElem_mem hj)
  · have e : (!(List.range its.toArray.size).all fun _ => true) = false := by simp
    rw [e]
    exact q
end
end L2
namespace L2
open PySem PySem.Spec PyProof.Rows
section
variable {X : Cx} (K : PySem.W.Frag)
end
end L2
namespace L2
open PySem PySem.Spec PyProof.Rows
section
variable {X : Cx}
end
end L2
namespace L2
open PySem PySem.Spec PyProof.Rows
section
variable {X : Cx}
def tCut (t u : TS) : TS := fun D σ H => ∃ P : St → Hp → Prop, t { D with nx := P } σ H ∧ ∀ σ' H', P σ' H' → u D σ' H'
theorem pss_cut {st : Stmt} {rest : List Stmt} {t u : TS} (h1 : PS X st t) (h2 : PSs X rest u) : PSs X (st :: rest) (tCut t u) := by
  intro pins s σ H D I h
  obtain ⟨P, hP, hu⟩ := h
  refine wpAny_execs_cons (thn (h1 pins s σ H { D with nx := P } I hP) fun f s1 q => ?_)
  cases f with
  | next =>
    obtain ⟨σ', H', I', q⟩ := q
    exact h2 pins s1 σ' H' D I' (hu σ' H' q)
  | ret v => exact q
  | brk => exact q
  | cont => exact q
end
end L2
namespace L2
open PySem PySem.Spec PyProof.Rows
structure Def (P : Program) (w : World) (K : PySem.W.Frag) (mg : Str → Option Value) (base : Heap) (k : Nat) (x : Str) (ps : List Str) (dvs : List V) (sp : Sp) : Prop where
  ex : ∃ (f : Addr) (fd : FuncData) (ds : List Value), FnOk P w K mg base CX0 k f fd ps sp ∧ mg x = some (.ref f) ∧ PySem.W.keepIn K (.ref f) = true ∧ Vals dvs ds ∧ Binds K fd ps ds
theorem pe_def {X : Cx} {k k' : Nat} {x : Str} {ps : List Str} {dvs : List V} {sp : Sp} {p pos : Pos} {e : Expr} {es : List Expr} {t : TA} (F : Def X.prog X.w X.K X.mg X.base k x ps dvs sp) (hr : Room k' X.A) (hg : Gl X x) (ha : PA X (e :: es) t)
    (hk : k ≤ k' := by decide) (hdb : (x == ("__debug__" : Str)) = false := by decide) (he : starEach (e :: es) X.env = (false, eval e X.env) :: starEach es X.env := by rfl) (hpl : (backTo pos (starEach es X.env)).any (·.1) = false := by rfl) :
    PE X (.Call (.Name x p) (e :: es) [] pos) (tCall sp dvs E0 t) := by
  obtain ⟨f, fd, ds, G, m, kp, hv, b⟩ := F.ex
  exact pe_call G (hr.mono hk) hg m kp b hv pass0 ha hdb he hpl
structure FunD (K : PySem.W.Frag) (x qual : Str) (st : Stmt) (f : Addr) (fd : FuncData) (ds : List Value) : Prop where
  ex : ∃ (oc : Value) (od : Option Addr) (T : Addr) (kV doc pm : Value) (an : Option Addr) (cdv ct : Value) (osl : Array (Option Value)) (oT : Obj) (n : Nat),
    fd = PySem.W.fnOf x qual (defArgs st) (defBody st) (defScope st) (.ref T) kV doc pm an cdv ct ∧ K.lookup f = some ⟨oc, od, .func fd, osl⟩ ∧ PySem.W.codeIn K cdv qual = true ∧ K.lookup T = some oT ∧ oT.data = .seq ds.toArray n
  kp : PySem.W.keepIn K (.ref f) = true
section
variable {P : Program} {w : World} {K : PySem.W.Frag} {mg : Str → Option Value} {base : Heap}
theorem FunD.ok {x qual : Str} {st : Stmt} {f : Addr} {fd : FuncData} {ds : List Value} {N ps : List Str} {k : Nat} {sp : Sp} (F : FunD K x qual st f fd ds) (S : FnScope N ps (defScope st)) (len : ∀ vs H Q E, sp vs H Q E → vs.length = ps.length)
    (hbody : ∀ (cdv : Value) (A : Around) (outer : List Env) (s : Shared) (H : Hp) (vs : List V) (Q : VK) (E : XK), Room k (A.deeper (envOfC qual (defScope st) s.heap.objs.size f cdv)) → sp vs H Q E →
      ∃ t, PSs (cxOf CX0 P w K mg base N qual (defScope st) f cdv A outer s H E).nox (defBody st) t ∧ t { nx := fun _ H' => Q .non H', rt := Q } (start N vs) H) : FnOk P w K mg base CX0 (k + 1) f fd ps sp := by
  obtain ⟨oc, od, T, kV, doc, pm, an, cdv, ct, osl, oT, n, rfl, lk, hcd, _, _⟩ := F.ex
  refine fn_of lk hcd S len fun A outer s H vs Q E hr hsp => ?_
  obtain ⟨t, h, q⟩ := hbody cdv A outer s H vs Q E hr hsp
  exact ⟨t, h.nox, q⟩
theorem FunD.binds {x qual : Str} {st : Stmt} {f : Addr} {fd : FuncData} {ds : List Value} {ps : List Str} (ds' : List Value) (m : Nat) (hm : m + ds'.length = ps.length) (F : FunD K x qual st f fd ds)
    (h : ∀ (T : Addr) (kV doc pm : Value) (an : Option Addr) (cdv ct : Value) (us : List Value), us.length = m → ∃ k, bindArgs (PySem.W.fnOf x qual (defArgs st) (defBody st) (defScope st) (.ref T) kV doc pm an cdv ct) ⟨us, []⟩ = seqItems? (.ref T) >>= k ∧
      k (some ds.toArray) = pure (ps.zip (us ++ ds'))) : Binds K fd ps ds' := by
  obtain ⟨oc, od, T, kV, doc, pm, an, cdv, ct, osl, oT, n, rfl, lk, hcd, lT, dT⟩ := F.ex
  intro s us hK hl
  obtain ⟨k, h1, h2⟩ := h T kV doc pm an cdv ct us (by rw [List.length_append] at hl; omega)
  exact BindsTo.of_defaults rfl (hK _ _ lT) dT h1 h2
theorem funD_mk {x qual : Str} {st : Stmt} {f T : Addr} {oc : Value} {od an : Option Addr} {osl : Array (Option Value)} {kV doc pm cdv ct : Value} {oT : Obj} {n : Nat} {ds : List Value}
    (l : K.lookup f = some ⟨oc, od, .func (PySem.W.fnOf x qual (defArgs st) (defBody st) (defScope st) (.ref T) kV doc pm an cdv ct), osl⟩)
    (c : PySem.W.codeIn K cdv qual = true) (k : PySem.W.keepIn K (.ref f) = true) (lT : K.lookup T = some oT) (dT : oT.data = .seq ds.toArray n) : FunD K x qual st f (PySem.W.fnOf x qual (defArgs st) (defBody st) (defScope st) (.ref T) kV doc pm an cdv ct) ds :=
  ⟨⟨oc, od, T, kV, doc, pm, an, cdv, ct, osl, oT, n, rfl, l, c, lT, dT⟩, k⟩
end
section
variable {X : Cx}
end
end L2
namespace L2
open PySem
theorem iteNT {c A B : Prop} [Decidable c] (hc : ¬ c) (h : A) : if (!decide c) = true then A else B := by
  rw [decide_eq_false hc]
  exact iteT h
theorem iteDF {c A B : Prop} [Decidable c] (hc : ¬ c) (h : B) : if decide c = true then A else B := by
  rw [decide_eq_false hc]
  exact iteF h
theorem iteDT {c A B : Prop} [Decidable c] (hc : c) (h : A) : if decide c = true then A else B := by
  rw [decide_eq_true hc]
  exact iteT h
end L2
namespace L2
open PySem PySem.Spec PyProof.Rows
end L2
namespace L2
open PySem PySem.Spec PyProof.Rows
structure MkD (P : Program) (w : World) (K : PySem.W.Frag) (mg : Str → Option Value) (base : Heap) (k : Nat) (x : Str) (C : Addr) (ps : List Str) (sp : Sp) : Prop where
  ex : mg x = some (.ref C) ∧ ∃ (f : Addr) (fd : FuncData), Mk K C f ∧ FnOk P w K mg base CX0 k f fd ps sp ∧ Binds K fd ps []
section
variable {X : Cx} {k k' : Nat} {x m : Str} {C : Addr} {ps : List Str} {sp : Sp} {p pos apos : Pos} {o e : Expr} {es : List Expr} {ta : TE} {t : TA}
theorem pe_mk (M : MkD X.prog X.w X.K X.mg X.base k x C ps sp) (hr : Room k' X.A) (hg : Gl X x) (ha : PA X (e :: es) t)
    (hk : k + 1 ≤ k' := by decide) (hdb : (x == ("__debug__" : Str)) = false := by decide) (he : starEach (e :: es) X.env = (false, eval e X.env) :: starEach es X.env := by rfl) (hpl : (backTo pos (starEach es X.env)).any (·.1) = false := by rfl) :
    PE X (.Call (.Name x p) (e :: es) [] pos) (tMake C sp [] E0 t) := by
  obtain ⟨hm, f, fd, M, G, b⟩ := M.ex
  exact pe_make M G (hr.mono hk) hg hm b .nil pass0 ha hdb he hpl
end
end L2
namespace L2
open PySem PySem.Spec PyProof.Rows
structure ClsM (K : PySem.W.Frag) (C : Addr) (m : Str) (f : Addr) : Prop where
  sp : PySem.W.specialIn K (.ref C) "__getattribute__" = some (some (.builtin "type.__getattribute__"))
  rd : PySem.W.readsIn K C (.type "type") = true
  fc : PySem.W.findCls K (.ref C) (.type "type") m = some (.val (.ref f))
  kp : PySem.W.keepIn K (.ref f) = true
structure CmD (P : Program) (w : World) (K : PySem.W.Frag) (mg : Str → Option Value) (base : Heap) (k : Nat) (x : Str) (C : Addr) (m : Str) (ps : List Str) (sp : Sp) : Prop where
  ex : mg x = some (.ref C) ∧ ∃ (f : Addr) (fd : FuncData), ClsM K C m f ∧ FnOk P w K mg base CX0 k f fd ps sp ∧ Binds K fd ps []
theorem pe_clsm {X : Cx} {k k' : Nat} {x m : Str} {C : Addr} {ps : List Str} {sp : Sp} {p pos apos : Pos} {e : Expr} {es : List Expr} {t : TA} {pl : Sem Bool} (M : CmD X.prog X.w X.K X.mg X.base k x C m ps sp) (hr : Room k' X.A) (hg : Gl X x) (ha : PA X (e :: es) t) (hk : k ≤ k' := by decide)
    (hdb : (x == ("__debug__" : Str)) = false := by decide) (hst : starEach (e :: es) X.env = (false, eval e X.env) :: starEach es X.env := by rfl) (hpl : (backTo pos (starEach es X.env)).any (·.1) = false := by rfl)
    (ht : eval (.Call (.Attribute (.Name x p) m apos) (e :: es) [] pos) X.env = (do
      let ov ← eval (.Name x p) X.env
      standAt apos.atName
      let (f, first) ← holding [ov] (getMethod ov m pl)
      callWith pos f first (backTo pos (starEach (e :: es) X.env)) (backToKw pos (keywordEach [] X.env))) := by rfl) :
    PE X (.Call (.Attribute (.Name x p) m apos) (e :: es) [] pos) (tCall sp [] E0 t) := by
  obtain ⟨hm, f, fd, c, G, b⟩ := M.ex
  intro pins s σ H Q I h
  refine PySem.W.methodCall_KW (pl := pl) (thn ((pe_glob (v := .ref C) hg hm rfl hdb : PE X (.Name x p) (tC (.ref C))) pins s σ H (fun v H1 => v = .ref C ∧ H1 = H) I ⟨rfl, rfl⟩) fun u s1 ⟨v, H1, I1, rv, e1, e2⟩ => ?_) ht
  subst e1 e2
  obtain rfl : u = Value.ref C := rv
  refine PySem.W.method_cls I1.kIn c.sp (PySem.W.cls_value I1.kIn c.rd c.fc rfl ?_)
  have I2 := I1.tok (s1.toks + 1)
  refine PySem.W.callWith_K (first := []) (h₀ := X.base) I.ok.mod.kin c.kp (thn (ha pos pins _ σ H1 _ I2 h) fun us s2 ⟨vs, H2, I3, r, q2⟩ => ⟨I3.kIn, ?_⟩) hst hpl
  exact run_fn (us := us) (vs := vs) G (hr.mono hk) b .nil pass0 I3 r q2
end L2
namespace L2
open PySem PySem.Spec PyProof.Rows
section
variable {X : Cx}
end
end L2
namespace L2
open PySem PySem.Spec PyProof.Rows
section
variable {X : Cx}
end
end L2
namespace L2
open PySem PySem.Spec PyProof.Rows
end L2
namespace L2
open PySem PySem.Spec PyProof.Rows
section
variable {P : Program} {w : World} {H : Hp} {h h' : Heap} {a : Addr} {o : HO}
theorem ObjOk.there (x : ObjOk P w H h a o) : ∃ u, h.get? a = some u := by
  cases o with
  | lst xs => obtain ⟨_, _, _, _, e⟩ := x; exact ⟨_, e⟩
  | tup xs => obtain ⟨_, _, _, o, e, _⟩ := x; exact ⟨_, e⟩
  | dK kvs => obtain ⟨_, _, _, _, o, _, _, e, _⟩ := x; exact ⟨_, e⟩
  | dT kvs => obtain ⟨_, _, _, _, o, _, _, e, _⟩ := x; exact ⟨_, e⟩
  | set S n => obtain ⟨o, _, _, _, e, _⟩ := x; exact ⟨_, e⟩
  | ins C dx fs => obtain ⟨_, _, _, e, _⟩ := x; exact ⟨_, e⟩
  | own y => obtain ⟨_, e⟩ := x; exact ⟨_, e⟩
  | xd fs => obtain ⟨_, ⟨_, _, _, e, _⟩, _⟩ := x; exact ⟨_, e⟩
  | rng lo hi => obtain ⟨_, _, _, e⟩ := x; exact ⟨_, e⟩
  | frz ob u => obtain ⟨e, _⟩ := x; exact ⟨_, e⟩
  | tbl ps => exact ⟨_, (show h.get? a = some _ from x)⟩
  | met f y => exact ⟨_, (show h.get? a = some _ from x)⟩
  | ext φ => obtain ⟨_, e, _⟩ := x; exact e
theorem HOk.there (x : HOk P w H h) (e : H a = some o) : ∃ u, h.get? a = some u := (x a o e).there
theorem HOk.keepT (x : HOk P w H h) (k : ∀ b u, H b ≠ none → h.get? b = some u → h'.get? b = some u) : HOk P w H h' := fun a o e =>
  (x a o e).stay (fun b u hb q => k b u (by
    rcases hb with rfl | hb
    · rw [e]; exact fun z => nomatch z
    · rw [hb]; exact fun z => nomatch z) q) (fun _ q => q) fun _ _ q => q
end
theorem Un.go {fs ex : List Addr} {H H1 : Hp} {h0 h h' : Heap} (u : Un fs ex H H1 h0 h) (k : ∀ b o, h.get? b = some o → b ∉ fs → b ∉ ex → (∃ o', h0.get? b = some o') → h'.get? b = some o)
    (ks : ∀ b o, h.get? b = some o → b ∈ fs → (∃ o', h0.get? b = some o') → ∃ sl, h'.get? b = some { o with slots := sl }) : Un fs ex H H1 h0 h' where
  keep := fun b o q n hb hx => k b o (u.keep b o q n hb hx) hb hx ⟨o, q⟩
  slot := fun b o q n hb hx => by
    obtain ⟨sl, e⟩ := u.slot b o q n hb hx
    obtain ⟨sl', e'⟩ := ks b _ e hb ⟨o, q⟩
    exact ⟨sl', e'⟩
  free := u.free
  there := fun b o q hx => by
    obtain ⟨o', e⟩ := u.there b o q hx
    by_cases hb : b ∈ fs
    · obtain ⟨sl, e'⟩ := ks b o' e hb ⟨o, q⟩
      exact ⟨_, e'⟩
    · exact ⟨o', k b o' e hb hx ⟨o, q⟩⟩
  tups := u.tups
  frzs := u.frzs
  tbls := u.tbls
def Fly (fr : List Env) (Z : Addr → Prop) (h : Heap) (a C : Addr) : Prop :=
  ∃ (B : Heap) (a0 : Value), Heap.FlyingW B fr a (.ref C) a0 h ∧ ∀ b o, h.get? b = some o → b ∉ frs fr → Z b → B.get? b = some o
def CXE (P : Program) (w : World) : CXT := fun outer H s E e s' => ∃ (a C : Addr) (H' : Hp), e = .ref a ∧ s'.os = s.os ∧ AllBare s'.gens ∧ Un (frs outer) [] H H' s.heap s'.heap ∧ HOk P w H' s'.heap ∧
  Fly outer (fun b => H' b ≠ none ∨ ∃ o', s.heap.get? b = some o') s'.heap a C ∧ H' a = none ∧ s.heap.get? a = none ∧ E (.ref C) none H'
def Throws (X : Cx) (R : St → Value → Hp → Prop) : Prop := ∀ pins σ H s e h' C vs, Inv X pins σ H s → Heap.MadeExcOf s.heap h' e (.ref C) vs → R σ (.ref C) H → X.xe (.ref e) { s with heap := h' }
def Hears (X : Cx) (R : St → Value → Hp → Prop) : Prop := ∀ pins σ H s e s', Inv X pins σ H s → CXE X.prog X.w X.stack H s (fun c _ H' => R σ c H') e s' → X.xe e s'
theorem throws_cx {P : Program} {w : World} {K : PySem.W.Frag} {mg : Str → Option Value} {base : Heap} {N : List Str} {qual : Str} {scope : Scope} {f : Addr} {cd : Value} {A : Around} {outer : List Env} {s : Shared} {H : Hp} {E : XK} :
    Throws (cxOf (CXE P w) P w K mg base N qual scope f cd A outer s H E) (fun _ c H' => E c none H') := by
  intro pins σ H1 s1 e h' C vs I hx q
  have hin : ∀ env ∈ (envOfC qual scope s.heap.objs.size f cd :: outer), ∀ b, env.frame = some b → b ∈ frs (envOfC qual scope s.heap.objs.size f cd :: outer) := fun env he b hb => List.mem_filterMap.mpr ⟨env, he, hb⟩
  have hst : s1.heap.FunFrames base (envOfC qual scope s.heap.objs.size f cd :: outer) := I.stack
  have hfrees : ∀ b ∈ frs (envOfC qual scope s.heap.objs.size f cd :: outer), H1 b = none := I.stkFree
  have hfs : frs (envOfC qual scope s.heap.objs.size f cd :: outer) = s.heap.objs.size :: frs outer := rfl
  have ub : Un (frs outer) [] H H1 s.heap s1.heap := I.base
  have hno : s1.heap.get? e = none := hx.new
  show wpAny (model P w) (A.deeper (envOfC qual scope s.heap.objs.size f cd)) (leaving (envOfC qual scope s.heap.objs.size f cd) (.ref e)) (fun _ s'' => CXE P w outer H s E (.ref e) s'') (fun e' s'' => CXE P w outer H s E e' s'') { s1 with heap := h' }
  refine wpAny_leaves_madeW (base := PySem.W.hideAll s1.heap (frs (envOfC qual scope s.heap.objs.size f cd :: outer))) I.ok.frames rfl (fun b o q => PySem.W.of_hideAll _ q) (PySem.W.funFrames_hide hst hin) hx fun h2 t fl _ _ up => ?_
  dsimp only at up
  have keep : ∀ b o, s1.heap.get? b = some o → b ∉ frs (envOfC qual scope s.heap.objs.size f cd :: outer) → (PySem.W.hideAll s1.heap (frs (envOfC qual scope s.heap.objs.size f cd :: outer))).get? b = some o := fun b o q n => PySem.W.hideAll_get _ q n
  have old : ∀ b, (∃ o', s.heap.get? b = some o') → b ∉ frs outer → b ∉ frs (envOfC qual scope s.heap.objs.size f cd :: outer) := fun b ⟨o', q⟩ n z => by
    rw [hfs] at z
    rcases List.mem_cons.mp z with z | z
    · exact absurd (Heap.lt_size q) (by rw [z]; exact Nat.lt_irrefl _)
    · exact n z
  have trk : ∀ b, H1 b ≠ none → b ∉ frs (envOfC qual scope s.heap.objs.size f cd :: outer) := fun b hb z => hb (hfrees b z)
  refine ⟨e, C, H1, rfl, I.os, I.bare, ub.go (fun b o q n _ z => fl.1 b o (keep b o q (old b z n))) (fun b o q n _ => ?_), I.hok.keepT fun b u hb q => fl.1 b u (keep b u q (trk b hb)), ?_, ?_, ?_, q⟩
  · obtain ⟨_, o', ho', hd⟩ := hst.mem (show b ∈ frs (envOfC qual scope s.heap.objs.size f cd :: outer) from by rw [hfs]; exact List.mem_cons_of_mem _ n)
    rw [q] at ho'; cases ho'
    exact up b o (hx.keeps b o q) hd
  · refine ⟨_, _, fl, fun b o q n z => ?_⟩
    have hn : b ∉ frs (envOfC qual scope s.heap.objs.size f cd :: outer) := by
      rcases z with z | z
      · exact trk b z
      · exact old b z n
    have h1 : ∃ u, s1.heap.get? b = some u := by
      rcases z with z | ⟨o', z⟩
      · cases r : H1 b with
        | none => exact absurd r z
        | some v => exact I.hok.there r
      · exact ub.there b o' z (by simp)
    obtain ⟨u, hu⟩ := h1
    have hB := keep b u hu hn
    have := fl.1 b u hB
    have q' : h2.get? b = some o := q
    rw [q'] at this
    cases this
    exact hB
  · cases r : H1 e with
    | none => rfl
    | some v =>
      obtain ⟨u, hu⟩ := I.hok.there r
      rw [hno] at hu; cases hu
  · cases r : s.heap.get? e with
    | none => rfl
    | some v =>
      obtain ⟨u, hu⟩ := ub.there e v r (by simp)
      rw [hno] at hu; cases hu
end L2
namespace L2
open PySem PySem.Spec PyProof.Rows
theorem exc_obj {K : PySem.W.Frag} {h : Heap} {C : Addr} {bmB : List Value} {newId : String} (X : K.In h) (q : PySem.W.excIn K C bmB newId = true) :
    ∃ bm N nm qn bs hdct sn sub ab col dd k0 k1 k2 k3 k5 mN, K.lookup C = some (excClassObj nm qn C N bs bm hdct sn sub ab col dd k0 k1 k2 k3 k5 newId) ∧ h.get? C = some (excClassObj nm qn C N bs bm hdct sn sub ab col dd k0 k1 k2 k3 k5 newId) ∧ h.Ns N mN ∧ mN "__init__" = none ∧ OwnTail h bmB bm := by
  unfold PySem.W.excIn at q
  split at q
  · rename_i dd cd sl ho
    split at q
    · rename_i C' bm k0 k1 k2 k3 n k5 hm hs
      simp only [Bool.and_eq_true, beq_iff_eq, Bool.not_eq_true'] at q
      obtain ⟨⟨⟨⟨⟨rfl, rfl⟩, hdel⟩, ht⟩, hok⟩, hni⟩ := q
      obtain ⟨nm, bs, mro, ns, qn, hd, sn, sub, ab, col, del⟩ := cd
      dsimp only at hm hdel hok hni
      subst hm hdel
      have hsl : sl = #[k0, k1, k2, k3, some (.builtin n), k5] := by
        obtain ⟨l⟩ := sl
        simp only at hs
        rw [hs]
      subst hsl
      exact ⟨bm, ns, nm, qn, bs, hd, sn, sub, ab, col, dd, k0, k1, k2, k3, k5, _, ho, X _ _ ho, .of_isNs (PySem.W.isNs_of_in X hok), PySem.W.nsMap_none_of_in X hok hni, PySem.W.tail_of_in X ht⟩
    · cases q
  · cases q
abbrev mroV : List Value := [.type "ValueError", .type "Exception", .type "BaseException", .type "object"]
def ExcC (K : PySem.W.Frag) (C : Addr) : Prop := PySem.W.excIn K C mroV "ValueError.__new__" = true
section
variable {X : Cx} {R : St → Value → Hp → Prop} {x : Str} {C : Addr} {np cpos pos p : Pos} {e : Expr} {es : List Expr} {t : TA}
theorem ps_raise (hx : Throws X R) (hcalm : X.calm = true) (hg : Gl X x) (hm : X.mg x = some (.ref C)) (hc : ExcC X.K C) (ha : PA X (e :: es) t) (hdb : (x == ("__debug__" : Str)) = false := by decide)
    (he : starEach (e :: es) X.env = (false, eval e X.env) :: starEach es X.env := by rfl) (hpl : (backTo cpos (starEach es X.env)).any (·.1) = false := by rfl) :
    PS X (.Raise (some (.Call (.Name x np) (e :: es) [] cpos)) none pos) (fun _ σ H => t σ H fun vs H1 => vs.length ≤ sizeLine ∧ R σ (.ref C) H1) := by
  intro pins s σ H D I h
  obtain ⟨tl, N, nm, q, bs, hdct, sn, sub, ab, col, dd, k0, k1, k2, k3, k5, mN, _, hC, hN, hni, T⟩ := exc_obj I.ok.mod.kin hc
  refine wpAny_Raise_call_subT (C := C) (nm := nm) (q := q) (N := N) (bs := bs) (bm := tl) (hdct := hdct) (sn := sn) (sub := sub) (ab := ab) (col := col) (dd := dd) (k0 := k0) (k1 := k1) (k2 := k2) (k3 := k3) (k5 := k5)
    PySem.F.excBase_ValueError (mN := mN) (T.hasType PySem.F.excBase_ValueError.hasBase) (I.ok.hd hcalm) (by rw [he]; show (false || (backTo cpos (starEach es X.env)).any (·.1)) = false; rw [hpl]; rfl) hni (ld_glob I hg hm ⟨rfl, ?_⟩ hdb)
  have h1 := ha cpos pins s σ H _ I h
  rw [he] at h1 ⊢
  refine Calls.evalArgs_plain (wpAny_mono h1 (fun us s2 ⟨vs, H2, I2, r2, hl, q2⟩ => ⟨rfl, by rw [← r2.length]; exact hl, I2.bk _ _ hC, hN.keeps I2.bk, T.keeps I2.bk, fun h' a hm => hx pins σ H2 s2 a h' C us I2 hm q2⟩) fun _ _ y => y)
def tCallX (sp : Sp) (dvs : List V) (R : St → Value → Hp → Prop) (t : TA) : TE := fun σ H Q => t σ H fun vs H1 => sp (vs ++ dvs) H1 Q (fun c _ H' => R σ c H')
theorem run_fnX {k : Nat} {f : Addr} {fd : FuncData} {ps : List Str} {sp : Sp} {dvs : List V} {ds : List Value} {pins : List (Addr × Obj)} {σ : St} {H : Hp} {s : Shared} {Q : VK} {us : List Value} {vs : List V} (F : FnOk X.prog X.w X.K X.mg X.base (CXE X.prog X.w) k f fd ps sp) (hr : Room k X.A) (hb : Binds X.K fd ps ds) (hd : Vals dvs ds) (hx : Hears X R)
    (I : Inv X pins σ H s) (r : Vals vs us) (h : sp (vs ++ dvs) H Q (fun c _ H' => R σ c H')) : wpAny (model X.prog X.w) X.A (call (.ref f) us) (EP X pins σ Q) X.xe s := by
  have r2 : Vals (vs ++ dvs) (us ++ ds) := r.append hd
  have hl : (us ++ ds).length = ps.length := by rw [← r2.length]; exact F.len _ _ _ _ h
  refine wpAny_call (codeAny_mono (F.run X.A X.stack s H ⟨us, []⟩ (us ++ ds) (vs ++ dvs) Q _ hr I.env0 (hb s us I.kIn hl) r2 h) fun r s' hq => ?_)
  cases r with
  | error e => exact hx pins σ H s e s' I hq
  | ok fl =>
    cases fl with
    | ret u => exact I.after hq
    | next => exact False.elim hq
    | brk => exact False.elim hq
    | cont => exact False.elim hq
end
structure DefX (P : Program) (w : World) (K : PySem.W.Frag) (mg : Str → Option Value) (base : Heap) (k : Nat) (x : Str) (ps : List Str) (dvs : List V) (sp : Sp) : Prop where
  ex : ∃ (f : Addr) (fd : FuncData) (ds : List Value), FnOk P w K mg base (CXE P w) k f fd ps sp ∧ mg x = some (.ref f) ∧ PySem.W.keepIn K (.ref f) = true ∧ Vals dvs ds ∧ Binds K fd ps ds
theorem pe_defX {X : Cx} {R : St → Value → Hp → Prop} {k k' : Nat} {x : Str} {ps : List Str} {dvs : List V} {sp : Sp} {p pos : Pos} {e : Expr} {es : List Expr} {t : TA} (F : DefX X.prog X.w X.K X.mg X.base k x ps dvs sp) (hx : Hears X R) (hr : Room k' X.A) (hg : Gl X x) (ha : PA X (e :: es) t)
    (hk : k ≤ k' := by decide) (hdb : (x == ("__debug__" : Str)) = false := by decide) (he : starEach (e :: es) X.env = (false, eval e X.env) :: starEach es X.env := by rfl) (hpl : (backTo pos (starEach es X.env)).any (·.1) = false := by rfl) :
    PE X (.Call (.Name x p) (e :: es) [] pos) (tCallX sp dvs R t) := by
  obtain ⟨f, fd, ds, G, m, kp, hv, b⟩ := F.ex
  intro pins s σ H Q I h
  refine wpAny_Call_Name_kw (ld_glob I hg m ?_ hdb)
  refine PySem.W.callWith_K (h₀ := X.base) I.ok.mod.kin kp (thn (ha pos pins s σ H _ I h) fun us s1 ⟨vs, H1, I1, r, q⟩ => ⟨I1.kIn, ?_⟩) he hpl
  exact run_fnX G (hr.mono hk) b hv hx I1 r q
def Apart (X : Cx) (pins : List (Addr × Obj)) (a : Addr) : Prop := X.s₀.heap.get? a = none ∧ a ≠ X.env.locals ∧ (∀ x c, X.env.cells.lookup x = some c → c ≠ a) ∧ ∀ p ∈ X.pn ++ pins, p.1 ≠ a
def tryCx (X : Cx) (pins : List (Addr × Obj)) (R : St → Value → Hp → Prop) : Cx := { X with
  pn := X.pn ++ pins
  xe := fun e s' => ∃ (a C : Addr) (σ' : St) (H' : Hp), e = .ref a ∧ Inv X pins σ' H' s' ∧ Fly X.stack (fun b => H' b ≠ none ∨ (∃ o, X.s₀.heap.get? b = some o) ∨ ∃ p ∈ X.pn ++ pins, p.1 = b) s'.heap a C ∧ H' a = none ∧ Apart X pins a ∧ R σ' (.ref C) H' }
theorem Cx.Ok.intoTry {X : Cx} {pins : List (Addr × Obj)} {R : St → Value → Hp → Prop} (ok : X.Ok) : (tryCx X pins R).Ok :=
  ⟨ok.mod, ok.kind, ok.glob, ok.blt, ok.above, ok.inj, ok.has, ok.cab, ok.hd, ok.frames, ok.stk, ok.exf, ok.bs, ok.bsz, ok.noex, ok.exfs, ok.funs, ok.frf⟩
theorem Cx.Ok.outTry {X : Cx} {pins : List (Addr × Obj)} {R : St → Value → Hp → Prop} (ok : (tryCx X pins R).Ok) : X.Ok :=
  ⟨ok.mod, ok.kind, ok.glob, ok.blt, ok.above, ok.inj, ok.has, ok.cab, ok.hd, ok.frames, ok.stk, ok.exf, ok.bs, ok.bsz, ok.noex, ok.exfs, ok.funs, ok.frf⟩
section
variable {X : Cx} {pins pins' : List (Addr × Obj)} {σ : St} {H : Hp} {s : Shared} {R : St → Value → Hp → Prop}
theorem Inv.intoTry (I : Inv X pins σ H s) : Inv (tryCx X pins R) [] σ H s :=
  ⟨I.ok.intoTry, I.os, I.bare, I.base, I.loc, I.cell, I.free, I.freeC, fun p hp => I.pin p (by have hp' : p ∈ (X.pn ++ pins) ++ [] := hp; rw [List.append_nil] at hp'; exact hp'), I.hok, I.len⟩
theorem Inv.outTry (I : Inv (tryCx X pins R) pins' σ H s) : Inv X pins σ H s :=
  ⟨I.ok.outTry, I.os, I.bare, I.base, I.loc, I.cell, I.free, I.freeC, fun p hp => I.pin p (List.mem_append_left _ hp), I.hok, I.len⟩
theorem SP.outTry {D : Ends} {f : Flow} {s' : Shared} (h : SP (tryCx X pins R) [] D f s') : SP X pins D f s' := by
  cases f with
  | next => obtain ⟨σ', H', I, q⟩ := h; exact ⟨σ', H', I.outTry, q⟩
  | brk => obtain ⟨σ', H', I, q⟩ := h; exact ⟨σ', H', I.outTry, q⟩
  | cont => obtain ⟨σ', H', I, q⟩ := h; exact ⟨σ', H', I.outTry, q⟩
  | ret u => obtain ⟨v, σ', H', I, r, q⟩ := h; exact ⟨v, σ', H', I.outTry, r, q⟩
theorem hears_try (hex : X.ex = []) : Hears (tryCx X pins R) R := by
  intro pins' σ H1 s1 e s2 I hx
  obtain ⟨a, C, H2, rfl, os, bare, un, hok, ⟨B, a0, fl, ground⟩, ha, hs, q⟩ := hx
  have I0 : Inv X pins σ H1 s1 := I.outTry
  have J : Inv X pins σ H2 s2 := I0.call' (ch := []) os un hok bare fun b z => absurd z (by simp)
  refine ⟨a, C, σ, H2, rfl, J, ⟨B, a0, fl, fun b o q n z => ground b o q n ?_⟩, ha, ⟨?_, fun z => ?_, fun x c e z => ?_, fun p hp z => ?_⟩, q⟩
  · rcases z with z | ⟨o', z⟩ | ⟨p, hp, rfl⟩
    · exact .inl z
    · exact .inr (I0.base.there b o' z (by rw [hex]; simp))
    · exact .inr ⟨_, (I0.pin p hp).1⟩
  · cases r : X.s₀.heap.get? a with
    | none => rfl
    | some v =>
      obtain ⟨u, hu⟩ := I0.base.there a v r (by rw [hex]; simp)
      rw [hs] at hu; cases hu
  · obtain ⟨m, ⟨o, _, _, ho, _⟩, _⟩ := I0.loc
    rw [← z, hs] at ho; cases ho
  · obtain ⟨v, o, ho, _⟩ := I0.cell x c e
    rw [z, hs] at ho; cases ho
  · have ho := (I0.pin p hp).1
    rw [z, hs] at ho; cases ho
theorem Inv.fly {h' : Heap} (I : Inv X pins σ H s) (hstk : X.stack = X.env :: X.outer) (hf : X.env.frame = some X.env.locals)
    (k : ∀ b o, s.heap.get? b = some o → b ∉ frs X.stack → (H b ≠ none ∨ (∃ o, X.s₀.heap.get? b = some o) ∨ ∃ p ∈ X.pn ++ pins, p.1 = b) → h'.get? b = some o) (up : s.heap.UpToSlots h') : Inv X pins σ H { s with heap := h' } := by
  have hfs : frs X.stack = X.env.locals :: X.fs := by rw [hstk]; unfold frs; rw [List.filterMap_cons, hf]; rfl
  have cellK : ∀ c v, s.heap.IsCell c v → h'.IsCell c v := fun c v ⟨o, ho, hd⟩ => by
    obtain ⟨sl, e⟩ := up c o ho (fun vs q => by rw [hd] at q; cases q)
    exact ⟨_, e, hd⟩
  have trk : ∀ b, H b ≠ none → b ∉ frs X.stack := fun b hb z => hb (I.stkFree b z)
  refine ⟨I.ok, I.os, I.bare, I.base.go (fun b o q n _ z => k b o q (fun m => ?_) (.inr (.inl z))) (fun b o q n z => ?_), ?_, fun x c e => ?_, I.free, I.freeC, fun p hp => ?_, I.hok.keepT fun b u hb q => k b u q (trk b hb) (.inl hb), I.len⟩
  · rw [hfs] at m
    rcases List.mem_cons.mp m with m | m
    · obtain ⟨o', z⟩ := z
      exact absurd (Nat.lt_of_lt_of_le (Heap.lt_size z) I.ok.above) (by rw [m]; exact Nat.lt_irrefl _)
    · exact n m
  · obtain ⟨_, o', ho', hd⟩ := I.stack.mem (show b ∈ frs X.stack from by rw [hfs]; exact List.mem_cons_of_mem _ n)
    rw [q] at ho'; cases ho'
    exact up b o q hd
  · obtain ⟨m, hn, hl⟩ := I.loc
    refine ⟨m, up.ns hn, fun i x v h1 h2 h3 => ?_⟩
    obtain ⟨u, r, l⟩ := hl i x v h1 h2 h3
    refine ⟨u, r, ?_⟩
    rcases l with l | ⟨l1, c, l2, l3⟩
    · exact .inl l
    · exact .inr ⟨l1, c, l2, cellK c _ l3⟩
  · obtain ⟨v, q⟩ := I.cell x c e
    exact ⟨v, cellK c v q⟩
  · obtain ⟨h1, h2, h3, h4, h5⟩ := I.pin p hp
    refine ⟨k p.1 p.2 h1 (fun m => ?_) (.inr (.inr ⟨p, hp, rfl⟩)), h2, h3, h4, h5⟩
    rw [hfs] at m
    rcases List.mem_cons.mp m with m | m
    · exact h3 m
    · exact h4 m
end
def suiteCx (X : Cx) (e : Value) : Cx := { X with A := X.A.mark (some e), calm := false, xe := fun _ _ => False }
section
variable {X : Cx} {pins : List (Addr × Obj)} {σ : St} {H : Hp} {s : Shared} {e : Value}
theorem Inv.intoSuite (I : Inv X pins σ H s) (e : Value) : Inv (suiteCx X e) pins σ H s :=
  ⟨⟨I.ok.mod, I.ok.kind, I.ok.glob, I.ok.blt, I.ok.above, I.ok.inj, I.ok.has, I.ok.cab, fun z => absurd (show false = true from z) (by decide), I.ok.frames, I.ok.stk, I.ok.exf, I.ok.bs, I.ok.bsz, I.ok.noex, I.ok.exfs, I.ok.funs, I.ok.frf⟩, I.os, I.bare, I.base, I.loc, I.cell, I.free, I.freeC, I.pin, I.hok, I.len⟩
theorem Inv.outSuite (ok : X.Ok) (I : Inv (suiteCx X e) pins σ H s) : Inv X pins σ H s := ⟨ok, I.os, I.bare, I.base, I.loc, I.cell, I.free, I.freeC, I.pin, I.hok, I.len⟩
theorem SP.outSuite (ok : X.Ok) {D : Ends} {f : Flow} {s' : Shared} (h : SP (suiteCx X e) pins D f s') : SP X pins D f s' := by
  cases f with
  | next => obtain ⟨σ', H', I, q⟩ := h; exact ⟨σ', H', I.outSuite ok, q⟩
  | brk => obtain ⟨σ', H', I, q⟩ := h; exact ⟨σ', H', I.outSuite ok, q⟩
  | cont => obtain ⟨σ', H', I, q⟩ := h; exact ⟨σ', H', I.outSuite ok, q⟩
  | ret u => obtain ⟨v, σ', H', I, r, q⟩ := h; exact ⟨v, σ', H', I.outSuite ok, r, q⟩
end
def tTry (C : Addr) (tb : (St → Value → Hp → Prop) → TS) (ts : TS) : TS := fun D σ H => ∃ R : St → Value → Hp → Prop, tb R D σ H ∧ ∀ σ' c H', R σ' c H' → c = .ref C ∧ ts D σ' H'
theorem ps_try {X : Cx} {body : List Stmt} {x : Str} {C : Addr} {np hpos pos : Pos} {b₀ : Stmt} {suite : List Stmt} {tb : (St → Value → Hp → Prop) → TS} {ts : TS} (hex : X.ex = []) (hstk : X.stack = X.env :: X.outer) (hf : X.env.frame = some X.env.locals)
    (hg : Gl X x) (hm : X.mg x = some (.ref C)) (hc : ExcC X.K C) (hb : ∀ pins R, Hears (tryCx X pins R) R → PSs (tryCx X pins R) body (tb R)) (hs : ∀ e, PSs (suiteCx X e) (b₀ :: suite) ts) (hdb : (x == ("__debug__" : Str)) = false := by decide) :
    PS X (.Try body [.ExceptHandler (some (.Name x np)) none (b₀ :: suite) hpos] [] [] pos) (tTry C tb ts) := by
  intro pins s σ H D I h
  obtain ⟨R, h1, h2⟩ := h
  refine wpAny_Try_except (wpAny_mono (hb pins R (hears_try hex) [] s σ H D I.intoTry h1) (fun f s1 q => ?_) (fun v s1 q => ?_))
  · have q' := q.outTry
    cases f with
    | next => exact wpAny_execs_nil q'
    | brk => exact q'
    | cont => exact q'
    | ret u => exact q'
  · obtain ⟨a, C', σ', H', rfl, J, ⟨B, a0, fl, ground⟩, ha, _, r⟩ := q
    obtain ⟨e1, h3⟩ := h2 σ' (.ref C') H' r
    cases e1
    have fl0 : Heap.FlyingW B (X.env :: X.outer) a (.ref C) a0 s1.heap := by rw [hstk] at fl; exact fl
    have hfr : X.A.frames = some (X.env :: X.outer) := by rw [← hstk]; exact J.ok.frames
    refine wpAny_looks_onW hfr hf fl0 fun h4 held4 up4 => ?_
    refine wpAny_landsW held4 fun h5 fl5 up5 => ?_
    have J5 : Inv X pins σ' H' { s1 with heap := h5 } := J.fly hstk hf (fun b o q n z => fl5.1 b o (ground b o q n z)) (up4.trans up5)
    obtain ⟨ob, hob, hobc⟩ := fl5.there
    obtain ⟨tl, N, nm, q, bs, hdct, sn, sub, ab, col, dd, k0, k1, k2, k3, k5, mN, _, hC, hN, hni, T⟩ := exc_obj J5.ok.mod.kin hc
    refine wpAny_handleBy_cons (codeAny_handlers_test (ld_glob (J5.intoSuite (.ref a)) hg hm ?_ hdb)) (by intro q; cases q)
    obtain ⟨hh, g, d, tk, os⟩ := s1
    refine wpAny_excMatches_sub_self (J5.bk _ _ hC) hob hobc (T.hasType PySem.F.excBase_ValueError.hasBase) (codeAny_handlers_suite ?_)
    refine lands_againW fl5 fun h6 fl6 up6 => ?_
    have J6 : Inv X pins σ' H' { heap := h6, gens := g, drawn := d, toks := tk, os := os } := J.fly hstk hf (fun b o q n z => fl6.1 b o (ground b o q n z)) ((up4.trans up5).trans up6)
    exact wpAny_mono (hs (.ref a) pins _ σ' H' D (J6.intoSuite _) h3) (fun f s' q => q.outSuite J6.ok) fun _ _ z => False.elim z
end L2
namespace L2
open PySem PySem.Spec PyProof.Rows
section
variable {P : Program} {w : World} {K : PySem.W.Frag} {mg : Str → Option Value} {base : Heap}
theorem Fun.okX {x qual : Str} {st : Stmt} {f : Addr} {fd : FuncData} {N ps : List Str} {k : Nat} {sp : Sp} (F : Fun K x qual st f fd) (S : FnScope N ps (defScope st)) (len : ∀ vs H Q E, sp vs H Q E → vs.length = ps.length)
    (hbody : ∀ (cdv : Value) (A : Around) (outer : List Env) (s : Shared) (H : Hp) (vs : List V) (Q : VK) (E : XK), Room k (A.deeper (envOfC qual (defScope st) s.heap.objs.size f cdv)) → sp vs H Q E →
      ∃ t, PSs (cxOf (CXE P w) P w K mg base N qual (defScope st) f cdv A outer s H E) (defBody st) t ∧ t { nx := fun _ H' => Q .non H', rt := Q } (start N vs) H) : FnOk P w K mg base (CXE P w) (k + 1) f fd ps sp := by
  obtain ⟨oc, od, kV, doc, pm, an, cdv, ct, osl, rfl, lk, hcd⟩ := F.ex
  exact fn_of lk hcd S len fun A outer s H vs Q E hr hsp => hbody cdv A outer s H vs Q E hr hsp
theorem FunD.okX {x qual : Str} {st : Stmt} {f : Addr} {fd : FuncData} {ds : List Value} {N ps : List Str} {k : Nat} {sp : Sp} (F : FunD K x qual st f fd ds) (S : FnScope N ps (defScope st)) (len : ∀ vs H Q E, sp vs H Q E → vs.length = ps.length)
    (hbody : ∀ (cdv : Value) (A : Around) (outer : List Env) (s : Shared) (H : Hp) (vs : List V) (Q : VK) (E : XK), Room k (A.deeper (envOfC qual (defScope st) s.heap.objs.size f cdv)) → sp vs H Q E →
      ∃ t, PSs (cxOf (CXE P w) P w K mg base N qual (defScope st) f cdv A outer s H E) (defBody st) t ∧ t { nx := fun _ H' => Q .non H', rt := Q } (start N vs) H) : FnOk P w K mg base (CXE P w) (k + 1) f fd ps sp := by
  obtain ⟨oc, od, T, kV, doc, pm, an, cdv, ct, osl, oT, n, rfl, lk, hcd, _, _⟩ := F.ex
  exact fn_of lk hcd S len fun A outer s H vs Q E hr hsp => hbody cdv A outer s H vs Q E hr hsp
end
section
variable {X : Cx}
end
end L2
namespace L2
open PySem PySem.Spec PyProof.Rows
section
variable {X : Cx} {pins : List (Addr × Obj)} {σ : St} {H : Hp} {s : Shared}
theorem Inv.unset {i : Nat} {x : Str} {m' : Str → Option Value} {h' : Heap} {t' : Nat} (I : Inv X pins σ H s) (hN : X.N.Nodup) (hi : X.N[i]? = some x)
    (hm : ∀ m, s.heap.Ns X.env.locals m → ∀ y, y ≠ x → m' y = m y) (hn : h'.Ns X.env.locals m') (hs : Heap.SameBut X.env.locals s.heap h') : Inv X pins (σ.set i none) H { s with heap := h', toks := t' } := by
  obtain ⟨m, hn0, hl⟩ := id I.loc
  obtain ⟨oL, _, _, hoL, _⟩ := id hn0
  have hiσ : i < σ.length := by rw [I.len]; exact (List.getElem?_eq_some_iff.mp hi).1
  refine ⟨I.ok, I.os, I.bare, ⟨fun b o e n hb hx => ?_, fun b o e n hb hx => ?_, I.base.free, fun b o e hx => ?_, I.base.tups, I.base.frzs, I.base.tbls⟩, ⟨_, hn, fun j y v' e1 e2 e3 => ?_⟩, fun y c e => ?_, I.free, I.freeC, fun p hp => ?_, ?_, by simpa using I.len⟩
  · exact (hs.2 b (Nat.ne_of_lt (Nat.lt_of_lt_of_le (Heap.lt_size e) I.ok.above))).trans (I.base.keep b o e n hb hx)
  · obtain ⟨sl, e1⟩ := I.base.slot b o e n hb hx
    exact ⟨sl, (hs.2 b (Nat.ne_of_lt (Nat.lt_of_lt_of_le (Heap.lt_size e) I.ok.above))).trans e1⟩
  · obtain ⟨o', e1⟩ := I.base.there b o e hx
    exact ⟨o', (hs.2 b (Nat.ne_of_lt (Nat.lt_of_lt_of_le (Heap.lt_size e) I.ok.above))).trans e1⟩
  · by_cases hj : j = i
    · subst hj
      rw [List.getElem?_set_self hiσ] at e2
      cases e2
    · rw [List.getElem?_set_ne (Ne.symm hj)] at e2
      obtain ⟨u', r', q⟩ := hl j y v' e1 e2 e3
      refine ⟨u', r', ?_⟩
      rcases q with ⟨k, e⟩ | ⟨k, c, e, z⟩
      · refine .inl ⟨k, ?_⟩
        have : y ≠ x := fun e => hj (nodup_ix hN e1 (e ▸ hi))
        rw [hm m hn0 y this]
        exact e
      · exact .inr ⟨k, c, e, z.sameBut hs (I.cne y c e)⟩
  · obtain ⟨w', z⟩ := I.cell y c e
    exact ⟨w', z.sameBut hs (I.cne y c e)⟩
  · obtain ⟨e, n, ne, nf, d⟩ := I.pin p hp
    exact ⟨(hs.2 p.1 ne).trans e, n, ne, nf, d⟩
  · refine I.hok.keepT fun b u hb q => (hs.2 b fun z => ?_).trans q
    rw [z] at hb
    exact hb I.free
theorem ns_same {h : Heap} {a : Addr} {m m' : Str → Option Value} (x : h.Ns a m) (y : h.Ns a m') : m = m' := by
  obtain ⟨o, es, ep, ho, hd, _, hf⟩ := x
  obtain ⟨o', es', ep', ho', hd', _, hf'⟩ := y
  rw [ho] at ho'; cases ho'
  rw [hd] at hd'; cases hd'
  funext n
  rw [← hf n, ← hf' n]
theorem name_goes {A : Around} {E : Value → Shared → Prop} {i : Nat} {x : Str} {pos : Pos} {Q : Unit → Shared → Prop} (I : Inv X pins σ H s) (hN : X.N.Nodup) (hi : X.N[i]? = some x) (hx : X.env.scope.names.lookup x = some .local)
    (h : ∀ s', Inv X pins (σ.set i none) H s' → Q () s') : wpAny (model X.prog X.w) A (do bindName X.env x .none; unbindBehindTheSuite X.env x pos) Q E s := by
  have hp : (X.env.scope.kind == .class || (X.env.scope.kind == .module && X.env.locals != X.env.globals)) = false := by rw [I.ok.kind]; rfl
  obtain ⟨m, hn, _⟩ := id I.loc
  refine wpAny_bind (wpAny_bindName (wpAny_storeName_local hx hn (fun h₁ hn₁ hs₁ => ?_) hp))
  unfold unbindBehindTheSuite
  refine wpAny_onRaise ?_
  unfold unbindName
  refine wpAny_bind (wpAny_point (wpAny_bind ?_))
  unfold deleteName
  have hl : X.env.kindOf x = some .local := hx
  simp only [hl, hp]
  rw [if_neg (by decide)]
  refine wpAny_bind (wpAny_nsDel_keeps hn₁ fun h₂ v hn₂ hs₂ => ?_)
  simp only [if_true, Option.isSome_some, Bool.not_true, Bool.false_eq_true, if_false]
  refine wpAny_pure (wpAny_point (h _ ?_))
  exact I.unset hN hi (fun m0 h0 y hy => by rw [ns_same h0 hn]; simp [hy]) hn₂ (hs₁.trans hs₂)
theorem Inv.track {a : Addr} {o : HO} (I : Inv X pins σ H s) (ha : H a = none) (ap : Apart X pins a) (new : ObjOk X.prog X.w (upd H a o) s.heap a o) : Inv X pins σ (upd H a o) s := by
  obtain ⟨n0, nl, nc, np⟩ := ap
  refine ⟨I.ok, I.os, I.bare, ⟨I.base.keep, I.base.slot, fun b u q n hx => ?_, I.base.there, fun b xs q => ?_, fun b u xs q => ?_, fun b ps q => ?_⟩, I.loc, I.cell, ?_, fun x c e => ?_, fun p hp => ?_, fun b u e => ?_, I.len⟩
  · rw [upd_ne (fun z => by rw [z, n0] at q; cases q)]
    exact I.base.free b u q n hx
  · have := I.base.tups b xs q
    rw [upd_ne (ne_of_none this ha)]; exact this
  · have := I.base.frzs b u xs q
    rw [upd_ne (ne_of_none this ha)]; exact this
  · obtain ⟨more, e⟩ := I.base.tbls b ps q
    exact ⟨more, by rw [upd_ne (ne_of_none e ha)]; exact e⟩
  · rw [upd_ne (Ne.symm nl)]; exact I.free
  · rw [upd_ne (nc x c e)]; exact I.freeC x c e
  · obtain ⟨h1, h2, h3⟩ := I.pin p hp
    exact ⟨h1, by rw [upd_ne (np p hp)]; exact h2, h3⟩
  · by_cases hb : b = a
    · subst hb; rw [upd_same] at e; cases e; exact new
    · rw [upd_ne hb] at e
      exact (I.hok b u e).stay (fun c v _ q => q) (fun c q => by rw [upd_ne (ne_of_none q ha)]; exact q) fun c xs q => by rw [upd_ne (ne_of_none q ha)]; exact q
end
def ExcO (a C : Addr) : HO := .ext fun h => ∃ o vs, h.get? a = some o ∧ o.cls = .ref C ∧ o.data = .fields vs
def tTryAs (K : PySem.W.Frag) (C0 : Addr) (i : Nat) (tb : (St → Value → Hp → Prop) → TS) (ts : TS) : TS := fun D σ H => ∃ R : St → Value → Hp → Prop, tb R D σ H ∧ ∀ σ' c H', R σ' c H' → ∃ C, c = .ref C ∧ PySem.W.exmOne K (.ref C) (.ref C0) = some true ∧
  ∀ a, H' a = none → ts { nx := fun σ2 H2 => D.nx (σ2.set i none) H2, rt := D.rt, bk := fun σ2 H2 => D.bk (σ2.set i none) H2, ct := fun σ2 H2 => D.ct (σ2.set i none) H2 } (σ'.set i (some (.ref a))) (upd H' a (ExcO a C))
theorem ps_tryAs {X : Cx} {body : List Stmt} {x n : Str} {C0 : Addr} {i : Nat} {np hpos pos : Pos} {b₀ : Stmt} {suite : List Stmt} {tb : (St → Value → Hp → Prop) → TS} {ts : TS} (hex : X.ex = []) (hstk : X.stack = X.env :: X.outer) (hf : X.env.frame = some X.env.locals)
    (hN : X.N.Nodup) (hi : X.N[i]? = some n) (hl : X.env.scope.names.lookup n = some .local)
    (hg : Gl X x) (hm : X.mg x = some (.ref C0)) (hb : ∀ pins R, Hears (tryCx X pins R) R → PSs (tryCx X pins R) body (tb R)) (hs : ∀ e, PSs (suiteCx X e) (b₀ :: suite) ts) (hdb : (x == ("__debug__" : Str)) = false := by decide) :
    PS X (.Try body [.ExceptHandler (some (.Name x np)) (some n) (b₀ :: suite) hpos] [] [] pos) (tTryAs X.K C0 i tb ts) := by
  intro pins s σ H D I h
  obtain ⟨R, h1, h2⟩ := h
  refine wpAny_Try_except (wpAny_mono (hb pins R (hears_try hex) [] s σ H D I.intoTry h1) (fun f s1 q => ?_) (fun v s1 q => ?_))
  · have q' := q.outTry
    cases f with
    | next => exact wpAny_execs_nil q'
    | brk => exact q'
    | cont => exact q'
    | ret u => exact q'
  · obtain ⟨a, C', σ', H', rfl, J, ⟨B, a0, fl, ground⟩, ha, ap, r⟩ := q
    obtain ⟨C, e1, hexm, h3⟩ := h2 σ' (.ref C') H' r
    cases e1
    have fl0 : Heap.FlyingW B (X.env :: X.outer) a (.ref C') a0 s1.heap := by rw [hstk] at fl; exact fl
    have hfr : X.A.frames = some (X.env :: X.outer) := by rw [← hstk]; exact J.ok.frames
    refine wpAny_looks_onW hfr hf fl0 fun h4 held4 up4 => ?_
    refine wpAny_landsW held4 fun h5 fl5 up5 => ?_
    have J5 : Inv X pins σ' H' { s1 with heap := h5 } := J.fly hstk hf (fun b o q n z => fl5.1 b o (ground b o q n z)) (up4.trans up5)
    obtain ⟨ob, hob, hobc⟩ := fl5.there
    have LT : PySem.W.Looks (model X.prog X.w) h5 (typeOf (.ref a)) (.ref C') := by
      have : PySem.W.Looks (model X.prog X.w) h5 (typeOf (.ref a)) ob.cls := (PySem.W.Looks.ld hob).andThen .now
      rw [hobc] at this
      exact this
    refine wpAny_handleBy_cons (codeAny_handlers_test (ld_glob (J5.intoSuite (.ref a)) hg hm ?_ hdb)) (by intro q; cases q)
    have KI : X.K.In h5 := J5.kIn
    refine (PySem.W.exm_one KI LT hexm).here ?_
    refine codeAny_handlers_suite_as ?_
    refine lands_againW fl5 fun h6 fl6 up6 => ?_
    have J6 : Inv X pins σ' H' { s1 with heap := h6 } := J.fly hstk hf (fun b o q n z => fl6.1 b o (ground b o q n z)) ((up4.trans up5).trans up6)
    obtain ⟨oe, vs, hoe, hoec, hoed, _⟩ := fl6.first
    have new : ObjOk X.prog X.w (upd H' a (ExcO a C')) h6 a (ExcO a C') :=
      ⟨⟨oe, vs, hoe, hoec, hoed⟩, ⟨oe, hoe⟩, fun h1 h2 ⟨o, vs, e1, e2, e3⟩ k => ⟨o, vs, k o e1, e2, e3⟩⟩
    have J7 : Inv X pins σ' (upd H' a (ExcO a C')) { s1 with heap := h6 } := J6.track ha ap new
    refine store_ok (X := suiteCx X (.ref a)) (i := i) (v := .ref a) (J7.intoSuite (.ref a)) hN hi (.inl hl) rfl (fun s7 J8 => ?_) (.inr hl)
    refine wpAny_mono (hs (.ref a) pins _ _ _ _ J8 (h3 a ha)) (fun f s' q => ?_) fun _ _ z => False.elim z
    have q' := q.outSuite J6.ok
    cases f with
    | next => obtain ⟨σ2, H2, I2, q2⟩ := q'; exact name_goes I2 hN hi hl fun s'' I3 => ⟨_, _, I3, q2⟩
    | brk => obtain ⟨σ2, H2, I2, q2⟩ := q'; exact name_goes I2 hN hi hl fun s'' I3 => ⟨_, _, I3, q2⟩
    | cont => obtain ⟨σ2, H2, I2, q2⟩ := q'; exact name_goes I2 hN hi hl fun s'' I3 => ⟨_, _, I3, q2⟩
    | ret u => obtain ⟨v, σ2, H2, I2, r2, q2⟩ := q'; exact name_goes I2 hN hi hl fun s'' I3 => ⟨_, _, _, I3, r2, q2⟩
end L2
namespace L2
open PySem PySem.Spec PySem.Calls PyProof.Rows PySem.W
structure ExcAttr (K : PySem.W.Frag) (C : Addr) : Prop where
  ga : PySem.W.findIn K (.ref C) "__getattribute__" = some (some (.builtin "BaseException.__getattribute__"))
  gn : PySem.W.findIn K (.ref C) "__getattr__" = some none
  ca : PySem.W.findIn K (.ref C) "__class__" = some (some (.builtin "object.__class__"))
  mo : PySem.W.mroIn K C (.type "object") = some true
  mb : PySem.W.subIn K (.ref C) (.type "BaseException") = some true
section
variable {prog : Program} {w : World} {A : Around} {E : Value → Shared → Prop} {h : Heap} {g : Array GenState} {d : Drawn} {t : Nat} {os : OsState} {a C : Addr} {o : Obj} {K : PySem.W.Frag}
open PySem.Builtin PySem.Builtin.ObjectAttr PySem.Builtin.Getset_descriptor in
theorem exc_get {R : Result → Shared → Prop} {tp : Value} (X : K.In h) (Z : ExcAttr K C) (hx : h.get? a = some o) (hc : o.cls = .ref C) (hq : R (.ok (.ret (.ref C))) ⟨h, g, d, t, os⟩) :
    codeAny (model prog w) A (.call (.builtin "getset_descriptor.__get__") ⟨[.builtin "object.__class__", .ref a, tp], []⟩) R ⟨h, g, d, t, os⟩ := by
  have L0 : PySem.W.Looks (model prog w) h (typeOf (.ref a)) (.ref C) := hc ▸ (PySem.W.Looks.ld hx).andThen .now
  have L1 := PySem.W.looks_mroIn (M := model prog w) X Z.mo
  refine codeAny_call_builtin KF.slot_gs.plain KF.entry_gs (KF.slot_gs.check _ _ _ _ _ _ _ _ KF.type_class (KF.args_gs _ _ _) ?_)
  unfold Builtin.«getset_descriptor.__get__» descrGet
  rw [dga_obj]
  refine wpAny_bind (wpAny_pure ?_)
  unfold descrGetter descrCheckInstance descrNameAndClass isInstance
  simp only [KF.owner_class]
  repeat lk
  refine ⟨Code.quiet_builtin _ (by decide +kernel), codeAny_builtin KF.entry_class ?_⟩
  unfold Builtin.«object.__class__» shownTypeOf
  repeat lk
  exact hq
theorem exc_entry {tk : Tok} {Q : Fin → Shared → Prop} (X : K.In h) (Z : ExcAttr K C) (hx : h.get? a = some o) (hc : o.cls = .ref C) (hq : Q (.done (.ret (.ref C))) ⟨h, g, d, t, os⟩) :
    wpAny (model prog w) A (Builtin.«object.__getattribute__» ⟨[.ref a, .str "__class__" tk], []⟩) Q E ⟨h, g, d, t, os⟩ := by
  have hT5 : (⟨h, g, d, t, os⟩ : Shared).TypeIs (.builtin "object.__class__") "getset_descriptor" := F.typeOf_object_class
  have f5 := F.typeOf_object_class
  have f6 := F.slot_gs_get.lookup
  have f7 := F.slot_gs_set.lookup
  have L1 := PySem.W.looks_findIn (M := model prog w) X Z.ca
  repeat (any_goals (first | assumption | (with_reducible refine wpAny_loadPart_at hx ?_; rw [hc]) | with_reducible refine L1.at ?_ | wp_step))
  refine exc_get X Z hx hc ?_
  repeat (any_goals (first | assumption | wp_step))
theorem exc_check {M : Model} {nameV : Value} {Q : Unit → Shared → Prop} (X : K.In h) (Z : ExcAttr K C) (hx : h.get? a = some o) (hc : o.cls = .ref C) (hq : Q () ⟨h, g, d, t, os⟩) :
    wpAny M A (checkBuiltinCall "BaseException.__getattribute__" ⟨[.ref a, nameV], []⟩) Q E ⟨h, g, d, t, os⟩ := by
  have hk : builtinKind "BaseException.__getattribute__" = some .slot := by decide +kernel
  have hsplit : splitId "BaseException.__getattribute__" = some ("BaseException", "__getattribute__") := by decide +kernel
  have L1 : PySem.W.Looks M h (isSubtype (.ref C) (.type "BaseException")) true := PySem.W.looks_subIn X Z.mb
  have ha := F.args_bexc_ga (.ref a) nameV
  simp only [checkBuiltinCall, hk, hsplit]
  refine wpAny_bind ?_
  · unfold isInstance
    repeat (first | (with_reducible refine wpAny_loadPart_at hx ?_; rw [hc]) | with_reducible refine L1.at ?_ | wp_step)
    exact hq
theorem exc_call {tk : Tok} {R : Result → Shared → Prop} (X : K.In h) (Z : ExcAttr K C) (hx : h.get? a = some o) (hc : o.cls = .ref C) (hq : R (.ok (.ret (.ref C))) ⟨h, g, d, t, os⟩) :
    codeAny (model prog w) A (.call (.builtin "BaseException.__getattribute__") ⟨[.ref a, .str "__class__" tk], []⟩) R ⟨h, g, d, t, os⟩ :=
  codeAny_call_builtin PySem.F.attr_ValueError.ga.plain F.entry_bexc_ga (exc_check X Z hx hc (exc_entry X Z hx hc hq))
theorem exc_by {tk : Tok} {fill expr : Bool} {Q : Value → Shared → Prop} (X : K.In h) (Z : ExcAttr K C) (hx : h.get? a = some o) (hc : o.cls = .ref C) (hq : Q (.ref C) ⟨h, g, d, t, os⟩) :
    wpAny (model prog w) A (getAttrBy (.ref a) (.str "__class__" tk) fill expr) Q E ⟨h, g, d, t, os⟩ := by
  have f3 := PySem.F.attr_ValueError.ga.bind (.ref a)
  have hx0 : (expr && onTheHeap (Value.builtin "BaseException.__getattribute__")) = false := by cases expr <;> rfl
  have hx2 : (Value.builtin "BaseException.__getattribute__" == Value.builtin "object.__getattribute__") = false := by decide +kernel
  have hx1 : (onTheHeap (Value.ref C) && Value.builtin "BaseException.__getattribute__" == Value.builtin "object.__getattribute__") = false := by rw [hx2]; rfl
  have L1 := PySem.W.looks_findIn (M := model prog w) X Z.ga
  have L2 := PySem.W.looks_findIn (M := model prog w) X Z.gn
  repeat (any_goals (first | assumption | (with_reducible refine wpAny_loadPart_at hx ?_; rw [hc]) | with_reducible refine L1.at ?_ | with_reducible refine L2.at ?_ | wp_step))
  refine exc_call X Z hx hc ?_
  repeat (any_goals (first | assumption | wp_step))
theorem exc_attr {Q : Option Value → Shared → Prop} (X : K.In h) (Z : ExcAttr K C) (hx : h.get? a = some o) (hc : o.cls = .ref C) (hq : Q (some (.ref C)) ⟨h, g, d, t + 1, os⟩) :
    wpAny (model prog w) A (getAttr? (.ref a) "__class__") Q E ⟨h, g, d, t, os⟩ := by
  unfold getAttr? getAttrBy?
  repeat (any_goals (first | assumption | with_reducible apply exc_by X Z hx hc | wp_step))
end
theorem kitx_exc {K : PySem.W.Frag} {a C : Addr} (Z : ExcAttr K C) (hcl : (PySem.W.clsIn K C).isSome = true) : PySem.W.KitX K (.ref a) (.ref C) (fun h => ∃ o vs, h.get? a = some o ∧ o.cls = .ref C ∧ o.data = .fields vs) where
  ty := fun M h _ ⟨o, _, h1, h2, _⟩ => h2 ▸ (PySem.W.Looks.ld h1).andThen .now
  it := fun _ _ X _ => by
    unfold PySem.W.clsIn at hcl
    split at hcl
    · rename_i c' d' cd' sl' ho
      intro A' Q' E' s' k q
      unfold isType loadHead
      exact wpAny_bind (wpAny_loadPart (k _ _ (X _ _ ho)) (wpAny_pure q))
    · cases hcl
  ne := fun h tp dd its n sl X htp => by
    refine Bool.eq_false_iff.mpr fun q => ?_
    have e : C = tp := Value.ref.inj (beq_iff_eq.mp q)
    subst e
    unfold PySem.W.clsIn at hcl
    split at hcl
    · rename_i c' d' cd' sl' ho
      have z := (X _ _ ho).symm.trans htp
      cases z
    · cases hcl
  ca := fun {_ _ _ _ _ s} X ⟨o, _, h1, h2, _⟩ k => by
    obtain ⟨h, g, d, t, os⟩ := s
    exact exc_attr X Z h1 h2 k
section
variable {X : Cx}
def rIsE (K : PySem.W.Frag) : List V → Hp → VK → Prop := fun xs H Q => ∃ (a C : Addr) (c : V) (b : Bool), xs = [.ref a, c] ∧ H a = some (ExcO a C) ∧ ExcAttr K C ∧ (PySem.W.clsIn K C).isSome = true ∧
  ((∃ u, clsV c = some u ∧ PySem.W.kitOne K (.ref C) u = some b) ∨ ∃ (p : Addr) (ds : List Addr), c = .ref p ∧ H p = some (.tup (ds.map V.ref)) ∧ PySem.W.kitAny K (.ref C) (ds.map Value.ref) = some b) ∧ Q (.bl b) H
theorem vals_refs : ∀ {ds : List Addr} {us : List Value}, Vals (ds.map V.ref) us → us = ds.map Value.ref
  | [], _, r => by cases r; rfl
  | d :: ds, _, r => by
    cases r with
    | cons h t =>
      cases (show _ = Value.ref d from h)
      rw [vals_refs t]
      rfl
theorem call_isE {K : PySem.W.Frag} (hK : X.K = K := by rfl) : CallR X (.builtin "isinstance") (rIsE K) := by
  subst hK
  intro pins s σ H xs us Q I r h
  obtain ⟨a, C, c, b, rfl, ha, Z, hcl, hc, q⟩ := h
  obtain ⟨u1, u2, rfl, r1, r2⟩ := vals2 r
  cases (show u1 = Value.ref a from r1)
  obtain ⟨p, _, _⟩ := (show ObjOk X.prog X.w H s.heap a (ExcO a C) from I.hok a _ ha)
  rcases hc with ⟨u, hu, e⟩ | ⟨tp, ds, rfl, ht, e⟩
  · have e2 : u2 = u := by
      cases c with
      | ty n => cases (show u2 = Value.type n from r2); exact Option.some.inj hu
      | ref a => cases (show u2 = Value.ref a from r2); exact Option.some.inj hu
      | _ => cases hu
    subst e2
    exact PySem.W.kia_one (kitx_exc Z hcl) I.kIn p e (fun z => nomatch z) fun tk => ⟨.bl b, H, I.tok _, rfl, q⟩
  · cases (show u2 = Value.ref tp from r2)
    obtain ⟨_, its, rv, ob, h1, h2, n, h3⟩ := (show ObjOk X.prog X.w H s.heap tp (.tup (ds.map V.ref)) from I.hok tp _ ht)
    have hi := vals_refs rv
    subst hi
    obtain ⟨oc, od, odt, osl⟩ := ob
    dsimp only at h2 h3
    subst h2 h3
    exact PySem.W.kia_tup (kitx_exc Z hcl) I.kIn p h1 e (fun z => nomatch z) fun tk => ⟨.bl b, H, I.tok _, rfl, q⟩
end
end L2
namespace L2
open PySem PySem.Spec PyProof.Rows
end L2
namespace L2
open PySem PySem.Spec PyProof.Rows
section
variable {X : Cx} {x : Str} {C : Addr} {pos p : Pos} {e : Expr} {es : List Expr} {t : TA}
end
end L2
namespace L2
open PySem PySem.Spec PyProof.Rows
section
variable {X : Cx}
end
end L2
namespace L2
open PySem PySem.Spec PyProof.Rows
section
variable {X : Cx} {R : St → Value → Hp → Prop} {k k' : Nat} {x m : Str} {C : Addr} {ps : List Str} {sp : Sp} {p pos apos : Pos} {o e : Expr} {es : List Expr} {ta : TE} {t : TA}
theorem own_cx {CX : CXT} {P : Program} {w : World} {K : PySem.W.Frag} {mg : Str → Option Value} {base : Heap} {N : List Str} {qual : Str} {scope : Scope} {f : Addr} {cd : Value} {A : Around} {outer : List Env} {s : Shared} {H : Hp} {E : XK} :
    PassesOwn (model (cxOf CX P w K mg base N qual scope f cd A outer s H E).prog (cxOf CX P w K mg base N qual scope f cd A outer s H E).w) (cxOf CX P w K mg base N qual scope f cd A outer s H E).A (cxOf CX P w K mg base N qual scope f cd A outer s H E).env (cxOf CX P w K mg base N qual scope f cd A outer s H E).xe := by
  intro e s' h
  exact PassesOwn.leaving (Q₁ := fun e s'' => CX outer H s E e s'') (E₁ := fun e' s'' => CX outer H s E e' s'') e s' h
end
end L2
namespace L2
open PySem PySem.Spec PyProof.Rows
section
variable {κ : Type} [DecidableEq κ]
def valV (kvs : List (κ × V)) (k : κ) : Option V := (kvs.find? fun kv => decide (kv.1 = k)).map (·.2)
def putK (kvs : List (κ × V)) (k : κ) (v : V) : List (κ × V) :=
  if (kvs.any fun kv => decide (kv.1 = k)) = true then kvs.map (fun kv => if kv.1 = k then (kv.1, v) else kv) else kvs ++ [(k, v)]
def dropK (kvs : List (κ × V)) (k : κ) : List (κ × V) := kvs.filter fun kv => decide (kv.1 ≠ k)
theorem valV_pos {p : κ × V} {r : List (κ × V)} {k : κ} (e : p.1 = k) : valV (p :: r) k = some p.2 := by simp [valV, List.find?_cons, e]
theorem valV_neg {p : κ × V} {r : List (κ × V)} {k : κ} (e : ¬ p.1 = k) : valV (p :: r) k = valV r k := by simp [valV, List.find?_cons, e]
theorem valV_any (k : κ) : ∀ kvs : List (κ × V), (kvs.any fun kv => decide (kv.1 = k)) = (valV kvs k).isSome
  | [] => rfl
  | p :: r => by
    rw [List.any_cons]
    by_cases e : p.1 = k
    · simp only [valV_pos e, decide_eq_true e, Bool.true_or, Option.isSome_some]
    · rw [valV_neg e, decide_eq_false e, Bool.false_or]; exact valV_any k r
theorem RelO.isSome_eq {o : Option V} {u : Option Value} (r : RelO o u) : o.isSome = u.isSome := by
  cases o with
  | none => cases u with
    | none => rfl
    | some _ => exact (show False from r).elim
  | some _ => cases u with
    | none => exact (show False from r).elim
    | some _ => rfl
theorem RelO.getD {o : Option V} {u : Option Value} {d : V} {d' : Value} (r : RelO o u) (rd : RelV d d') : RelV (o.getD d) (u.getD d') := by
  cases o with
  | none => cases u with
    | none => exact rd
    | some _ => exact (show False from r).elim
  | some _ => cases u with
    | none => exact (show False from r).elim
    | some _ => exact r
theorem KV.val {kvs : List (κ × V)} {vs : List (κ × Value)} (r : KV kvs vs) (k : κ) : RelO (valV kvs k) (valueAt vs k) := by
  unfold KV at r
  induction r with
  | nil => exact True.intro
  | @cons p q ps qs h t ih =>
    obtain ⟨h1, h2⟩ := h
    by_cases e : p.1 = k
    · have e' : q.1 = k := h1.symm.trans e
      have b : valueAt (q :: qs) k = some q.2 := by simp [valueAt, List.find?_cons, e']
      rw [valV_pos e, b]; exact h2
    · have e' : ¬ q.1 = k := fun z => e (h1.trans z)
      have b : valueAt (q :: qs) k = valueAt qs k := by simp [valueAt, List.find?_cons, e']
      rw [valV_neg e, b]; exact ih
theorem KV.any {kvs : List (κ × V)} {vs : List (κ × Value)} (r : KV kvs vs) (k : κ) : (kvs.any fun kv => decide (kv.1 = k)) = vs.any fun kv => decide (kv.1 = k) := by
  unfold KV at r
  induction r with
  | nil => rfl
  | cons h t ih => rw [List.any_cons, List.any_cons, ih, h.1]
theorem KV.repl {kvs : List (κ × V)} {vs : List (κ × Value)} (r : KV kvs vs) (k : κ) {y : V} {u : Value} (ry : RelV y u) :
    KV (kvs.map fun kv => if kv.1 = k then (kv.1, y) else kv) (vs.map fun kv => if kv.1 = k then (kv.1, u) else kv) := by
  unfold KV at r ⊢
  induction r with
  | nil => exact .nil
  | @cons p q ps qs h t ih =>
    rw [List.map_cons, List.map_cons]
    refine .cons ?_ ih
    obtain ⟨h1, h2⟩ := h
    by_cases e : p.1 = k
    · rw [if_pos e, if_pos (h1.symm.trans e)]; exact ⟨h1, ry⟩
    · rw [if_neg e, if_neg (fun z => e (h1.trans z))]; exact ⟨h1, h2⟩
theorem KV.put {kvs : List (κ × V)} {vs : List (κ × Value)} (r : KV kvs vs) (k : κ) {y : V} {u : Value} (ry : RelV y u) : KV (putK kvs k y) (stored vs k u) := by
  unfold putK stored
  rw [r.any k]
  by_cases e : (vs.any fun kv => decide (kv.1 = k)) = true
  · rw [if_pos e, if_pos e]; exact r.repl k ry
  · rw [if_neg e, if_neg e]; exact Paired.snoc r ⟨rfl, ry⟩
theorem KV.drop {kvs : List (κ × V)} {vs : List (κ × Value)} (r : KV kvs vs) (k : κ) : KV (dropK kvs k) (without vs k) := by
  unfold KV at r ⊢
  unfold dropK without
  induction r with
  | nil => exact .nil
  | @cons p q ps qs h t ih =>
    obtain ⟨h1, h2⟩ := h
    rw [List.filter_cons, List.filter_cons]
    by_cases e : p.1 = k
    · have a : ¬ decide (p.1 ≠ k) = true := by simp [e]
      have b : ¬ decide (q.1 ≠ k) = true := by simp [h1.symm.trans e]
      rw [if_neg a, if_neg b]; exact ih
    · have e' : ¬ q.1 = k := fun z => e (h1.trans z)
      have a : decide (p.1 ≠ k) = true := by simp [e]
      have b : decide (q.1 ≠ k) = true := by simp [e']
      rw [if_pos a, if_pos b]; exact .cons ⟨h1, h2⟩ ih
theorem KV.keys {kvs : List (κ × V)} {vs : List (κ × Value)} (r : KV kvs vs) : kvs.map (·.1) = vs.map (·.1) := by
  unfold KV at r
  induction r with
  | nil => rfl
  | cons h t ih => rw [List.map_cons, List.map_cons, ih, h.1]
theorem KV.length {kvs : List (κ × V)} {vs : List (κ × Value)} (r : KV kvs vs) : kvs.length = vs.length := Paired.length r
end
abbrev KT (H : Hp) : List (List Key × V) → List (List Key × Addr × Value) → Prop := Paired fun p q => p.1 = q.1 ∧ H q.2.1 = some (.tup (p.1.map kV)) ∧ RelV p.2 q.2.2
theorem KT.val {H : Hp} {kvs : List (List Key × V)} {xs : List (List Key × Addr × Value)} (r : KT H kvs xs) (k : List Key) : RelO (valV kvs k) ((atKey xs k).map (·.2)) := by
  induction r with
  | nil => exact True.intro
  | @cons p q ps qs h t ih =>
    obtain ⟨h1, _, h2⟩ := h
    by_cases e : p.1 = k
    · have e' : q.1 = k := h1.symm.trans e
      have b : atKey (q :: qs) k = some q.2 := by simp [atKey, List.find?_cons, e']
      rw [valV_pos e, b]; exact h2
    · have e' : ¬ q.1 = k := fun z => e (h1.trans z)
      have b : atKey (q :: qs) k = atKey qs k := by simp [atKey, List.find?_cons, e']
      rw [valV_neg e, b]; exact ih
theorem KT.repl {H : Hp} {kvs : List (List Key × V)} {xs : List (List Key × Addr × Value)} (r : KT H kvs xs) (k : List Key) {y : V} {u : Value} (ry : RelV y u) :
    KT H (kvs.map fun kv => if kv.1 = k then (kv.1, y) else kv) (xs.map (putAt k u)) := by
  induction r with
  | nil => exact .nil
  | @cons p q ps qs h t ih =>
    rw [List.map_cons, List.map_cons]
    refine .cons ?_ ih
    obtain ⟨h1, h2, h3⟩ := h
    unfold putAt
    by_cases e : p.1 = k
    · rw [if_pos e, if_pos (h1.symm.trans e)]; exact ⟨h1, h2, ry⟩
    · rw [if_neg e, if_neg (fun z => e (h1.trans z))]; exact ⟨h1, h2, h3⟩
theorem KT.put {H : Hp} {kvs : List (List Key × V)} {xs : List (List Key × Addr × Value)} (r : KT H kvs xs) (k : List Key) {b : Addr} {y : V} {u : Value} (hb : H b = some (.tup (k.map kV))) (ry : RelV y u) :
    KT H (putK kvs k y) (storedH xs k b u) := by
  have e : (kvs.any fun kv => decide (kv.1 = k)) = (atKey xs k).isSome := by
    rw [valV_any, (r.val k).isSome_eq, Option.isSome_map]
  unfold putK storedH
  rw [e]
  by_cases q : (atKey xs k).isSome = true
  · rw [if_pos q, if_pos q]; exact r.repl k ry
  · rw [if_neg q, if_neg q]; exact Paired.snoc r ⟨rfl, hb, ry⟩
theorem KT.keeps {H H' : Hp} {kvs : List (List Key × V)} {xs : List (List Key × Addr × Value)} (r : KT H kvs xs) (ht : ∀ b ys, H b = some (.tup ys) → H' b = some (.tup ys)) : KT H' kvs xs :=
  Paired.mapP r fun _ _ z => ⟨z.1, ht _ _ z.2.1, z.2.2⟩
section
variable {P : Program} {w : World} {H : Hp} {h : Heap} {a : Addr}
end
def DGet (H : Hp) (a : Addr) (y : V) (r : Option V) : Prop :=
  (∃ kvs k, Rd H a (.dK kvs) ∧ y = kV k ∧ r = valV kvs k) ∨ ∃ kvs k b, Rd H a (.dT kvs) ∧ y = .ref b ∧ H b = some (.tup (k.map kV)) ∧ r = valV kvs k
def DPut (H : Hp) (a : Addr) (y v : V) (H' : Hp) : Prop :=
  (∃ kvs k, H a = some (.dK kvs) ∧ y = kV k ∧ kvs.length < sizeLine ∧ H' = upd H a (.dK (putK kvs k v))) ∨
  ∃ kvs k b, H a = some (.dT kvs) ∧ y = .ref b ∧ H b = some (.tup (k.map kV)) ∧ kvs.length < sizeLine ∧ H' = upd H a (.dT (putK kvs k v))
theorem DGet.k {H : Hp} {a : Addr} {kvs : List (Key × V)} {k : Key} (e : H a = some (.dK kvs)) : DGet H a (kV k) (valV kvs k) := .inl ⟨kvs, k, .inl e, rfl, rfl⟩
theorem DGet.t {H : Hp} {a b : Addr} {kvs : List (List Key × V)} {k : List Key} (e : H a = some (.dT kvs)) (eb : H b = some (.tup (k.map kV))) : DGet H a (.ref b) (valV kvs k) := .inr ⟨kvs, k, b, .inl e, rfl, eb, rfl⟩
theorem DPut.k {H : Hp} {a : Addr} {kvs : List (Key × V)} {k : Key} {v : V} (e : H a = some (.dK kvs)) (hl : kvs.length < sizeLine) : DPut H a (kV k) v (upd H a (.dK (putK kvs k v))) := .inl ⟨kvs, k, e, rfl, hl, rfl⟩
theorem DPut.t {H : Hp} {a b : Addr} {kvs : List (List Key × V)} {k : List Key} {v : V} (e : H a = some (.dT kvs)) (eb : H b = some (.tup (k.map kV))) (hl : kvs.length < sizeLine) :
    DPut H a (.ref b) v (upd H a (.dT (putK kvs k v))) := .inr ⟨kvs, k, b, e, rfl, eb, hl, rfl⟩
section
variable {X : Cx} {pins : List (Addr × Obj)} {σ : St} {H : Hp} {s : Shared} {a : Addr} {y v : V} {u r : Value} {o : Option V} {A : Around} {E : Value → Shared → Prop}
end
section
variable {X : Cx} {pins : List (Addr × Obj)} {σ : St} {H : Hp} {s : Shared} {a : Addr} {kvs : List (Key × V)} {k : Key} {u : Value} {A : Around} {E : Value → Shared → Prop}
end
section
variable {X : Cx} {o i e value : Expr} {pos pos' tpos : Pos} {td ty tv : TE}
end
section
variable {X : Cx} {pos : Pos}
end
end L2
namespace L2
open PySem PySem.Spec PyProof.Rows
section
variable {X : Cx} {tg : Expr}
end
section
variable {X : Cx}
end
end L2
namespace L2
open PySem PySem.Spec PyProof.Rows
inductive Kd where
  | plain | basin | pump
section
variable {X : Cx} {k k' : Nat} {x m : Str} {cs : Kd → Addr} {ps : List Str} {ss : Kd → Sp} {p pos apos : Pos} {o e : Expr} {es : List Expr} {ta : TE} {t : TA}
end
end L2
namespace L2
open PySem PySem.Spec PyProof.Rows
section
variable {X : Cx} {tg : Expr}
end
section
variable {X : Cx}
end
end L2
namespace L2
open PySem PySem.Spec PyProof.Rows
section
variable {X : Cx} {K : PySem.W.Frag} {w : World} {o i : Expr} {pos : Pos} {td ty : TE}
end
end L2
namespace L2
open PySem PySem.Spec PyProof.Rows
inductive DEq (K : PySem.W.Frag) (H : Hp) : V → V → Bool → Prop where
  | flat {x y : V} (hx : flatV x = true) (hy : flatV y = true) : DEq K H x y (eqV x y)
  | same (a : Addr) : DEq K H (.ref a) (.ref a) true
  | tup {a b : Addr} {xs ys : List V} (ne : a ≠ b) (ha : SqT K H a xs) (hb : SqT K H b ys) (fx : xs.all flatV = true) (fy : ys.all flatV = true) : DEq K H (.ref a) (.ref b) (eqs xs ys)
  | lst {a b : Addr} {xs ys : List V} (ne : a ≠ b) (ha : SqL K H a xs) (hb : SqL K H b ys) (fx : xs.all flatV = true) (fy : ys.all flatV = true) : DEq K H (.ref a) (.ref b) (eqs xs ys)
section
variable {X : Cx} {pins : List (Addr × Obj)} {σ : St} {H : Hp} {s : Shared} {A : Around}
theorem DEq.at {x y : V} {u v : Value} {e : Bool} (I : Inv X pins σ H s) (d : DEq X.K H x y e) (rx : RelV x u) (ry : RelV y v) (hu : A.units < cLine) : SeqAt.EqAt A s u v e := by
  cases d with
  | flat hx hy => exact eqAt_V rx ry hx hy
  | same a => cases rx; cases ry; exact SeqAt.EqAt.same _
  | @tup a b xs ys ne ha hb fx fy =>
    cases rx; cases ry
    obtain ⟨its, r, pl, hz⟩ := I.tuple ha
    obtain ⟨its2, r2, pl2, hz2⟩ := I.tuple hb
    have hl := r.length
    have hl2 := r2.length
    have h := SeqAt.RcAt.tuples (A := A) (e := fun j => eqV (xs.getD j .non) (ys.getD j .non)) pl pl2 hu (fun j h1 h2 => eqAt_V (vals_getD r h1) (vals_getD r2 h2) (flat_getD fx (by rw [hl]; simpa using h1)) (flat_getD fy (by rw [hl2]; simpa using h2)))
    have e : ((List.range (min its.toArray.size its2.toArray.size)).all (fun j => eqV (xs.getD j .non) (ys.getD j .non)) && its.toArray.size == its2.toArray.size) = eqs xs ys := by
      unfold eqs
      rw [List.size_toArray, List.size_toArray, ← hl, ← hl2]
    rw [e] at h
    exact SeqAt.EqAt.of_refs ne h
  | @lst a b xs ys ne ha hb fx fy =>
    cases rx; cases ry
    obtain ⟨its, r, pl, hz⟩ := I.list ha
    obtain ⟨its2, r2, pl2, hz2⟩ := I.list hb
    have hl := r.length
    have hl2 := r2.length
    by_cases he : xs.length = ys.length
    · have h := SeqAt.RcAt.lists (A := A) (e := fun j => eqV (xs.getD j .non) (ys.getD j .non)) pl.isList pl2.isList (by rw [List.size_toArray, List.size_toArray, ← hl, ← hl2, he]) hu (fun j h1 h2 => eqAt_V (vals_getD r h1) (vals_getD r2 h2) (flat_getD fx (by rw [hl]; simpa using h1)) (flat_getD fy (by rw [hl2]; simpa using h2)))
      have e : ((List.range its.toArray.size).all (fun j => eqV (xs.getD j .non) (ys.getD j .non))) = eqs xs ys := by
        unfold eqs
        rw [List.size_toArray, ← hl, ← he, Nat.min_self, beq_self_eq_true, Bool.and_true]
      rw [e] at h
      exact SeqAt.EqAt.of_refs ne h
    · have hf : eqs xs ys = false := by
        unfold eqs
        rw [show (xs.length == ys.length) = false from beq_eq_false_iff_ne.mpr he, Bool.and_false]
      rw [hf]
      exact SeqAt.EqAt.of_refs ne (SeqAt.RcAt.lists_lengths pl.isList pl2.isList (by rw [List.size_toArray, List.size_toArray, ← hl, ← hl2]; exact bne_iff_ne.mpr he) hu)
end
section
variable {X : Cx}
end
end L2
namespace L2
open PySem PySem.Spec PyProof.Rows
end L2
namespace L2
open PySem PySem.Spec PyProof.Rows
end L2
namespace L2
open PySem PySem.Spec PyProof.Rows
end L2
namespace L2
open PySem PySem.Spec PyProof.Rows
section
variable {X : Cx}
end
end L2
namespace L2
open PySem PySem.Spec PyProof.Rows
end L2
namespace L2
open PySem PySem.Spec PyProof.Rows
section
variable {X : Cx}
end
end L2
namespace L2
open PySem PySem.Spec PyProof.Rows
end L2
namespace L2
open PySem PySem.Spec PyProof.Rows
section
variable {X : Cx} {tg : Expr}
end
end L2
namespace L2
open PySem PySem.Spec PyProof.Rows
end L2
namespace L2
open PySem PySem.Spec PyProof.Rows
section
variable {X : Cx} {pins : List (Addr × Obj)} {σ : List (Option V)} {H : Hp} {s : Shared} {h' : Heap}
end
section
variable {X : Cx} {elts : List Expr} {x1 : Nat} {tpos : Pos}
end
end L2
namespace L2
open PySem PySem.Spec PyProof.Rows
end L2
namespace L2
open PySem PySem.Spec PyProof.Rows
section
variable {X : Cx}
def rEqTS (K : PySem.W.Frag) (b : Bool) : R2 := fun x y H Q => ∃ p q xs, x = .ref p ∧ y = .ref q ∧ SqT K H p xs ∧ SqT K H q xs ∧ xs.all flatR = true ∧ Q (.bl b) H
theorem op_eqTS (hu : X.A.units < cLine) : OpR X (compareOp .Eq) (rEqTS X.K true) := by
  intro pins s σ H x y v u Q I rx ry h
  obtain ⟨a, b, xs, rfl, rfl, ha, hb, fx, q⟩ := h
  cases rx
  cases ry
  obtain ⟨its, r, pl, hz⟩ := I.tuple ha
  obtain ⟨its2, r2, pl2, hz2⟩ := I.tuple hb
  have hl := r.length
  have hl2 := r2.length
  refine SeqAt.eq_tupleAt (e := fun _ => true) pl pl2 hu (fun j h1 h2 => ?_) ⟨.bl _, H, I, rfl, ?_⟩
  · refine eqAt_same (vals_getD r h1) (vals_getD r2 h2) ?_
    have hj : j < xs.length := by rw [hl]; simpa using h1
    rw [List.getD_eq_getElem?_getD, List.getElem?_eq_getElem hj]
    exact List.all_eq_true.mp fx _ (List.getElem_mem hj)
  · have e : (((List.range (min its.toArray.size its2.toArray.size)).all fun _ => true) && its.toArray.size == its2.toArray.size) = true := by
      rw [List.size_toArray, List.size_toArray, ← hl, hl2]; simp
    rw [e]
    exact q
theorem op_neTS (hu : X.A.units < cLine) : OpR X (compareOp .NotEq) (rEqTS X.K false) := by
  intro pins s σ H x y v u Q I rx ry h
  obtain ⟨a, b, xs, rfl, rfl, ha, hb, fx, q⟩ := h
  cases rx
  cases ry
  obtain ⟨its, r, pl, hz⟩ := I.tuple ha
  obtain ⟨its2, r2, pl2, hz2⟩ := I.tuple hb
  have hl := r.length
  have hl2 := r2.length
  refine SeqAt.RcNeAt.tuples (e := fun _ => true) pl pl2 hu (fun j h1 h2 => ?_) X.prog X.w X.xe _ ⟨.bl _, H, I, rfl, ?_⟩
  · refine eqAt_same (vals_getD r h1) (vals_getD r2 h2) ?_
    have hj : j < xs.length := by rw [hl]; simpa using h1
    rw [List.getD_eq_getElem?_getD, List.getElem?_eq_getElem hj]
    exact List.all_eq_true.mp fx _ (List.getElem_mem hj)
  · have e : (!((List.range (min its.toArray.size its2.toArray.size)).all (fun _ => true) && its.toArray.size == its2.toArray.size)) = false := by
      rw [List.size_toArray, List.size_toArray, ← hl, hl2]; simp
    rw [e]
    exact q
def anyF (F : Addr → Bool) (xs : List V) : Bool := xs.any fun z => match z with | .ref a => F a | _ => false
def valF (F : Addr → Bool) : Value → Bool
  | .ref a => F a
  | _ => false
theorem any_valF {F : Addr → Bool} : ∀ {xs : List V} {us : List Value}, Vals xs us → (∀ z ∈ xs, ∃ a, z = .ref a) → us.any (valF F) = anyF F xs
  | [], _, r, _ => by cases r; rfl
  | x :: xs, _, r, h => by
    cases r with
    | @cons _ u _ us ru rt =>
      obtain ⟨a, rfl⟩ := h x List.mem_cons_self
      cases ru
      have ih := any_valF (F := F) rt fun z hz => h z (List.mem_cons_of_mem _ hz)
      show (F a || us.any (valF F)) = (F a || anyF F xs)
      rw [ih]
def rNotInD (K : PySem.W.Frag) : R2 := fun x y H Q => ∃ (p : Addr) (xs : List V) (F : Addr → Bool), y = .ref p ∧ SqL K H p xs ∧ (∀ z ∈ xs, ∃ a, z = .ref a ∧ DEq K H (.ref a) x (F a)) ∧ Q (.bl (!anyF F xs)) H
theorem op_notInD (hu : X.A.units + 1 < cLine) : OpR X (compareOp .NotIn) (rNotInD X.K) := by
  intro pins s σ H x y v u Q I rx ry h
  obtain ⟨p, xs, F, rfl, hq, hd, q⟩ := h
  cases ry
  obtain ⟨its, r, pl, hz⟩ := I.list hq
  have hm : ∀ w ∈ its, ∃ a, w = .ref a ∧ V.ref a ∈ xs := by
    have key : ∀ {xs : List V} {us : List Value}, Vals xs us → (∀ z ∈ xs, ∃ a, z = .ref a) → ∀ w ∈ us, ∃ a, w = .ref a ∧ V.ref a ∈ xs := by
      intro xs us r
      induction r with
      | nil => intro _ w hw; cases hw
      | @cons x u xs us ru rt ih =>
        intro h w hw
        rcases List.mem_cons.mp hw with rfl | hw
        · obtain ⟨a, rfl⟩ := h x List.mem_cons_self
          cases ru
          exact ⟨a, rfl, List.mem_cons_self⟩
        · obtain ⟨a, e, ha⟩ := ih (fun z hz => h z (List.mem_cons_of_mem _ hz)) w hw
          exact ⟨a, e, List.mem_cons_of_mem _ ha⟩
    exact key r fun z hz => let ⟨a, e, _⟩ := hd z hz; ⟨a, e⟩
  refine SeqAt.notIn_listAt (valF F) pl.isList (fun w hw => ?_) ⟨.bl _, H, I, rfl, ?_⟩
  · obtain ⟨a, rfl, ha⟩ := hm w (by simpa using hw)
    obtain ⟨a', e, hde⟩ := hd _ ha
    cases e
    exact hde.at I rfl rx hu
  · rw [show its.toArray.any (valF F) = its.any (valF F) by simp, any_valF r fun z hz => let ⟨a, e, _⟩ := hd z hz; ⟨a, e⟩]
    exact q
end
end L2
namespace L2
open PySem PySem.Spec PyProof.Rows
section
variable {prog : Program} {w : World} {A : Around} {s : Shared} {E : Value → Shared → Prop}
end
section
variable {X : Cx} {elts : List Expr} {x1 : Nat} {tpos : Pos}
end
end L2
namespace L2
open PySem PySem.Spec PyProof.Rows
set_option maxRecDepth 100000
section
variable {X : Cx}
end
end L2
namespace L2
open PySem PySem.Spec PyProof.Rows
section
variable {prog : Program} {w : World} {A : Around} {s : Shared} {E : Value → Shared → Prop}
abbrev ZipF (h : Heap) (z P1 P2 : Addr) (f0 : Value) (f1 : Bool) : Prop := h.get? z = some { cls := .type "zip", dict := none, data := .fields #[f0, .bool f1, .bool false, .ref P1, .ref P2], slots := #[] }
def ZStands (h : Heap) (N z P1 P2 j1 j2 a b : Addr) (us vs : Array Value) (k : Nat) : Prop :=
  ((IsZip h z P1 P2 .none ∧ ∃ g g', IsPair h P2 g g') ∨ ∃ (T : Addr) (f1 : Bool) (o : Obj), ZipF h z P1 P2 (rawInt T) f1 ∧ N ≤ T ∧ h.get? T = some o) ∧ IsPair h P1 (.ref j1) (.ref j2) ∧ h.IsListIter j1 a k ∧ h.IsListIter j2 b k ∧ h.IsList a us ∧ h.IsList b vs
theorem ZStands.keep {h h' : Heap} {N z P1 P2 j1 j2 a b S : Addr} {us vs : Array Value} {k : Nat} (hs : ZStands h N z P1 P2 j1 j2 a b us vs k) (bS : S < N) (nS : ∀ c ∈ [z, P1, P2, j1, j2, a, b], c ≠ S) (kp : ∀ c o, c ≠ S → h.get? c = some o → h'.get? c = some o) : ZStands h' N z P1 P2 j1 j2 a b us vs k := by
  obtain ⟨hz, hP1, n1, n2, la, lb⟩ := hs
  have nS' : ∀ c, c ∈ [z, P1, P2, j1, j2, a, b] → ∀ o, h.get? c = some o → h'.get? c = some o := fun c hc o e => kp c o (nS c hc) e
  refine ⟨?_, nS' _ (by simp) _ hP1, n1.at fun o e => nS' _ (by simp) o e, n2.at fun o e => nS' _ (by simp) o e, la.at fun o e => nS' _ (by simp) o e, lb.at fun o e => nS' _ (by simp) o e⟩
  rcases hz with ⟨hz, g, g', hP2⟩ | ⟨T, f1, o, hz, t0, hT⟩
  · exact .inl ⟨nS' _ (by simp) _ hz, g, g', nS' _ (by simp) _ hP2⟩
  · exact .inr ⟨T, f1, o, nS' _ (by simp) _ hz, t0, kp _ _ (Nat.ne_of_gt (Nat.lt_of_lt_of_le bS t0)) hT⟩
def Pairs (h : Heap) (N : Addr) (us vs acc : Array Value) (k : Nat) : Prop := acc.size = k ∧ (∀ (j : Nat) (v : Value), acc[j]? = some v → ∃ (T : Addr) (x y : Value), v = .ref T ∧ N ≤ T ∧ T < h.objs.size ∧ IsPair h T x y ∧ us[j]? = some x ∧ vs[j]? = some y) ∧ ∀ (i j : Nat) (v : Value), acc[i]? = some v → acc[j]? = some v → i = j
theorem Pairs.keep {h h' : Heap} {N : Addr} {us vs acc : Array Value} {k : Nat} (p : Pairs h N us vs acc k) (kp : ∀ c o, N ≤ c → h.get? c = some o → h'.get? c = some o) (sz : h.objs.size ≤ h'.objs.size) : Pairs h' N us vs acc k := ⟨p.1, fun j v hv => by
  obtain ⟨T, x, y, e1, e2, e3, e4, e5⟩ := p.2.1 j v hv
  exact ⟨T, x, y, e1, e2, Nat.lt_of_lt_of_le e3 sz, kp _ _ e2 e4, e5⟩, p.2.2⟩
theorem Pairs.push {h : Heap} {N T : Addr} {us vs acc : Array Value} {k : Nat} {x y : Value} (p : Pairs h N us vs acc k) (tn : ∀ (j : Nat), acc[j]? ≠ some (.ref T)) (t0 : N ≤ T) (t1 : T < h.objs.size) (t2 : IsPair h T x y) (hx : us[k]? = some x) (hy : vs[k]? = some y) : Pairs h N us vs (acc.push (.ref T)) (k + 1) := by
  refine ⟨by rw [Array.size_push, p.1], fun j v hj => ?_, fun i j v hi hj => ?_⟩
  · rw [Array.getElem?_push] at hj
    split at hj
    · rename_i e; rw [p.1] at e; cases hj; rw [e]; exact ⟨T, x, y, rfl, t0, t1, t2, hx, hy⟩
    · exact p.2.1 j v hj
  · rw [Array.getElem?_push] at hi hj
    split at hi <;> split at hj
    · omega
    · cases hi; exact absurd hj (tn j)
    · cases hj; exact absurd hi (tn i)
    · exact p.2.2 i j v hi hj
end
end L2
namespace L2
open PySem PySem.Spec PyProof.Rows
section
variable {X : Cx} {pins : List (Addr × Obj)} {σ : List (Option V)} {H : Hp} {s : Shared} {h' : Heap}
end
section
variable {X : Cx}
open Classical in
end
end L2
namespace L2
open PySem PySem.Spec PyProof.Rows
section
variable {prog : Program} {w : World} {A : Around} {s : Shared} {E : Value → Shared → Prop}
end
end L2
namespace L2
open PySem PySem.Spec PyProof.Rows
section
variable {X : Cx} {e se : Expr} {te : TE} {lo hi : Option Expr} {tl th tk : TO} {pos p2 : Pos}
end
section
variable {X : Cx}
end
end L2
namespace L2
open PySem PySem.Spec PyProof.Rows
section
end
end L2
namespace L2
open PySem PySem.Spec PyProof.Rows
section
variable {prog : Program} {w : World} {A : Around} {s : Shared} {E : Value → Shared → Prop}
end
section
variable {X : Cx} {elts : List Expr} {x1 : Nat} {tpos : Pos}
end
end L2
namespace My
open PySem L2
def top (i : Nat) : Stmt := PySem.Challenge.pw_lockhouse_k41_ways_linked.main.body.getD i (.Pass ⟨0, 0, 0, 0⟩)
abbrev s_PlainLock___init__ : Stmt := inClass (top 23) 0
abbrev s_BasinLock___init__ : Stmt := inClass (top 24) 0
abbrev s_PumpLock___init__ : Stmt := inClass (top 25) 0
abbrev s_Reach___init__ : Stmt := inClass (top 20) 0
abbrev s_Canal___init__ : Stmt := inClass (top 21) 0
abbrev s_step_ends : Stmt := top 9
abbrev s_linked : Stmt := top 8
abbrev s__law_whole : Stmt := top 27
abbrev s__law_draw : Stmt := top 28
abbrev s__law_unit : Stmt := top 29
abbrev s__law_reach : Stmt := top 30
abbrev s__law_lock : Stmt := top 31
abbrev s__law_weather : Stmt := top 32
abbrev s__law_canal : Stmt := top 33
abbrev s__law_turns : Stmt := top 34
abbrev s__law_refused : Stmt := top 35
abbrev s__law_tried : Stmt := top 36
abbrev s__law_step : Stmt := top 37
abbrev s_law : Stmt := top 38
theorem sameT {K : PySem.W.Frag} {H H' : Hp} {a : Addr} {xs : List V} (e : Same H H') (h : SqT K H a xs) : SqT K H' a xs := by
  rcases h with (h | ⟨o, h⟩) | h
  · exact .inl (.inl (e _ _ h))
  · exact .inl (.inr ⟨o, e _ _ h⟩)
  · exact .inr h
theorem same_new {H : Hp} {p : Addr} (h : H p = none) (o : HO) : Same H (upd H p o) := fun b u q => by rw [upd_ne (ne_of_none q h)]; exact q
theorem small {n : Nat} (h : n ≤ 1000) : n ≤ sizeLine := Nat.le_of_lt (small1000 h)
def Ints (K : PySem.W.Frag) (H : Hp) (a : Addr) (ws : List Int) : Prop := SqL K H a (ws.map V.int) ∨ SqT K H a (ws.map V.int)
theorem Ints.same {K : PySem.W.Frag} {H H' : Hp} {a : Addr} {ws : List Int} (e : Same H H') (h : Ints K H a ws) : Ints K H' a ws := by
  rcases h with h | h
  · exact .inl (e.seq h)
  · exact .inr (sameT e h)
theorem atI_ints {ws : List Int} {s : Nat} (h : s < ws.length) : atI (ws.map V.int) (s : Int) = some (.int (ws.getD s 0)) := by
  refine atI_nat ?_
  rw [List.getElem?_map, List.getElem?_eq_getElem h, List.getD_eq_getElem?_getD, List.getElem?_eq_getElem h]
  rfl
theorem get_ints {ms : List Int} {i : Nat} {x : V} (h : (ms.map V.int)[i]? = some x) : ∃ z, x = V.int z ∧ ms[i]? = some z := by
  rw [List.getElem?_map] at h
  cases e : ms[i]? with
  | none => rw [e] at h; cases h
  | some z => rw [e] at h; exact ⟨z, (Option.some.inj h).symm, rfl⟩
theorem toNat_mod {a b : Int} (h : 0 < b) : ∃ k : Nat, a % b = (k : Int) ∧ (k : Int) < b := by
  have h1 := Int.emod_nonneg a (by omega : b ≠ 0)
  have h2 := Int.emod_lt_of_pos a h
  exact ⟨(a % b).toNat, by omega, by omega⟩
def spWhole : Sp := fun vs H Q _ => ∃ i : Int, vs = [.int i] ∧ Q (.bl true) H
def spLaw (K : PySem.W.Frag) : Sp := fun vs H Q _ => ∃ (a : Addr) (ns : List Int), vs = [.ref a] ∧ SqL K H a (ns.map V.int) ∧ ns.length ≤ 63 ∧ ∀ H', Q (.bl true) H'
def PoursAt (K : PySem.W.Frag) (H : Hp) (rs : List V) (qs : List (Nat × Nat × Int)) (n : Nat) : Prop :=
  rs.length = qs.length ∧ ∀ (i : Nat) (r : V), rs[i]? = some r → ∃ (a : Addr) (s t : Nat) (m : Int), r = .ref a ∧ qs[i]? = some (s, t, m) ∧ SqT K H a [.int s, .int t, .int m] ∧ s < n ∧ t < n
theorem PoursAt.same {K : PySem.W.Frag} {H H' : Hp} {rs : List V} {qs : List (Nat × Nat × Int)} {n : Nat} (e : Same H H') (h : PoursAt K H rs qs n) : PoursAt K H' rs qs n := by
  refine ⟨h.1, fun i r hi => ?_⟩
  obtain ⟨a, s, t, m, h1, h2, h3, h4⟩ := h.2 i r hi
  exact ⟨a, s, t, m, h1, h2, sameT e h3, h4⟩
def Keep (d : Addr) (H H' : Hp) : Prop := ∀ b o, b ≠ d → H b = some o → H' b = some o
theorem Keep.refl (d : Addr) (H : Hp) : Keep d H H := fun _ _ _ q => q
theorem Keep.of {d : Addr} {H H' : Hp} (s : Same H H') : Keep d H H' := fun b o _ q => s b o q
theorem Keep.trans {d : Addr} {H H1 H2 : Hp} (a : Keep d H H1) (b : Keep d H1 H2) : Keep d H H2 := fun c o n q => b c o n (a c o n q)
theorem Keep.upd {d : Addr} {H H' : Hp} (k : Keep d H H') (o : HO) : Keep d H (upd H' d o) := fun b u n q => by rw [upd_ne n]; exact k b u n q
theorem Keep.sqt {K : PySem.W.Frag} {d a : Addr} {H H' : Hp} {xs : List V} {ys : List V} (k : Keep d H H') (hd : H d = some (.lst ys)) (h : SqT K H a xs) : SqT K H' a xs := by
  rcases h with (h | ⟨o, h⟩) | h
  · exact .inl (.inl (k _ _ (ne_of h hd (fun z => nomatch z)) h))
  · exact .inl (.inr ⟨o, k _ _ (ne_of h hd (fun z => nomatch z)) h⟩)
  · exact .inr h
theorem Keep.pours {K : PySem.W.Frag} {d : Addr} {H H' : Hp} {rs ys : List V} {qs : List (Nat × Nat × Int)} {n : Nat} (k : Keep d H H') (hd : H d = some (.lst ys)) (h : PoursAt K H rs qs n) : PoursAt K H' rs qs n := by
  refine ⟨h.1, fun i r hi => ?_⟩
  obtain ⟨a, s, t, m, h1, h2, h3, h4⟩ := h.2 i r hi
  exact ⟨a, s, t, m, h1, h2, k.sqt hd h3, h4⟩
theorem PoursAt.snoc {K : PySem.W.Frag} {H : Hp} {rs : List V} {qs : List (Nat × Nat × Int)} {n s t : Nat} {m : Int} {a : Addr} (h : PoursAt K H rs qs n) (ht : SqT K H a [.int s, .int t, .int m]) (hs : s < n) (hn : t < n) : PoursAt K H (rs ++ [.ref a]) (qs ++ [(s, t, m)]) n := by
  refine ⟨by rw [List.length_append, List.length_append, h.1]; rfl, fun i r hi => ?_⟩
  by_cases hl : i < rs.length
  · rw [List.getElem?_append_left hl] at hi
    obtain ⟨b, s', t', m', h1, h2, h3⟩ := h.2 i r hi
    exact ⟨b, s', t', m', h1, by rw [List.getElem?_append_left (by rw [← h.1]; exact hl)]; exact h2, h3⟩
  · rw [List.getElem?_append_right (by omega)] at hi
    have hz : i - rs.length = 0 := by
      have := (List.getElem?_eq_some_iff.mp hi).1
      rw [List.length_singleton] at this
      omega
    rw [hz] at hi
    have e : V.ref a = r := Option.some.inj hi
    refine ⟨a, s, t, m, e.symm, ?_, ht, hs, hn⟩
    rw [List.getElem?_append_right (by rw [← h.1]; omega), ← h.1, hz]
    rfl
theorem PoursAt.cut {K : PySem.W.Frag} {H : Hp} {rs : List V} {qs : List (Nat × Nat × Int)} {n : Nat} (h : PoursAt K H rs qs n) (i j : Nat) : PoursAt K H ((rs.drop i).take j) ((qs.drop i).take j) n := by
  refine ⟨by rw [List.length_take, List.length_take, List.length_drop, List.length_drop, h.1], fun k r hk => ?_⟩
  rw [List.getElem?_take] at hk ⊢
  by_cases hj : k < j
  · rw [if_pos hj] at hk ⊢
    rw [List.getElem?_drop] at hk ⊢
    exact h.2 _ r hk
  · rw [if_neg hj] at hk
    cases hk
def lockFs (n h l r : V) : List (Str × V) := putF "room" r (putF "low" l (putF "high" h (putF "name" n [])))
theorem ne_nh : ¬ (("name" : Str) = "high") := by decide +kernel
theorem ne_nl : ¬ (("name" : Str) = "low") := by decide +kernel
theorem ne_nr : ¬ (("name" : Str) = "room") := by decide +kernel
theorem ne_hl : ¬ (("high" : Str) = "low") := by decide +kernel
theorem ne_hr : ¬ (("high" : Str) = "room") := by decide +kernel
theorem ne_lr : ¬ (("low" : Str) = "room") := by decide +kernel
theorem lk_name (n h l r : V) : (lockFs n h l r).lookup ("name" : Str) = some n := by
  unfold lockFs
  rw [lookup_putF, if_neg ne_nr, lookup_putF, if_neg ne_nl, lookup_putF, if_neg ne_nh, lookup_putF, if_pos rfl]
theorem lk_high (n h l r : V) : (lockFs n h l r).lookup ("high" : Str) = some h := by
  unfold lockFs
  rw [lookup_putF, if_neg ne_hr, lookup_putF, if_neg ne_hl, lookup_putF, if_pos rfl]
theorem lk_low (n h l r : V) : (lockFs n h l r).lookup ("low" : Str) = some l := by
  unfold lockFs
  rw [lookup_putF, if_neg ne_lr, lookup_putF, if_pos rfl]
def PartsAt (H : Hp) (rs : List V) (ps : List (Str × Int)) : Prop := rs.length = ps.length ∧ ∀ (i : Nat) (r : V), rs[i]? = some r → ∃ (a : Addr) (s : Str) (n : Int), r = .ref a ∧ ps[i]? = some (s, n) ∧ H a = some (.tup [.str s, .int n])
theorem PartsAt.nil {H : Hp} : PartsAt H [] [] := ⟨rfl, fun i r hi => by cases hi⟩
theorem PartsAt.keep {H H' : Hp} {d : Addr} {ys rs : List V} {ps : List (Str × Int)} (k : Keep d H H') (hd : H d = some (.lst ys)) (h : PartsAt H rs ps) : PartsAt H' rs ps := by
  refine ⟨h.1, fun i r hi => ?_⟩
  obtain ⟨a, s, n, h1, h2, h3⟩ := h.2 i r hi
  exact ⟨a, s, n, h1, h2, k _ _ (ne_of h3 hd (fun z => nomatch z)) h3⟩
theorem PartsAt.same {H H' : Hp} {rs : List V} {ps : List (Str × Int)} (e : Same H H') (h : PartsAt H rs ps) : PartsAt H' rs ps := by
  refine ⟨h.1, fun i r hi => ?_⟩
  obtain ⟨a, s, n, h1, h2, h3⟩ := h.2 i r hi
  exact ⟨a, s, n, h1, h2, e _ _ h3⟩
theorem PartsAt.snoc {H : Hp} {rs : List V} {ps : List (Str × Int)} {s : Str} {n : Int} {a : Addr} (h : PartsAt H rs ps) (ht : H a = some (.tup [.str s, .int n])) : PartsAt H (rs ++ [.ref a]) (ps ++ [(s, n)]) := by
  refine ⟨by rw [List.length_append, List.length_append, h.1]; rfl, fun i r hi => ?_⟩
  by_cases hl : i < rs.length
  · rw [List.getElem?_append_left hl] at hi
    obtain ⟨b, s', n', h1, h2, h3⟩ := h.2 i r hi
    exact ⟨b, s', n', h1, by rw [List.getElem?_append_left (by rw [← h.1]; exact hl)]; exact h2, h3⟩
  · rw [List.getElem?_append_right (by omega)] at hi
    have hz : i - rs.length = 0 := by
      have := (List.getElem?_eq_some_iff.mp hi).1
      rw [List.length_singleton] at this
      omega
    rw [hz] at hi
    have e : V.ref a = r := Option.some.inj hi
    refine ⟨a, s, n, e.symm, ?_, ht⟩
    rw [List.getElem?_append_right (by rw [← h.1]; omega), ← h.1, hz]
    rfl
def subFs (e : Str) (n h l r v : V) : List (Str × V) := putF e v (lockFs n h l r)
theorem sub_old {e m : Str} (ne : ¬ m = e) (n h l r v : V) : (subFs e n h l r v).lookup m = (lockFs n h l r).lookup m := by
  unfold subFs
  rw [lookup_putF, if_neg ne]
theorem lockFs_len (n h l r : V) : (lockFs n h l r).length < 1000 := by
  have h1 := length_putF "high" h (putF "name" n [])
  have h2 := length_putF "low" l (putF "high" h (putF "name" n []))
  have h3 := length_putF "room" r (putF "low" l (putF "high" h (putF "name" n [])))
  have h4 : (putF ("name" : Str) n []).length = 1 := rfl
  unfold lockFs
  omega
def LocksF (C : Addr) (H : Hp) (rs : List V) (F : Nat → List (Str × V)) : Prop := ∀ (j : Nat) (r : V), rs[j]? = some r → ∃ x dx : Addr, r = .ref x ∧ H x = some (.ins C dx (F j))
theorem LocksF.same {C : Addr} {H H' : Hp} {rs : List V} {F : Nat → List (Str × V)} (e : Same H H') (h : LocksF C H rs F) : LocksF C H' rs F := fun j r hj => by
  obtain ⟨x, dx, h1, h2⟩ := h j r hj
  exact ⟨x, dx, h1, e _ _ h2⟩
theorem LocksF.keep {C d : Addr} {H H' : Hp} {ys rs : List V} {F : Nat → List (Str × V)} (k : Keep d H H') (hd : H d = some (.lst ys)) (h : LocksF C H rs F) : LocksF C H' rs F := fun j r hj => by
  obtain ⟨x, dx, h1, h2⟩ := h j r hj
  exact ⟨x, dx, h1, k _ _ (ne_of h2 hd (fun z => nomatch z)) h2⟩
theorem LocksF.snoc {C x dx : Addr} {H : Hp} {rs : List V} {F : Nat → List (Str × V)} (h : LocksF C H rs F) (hx : H x = some (.ins C dx (F rs.length))) : LocksF C H (rs ++ [.ref x]) F := fun j r hj => by
  by_cases hl : j < rs.length
  · rw [List.getElem?_append_left hl] at hj
    exact h j r hj
  · rw [List.getElem?_append_right (by omega)] at hj
    have hz : j - rs.length = 0 := by
      have := (List.getElem?_eq_some_iff.mp hj).1
      rw [List.length_singleton] at this
      omega
    rw [hz] at hj
    have e : V.ref x = r := Option.some.inj hj
    have e2 : j = rs.length := by omega
    subst e2
    exact ⟨x, dx, e.symm, hx⟩
def kdC (cP cB cU : Addr) : Kd → Addr
  | .plain => cP
  | .basin => cB
  | .pump => cU
def lockFK (kd : Kd) (n h l r v : V) : List (Str × V) := match kd with
  | .plain => lockFs n h l r
  | .basin => subFs "side" n h l r v
  | .pump => subFs "lift" n h l r v
theorem fk_old (kd : Kd) (n h l r v : V) {m : Str} (h1 : ¬ m = "side") (h2 : ¬ m = "lift") : (lockFK kd n h l r v).lookup m = (lockFs n h l r).lookup m := by
  cases kd
  · rfl
  · exact sub_old h1 _ _ _ _ _
  · exact sub_old h2 _ _ _ _ _
theorem fk_name (kd : Kd) (n h l r v : V) : (lockFK kd n h l r v).lookup ("name" : Str) = some n := by rw [fk_old kd _ _ _ _ _ (by decide +kernel) (by decide +kernel)]; exact lk_name ..
theorem fk_high (kd : Kd) (n h l r v : V) : (lockFK kd n h l r v).lookup ("high" : Str) = some h := by rw [fk_old kd _ _ _ _ _ (by decide +kernel) (by decide +kernel)]; exact lk_high ..
theorem fk_low (kd : Kd) (n h l r v : V) : (lockFK kd n h l r v).lookup ("low" : Str) = some l := by rw [fk_old kd _ _ _ _ _ (by decide +kernel) (by decide +kernel)]; exact lk_low ..
def LockAt (cs : Kd → Addr) (H : Hp) (x : Addr) (kd : Kd) (n h l : V) (room v : Int) : Prop := ∃ dx : Addr, H x = some (.ins (cs kd) dx (lockFK kd n h l (.int room) (.int v)))
theorem LockAt.same {cs : Kd → Addr} {H H' : Hp} {x : Addr} {kd : Kd} {n h l : V} {room v : Int} (e : Same H H') (a : LockAt cs H x kd n h l room v) : LockAt cs H' x kd n h l room v := by
  obtain ⟨dx, a⟩ := a
  exact ⟨dx, e _ _ a⟩
def spInit3 (cs : Kd → Addr) : Sp := fun vs H Q _ => ∃ (kd : Kd) (x dx : Addr) (n h l r : V), vs = [.ref x, n, h, l, r] ∧ H x = some (.ins (cs kd) dx []) ∧ ∀ H' : Hp, Keep x H H' → H' x = some (.ins (cs kd) dx (lockFs n h l r)) → Q .non H'
def spInit4 (cs : Kd → Addr) (kd : Kd) : Sp := fun vs H Q _ => ∃ (x dx : Addr) (n h l r v : V), vs = [.ref x, n, h, l, r, v] ∧ H x = some (.ins (cs kd) dx []) ∧ ∀ H' : Hp, Keep x H H' → H' x = some (.ins (cs kd) dx (lockFK kd n h l r v)) → Q .non H'
def PoursS (H : Hp) (rs : List V) (ps : List (Str × Str × Int)) : Prop := rs.length = ps.length ∧ ∀ (i : Nat) (r : V), rs[i]? = some r → ∃ (a : Addr) (s t : Str) (n : Int), r = .ref a ∧ ps[i]? = some (s, t, n) ∧ H a = some (.tup [.str s, .str t, .int n])
theorem PoursS.nil {H : Hp} : PoursS H [] [] := ⟨rfl, fun i r hi => by cases hi⟩
theorem PoursS.same {H H' : Hp} {rs : List V} {ps : List (Str × Str × Int)} (e : Same H H') (h : PoursS H rs ps) : PoursS H' rs ps := by
  refine ⟨h.1, fun i r hi => ?_⟩
  obtain ⟨a, s, t, n, h1, h2, h3⟩ := h.2 i r hi
  exact ⟨a, s, t, n, h1, h2, e _ _ h3⟩
theorem PoursS.keep {H H' : Hp} {d : Addr} {ys rs : List V} {ps : List (Str × Str × Int)} (k : Keep d H H') (hd : H d = some (.lst ys)) (h : PoursS H rs ps) : PoursS H' rs ps := by
  refine ⟨h.1, fun i r hi => ?_⟩
  obtain ⟨a, s, t, n, h1, h2, h3⟩ := h.2 i r hi
  exact ⟨a, s, t, n, h1, h2, k _ _ (ne_of h3 hd (fun z => nomatch z)) h3⟩
theorem PoursS.append {H : Hp} {rs rs' : List V} {ps ps' : List (Str × Str × Int)} (h : PoursS H rs ps) (h' : PoursS H rs' ps') : PoursS H (rs ++ rs') (ps ++ ps') := by
  refine ⟨by rw [List.length_append, List.length_append, h.1, h'.1], fun i r hi => ?_⟩
  by_cases hl : i < rs.length
  · rw [List.getElem?_append_left hl] at hi
    obtain ⟨b, s', t', n', h1, h2, h3⟩ := h.2 i r hi
    exact ⟨b, s', t', n', h1, by rw [List.getElem?_append_left (by rw [← h.1]; exact hl)]; exact h2, h3⟩
  · rw [List.getElem?_append_right (by omega)] at hi
    obtain ⟨b, s', t', n', h1, h2, h3⟩ := h'.2 _ r hi
    exact ⟨b, s', t', n', h1, by rw [List.getElem?_append_right (by rw [← h.1]; omega), ← h.1]; exact h2, h3⟩
theorem PoursS.one {H : Hp} {s t : Str} {n : Int} {a : Addr} (ht : H a = some (.tup [.str s, .str t, .int n])) : PoursS H [.ref a] [(s, t, n)] := by
  refine ⟨rfl, fun i r hi => ?_⟩
  cases i with
  | zero => exact ⟨a, s, t, n, (Option.some.inj hi).symm, rfl, ht⟩
  | succ i => cases hi
def strL (l : List Nat) : Str := ⟨l.toArray⟩
structure RC where
  name : Str
  least : Int
  crest : Int
  berths : Int
  water : Int
  target : Int
def RC.good (r : RC) (n : Nat) : Prop := 0 ≤ r.least ∧ r.least ≤ r.crest ∧ r.crest ≤ 999999999999 ∧ 1 ≤ r.berths ∧ r.berths ≤ 9 ∧ 0 ≤ r.water ∧ r.water ≤ 999999999999 ∧ -1 ≤ r.target ∧ r.target < (n : Int)
def rcV (r : RC) : List V := [.str "reach", .str r.name, .int r.least, .int r.crest, .int r.berths, .int r.water, .int r.target]
structure LC where
  name : Str
  high : Int
  low : Int
  room : Int
  kd : Kd
  extra : Int
def kdS : Kd → Str
  | .plain => "plain"
  | .basin => "basin"
  | .pump => "pump"
def LC.good (l : LC) (n : Nat) : Prop := 1 ≤ l.high ∧ l.high < (n : Int) ∧ 0 ≤ l.low ∧ l.low < l.high ∧ 1 ≤ l.room ∧ l.room ≤ 999999999999 ∧ (l.kd = .plain → l.extra = 0) ∧ (l.kd ≠ .plain → 1 ≤ l.extra ∧ l.extra ≤ l.room)
def lcV (l : LC) : List V := [.str "lock", .str l.name, .int l.high, .int l.low, .int l.room, .str (kdS l.kd), .int l.extra]
def TripsAt (H : Hp) (rs : List V) (ts : List (Nat × Int × Int)) : Prop := rs.length = ts.length ∧ ∀ (i : Nat) (r : V), rs[i]? = some r → ∃ (a : Addr) (k : Nat) (x y : Int), r = .ref a ∧ ts[i]? = some (k, x, y) ∧ H a = some (.tup [.int (k : Int), .int x, .int y])
def tripsOk (ts : List (Nat × Int × Int)) (n : Nat) : Prop := (ts.map (·.1)).Nodup ∧ ∀ q ∈ ts, q.1 < n ∧ 0 ≤ q.2.1 ∧ q.2.1 ≤ 999999999999 ∧ 0 ≤ q.2.2 ∧ q.2.2 ≤ 999999999999
theorem TripsAt.same {H H' : Hp} {rs : List V} {ts : List (Nat × Int × Int)} (e : Same H H') (h : TripsAt H rs ts) : TripsAt H' rs ts :=
  ⟨h.1, fun i r hi => by obtain ⟨a, k, x, y, h1, h2, h3⟩ := h.2 i r hi; exact ⟨a, k, x, y, h1, h2, e _ _ h3⟩⟩
theorem TripsAt.keep {H H' : Hp} {d : Addr} {ys rs : List V} {ts : List (Nat × Int × Int)} (k : Keep d H H') (hd : H d = some (.lst ys)) (h : TripsAt H rs ts) : TripsAt H' rs ts :=
  ⟨h.1, fun i r hi => by obtain ⟨a, k', x, y, h1, h2, h3⟩ := h.2 i r hi; exact ⟨a, k', x, y, h1, h2, k _ _ (fun z => by rw [z, hd] at h3; cases h3) h3⟩⟩
theorem TripsAt.snoc {H : Hp} {rs : List V} {ts : List (Nat × Int × Int)} {a : Addr} {k : Nat} {x y : Int} (h : TripsAt H rs ts) (ha : H a = some (.tup [.int (k : Int), .int x, .int y])) : TripsAt H (rs ++ [.ref a]) (ts ++ [(k, x, y)]) := by
  refine ⟨by rw [List.length_append, List.length_append, h.1]; rfl, fun i r hi => ?_⟩
  by_cases hl : i < rs.length
  · rw [List.getElem?_append_left hl] at hi
    rw [List.getElem?_append_left (by rw [← h.1]; exact hl)]
    exact h.2 i r hi
  · rw [List.getElem?_append_right (by omega)] at hi
    have e : i = rs.length := by
      by_cases z : i - rs.length = 0
      · omega
      · rw [List.getElem?_eq_none (by show 1 ≤ i - rs.length; omega)] at hi; cases hi
    rw [e, Nat.sub_self] at hi
    cases hi
    refine ⟨a, k, x, y, rfl, ?_, ha⟩
    rw [e, h.1, List.getElem?_append_right (Nat.le_refl _), Nat.sub_self]
    rfl
theorem tripsOk.snoc {ts : List (Nat × Int × Int)} {k : Nat} {x y : Int} (h : tripsOk ts k) (hx : 0 ≤ x ∧ x ≤ 999999999999) (hy : 0 ≤ y ∧ y ≤ 999999999999) : tripsOk (ts ++ [(k, x, y)]) (k + 1) := by
  refine ⟨?_, fun q hq => ?_⟩
  · rw [List.map_append, List.nodup_append]
    refine ⟨h.1, by simp, fun a ha b hb => ?_⟩
    obtain ⟨q, hq, rfl⟩ := List.mem_map.mp ha
    have hb : b = k := by simpa using hb
    have := (h.2 q hq).1
    omega
  · rcases List.mem_append.mp hq with hq | hq
    · obtain ⟨h1, h2⟩ := h.2 q hq; exact ⟨by omega, h2⟩
    · cases List.mem_singleton.mp hq; exact ⟨by show k < k + 1; omega, hx.1, hx.2, hy.1, hy.2⟩
theorem tripsOk.more {ts : List (Nat × Int × Int)} {k n : Nat} (h : tripsOk ts k) (hn : k ≤ n) : tripsOk ts n := ⟨h.1, fun q hq => by obtain ⟨h1, h2⟩ := h.2 q hq; exact ⟨by omega, h2⟩⟩
inductive PIt where
  | reach (r : RC)
  | lock (l : LC)
  | night (ts : List (Nat × Int × Int))
def ItAt (D : List Addr) (H : Hp) (v : V) : PIt → Prop
  | .reach r => ∃ t, v = .ref t ∧ H t = some (.tup (rcV r))
  | .lock l => ∃ t, v = .ref t ∧ H t = some (.tup (lcV l))
  | .night ts => ∃ (t l : Addr) (rs : List V), v = .ref t ∧ H t = some (.tup [.str "night", .ref l]) ∧ H l = some (.lst rs) ∧ TripsAt H rs ts ∧ l ∉ D
theorem ItAt.same {D : List Addr} {H H' : Hp} {v : V} {it : PIt} (e : Same H H') (h : ItAt D H v it) : ItAt D H' v it := by
  cases it with
  | reach r => obtain ⟨t, h1, h2⟩ := h; exact ⟨t, h1, e _ _ h2⟩
  | lock l => obtain ⟨t, h1, h2⟩ := h; exact ⟨t, h1, e _ _ h2⟩
  | night ts => obtain ⟨t, l, rs, h1, h2, h3, h4, h5⟩ := h; exact ⟨t, l, rs, h1, e _ _ h2, e _ _ h3, h4.same e, h5⟩
theorem ItAt.keep {D : List Addr} {H H' : Hp} {d : Addr} {ys : List V} {v : V} {it : PIt} (k : Keep d H H') (hd : H d = some (.lst ys)) (hD : d ∈ D) (h : ItAt D H v it) : ItAt D H' v it := by
  have nt : ∀ {t : Addr} {zs : List V}, H t = some (.tup zs) → t ≠ d := fun ht z => by rw [z, hd] at ht; cases ht
  cases it with
  | reach r => obtain ⟨t, h1, h2⟩ := h; exact ⟨t, h1, k _ _ (nt h2) h2⟩
  | lock l => obtain ⟨t, h1, h2⟩ := h; exact ⟨t, h1, k _ _ (nt h2) h2⟩
  | night ts => obtain ⟨t, l, rs, h1, h2, h3, h4, h5⟩ := h; exact ⟨t, l, rs, h1, k _ _ (nt h2) h2, k _ _ (fun z => h5 (z ▸ hD)) h3, h4.keep k hd, h5⟩
def PlanAt (D : List Addr) (H : Hp) (vs : List V) (its : List PIt) : Prop := vs.length = its.length ∧ ∀ (i : Nat) (v : V), vs[i]? = some v → ∃ it, its[i]? = some it ∧ ItAt D H v it
theorem PlanAt.nil {D : List Addr} {H : Hp} : PlanAt D H [] [] := ⟨rfl, fun i v h => by cases h⟩
theorem PlanAt.same {D : List Addr} {H H' : Hp} {vs : List V} {its : List PIt} (e : Same H H') (h : PlanAt D H vs its) : PlanAt D H' vs its := ⟨h.1, fun i v hv => by obtain ⟨it, h1, h2⟩ := h.2 i v hv; exact ⟨it, h1, h2.same e⟩⟩
theorem PlanAt.keep {D : List Addr} {H H' : Hp} {d : Addr} {ys vs : List V} {its : List PIt} (k : Keep d H H') (hd : H d = some (.lst ys)) (hD : d ∈ D) (h : PlanAt D H vs its) : PlanAt D H' vs its := ⟨h.1, fun i v hv => by obtain ⟨it, h1, h2⟩ := h.2 i v hv; exact ⟨it, h1, h2.keep k hd hD⟩⟩
theorem PlanAt.snoc {D : List Addr} {H : Hp} {vs : List V} {its : List PIt} {v : V} {it : PIt} (h : PlanAt D H vs its) (hv : ItAt D H v it) : PlanAt D H (vs ++ [v]) (its ++ [it]) := by
  refine ⟨by rw [List.length_append, List.length_append, h.1]; rfl, fun i w hw => ?_⟩
  by_cases hl : i < vs.length
  · rw [List.getElem?_append_left hl] at hw
    rw [List.getElem?_append_left (by rw [← h.1]; exact hl)]
    exact h.2 i w hw
  · rw [List.getElem?_append_right (by omega)] at hw
    have e : i = vs.length := by
      by_cases z : i - vs.length = 0
      · omega
      · rw [List.getElem?_eq_none (by show 1 ≤ i - vs.length; omega)] at hw; cases hw
    rw [e, Nat.sub_self] at hw
    cases hw
    refine ⟨it, ?_, hv⟩
    rw [e, h.1, List.getElem?_append_right (Nat.le_refl _), Nat.sub_self]
    rfl
inductive PlanOk (rn gn : Nat → List Nat) : List PIt → Nat → Nat → Nat → Prop where
  | nil : PlanOk rn gn [] 0 0 0
  | reach {its : List PIt} {a b c : Nat} {r : RC} (h : PlanOk rn gn its a b c) (ha : a < 8) (hn : r.name = strL (rn a)) (hg : r.good a) : PlanOk rn gn (its ++ [.reach r]) (a + 1) b c
  | lock {its : List PIt} {a b c : Nat} {l : LC} (h : PlanOk rn gn its a b c) (hb : b < 8) (hn : l.name = strL (gn b)) (hg : l.good a) : PlanOk rn gn (its ++ [.lock l]) a (b + 1) c
  | night {its : List PIt} {a b c : Nat} {ts : List (Nat × Int × Int)} (h : PlanOk rn gn its a b c) (hc : c < 6) (ht : tripsOk ts a) (hl : ts.length ≤ 8) : PlanOk rn gn (its ++ [.night ts]) a b (c + 1)
theorem PlanOk.bounds {rn gn : Nat → List Nat} {its : List PIt} {a b c : Nat} (h : PlanOk rn gn its a b c) : a ≤ 8 ∧ b ≤ 8 ∧ c ≤ 6 ∧ its.length = a + b + c := by
  induction h with
  | nil => exact ⟨by omega, by omega, by omega, rfl⟩
  | reach h ha _ _ ih => rw [List.length_append]; exact ⟨by omega, ih.2.1, ih.2.2.1, by show _ + 1 = _; omega⟩
  | lock h hb _ _ ih => rw [List.length_append]; exact ⟨ih.1, by omega, ih.2.2.1, by show _ + 1 = _; omega⟩
  | night h hc _ _ ih => rw [List.length_append]; exact ⟨ih.1, ih.2.1, by omega, by show _ + 1 = _; omega⟩
theorem ItAt.less {D D' : List Addr} {H : Hp} {v : V} {it : PIt} (hD : ∀ d ∈ D', d ∈ D) (h : ItAt D H v it) : ItAt D' H v it := by
  cases it with
  | reach r => exact h
  | lock l => exact h
  | night ts => obtain ⟨t, l, rs, h1, h2, h3, h4, h5⟩ := h; exact ⟨t, l, rs, h1, h2, h3, h4, fun z => h5 (hD _ z)⟩
theorem PlanAt.less {D D' : List Addr} {H : Hp} {vs : List V} {its : List PIt} (hD : ∀ d ∈ D', d ∈ D) (h : PlanAt D H vs its) : PlanAt D' H vs its := ⟨h.1, fun i v hv => by obtain ⟨it, h1, h2⟩ := h.2 i v hv; exact ⟨it, h1, h2.less hD⟩⟩
def AllAt {α : Type} (P : V → α → Prop) (vs : List V) (xs : List α) : Prop := vs.length = xs.length ∧ ∀ (i : Nat) (v : V), vs[i]? = some v → ∃ x, xs[i]? = some x ∧ P v x
theorem AllAt.nil {α : Type} {P : V → α → Prop} : AllAt P [] ([] : List α) := ⟨rfl, fun i v h => by cases h⟩
theorem AllAt.mono {α : Type} {P P' : V → α → Prop} {vs : List V} {xs : List α} (m : ∀ v x, P v x → P' v x) (h : AllAt P vs xs) : AllAt P' vs xs := ⟨h.1, fun i v hv => by obtain ⟨x, h1, h2⟩ := h.2 i v hv; exact ⟨x, h1, m v x h2⟩⟩
theorem AllAt.snoc {α : Type} {P : V → α → Prop} {vs : List V} {xs : List α} {v : V} {x : α} (h : AllAt P vs xs) (hv : P v x) : AllAt P (vs ++ [v]) (xs ++ [x]) := by
  refine ⟨by rw [List.length_append, List.length_append, h.1]; rfl, fun i w hw => ?_⟩
  by_cases hl : i < vs.length
  · rw [List.getElem?_append_left hl] at hw
    rw [List.getElem?_append_left (by rw [← h.1]; exact hl)]
    exact h.2 i w hw
  · rw [List.getElem?_append_right (by omega)] at hw
    have e : i = vs.length := by
      by_cases z : i - vs.length = 0
      · omega
      · rw [List.getElem?_eq_none (by show 1 ≤ i - vs.length; omega)] at hw; cases hw
    rw [e, Nat.sub_self] at hw
    cases hw
    refine ⟨x, ?_, hv⟩
    rw [e, h.1, List.getElem?_append_right (Nat.le_refl _), Nat.sub_self]
    rfl
theorem AllAt.put {α : Type} {P : V → α → Prop} {vs : List V} {xs : List α} {v : V} {x : α} (h : AllAt P vs xs) (k : Nat) (hv : P v x) : AllAt P (vs.set k v) (xs.set k x) := by
  refine ⟨by rw [List.length_set, List.length_set, h.1], fun i w hw => ?_⟩
  rw [List.getElem?_set] at hw ⊢
  by_cases e : k = i
  · rw [if_pos e] at hw ⊢
    rw [← h.1]
    split at hw
    · cases hw
      rename_i hl
      exact ⟨x, if_pos hl, hv⟩
    · cases hw
  · rw [if_neg e] at hw ⊢
    exact h.2 i w hw
theorem AllAt.get {α : Type} {P : V → α → Prop} {vs : List V} {xs : List α} (h : AllAt P vs xs) {i : Nat} {x : α} (hx : xs[i]? = some x) : ∃ v, vs[i]? = some v ∧ P v x := by
  have hi : i < vs.length := by rw [h.1]; exact (List.getElem?_eq_some_iff.mp hx).1
  obtain ⟨y, h1, h2⟩ := h.2 i _ (List.getElem?_eq_getElem hi)
  rw [hx] at h1
  cases h1
  exact ⟨_, List.getElem?_eq_getElem hi, h2⟩
def RAt (H : Hp) (v : V) (r : RC) : Prop := ∃ t, v = .ref t ∧ H t = some (.tup (rcV r))
def LAt (H : Hp) (v : V) (l : LC) : Prop := ∃ t, v = .ref t ∧ H t = some (.tup (lcV l))
def QAt (H : Hp) (v : V) (p : Int × Int) : Prop := ∃ t, v = .ref t ∧ H t = some (.tup [.int p.1, .int p.2])
def NAt (D : List Addr) (H : Hp) (v : V) (ps : List (Int × Int)) : Prop := ∃ (l : Addr) (qs : List V), v = .ref l ∧ H l = some (.lst qs) ∧ AllAt (QAt H) qs ps ∧ l ∉ D
theorem RAt.same {H H' : Hp} (e : Same H H') (v : V) (r : RC) : RAt H v r → RAt H' v r := fun ⟨t, h1, h2⟩ => ⟨t, h1, e _ _ h2⟩
theorem LAt.same {H H' : Hp} (e : Same H H') (v : V) (r : LC) : LAt H v r → LAt H' v r := fun ⟨t, h1, h2⟩ => ⟨t, h1, e _ _ h2⟩
theorem QAt.same {H H' : Hp} (e : Same H H') (v : V) (r : Int × Int) : QAt H v r → QAt H' v r := fun ⟨t, h1, h2⟩ => ⟨t, h1, e _ _ h2⟩
theorem QAt.put {H : Hp} {d : Addr} {ys : List V} {o : HO} (hd : H d = some (.lst ys)) (v : V) (r : Int × Int) : QAt H v r → QAt (upd H d o) v r := fun ⟨t, h1, h2⟩ => ⟨t, h1, by rw [upd_ne (fun z => by rw [z, hd] at h2; cases h2)]; exact h2⟩
theorem NAt.same {D : List Addr} {H H' : Hp} (e : Same H H') (v : V) (r : List (Int × Int)) : NAt D H v r → NAt D H' v r := fun ⟨l, qs, h1, h2, h3, h4⟩ => ⟨l, qs, h1, e _ _ h2, h3.mono (QAt.same e), h4⟩
theorem NAt.put {D : List Addr} {H : Hp} {d : Addr} {ys : List V} {o : HO} (hd : H d = some (.lst ys)) (hD : d ∈ D) (v : V) (r : List (Int × Int)) : NAt D H v r → NAt D (upd H d o) v r := fun ⟨l, qs, h1, h2, h3, h4⟩ => ⟨l, qs, h1, by rw [upd_ne (fun z => h4 (by rw [z]; exact hD))]; exact h2, h3.mono (QAt.put hd), h4⟩
theorem NAt.less {D D' : List Addr} {H : Hp} (hD : ∀ d ∈ D', d ∈ D) (v : V) (r : List (Int × Int)) : NAt D H v r → NAt D' H v r := fun ⟨l, qs, h1, h2, h3, h4⟩ => ⟨l, qs, h1, h2, h3, fun z => h4 (hD _ z)⟩
theorem lk_hit {f : Str} {v : V} {fs : List (Str × V)} : (putF f v fs).lookup f = some v := by rw [lookup_putF, if_pos rfl]
theorem lk_miss {f g : Str} {v : V} {fs : List (Str × V)} (h : ¬ g = f) : (putF f v fs).lookup g = fs.lookup g := by rw [lookup_putF, if_neg h]
def ReachFld (fs : List (Str × V)) (v_name v_least v_crest v_berths v_water v_target : V) : Prop := fs.lookup ("name" : Str) = some v_name ∧ fs.lookup ("least" : Str) = some v_least ∧ fs.lookup ("crest" : Str) = some v_crest ∧ fs.lookup ("berths" : Str) = some v_berths ∧ fs.lookup ("water" : Str) = some v_water ∧ fs.lookup ("target" : Str) = some v_target
theorem Reach_made (v_name v_least v_crest v_berths v_water v_target : V) : ReachFld (putF "target" v_target (putF "water" v_water (putF "berths" v_berths (putF "crest" v_crest (putF "least" v_least (putF "name" v_name [])))))) v_name v_least v_crest v_berths v_water v_target := by
  refine ⟨?_, ?_, ?_, ?_, ?_, ?_⟩
  · rw [lk_miss (f := "target") (g := "name") (by decide +kernel), lk_miss (f := "water") (g := "name") (by decide +kernel), lk_miss (f := "berths") (g := "name") (by decide +kernel), lk_miss (f := "crest") (g := "name") (by decide +kernel), lk_miss (f := "least") (g := "name") (by decide +kernel), lk_hit]
  · rw [lk_miss (f := "target") (g := "least") (by decide +kernel), lk_miss (f := "water") (g := "least") (by decide +kernel), lk_miss (f := "berths") (g := "least") (by decide +kernel), lk_miss (f := "crest") (g := "least") (by decide +kernel), lk_hit]
  · rw [lk_miss (f := "target") (g := "crest") (by decide +kernel), lk_miss (f := "water") (g := "crest") (by decide +kernel), lk_miss (f := "berths") (g := "crest") (by decide +kernel), lk_hit]
  · rw [lk_miss (f := "target") (g := "berths") (by decide +kernel), lk_miss (f := "water") (g := "berths") (by decide +kernel), lk_hit]
  · rw [lk_miss (f := "target") (g := "water") (by decide +kernel), lk_hit]
  · rw [lk_hit]
def spInitReach (c : Addr) : Sp := fun vs H Q _ => ∃ (x dx : Addr) (v_name v_least v_crest v_berths v_water v_target : V), vs = [.ref x, v_name, v_least, v_crest, v_berths, v_water, v_target] ∧ H x = some (.ins c dx []) ∧ ∀ (H' : Hp) (fs : List (Str × V)), Keep x H H' → H' x = some (.ins c dx fs) → ReachFld fs v_name v_least v_crest v_berths v_water v_target → Q .non H'
def RcAt (cR : Addr) (H : Hp) (x : Addr) (r : RC) : Prop := ∃ (dx : Addr) (fs : List (Str × V)), H x = some (.ins cR dx fs) ∧ ReachFld fs (.str r.name) (.int r.least) (.int r.crest) (.int r.berths) (.int r.water) (.int r.target)
theorem RcAt.same {cR : Addr} {H H' : Hp} {x : Addr} {r : RC} (e : Same H H') (h : RcAt cR H x r) : RcAt cR H' x r := by
  obtain ⟨dx, fs, h1, h2⟩ := h
  exact ⟨dx, fs, e _ _ h1, h2⟩
theorem call_list_ofK {X : Cx} (K : PySem.W.Frag) (h : X.K = K := by rfl) : CallR X (.type "list") (fun xs H Q => ∃ p ys, xs = [.ref p] ∧ (SqL K H p ys ∨ SqT K H p ys) ∧ ∀ l, H l = none → Q (.ref l) (upd H l (.lst ys))) := by subst h; exact call_list_of
def CanalFld (fs : List (Str × V)) (r l n : V) : Prop := fs.lookup ("reaches" : Str) = some r ∧ fs.lookup ("locks" : Str) = some l ∧ fs.lookup ("nights" : Str) = some n ∧ ∀ m : Str, ¬ m = "reaches" → ¬ m = "locks" → ¬ m = "nights" → fs.lookup m = none
theorem Canal_made (r l n : V) : CanalFld (putF "nights" n (putF "locks" l (putF "reaches" r []))) r l n := by
  refine ⟨?_, ?_, ?_, fun m h1 h2 h3 => ?_⟩
  · rw [lk_miss (f := "nights") (g := "reaches") (by decide +kernel), lk_miss (f := "locks") (g := "reaches") (by decide +kernel), lk_hit]
  · rw [lk_miss (f := "nights") (g := "locks") (by decide +kernel), lk_hit]
  · rw [lk_hit]
  · rw [lk_miss h3, lk_miss h2, lk_miss h1]; rfl
theorem CanalFld.no {fs : List (Str × V)} {r l n : V} (h : CanalFld fs r l n) {m : Str} (h1 : ¬ m = "reaches") (h2 : ¬ m = "locks") (h3 : ¬ m = "nights") : fs.lookup m = none := h.2.2.2 m h1 h2 h3
def RcO (cR : Addr) (H : Hp) (v : V) (r : RC) : Prop := ∃ x, v = .ref x ∧ RcAt cR H x r
def LkO (cs : Kd → Addr) (H : Hp) (v : V) (l : LC) : Prop := ∃ x, v = .ref x ∧ LockAt cs H x l.kd (.str l.name) (.int l.high) (.int l.low) l.room l.extra
theorem RcO.same {cR : Addr} {H H' : Hp} (e : Same H H') (v : V) (r : RC) : RcO cR H v r → RcO cR H' v r := fun ⟨x, h1, h2⟩ => ⟨x, h1, h2.same e⟩
theorem LkO.same {cs : Kd → Addr} {H H' : Hp} (e : Same H H') (v : V) (l : LC) : LkO cs H v l → LkO cs H' v l := fun ⟨x, h1, h2⟩ => ⟨x, h1, h2.same e⟩
theorem RcO.keep {cR y : Addr} {ys : List V} {H H' : Hp} (k : Keep y H H') (hy : H y = some (.lst ys)) (v : V) (r : RC) : RcO cR H v r → RcO cR H' v r := fun ⟨x, h1, dx, fs, h2, h3⟩ => ⟨x, h1, dx, fs, k _ _ (ne_of h2 hy (fun z => nomatch z)) h2, h3⟩
theorem LkO.keep {cs : Kd → Addr} {y : Addr} {ys : List V} {H H' : Hp} (k : Keep y H H') (hy : H y = some (.lst ys)) (v : V) (l : LC) : LkO cs H v l → LkO cs H' v l := fun ⟨x, h1, dx, h2⟩ => ⟨x, h1, dx, k _ _ (ne_of h2 hy (fun z => nomatch z)) h2⟩
theorem RcO.keepI {cR y c d : Addr} {H H' : Hp} (k : Keep y H H') (hy : H y = some (.ins c d [])) (v : V) (r : RC) : RcO cR H v r → RcO cR H' v r := fun ⟨x, h1, dx, fs, h2, h3⟩ => ⟨x, h1, dx, fs, k _ _ (fun z => by rw [z, hy] at h2; cases h2; cases h3.1) h2, h3⟩
theorem LkO.keepI {cs : Kd → Addr} {y c d : Addr} {H H' : Hp} (k : Keep y H H') (hy : H y = some (.ins c d [])) (v : V) (l : LC) : LkO cs H v l → LkO cs H' v l := fun ⟨x, h1, dx, h2⟩ => ⟨x, h1, dx, k _ _ (fun z => by
  rw [z, hy] at h2
  have e := fk_name l.kd (.str l.name) (.int l.high) (.int l.low) (.int l.room) (.int l.extra)
  injection h2 with h2; injection h2 with h2 h3 h4
  rw [← h4] at e; cases e) h2⟩
theorem QAt.keep {y : Addr} {H H' : Hp} (k : Keep y H H') {o : HO} (hy : H y = some o) (ho : ∀ xs, o ≠ .tup xs) (v : V) (p : Int × Int) : QAt H v p → QAt H' v p := fun ⟨t, h1, h2⟩ => ⟨t, h1, k _ _ (fun z => by rw [z, hy] at h2; exact ho _ (Option.some.inj h2)) h2⟩
theorem NAt.keep {D : List Addr} {y : Addr} {ys : List V} {H H' : Hp} (k : Keep y H H') (hy : H y = some (.lst ys)) (hD : y ∈ D) (v : V) (p : List (Int × Int)) : NAt D H v p → NAt D H' v p := fun ⟨l, qs, h1, h2, h3, h4⟩ => ⟨l, qs, h1, k _ _ (fun z => h4 (z ▸ hD)) h2, h3.mono (QAt.keep k hy (fun _ z => nomatch z)), h4⟩
theorem NAt.fresh {D : List Addr} {d : Addr} {H : Hp} (hd : H d = none) (v : V) (p : List (Int × Int)) : NAt D H v p → NAt (d :: D) H v p := fun ⟨l, qs, h1, h2, h3, h4⟩ => ⟨l, qs, h1, h2, h3, fun z => (List.mem_cons.mp z).elim (ne_of_none h2 hd) h4⟩
def CnAt (cs : Kd → Addr) (cR cN : Addr) (D : List Addr) (H : Hp) (x : Addr) (R : List RC) (L : List LC) (N : List (List (Int × Int))) : Prop := ∃ (dx rl ll nl : Addr) (fs : List (Str × V)) (rs ls ns : List V), H x = some (.ins cN dx fs) ∧ CanalFld fs (.ref rl) (.ref ll) (.ref nl) ∧ H rl = some (.lst rs) ∧ H ll = some (.lst ls) ∧ H nl = some (.lst ns) ∧ AllAt (RcO cR H) rs R ∧ AllAt (LkO cs H) ls L ∧ AllAt (NAt D H) ns N ∧ rl ∉ D ∧ ll ∉ D ∧ nl ∉ D
theorem CnAt.same {cs : Kd → Addr} {cR cN : Addr} {D : List Addr} {H H' : Hp} {x : Addr} {R : List RC} {L : List LC} {N : List (List (Int × Int))} (e : Same H H') (h : CnAt cs cR cN D H x R L N) : CnAt cs cR cN D H' x R L N := by
  obtain ⟨dx, rl, ll, nl, fs, rs, ls, ns, h1, h2, h3, h4, h5, h6, h7, h8, h9⟩ := h
  exact ⟨dx, rl, ll, nl, fs, rs, ls, ns, e _ _ h1, h2, e _ _ h3, e _ _ h4, e _ _ h5, h6.mono (RcO.same e), h7.mono (LkO.same e), h8.mono (NAt.same e), h9⟩
theorem CnAt.keep {cs : Kd → Addr} {cR cN : Addr} {D : List Addr} {H H' : Hp} {x y : Addr} {ys : List V} {R : List RC} {L : List LC} {N : List (List (Int × Int))} (k : Keep y H H') (hy : H y = some (.lst ys)) (hD : y ∈ D) (h : CnAt cs cR cN D H x R L N) : CnAt cs cR cN D H' x R L N := by
  obtain ⟨dx, rl, ll, nl, fs, rs, ls, ns, h1, h2, h3, h4, h5, h6, h7, h8, h9, h10, h11⟩ := h
  exact ⟨dx, rl, ll, nl, fs, rs, ls, ns, k _ _ (ne_of h1 hy (fun z => nomatch z)) h1, h2, k _ _ (fun z => h9 (z ▸ hD)) h3, k _ _ (fun z => h10 (z ▸ hD)) h4, k _ _ (fun z => h11 (z ▸ hD)) h5, h6.mono (RcO.keep k hy), h7.mono (LkO.keep k hy), h8.mono (NAt.keep k hy hD), h9, h10, h11⟩
theorem CnAt.fresh {cs : Kd → Addr} {cR cN : Addr} {D : List Addr} {H : Hp} {x d : Addr} {R : List RC} {L : List LC} {N : List (List (Int × Int))} (hd : H d = none) (h : CnAt cs cR cN D H x R L N) : CnAt cs cR cN (d :: D) H x R L N := by
  obtain ⟨dx, rl, ll, nl, fs, rs, ls, ns, h1, h2, h3, h4, h5, h6, h7, h8, h9, h10, h11⟩ := h
  have no : ∀ {a : Addr} {o : HO}, H a = some o → a ∉ D → a ∉ d :: D := fun e h z => (List.mem_cons.mp z).elim (ne_of_none e hd) h
  exact ⟨dx, rl, ll, nl, fs, rs, ls, ns, h1, h2, h3, h4, h5, h6, h7, h8.mono (NAt.fresh hd), no h3 h9, no h4 h10, no h5 h11⟩
theorem CnAt.less {cs : Kd → Addr} {cR cN : Addr} {D D' : List Addr} {H : Hp} {x : Addr} {R : List RC} {L : List LC} {N : List (List (Int × Int))} (hD : ∀ d ∈ D', d ∈ D) (h : CnAt cs cR cN D H x R L N) : CnAt cs cR cN D' H x R L N := by
  obtain ⟨dx, rl, ll, nl, fs, rs, ls, ns, h1, h2, h3, h4, h5, h6, h7, h8, h9, h10, h11⟩ := h
  exact ⟨dx, rl, ll, nl, fs, rs, ls, ns, h1, h2, h3, h4, h5, h6, h7, h8.mono (NAt.less hD), fun z => h9 (hD _ z), fun z => h10 (hD _ z), fun z => h11 (hD _ z)⟩
def DueAt (D : List Addr) (H : Hp) (t : Addr) (R : List RC) (L : List LC) (N : List (List (Int × Int))) : Prop := ∃ (rl ll nl : Addr) (rs ls ns : List V), H t = some (.tup [.ref rl, .ref ll, .ref nl]) ∧ H rl = some (.lst rs) ∧ H ll = some (.lst ls) ∧ H nl = some (.lst ns) ∧ AllAt (RAt H) rs R ∧ AllAt (LAt H) ls L ∧ AllAt (NAt D H) ns N ∧ rl ∉ D ∧ ll ∉ D ∧ nl ∉ D
theorem DueAt.same {D : List Addr} {H H' : Hp} {t : Addr} {R : List RC} {L : List LC} {N : List (List (Int × Int))} (e : Same H H') (h : DueAt D H t R L N) : DueAt D H' t R L N := by
  obtain ⟨rl, ll, nl, rs, ls, ns, h1, h3, h4, h5, h6, h7, h8, h9⟩ := h
  exact ⟨rl, ll, nl, rs, ls, ns, e _ _ h1, e _ _ h3, e _ _ h4, e _ _ h5, h6.mono (RAt.same e), h7.mono (LAt.same e), h8.mono (NAt.same e), h9⟩
theorem DueAt.keep {D : List Addr} {H H' : Hp} {t y : Addr} {ys : List V} {R : List RC} {L : List LC} {N : List (List (Int × Int))} (k : Keep y H H') (hy : H y = some (.lst ys)) (hD : y ∈ D) (h : DueAt D H t R L N) : DueAt D H' t R L N := by
  obtain ⟨rl, ll, nl, rs, ls, ns, h1, h3, h4, h5, h6, h7, h8, h9, h10, h11⟩ := h
  refine ⟨rl, ll, nl, rs, ls, ns, k _ _ (ne_of h1 hy (fun z => nomatch z)) h1, k _ _ (fun z => h9 (z ▸ hD)) h3, k _ _ (fun z => h10 (z ▸ hD)) h4, k _ _ (fun z => h11 (z ▸ hD)) h5, h6.mono ?_, h7.mono ?_, h8.mono (NAt.keep k hy hD), h9, h10, h11⟩
  · rintro v r ⟨a, e1, e2⟩
    exact ⟨a, e1, k _ _ (ne_of e2 hy (fun z => nomatch z)) e2⟩
  · rintro v r ⟨a, e1, e2⟩
    exact ⟨a, e1, k _ _ (ne_of e2 hy (fun z => nomatch z)) e2⟩
theorem DueAt.fresh {D : List Addr} {H : Hp} {t d : Addr} {R : List RC} {L : List LC} {N : List (List (Int × Int))} (hd : H d = none) (h : DueAt D H t R L N) : DueAt (d :: D) H t R L N := by
  obtain ⟨rl, ll, nl, rs, ls, ns, h1, h3, h4, h5, h6, h7, h8, h9, h10, h11⟩ := h
  have no : ∀ {a : Addr} {o : HO}, H a = some o → a ∉ D → a ∉ d :: D := fun e h z => (List.mem_cons.mp z).elim (ne_of_none e hd) h
  exact ⟨rl, ll, nl, rs, ls, ns, h1, h3, h4, h5, h6, h7, h8.mono (NAt.fresh hd), no h3 h9, no h4 h10, no h5 h11⟩
theorem DueAt.less {D D' : List Addr} {H : Hp} {t : Addr} {R : List RC} {L : List LC} {N : List (List (Int × Int))} (hD : ∀ d ∈ D', d ∈ D) (h : DueAt D H t R L N) : DueAt D' H t R L N := by
  obtain ⟨rl, ll, nl, rs, ls, ns, h1, h3, h4, h5, h6, h7, h8, h9, h10, h11⟩ := h
  exact ⟨rl, ll, nl, rs, ls, ns, h1, h3, h4, h5, h6, h7, h8.mono (NAt.less hD), fun z => h9 (hD _ z), fun z => h10 (hD _ z), fun z => h11 (hD _ z)⟩
def NgArg (H : Hp) (nv : V) (N : List (List (Int × Int))) : Prop := (nv = .non ∧ N = []) ∨ ∃ (nl : Addr) (ns : List V), nv = .ref nl ∧ H nl = some (.lst ns) ∧ AllAt (NAt [] H) ns N ∧ ns.length ≤ 100
def spInitCanal (cs : Kd → Addr) (cR cN : Addr) : Sp := fun vs H Q _ => ∃ (x dx rl ll : Addr) (nv : V) (rs ls : List V) (R : List RC) (L : List LC) (N : List (List (Int × Int))), vs = [.ref x, .ref rl, .ref ll, nv] ∧ H x = some (.ins cN dx []) ∧ H rl = some (.lst rs) ∧ H ll = some (.lst ls) ∧ AllAt (RcO cR H) rs R ∧ AllAt (LkO cs H) ls L ∧ NgArg H nv N ∧
  ∀ H', Keep x H H' → (∀ D : List Addr, (∀ d ∈ D, H d ≠ none) → CnAt cs cR cN D H' x R L N) → Q .non H'
structure Drawn (R : List RC) (L : List LC) (N : List (List (Int × Int))) : Prop where
  r8 : R.length ≤ 8
  r1 : 1 ≤ R.length
  l8 : L.length ≤ 8
  n6 : N.length ≤ 6
  good : ∀ (i : Nat) (r : RC), R[i]? = some r → r.good i
  lock : ∀ (i : Nat) (l : LC), L[i]? = some l → l.good R.length
  night : ∀ p ∈ N, p.length = R.length
theorem AllAt.empty {α : Type} {P : V → α → Prop} {vs : List V} (h : AllAt P vs ([] : List α)) : vs = [] := List.length_eq_zero_iff.mp h.1
theorem mk_same {H : Hp} {x dx : Addr} {o o' : HO} (nx : H x = none) (ndx : H dx = none) : Same H (upd (upd H dx o) x o') := fun b u e => by rw [upd_ne (ne_of_none e nx), upd_ne (ne_of_none e ndx)]; exact e
theorem mk_trans {H H1 H2 : Hp} {x : Addr} (nx : H x = none) (u : Same H H1) (k : Keep x H1 H2) : Same H H2 := fun b o e => k b o (ne_of_none e nx) (u b o e)
def spDraw (K : PySem.W.Frag) : Sp := fun vs H Q _ => ∃ (s : Addr) (ns : List Int) (k : Int) (m : Int), vs = [.ref s, .int k, .int m] ∧ SqL K H s (ns.map V.int) ∧ ns.length ≤ 63 ∧ 0 ≤ k ∧ k ≤ 100000 ∧ 1 ≤ m ∧ ∀ z : Int, 0 ≤ z → z < m → Q (.int z) H
def spUnit (K : PySem.W.Frag) : Sp := fun vs H Q _ => ∃ (s : Addr) (ns : List Int), vs = [.ref s] ∧ SqL K H s (ns.map V.int) ∧ ns.length ≤ 63 ∧ ∀ z : Int, 1 ≤ z → z ≤ 10000000000 → Q (.int z) H
theorem kk_le {k : Int} (h0 : 0 ≤ k) (h1 : k ≤ 100000) : 0 ≤ k * k ∧ k * k ≤ 10000000000 := by
  refine ⟨Int.mul_nonneg h0 h0, ?_⟩
  have := Int.mul_le_mul h1 h1 h0 (by decide : (0 : Int) ≤ 100000)
  omega
def spReachD (K : PySem.W.Frag) (cR : Addr) : Sp := fun vs H Q _ => ∃ (s : Addr) (ns : List Int) (k : Nat) (u : Int), vs = [.ref s, .int (k : Int), .int u] ∧ SqL K H s (ns.map V.int) ∧ ns.length ≤ 63 ∧ k < 8 ∧ 1 ≤ u ∧ u ≤ 10000000000 ∧ ∀ (x : Addr) (r : RC) (H' : Hp), r.good k → Same H H' → H x = none → RcAt cR H' x r → Q (.ref x) H'
def spLockD (K : PySem.W.Frag) (cs : Kd → Addr) : Sp := fun vs H Q _ => ∃ (s : Addr) (ns : List Int) (k n : Nat) (u : Int), vs = [.ref s, .int (k : Int), .int (n : Int), .int u] ∧ SqL K H s (ns.map V.int) ∧ ns.length ≤ 63 ∧ k < 4 ∧ 2 ≤ n ∧ n ≤ 8 ∧ 1 ≤ u ∧ u ≤ 10000000000 ∧ ∀ (x : Addr) (l : LC) (H' : Hp), l.good n → Same H H' → H x = none → LkO cs H' (.ref x) l → Q (.ref x) H'
def spWeather (K : PySem.W.Frag) : Sp := fun vs H Q _ => ∃ (s : Addr) (ns : List Int) (k n : Nat) (u : Int), vs = [.ref s, .int (k : Int), .int (n : Int), .int u] ∧ SqL K H s (ns.map V.int) ∧ ns.length ≤ 63 ∧ k < 6 ∧ n ≤ 8 ∧ 1 ≤ u ∧ u ≤ 10000000000 ∧ ∀ (l : Addr) (p : List (Int × Int)) (H' : Hp), p.length = n → Same H H' → H l = none → NAt [] H' (.ref l) p → Q (.ref l) H'
def spCanalD (K : PySem.W.Frag) (cs : Kd → Addr) (cR cN : Addr) : Sp := fun vs H Q _ => ∃ (s : Addr) (ns : List Int) (mr ml mn : Nat), vs = [.ref s, .int (mr : Int), .int (ml : Int), .int (mn : Int)] ∧ SqL K H s (ns.map V.int) ∧ ns.length ≤ 63 ∧ 2 ≤ mr ∧ mr ≤ 8 ∧ 1 ≤ ml ∧ ml ≤ 4 ∧ mn ≤ 5 ∧ ∀ (x : Addr) (R : List RC) (L : List LC) (N : List (List (Int × Int))) (H' : Hp), Drawn R L N → 2 ≤ R.length → 1 ≤ L.length → Same H H' → H x = none → CnAt cs cR cN [] H' x R L N → Q (.ref x) H'
theorem at_str (zs : List Str) {k : Nat} (h : k < zs.length) : ∃ z : Str, atI (zs.map V.str) (k : Int) = some (.str z) := ⟨zs[k], atI_nat (by rw [List.getElem?_map, List.getElem?_eq_getElem h]; rfl)⟩
theorem at_int (zs : List Int) {i : Int} (h0 : 0 ≤ i) (h : i < (zs.length : Int)) : ∃ z ∈ zs, atI (zs.map V.int) i = some (.int z) := by
  have hl : i.toNat < zs.length := by omega
  have := atI_nat (xs := zs.map V.int) (j := i.toNat) (v := .int zs[i.toNat]) (by rw [List.getElem?_map, List.getElem?_eq_getElem hl]; rfl)
  rw [show ((i.toNat : Nat) : Int) = i by omega] at this
  exact ⟨_, List.getElem_mem hl, this⟩
theorem mul_le {a u : Int} {m : Int} (h0 : 0 ≤ a) (h1 : a ≤ m) (u0 : 1 ≤ u) (u1 : u ≤ 10000000000) (hm : 0 ≤ m) : 0 ≤ a * u ∧ a * u ≤ m * 10000000000 := by
  refine ⟨Int.mul_nonneg h0 (by omega), ?_⟩
  exact Int.mul_le_mul h1 u1 (by omega) hm
def sdS (b : Bool) : Str := if b then "up" else "down"
def endsOf (L : List LC) (p : Nat × Bool) : Int × Int := match L[p.1]? with
  | some l => if p.2 then (l.low, l.high) else (l.high, l.low)
  | none => (0, 0)
theorem ends_up {L : List LC} {k : Nat} {l : LC} (h : L[k]? = some l) : endsOf L (k, true) = (l.low, l.high) := by unfold endsOf; rw [h]; rfl
theorem ends_down {L : List LC} {k : Nat} {l : LC} (h : L[k]? = some l) : endsOf L (k, false) = (l.high, l.low) := by unfold endsOf; rw [h]; rfl
def PAt (H : Hp) (v : V) (p : Nat × Bool) : Prop := ∃ t, v = .ref t ∧ H t = some (.tup [.int (p.1 : Int), .str (sdS p.2)])
theorem PAt.same {H H' : Hp} (e : Same H H') (v : V) (p : Nat × Bool) : PAt H v p → PAt H' v p := fun ⟨t, h1, h2⟩ => ⟨t, h1, e _ _ h2⟩
theorem PAt.put {H : Hp} {d : Addr} {ys : List V} {o : HO} (hd : H d = some (.lst ys)) (v : V) (p : Nat × Bool) : PAt H v p → PAt (upd H d o) v p := fun ⟨t, h1, h2⟩ => ⟨t, h1, by rw [upd_ne (fun z => by rw [z, hd] at h2; cases h2)]; exact h2⟩
def dueS (L : List LC) (s : Int) (ps : List (Nat × Bool)) : List Int := s :: ps.map fun p => (endsOf L p).2
def okS (L : List LC) (s : Int) (ps : List (Nat × Bool)) : Prop := ∀ (j : Nat) (p : Nat × Bool), ps[j]? = some p → (dueS L s ps)[j]? = some (endsOf L p).1
theorem dueS_snoc (L : List LC) (s : Int) (ps : List (Nat × Bool)) (p : Nat × Bool) : dueS L s (ps ++ [p]) = dueS L s ps ++ [(endsOf L p).2] := by unfold dueS; rw [List.map_append]; rfl
theorem dueS_len (L : List LC) (s : Int) (ps : List (Nat × Bool)) : (dueS L s ps).length = ps.length + 1 := by unfold dueS; rw [List.length_cons, List.length_map]
theorem dueS_take (L : List LC) (s : Int) (ps : List (Nat × Bool)) (i : Nat) : (dueS L s ps).take (i + 1) = dueS L s (ps.take i) := by unfold dueS; rw [List.take_succ_cons, List.map_take]
theorem dueS_at {L : List LC} {s : Int} {ps : List (Nat × Bool)} {j : Nat} (h : j < ps.length + 1) : (dueS L s ps)[j]? = (dueS L s (ps.take j))[j]? := by
  rw [← dueS_take, List.getElem?_take, if_pos (by omega)]
theorem ends_range {R : List RC} {L : List LC} {N : List (List (Int × Int))} (d : Drawn R L N) {p : Nat × Bool} (h : p.1 < L.length) : ∃ l, L[p.1]? = some l ∧ l.good R.length := ⟨_, List.getElem?_eq_getElem h, d.lock _ _ (List.getElem?_eq_getElem h)⟩
def turnK (L : List LC) (r : Int) (k : Nat) : List (Nat × Bool) := match L[k]? with
  | some l => (if l.low = r then [(k, true)] else []) ++ (if l.high = r then [(k, false)] else [])
  | none => []
def turnsTo (L : List LC) (r : Int) (n : Nat) : List (Nat × Bool) := (List.range n).flatMap (turnK L r)
def turnsOf (L : List LC) (r : Int) : List (Nat × Bool) := turnsTo L r L.length
theorem turnsTo_succ (L : List LC) (r : Int) (n : Nat) : turnsTo L r (n + 1) = turnsTo L r n ++ turnK L r n := by unfold turnsTo; rw [List.range_succ, List.flatMap_append]; simp
theorem turnK_mem {L : List LC} {r : Int} {k : Nat} {p : Nat × Bool} : p ∈ turnK L r k ↔ p.1 = k ∧ k < L.length ∧ (endsOf L p).1 = r := by
  unfold turnK
  by_cases hk : k < L.length
  · rw [List.getElem?_eq_getElem hk]
    show p ∈ (if L[k].low = r then [(k, true)] else []) ++ (if L[k].high = r then [(k, false)] else []) ↔ _
    rw [List.mem_append]
    have e1 := ends_up (List.getElem?_eq_getElem hk)
    have e2 := ends_down (List.getElem?_eq_getElem hk)
    obtain ⟨pk, pb⟩ := p
    constructor
    · rintro (h | h)
      · split at h
        · cases List.mem_singleton.mp h; rw [e1]; exact ⟨rfl, hk, by assumption⟩
        · cases h
      · split at h
        · cases List.mem_singleton.mp h; rw [e2]; exact ⟨rfl, hk, by assumption⟩
        · cases h
    · rintro ⟨h1, _, h3⟩
      have h1 : pk = k := h1
      subst h1
      cases pb
      · rw [e2] at h3; exact .inr (by rw [if_pos h3]; simp)
      · rw [e1] at h3; exact .inl (by rw [if_pos h3]; simp)
  · rw [List.getElem?_eq_none (by omega)]
    constructor
    · intro h; cases h
    · intro h; omega
theorem turns_mem {L : List LC} {r : Int} {p : Nat × Bool} : p ∈ turnsOf L r ↔ p.1 < L.length ∧ (endsOf L p).1 = r := by
  unfold turnsOf turnsTo
  rw [List.mem_flatMap]
  constructor
  · rintro ⟨k, hk, h⟩
    obtain ⟨h1, h2, h3⟩ := turnK_mem.mp h
    exact ⟨by omega, h3⟩
  · rintro ⟨h1, h2⟩
    exact ⟨p.1, List.mem_range.mpr h1, turnK_mem.mpr ⟨rfl, h1, h2⟩⟩
theorem turnK_len (L : List LC) (r : Int) (k : Nat) : (turnK L r k).length ≤ 2 := by
  unfold turnK
  split
  · rw [List.length_append]; split <;> split <;> simp
  · exact Nat.zero_le _
theorem turnsTo_len (L : List LC) (r : Int) (n : Nat) : (turnsTo L r n).length ≤ 2 * n := by
  induction n with
  | zero => exact Nat.le_refl _
  | succ n ih => rw [turnsTo_succ, List.length_append]; have := turnK_len L r n; omega
def spTurns (cs : Kd → Addr) (cR cN : Addr) : Sp := fun vs H Q _ => ∃ (x : Addr) (r : Int) (D : List Addr) (R : List RC) (L : List LC) (N : List (List (Int × Int))), vs = [.ref x, .int r] ∧ CnAt cs cR cN D H x R L N ∧ L.length ≤ 8 ∧ ∀ (l : Addr) (us : List V) (H' : Hp), Same H H' → H l = none → H' l = some (.lst us) → AllAt (PAt H') us (turnsOf L r) → Q (.ref l) H'
def spEnds (cs : Kd → Addr) : Sp := fun vs H Q _ => ∃ (y : Addr) (l : LC) (b : Bool), vs = [.ref y, .str (sdS b)] ∧ LkO cs H (.ref y) l ∧ ∀ (t : Addr) (H' : Hp), Same H H' → H t = none → H' t = some (.tup [.int (if b then l.low else l.high), .int (if b then l.high else l.low)]) → Q (.ref t) H'
theorem dec_sd (b : Bool) : decide (V.str (sdS b) = V.str "up") = b := by
  cases b
  · exact decide_eq_false fun h => absurd (V.str.inj h) (by decide +kernel)
  · exact decide_eq_true rfl
theorem atI_last {xs : List V} {v : V} {n : Nat} (hn : xs.length = n + 1) (h : xs[n]? = some v) : atI xs (-1) = some v := by
  have e : ixN xs.length (-1) = some n := by
    unfold ixN
    rw [if_neg (by decide), if_pos (by omega)]
    congr 1
    omega
  unfold atI
  rw [e]
  exact h
def spLinked (K : PySem.W.Frag) (cs : Kd → Addr) (cR cN eL : Addr) : Sp := fun vs H Q E => ∃ (x st : Addr) (s : Int) (us : List V) (ps : List (Nat × Bool)) (D : List Addr) (R : List RC) (L : List LC) (N : List (List (Int × Int))), vs = [.ref x, .int s, .ref st] ∧ CnAt cs cR cN D H x R L N ∧ H st = some (.tup us) ∧ AllAt (PAt H) us ps ∧ (∀ p ∈ ps, p.1 < L.length) ∧ ps.length ≤ 100 ∧
  (okS L s ps → ∀ (r : Addr) (H' : Hp), Same H H' → H r = none → H' r = some (.lst ((dueS L s ps).map V.int)) → Q (.ref r) H') ∧ (¬ okS L s ps → ∀ H', Same H H' → E (.ref eL) none H')
def spRefused (K : PySem.W.Frag) (cs : Kd → Addr) (cR cN : Addr) : Sp := fun vs H Q _ => ∃ (x st : Addr) (s : Int) (us : List V) (ps : List (Nat × Bool)) (D : List Addr) (R : List RC) (L : List LC) (N : List (List (Int × Int))), vs = [.ref x, .int s, .ref st] ∧ CnAt cs cR cN D H x R L N ∧ H st = some (.tup us) ∧ AllAt (PAt H) us ps ∧ (∀ p ∈ ps, p.1 < L.length) ∧ ps.length ≤ 100 ∧ ¬ okS L s ps ∧ ∀ H', Same H H' → Q (.bl true) H'
def spTriedL (K : PySem.W.Frag) (cs : Kd → Addr) (cR cN : Addr) : Sp := fun vs H Q _ => ∃ (x st : Addr) (s : Int) (us : List V) (ps : List (Nat × Bool)) (D : List Addr) (R : List RC) (L : List LC) (N : List (List (Int × Int))), vs = [.ref x, .int s, .ref st] ∧ CnAt cs cR cN D H x R L N ∧ H st = some (.tup us) ∧ AllAt (PAt H) us ps ∧ (∀ p ∈ ps, p.1 < L.length) ∧ ps.length ≤ 100 ∧ okS L s ps ∧ ∀ (r : Addr) (H' : Hp), Same H H' → H r = none → H' r = some (.lst ((dueS L s ps).map V.int)) → Q (.ref r) H'
def spStepD (K : PySem.W.Frag) (cs : Kd → Addr) (cR cN : Addr) : Sp := fun vs H Q _ => ∃ (s x : Addr) (ns : List Int) (r : Int) (j : Nat) (D : List Addr) (R : List RC) (L : List LC) (N : List (List (Int × Int))), vs = [.ref s, .ref x, .int r, .int (j : Int)] ∧ SqL K H s (ns.map V.int) ∧ ns.length ≤ 63 ∧ j < 20 ∧ CnAt cs cR cN D H x R L N ∧ 1 ≤ L.length ∧ L.length ≤ 8 ∧ ∀ (t : Addr) (p : Nat × Bool) (H' : Hp), p.1 < L.length → Same H H' → PAt H' (.ref t) p → Q (.ref t) H'
theorem at_side {i : Int} (h0 : 0 ≤ i) (h1 : i < 2) : ∃ b : Bool, atI [V.str "up", V.str "down"] i = some (.str (sdS b)) := by
  obtain ⟨k, hk⟩ : ∃ k : Nat, i = (k : Int) := ⟨i.toNat, by omega⟩
  subst hk
  rcases k with _ | _ | k
  · exact ⟨true, rfl⟩
  · exact ⟨false, rfl⟩
  · omega
theorem eqs_step (p q : Nat × Bool) : eqs [V.int (p.1 : Int), V.str (sdS p.2)] [V.int (q.1 : Int), V.str (sdS q.2)] = decide (p = q) := by
  show ((decide ((p.1 : Int) = (q.1 : Int)) && (decide (sdS p.2 = sdS q.2) && true)) && true) = _
  obtain ⟨pk, pb⟩ := p
  obtain ⟨qk, qb⟩ := q
  have h1 : decide ((pk : Int) = (qk : Int)) = decide (pk = qk) := decide_eq_decide.mpr (by omega)
  have h2 : decide (sdS pb = sdS qb) = decide (pb = qb) := by
    refine decide_eq_decide.mpr ⟨fun h => ?_, fun h => by rw [h]⟩
    cases pb <;> cases qb
    · rfl
    · exact absurd h (by decide +kernel)
    · exact absurd h (by decide +kernel)
    · rfl
  rw [Bool.and_true, Bool.and_true]
  show (decide ((pk : Int) = (qk : Int)) && decide (sdS pb = sdS qb)) = _
  rw [h1, h2, ← Bool.decide_and]
  refine decide_eq_decide.mpr ?_
  rw [Prod.mk.injEq]
def stepF (H : Hp) (t : Addr) (p : Nat × Bool) (a : Addr) : Bool := if a = t then true else match H a with | some (.tup xs) => eqs xs [V.int (p.1 : Int), V.str (sdS p.2)] | _ => false
theorem stepF_is {K : PySem.W.Frag} {H : Hp} {t a : Addr} {p q : Nat × Bool} (ht : H t = some (.tup [.int (p.1 : Int), .str (sdS p.2)])) (ha : H a = some (.tup [.int (q.1 : Int), .str (sdS q.2)])) : DEq K H (.ref a) (.ref t) (stepF H t p a) ∧ stepF H t p a = decide (q = p) := by
  unfold stepF
  by_cases e : a = t
  · subst e
    rw [if_pos rfl]
    refine ⟨.same a, ?_⟩
    rw [ha] at ht
    have := eqs_step q p
    have e2 : [V.int (q.1 : Int), V.str (sdS q.2)] = [V.int (p.1 : Int), V.str (sdS p.2)] := by injection ht with ht; injection ht
    rw [e2, eqs_refl rfl] at this
    exact this
  · rw [if_neg e, ha]
    exact ⟨.tup e (SqT.of ha) (SqT.of ht) rfl rfl, eqs_step q p⟩
theorem any_steps (K : PySem.W.Frag) {H : Hp} {t : Addr} {p : Nat × Bool} (ht : H t = some (.tup [.int (p.1 : Int), .str (sdS p.2)])) : ∀ {us : List V} {qs : List (Nat × Bool)}, AllAt (PAt H) us qs → anyF (stepF H t p) us = decide (p ∈ qs) := by
  intro us
  induction us with
  | nil => intro qs h; cases qs with
    | nil => rfl
    | cons q r => exact absurd h.1 (by simp)
  | cons v us ih =>
    intro qs h
    cases qs with
    | nil => exact absurd h.1 (by simp)
    | cons q r =>
      obtain ⟨q', hq', a, rfl, ha⟩ := h.2 0 v rfl
      cases hq'
      have ht' : AllAt (PAt H) us r := ⟨by have := h.1; simpa using this, fun i w hw => h.2 (i + 1) w hw⟩
      show (stepF H t p a || anyF (stepF H t p) us) = _
      rw [ih ht', (stepF_is (K := K) ht ha).2, ← Bool.decide_or]
      refine decide_eq_decide.mpr ?_
      rw [List.mem_cons]
      exact or_congr ⟨fun e => e.symm, fun e => e.symm⟩ Iff.rfl
theorem okS_snoc {L : List LC} {s : Int} {ps : List (Nat × Bool)} {p : Nat × Bool} {a : Int} (h : (dueS L s ps)[ps.length]? = some a) : okS L s (ps ++ [p]) ↔ okS L s ps ∧ (endsOf L p).1 = a := by
  have e : ∀ j, j ≤ ps.length → (dueS L s (ps ++ [p]))[j]? = (dueS L s ps)[j]? := fun j hj => by
    rw [dueS_snoc, List.getElem?_append_left (by rw [dueS_len]; omega)]
  constructor
  · intro ok
    refine ⟨fun j q hq => ?_, ?_⟩
    · have hj : j < ps.length := (List.getElem?_eq_some_iff.mp hq).1
      have := ok j q (by rw [List.getElem?_append_left hj]; exact hq)
      rwa [e j (by omega)] at this
    · have := ok ps.length p (by rw [List.getElem?_append_right (Nat.le_refl _), Nat.sub_self]; rfl)
      rw [e _ (Nat.le_refl _), h] at this
      exact (Option.some.inj this).symm
  · rintro ⟨ok, ha⟩ j q hq
    by_cases hj : j < ps.length
    · rw [List.getElem?_append_left hj] at hq
      rw [e j (by omega)]
      exact ok j q hq
    · rw [List.getElem?_append_right (by omega)] at hq
      have hz : j - ps.length = 0 := by
        have := (List.getElem?_eq_some_iff.mp hq).1
        rw [List.length_singleton] at this
        omega
      rw [hz] at hq
      cases hq
      rw [show j = ps.length by omega, e _ (Nat.le_refl _), h, ha]
theorem refs_flat {H : Hp} {us : List V} {ps : List (Nat × Bool)} (h : AllAt (PAt H) us ps) : us.all flatR = true := by
  rw [List.all_eq_true]
  intro v hv
  obtain ⟨i, hi, e⟩ := List.mem_iff_getElem.mp hv
  obtain ⟨p, _, t, rfl, _⟩ := h.2 i v (by rw [List.getElem?_eq_getElem hi, e])
  rfl
theorem ints_flat (zs : List Int) : (zs.map V.int).all flatR = true := by
  rw [List.all_eq_true]
  intro x hx
  obtain ⟨z, _, rfl⟩ := List.mem_map.mp hx
  rfl
structure Txt (K : PySem.W.Frag) (mg : Str → Option Value) (cP cB cU : Addr) (cR : Addr) (cN : Addr) (eC eW eB eU eL : Addr) : Prop where
  z_list : mg "list" = none
  z_isinstance : mg "isinstance" = none
  z_bool : mg "bool" = none
  z_int : mg "int" = none
  z_len : mg "len" = none
  z_range : mg "range" = none
  z_ValueError : mg "ValueError" = none
  z_tuple : mg "tuple" = none
  cl : ∀ kd, Cls K ((kdC cP cB cU) kd)
  n_name : ∀ kd, NoAttr K ((kdC cP cB cU) kd) "name"
  n_high : ∀ kd, NoAttr K ((kdC cP cB cU) kd) "high"
  n_low : ∀ kd, NoAttr K ((kdC cP cB cU) kd) "low"
  n_room : ∀ kd, NoAttr K ((kdC cP cB cU) kd) "room"
  n_side : NoAttr K cB "side"
  n_lift : NoAttr K cU "lift"
  c_PlainLock : mg "PlainLock" = some (.ref cP)
  c_BasinLock : mg "BasinLock" = some (.ref cB)
  c_PumpLock : mg "PumpLock" = some (.ref cU)
  clR : Cls K cR
  nR_name : NoAttr K cR "name"
  nR_least : NoAttr K cR "least"
  nR_crest : NoAttr K cR "crest"
  nR_berths : NoAttr K cR "berths"
  nR_water : NoAttr K cR "water"
  nR_target : NoAttr K cR "target"
  c_Reach : mg "Reach" = some (.ref cR)
  clN : Cls K cN
  nN_reaches : NoAttr K cN "reaches"
  nN_locks : NoAttr K cN "locks"
  nN_nights : NoAttr K cN "nights"
  c_Canal : mg "Canal" = some (.ref cN)
  c_CanalError : mg "CanalError" = some (.ref eC)
  c_NotNow : mg "NotNow" = some (.ref eW)
  c_BadRow : mg "BadRow" = some (.ref eB)
  c_Unknown : mg "Unknown" = some (.ref eU)
  c_NotLinked : mg "NotLinked" = some (.ref eL)
  x_NotLinked : ExcC K eL
  at_NotLinked : ExcAttr K eL
  cl_NotLinked : (PySem.W.clsIn K eL).isSome = true
  exm_NotLinked : PySem.W.exmOne K (.ref eL) (.ref eC) = some true
  k_NotLinked_ValueError : PySem.W.kitOne K (.ref eL) (.type "ValueError") = some true
  k_NotLinked_NotLinked : PySem.W.kitOne K (.ref eL) (.ref eL) = some true
  ka_NotLinked_0 : PySem.W.kitAny K (.ref eL) [.ref eW, .ref eU, .ref eB] = some false
set_option maxHeartbeats 4000000
section
variable {P : Program} {w : World} {K : PySem.W.Frag} {mg : Str → Option Value} {base : Heap} {cP cB cU : Addr} {cR : Addr} {cN : Addr} {eC eW eB eU eL : Addr}
theorem sc_PlainLock___init__ : FnScope ["self", "name", "high", "low", "room"] ["self", "name", "high", "low", "room"] (defScope s_PlainLock___init__) := ⟨rfl, rfl, rfl, by decide +kernel, rfl, by decide +kernel, by decide +kernel⟩
theorem ok_s_PlainLock___init__ {f : Addr} {fd : FuncData} (F : Fun K "__init__" "PlainLock.__init__" s_PlainLock___init__ f fd) (T : Txt K mg cP cB cU cR cN eC eW eB eU eL)  : FnOk P w K mg base CX0 1 f fd ["self", "name", "high", "low", "room"] (spInit3 (kdC cP cB cU)) := by
  refine F.ok sc_PlainLock___init__ (fun vs H Q E h => ?_) (fun cdv A outer s H vs Q E hr h => ?_)
  · obtain ⟨kd, x, dx, n, h₁, l, r, rfl, hx, q⟩ := h
    rfl
  obtain ⟨kd, x, dx, n, h₁, l, r, rfl, hx, q⟩ := h
  have hu : _ < cLine := hr.units0
  have hu1 := hu_of hr
  refine ⟨_, (@pss_cons _ _ _ _ _ (ps_fld (pv 0) (pv 1) rfl)
      (@pss_cons _ _ _ _ _ (ps_fld (pv 0) (pv 2) rfl)
      (@pss_cons _ _ _ _ _ (ps_fld (pv 0) (pv 3) rfl)
      (@pss_one _ _ _ (ps_fld (pv 0) (pv 4) rfl))))), ?_⟩
  refine ⟨_, rfl, _, rfl, x, _, dx, _, rfl, hx, T.cl kd, T.n_name kd, (by show 0 < 1000; decide), ?_⟩
  refine ⟨_, rfl, _, rfl, x, _, dx, _, rfl, upd_same, T.cl kd, T.n_high kd, (by show 1 < 1000; decide), ?_⟩
  refine ⟨_, rfl, _, rfl, x, _, dx, _, rfl, upd_same, T.cl kd, T.n_low kd, ?_, ?_⟩
  · have := length_putF "high" h₁ (putF "name" n [])
    have h2 : (putF ("name" : Str) n []).length = 1 := rfl
    omega
  refine ⟨_, rfl, _, rfl, x, _, dx, _, rfl, upd_same, T.cl kd, T.n_room kd, ?_, ?_⟩
  · have := length_putF "low" l (putF "high" h₁ (putF "name" n []))
    have h1 := length_putF "high" h₁ (putF "name" n [])
    have h2 : (putF ("name" : Str) n []).length = 1 := rfl
    omega
  exact q _ (((((Keep.refl x H).upd _).upd _).upd _).upd _) upd_same
theorem sc_BasinLock___init__ : FnScope ["self", "name", "high", "low", "room", "side"] ["self", "name", "high", "low", "room", "side"] (defScope s_BasinLock___init__) := ⟨rfl, rfl, rfl, by decide +kernel, rfl, by decide +kernel, by decide +kernel⟩
theorem ok_s_BasinLock___init__ {f : Addr} {fd : FuncData} (F : Fun K "__init__" "BasinLock.__init__" s_BasinLock___init__ f fd) (T : Txt K mg cP cB cU cR cN eC eW eB eU eL) (CM_PlainLock___init__ : CmD P w K mg base 1 "PlainLock" cP "__init__" ["self", "name", "high", "low", "room"] (spInit3 (kdC cP cB cU))) : FnOk P w K mg base CX0 2 f fd ["self", "name", "high", "low", "room", "side"] (spInit4 (kdC cP cB cU) .basin) := by
  refine F.ok sc_BasinLock___init__ (fun vs H Q E h => ?_) (fun cdv A outer s H vs Q E hr h => ?_)
  · obtain ⟨x, dx, n, h₁, l, r, v, rfl, hx, q⟩ := h
    rfl
  obtain ⟨x, dx, n, h₁, l, r, v, rfl, hx, q⟩ := h
  have hu : _ < cLine := hr.units0
  have hu1 := hu_of hr
  refine ⟨_, (@pss_cons _ _ _ _ _ (ps_expr (pe_clsm CM_PlainLock___init__ hr rfl (@pa_cons _ _ _ _ _ (pv 0) (@pa_cons _ _ _ _ _ (pv 1) (@pa_cons _ _ _ _ _ (pv 2) (@pa_cons _ _ _ _ _ (pv 3) (@pa_cons _ _ _ _ _ (pv 4) pa_nil (by rfl)) (by rfl)) (by rfl)) (by rfl)) (by rfl))))
      (@pss_one _ _ _ (ps_fld (pv 0) (pv 5) rfl))), ?_⟩
  refine ⟨_, rfl, _, rfl, _, rfl, _, rfl, _, rfl, .basin, x, dx, n, h₁, l, r, rfl, hx, fun H' kp hx' => ?_⟩
  refine ⟨_, rfl, _, rfl, x, _, dx, _, rfl, hx', T.cl .basin, T.n_side, lockFs_len _ _ _ _, ?_⟩
  exact q _ (kp.upd _) upd_same
theorem sc_PumpLock___init__ : FnScope ["self", "name", "high", "low", "room", "lift"] ["self", "name", "high", "low", "room", "lift"] (defScope s_PumpLock___init__) := ⟨rfl, rfl, rfl, by decide +kernel, rfl, by decide +kernel, by decide +kernel⟩
theorem ok_s_PumpLock___init__ {f : Addr} {fd : FuncData} (F : Fun K "__init__" "PumpLock.__init__" s_PumpLock___init__ f fd) (T : Txt K mg cP cB cU cR cN eC eW eB eU eL) (CM_PlainLock___init__ : CmD P w K mg base 1 "PlainLock" cP "__init__" ["self", "name", "high", "low", "room"] (spInit3 (kdC cP cB cU))) : FnOk P w K mg base CX0 2 f fd ["self", "name", "high", "low", "room", "lift"] (spInit4 (kdC cP cB cU) .pump) := by
  refine F.ok sc_PumpLock___init__ (fun vs H Q E h => ?_) (fun cdv A outer s H vs Q E hr h => ?_)
  · obtain ⟨x, dx, n, h₁, l, r, v, rfl, hx, q⟩ := h
    rfl
  obtain ⟨x, dx, n, h₁, l, r, v, rfl, hx, q⟩ := h
  have hu : _ < cLine := hr.units0
  have hu1 := hu_of hr
  refine ⟨_, (@pss_cons _ _ _ _ _ (ps_expr (pe_clsm CM_PlainLock___init__ hr rfl (@pa_cons _ _ _ _ _ (pv 0) (@pa_cons _ _ _ _ _ (pv 1) (@pa_cons _ _ _ _ _ (pv 2) (@pa_cons _ _ _ _ _ (pv 3) (@pa_cons _ _ _ _ _ (pv 4) pa_nil (by rfl)) (by rfl)) (by rfl)) (by rfl)) (by rfl))))
      (@pss_one _ _ _ (ps_fld (pv 0) (pv 5) rfl))), ?_⟩
  refine ⟨_, rfl, _, rfl, _, rfl, _, rfl, _, rfl, .pump, x, dx, n, h₁, l, r, rfl, hx, fun H' kp hx' => ?_⟩
  refine ⟨_, rfl, _, rfl, x, _, dx, _, rfl, hx', T.cl .pump, T.n_lift, lockFs_len _ _ _ _, ?_⟩
  exact q _ (kp.upd _) upd_same
theorem sc_Reach___init__ : FnScope ["self", "name", "least", "crest", "berths", "water", "target"] ["self", "name", "least", "crest", "berths", "water", "target"] (defScope s_Reach___init__) := ⟨rfl, rfl, rfl, by decide +kernel, rfl, by decide +kernel, by decide +kernel⟩
theorem ok_s_Reach___init__ {f : Addr} {fd : FuncData} (F : Fun K "__init__" "Reach.__init__" s_Reach___init__ f fd) (T : Txt K mg cP cB cU cR cN eC eW eB eU eL)  : FnOk P w K mg base CX0 1 f fd ["self", "name", "least", "crest", "berths", "water", "target"] (spInitReach cR) := by
  refine F.ok sc_Reach___init__ (fun vs H Q E h => ?_) (fun cdv A outer s H vs Q E hr h => ?_)
  · obtain ⟨x, dx, v_name, v_least, v_crest, v_berths, v_water, v_target, rfl, hx, q⟩ := h
    rfl
  obtain ⟨x, dx, v_name, v_least, v_crest, v_berths, v_water, v_target, rfl, hx, q⟩ := h
  have hu : _ < cLine := hr.units0
  have hu1 := hu_of hr
  refine ⟨_, (@pss_cons _ _ _ _ _ (ps_fld (pv 0) (pv 1) rfl)
      (@pss_cons _ _ _ _ _ (ps_fld (pv 0) (pv 2) rfl)
      (@pss_cons _ _ _ _ _ (ps_fld (pv 0) (pv 3) rfl)
      (@pss_cons _ _ _ _ _ (ps_fld (pv 0) (pv 4) rfl)
      (@pss_cons _ _ _ _ _ (ps_fld (pv 0) (pv 5) rfl)
      (@pss_one _ _ _ (ps_fld (pv 0) (pv 6) rfl))))))), ?_⟩
  have ln : ∀ (f : Str) (z : V) (fs : List (Str × V)) (m : Nat), fs.length ≤ m → (putF f z fs).length ≤ m + 1 := fun f z fs m h => Nat.le_trans (length_putF f z fs) (by omega)
  have l0 : ([] : List (Str × V)).length ≤ 0 := Nat.le_refl _
  refine ⟨_, rfl, _, rfl, x, cR, dx, _, rfl, hx, T.clR, T.nR_name, by omega, ?_⟩
  have l1 := ln "name" v_name _ _ l0
  refine ⟨_, rfl, _, rfl, x, cR, dx, _, rfl, upd_same, T.clR, T.nR_least, by omega, ?_⟩
  have l2 := ln "least" v_least _ _ l1
  refine ⟨_, rfl, _, rfl, x, cR, dx, _, rfl, upd_same, T.clR, T.nR_crest, by omega, ?_⟩
  have l3 := ln "crest" v_crest _ _ l2
  refine ⟨_, rfl, _, rfl, x, cR, dx, _, rfl, upd_same, T.clR, T.nR_berths, by omega, ?_⟩
  have l4 := ln "berths" v_berths _ _ l3
  refine ⟨_, rfl, _, rfl, x, cR, dx, _, rfl, upd_same, T.clR, T.nR_water, by omega, ?_⟩
  have l5 := ln "water" v_water _ _ l4
  refine ⟨_, rfl, _, rfl, x, cR, dx, _, rfl, upd_same, T.clR, T.nR_target, by omega, ?_⟩
  have l6 := ln "target" v_target _ _ l5
  exact q _ _ (((((((Keep.refl x H).upd _).upd _).upd _).upd _).upd _).upd _) upd_same (Reach_made _ _ _ _ _ _)
theorem sc_Canal___init__ : FnScope ["self", "reaches", "locks", "nights"] ["self", "reaches", "locks", "nights"] (defScope s_Canal___init__) := ⟨rfl, rfl, rfl, by decide +kernel, rfl, by decide +kernel, by decide +kernel⟩
theorem ok_s_Canal___init__ {f : Addr} {fd : FuncData} {ds : List Value} (F : FunD K "__init__" "Canal.__init__" s_Canal___init__ f fd ds) (T : Txt K mg cP cB cU cR cN eC eW eB eU eL)  : FnOk P w K mg base CX0 1 f fd ["self", "reaches", "locks", "nights"] (spInitCanal (kdC cP cB cU) cR cN) := by
  refine F.ok sc_Canal___init__ (fun vs H Q E h => ?_) (fun cdv A outer s H vs Q E hr h => ?_)
  · obtain ⟨x, dx, rl, ll, nv, rs, ls, R, L, N, rfl, hx, hrl, hll, hR, hL, hN, q⟩ := h
    rfl
  obtain ⟨x, dx, rl, ll, nv, rs, ls, R, L, N, rfl, hx, hrl, hll, hR, hL, hN, q⟩ := h
  have hu : _ < cLine := hr.units0
  have hu1 := hu_of hr
  refine ⟨_, (@pss_cons _ _ _ _ _ (ps_fld (pv 0) (pe_callTy call_list_of (by rfl) T.z_list PyProof.Rows.boot_list (pa_cons (pv 1) pa_nil)) rfl)
      (@pss_cons _ _ _ _ _ (ps_fld (pv 0) (pe_callTy call_list_of (by rfl) T.z_list PyProof.Rows.boot_list (pa_cons (pv 2) pa_nil)) rfl)
      (@pss_one _ _ _ (ps_fld (pv 0) (pe_ifExp (pt_cmpR op_isN (pv 3) pe_non (nomark _)) (pe_lst pa_nil) (pe_comp ["night"] (capF 1 []) rfl (compScope (defScope s_Canal___init__) rfl rfl (by decide +kernel) (by decide +kernel) (by decide +kernel)) (caps_of 1 [] rfl rfl (by decide +kernel)) (pi_list (pv 3)) (fun _ _ _ _ _ => (pg_name (i := 0) (show List.Nodup (["night"] : List Str) from by decide +kernel) rfl (by first | exact Or.inl rfl | exact Or.inr rfl))) (fun _ _ _ _ _ => pts_nil) (fun _ _ _ _ _ => (pe_callTy (call_list_ofK K) (by rfl) T.z_list PyProof.Rows.boot_list (pa_cons (pv 0) pa_nil))))) rfl)))), ?_⟩
  have ln : ∀ (f : Str) (z : V) (fs : List (Str × V)) (m : Nat), fs.length ≤ m → (putF f z fs).length ≤ m + 1 := fun f z fs m h => Nat.le_trans (length_putF f z fs) (by omega)
  have nrx : rl ≠ x := ne_of hrl hx (fun z => nomatch z)
  have nlx : ll ≠ x := ne_of hll hx (fun z => nomatch z)
  refine ⟨_, rfl, rl, _, rfl, .inl (SqL.of hrl), fun r2 hr20 => ?_⟩
  have s1 := same_new hr20 (.lst rs)
  have nr2 : r2 ≠ x := (ne_of_none hx hr20).symm
  refine ⟨_, rfl, x, cN, dx, _, rfl, s1 _ _ hx, T.clN, T.nN_reaches, (by show 0 < 1000; decide), ?_⟩
  have k1 : Keep x H (upd (upd H r2 (.lst rs)) x (.ins cN dx (putF "reaches" (.ref r2) []))) := (Keep.of s1).upd _
  have hr2 : upd (upd H r2 (.lst rs)) x (.ins cN dx (putF "reaches" (.ref r2) [])) r2 = some (.lst rs) := by rw [upd_ne nr2]; exact upd_same
  have hx1 : upd (upd H r2 (.lst rs)) x (.ins cN dx (putF "reaches" (.ref r2) [])) x = some (.ins cN dx (putF "reaches" (.ref r2) [])) := upd_same
  generalize upd (upd H r2 (.lst rs)) x (.ins cN dx (putF "reaches" (.ref r2) [])) = H1 at k1 hr2 hx1 ⊢
  have l1 := ln "reaches" (.ref r2) [] 0 (Nat.le_refl _)
  refine ⟨_, rfl, ll, _, rfl, .inl (SqL.of (k1 _ _ nlx hll)), fun l2 hl20 => ?_⟩
  have s2 := same_new hl20 (.lst ls)
  have nl2 : l2 ≠ x := (ne_of_none hx1 hl20).symm
  refine ⟨_, rfl, x, cN, dx, _, rfl, s2 _ _ hx1, T.clN, T.nN_locks, by omega, ?_⟩
  have l2' := ln "locks" (.ref l2) _ _ l1
  have k2 : Keep x H (upd (upd H1 l2 (.lst ls)) x (.ins cN dx (putF "locks" (.ref l2) (putF "reaches" (.ref r2) [])))) := (k1.trans (Keep.of s2)).upd _
  have hr2b : upd (upd H1 l2 (.lst ls)) x (.ins cN dx (putF "locks" (.ref l2) (putF "reaches" (.ref r2) []))) r2 = some (.lst rs) := by rw [upd_ne nr2]; exact s2 _ _ hr2
  have hl2 : upd (upd H1 l2 (.lst ls)) x (.ins cN dx (putF "locks" (.ref l2) (putF "reaches" (.ref r2) []))) l2 = some (.lst ls) := by rw [upd_ne nl2]; exact upd_same
  have hx2 : upd (upd H1 l2 (.lst ls)) x (.ins cN dx (putF "locks" (.ref l2) (putF "reaches" (.ref r2) []))) x = some (.ins cN dx (putF "locks" (.ref l2) (putF "reaches" (.ref r2) []))) := upd_same
  generalize upd (upd H1 l2 (.lst ls)) x (.ins cN dx (putF "locks" (.ref l2) (putF "reaches" (.ref r2) []))) = H2 at k2 hr2b hl2 hx2 ⊢
  have frR : ∀ D : List Addr, (∀ d ∈ D, H d ≠ none) → r2 ∉ D := fun D hD z => hD _ z hr20
  have frL : ∀ D : List Addr, (∀ d ∈ D, H d ≠ none) → l2 ∉ D := fun D hD z => by
    by_cases e : l2 = x
    · exact nl2 e
    · cases hh : H l2 with
      | none => exact hD _ z hh
      | some o => rw [k1 _ _ e hh] at hl20; cases hl20
  have done : ∀ (n2 : Addr) (ns : List V) (H3 : Hp), Keep x H2 H3 → H2 n2 = none → H3 x = some (.ins cN dx (putF "locks" (.ref l2) (putF "reaches" (.ref r2) []))) → H3 n2 = some (.lst ns) → (∀ D : List Addr, (∀ d ∈ D, H2 d ≠ none) → AllAt (NAt D H3) ns N) → Q .non (upd H3 x (.ins cN dx (putF "nights" (.ref n2) (putF "locks" (.ref l2) (putF "reaches" (.ref r2) []))))) := by
    intro n2 ns H3 k3 hn20 hx3 hn2 hNs
    have kf : Keep x H (upd H3 x (.ins cN dx (putF "nights" (.ref n2) (putF "locks" (.ref l2) (putF "reaches" (.ref r2) []))))) := (k2.trans k3).upd _
    have kl : Keep x H3 (upd H3 x (.ins cN dx (putF "nights" (.ref n2) (putF "locks" (.ref l2) (putF "reaches" (.ref r2) []))))) := (Keep.refl x H3).upd _
    have nn2 : n2 ≠ x := fun z => by rw [z, hx2] at hn20; cases hn20
    have old : ∀ d, H d ≠ none → H2 d ≠ none := fun d hd => by
      by_cases e : d = x
      · rw [e, hx2]; exact fun z => nomatch z
      · cases hh : H d with
        | none => exact absurd hh hd
        | some o => rw [k2 _ _ e hh]; exact fun z => nomatch z
    refine q _ kf fun D hD => ⟨dx, r2, l2, n2, _, rs, ls, ns, upd_same, Canal_made _ _ _, ?_, ?_, ?_, hR.mono (RcO.keepI kf hx), hL.mono (LkO.keepI kf hx), ?_, frR D hD, frL D hD, fun z => old _ (hD _ z) hn20⟩
    · rw [upd_ne nr2]; exact k3 _ _ nr2 hr2b
    · rw [upd_ne nl2]; exact k3 _ _ nl2 hl2
    · rw [upd_ne nn2]; exact hn2
    · refine (hNs D (fun d hd => old d (hD d hd))).mono ?_
      rintro v p ⟨l, qs, e1, e2, e3, e4⟩
      exact ⟨l, qs, e1, kl _ _ (fun z => by rw [z, hx3] at e2; cases e2) e2, e3.mono (QAt.keep kl hx3 (fun _ z => nomatch z)), e4⟩
  refine ⟨_, rfl, rfl, _, rfl, ?_⟩
  rcases hN with ⟨rfl, rfl⟩ | ⟨nl, ns, rfl, hnl, hN, hnl100⟩
  · refine iteDT rfl ⟨(by show 0 ≤ sizeLine; decide), fun n2 hn20 => ?_⟩
    have s3 := same_new hn20 (.lst [])
    refine ⟨_, rfl, x, cN, dx, _, rfl, s3 _ _ hx2, T.clN, T.nN_nights, by omega, ?_⟩
    exact done n2 [] _ (Keep.of s3) hn20 (s3 _ _ hx2) upd_same (fun D _ => AllAt.nil)
  · have nnx : nl ≠ x := ne_of hnl hx (fun z => nomatch z)
    have hnl2 := k2 _ _ nnx hnl
    have hN2 : AllAt (NAt [] H2) ns N := hN.mono fun v p => by
      rintro ⟨l, qs, e1, e2, e3, e4⟩
      exact ⟨l, qs, e1, k2 _ _ (ne_of e2 hx (fun z => nomatch z)) e2, e3.mono (QAt.keep k2 hx (fun _ z => nomatch z)), e4⟩
    refine iteDF (fun z => nomatch z) ⟨_, rfl, nl, rfl, ⟨_, SqL.of hnl2⟩, fun n2 hn20 => ?_⟩
    refine comp_listR (K := K) (a := nl) (xs := ns) (caps := []) (fun i ys Hi => (∀ D : List Addr, n2 ∈ D → (∀ d ∈ D, d ≠ n2 → H2 d ≠ none) → AllAt (NAt D Hi) ys (N.take i)) ) hn20 (SqL.of hnl2) (fun D _ _ => AllAt.nil) ?_ ?_
    · rintro i v ys Hi hv hi hle sm hY hI
      obtain ⟨p, hp, l, qs, rfl, hl, hq, _⟩ := hN2.2 i v hv
      refine rd_yes (iteT ?_)
      refine ⟨_, rfl, l, qs, rfl, .inl (SqL.of (sm _ _ hl)), fun c hc0 => ?_⟩
      have u := same_new hc0 (.lst qs)
      refine comp_put hn20 sm hY hle (by omega) u ?_
      intro D hnD hD
      rw [List.take_add_one, hp]
      refine (((hI D hnD hD).mono (NAt.same u)).snoc (v := .ref c) (x := p) ⟨c, qs, rfl, upd_same, (hq.mono (QAt.same sm)).mono (QAt.same u), fun z => ?_⟩).mono (NAt.put (u _ _ hY) hnD)
      by_cases e : c = n2
      · rw [e, hY] at hc0; cases hc0
      · cases hh : H2 c with
        | none => exact hD _ z e hh
        | some o => rw [sm _ _ hh] at hc0; cases hc0
    rintro ys H3 s3 hY hle hI
    rw [hN2.1, List.take_length] at hI
    refine ⟨_, rfl, x, cN, dx, _, rfl, s3 _ _ hx2, T.clN, T.nN_nights, by omega, ?_⟩
    exact done n2 ys H3 (Keep.of s3) hn20 (s3 _ _ hx2) hY (fun D hD => (hI (n2 :: D) List.mem_cons_self (fun d hd ne => (List.mem_cons.mp hd).elim (fun z => absurd z ne) (hD d))).mono (NAt.less (fun d hd => List.mem_cons_of_mem _ hd)))
theorem sc_step_ends : FnScope ["lock", "side"] ["lock", "side"] (defScope s_step_ends) := ⟨rfl, rfl, rfl, by decide +kernel, rfl, by decide +kernel, by decide +kernel⟩
theorem ok_s_step_ends {f : Addr} {fd : FuncData} (F : Fun K "step_ends" "step_ends" s_step_ends f fd) (T : Txt K mg cP cB cU cR cN eC eW eB eU eL)  : FnOk P w K mg base CX0 1 f fd ["lock", "side"] (spEnds (kdC cP cB cU)) := by
  refine F.ok sc_step_ends (fun vs H Q E h => ?_) (fun cdv A outer s H vs Q E hr h => ?_)
  · obtain ⟨y, l, b, rfl, ⟨y₂, e, dl, hl⟩, q⟩ := h
    rfl
  obtain ⟨y, l, b, rfl, ⟨y₂, e, dl, hl⟩, q⟩ := h
  have hu : _ < cLine := hr.units0
  have hu1 := hu_of hr
  refine ⟨_, (@pss_one _ _ _ (@ps_ret _ _ _ _ (pe_ifExp (pt_cmpR op_eq (pv 1) pe_str (nomark _)) (pe_tup (pa_cons (pe_fld (pv 0) rfl) (pa_cons (pe_fld (pv 0) rfl) pa_nil))) (pe_tup (pa_cons (pe_fld (pv 0) rfl) (pa_cons (pe_fld (pv 0) rfl) pa_nil)))))), ?_⟩
  cases e
  refine ⟨_, rfl, rfl, _, rfl, ?_⟩
  rw [dec_sd]
  cases b with
  | true => exact iteT ⟨_, rfl, y, _, dl, _, _, rfl, hl, T.cl l.kd, T.n_low l.kd, fk_low l.kd _ _ _ _ _, _, rfl, y, _, dl, _, _, rfl, hl, T.cl l.kd, T.n_high l.kd, fk_high l.kd _ _ _ _ _, (by show 2 ≤ sizeLine; decide), fun t ht => q t _ (same_new ht _) ht upd_same⟩
  | false => exact iteF ⟨_, rfl, y, _, dl, _, _, rfl, hl, T.cl l.kd, T.n_high l.kd, fk_high l.kd _ _ _ _ _, _, rfl, y, _, dl, _, _, rfl, hl, T.cl l.kd, T.n_low l.kd, fk_low l.kd _ _ _ _ _, (by show 2 ≤ sizeLine; decide), fun t ht => q t _ (same_new ht _) ht upd_same⟩
theorem sc_linked : FnScope ["canal", "start", "steps", "along", "k", "side", "ends"] ["canal", "start", "steps"] (defScope s_linked) := ⟨rfl, rfl, rfl, by decide +kernel, rfl, by decide +kernel, by decide +kernel⟩
theorem ok_s_linked {f : Addr} {fd : FuncData} (F : Fun K "linked" "linked" s_linked f fd) (T : Txt K mg cP cB cU cR cN eC eW eB eU eL) (D_step_ends : Def P w K mg base 1 "step_ends" ["lock", "side"] [] (spEnds (kdC cP cB cU))) : FnOk P w K mg base (CXE P w) 2 f fd ["canal", "start", "steps"] (spLinked K (kdC cP cB cU) cR cN eL) := by
  refine F.okX sc_linked (fun vs H Q E h => ?_) (fun cdv A outer s H vs Q E hr h => ?_)
  · obtain ⟨x, st, s₁, us, ps, D, R, L, N, rfl, ⟨dx, rl, ll, nl, fs, rs, ls, ns, hx, hf, hrl, hll, hnl, hR, hL, hN, d1, d2, d3⟩, hst, hP, hlt, h100, qv, qe⟩ := h
    rfl
  obtain ⟨x, st, s₁, us, ps, D, R, L, N, rfl, ⟨dx, rl, ll, nl, fs, rs, ls, ns, hx, hf, hrl, hll, hnl, hR, hL, hN, d1, d2, d3⟩, hst, hP, hlt, h100, qv, qe⟩ := h
  have hu : _ < cLine := hr.units0
  have hu1 := hu_of hr
  refine ⟨_, (@pss_cons _ _ _ _ _ (ps_set (i := 3) sc_linked.nd rfl (by first | exact Or.inl rfl | exact Or.inr rfl) (pe_lst (pa_cons (pv 1) pa_nil)))
      (@pss_cons _ _ _ _ _ (ps_for own_cx rfl (pi_tup (pv 2)) (pg_tup rfl (pgs_cons (pg_name (i := 4) sc_linked.nd rfl (by first | exact Or.inl rfl | exact Or.inr rfl)) (pgs_cons (pg_name (i := 5) sc_linked.nd rfl (by first | exact Or.inl rfl | exact Or.inr rfl)) pgs_nil)))
        (@pss_cons _ _ _ _ _ (ps_set (i := 6) sc_linked.nd rfl (by first | exact Or.inl rfl | exact Or.inr rfl) (pe_def D_step_ends hr rfl (pa_cons (pe_ix ix_list (pe_fld (pv 0) rfl) (pv 4) (fun _ _ => rfl)) (pa_cons (pv 5) pa_nil))))
      (@pss_cons _ _ _ _ _ (ps_if (pt_cmpR op_ne (pe_ix ix_tup (pv 6) pe_int (fun _ _ => rfl)) (pe_ix ix_list (pv 3) (pe_un un_neg pe_int) (fun _ _ => rfl)) (nomark _)) (@pss_one _ _ _ (ps_raise throws_cx rfl rfl T.c_NotLinked T.x_NotLinked (pa_cons pe_str pa_nil))) pss_nil)
      (@pss_one _ _ _ (ps_expr (pe_bm PySem.F.plainAttrs_list PySem.F.slot_list_append PySem.F.type_list_append mt_append (pv 3) (pa_cons (pe_ix ix_tup (pv 6) pe_int (fun _ _ => rfl)) pa_nil)))))))
      (@pss_one _ _ _ (@ps_ret _ _ _ _ (pv 3))))), ?_⟩
  refine ⟨_, rfl, (by show 1 ≤ sizeLine; decide), fun al hal0 => ?_⟩
  have s1 := same_new hal0 (.lst [V.int s₁])
  refine ⟨_, rfl, st, rfl, ⟨_, SqT.of (s1 _ _ hst)⟩, for_tup (K := K) (a := st) (xs := us) (fun i σ Hi => ∃ c4 c5 c6 : Option V, σ = [some (.ref x), some (.int s₁), some (.ref st), some (.ref al), c4, c5, c6] ∧ Hi al = some (.lst ((dueS L s₁ (ps.take i)).map V.int)) ∧ (∀ (j : Nat) (p : Nat × Bool), j < i → ps[j]? = some p → (dueS L s₁ ps)[j]? = some (endsOf L p).1) ∧ Same H Hi)
    ⟨none, none, none, rfl, upd_same, fun j p hj => absurd hj (Nat.not_lt_zero j), s1⟩ (fun i σ Hi _ ⟨_, _, _, _, _, _, s⟩ => SqT.of (s _ _ hst)) ?_ ?_⟩
  · rintro i v σ Hi hv ⟨c4, c5, c6, rfl, hal, hok, sm⟩
    obtain ⟨⟨pk, pb⟩, hp, t, rfl, ht⟩ := hP.2 i v hv
    have hpl : pk < L.length := hlt _ (List.mem_of_getElem? hp)
    have hi : i < ps.length := (List.getElem?_eq_some_iff.mp hp).1
    obtain ⟨l, hl'⟩ : ∃ l, L[pk]? = some l := ⟨_, List.getElem?_eq_getElem hpl⟩
    obtain ⟨w, hw, y, rfl, dl, hl⟩ := hL.get hl'
    have hdl : (dueS L s₁ (ps.take i)).length = i + 1 := by rw [dueS_len, List.length_take]; omega
    obtain ⟨z, hz⟩ : ∃ z, (dueS L s₁ (ps.take i))[i]? = some z := ⟨_, List.getElem?_eq_getElem (by omega)⟩
    have hlast : atI ((dueS L s₁ (ps.take i)).map V.int) (-1) = some (.int z) := atI_last (n := i) (by rw [List.length_map, hdl]) (by rw [List.getElem?_map, hz]; rfl)
    refine ⟨t, _, rfl, SqT.of (sm _ _ ht), rfl, _, _, rfl, _, _, rfl, rfl, ?_⟩
    refine ⟨_, rfl, x, cN, dx, _, _, rfl, (sm _ _ hx), T.clN, T.nN_locks, hf.2.1, _, rfl, ll, _, _, _, rfl, rfl, SqL.of (sm _ _ hll), atI_nat hw, _, rfl, y, l, pb, rfl, ⟨y, rfl, dl, sm _ _ hl⟩, fun te He se hte0 hte => ?_⟩
    have smE := sm.trans se
    have halE := se _ _ hal
    have ee : endsOf L (pk, pb) = (if pb then l.low else l.high, if pb then l.high else l.low) := by cases pb; exact ends_down hl'; exact ends_up hl'
    have hdue : (dueS L s₁ ps)[i]? = some z := by rw [dueS_at (by omega)]; exact hz
    refine ⟨_, rfl, te, _, _, _, rfl, rfl, SqT.of hte, rfl, _, rfl, _, rfl, al, _, _, _, rfl, rfl, SqL.of halE, hlast, rfl, _, rfl, ?_⟩
    by_cases h : (if pb then l.low else l.high) = z
    · refine iteNS (congrArg V.int h) ?_
      refine ⟨_, rfl, .inl ⟨rfl, _, SqL.of halE⟩, _, rfl, te, _, _, _, rfl, rfl, SqT.of hte, rfl, al, _, _, rfl, rfl, halE, small1000 (by rw [List.length_map, hdl]; omega), ?_⟩
      refine ⟨_, _, _, rfl, ?_, fun j p hj hpj => ?_, same_upd hal0 smE⟩
      · rw [upd_same, List.take_add_one, hp]
        show _ = some (HO.lst ((dueS L s₁ (ps.take i ++ [(pk, pb)])).map V.int))
        rw [dueS_snoc, List.map_append, ee]
        rfl
      · by_cases c : j = i
        · subst c
          rw [hp] at hpj
          cases hpj
          rw [hdue, ee, h]
        · exact hok j p (by omega) hpj
    · refine iteNT (fun e => h (V.int.inj e)) ⟨by show 1 ≤ sizeLine; decide, qe (fun ok => h ?_) _ smE⟩
      have := ok i _ hp
      rw [hdue, ee] at this
      exact (Option.some.inj this).symm
  rintro σ Hi ⟨c4, c5, c6, rfl, hal, hok, sm⟩
  rw [hP.1, List.take_length] at hal
  exact ⟨_, rfl, qv (fun j p hp => hok j p (by rw [hP.1]; exact (List.getElem?_eq_some_iff.mp hp).1) hp) al Hi sm hal0 hal⟩
theorem sc__law_whole : FnScope ["found"] ["found"] (defScope s__law_whole) := ⟨rfl, rfl, rfl, by decide +kernel, rfl, by decide +kernel, by decide +kernel⟩
theorem ok_s__law_whole {f : Addr} {fd : FuncData} (F : Fun K "_law_whole" "_law_whole" s__law_whole f fd) (T : Txt K mg cP cB cU cR cN eC eW eB eU eL)  : FnOk P w K mg base CX0 1 f fd ["found"] (spWhole) := by
  refine F.ok sc__law_whole (fun vs H Q E h => ?_) (fun cdv A outer s H vs Q E hr h => ?_)
  · obtain ⟨i, rfl, q⟩ := h
    rfl
  obtain ⟨i, rfl, q⟩ := h
  have hu : _ < cLine := hr.units0
  have hu1 := hu_of hr
  refine ⟨_, (@pss_one _ _ _ (@ps_ret _ _ _ _ (pe_and (pe_callB call_isi (by rfl) T.z_isinstance PyProof.Rows.boot_isinstance (pa_cons (pv 0) (pa_cons (pe_bltn (v := .ty "int") rfl T.z_int PyProof.Rows.boot_int rfl) pa_nil))) (pe_one (pe_not (pe_callB call_isi (by rfl) T.z_isinstance PyProof.Rows.boot_isinstance (pa_cons (pv 0) (pa_cons (pe_bltn (v := .ty "bool") rfl T.z_bool PyProof.Rows.boot_bool rfl) pa_nil)))))))), ?_⟩
  refine ⟨_, rfl, _, _, _, _, _, rfl, rfl, TyOf.int i, kit_same "int", true, rfl, iteT ?_⟩
  exact ⟨_, rfl, _, _, _, _, _, rfl, rfl, TyOf.int i, kit_int_bool, false, rfl, q⟩
theorem sc__law_draw : FnScope ["script", "k", "many", "cell"] ["script", "k", "many"] (defScope s__law_draw) := ⟨rfl, rfl, rfl, by decide +kernel, rfl, by decide +kernel, by decide +kernel⟩
theorem ok_s__law_draw {f : Addr} {fd : FuncData} (F : Fun K "_law_draw" "_law_draw" s__law_draw f fd) (T : Txt K mg cP cB cU cR cN eC eW eB eU eL)  : FnOk P w K mg base CX0 1 f fd ["script", "k", "many"] (spDraw K) := by
  refine F.ok sc__law_draw (fun vs H Q E h => ?_) (fun cdv A outer s H vs Q E hr h => ?_)
  · obtain ⟨s, ns, k, m, rfl, hS, h63, hk0, hk1, hm, q⟩ := h
    rfl
  obtain ⟨s, ns, k, m, rfl, hS, h63, hk0, hk1, hm, q⟩ := h
  have hu : _ < cLine := hr.units0
  have hu1 := hu_of hr
  refine ⟨_, (@pss_cons _ _ _ _ _ (ps_if (pt_cmpR op_eq (pe_callB call_len_seq (by rfl) T.z_len PySem.boot_len (pa_cons (pv 0) pa_nil)) pe_int (nomark _)) (@pss_one _ _ _ (@ps_ret _ _ _ _ (@pe_op _ _ _ _ _ _ _ _ op_mod (@pe_op _ _ _ _ _ _ _ _ op_add (@pe_op _ _ _ _ _ _ _ _ op_mul (@pe_op _ _ _ _ _ _ _ _ op_mul (pv 1) (pv 1)) pe_int) (@pe_op _ _ _ _ _ _ _ _ op_mul pe_int (pv 1))) (pv 2)))) pss_nil)
      (@pss_cons _ _ _ _ _ (ps_set (i := 3) sc__law_draw.nd rfl (by first | exact Or.inl rfl | exact Or.inr rfl) (@pe_op _ _ _ _ _ _ _ _ op_mod (pe_ix ix_list (pv 0) (@pe_op _ _ _ _ _ _ _ _ op_mod (pv 1) (pe_callB call_len_seq (by rfl) T.z_len PySem.boot_len (pa_cons (pv 0) pa_nil))) (fun _ _ => rfl)) pe_int))
      (@pss_one _ _ _ (@ps_ret _ _ _ _ (@pe_op _ _ _ _ _ _ _ _ op_mod (@pe_op _ _ _ _ _ _ _ _ op_mod (@pe_op _ _ _ _ _ _ _ _ op_add (@pe_op _ _ _ _ _ _ _ _ op_mul (pv 3) (@pe_op _ _ _ _ _ _ _ _ op_add (@pe_op _ _ _ _ _ _ _ _ op_mul (pv 1) (pv 1)) pe_int)) (@pe_op _ _ _ _ _ _ _ _ op_mul (pv 1) pe_int)) pe_int) (pv 2)))))), ?_⟩
  have hml : (ns.map V.int).length = ns.length := List.length_map _
  obtain ⟨kk0, kk1⟩ := kk_le hk0 hk1
  have hm0 : (0 : Int) < m := by omega
  refine ⟨_, rfl, s, _, rfl, .inl hS, rfl, _, rfl, ?_⟩
  by_cases h0 : ns.length = 0
  · refine iteDT (by rw [hml, h0]; rfl) ?_
    refine ⟨_, rfl, _, rfl, _, _, rfl, rfl, .inl ⟨by omega, by omega⟩, _, _, rfl, rfl, .inr ⟨by decide, by decide⟩, _, rfl, _, _, rfl, rfl, .inl ⟨by decide, by decide⟩, _, _, rfl, rfl, _, rfl, _, _, rfl, rfl, hm0, ?_⟩
    exact q _ (Int.emod_nonneg _ (by omega)) (Int.emod_lt_of_pos _ hm0)
  refine iteDF (fun z => h0 (by have := V.int.inj z; rw [hml] at this; omega)) ?_
  have hl0 : (0 : Int) < (((ns.map V.int).length : Nat) : Int) := by rw [hml]; omega
  obtain ⟨j, ej, lj⟩ := toNat_mod (a := k) hl0
  have lj : j < ns.length := by rw [hml] at lj; omega
  refine ⟨_, rfl, _, rfl, _, rfl, s, _, rfl, .inl hS, _, _, rfl, rfl, hl0, ?_⟩
  try dsimp only
  rw [ej]
  refine ⟨s, _, _, _, rfl, rfl, hS, atI_ints lj, _, _, rfl, rfl, (by show (0 : Int) < 1000003; decide), ?_⟩
  have c0 := Int.emod_nonneg (ns.getD j 0) (by decide : (1000003 : Int) ≠ 0)
  have c1 := Int.emod_lt_of_pos (ns.getD j 0) (by decide : (0 : Int) < 1000003)
  try dsimp only
  generalize ns.getD j 0 % 1000003 = cell at c0 c1 ⊢
  refine ⟨_, rfl, _, rfl, _, rfl, _, _, rfl, rfl, .inl ⟨by omega, by omega⟩, _, _, rfl, rfl, _, _, rfl, rfl, .inl ⟨by omega, by omega⟩, _, rfl, _, _, rfl, rfl, .inr ⟨by decide, by decide⟩, _, _, rfl, rfl, _, _, rfl, rfl, (by show (0 : Int) < 2147483647; decide), _, rfl, _, _, rfl, rfl, hm0, ?_⟩
  exact q _ (Int.emod_nonneg _ (by omega)) (Int.emod_lt_of_pos _ hm0)
theorem sc__law_unit : FnScope ["script"] ["script"] (defScope s__law_unit) := ⟨rfl, rfl, rfl, by decide +kernel, rfl, by decide +kernel, by decide +kernel⟩
theorem ok_s__law_unit {f : Addr} {fd : FuncData} (F : Fun K "_law_unit" "_law_unit" s__law_unit f fd) (T : Txt K mg cP cB cU cR cN eC eW eB eU eL)  : FnOk P w K mg base CX0 1 f fd ["script"] (spUnit K) := by
  refine F.ok sc__law_unit (fun vs H Q E h => ?_) (fun cdv A outer s H vs Q E hr h => ?_)
  · obtain ⟨s, ns, rfl, hS, h63, q⟩ := h
    rfl
  obtain ⟨s, ns, rfl, hS, h63, q⟩ := h
  have hu : _ < cLine := hr.units0
  have hu1 := hu_of hr
  refine ⟨_, (@pss_cons _ _ _ _ _ (ps_if (pt_cmpR op_eq (pe_callB call_len_seq (by rfl) T.z_len PySem.boot_len (pa_cons (pv 0) pa_nil)) pe_int (nomark _)) (@pss_one _ _ _ (@ps_ret _ _ _ _ pe_int)) pss_nil)
      (@pss_one _ _ _ (@ps_ret _ _ _ _ (@pe_op _ _ _ _ _ _ _ _ op_add pe_int (@pe_op _ _ _ _ _ _ _ _ op_mod (pe_ix ix_list (pv 0) pe_int (fun _ _ => rfl)) (@pe_op _ _ _ _ _ _ _ _ op_pow pe_int pe_int)))))), ?_⟩
  have hml : (ns.map V.int).length = ns.length := List.length_map _
  refine ⟨_, rfl, s, _, rfl, .inl hS, rfl, _, rfl, ?_⟩
  by_cases h0 : ns.length = 0
  · exact iteDT (by rw [hml, h0]; rfl) (q 1 (by decide) (by decide))
  refine iteDF (fun z => h0 (by have := V.int.inj z; rw [hml] at this; omega)) ?_
  have e10 : (10 : Int) ^ Int.toNat 10 = 10000000000 := by decide +kernel
  have u0 := Int.emod_nonneg (ns.getD 0 0) (show (10 : Int) ^ Int.toNat 10 ≠ 0 from by decide +kernel)
  have u1 := Int.emod_lt_of_pos (ns.getD 0 0) (show (0 : Int) < 10 ^ Int.toNat 10 from by decide +kernel)
  refine ⟨_, rfl, s, _, _, _, rfl, rfl, hS, atI_ints (s := 0) (by omega), _, _, rfl, rfl, ⟨by decide, by decide, by decide⟩, _, _, rfl, rfl, (show (0 : Int) < 10 ^ Int.toNat 10 from by decide +kernel), _, _, rfl, rfl, ?_⟩
  rw [e10] at u0 u1
  try dsimp only
  rw [e10]
  exact q _ (by omega) (by omega)
theorem sc__law_reach : FnScope ["script", "k", "unit", "named", "least", "crest", "water", "berths"] ["script", "k", "unit"] (defScope s__law_reach) := ⟨rfl, rfl, rfl, by decide +kernel, rfl, by decide +kernel, by decide +kernel⟩
theorem ok_s__law_reach {f : Addr} {fd : FuncData} (F : Fun K "_law_reach" "_law_reach" s__law_reach f fd) (T : Txt K mg cP cB cU cR cN eC eW eB eU eL) (D__law_draw : Def P w K mg base 1 "_law_draw" ["script", "k", "many"] [] (spDraw K)) (M_Reach : MkD P w K mg base 1 "Reach" cR ["self", "name", "least", "crest", "berths", "water", "target"] (spInitReach cR)) : FnOk P w K mg base CX0 3 f fd ["script", "k", "unit"] (spReachD K cR) := by
  refine F.ok sc__law_reach (fun vs H Q E h => ?_) (fun cdv A outer s H vs Q E hr h => ?_)
  · obtain ⟨s, ns, k, u, rfl, hS, h63, hk, hv0, hv1, q⟩ := h
    rfl
  obtain ⟨s, ns, k, u, rfl, hS, h63, hk, hv0, hv1, q⟩ := h
  have hu : _ < cLine := hr.units0
  have hu1 := hu_of hr
  refine ⟨_, (@pss_cons _ _ _ _ _ (@ps_set _ _ 3 _ _ _ _ sc__law_reach.nd rfl (by first | exact Or.inl rfl | exact Or.inr rfl) (pe_ix ix_list (pe_lst (@pa_cons _ _ _ _ _ pe_str (@pa_cons _ _ _ _ _ pe_str (@pa_cons _ _ _ _ _ pe_str (@pa_cons _ _ _ _ _ pe_str (@pa_cons _ _ _ _ _ pe_str (@pa_cons _ _ _ _ _ pe_str (@pa_cons _ _ _ _ _ pe_str (@pa_cons _ _ _ _ _ pe_str pa_nil (by rfl)) (by rfl)) (by rfl)) (by rfl)) (by rfl)) (by rfl)) (by rfl)) (by rfl))) (pv 1) (fun _ _ => rfl)) (by rfl) (by first | exact .inl rfl | exact .inr rfl | assumption))
      (@pss_cons _ _ _ _ _ (ps_set (i := 4) sc__law_reach.nd rfl (by first | exact Or.inl rfl | exact Or.inr rfl) (@pe_op _ _ _ _ _ _ _ _ op_mul (pe_def D__law_draw hr rfl (@pa_cons _ _ _ _ _ (pv 0) (@pa_cons _ _ _ _ _ (@pe_op _ _ _ _ _ _ _ _ op_add (@pe_op _ _ _ _ _ _ _ _ op_mul pe_int (pv 1)) pe_int) (@pa_cons _ _ _ _ _ pe_int pa_nil (by rfl)) (by rfl)) (by rfl))) (pv 2)))
      (@pss_cons _ _ _ _ _ (ps_set (i := 5) sc__law_reach.nd rfl (by first | exact Or.inl rfl | exact Or.inr rfl) (@pe_op _ _ _ _ _ _ _ _ op_add (@pe_op _ _ _ _ _ _ _ _ op_add (pv 4) (@pe_op _ _ _ _ _ _ _ _ op_mul (pe_def D__law_draw hr rfl (@pa_cons _ _ _ _ _ (pv 0) (@pa_cons _ _ _ _ _ (@pe_op _ _ _ _ _ _ _ _ op_add (@pe_op _ _ _ _ _ _ _ _ op_mul pe_int (pv 1)) pe_int) (@pa_cons _ _ _ _ _ pe_int pa_nil (by rfl)) (by rfl)) (by rfl))) (pv 2))) (pe_def D__law_draw hr rfl (@pa_cons _ _ _ _ _ (pv 0) (@pa_cons _ _ _ _ _ (@pe_op _ _ _ _ _ _ _ _ op_add (@pe_op _ _ _ _ _ _ _ _ op_mul pe_int (pv 1)) pe_int) (@pa_cons _ _ _ _ _ pe_int pa_nil (by rfl)) (by rfl)) (by rfl)))))
      (@pss_cons _ _ _ _ _ (ps_set (i := 6) sc__law_reach.nd rfl (by first | exact Or.inl rfl | exact Or.inr rfl) (@pe_op _ _ _ _ _ _ _ _ op_add (@pe_op _ _ _ _ _ _ _ _ op_mul (pe_def D__law_draw hr rfl (@pa_cons _ _ _ _ _ (pv 0) (@pa_cons _ _ _ _ _ (@pe_op _ _ _ _ _ _ _ _ op_add (@pe_op _ _ _ _ _ _ _ _ op_mul pe_int (pv 1)) pe_int) (@pa_cons _ _ _ _ _ pe_int pa_nil (by rfl)) (by rfl)) (by rfl))) (pv 2)) (pe_def D__law_draw hr rfl (@pa_cons _ _ _ _ _ (pv 0) (@pa_cons _ _ _ _ _ (@pe_op _ _ _ _ _ _ _ _ op_add (@pe_op _ _ _ _ _ _ _ _ op_mul pe_int (pv 1)) pe_int) (@pa_cons _ _ _ _ _ pe_int pa_nil (by rfl)) (by rfl)) (by rfl)))))
      (@pss_cons _ _ _ _ _ (ps_set (i := 7) sc__law_reach.nd rfl (by first | exact Or.inl rfl | exact Or.inr rfl) (pe_ix ix_list (pe_lst (@pa_cons _ _ _ _ _ pe_int (@pa_cons _ _ _ _ _ pe_int (@pa_cons _ _ _ _ _ pe_int (@pa_cons _ _ _ _ _ pe_int pa_nil (by rfl)) (by rfl)) (by rfl)) (by rfl))) (pe_def D__law_draw hr rfl (@pa_cons _ _ _ _ _ (pv 0) (@pa_cons _ _ _ _ _ (@pe_op _ _ _ _ _ _ _ _ op_add (@pe_op _ _ _ _ _ _ _ _ op_mul pe_int (pv 1)) pe_int) (@pa_cons _ _ _ _ _ pe_int pa_nil (by rfl)) (by rfl)) (by rfl))) (fun _ _ => rfl)))
      (@pss_one _ _ _ (@ps_ret _ _ _ _ (pe_mk M_Reach hr rfl (@pa_cons _ _ _ _ _ (pv 3) (@pa_cons _ _ _ _ _ (pv 4) (@pa_cons _ _ _ _ _ (pv 5) (@pa_cons _ _ _ _ _ (pv 7) (@pa_cons _ _ _ _ _ (pv 6) (@pa_cons _ _ _ _ _ (@pe_op _ _ _ _ _ _ _ _ op_sub (pe_def D__law_draw hr rfl (@pa_cons _ _ _ _ _ (pv 0) (@pa_cons _ _ _ _ _ (@pe_op _ _ _ _ _ _ _ _ op_add (@pe_op _ _ _ _ _ _ _ _ op_mul pe_int (pv 1)) pe_int) (@pa_cons _ _ _ _ _ (@pe_op _ _ _ _ _ _ _ _ op_add (pv 1) pe_int) pa_nil (by rfl)) (by rfl)) (by rfl))) pe_int) pa_nil (by rfl)) (by rfl)) (by rfl)) (by rfl)) (by rfl)) (by rfl)))))))))), ?_⟩
  refine ⟨(by show 8 ≤ sizeLine; decide), fun p hp => ?_⟩
  have s1 := same_new hp (.lst ([("mere" : Str), "merea", "amere", "me", "pool", "poolmereandp", "z", "sean"].map V.str))
  obtain ⟨nm, hnm⟩ := at_str [("mere" : Str), "merea", "amere", "me", "pool", "poolmereandp", "z", "sean"] (k := k) hk
  refine ⟨_, rfl, p, _, _, _, rfl, rfl, SqL.of upd_same, hnm, ?_⟩
  have hS1 := s1.seq hS
  refine ⟨_, rfl, _, rfl, _, _, rfl, rfl, .inl ⟨by decide, by decide⟩, _, _, rfl, rfl, s, ns, _, _, rfl, hS1, h63, by omega, by omega, by omega, fun d1 d10 d11 => ?_⟩
  obtain ⟨a1, a2⟩ := mul_le d10 (show d1 ≤ 3 by omega) hv0 hv1 (by decide)
  refine ⟨_, rfl, _, _, rfl, rfl, .inl ⟨by omega, by omega⟩, ?_⟩
  try dsimp only
  generalize d1 * u = le at a1 a2 ⊢
  refine ⟨_, rfl, _, rfl, _, rfl, _, _, rfl, rfl, .inl ⟨by decide, by decide⟩, _, _, rfl, rfl, s, ns, _, _, rfl, hS1, h63, by omega, by omega, by omega, fun d2 d20 d21 => ?_⟩
  obtain ⟨b1, b2⟩ := mul_le d20 (show d2 ≤ 8 by omega) hv0 hv1 (by decide)
  refine ⟨_, rfl, _, _, rfl, rfl, .inl ⟨by omega, by omega⟩, _, _, rfl, rfl, ?_⟩
  try dsimp only
  generalize d2 * u = cr at b1 b2 ⊢
  refine ⟨_, rfl, _, rfl, _, _, rfl, rfl, .inl ⟨by decide, by decide⟩, _, _, rfl, rfl, s, ns, _, _, rfl, hS1, h63, by omega, by omega, by omega, fun d3 d30 d31 => ?_⟩
  refine ⟨_, _, rfl, rfl, ?_⟩
  refine ⟨_, rfl, _, rfl, _, _, rfl, rfl, .inl ⟨by decide, by decide⟩, _, _, rfl, rfl, s, ns, _, _, rfl, hS1, h63, by omega, by omega, by omega, fun d4 d40 d41 => ?_⟩
  obtain ⟨c1, c2⟩ := mul_le d40 (show d4 ≤ 12 by omega) hv0 hv1 (by decide)
  refine ⟨_, rfl, _, _, rfl, rfl, .inl ⟨by omega, by omega⟩, ?_⟩
  try dsimp only
  generalize d4 * u = wa at c1 c2 ⊢
  refine ⟨_, rfl, _, rfl, _, _, rfl, rfl, .inl ⟨by decide, by decide⟩, _, _, rfl, rfl, s, ns, _, _, rfl, hS1, h63, by omega, by omega, by omega, fun d5 d50 d51 => ?_⟩
  refine ⟨_, _, rfl, rfl, ?_⟩
  refine ⟨(by show 4 ≤ sizeLine; decide), fun p2 hp2 => ?_⟩
  have s2 := same_new hp2 (.lst ([(1 : Int), 1, 2, 9].map V.int))
  have hS2 := s2.seq hS1
  refine ⟨_, rfl, _, rfl, _, _, rfl, rfl, .inl ⟨by decide, by decide⟩, _, _, rfl, rfl, s, ns, _, _, rfl, hS2, h63, by omega, by omega, by omega, fun d6 d60 d61 => ?_⟩
  obtain ⟨be, hbe, hat⟩ := at_int [(1 : Int), 1, 2, 9] d60 d61
  refine ⟨p2, _, _, _, rfl, rfl, SqL.of upd_same, hat, ?_⟩
  have hbe' : 1 ≤ be ∧ be ≤ 9 := by
    simp only [List.mem_cons, List.mem_nil_iff, or_false] at hbe
    rcases hbe with rfl | rfl | rfl | rfl <;> decide
  refine ⟨_, rfl, _, rfl, _, rfl, _, rfl, _, rfl, ?_⟩
  refine ⟨_, rfl, _, rfl, _, _, rfl, rfl, .inl ⟨by decide, by decide⟩, _, _, rfl, rfl, _, rfl, _, _, rfl, rfl, s, ns, _, _, rfl, hS2, h63, by omega, by omega, by omega, fun d7 d70 d71 => ?_⟩
  refine ⟨_, _, rfl, rfl, ?_⟩
  intro x dx nx ndx nex
  refine ⟨x, dx, _, _, _, _, _, _, rfl, upd_same, fun H' fs kp hx hfl => ⟨rfl, ?_⟩⟩
  have w12 := s1.trans s2
  exact q x ⟨nm, le, le + cr + d3, be, wa + d5, d7 - 1⟩ H' ⟨a1, by show le ≤ le + cr + d3; omega, by show le + cr + d3 ≤ 999999999999; omega, hbe'.1, hbe'.2, by show 0 ≤ wa + d5; omega, by show wa + d5 ≤ 999999999999; omega, by show -1 ≤ d7 - 1; omega, by show d7 - 1 < (k : Int); omega⟩ (w12.trans (mk_trans nx (mk_same nx ndx) kp)) (w12.free nx) ⟨dx, fs, hx, hfl⟩
theorem sc__law_lock : FnScope ["script", "k", "reaches", "unit", "named", "high", "low", "room", "part", "made"] ["script", "k", "reaches", "unit"] (defScope s__law_lock) := ⟨rfl, rfl, rfl, by decide +kernel, rfl, by decide +kernel, by decide +kernel⟩
theorem ok_s__law_lock {f : Addr} {fd : FuncData} (F : Fun K "_law_lock" "_law_lock" s__law_lock f fd) (T : Txt K mg cP cB cU cR cN eC eW eB eU eL) (D__law_draw : Def P w K mg base 1 "_law_draw" ["script", "k", "many"] [] (spDraw K)) (M_BasinLock : MkD P w K mg base 2 "BasinLock" cB ["self", "name", "high", "low", "room", "side"] (spInit4 (kdC cP cB cU) .basin)) (M_PumpLock : MkD P w K mg base 2 "PumpLock" cU ["self", "name", "high", "low", "room", "lift"] (spInit4 (kdC cP cB cU) .pump)) (M_PlainLock : MkD P w K mg base 1 "PlainLock" cP ["self", "name", "high", "low", "room"] (spInit3 (kdC cP cB cU))) : FnOk P w K mg base CX0 4 f fd ["script", "k", "reaches", "unit"] (spLockD K (kdC cP cB cU)) := by
  refine F.ok sc__law_lock (fun vs H Q E h => ?_) (fun cdv A outer s H vs Q E hr h => ?_)
  · obtain ⟨s, ns, k, n, u, rfl, hS, h63, hk, hn2, hn8, hv0, hv1, q⟩ := h
    rfl
  obtain ⟨s, ns, k, n, u, rfl, hS, h63, hk, hn2, hn8, hv0, hv1, q⟩ := h
  have hu : _ < cLine := hr.units0
  have hu1 := hu_of hr
  refine ⟨_, (@pss_cons _ _ _ _ _ (ps_set (i := 4) sc__law_lock.nd rfl (by first | exact Or.inl rfl | exact Or.inr rfl) (pe_ix ix_list (pe_lst (@pa_cons _ _ _ _ _ pe_str (@pa_cons _ _ _ _ _ pe_str (@pa_cons _ _ _ _ _ pe_str (@pa_cons _ _ _ _ _ pe_str pa_nil (by rfl)) (by rfl)) (by rfl)) (by rfl))) (pv 1) (fun _ _ => rfl)))
      (@pss_cons _ _ _ _ _ (ps_set (i := 5) sc__law_lock.nd rfl (by first | exact Or.inl rfl | exact Or.inr rfl) (@pe_op _ _ _ _ _ _ _ _ op_add pe_int (pe_def D__law_draw hr rfl (@pa_cons _ _ _ _ _ (pv 0) (@pa_cons _ _ _ _ _ (@pe_op _ _ _ _ _ _ _ _ op_add pe_int (@pe_op _ _ _ _ _ _ _ _ op_mul pe_int (pv 1))) (@pa_cons _ _ _ _ _ (@pe_op _ _ _ _ _ _ _ _ op_sub (pv 2) pe_int) pa_nil (by rfl)) (by rfl)) (by rfl)))))
      (@pss_cons _ _ _ _ _ (ps_set (i := 6) sc__law_lock.nd rfl (by first | exact Or.inl rfl | exact Or.inr rfl) (pe_def D__law_draw hr rfl (@pa_cons _ _ _ _ _ (pv 0) (@pa_cons _ _ _ _ _ (@pe_op _ _ _ _ _ _ _ _ op_add pe_int (@pe_op _ _ _ _ _ _ _ _ op_mul pe_int (pv 1))) (@pa_cons _ _ _ _ _ (pv 5) pa_nil (by rfl)) (by rfl)) (by rfl))))
      (@pss_cons _ _ _ _ _ (ps_set (i := 7) sc__law_lock.nd rfl (by first | exact Or.inl rfl | exact Or.inr rfl) (@pe_op _ _ _ _ _ _ _ _ op_add (@pe_op _ _ _ _ _ _ _ _ op_mul (@pe_op _ _ _ _ _ _ _ _ op_add pe_int (pe_def D__law_draw hr rfl (@pa_cons _ _ _ _ _ (pv 0) (@pa_cons _ _ _ _ _ (@pe_op _ _ _ _ _ _ _ _ op_add pe_int (@pe_op _ _ _ _ _ _ _ _ op_mul pe_int (pv 1))) (@pa_cons _ _ _ _ _ pe_int pa_nil (by rfl)) (by rfl)) (by rfl)))) (pv 3)) (pe_def D__law_draw hr rfl (@pa_cons _ _ _ _ _ (pv 0) (@pa_cons _ _ _ _ _ (@pe_op _ _ _ _ _ _ _ _ op_add pe_int (@pe_op _ _ _ _ _ _ _ _ op_mul pe_int (pv 1))) (@pa_cons _ _ _ _ _ pe_int pa_nil (by rfl)) (by rfl)) (by rfl)))))
      (@pss_cons _ _ _ _ _ (ps_set (i := 8) sc__law_lock.nd rfl (by first | exact Or.inl rfl | exact Or.inr rfl) (pe_ix ix_list (pe_lst (@pa_cons _ _ _ _ _ pe_int (@pa_cons _ _ _ _ _ (pv 7) (@pa_cons _ _ _ _ _ (@pe_op _ _ _ _ _ _ _ _ op_add pe_int (@pe_op _ _ _ _ _ _ _ _ op_fdiv (pv 7) pe_int)) (@pa_cons _ _ _ _ _ (@pe_op _ _ _ _ _ _ _ _ op_sub (pv 7) (@pe_op _ _ _ _ _ _ _ _ op_fdiv (pv 7) pe_int)) pa_nil (by rfl)) (by rfl)) (by rfl)) (by rfl))) (pe_def D__law_draw hr rfl (@pa_cons _ _ _ _ _ (pv 0) (@pa_cons _ _ _ _ _ (@pe_op _ _ _ _ _ _ _ _ op_add pe_int (@pe_op _ _ _ _ _ _ _ _ op_mul pe_int (pv 1))) (@pa_cons _ _ _ _ _ pe_int pa_nil (by rfl)) (by rfl)) (by rfl))) (fun _ _ => rfl)))
      (@pss_cons _ _ _ _ _ (ps_set (i := 9) sc__law_lock.nd rfl (by first | exact Or.inl rfl | exact Or.inr rfl) (pe_def D__law_draw hr rfl (@pa_cons _ _ _ _ _ (pv 0) (@pa_cons _ _ _ _ _ (@pe_op _ _ _ _ _ _ _ _ op_add pe_int (@pe_op _ _ _ _ _ _ _ _ op_mul pe_int (pv 1))) (@pa_cons _ _ _ _ _ pe_int pa_nil (by rfl)) (by rfl)) (by rfl))))
      (@pss_cons _ _ _ _ _ (ps_if (pt_cmpR op_eq (pv 9) pe_int (nomark _)) (@pss_one _ _ _ (@ps_ret _ _ _ _ (pe_mk M_BasinLock hr rfl (@pa_cons _ _ _ _ _ (pv 4) (@pa_cons _ _ _ _ _ (pv 5) (@pa_cons _ _ _ _ _ (pv 6) (@pa_cons _ _ _ _ _ (pv 7) (@pa_cons _ _ _ _ _ (pv 8) pa_nil (by rfl)) (by rfl)) (by rfl)) (by rfl)) (by rfl))))) pss_nil)
      (@pss_cons _ _ _ _ _ (ps_if (pt_cmpR op_eq (pv 9) pe_int (nomark _)) (@pss_one _ _ _ (@ps_ret _ _ _ _ (pe_mk M_PumpLock hr rfl (@pa_cons _ _ _ _ _ (pv 4) (@pa_cons _ _ _ _ _ (pv 5) (@pa_cons _ _ _ _ _ (pv 6) (@pa_cons _ _ _ _ _ (pv 7) (@pa_cons _ _ _ _ _ (pv 8) pa_nil (by rfl)) (by rfl)) (by rfl)) (by rfl)) (by rfl))))) pss_nil)
      (@pss_one _ _ _ (@ps_ret _ _ _ _ (pe_mk M_PlainLock hr rfl (@pa_cons _ _ _ _ _ (pv 4) (@pa_cons _ _ _ _ _ (pv 5) (@pa_cons _ _ _ _ _ (pv 6) (@pa_cons _ _ _ _ _ (pv 7) pa_nil (by rfl)) (by rfl)) (by rfl)) (by rfl))))))))))))), ?_⟩
  refine ⟨(by show 4 ≤ sizeLine; decide), fun p hp => ?_⟩
  have s1 := same_new hp (.lst ([("gate" : Str), "gatea", "mere", "g"].map V.str))
  obtain ⟨nm, hnm⟩ := at_str [("gate" : Str), "gatea", "mere", "g"] (k := k) hk
  refine ⟨_, rfl, p, _, _, _, rfl, rfl, SqL.of upd_same, hnm, ?_⟩
  have hS1 := s1.seq hS
  refine ⟨_, rfl, _, rfl, _, _, rfl, rfl, .inl ⟨by decide, by decide⟩, _, _, rfl, rfl, _, rfl, _, _, rfl, rfl, s, ns, _, _, rfl, hS1, h63, by omega, by omega, by omega, fun h1 h10 h11 => ?_⟩
  refine ⟨_, _, rfl, rfl, ?_⟩
  refine ⟨_, rfl, _, rfl, _, _, rfl, rfl, .inl ⟨by decide, by decide⟩, _, _, rfl, rfl, _, rfl, s, ns, _, _, rfl, hS1, h63, by omega, by omega, by omega, fun lo lo0 lo1 => ?_⟩
  refine ⟨_, rfl, _, rfl, _, _, rfl, rfl, .inl ⟨by decide, by decide⟩, _, _, rfl, rfl, s, ns, _, _, rfl, hS1, h63, by omega, by omega, by omega, fun d2 d20 d21 => ?_⟩
  obtain ⟨b1, b2⟩ := mul_le (a := 1 + d2) (by omega) (show 1 + d2 ≤ 4 by omega) hv0 hv1 (by decide)
  refine ⟨_, _, rfl, rfl, _, rfl, _, _, rfl, rfl, .inl ⟨by omega, by omega⟩, ?_⟩
  have b3 : 1 ≤ (1 + d2) * u := by
    have := Int.mul_le_mul (show (1 : Int) ≤ 1 + d2 by omega) hv0 (by decide) (by omega)
    omega
  try dsimp only
  generalize (1 + d2) * u = r0 at b1 b2 b3 ⊢
  refine ⟨_, rfl, _, rfl, _, _, rfl, rfl, .inl ⟨by decide, by decide⟩, _, _, rfl, rfl, s, ns, _, _, rfl, hS1, h63, by omega, by omega, by omega, fun d3 d30 d31 => ?_⟩
  refine ⟨_, _, rfl, rfl, ?_⟩
  have ro1 : 1 ≤ r0 + d3 := by omega
  have ro2 : r0 + d3 ≤ 999999999999 := by omega
  try dsimp only
  generalize r0 + d3 = ro at ro1 ro2 ⊢
  refine ⟨_, rfl, _, rfl, _, _, rfl, rfl, ⟨by decide, by decide⟩, _, _, rfl, rfl, _, rfl, _, rfl, _, _, rfl, rfl, ⟨by decide, by decide⟩, _, _, rfl, rfl, (by show 4 ≤ sizeLine; decide), fun p2 hp2 => ?_⟩
  have s2 := same_new hp2 (.lst ([(1 : Int), ro, 1 + ro / 2, ro - ro / 3].map V.int))
  have hS2 := s2.seq hS1
  refine ⟨_, rfl, _, rfl, _, _, rfl, rfl, .inl ⟨by decide, by decide⟩, _, _, rfl, rfl, s, ns, _, _, rfl, hS2, h63, by omega, by omega, by omega, fun d4 d40 d41 => ?_⟩
  obtain ⟨pa, hpa, hat⟩ := at_int [(1 : Int), ro, 1 + ro / 2, ro - ro / 3] d40 d41
  refine ⟨p2, _, _, _, rfl, rfl, SqL.of upd_same, hat, ?_⟩
  have hpa : 1 ≤ pa ∧ pa ≤ ro := by
    simp only [List.mem_cons, List.mem_nil_iff, or_false] at hpa
    rcases hpa with rfl | rfl | rfl | rfl <;> omega
  refine ⟨_, rfl, _, rfl, _, _, rfl, rfl, .inl ⟨by decide, by decide⟩, _, _, rfl, rfl, s, ns, _, _, rfl, hS2, h63, by omega, by omega, by omega, fun d5 d50 d51 => ?_⟩
  have w12 := s1.trans s2
  refine ⟨_, rfl, rfl, _, rfl, ite2 (fun _ => ?_) (fun _ => ?_)⟩
  · refine ⟨_, rfl, _, rfl, _, rfl, _, rfl, _, rfl, ?_⟩
    intro x dx nx ndx nex
    refine ⟨x, dx, _, _, _, _, _, rfl, upd_same, fun H' kp hx => ⟨rfl, ?_⟩⟩
    refine q x ⟨nm, 1 + h1, lo, ro, .basin, pa⟩ H' ⟨by show 1 ≤ 1 + h1; omega, by show 1 + h1 < (n : Int); omega, lo0, by show lo < 1 + h1; omega, ro1, ro2, (fun z => nomatch z), fun _ => hpa⟩ (w12.trans (mk_trans nx (mk_same nx ndx) kp)) (w12.free nx) ⟨x, rfl, dx, hx⟩
  refine ⟨_, rfl, rfl, _, rfl, ite2 (fun _ => ?_) (fun _ => ?_)⟩
  · refine ⟨_, rfl, _, rfl, _, rfl, _, rfl, _, rfl, ?_⟩
    intro x dx nx ndx nex
    refine ⟨x, dx, _, _, _, _, _, rfl, upd_same, fun H' kp hx => ⟨rfl, ?_⟩⟩
    refine q x ⟨nm, 1 + h1, lo, ro, .pump, pa⟩ H' ⟨by show 1 ≤ 1 + h1; omega, by show 1 + h1 < (n : Int); omega, lo0, by show lo < 1 + h1; omega, ro1, ro2, (fun z => nomatch z), fun _ => hpa⟩ (w12.trans (mk_trans nx (mk_same nx ndx) kp)) (w12.free nx) ⟨x, rfl, dx, hx⟩
  refine ⟨_, rfl, _, rfl, _, rfl, _, rfl, ?_⟩
  intro x dx nx ndx nex
  refine ⟨.plain, x, dx, _, _, _, _, rfl, upd_same, fun H' kp hx => ⟨rfl, ?_⟩⟩
  refine q x ⟨nm, 1 + h1, lo, ro, .plain, 0⟩ H' ⟨by show 1 ≤ 1 + h1; omega, by show 1 + h1 < (n : Int); omega, lo0, by show lo < 1 + h1; omega, ro1, ro2, fun _ => rfl, fun z => absurd rfl z⟩ (w12.trans (mk_trans nx (mk_same nx ndx) kp)) (w12.free nx) ⟨x, rfl, dx, hx⟩
theorem sc__law_weather : FnScope ["script", "k", "reaches", "unit", "some", "r", "comes"] ["script", "k", "reaches", "unit"] (defScope s__law_weather) := ⟨rfl, rfl, rfl, by decide +kernel, rfl, by decide +kernel, by decide +kernel⟩
theorem ok_s__law_weather {f : Addr} {fd : FuncData} (F : Fun K "_law_weather" "_law_weather" s__law_weather f fd) (T : Txt K mg cP cB cU cR cN eC eW eB eU eL) (D__law_draw : Def P w K mg base 1 "_law_draw" ["script", "k", "many"] [] (spDraw K)) : FnOk P w K mg base CX0 2 f fd ["script", "k", "reaches", "unit"] (spWeather K) := by
  refine F.ok sc__law_weather (fun vs H Q E h => ?_) (fun cdv A outer s H vs Q E hr h => ?_)
  · obtain ⟨s, ns, k, n, u, rfl, hS, h63, hk, hn8, hv0, hv1, q⟩ := h
    rfl
  obtain ⟨s, ns, k, n, u, rfl, hS, h63, hk, hn8, hv0, hv1, q⟩ := h
  have hu : _ < cLine := hr.units0
  have hu1 := hu_of hr
  refine ⟨_, (@pss_cons _ _ _ _ _ (ps_set (i := 4) sc__law_weather.nd rfl (by first | exact Or.inl rfl | exact Or.inr rfl) (pe_lst pa_nil))
      (@pss_cons _ _ _ _ _ (ps_for PassesOwn.never rfl (pi_range1 (by rfl) T.z_range (pa_cons (pv 2) pa_nil)) (pg_name (i := 5) sc__law_weather.nd rfl (by first | exact Or.inl rfl | exact Or.inr rfl))
        (@pss_cons _ _ _ _ _ (ps_set (i := 6) sc__law_weather.nd rfl (by first | exact Or.inl rfl | exact Or.inr rfl) (@pe_op _ _ _ _ _ _ _ _ op_mul (pe_def D__law_draw hr rfl (@pa_cons _ _ _ _ _ (pv 0) (@pa_cons _ _ _ _ _ (@pe_op _ _ _ _ _ _ _ _ op_add (@pe_op _ _ _ _ _ _ _ _ op_add pe_int (@pe_op _ _ _ _ _ _ _ _ op_mul pe_int (pv 1))) (@pe_op _ _ _ _ _ _ _ _ op_mul pe_int (pv 5))) (@pa_cons _ _ _ _ _ pe_int pa_nil (by rfl)) (by rfl)) (by rfl))) (pv 3)))
      (@pss_one _ _ _ (ps_expr (pe_bm PySem.F.plainAttrs_list PySem.F.slot_list_append PySem.F.type_list_append mt_append (pv 4) (pa_cons (pe_tup (pa_cons (pv 6) (pa_cons (@pe_op _ _ _ _ _ _ _ _ op_fdiv (@pe_op _ _ _ _ _ _ _ _ op_mul (pe_def D__law_draw hr rfl (@pa_cons _ _ _ _ _ (pv 0) (@pa_cons _ _ _ _ _ (@pe_op _ _ _ _ _ _ _ _ op_add (@pe_op _ _ _ _ _ _ _ _ op_add pe_int (@pe_op _ _ _ _ _ _ _ _ op_mul pe_int (pv 1))) (@pe_op _ _ _ _ _ _ _ _ op_mul pe_int (pv 5))) (@pa_cons _ _ _ _ _ pe_int pa_nil (by rfl)) (by rfl)) (by rfl))) (pv 3)) pe_int) pa_nil))) pa_nil))))))
      (@pss_one _ _ _ (@ps_ret _ _ _ _ (pv 4))))), ?_⟩
  refine ⟨(by show 0 ≤ sizeLine; decide), fun l hl0 => ?_⟩
  refine ⟨_, rfl, _, rfl, by omega, by omega, for_range (n := ((n : Nat) : Int).toNat) (fun i σ Hi => ∃ (us : List V) (p : List (Int × Int)) (c5 c6 : Option V), σ = [some (.ref s), some (.int (k : Int)), some (.int (n : Int)), some (.int u), some (.ref l), c5, c6] ∧ Hi l = some (.lst us) ∧ AllAt (QAt Hi) us p ∧ p.length = i ∧ Same H Hi)
    ⟨[], [], none, none, rfl, upd_same, AllAt.nil, rfl, same_new hl0 _⟩ ?_ ?_⟩
  · rintro i σ Hi hi ⟨us, p, c5, c6, rfl, hl, hA, hp, sm⟩
    rw [Int.toNat_natCast] at hi
    rw [Int.zero_add]
    have hSi := sm.seq hS
    refine ⟨_, rfl, _, rfl, _, _, rfl, rfl, .inl ⟨by decide, by decide⟩, _, _, rfl, rfl, _, rfl, _, _, rfl, rfl, .inl ⟨by decide, by decide⟩, _, _, rfl, rfl, s, ns, _, _, rfl, hSi, h63, by omega, by omega, by omega, fun d1 d10 d11 => ?_⟩
    refine ⟨_, rfl, _, _, rfl, rfl, .inl ⟨by omega, by omega⟩, ?_⟩
    refine ⟨_, rfl, .inl ⟨rfl, _, SqL.of hl⟩, _, rfl, _, rfl, _, rfl, _, _, rfl, rfl, .inl ⟨by decide, by decide⟩, _, _, rfl, rfl, _, rfl, _, _, rfl, rfl, .inl ⟨by decide, by decide⟩, _, _, rfl, rfl, s, ns, _, _, rfl, hSi, h63, by omega, by omega, by omega, fun d2 d20 d21 => ?_⟩
    refine ⟨_, rfl, _, _, rfl, rfl, .inl ⟨by omega, by omega⟩, _, _, rfl, rfl, ⟨by decide, by decide⟩, (by show 2 ≤ sizeLine; decide), fun tp htp => ?_⟩
    have v := same_new htp (.tup [V.int (d1 * u), V.int (d2 * u / 2)])
    refine ⟨l, _, _, rfl, rfl, v _ _ hl, small1000 (by rw [hA.1]; omega), ?_⟩
    refine ⟨us ++ [.ref tp], p ++ [(d1 * u, d2 * u / 2)], _, _, rfl, upd_same, ?_, by rw [List.length_append, hp]; rfl, same_upd hl0 (sm.trans v)⟩
    exact ((hA.mono (QAt.same v)).snoc (v := .ref tp) (x := (d1 * u, d2 * u / 2)) ⟨tp, rfl, upd_same⟩).mono (QAt.put (v _ _ hl))
  rintro σ Hi ⟨us, p, c5, c6, rfl, hl, hA, hp, sm⟩
  rw [Int.toNat_natCast] at hp
  exact ⟨_, rfl, q l p Hi hp sm hl0 ⟨l, us, rfl, hl, hA, by simp⟩⟩
theorem sc__law_canal : FnScope ["script", "most_reaches", "most_locks", "most_nights", "unit", "many", "reaches", "locks", "nights"] ["script", "most_reaches", "most_locks", "most_nights"] (defScope s__law_canal) := ⟨rfl, rfl, rfl, by decide +kernel, rfl, by decide +kernel, by decide +kernel⟩
theorem ok_s__law_canal {f : Addr} {fd : FuncData} (F : Fun K "_law_canal" "_law_canal" s__law_canal f fd) (T : Txt K mg cP cB cU cR cN eC eW eB eU eL) (D__law_unit : Def P w K mg base 1 "_law_unit" ["script"] [] (spUnit K)) (D__law_draw : Def P w K mg base 1 "_law_draw" ["script", "k", "many"] [] (spDraw K)) (D__law_reach : Def P w K mg base 3 "_law_reach" ["script", "k", "unit"] [] (spReachD K cR)) (D__law_lock : Def P w K mg base 4 "_law_lock" ["script", "k", "reaches", "unit"] [] (spLockD K (kdC cP cB cU))) (D__law_weather : Def P w K mg base 2 "_law_weather" ["script", "k", "reaches", "unit"] [] (spWeather K)) (M_Canal : MkD P w K mg base 1 "Canal" cN ["self", "reaches", "locks", "nights"] (spInitCanal (kdC cP cB cU) cR cN)) : FnOk P w K mg base CX0 6 f fd ["script", "most_reaches", "most_locks", "most_nights"] (spCanalD K (kdC cP cB cU) cR cN) := by
  refine F.ok sc__law_canal (fun vs H Q E h => ?_) (fun cdv A outer s H vs Q E hr h => ?_)
  · obtain ⟨s, ns, mr, ml, mn, rfl, hS, h63, hr2, hr8, hl1, hl4, hn5, q⟩ := h
    rfl
  obtain ⟨s, ns, mr, ml, mn, rfl, hS, h63, hr2, hr8, hl1, hl4, hn5, q⟩ := h
  have hu : _ < cLine := hr.units0
  have hu1 := hu_of hr
  refine ⟨_, (@pss_cons _ _ _ _ _ (ps_set (i := 4) sc__law_canal.nd rfl (by first | exact Or.inl rfl | exact Or.inr rfl) (pe_def D__law_unit hr rfl (pa_cons (pv 0) pa_nil)))
      (@pss_cons _ _ _ _ _ (ps_set (i := 5) sc__law_canal.nd rfl (by first | exact Or.inl rfl | exact Or.inr rfl) (@pe_op _ _ _ _ _ _ _ _ op_add pe_int (pe_def D__law_draw hr rfl (@pa_cons _ _ _ _ _ (pv 0) (@pa_cons _ _ _ _ _ pe_int (@pa_cons _ _ _ _ _ (@pe_op _ _ _ _ _ _ _ _ op_sub (pv 1) pe_int) pa_nil (by rfl)) (by rfl)) (by rfl)))))
      (@pss_cons _ _ _ _ _ (ps_setComp (i := 6) ["k", "script", "unit"] (capF 1 [0, 4]) sc__law_canal.nd rfl (by first | exact Or.inl rfl | exact Or.inr rfl) rfl (compScope (defScope s__law_canal) rfl rfl (by decide +kernel) (by decide +kernel) (by decide +kernel)) (caps_of 1 [0, 4] rfl rfl (by decide +kernel)) (pi_range1 (by rfl) T.z_range (pa_cons (pv 5) pa_nil)) (fun _ _ _ _ _ => (pg_name (i := 0) (show List.Nodup (["k", "script", "unit"] : List Str) from by decide +kernel) rfl (by first | exact Or.inl rfl | exact Or.inr rfl))) (fun _ _ _ _ _ => pts_nil) (fun _ _ _ _ _ => (pe_def D__law_reach hr rfl (@pa_cons _ _ _ _ _ (pv 1) (@pa_cons _ _ _ _ _ (pv 0) (@pa_cons _ _ _ _ _ (pv 2) pa_nil (by rfl)) (by rfl)) (by rfl)))))
      (@pss_cons _ _ _ _ _ (ps_setComp (i := 7) ["k", "script", "many", "unit"] (capF 1 [0, 5, 4]) sc__law_canal.nd rfl (by first | exact Or.inl rfl | exact Or.inr rfl) rfl (compScope (defScope s__law_canal) rfl rfl (by decide +kernel) (by decide +kernel) (by decide +kernel)) (caps_of 1 [0, 5, 4] rfl rfl (by decide +kernel)) (pi_range1 (by rfl) T.z_range (pa_cons (@pe_op _ _ _ _ _ _ _ _ op_add pe_int (pe_def D__law_draw hr rfl (@pa_cons _ _ _ _ _ (pv 0) (@pa_cons _ _ _ _ _ pe_int (@pa_cons _ _ _ _ _ (pv 2) pa_nil (by rfl)) (by rfl)) (by rfl)))) pa_nil)) (fun _ _ _ _ _ => (pg_name (i := 0) (show List.Nodup (["k", "script", "many", "unit"] : List Str) from by decide +kernel) rfl (by first | exact Or.inl rfl | exact Or.inr rfl))) (fun _ _ _ _ _ => pts_nil) (fun _ _ _ _ _ => (pe_def D__law_lock hr rfl (@pa_cons _ _ _ _ _ (pv 1) (@pa_cons _ _ _ _ _ (pv 0) (@pa_cons _ _ _ _ _ (pv 2) (@pa_cons _ _ _ _ _ (pv 3) pa_nil (by rfl)) (by rfl)) (by rfl)) (by rfl)))))
      (@pss_cons _ _ _ _ _ (ps_setComp (i := 8) ["k", "script", "many", "unit"] (capF 1 [0, 5, 4]) sc__law_canal.nd rfl (by first | exact Or.inl rfl | exact Or.inr rfl) rfl (compScope (defScope s__law_canal) rfl rfl (by decide +kernel) (by decide +kernel) (by decide +kernel)) (caps_of 1 [0, 5, 4] rfl rfl (by decide +kernel)) (pi_range1 (by rfl) T.z_range (pa_cons (pe_def D__law_draw hr rfl (@pa_cons _ _ _ _ _ (pv 0) (@pa_cons _ _ _ _ _ pe_int (@pa_cons _ _ _ _ _ (@pe_op _ _ _ _ _ _ _ _ op_add (pv 3) pe_int) pa_nil (by rfl)) (by rfl)) (by rfl))) pa_nil)) (fun _ _ _ _ _ => (pg_name (i := 0) (show List.Nodup (["k", "script", "many", "unit"] : List Str) from by decide +kernel) rfl (by first | exact Or.inl rfl | exact Or.inr rfl))) (fun _ _ _ _ _ => pts_nil) (fun _ _ _ _ _ => (pe_def D__law_weather hr rfl (@pa_cons _ _ _ _ _ (pv 1) (@pa_cons _ _ _ _ _ (pv 0) (@pa_cons _ _ _ _ _ (pv 2) (@pa_cons _ _ _ _ _ (pv 3) pa_nil (by rfl)) (by rfl)) (by rfl)) (by rfl)))))
      (@pss_one _ _ _ (@ps_ret _ _ _ _ (pe_mk M_Canal hr rfl (@pa_cons _ _ _ _ _ (pv 6) (@pa_cons _ _ _ _ _ (pv 7) (@pa_cons _ _ _ _ _ (pv 8) pa_nil (by rfl)) (by rfl)) (by rfl)))))))))), ?_⟩
  refine ⟨_, rfl, s, ns, rfl, hS, h63, fun u hv0 hv1 => ?_⟩
  refine ⟨_, rfl, _, rfl, _, _, rfl, rfl, s, ns, _, _, rfl, hS, h63, by omega, by omega, by omega, fun m0 m00 m01 => ?_⟩
  refine ⟨_, _, rfl, rfl, ?_⟩
  obtain ⟨n, hn⟩ : ∃ n : Nat, 2 + m0 = (n : Int) := ⟨(2 + m0).toNat, by omega⟩
  try dsimp only
  rw [hn]
  have hn2 : 2 ≤ n := by omega
  have hn8 : n ≤ 8 := by omega
  refine ⟨_, rfl, _, rfl, by omega, by omega, fun rl hrl0 => ?_⟩
  refine comp_rangeR (n := ((n : Nat) : Int).toNat) (caps := [some (.ref s), some (.int u)]) (fun i ys Hi => ∃ R : List RC, AllAt (RcO cR Hi) ys R ∧ R.length = i ∧ ∀ (j : Nat) (r : RC), R[j]? = some r → r.good j) hrl0 ⟨[], AllAt.nil, rfl, fun j r hj => by cases hj⟩ ?_ ?_
  · rintro i ys Hi hi hle sm hY ⟨R, hR, hRl, hRg⟩
    rw [Int.toNat_natCast] at hi
    rw [Int.zero_add]
    refine rd_yes (iteT ⟨_, rfl, _, rfl, _, rfl, s, ns, i, u, rfl, sm.seq hS, h63, by omega, hv0, hv1, fun x r H' hg s' hx0 hx => comp_put hrl0 sm hY hle (by omega) s' ?_⟩)
    refine ⟨R ++ [r], ((hR.mono (RcO.same s')).snoc (v := .ref x) (x := r) ⟨x, rfl, hx⟩).mono (RcO.keep ((Keep.refl rl H').upd _) (s' _ _ hY)), by rw [List.length_append, hRl]; rfl, fun j r' hj => ?_⟩
    by_cases hl : j < R.length
    · rw [List.getElem?_append_left hl] at hj; exact hRg j r' hj
    · rw [List.getElem?_append_right (by omega)] at hj
      have hz : j - R.length = 0 := by
        have := (List.getElem?_eq_some_iff.mp hj).1
        rw [List.length_singleton] at this
        omega
      rw [hz] at hj
      cases hj
      rw [show j = i by omega]
      exact hg
  rintro rs H1 s1 hrl hle1 ⟨R, hR, hRl, hRg⟩
  rw [Int.toNat_natCast] at hRl
  refine ⟨_, rfl, _, rfl, s, ns, _, _, rfl, s1.seq hS, h63, by omega, by omega, by omega, fun m1 m10 m11 => ?_⟩
  refine ⟨_, _, rfl, rfl, ?_⟩
  obtain ⟨m, hm⟩ : ∃ m : Nat, 1 + m1 = (m : Int) := ⟨(1 + m1).toNat, by omega⟩
  try dsimp only
  rw [hm]
  refine ⟨_, rfl, by omega, by omega, fun ll hll0 => ?_⟩
  refine comp_rangeR (n := ((m : Nat) : Int).toNat) (caps := [some (.ref s), some (.int (n : Int)), some (.int u)]) (fun i ys Hi => ∃ L : List LC, AllAt (LkO (kdC cP cB cU) Hi) ys L ∧ L.length = i ∧ ∀ l ∈ L, l.good n) hll0 ⟨[], AllAt.nil, rfl, fun l hl => by cases hl⟩ ?_ ?_
  · rintro i ys Hi hi hle sm hY ⟨L, hL, hLl, hLg⟩
    rw [Int.toNat_natCast] at hi
    rw [Int.zero_add]
    refine rd_yes (iteT ⟨_, rfl, _, rfl, _, rfl, _, rfl, s, ns, i, n, u, rfl, (s1.trans sm).seq hS, h63, by omega, hn2, hn8, hv0, hv1, fun x l H' hg s' hx0 hx => comp_put hll0 sm hY hle (by omega) s' ?_⟩)
    refine ⟨L ++ [l], ((hL.mono (LkO.same s')).snoc (v := .ref x) (x := l) hx).mono (LkO.keep ((Keep.refl ll H').upd _) (s' _ _ hY)), by rw [List.length_append, hLl]; rfl, fun l' hl' => ?_⟩
    rcases List.mem_append.mp hl' with hl' | hl'
    · exact hLg l' hl'
    · rw [List.mem_singleton.mp hl']; exact hg
  rintro ls H2 s2 hll hle2 ⟨L, hL, hLl, hLg⟩
  rw [Int.toNat_natCast] at hLl
  have s12 := s1.trans s2
  refine ⟨_, rfl, _, rfl, _, _, rfl, rfl, s, ns, _, _, rfl, s12.seq hS, h63, by omega, by omega, by omega, fun m2 m20 m21 => ?_⟩
  obtain ⟨c, hc⟩ : ∃ c : Nat, m2 = (c : Int) := ⟨m2.toNat, by omega⟩
  rw [hc]
  refine ⟨_, rfl, by omega, by omega, fun nl hnl0 => ?_⟩
  refine comp_rangeR (n := ((c : Nat) : Int).toNat) (caps := [some (.ref s), some (.int (n : Int)), some (.int u)]) (fun i ys Hi => ∃ N : List (List (Int × Int)), AllAt (NAt [nl] Hi) ys N ∧ N.length = i ∧ ∀ p ∈ N, p.length = n) hnl0 ⟨[], AllAt.nil, rfl, fun l hl => by cases hl⟩ ?_ ?_
  · rintro i ys Hi hi hle sm hY ⟨N, hN, hNl, hNg⟩
    rw [Int.toNat_natCast] at hi
    rw [Int.zero_add]
    refine rd_yes (iteT ⟨_, rfl, _, rfl, _, rfl, _, rfl, s, ns, i, n, u, rfl, (s12.trans sm).seq hS, h63, by omega, hn8, hv0, hv1, fun l p H' hg s' hl0 hl => comp_put hnl0 sm hY hle (by omega) s' ?_⟩)
    obtain ⟨l', qs, e, h1, h2, _⟩ := hl
    cases e
    refine ⟨N ++ [p], ((hN.mono (NAt.same s')).snoc (v := .ref l) (x := p) ⟨l, qs, rfl, h1, h2, fun z => ne_of_none hY hl0 (List.mem_singleton.mp z).symm⟩).mono (NAt.put (s' _ _ hY) (by simp)), by rw [List.length_append, hNl]; rfl, fun p' hp' => ?_⟩
    rcases List.mem_append.mp hp' with hp' | hp'
    · exact hNg p' hp'
    · rw [List.mem_singleton.mp hp']; exact hg
  rintro nv H3 s3 hnl hle3 ⟨N, hN, hNl, hNg⟩
  rw [Int.toNat_natCast] at hNl
  refine ⟨_, rfl, _, rfl, _, rfl, ?_⟩
  intro x dx nx ndx nex
  have v := fun o o' => mk_same (o := o) (o' := o') nx ndx
  refine ⟨x, dx, rl, ll, _, rs, ls, R, L, N, rfl, upd_same, v _ _ _ _ (s3 _ _ (s2 _ _ hrl)), v _ _ _ _ (s3 _ _ hll), (hR.mono (RcO.same (s2.trans s3))).mono (RcO.same (v _ _)), (hL.mono (LkO.same s3)).mono (LkO.same (v _ _)), .inr ⟨nl, nv, rfl, v _ _ _ _ hnl, (hN.mono (NAt.same (v _ _))).mono (NAt.less (by simp)), by rw [hN.1]; omega⟩, fun H' kp hC => ⟨rfl, ?_⟩⟩
  have w := s12.trans s3
  exact q x R L N H' ⟨by omega, by omega, by omega, by omega, hRg, fun i l hl => by rw [hRl]; exact hLg l (List.mem_of_getElem? hl), fun p hp => by rw [hRl]; exact hNg p hp⟩ (by omega) (by omega) (w.trans (mk_trans nx (v _ _) kp)) (w.free nx) (hC [] (fun d hd => nomatch hd))
theorem sc__law_turns : FnScope ["canal", "reach", "some", "k"] ["canal", "reach"] (defScope s__law_turns) := ⟨rfl, rfl, rfl, by decide +kernel, rfl, by decide +kernel, by decide +kernel⟩
theorem ok_s__law_turns {f : Addr} {fd : FuncData} (F : Fun K "_law_turns" "_law_turns" s__law_turns f fd) (T : Txt K mg cP cB cU cR cN eC eW eB eU eL)  : FnOk P w K mg base CX0 1 f fd ["canal", "reach"] (spTurns (kdC cP cB cU) cR cN) := by
  refine F.ok sc__law_turns (fun vs H Q E h => ?_) (fun cdv A outer s H vs Q E hr h => ?_)
  · obtain ⟨x, r, D, R, L, N, rfl, ⟨dx, rl, ll, nl, fs, rs, ls, ns, hx, hf, hrl, hll, hnl, hR, hL, hN, d1, d2, d3⟩, b8, q⟩ := h
    rfl
  obtain ⟨x, r, D, R, L, N, rfl, ⟨dx, rl, ll, nl, fs, rs, ls, ns, hx, hf, hrl, hll, hnl, hR, hL, hN, d1, d2, d3⟩, b8, q⟩ := h
  have hu : _ < cLine := hr.units0
  have hu1 := hu_of hr
  refine ⟨_, (@pss_cons _ _ _ _ _ (ps_set (i := 2) sc__law_turns.nd rfl (by first | exact Or.inl rfl | exact Or.inr rfl) (pe_lst pa_nil))
      (@pss_cons _ _ _ _ _ (ps_for PassesOwn.never rfl (pi_range1 (by rfl) T.z_range (pa_cons (pe_callB call_len_seq (by rfl) T.z_len PySem.boot_len (pa_cons (pe_fld (pv 0) rfl) pa_nil)) pa_nil)) (pg_name (i := 3) sc__law_turns.nd rfl (by first | exact Or.inl rfl | exact Or.inr rfl))
        (pss_cut (ps_if (pt_cmpR op_eq (pe_fld (pe_ix ix_list (pe_fld (pv 0) rfl) (pv 3) (fun _ _ => rfl)) rfl) (pv 1) (nomark _)) (@pss_one _ _ _ (ps_expr (pe_bm PySem.F.plainAttrs_list PySem.F.slot_list_append PySem.F.type_list_append mt_append (pv 2) (pa_cons (pe_tup (pa_cons (pv 3) (pa_cons pe_str pa_nil))) pa_nil)))) pss_nil)
      (@pss_one _ _ _ (ps_if (pt_cmpR op_eq (pe_fld (pe_ix ix_list (pe_fld (pv 0) rfl) (pv 3) (fun _ _ => rfl)) rfl) (pv 1) (nomark _)) (@pss_one _ _ _ (ps_expr (pe_bm PySem.F.plainAttrs_list PySem.F.slot_list_append PySem.F.type_list_append mt_append (pv 2) (pa_cons (pe_tup (pa_cons (pv 3) (pa_cons pe_str pa_nil))) pa_nil)))) pss_nil))))
      (@pss_one _ _ _ (@ps_ret _ _ _ _ (pv 2))))), ?_⟩
  refine ⟨(by show 0 ≤ sizeLine; decide), fun ol hol0 => ?_⟩
  have s1 := same_new hol0 (.lst [])
  refine ⟨_, rfl, x, cN, dx, _, _, rfl, (s1 _ _ hx), T.clN, T.nN_locks, hf.2.1, ll, _, rfl, .inl (SqL.of (s1 _ _ hll)), _, rfl, by omega, by rw [hL.1]; omega, for_range (n := ((ls.length : Nat) : Int).toNat) (fun i σ Hi => ∃ (us : List V) (c : Option V), σ = [some (.ref x), some (.int r), some (.ref ol), c] ∧ Hi ol = some (.lst us) ∧ AllAt (PAt Hi) us (turnsTo L r i) ∧ Same H Hi)
    ⟨[], none, rfl, upd_same, AllAt.nil, s1⟩ ?_ ?_⟩
  · rintro i σ Hi hi ⟨us, c, rfl, hol, hA, sm⟩
    rw [Int.toNat_natCast, hL.1] at hi
    rw [Int.zero_add]
    obtain ⟨l, hl'⟩ : ∃ l, L[i]? = some l := ⟨_, List.getElem?_eq_getElem hi⟩
    obtain ⟨v, hv, y, rfl, dl, hl⟩ := hL.get hl'
    have hlen := turnsTo_len L r i
    have ek : turnK L r i = (if l.low = r then [(i, true)] else []) ++ (if l.high = r then [(i, false)] else []) := by unfold turnK; rw [hl']
    refine ⟨fun σ' H' => ∃ us : List V, σ' = [some (.ref x), some (.int r), some (.ref ol), some (.int (i : Int))] ∧ H' ol = some (.lst us) ∧ AllAt (PAt H') us (turnsTo L r i ++ (if l.low = r then [(i, true)] else [])) ∧ Same H H', ?_, ?_⟩
    · refine ⟨_, rfl, x, cN, dx, _, _, rfl, (sm _ _ hx), T.clN, T.nN_locks, hf.2.1, _, rfl, ll, _, _, _, rfl, rfl, SqL.of (sm _ _ hll), atI_nat hv, y, _, dl, _, _, rfl, (sm _ _ hl), T.cl l.kd, T.n_low l.kd, fk_low l.kd _ _ _ _ _, _, rfl, rfl, _, rfl, ?_⟩
      by_cases h : l.low = r
      · refine iteDT (congrArg V.int h) ⟨_, rfl, .inl ⟨rfl, _, SqL.of hol⟩, _, rfl, (by show 2 ≤ sizeLine; decide), fun tp htp => ?_⟩
        have u := same_new htp (.tup [V.int (i : Int), V.str "up"])
        refine ⟨ol, _, _, rfl, rfl, u _ _ hol, small1000 (by rw [hA.1]; omega), _, rfl, upd_same, ?_, same_upd hol0 (sm.trans u)⟩
        rw [if_pos h]
        exact ((hA.mono (PAt.same u)).snoc (v := .ref tp) (x := (i, true)) ⟨tp, rfl, upd_same⟩).mono (PAt.put (u _ _ hol))
      · refine iteDF (fun z => h (V.int.inj z)) ⟨us, rfl, hol, ?_, sm⟩
        rw [if_neg h, List.append_nil]
        exact hA
    rintro σ' H' ⟨us, rfl, hol, hA, sm⟩
    have hl2 : (if l.low = r then [(i, true)] else ([] : List (Nat × Bool))).length ≤ 1 := by split <;> simp
    refine ⟨_, rfl, x, cN, dx, _, _, rfl, (sm _ _ hx), T.clN, T.nN_locks, hf.2.1, _, rfl, ll, _, _, _, rfl, rfl, SqL.of (sm _ _ hll), atI_nat hv, y, _, dl, _, _, rfl, (sm _ _ hl), T.cl l.kd, T.n_high l.kd, fk_high l.kd _ _ _ _ _, _, rfl, rfl, _, rfl, ?_⟩
    by_cases h : l.high = r
    · refine iteDT (congrArg V.int h) ⟨_, rfl, .inl ⟨rfl, _, SqL.of hol⟩, _, rfl, (by show 2 ≤ sizeLine; decide), fun tp htp => ?_⟩
      have u := same_new htp (.tup [V.int (i : Int), V.str "down"])
      refine ⟨ol, _, _, rfl, rfl, u _ _ hol, small1000 (by rw [hA.1, List.length_append]; omega), _, _, rfl, upd_same, ?_, same_upd hol0 (sm.trans u)⟩
      rw [turnsTo_succ, ek, if_pos h, ← List.append_assoc]
      exact ((hA.mono (PAt.same u)).snoc (v := .ref tp) (x := (i, false)) ⟨tp, rfl, upd_same⟩).mono (PAt.put (u _ _ hol))
    · refine iteDF (fun z => h (V.int.inj z)) ⟨us, _, rfl, hol, ?_, sm⟩
      rw [turnsTo_succ, ek, if_neg h, List.append_nil]
      exact hA
  rintro σ Hi ⟨us, c, rfl, hol, hA, sm⟩
  rw [Int.toNat_natCast, hL.1] at hA
  exact ⟨_, rfl, q ol us Hi sm hol0 hol hA⟩
theorem sc__law_refused : FnScope ["canal", "start", "steps", "e"] ["canal", "start", "steps"] (defScope s__law_refused) := ⟨rfl, rfl, rfl, by decide +kernel, rfl, by decide +kernel, by decide +kernel⟩
theorem ok_s__law_refused {f : Addr} {fd : FuncData} (F : Fun K "_law_refused" "_law_refused" s__law_refused f fd) (T : Txt K mg cP cB cU cR cN eC eW eB eU eL) (DX_linked : DefX P w K mg base 2 "linked" ["canal", "start", "steps"] [] (spLinked K (kdC cP cB cU) cR cN eL)) : FnOk P w K mg base CX0 3 f fd ["canal", "start", "steps"] (spRefused K (kdC cP cB cU) cR cN) := by
  refine F.ok sc__law_refused (fun vs H Q E h => ?_) (fun cdv A outer s H vs Q E hr h => ?_)
  · obtain ⟨x, st, s₁, us, ps, D, R, L, N, rfl, hc, hst, hP, hlt, h100, hno, q⟩ := h
    rfl
  obtain ⟨x, st, s₁, us, ps, D, R, L, N, rfl, hc, hst, hP, hlt, h100, hno, q⟩ := h
  have hu : _ < cLine := hr.units0
  have hu1 := hu_of hr
  refine ⟨_, (@pss_cons _ _ _ _ _ (ps_tryAs (i := 3) rfl rfl rfl sc__law_refused.nd rfl rfl rfl T.c_CanalError (fun _ _ hx => (pss_one (ps_expr (pe_defX DX_linked hx hr rfl (@pa_cons _ _ _ _ _ (pv 0) (@pa_cons _ _ _ _ _ (pv 1) (@pa_cons _ _ _ _ _ (pv 2) pa_nil (by rfl)) (by rfl)) (by rfl)))))) (fun _ => (@pss_cons _ _ _ _ _ (ps_if (PW.pt (pw_or (pt_not (pt_val (pe_callB (call_isE (K := K)) (by rfl) T.z_isinstance PyProof.Rows.boot_isinstance (pa_cons (pv 3) (pa_cons (pe_bltn (v := .ty "ValueError") rfl T.z_ValueError PyProof.Rows.Boot.«ValueError» rfl) pa_nil))))) (pw_or1 (pt_val (pe_callB (call_isE (K := K)) (by rfl) T.z_isinstance PyProof.Rows.boot_isinstance (pa_cons (pv 3) (pa_cons (pe_tup (@pa_cons _ _ _ _ _ (pe_glob (v := .ref eW) rfl T.c_NotNow rfl) (@pa_cons _ _ _ _ _ (pe_glob (v := .ref eU) rfl T.c_Unknown rfl) (@pa_cons _ _ _ _ _ (pe_glob (v := .ref eB) rfl T.c_BadRow rfl) pa_nil (by rfl)) (by rfl)) (by rfl))) pa_nil))))))) (@pss_one _ _ _ (@ps_ret _ _ _ _ pe_bl)) pss_nil)
      (@pss_one _ _ _ (@ps_ret _ _ _ _ (pe_callB (call_isE (K := K)) (by rfl) T.z_isinstance PyProof.Rows.boot_isinstance (pa_cons (pv 3) (pa_cons (pe_glob (v := .ref eL) rfl T.c_NotLinked rfl) pa_nil))))))))
      (@pss_one _ _ _ (@ps_ret _ _ _ _ pe_bl))), ?_⟩
  refine ⟨fun σ' c H' => σ' = [some (.ref x), some (.int s₁), some (.ref st), none] ∧ c = .ref eL ∧ Same H H', ?_, ?_⟩
  · exact ⟨_, rfl, _, rfl, _, rfl, x, st, s₁, us, ps, D, R, L, N, rfl, hc, hst, hP, hlt, h100, fun ok => absurd ok hno, fun _ H' s => ⟨rfl, rfl, s⟩⟩
  rintro σ' c H' ⟨rfl, rfl, sm⟩
  refine ⟨eL, rfl, T.exm_NotLinked, fun ex hex => ?_⟩
  have s1 := same_new hex (ExcO ex eL)
  refine ⟨_, rfl, ex, eL, .ty "ValueError", true, rfl, upd_same, T.at_NotLinked, T.cl_NotLinked, .inl ⟨_, rfl, T.k_NotLinked_ValueError⟩, _, rfl, iteF ?_⟩
  refine ⟨_, rfl, (by show 3 ≤ sizeLine; decide), fun tp htp => ?_⟩
  have t1 := same_new htp (.tup [.ref eW, .ref eU, .ref eB])
  refine ⟨ex, eL, .ref tp, false, rfl, t1 _ _ upd_same, T.at_NotLinked, T.cl_NotLinked, .inr ⟨tp, [eW, eU, eB], rfl, upd_same, T.ka_NotLinked_0⟩, _, rfl, iteF ?_⟩
  exact ⟨_, rfl, ex, eL, .ref eL, true, rfl, t1 _ _ upd_same, T.at_NotLinked, T.cl_NotLinked, .inl ⟨_, rfl, T.k_NotLinked_NotLinked⟩, q _ ((sm.trans s1).trans t1)⟩
theorem sc__law_tried : FnScope ["canal", "start", "steps"] ["canal", "start", "steps"] (defScope s__law_tried) := ⟨rfl, rfl, rfl, by decide +kernel, rfl, by decide +kernel, by decide +kernel⟩
theorem ok_s__law_tried {f : Addr} {fd : FuncData} (F : Fun K "_law_tried" "_law_tried" s__law_tried f fd) (T : Txt K mg cP cB cU cR cN eC eW eB eU eL) (DX_linked : DefX P w K mg base 2 "linked" ["canal", "start", "steps"] [] (spLinked K (kdC cP cB cU) cR cN eL)) : FnOk P w K mg base CX0 3 f fd ["canal", "start", "steps"] (spTriedL K (kdC cP cB cU) cR cN) := by
  refine F.ok sc__law_tried (fun vs H Q E h => ?_) (fun cdv A outer s H vs Q E hr h => ?_)
  · obtain ⟨x, st, s₁, us, ps, D, R, L, N, rfl, hc, hst, hP, hlt, h100, hok, q⟩ := h
    rfl
  obtain ⟨x, st, s₁, us, ps, D, R, L, N, rfl, hc, hst, hP, hlt, h100, hok, q⟩ := h
  have hu : _ < cLine := hr.units0
  have hu1 := hu_of hr
  refine ⟨_, (@pss_one _ _ _ (ps_try rfl rfl rfl rfl T.c_NotLinked T.x_NotLinked (fun _ _ hx => (pss_one (@ps_ret _ _ _ _ (pe_defX DX_linked hx hr rfl (@pa_cons _ _ _ _ _ (pv 0) (@pa_cons _ _ _ _ _ (pv 1) (@pa_cons _ _ _ _ _ (pv 2) pa_nil (by rfl)) (by rfl)) (by rfl)))))) (fun _ => (@pss_one _ _ _ (@ps_ret _ _ _ _ pe_non))))), ?_⟩
  refine ⟨fun σ' c H' => False, ?_, fun σ' c H' h => h.elim⟩
  exact ⟨_, rfl, _, rfl, _, rfl, x, st, s₁, us, ps, D, R, L, N, rfl, hc, hst, hP, hlt, h100, fun _ => q, fun hno => absurd hok hno⟩
theorem sc__law_step : FnScope ["script", "canal", "at", "j", "some", "step"] ["script", "canal", "at", "j"] (defScope s__law_step) := ⟨rfl, rfl, rfl, by decide +kernel, rfl, by decide +kernel, by decide +kernel⟩
theorem ok_s__law_step {f : Addr} {fd : FuncData} (F : Fun K "_law_step" "_law_step" s__law_step f fd) (T : Txt K mg cP cB cU cR cN eC eW eB eU eL) (D__law_turns : Def P w K mg base 1 "_law_turns" ["canal", "reach"] [] (spTurns (kdC cP cB cU) cR cN)) (D__law_draw : Def P w K mg base 1 "_law_draw" ["script", "k", "many"] [] (spDraw K)) : FnOk P w K mg base CX0 2 f fd ["script", "canal", "at", "j"] (spStepD K (kdC cP cB cU) cR cN) := by
  refine F.ok sc__law_step (fun vs H Q E h => ?_) (fun cdv A outer s H vs Q E hr h => ?_)
  · obtain ⟨s, x, ns, r, j, D, R, L, N, rfl, hS, h63, hj, hc, b1, b8, q⟩ := h
    rfl
  obtain ⟨s, x, ns, r, j, D, R, L, N, rfl, hS, h63, hj, hc, b1, b8, q⟩ := h
  have hu : _ < cLine := hr.units0
  have hu1 := hu_of hr
  refine ⟨_, (@pss_cons _ _ _ _ _ (ps_set (i := 4) sc__law_step.nd rfl (by first | exact Or.inl rfl | exact Or.inr rfl) (pe_def D__law_turns hr rfl (pa_cons (pv 1) (pa_cons (pv 2) pa_nil))))
      (@pss_cons _ _ _ _ _ (ps_set (i := 5) sc__law_step.nd rfl (by first | exact Or.inl rfl | exact Or.inr rfl) (pe_tup (pa_cons (pe_def D__law_draw hr rfl (@pa_cons _ _ _ _ _ (pv 0) (@pa_cons _ _ _ _ _ (@pe_op _ _ _ _ _ _ _ _ op_add pe_int (@pe_op _ _ _ _ _ _ _ _ op_mul pe_int (pv 3))) (@pa_cons _ _ _ _ _ (pe_callB call_len_seq (by rfl) T.z_len PySem.boot_len (pa_cons (pe_fld (pv 1) rfl) pa_nil)) pa_nil (by rfl)) (by rfl)) (by rfl))) (pa_cons (pe_ix ix_list (pe_lst (pa_cons pe_str (pa_cons pe_str pa_nil))) (pe_def D__law_draw hr rfl (@pa_cons _ _ _ _ _ (pv 0) (@pa_cons _ _ _ _ _ (@pe_op _ _ _ _ _ _ _ _ op_add pe_int (@pe_op _ _ _ _ _ _ _ _ op_mul pe_int (pv 3))) (@pa_cons _ _ _ _ _ pe_int pa_nil (by rfl)) (by rfl)) (by rfl))) (fun _ _ => rfl)) pa_nil))))
      (pss_cut (ps_if (PW.pt (pw_and (pt_cmpR op_gt (pe_callB call_len_seq (by rfl) T.z_len PySem.boot_len (pa_cons (pv 4) pa_nil)) pe_int (nomark _)) (pw_and1 (pt_cmpR op_ne (pe_def D__law_draw hr rfl (@pa_cons _ _ _ _ _ (pv 0) (@pa_cons _ _ _ _ _ (@pe_op _ _ _ _ _ _ _ _ op_add pe_int (pv 3)) (@pa_cons _ _ _ _ _ pe_int pa_nil (by rfl)) (by rfl)) (by rfl))) pe_int (nomark _))))) (@pss_one _ _ _ (ps_set (i := 5) sc__law_step.nd rfl (by first | exact Or.inl rfl | exact Or.inr rfl) (pe_ix ix_list (pv 4) (pe_def D__law_draw hr rfl (@pa_cons _ _ _ _ _ (pv 0) (@pa_cons _ _ _ _ _ (@pe_op _ _ _ _ _ _ _ _ op_add pe_int (pv 3)) (@pa_cons _ _ _ _ _ (pe_callB call_len_seq (by rfl) T.z_len PySem.boot_len (pa_cons (pv 4) pa_nil)) pa_nil (by rfl)) (by rfl)) (by rfl))) (fun _ _ => rfl)))) pss_nil)
      (@pss_one _ _ _ (@ps_ret _ _ _ _ (pv 5)))))), ?_⟩
  have hc0 := hc
  obtain ⟨dx, rl, ll, nl, fs, rs, ls, nv, hx, hf, hrl, hll, hnl, hR, hL, hN, d1, d2, d3⟩ := hc
  refine ⟨_, rfl, _, rfl, x, r, D, R, L, N, rfl, hc0, b8, fun so us H1 s1 hso0 hso hA => ?_⟩
  have hS1 := s1.seq hS
  refine ⟨_, rfl, _, rfl, _, _, rfl, rfl, .inl ⟨by decide, by decide⟩, _, _, rfl, rfl, _, rfl, x, cN, dx, _, _, rfl, (s1 _ _ hx), T.clN, T.nN_locks, hf.2.1, ll, _, rfl, .inl (SqL.of (s1 _ _ hll)), s, ns, _, _, rfl, hS1, h63, by omega, by omega, by rw [hL.1]; omega, fun d1 d10 d11 => ?_⟩
  refine ⟨(by show 2 ≤ sizeLine; decide), fun p1 hp1 => ?_⟩
  have s2 := same_new hp1 (.lst [V.str "up", V.str "down"])
  have s12 := s1.trans s2
  refine ⟨_, rfl, _, rfl, _, _, rfl, rfl, .inl ⟨by decide, by decide⟩, _, _, rfl, rfl, s, ns, _, _, rfl, s12.seq hS, h63, by omega, by omega, by omega, fun d2 d20 d21 => ?_⟩
  obtain ⟨b, hb⟩ := at_side d20 d21
  refine ⟨p1, _, _, _, rfl, rfl, SqL.of upd_same, hb, (by show 2 ≤ sizeLine; decide), fun t ht0 => ?_⟩
  obtain ⟨k1, hk1⟩ : ∃ k1 : Nat, d1 = (k1 : Int) := ⟨d1.toNat, by omega⟩
  subst hk1
  have s3 := same_new ht0 (.tup [V.int (k1 : Int), V.str (sdS b)])
  have s13 := s12.trans s3
  have hso3 := s3 _ _ (s2 _ _ hso)
  have hpt : PAt (upd (upd H1 p1 (.lst [V.str "up", V.str "down"])) t (.tup [V.int (k1 : Int), V.str (sdS b)])) (.ref t) (k1, b) := ⟨t, rfl, upd_same⟩
  have hA3 := hA.mono (PAt.same (s2.trans s3))
  have hk1L : k1 < L.length := by rw [hL.1] at d11; omega
  generalize upd (upd H1 p1 (.lst [V.str "up", V.str "down"])) t (.tup [V.int (k1 : Int), V.str (sdS b)]) = H3 at s3 s13 hso3 hpt hA3 ⊢
  refine ⟨fun σ' H' => ∃ (t : Addr) (p : Nat × Bool), σ' = [some (.ref s), some (.ref x), some (.int r), some (.int (j : Int)), some (.ref so), some (.ref t)] ∧ p.1 < L.length ∧ PAt H' (.ref t) p ∧ Same H H', ?_, ?_⟩
  · refine ⟨_, rfl, so, _, rfl, .inl (SqL.of hso3), _, _, rfl, rfl, _, rfl, ?_⟩
    by_cases h0 : 0 < us.length
    · refine iteDT (by omega) ⟨_, rfl, _, rfl, _, _, rfl, rfl, s, ns, _, _, rfl, s13.seq hS, h63, by omega, by omega, by omega, fun d3 d30 d31 => ⟨rfl, _, rfl, ite2 (fun _ => ?_) (fun _ => ⟨t, _, rfl, hk1L, hpt, s13⟩)⟩⟩
      refine ⟨_, rfl, _, rfl, _, rfl, _, _, rfl, rfl, _, rfl, so, _, rfl, .inl (SqL.of hso3), s, ns, _, _, rfl, s13.seq hS, h63, by omega, by omega, by omega, fun d4 d40 d41 => ?_⟩
      obtain ⟨m, hm⟩ : ∃ m : Nat, d4 = (m : Int) := ⟨d4.toNat, by omega⟩
      subst hm
      have hml : m < us.length := by omega
      obtain ⟨p, hp, hpa⟩ := hA3.2 m _ (List.getElem?_eq_getElem hml)
      obtain ⟨t2, e2, ht2⟩ := hpa
      refine ⟨so, _, _, _, rfl, rfl, SqL.of hso3, atI_nat (v := .ref t2) (by rw [List.getElem?_eq_getElem hml, e2]), t2, p, rfl, (turns_mem.mp (List.mem_of_getElem? hp)).1, ⟨t2, rfl, ht2⟩, s13⟩
    · exact iteDF (by omega) (iteF ⟨t, _, rfl, hk1L, hpt, s13⟩)
  rintro σ' H' ⟨t, p, rfl, hp, hpt, sm⟩
  exact ⟨_, rfl, q t p H' hp sm hpt⟩
theorem sc_law : FnScope ["script", "canal", "at", "due", "steps", "broken", "j", "step", "handed", "found", "reach"] ["script"] (defScope s_law) := ⟨rfl, rfl, rfl, by decide +kernel, rfl, by decide +kernel, by decide +kernel⟩
theorem ok_s_law {f : Addr} {fd : FuncData} (F : Fun K "law" "law" s_law f fd) (T : Txt K mg cP cB cU cR cN eC eW eB eU eL) (D__law_canal : Def P w K mg base 6 "_law_canal" ["script", "most_reaches", "most_locks", "most_nights"] [] (spCanalD K (kdC cP cB cU) cR cN)) (D__law_draw : Def P w K mg base 1 "_law_draw" ["script", "k", "many"] [] (spDraw K)) (D__law_step : Def P w K mg base 2 "_law_step" ["script", "canal", "at", "j"] [] (spStepD K (kdC cP cB cU) cR cN)) (D__law_turns : Def P w K mg base 1 "_law_turns" ["canal", "reach"] [] (spTurns (kdC cP cB cU) cR cN)) (D__law_refused : Def P w K mg base 3 "_law_refused" ["canal", "start", "steps"] [] (spRefused K (kdC cP cB cU) cR cN)) (D__law_tried : Def P w K mg base 3 "_law_tried" ["canal", "start", "steps"] [] (spTriedL K (kdC cP cB cU) cR cN)) (D__law_whole : Def P w K mg base 1 "_law_whole" ["found"] [] (spWhole)) : FnOk P w K mg base CX0 8 f fd ["script"] (spLaw K) := by
  refine F.ok sc_law (fun vs H Q E h => ?_) (fun cdv A outer s H vs Q E hr h => ?_)
  · obtain ⟨s, ns, rfl, hS, h63, q⟩ := h
    rfl
  obtain ⟨s, ns, rfl, hS, h63, q⟩ := h
  have hu : _ < cLine := hr.units0
  have hu1 := hu_of hr
  refine ⟨_, (@pss_cons _ _ _ _ _ (ps_set (i := 1) sc_law.nd rfl (by first | exact Or.inl rfl | exact Or.inr rfl) (pe_def D__law_canal hr rfl (@pa_cons _ _ _ _ _ (pv 0) (@pa_cons _ _ _ _ _ pe_int (@pa_cons _ _ _ _ _ pe_int (@pa_cons _ _ _ _ _ pe_int pa_nil (by rfl)) (by rfl)) (by rfl)) (by rfl))))
      (@pss_cons _ _ _ _ _ (ps_set (i := 2) sc_law.nd rfl (by first | exact Or.inl rfl | exact Or.inr rfl) (pe_def D__law_draw hr rfl (@pa_cons _ _ _ _ _ (pv 0) (@pa_cons _ _ _ _ _ pe_int (@pa_cons _ _ _ _ _ (pe_callB call_len_seq (by rfl) T.z_len PySem.boot_len (pa_cons (pe_fld (pv 1) rfl) pa_nil)) pa_nil (by rfl)) (by rfl)) (by rfl))))
      (@pss_cons _ _ _ _ _ (ps_set (i := 3) sc_law.nd rfl (by first | exact Or.inl rfl | exact Or.inr rfl) (pe_lst (pa_cons (pv 2) pa_nil)))
      (@pss_cons _ _ _ _ _ (ps_set (i := 4) sc_law.nd rfl (by first | exact Or.inl rfl | exact Or.inr rfl) (pe_lst pa_nil))
      (@pss_cons _ _ _ _ _ (ps_set (i := 5) sc_law.nd rfl (by first | exact Or.inl rfl | exact Or.inr rfl) pe_bl)
      (@pss_cons _ _ _ _ _ (ps_for PassesOwn.never rfl (pi_range1 (by rfl) T.z_range (pa_cons (@pe_op _ _ _ _ _ _ _ _ op_add pe_int (pe_def D__law_draw hr rfl (@pa_cons _ _ _ _ _ (pv 0) (@pa_cons _ _ _ _ _ pe_int (@pa_cons _ _ _ _ _ pe_int pa_nil (by rfl)) (by rfl)) (by rfl)))) pa_nil)) (pg_name (i := 6) sc_law.nd rfl (by first | exact Or.inl rfl | exact Or.inr rfl))
        (@pss_cons _ _ _ _ _ (ps_set (i := 7) sc_law.nd rfl (by first | exact Or.inl rfl | exact Or.inr rfl) (pe_def D__law_step hr rfl (@pa_cons _ _ _ _ _ (pv 0) (@pa_cons _ _ _ _ _ (pv 1) (@pa_cons _ _ _ _ _ (pv 2) (@pa_cons _ _ _ _ _ (pv 6) pa_nil (by rfl)) (by rfl)) (by rfl)) (by rfl))))
      (@pss_cons _ _ _ _ _ (ps_expr (pe_bm PySem.F.plainAttrs_list PySem.F.slot_list_append PySem.F.type_list_append mt_append (pv 4) (pa_cons (pv 7) pa_nil)))
      (pss_cut (ps_if (pt_cmpR (op_notInD hu1) (pv 7) (pe_def D__law_turns hr rfl (pa_cons (pv 1) (pa_cons (pv 2) pa_nil))) (by with_unfolding_all rfl)) (@pss_one _ _ _ (ps_set (i := 5) sc_law.nd rfl (by first | exact Or.inl rfl | exact Or.inr rfl) pe_bl)) pss_nil)
      (@pss_cons _ _ _ _ _ (ps_set (i := 2) sc_law.nd rfl (by first | exact Or.inl rfl | exact Or.inr rfl) (pe_ix ix_list (pe_lst (pa_cons (pe_fld (pe_ix ix_list (pe_fld (pv 1) rfl) (pe_ix ix_tup (pv 7) pe_int (fun _ _ => rfl)) (fun _ _ => rfl)) rfl) (pa_cons (pe_fld (pe_ix ix_list (pe_fld (pv 1) rfl) (pe_ix ix_tup (pv 7) pe_int (fun _ _ => rfl)) (fun _ _ => rfl)) rfl) pa_nil))) (pe_callTy call_int1 (by rfl) T.z_int PyProof.Rows.boot_int (pa_cons (pe_cmpR op_eq (pe_ix ix_tup (pv 7) pe_int (fun _ _ => rfl)) pe_str (nomark _)) pa_nil)) (fun _ _ => rfl)))
      (@pss_one _ _ _ (ps_expr (pe_bm PySem.F.plainAttrs_list PySem.F.slot_list_append PySem.F.type_list_append mt_append (pv 3) (pa_cons (pv 2) pa_nil)))))))))
      (@pss_cons _ _ _ _ _ (ps_set (i := 8) sc_law.nd rfl (by first | exact Or.inl rfl | exact Or.inr rfl) (pe_callTy call_tuple_of (by rfl) T.z_tuple PyProof.Rows.boot_tuple (pa_cons (pv 4) pa_nil)))
      (@pss_cons _ _ _ _ _ (ps_if (pt_val (pv 5)) (@pss_one _ _ _ (@ps_ret _ _ _ _ (pe_and (pe_def D__law_refused hr rfl (@pa_cons _ _ _ _ _ (pv 1) (@pa_cons _ _ _ _ _ (pe_ix ix_list (pv 3) pe_int (fun _ _ => rfl)) (@pa_cons _ _ _ _ _ (pv 8) pa_nil (by rfl)) (by rfl)) (by rfl))) (pe_one (pe_cmpR (op_eqTS hu) (pv 8) (pe_callTy call_tuple_of (by rfl) T.z_tuple PyProof.Rows.boot_tuple (pa_cons (pv 4) pa_nil)) (nomark _)))))) pss_nil)
      (@pss_cons _ _ _ _ _ (ps_set (i := 9) sc_law.nd rfl (by first | exact Or.inl rfl | exact Or.inr rfl) (pe_def D__law_tried hr rfl (@pa_cons _ _ _ _ _ (pv 1) (@pa_cons _ _ _ _ _ (pe_ix ix_list (pv 3) pe_int (fun _ _ => rfl)) (@pa_cons _ _ _ _ _ (pv 8) pa_nil (by rfl)) (by rfl)) (by rfl))))
      (@pss_cons _ _ _ _ _ (ps_if (PW.pt (pw_or (pt_not (pt_val (pe_callB call_isi (by rfl) T.z_isinstance PyProof.Rows.boot_isinstance (pa_cons (pv 9) (pa_cons (pe_bltn (v := .ty "list") rfl T.z_list PyProof.Rows.boot_list rfl) pa_nil))))) (pw_or (pt_cmpR (op_neL hu) (pv 9) (pv 3) (nomark _)) (pw_or1 (pt_cmpR (op_neTS hu) (pv 8) (pe_callTy call_tuple_of (by rfl) T.z_tuple PyProof.Rows.boot_tuple (pa_cons (pv 4) pa_nil)) (nomark _)))))) (@pss_one _ _ _ (@ps_ret _ _ _ _ pe_bl)) pss_nil)
      (@pss_cons _ _ _ _ _ (ps_for PassesOwn.never rfl (pi_list (pv 9)) (pg_name (i := 10) sc_law.nd rfl (by first | exact Or.inl rfl | exact Or.inr rfl))
        (@pss_one _ _ _ (ps_if (pt_not (pt_val (pe_def D__law_whole hr rfl (pa_cons (pv 10) pa_nil)))) (@pss_one _ _ _ (@ps_ret _ _ _ _ pe_bl)) pss_nil)))
      (@pss_one _ _ _ (@ps_ret _ _ _ _ pe_bl))))))))))))), ?_⟩
  refine ⟨_, rfl, s, ns, 4, 3, 0, rfl, hS, h63, by decide, by decide, by decide, by decide, by decide, fun x R L N H1 hdr hr2 hl1 s1 hx0 hcn => ?_⟩
  have hcn0 := hcn
  obtain ⟨dx, rl, ll, nl, fs, rs, ls, nv, hx, hf, hrl, hll, hnl, hR, hL, hN, d1, d2, d3⟩ := hcn0
  have b1 := hdr.r8
  have b2 := hdr.l8
  have hS1 := s1.seq hS
  refine ⟨_, rfl, _, rfl, x, cN, dx, _, _, rfl, hx, T.clN, T.nN_reaches, hf.1, rl, _, rfl, .inl (SqL.of hrl), s, ns, _, _, rfl, hS1, h63, by omega, by omega, by rw [hR.1]; omega, fun a0 a00 a01 => ?_⟩
  refine ⟨_, rfl, (by show 1 ≤ sizeLine; decide), fun du hdu0 => ?_⟩
  have s2 := same_new hdu0 (.lst [V.int a0])
  refine ⟨(by show 0 ≤ sizeLine; decide), fun sp hsp0 => ?_⟩
  have s3 := same_new hsp0 (.lst [])
  have s23 := s2.trans s3
  have nds : du ≠ sp := ne_of_none upd_same hsp0
  have hdu3 := s3 _ _ (upd_same (H := H1) (a := du) (o := .lst [V.int a0]))
  have hsp3 : upd (upd H1 du (.lst [V.int a0])) sp (.lst []) sp = some (.lst []) := upd_same
  have hspf := s2.free hsp0
  generalize upd (upd H1 du (.lst [V.int a0])) sp (.lst []) = H3 at s3 s23 hdu3 hsp3 ⊢
  refine ⟨_, rfl, s, ns, _, _, rfl, s23.seq hS1, h63, by omega, by omega, by omega, fun m0 m00 m01 => ?_⟩
  obtain ⟨n, hn⟩ : ∃ n : Nat, 1 + m0 = (n : Int) := ⟨(1 + m0).toNat, by omega⟩
  refine ⟨_, _, rfl, rfl, (n : Int), (by show [V.int (1 + m0)] = _; rw [hn]), by omega, by omega, ?_⟩
  refine for_range (n := ((n : Nat) : Int).toNat) (fun i σ Hi => ∃ (a : Int) (ps : List (Nat × Bool)) (us : List V) (br : Bool) (c6 c7 : Option V), σ = [some (.ref s), some (.ref x), some (.int a), some (.ref du), some (.ref sp), some (.bl br), c6, c7, none, none, none] ∧ Hi du = some (.lst ((dueS L a0 ps).map V.int)) ∧ Hi sp = some (.lst us) ∧ AllAt (PAt Hi) us ps ∧ (∀ p ∈ ps, p.1 < L.length) ∧ ps.length = i ∧ (dueS L a0 ps)[ps.length]? = some a ∧ (br = true ↔ ¬ okS L a0 ps) ∧ Same H1 Hi)
    ⟨a0, [], [], false, none, none, rfl, hdu3, hsp3, AllAt.nil, fun p hp => (by cases hp), rfl, rfl, ⟨fun h => (by cases h), fun h => absurd (fun j p hp => (by cases hp)) h⟩, s23⟩ ?_ ?_
  · rintro i σ Hi hi ⟨a, ps, us, br, c6, c7, rfl, hdu, hsp, hA, hlt, hpl, hlast, hbr, sm⟩
    rw [Int.toNat_natCast] at hi
    rw [Int.zero_add]
    have hi9 : i < 9 := by omega
    refine ⟨_, rfl, _, rfl, _, rfl, _, rfl, s, x, ns, a, i, _, R, L, N, rfl, sm.seq hS1, h63, by omega, hcn.same sm, hl1, b2, fun t p H4 hp s4 hpt => ?_⟩
    have sm4 := sm.trans s4
    have hsp4 := s4 _ _ hsp
    have hdu4 := s4 _ _ hdu
    refine ⟨_, rfl, .inl ⟨rfl, _, SqL.of hsp4⟩, _, rfl, sp, _, _, rfl, rfl, hsp4, small1000 (by rw [hA.1]; omega), ?_⟩
    have hA5 : AllAt (PAt (upd H4 sp (.lst (us ++ [.ref t])))) (us ++ [.ref t]) (ps ++ [p]) := ((hA.mono (PAt.same s4)).snoc hpt).mono (PAt.put hsp4)
    have sm5 : Same H1 (upd H4 sp (.lst (us ++ [.ref t]))) := same_upd hspf sm4
    have hsp5 : upd H4 sp (.lst (us ++ [.ref t])) sp = some (.lst (us ++ [.ref t])) := upd_same
    have hdu5 : upd H4 sp (.lst (us ++ [.ref t])) du = some (.lst ((dueS L a0 ps).map V.int)) := by rw [upd_ne nds]; exact hdu4
    have hpt5 := PAt.put (o := .lst (us ++ [.ref t])) hsp4 _ _ hpt
    generalize upd H4 sp (.lst (us ++ [.ref t])) = H5 at hA5 sm5 hsp5 hdu5 hpt5 ⊢
    obtain ⟨t', e, ht⟩ := hpt5
    cases e
    obtain ⟨l, hl', hlg⟩ := ends_range hdr hp
    obtain ⟨w, hw, y, rfl, dl, hl⟩ := hL.get hl'
    refine ⟨fun σ' H' => ∃ br' : Bool, σ' = [some (.ref s), some (.ref x), some (.int a), some (.ref du), some (.ref sp), some (.bl br'), some (.int (i : Int)), some (.ref t), none, none, none] ∧ (br' = true ↔ ¬ okS L a0 (ps ++ [p])) ∧ Same H5 H', ?_, ?_⟩
    · refine ⟨_, rfl, _, rfl, _, rfl, x, a, _, R, L, N, rfl, hcn.same sm5, b2, fun tl tus H6 s6 htl0 htl hTA => ?_⟩
      have ht6 := s6 _ _ ht
      refine ⟨tl, tus, stepF H6 t p, rfl, SqL.of htl, fun z hz => ?_, _, rfl, ?_⟩
      · obtain ⟨j, hj, ej⟩ := List.mem_iff_getElem.mp hz
        obtain ⟨q', _, b, e, hb⟩ := hTA.2 j z (by rw [List.getElem?_eq_getElem hj, ej])
        exact ⟨b, e, (stepF_is ht6 hb).1⟩
      rw [any_steps K ht6 hTA]
      have key := okS_snoc (p := p) hlast
      by_cases h : p ∈ turnsOf L a
      · refine iteNS h ⟨br, rfl, ?_, s6⟩
        have := (turns_mem.mp h).2
        rw [hbr, key]
        exact ⟨fun z y => z y.1, fun z y => z ⟨y, this⟩⟩
      · refine iteNT h ⟨true, rfl, ⟨fun _ ok => h (turns_mem.mpr ⟨hp, (key.mp ok).2⟩), fun _ => rfl⟩, s6⟩
    rintro σ' H6 ⟨br', rfl, hbr', s6⟩
    have sm6 := sm5.trans s6
    have ht := s6 _ _ ht
    refine ⟨_, rfl, x, cN, dx, _, _, rfl, (sm6 _ _ hx), T.clN, T.nN_locks, hf.2.1, _, rfl, t, _, _, _, rfl, rfl, SqT.of ht, rfl, ll, _, _, _, rfl, rfl, SqL.of (sm6 _ _ hll), atI_nat hw, y, _, dl, _, _, rfl, (sm6 _ _ hl), T.cl l.kd, T.n_low l.kd, fk_low l.kd _ _ _ _ _, _, rfl, x, cN, dx, _, _, rfl, (sm6 _ _ hx), T.clN, T.nN_locks, hf.2.1, _, rfl, t, _, _, _, rfl, rfl, SqT.of ht, rfl, ll, _, _, _, rfl, rfl, SqL.of (sm6 _ _ hll), atI_nat hw, y, _, dl, _, _, rfl, (sm6 _ _ hl), T.cl l.kd, T.n_high l.kd, fk_high l.kd _ _ _ _ _, (by show 2 ≤ sizeLine; decide), fun pl hpl0 => ?_⟩
    have u := same_new hpl0 (.lst [V.int l.low, V.int l.high])
    refine ⟨_, rfl, t, _, _, _, rfl, rfl, SqT.of (u _ _ ht), rfl, rfl, .inr ⟨_, rfl, ?_⟩⟩
    rw [dec_sd]
    have hat : atI [V.int l.low, V.int l.high] (if p.2 = true then 1 else 0) = some (.int (endsOf L p).2) := by
      obtain ⟨pk, pb⟩ := p
      cases pb
      · rw [ends_down hl']; rfl
      · rw [ends_up hl']; rfl
    refine ⟨pl, _, _, _, rfl, rfl, SqL.of upd_same, hat, ?_⟩
    have hdu6 := u _ _ (s6 _ _ hdu5)
    have hsp6 := u _ _ (s6 _ _ hsp5)
    refine ⟨_, rfl, .inl ⟨rfl, _, SqL.of hdu6⟩, _, rfl, du, _, _, rfl, rfl, hdu6, small1000 (by rw [List.length_map, dueS_len]; omega), ?_⟩
    refine ⟨_, ps ++ [p], us ++ [.ref t], br', _, _, rfl, ?_, ?_, ?_, fun p' hp' => ?_, by rw [List.length_append, hpl]; rfl, ?_, hbr', same_upd hdu0 (sm6.trans u)⟩
    · rw [upd_same, dueS_snoc, List.map_append]; rfl
    · rw [upd_ne nds.symm]; exact hsp6
    · exact ((hA5.mono (PAt.same s6)).mono (PAt.same u)).mono (PAt.put hdu6)
    · rcases List.mem_append.mp hp' with h | h
      · exact hlt p' h
      · rw [List.mem_singleton.mp h]; exact hp
    · rw [dueS_snoc, List.length_append, List.getElem?_append_right (by rw [dueS_len]; exact Nat.le_refl _), dueS_len]
      show [(endsOf L p).2][ps.length + 1 - (ps.length + 1)]? = _
      rw [Nat.sub_self]
      rfl
  rintro σ Hi ⟨a, ps, us, br, c6, c7, rfl, hdu, hsp, hA, hlt, hpl, hlast, hbr, sm⟩
  have hps : ps.length ≤ 100 := by rw [hpl, Int.toNat_natCast]; omega
  refine ⟨_, rfl, sp, us, rfl, .inl ⟨SqL.of hsp, fun ha hha0 => ?_⟩⟩
  have s7 := same_new hha0 (.tup us)
  have hha : upd Hi ha (.tup us) ha = some (.tup us) := upd_same
  have hdu7 := s7 _ _ hdu
  have hsp7 := s7 _ _ hsp
  have hA7 := hA.mono (PAt.same s7)
  have hcn7 := hcn.same (sm.trans s7)
  generalize upd Hi ha (.tup us) = H7 at hha hdu7 hsp7 hA7 hcn7 ⊢
  have hat0 : atI ((dueS L a0 ps).map V.int) ((0 : Nat) : Int) = some (.int a0) := atI_nat rfl
  refine ⟨_, rfl, br, rfl, ?_⟩
  cases br with
  | true =>
    have hno := hbr.mp rfl
    refine iteT ⟨_, rfl, _, rfl, du, _, _, _, rfl, rfl, SqL.of hdu7, hat0, _, rfl, x, ha, a0, us, ps, _, R, L, N, rfl, hcn7, hha, hA7, hlt, hps, hno, fun H8 s8 => ⟨_, rfl, iteT ?_⟩⟩
    refine ⟨_, rfl, _, rfl, sp, us, rfl, .inl ⟨SqL.of (s8 _ _ hsp7), fun h2 hh2 => ?_⟩⟩
    have u := same_new hh2 (.tup us)
    exact ⟨ha, h2, us, rfl, rfl, SqT.of (u _ _ (s8 _ _ hha)), SqT.of upd_same, refs_flat hA7, q _⟩
  | false =>
    have hok : okS L a0 ps := Classical.byContradiction fun h => nomatch hbr.mpr h
    refine iteF ⟨_, rfl, _, rfl, du, _, _, _, rfl, rfl, SqL.of hdu7, hat0, _, rfl, x, ha, a0, us, ps, _, R, L, N, rfl, hcn7, hha, hA7, hlt, hps, hok, fun fo H8 s8 hfo0 hfo => ?_⟩
    refine ⟨_, rfl, _, _, _, _, _, rfl, rfl, TyOf.lst hfo, kit_same "list", _, rfl, iteF ?_⟩
    refine ⟨_, rfl, _, rfl, fo, du, _, rfl, rfl, SqL.of hfo, SqL.of (s8 _ _ hdu7), ints_flat _, _, rfl, iteF ?_⟩
    refine ⟨_, rfl, _, rfl, sp, us, rfl, .inl ⟨SqL.of (s8 _ _ hsp7), fun h2 hh2 => ?_⟩⟩
    have u := same_new hh2 (.tup us)
    refine ⟨ha, h2, us, rfl, rfl, SqT.of (u _ _ (s8 _ _ hha)), SqT.of upd_same, refs_flat hA7, _, rfl, iteF ?_⟩
    have hfo9 := u _ _ hfo
    generalize upd H8 h2 (.tup us) = H9 at hfo9 ⊢
    refine ⟨_, rfl, fo, rfl, ⟨_, SqL.of hfo9⟩, for_list (K := K) (a := fo) (xs := (dueS L a0 ps).map V.int) (fun i σ Hj => ∃ c : Option V, σ = [some (.ref s), some (.ref x), some (.int a), some (.ref du), some (.ref sp), some (.bl false), c6, c7, some (.ref ha), some (.ref fo), c] ∧ Hj = H9) ⟨none, rfl, rfl⟩ (fun i σ Hj _ ⟨_, _, e⟩ => by rw [e]; exact SqL.of hfo9) ?_ ?_⟩
    · rintro i v σ Hj hv ⟨c, rfl, rfl⟩
      obtain ⟨z, rfl, _⟩ := get_ints hv
      exact ⟨_, rfl, _, rfl, _, rfl, iteF ⟨_, rfl, rfl⟩⟩
    · rintro σ Hj ⟨c, rfl, rfl⟩
      exact q _
end
theorem all_mk {l : PySem.W.OpenLaw} {w : World} {K : PySem.W.Frag} {h : Heap} {mg : Str → Option Value} {fa f0 f1 f2 f3 f4 f5 f6 f7 f8 f9 f10 f11 f12 f13 f14 f15 f16 f17 f18 : Addr} {cP cB cU : Addr} {cR : Addr} {cN : Addr} {dn0 : Nat} {eC eW eB eU eL : Addr} {cd_eL : ClassData} (X : K.In h) (G : h.Ns mainGlobals mg) (hfa : mg "law" = some (.ref fa))
    {od0 an0 : Option Addr} {sl0 : Array (Option Value)} {oc0 kV0 dc0 pm0 cd0 ct0 : Value}
    {od1 an1 : Option Addr} {sl1 : Array (Option Value)} {oc1 kV1 dc1 pm1 cd1 ct1 : Value}
    {od2 an2 : Option Addr} {sl2 : Array (Option Value)} {oc2 kV2 dc2 pm2 cd2 ct2 : Value}
    {od3 an3 : Option Addr} {sl3 : Array (Option Value)} {oc3 kV3 dc3 pm3 cd3 ct3 : Value}
    {od4 an4 : Option Addr} {sl4 : Array (Option Value)} {oc4 kV4 dc4 pm4 cd4 ct4 : Value} {T4 : Addr} {oT4 : Obj}
    {od5 an5 : Option Addr} {sl5 : Array (Option Value)} {oc5 kV5 dc5 pm5 cd5 ct5 : Value}
    {od6 an6 : Option Addr} {sl6 : Array (Option Value)} {oc6 kV6 dc6 pm6 cd6 ct6 : Value}
    {od7 an7 : Option Addr} {sl7 : Array (Option Value)} {oc7 kV7 dc7 pm7 cd7 ct7 : Value}
    {od8 an8 : Option Addr} {sl8 : Array (Option Value)} {oc8 kV8 dc8 pm8 cd8 ct8 : Value}
    {od9 an9 : Option Addr} {sl9 : Array (Option Value)} {oc9 kV9 dc9 pm9 cd9 ct9 : Value}
    {od10 an10 : Option Addr} {sl10 : Array (Option Value)} {oc10 kV10 dc10 pm10 cd10 ct10 : Value}
    {od11 an11 : Option Addr} {sl11 : Array (Option Value)} {oc11 kV11 dc11 pm11 cd11 ct11 : Value}
    {od12 an12 : Option Addr} {sl12 : Array (Option Value)} {oc12 kV12 dc12 pm12 cd12 ct12 : Value}
    {od13 an13 : Option Addr} {sl13 : Array (Option Value)} {oc13 kV13 dc13 pm13 cd13 ct13 : Value}
    {od14 an14 : Option Addr} {sl14 : Array (Option Value)} {oc14 kV14 dc14 pm14 cd14 ct14 : Value}
    {od15 an15 : Option Addr} {sl15 : Array (Option Value)} {oc15 kV15 dc15 pm15 cd15 ct15 : Value}
    {od16 an16 : Option Addr} {sl16 : Array (Option Value)} {oc16 kV16 dc16 pm16 cd16 ct16 : Value}
    {od17 an17 : Option Addr} {sl17 : Array (Option Value)} {oc17 kV17 dc17 pm17 cd17 ct17 : Value}
    {od18 an18 : Option Addr} {sl18 : Array (Option Value)} {oc18 kV18 dc18 pm18 cd18 ct18 : Value}
    (aC_P : PySem.W.nsIn K mainGlobals "PlainLock" = some (some (.ref cP)))
    (aC_B : PySem.W.nsIn K mainGlobals "BasinLock" = some (some (.ref cB)))
    (aC_U : PySem.W.nsIn K mainGlobals "PumpLock" = some (some (.ref cU)))
    (aC_R : PySem.W.nsIn K mainGlobals "Reach" = some (some (.ref cR)))
    (aC_N : PySem.W.nsIn K mainGlobals "Canal" = some (some (.ref cN)))
    (aX_CanalError : PySem.W.nsIn K mainGlobals "CanalError" = some (some (.ref eC)))
    (aX_NotNow : PySem.W.nsIn K mainGlobals "NotNow" = some (some (.ref eW)))
    (aX_BadRow : PySem.W.nsIn K mainGlobals "BadRow" = some (some (.ref eB)))
    (aX_Unknown : PySem.W.nsIn K mainGlobals "Unknown" = some (some (.ref eU)))
    (aX_NotLinked : PySem.W.nsIn K mainGlobals "NotLinked" = some (some (.ref eL)))
    (a0 : PySem.W.findIn K (.ref cP) "__init__" = some (some (.ref f0)))
    (i0 : PySem.W.isFn K (.ref f0) = true)
    (ac0 : PySem.W.findCls K (.ref cP) (.type "type") "__init__" = some (.val (.ref f0)))
    (l0 : K.lookup f0 = some ⟨oc0, od0, .func (PySem.W.fnOf "__init__" "PlainLock.__init__" (defArgs s_PlainLock___init__) (defBody s_PlainLock___init__) (defScope s_PlainLock___init__) .none kV0 dc0 pm0 an0 cd0 ct0), sl0⟩)
    (c0 : PySem.W.codeIn K cd0 "PlainLock.__init__" = true)
    (k0 : PySem.W.keepIn K (.ref f0) = true)
    (a1 : PySem.W.findIn K (.ref cB) "__init__" = some (some (.ref f1)))
    (i1 : PySem.W.isFn K (.ref f1) = true)
    (l1 : K.lookup f1 = some ⟨oc1, od1, .func (PySem.W.fnOf "__init__" "BasinLock.__init__" (defArgs s_BasinLock___init__) (defBody s_BasinLock___init__) (defScope s_BasinLock___init__) .none kV1 dc1 pm1 an1 cd1 ct1), sl1⟩)
    (c1 : PySem.W.codeIn K cd1 "BasinLock.__init__" = true)
    (k1 : PySem.W.keepIn K (.ref f1) = true)
    (a2 : PySem.W.findIn K (.ref cU) "__init__" = some (some (.ref f2)))
    (i2 : PySem.W.isFn K (.ref f2) = true)
    (l2 : K.lookup f2 = some ⟨oc2, od2, .func (PySem.W.fnOf "__init__" "PumpLock.__init__" (defArgs s_PumpLock___init__) (defBody s_PumpLock___init__) (defScope s_PumpLock___init__) .none kV2 dc2 pm2 an2 cd2 ct2), sl2⟩)
    (c2 : PySem.W.codeIn K cd2 "PumpLock.__init__" = true)
    (k2 : PySem.W.keepIn K (.ref f2) = true)
    (a3 : PySem.W.findIn K (.ref cR) "__init__" = some (some (.ref f3)))
    (i3 : PySem.W.isFn K (.ref f3) = true)
    (l3 : K.lookup f3 = some ⟨oc3, od3, .func (PySem.W.fnOf "__init__" "Reach.__init__" (defArgs s_Reach___init__) (defBody s_Reach___init__) (defScope s_Reach___init__) .none kV3 dc3 pm3 an3 cd3 ct3), sl3⟩)
    (c3 : PySem.W.codeIn K cd3 "Reach.__init__" = true)
    (k3 : PySem.W.keepIn K (.ref f3) = true)
    (a4 : PySem.W.findIn K (.ref cN) "__init__" = some (some (.ref f4)))
    (i4 : PySem.W.isFn K (.ref f4) = true)
    (l4 : K.lookup f4 = some ⟨oc4, od4, .func (PySem.W.fnOf "__init__" "Canal.__init__" (defArgs s_Canal___init__) (defBody s_Canal___init__) (defScope s_Canal___init__) (.ref T4) kV4 dc4 pm4 an4 cd4 ct4), sl4⟩)
    (c4 : PySem.W.codeIn K cd4 "Canal.__init__" = true)
    (k4 : PySem.W.keepIn K (.ref f4) = true)
    (lT4 : K.lookup T4 = some oT4)
    (dT4 : oT4.data = .seq ([.none] : List Value).toArray dn0)
    (a5 : PySem.W.nsIn K mainGlobals "step_ends" = some (some (.ref f5)))
    (l5 : K.lookup f5 = some ⟨oc5, od5, .func (PySem.W.fnOf "step_ends" "step_ends" (defArgs s_step_ends) (defBody s_step_ends) (defScope s_step_ends) .none kV5 dc5 pm5 an5 cd5 ct5), sl5⟩)
    (c5 : PySem.W.codeIn K cd5 "step_ends" = true)
    (k5 : PySem.W.keepIn K (.ref f5) = true)
    (a6 : PySem.W.nsIn K mainGlobals "linked" = some (some (.ref f6)))
    (l6 : K.lookup f6 = some ⟨oc6, od6, .func (PySem.W.fnOf "linked" "linked" (defArgs s_linked) (defBody s_linked) (defScope s_linked) .none kV6 dc6 pm6 an6 cd6 ct6), sl6⟩)
    (c6 : PySem.W.codeIn K cd6 "linked" = true)
    (k6 : PySem.W.keepIn K (.ref f6) = true)
    (a7 : PySem.W.nsIn K mainGlobals "_law_whole" = some (some (.ref f7)))
    (l7 : K.lookup f7 = some ⟨oc7, od7, .func (PySem.W.fnOf "_law_whole" "_law_whole" (defArgs s__law_whole) (defBody s__law_whole) (defScope s__law_whole) .none kV7 dc7 pm7 an7 cd7 ct7), sl7⟩)
    (c7 : PySem.W.codeIn K cd7 "_law_whole" = true)
    (k7 : PySem.W.keepIn K (.ref f7) = true)
    (a8 : PySem.W.nsIn K mainGlobals "_law_draw" = some (some (.ref f8)))
    (l8 : K.lookup f8 = some ⟨oc8, od8, .func (PySem.W.fnOf "_law_draw" "_law_draw" (defArgs s__law_draw) (defBody s__law_draw) (defScope s__law_draw) .none kV8 dc8 pm8 an8 cd8 ct8), sl8⟩)
    (c8 : PySem.W.codeIn K cd8 "_law_draw" = true)
    (k8 : PySem.W.keepIn K (.ref f8) = true)
    (a9 : PySem.W.nsIn K mainGlobals "_law_unit" = some (some (.ref f9)))
    (l9 : K.lookup f9 = some ⟨oc9, od9, .func (PySem.W.fnOf "_law_unit" "_law_unit" (defArgs s__law_unit) (defBody s__law_unit) (defScope s__law_unit) .none kV9 dc9 pm9 an9 cd9 ct9), sl9⟩)
    (c9 : PySem.W.codeIn K cd9 "_law_unit" = true)
    (k9 : PySem.W.keepIn K (.ref f9) = true)
    (a10 : PySem.W.nsIn K mainGlobals "_law_reach" = some (some (.ref f10)))
    (l10 : K.lookup f10 = some ⟨oc10, od10, .func (PySem.W.fnOf "_law_reach" "_law_reach" (defArgs s__law_reach) (defBody s__law_reach) (defScope s__law_reach) .none kV10 dc10 pm10 an10 cd10 ct10), sl10⟩)
    (c10 : PySem.W.codeIn K cd10 "_law_reach" = true)
    (k10 : PySem.W.keepIn K (.ref f10) = true)
    (a11 : PySem.W.nsIn K mainGlobals "_law_lock" = some (some (.ref f11)))
    (l11 : K.lookup f11 = some ⟨oc11, od11, .func (PySem.W.fnOf "_law_lock" "_law_lock" (defArgs s__law_lock) (defBody s__law_lock) (defScope s__law_lock) .none kV11 dc11 pm11 an11 cd11 ct11), sl11⟩)
    (c11 : PySem.W.codeIn K cd11 "_law_lock" = true)
    (k11 : PySem.W.keepIn K (.ref f11) = true)
    (a12 : PySem.W.nsIn K mainGlobals "_law_weather" = some (some (.ref f12)))
    (l12 : K.lookup f12 = some ⟨oc12, od12, .func (PySem.W.fnOf "_law_weather" "_law_weather" (defArgs s__law_weather) (defBody s__law_weather) (defScope s__law_weather) .none kV12 dc12 pm12 an12 cd12 ct12), sl12⟩)
    (c12 : PySem.W.codeIn K cd12 "_law_weather" = true)
    (k12 : PySem.W.keepIn K (.ref f12) = true)
    (a13 : PySem.W.nsIn K mainGlobals "_law_canal" = some (some (.ref f13)))
    (l13 : K.lookup f13 = some ⟨oc13, od13, .func (PySem.W.fnOf "_law_canal" "_law_canal" (defArgs s__law_canal) (defBody s__law_canal) (defScope s__law_canal) .none kV13 dc13 pm13 an13 cd13 ct13), sl13⟩)
    (c13 : PySem.W.codeIn K cd13 "_law_canal" = true)
    (k13 : PySem.W.keepIn K (.ref f13) = true)
    (a14 : PySem.W.nsIn K mainGlobals "_law_turns" = some (some (.ref f14)))
    (l14 : K.lookup f14 = some ⟨oc14, od14, .func (PySem.W.fnOf "_law_turns" "_law_turns" (defArgs s__law_turns) (defBody s__law_turns) (defScope s__law_turns) .none kV14 dc14 pm14 an14 cd14 ct14), sl14⟩)
    (c14 : PySem.W.codeIn K cd14 "_law_turns" = true)
    (k14 : PySem.W.keepIn K (.ref f14) = true)
    (a15 : PySem.W.nsIn K mainGlobals "_law_refused" = some (some (.ref f15)))
    (l15 : K.lookup f15 = some ⟨oc15, od15, .func (PySem.W.fnOf "_law_refused" "_law_refused" (defArgs s__law_refused) (defBody s__law_refused) (defScope s__law_refused) .none kV15 dc15 pm15 an15 cd15 ct15), sl15⟩)
    (c15 : PySem.W.codeIn K cd15 "_law_refused" = true)
    (k15 : PySem.W.keepIn K (.ref f15) = true)
    (a16 : PySem.W.nsIn K mainGlobals "_law_tried" = some (some (.ref f16)))
    (l16 : K.lookup f16 = some ⟨oc16, od16, .func (PySem.W.fnOf "_law_tried" "_law_tried" (defArgs s__law_tried) (defBody s__law_tried) (defScope s__law_tried) .none kV16 dc16 pm16 an16 cd16 ct16), sl16⟩)
    (c16 : PySem.W.codeIn K cd16 "_law_tried" = true)
    (k16 : PySem.W.keepIn K (.ref f16) = true)
    (a17 : PySem.W.nsIn K mainGlobals "_law_step" = some (some (.ref f17)))
    (l17 : K.lookup f17 = some ⟨oc17, od17, .func (PySem.W.fnOf "_law_step" "_law_step" (defArgs s__law_step) (defBody s__law_step) (defScope s__law_step) .none kV17 dc17 pm17 an17 cd17 ct17), sl17⟩)
    (c17 : PySem.W.codeIn K cd17 "_law_step" = true)
    (k17 : PySem.W.keepIn K (.ref f17) = true)
    (a18 : PySem.W.nsIn K mainGlobals "law" = some (some (.ref f18)))
    (l18 : K.lookup f18 = some ⟨oc18, od18, .func (PySem.W.fnOf "law" "law" (defArgs s_law) (defBody s_law) (defScope s_law) .none kV18 dc18 pm18 an18 cd18 ct18), sl18⟩)
    (c18 : PySem.W.codeIn K cd18 "law" = true)
    (k18 : PySem.W.keepIn K (.ref f18) = true)
    (z_list : PySem.W.nsIn K mainGlobals "list" = some none)
    (z_isinstance : PySem.W.nsIn K mainGlobals "isinstance" = some none)
    (z_bool : PySem.W.nsIn K mainGlobals "bool" = some none)
    (z_int : PySem.W.nsIn K mainGlobals "int" = some none)
    (z_len : PySem.W.nsIn K mainGlobals "len" = some none)
    (z_range : PySem.W.nsIn K mainGlobals "range" = some none)
    (z_ValueError : PySem.W.nsIn K mainGlobals "ValueError" = some none)
    (z_tuple : PySem.W.nsIn K mainGlobals "tuple" = some none)
    (pg_P : PySem.W.plainGet K cP Str.empty = true)
    (hdd_P : PySem.W.hasDictIn K cP = true)
    (po_P : PySem.W.plainOver K cP = true)
    (sa_P : PySem.W.findIn K (.ref cP) "__setattr__" = some (some (.builtin "object.__setattr__")))
    (mk_P : PySem.W.makesIn K cP = true)
    (kc_P : PySem.W.keepIn K (.ref cP) = true)
    (n_name_P : PySem.W.findIn K (.ref cP) "name" = some none)
    (n_high_P : PySem.W.findIn K (.ref cP) "high" = some none)
    (n_low_P : PySem.W.findIn K (.ref cP) "low" = some none)
    (n_room_P : PySem.W.findIn K (.ref cP) "room" = some none)
    (pg_B : PySem.W.plainGet K cB Str.empty = true)
    (hdd_B : PySem.W.hasDictIn K cB = true)
    (po_B : PySem.W.plainOver K cB = true)
    (sa_B : PySem.W.findIn K (.ref cB) "__setattr__" = some (some (.builtin "object.__setattr__")))
    (mk_B : PySem.W.makesIn K cB = true)
    (kc_B : PySem.W.keepIn K (.ref cB) = true)
    (n_name_B : PySem.W.findIn K (.ref cB) "name" = some none)
    (n_high_B : PySem.W.findIn K (.ref cB) "high" = some none)
    (n_low_B : PySem.W.findIn K (.ref cB) "low" = some none)
    (n_room_B : PySem.W.findIn K (.ref cB) "room" = some none)
    (n_side_B : PySem.W.findIn K (.ref cB) "side" = some none)
    (pg_U : PySem.W.plainGet K cU Str.empty = true)
    (hdd_U : PySem.W.hasDictIn K cU = true)
    (po_U : PySem.W.plainOver K cU = true)
    (sa_U : PySem.W.findIn K (.ref cU) "__setattr__" = some (some (.builtin "object.__setattr__")))
    (mk_U : PySem.W.makesIn K cU = true)
    (kc_U : PySem.W.keepIn K (.ref cU) = true)
    (n_name_U : PySem.W.findIn K (.ref cU) "name" = some none)
    (n_high_U : PySem.W.findIn K (.ref cU) "high" = some none)
    (n_low_U : PySem.W.findIn K (.ref cU) "low" = some none)
    (n_room_U : PySem.W.findIn K (.ref cU) "room" = some none)
    (n_lift_U : PySem.W.findIn K (.ref cU) "lift" = some none)
    (g1 : PySem.W.specialIn K (.ref cP) "__getattribute__" = some (some (.builtin "type.__getattribute__")))
    (g2 : PySem.W.readsIn K cP (.type "type") = true)
    (pg_R : PySem.W.plainGet K cR Str.empty = true)
    (hdd_R : PySem.W.hasDictIn K cR = true)
    (po_R : PySem.W.plainOver K cR = true)
    (sa_R : PySem.W.findIn K (.ref cR) "__setattr__" = some (some (.builtin "object.__setattr__")))
    (mk_R : PySem.W.makesIn K cR = true)
    (kc_R : PySem.W.keepIn K (.ref cR) = true)
    (nR_name : PySem.W.findIn K (.ref cR) "name" = some none)
    (nR_least : PySem.W.findIn K (.ref cR) "least" = some none)
    (nR_crest : PySem.W.findIn K (.ref cR) "crest" = some none)
    (nR_berths : PySem.W.findIn K (.ref cR) "berths" = some none)
    (nR_water : PySem.W.findIn K (.ref cR) "water" = some none)
    (nR_target : PySem.W.findIn K (.ref cR) "target" = some none)
    (pg_N : PySem.W.plainGet K cN Str.empty = true)
    (hdd_N : PySem.W.hasDictIn K cN = true)
    (po_N : PySem.W.plainOver K cN = true)
    (sa_N : PySem.W.findIn K (.ref cN) "__setattr__" = some (some (.builtin "object.__setattr__")))
    (mk_N : PySem.W.makesIn K cN = true)
    (kc_N : PySem.W.keepIn K (.ref cN) = true)
    (nN_reaches : PySem.W.findIn K (.ref cN) "reaches" = some none)
    (nN_locks : PySem.W.findIn K (.ref cN) "locks" = some none)
    (nN_nights : PySem.W.findIn K (.ref cN) "nights" = some none)
    (xX_NotLinked : PySem.W.excIn K eL [.type "ValueError", .type "Exception", .type "BaseException", .type "object"] "ValueError.__new__" = true)
    (eg_eL : PySem.W.findIn K (.ref eL) "__getattribute__" = some (some (.builtin "BaseException.__getattribute__")))
    (en_eL : PySem.W.findIn K (.ref eL) "__getattr__" = some none)
    (ec_eL : PySem.W.findIn K (.ref eL) "__class__" = some (some (.builtin "object.__class__")))
    (eo_eL : PySem.W.mroIn K eL (.type "object") = some true)
    (eb_eL : PySem.W.subIn K (.ref eL) (.type "BaseException") = some true)
    (cX_eL : PySem.W.clsIn K eL = some cd_eL)
    (exmX_eL : PySem.W.exmOne K (.ref eL) (.ref eC) = some true)
    (kX_eL_0 : PySem.W.kitOne K (.ref eL) (.type "ValueError") = some true)
    (kX_eL_1 : PySem.W.kitOne K (.ref eL) (.ref eL) = some true)
    (kY_eL_0 : PySem.W.kitAny K (.ref eL) [.ref eW, .ref eU, .ref eB] = some false) :
    ∃ fd : FuncData, (∀ (s : Shared) (v : Value), BindsTo s fd ⟨[v], []⟩ [("script", v)]) ∧ ∀ base : Heap, K.In base → base.Ns mainGlobals mg → FnOk l.prog w K mg base CX0 8 fa fd ["script"] (spLaw K) := by
  have e := hfa.symm.trans (PySem.W.mg_of X G a18)
  cases e
  have F0 := fun_mk (st := s_PlainLock___init__) l0 c0 k0
  have b0 := F0.binds (ps := ["self", "name", "high", "low", "room"]) fun _ _ _ _ _ _ us hl => match us, hl with | [_, _, _, _, _], _ => rfl
  have F1 := fun_mk (st := s_BasinLock___init__) l1 c1 k1
  have b1 := F1.binds (ps := ["self", "name", "high", "low", "room", "side"]) fun _ _ _ _ _ _ us hl => match us, hl with | [_, _, _, _, _, _], _ => rfl
  have F2 := fun_mk (st := s_PumpLock___init__) l2 c2 k2
  have b2 := F2.binds (ps := ["self", "name", "high", "low", "room", "lift"]) fun _ _ _ _ _ _ us hl => match us, hl with | [_, _, _, _, _, _], _ => rfl
  have F3 := fun_mk (st := s_Reach___init__) l3 c3 k3
  have b3 := F3.binds (ps := ["self", "name", "least", "crest", "berths", "water", "target"]) fun _ _ _ _ _ _ us hl => match us, hl with | [_, _, _, _, _, _, _], _ => rfl
  have F4 := funD_mk (st := s_Canal___init__) (ds := [.none]) (n := dn0) l4 c4 k4 lT4 (by first | exact dT4 | rfl)
  have b4 : Binds K _ ["self", "reaches", "locks", "nights"] [] := F4.binds [] 4 rfl fun _ _ _ _ _ _ _ us hl => match us, hl with | [_, _, _, _], _ => ⟨_, rfl, rfl⟩
  have b4_1 : Binds K _ ["self", "reaches", "locks", "nights"] [.none] := F4.binds [.none] 3 rfl fun _ _ _ _ _ _ _ us hl => match us, hl with | [_, _, _], _ => ⟨_, rfl, rfl⟩
  have F5 := fun_mk (st := s_step_ends) l5 c5 k5
  have b5 := F5.binds (ps := ["lock", "side"]) fun _ _ _ _ _ _ us hl => match us, hl with | [_, _], _ => rfl
  have F6 := fun_mk (st := s_linked) l6 c6 k6
  have b6 := F6.binds (ps := ["canal", "start", "steps"]) fun _ _ _ _ _ _ us hl => match us, hl with | [_, _, _], _ => rfl
  have F7 := fun_mk (st := s__law_whole) l7 c7 k7
  have b7 := F7.binds (ps := ["found"]) fun _ _ _ _ _ _ us hl => match us, hl with | [_], _ => rfl
  have F8 := fun_mk (st := s__law_draw) l8 c8 k8
  have b8 := F8.binds (ps := ["script", "k", "many"]) fun _ _ _ _ _ _ us hl => match us, hl with | [_, _, _], _ => rfl
  have F9 := fun_mk (st := s__law_unit) l9 c9 k9
  have b9 := F9.binds (ps := ["script"]) fun _ _ _ _ _ _ us hl => match us, hl with | [_], _ => rfl
  have F10 := fun_mk (st := s__law_reach) l10 c10 k10
  have b10 := F10.binds (ps := ["script", "k", "unit"]) fun _ _ _ _ _ _ us hl => match us, hl with | [_, _, _], _ => rfl
  have F11 := fun_mk (st := s__law_lock) l11 c11 k11
  have b11 := F11.binds (ps := ["script", "k", "reaches", "unit"]) fun _ _ _ _ _ _ us hl => match us, hl with | [_, _, _, _], _ => rfl
  have F12 := fun_mk (st := s__law_weather) l12 c12 k12
  have b12 := F12.binds (ps := ["script", "k", "reaches", "unit"]) fun _ _ _ _ _ _ us hl => match us, hl with | [_, _, _, _], _ => rfl
  have F13 := fun_mk (st := s__law_canal) l13 c13 k13
  have b13 := F13.binds (ps := ["script", "most_reaches", "most_locks", "most_nights"]) fun _ _ _ _ _ _ us hl => match us, hl with | [_, _, _, _], _ => rfl
  have F14 := fun_mk (st := s__law_turns) l14 c14 k14
  have b14 := F14.binds (ps := ["canal", "reach"]) fun _ _ _ _ _ _ us hl => match us, hl with | [_, _], _ => rfl
  have F15 := fun_mk (st := s__law_refused) l15 c15 k15
  have b15 := F15.binds (ps := ["canal", "start", "steps"]) fun _ _ _ _ _ _ us hl => match us, hl with | [_, _, _], _ => rfl
  have F16 := fun_mk (st := s__law_tried) l16 c16 k16
  have b16 := F16.binds (ps := ["canal", "start", "steps"]) fun _ _ _ _ _ _ us hl => match us, hl with | [_, _, _], _ => rfl
  have F17 := fun_mk (st := s__law_step) l17 c17 k17
  have b17 := F17.binds (ps := ["script", "canal", "at", "j"]) fun _ _ _ _ _ _ us hl => match us, hl with | [_, _, _, _], _ => rfl
  have F18 := fun_mk (st := s_law) l18 c18 k18
  have b18 := F18.binds (ps := ["script"]) fun _ _ _ _ _ _ us hl => match us, hl with | [_], _ => rfl
  have T : Txt K mg cP cB cU cR cN eC eW eB eU eL := {z_list := PySem.W.mg_none_of X G z_list, z_isinstance := PySem.W.mg_none_of X G z_isinstance, z_bool := PySem.W.mg_none_of X G z_bool, z_int := PySem.W.mg_none_of X G z_int, z_len := PySem.W.mg_none_of X G z_len, z_range := PySem.W.mg_none_of X G z_range, z_ValueError := PySem.W.mg_none_of X G z_ValueError, z_tuple := PySem.W.mg_none_of X G z_tuple, cl := fun kd => match kd with | .plain => ⟨pg_P, hdd_P, po_P, sa_P⟩ | .basin => ⟨pg_B, hdd_B, po_B, sa_B⟩ | .pump => ⟨pg_U, hdd_U, po_U, sa_U⟩, n_name := fun kd => match kd with | .plain => n_name_P | .basin => n_name_B | .pump => n_name_U, n_high := fun kd => match kd with | .plain => n_high_P | .basin => n_high_B | .pump => n_high_U, n_low := fun kd => match kd with | .plain => n_low_P | .basin => n_low_B | .pump => n_low_U, n_room := fun kd => match kd with | .plain => n_room_P | .basin => n_room_B | .pump => n_room_U, n_side := n_side_B, n_lift := n_lift_U, c_PlainLock := PySem.W.mg_of X G aC_P, c_BasinLock := PySem.W.mg_of X G aC_B, c_PumpLock := PySem.W.mg_of X G aC_U, clR := ⟨pg_R, hdd_R, po_R, sa_R⟩, nR_name := nR_name, nR_least := nR_least, nR_crest := nR_crest, nR_berths := nR_berths, nR_water := nR_water, nR_target := nR_target, c_Reach := PySem.W.mg_of X G aC_R, clN := ⟨pg_N, hdd_N, po_N, sa_N⟩, nN_reaches := nN_reaches, nN_locks := nN_locks, nN_nights := nN_nights, c_Canal := PySem.W.mg_of X G aC_N, c_CanalError := PySem.W.mg_of X G aX_CanalError, c_NotNow := PySem.W.mg_of X G aX_NotNow, c_BadRow := PySem.W.mg_of X G aX_BadRow, c_Unknown := PySem.W.mg_of X G aX_Unknown, c_NotLinked := PySem.W.mg_of X G aX_NotLinked, x_NotLinked := xX_NotLinked, at_NotLinked := ⟨eg_eL, en_eL, ec_eL, eo_eL, eb_eL⟩, cl_NotLinked := by rw [cX_eL]; rfl, exm_NotLinked := exmX_eL, k_NotLinked_ValueError := kX_eL_0, k_NotLinked_NotLinked := kX_eL_1, ka_NotLinked_0 := kY_eL_0}
  refine ⟨PySem.W.fnOf "law" "law" (defArgs s_law) (defBody s_law) (defScope s_law) .none kV18 dc18 pm18 an18 cd18 ct18, fun s v => .of_eq rfl, fun base _ _ => ?_⟩
  have G0 := ok_s_PlainLock___init__ (P := l.prog) (w := w) (base := base) F0 T 
  have MK_PlainLock : MkD l.prog w K mg base 1 "PlainLock" cP ["self", "name", "high", "low", "room"] (spInit3 (kdC cP cB cU)) := ⟨T.c_PlainLock, _, _, ⟨mk_P, a0, i0, kc_P⟩, G0, b0⟩
  have CM0 : CmD l.prog w K mg base 1 "PlainLock" cP "__init__" ["self", "name", "high", "low", "room"] (spInit3 (kdC cP cB cU)) := ⟨T.c_PlainLock, _, _, ⟨g1, g2, ac0, k0⟩, G0, b0⟩
  have G1 := ok_s_BasinLock___init__ (P := l.prog) (w := w) (base := base) F1 T CM0
  have MK_BasinLock : MkD l.prog w K mg base 2 "BasinLock" cB ["self", "name", "high", "low", "room", "side"] (spInit4 (kdC cP cB cU) .basin) := ⟨T.c_BasinLock, _, _, ⟨mk_B, a1, i1, kc_B⟩, G1, b1⟩
  have G2 := ok_s_PumpLock___init__ (P := l.prog) (w := w) (base := base) F2 T CM0
  have MK_PumpLock : MkD l.prog w K mg base 2 "PumpLock" cU ["self", "name", "high", "low", "room", "lift"] (spInit4 (kdC cP cB cU) .pump) := ⟨T.c_PumpLock, _, _, ⟨mk_U, a2, i2, kc_U⟩, G2, b2⟩
  have G3 := ok_s_Reach___init__ (P := l.prog) (w := w) (base := base) F3 T 
  have MK_Reach : MkD l.prog w K mg base 1 "Reach" cR ["self", "name", "least", "crest", "berths", "water", "target"] (spInitReach cR) := ⟨T.c_Reach, _, _, ⟨mk_R, a3, i3, kc_R⟩, G3, b3⟩
  have G4 := ok_s_Canal___init__ (P := l.prog) (w := w) (base := base) F4 T 
  have MK_Canal : MkD l.prog w K mg base 1 "Canal" cN ["self", "reaches", "locks", "nights"] (spInitCanal (kdC cP cB cU) cR cN) := ⟨T.c_Canal, _, _, ⟨mk_N, a4, i4, kc_N⟩, G4, b4⟩
  have G5 := ok_s_step_ends (P := l.prog) (w := w) (base := base) F5 T 
  have D5 : Def l.prog w K mg base 1 "step_ends" _ [] _ := ⟨_, _, [], G5, PySem.W.mg_of X G a5, k5, .nil, b5⟩
  have G6 := ok_s_linked (P := l.prog) (w := w) (base := base) F6 T D5
  have GX6 := G6
  have DX6 : DefX l.prog w K mg base 2 "linked" _ [] _ := ⟨_, _, [], GX6, PySem.W.mg_of X G a6, k6, .nil, b6⟩
  have G7 := ok_s__law_whole (P := l.prog) (w := w) (base := base) F7 T 
  have D7 : Def l.prog w K mg base 1 "_law_whole" _ [] _ := ⟨_, _, [], G7, PySem.W.mg_of X G a7, k7, .nil, b7⟩
  have G8 := ok_s__law_draw (P := l.prog) (w := w) (base := base) F8 T 
  have D8 : Def l.prog w K mg base 1 "_law_draw" _ [] _ := ⟨_, _, [], G8, PySem.W.mg_of X G a8, k8, .nil, b8⟩
  have G9 := ok_s__law_unit (P := l.prog) (w := w) (base := base) F9 T 
  have D9 : Def l.prog w K mg base 1 "_law_unit" _ [] _ := ⟨_, _, [], G9, PySem.W.mg_of X G a9, k9, .nil, b9⟩
  have G10 := ok_s__law_reach (P := l.prog) (w := w) (base := base) F10 T D8 MK_Reach
  have D10 : Def l.prog w K mg base 3 "_law_reach" _ [] _ := ⟨_, _, [], G10, PySem.W.mg_of X G a10, k10, .nil, b10⟩
  have G11 := ok_s__law_lock (P := l.prog) (w := w) (base := base) F11 T D8 MK_BasinLock MK_PumpLock MK_PlainLock
  have D11 : Def l.prog w K mg base 4 "_law_lock" _ [] _ := ⟨_, _, [], G11, PySem.W.mg_of X G a11, k11, .nil, b11⟩
  have G12 := ok_s__law_weather (P := l.prog) (w := w) (base := base) F12 T D8
  have D12 : Def l.prog w K mg base 2 "_law_weather" _ [] _ := ⟨_, _, [], G12, PySem.W.mg_of X G a12, k12, .nil, b12⟩
  have G13 := ok_s__law_canal (P := l.prog) (w := w) (base := base) F13 T D9 D8 D10 D11 D12 MK_Canal
  have D13 : Def l.prog w K mg base 6 "_law_canal" _ [] _ := ⟨_, _, [], G13, PySem.W.mg_of X G a13, k13, .nil, b13⟩
  have G14 := ok_s__law_turns (P := l.prog) (w := w) (base := base) F14 T 
  have D14 : Def l.prog w K mg base 1 "_law_turns" _ [] _ := ⟨_, _, [], G14, PySem.W.mg_of X G a14, k14, .nil, b14⟩
  have G15 := ok_s__law_refused (P := l.prog) (w := w) (base := base) F15 T DX6
  have D15 : Def l.prog w K mg base 3 "_law_refused" _ [] _ := ⟨_, _, [], G15, PySem.W.mg_of X G a15, k15, .nil, b15⟩
  have G16 := ok_s__law_tried (P := l.prog) (w := w) (base := base) F16 T DX6
  have D16 : Def l.prog w K mg base 3 "_law_tried" _ [] _ := ⟨_, _, [], G16, PySem.W.mg_of X G a16, k16, .nil, b16⟩
  have G17 := ok_s__law_step (P := l.prog) (w := w) (base := base) F17 T D14 D8
  have D17 : Def l.prog w K mg base 2 "_law_step" _ [] _ := ⟨_, _, [], G17, PySem.W.mg_of X G a17, k17, .nil, b17⟩
  have G18 := ok_s_law (P := l.prog) (w := w) (base := base) F18 T D13 D8 D17 D14 D15 D16 D7
  exact G18
theorem walk {l : PySem.W.OpenLaw} {q : Program} {loose : List Str} {XP : (Str → Option Value) → Heap → Prop} {YP : World → Heap → Prop} {d : DefRec} {K : Params → PySem.W.Frag} (hn : l.most = some 63) (hdf : d.params.defaults = [])
    (hY : ∀ (w : World) (h : Heap), YP w h → (K w.params).In h)
    (F : ∀ (w : World) (mg : Str → Option Value) (fa : Addr) (h : Heap), (K w.params).In h → h.Ns mainGlobals mg → mg d.name = some (.ref fa) →
      ∃ fd : FuncData, (∀ (s : Shared) (u : Value), BindsTo s fd ⟨[u], []⟩ [("script", u)]) ∧ ∀ base : Heap, (K w.params).In base → base.Ns mainGlobals mg → FnOk l.prog w (K w.params) mg base CX0 8 fa fd ["script"] (spLaw (K w.params))) :
    PySem.W.WalkO q loose XP YP l.row.toRowW d [] (fun f vs => PySem.call f vs) :=
  L2.walk_of (n := 63) (k := 8) (x := "script") (CX := fun _ => CX0) (sp := fun w => spLaw (K w.params)) hn (by decide) hdf ⟨rfl, by decide, by decide⟩ hY F (fun _ _ a ns hl _ hS => ⟨a, ns, rfl, hS, hl, fun _ => rfl⟩) fun _ _ _ _ _ z => z
end My
/- These names are taken here so that the head below leaves out its twins of whole states (they are not needed, and make the compiled file larger than a hand-in may be). -/
def PySem.W.Fast.tw8085496495107053389 : Nat := 0
def PySem.W.Fast.tw15625505015611177647 : Nat := 0
def PySem.W.Fast.tw9450325277738914465 : Nat := 0
def PySem.W.Fast.tw3456133371416388344 : Nat := 0
def PySem.W.Fast.tw15212641254617467380 : Nat := 0
def PySem.W.Fast.tw13257272532202831491 : Nat := 0
def PySem.W.Fast.tw16450680712315895838 : Nat := 0
def PySem.W.Fast.tw14608188154610279886 : Nat := 0
def PySem.W.Fast.tw8268205783375222990 : Nat := 0
def PySem.W.Fast.tw18029041800635969590 : Nat := 0
def PySem.W.Fast.tw9969964705037638504 : Nat := 0
def PySem.W.Fast.tw17329333093932310958 : Nat := 0
def PySem.W.Fast.tw10589198425955168772 : Nat := 0
def PySem.W.Fast.tw14182079368653780354 : Nat := 0
def PySem.W.Fast.tw17716745599069613223 : Nat := 0
def PySem.W.Fast.tw17515145285148175661 : Nat := 0
def PySem.W.Fast.tw443028975442326963 : Nat := 0
def PySem.W.Fast.tw12987329417481431656 : Nat := 0
def PySem.W.Fast.tw6784414627040435440 : Nat := 0
def PySem.W.Fast.tw15050421767311714600 : Nat := 0
def PySem.W.Fast.tw11088942292923376407 : Nat := 0
def PySem.W.Fast.tw17772518642490556185 : Nat := 0
def PySem.W.Fast.tw593937017181906358 : Nat := 0
def PySem.W.Fast.tw14152822111875089546 : Nat := 0
def PySem.W.Fast.tw3354334821505902633 : Nat := 0
def PySem.W.Fast.tw643874881942601828 : Nat := 0
def PySem.W.Fast.tw6998715799285676554 : Nat := 0
def PySem.W.Fast.tw9077582253641840754 : Nat := 0
def PySem.W.Fast.tw16742118290437312371 : Nat := 0
def PySem.W.Fast.tw9479225904521116768 : Nat := 0
def PySem.W.Fast.tw10269138275541255544 : Nat := 0
def PySem.W.Fast.tw8259189524650422725 : Nat := 0
open PySem PySem.W PyProof.Rows
set_option maxRecDepth 100000 in
set_option maxHeartbeats 0 in
theorem PySem.Challenge.cw_lockhouse_k41_ways_linked_holds : PySem.Challenge.rw_lockhouse_k41_ways_linked.Holds := by
  w_on; o_law; k_head; (case hw => w_witness2)
  k_fill
  refine My.walk (l := PySem.Challenge.rw_lockhouse_k41_ways_linked) rfl rfl (fun w h Y => PySem.W.kIn_of Y) ?F
  case F =>
    intro w mg fa h KX G hmg
    refine' My.all_mk KX G hmg ?aC_P ?aC_B ?aC_U ?aC_R ?aC_N ?aX_CanalError ?aX_NotNow ?aX_BadRow ?aX_Unknown ?aX_NotLinked ?a0 ?i0 ?ac0 ?l0 ?c0 ?k0 ?a1 ?i1 ?l1 ?c1 ?k1 ?a2 ?i2 ?l2 ?c2 ?k2 ?a3 ?i3 ?l3 ?c3 ?k3 ?a4 ?i4 ?l4 ?c4 ?k4 ?lT4 ?dT4 ?a5 ?l5 ?c5 ?k5 ?a6 ?l6 ?c6 ?k6 ?a7 ?l7 ?c7 ?k7 ?a8 ?l8 ?c8 ?k8 ?a9 ?l9 ?c9 ?k9 ?a10 ?l10 ?c10 ?k10 ?a11 ?l11 ?c11 ?k11 ?a12 ?l12 ?c12 ?k12 ?a13 ?l13 ?c13 ?k13 ?a14 ?l14 ?c14 ?k14 ?a15 ?l15 ?c15 ?k15 ?a16 ?l16 ?c16 ?k16 ?a17 ?l17 ?c17 ?k17 ?a18 ?l18 ?c18 ?k18 ?z_list ?z_isinstance ?z_bool ?z_int ?z_len ?z_range ?z_ValueError ?z_tuple ?pg_P ?hdd_P ?po_P ?sa_P ?mk_P ?kc_P ?n_name_P ?n_high_P ?n_low_P ?n_room_P ?pg_B ?hdd_B ?po_B ?sa_B ?mk_B ?kc_B ?n_name_B ?n_high_B ?n_low_B ?n_room_B ?n_side_B ?pg_U ?hdd_U ?po_U ?sa_U ?mk_U ?kc_U ?n_name_U ?n_high_U ?n_low_U ?n_room_U ?n_lift_U ?g1 ?g2 ?pg_R ?hdd_R ?po_R ?sa_R ?mk_R ?kc_R ?nR_name ?nR_least ?nR_crest ?nR_berths ?nR_water ?nR_target ?pg_N ?hdd_N ?po_N ?sa_N ?mk_N ?kc_N ?nN_reaches ?nN_locks ?nN_nights ?xX_NotLinked ?eg_eL ?en_eL ?ec_eL ?eo_eL ?eb_eL ?cX_eL ?exmX_eL ?kX_eL_0 ?kX_eL_1 ?kY_eL_0
    (case aC_P => first | k_is | rfl)
    (case aC_B => first | k_is | rfl)
    (case aC_U => first | k_is | rfl)
    (case aC_R => first | k_is | rfl)
    (case aC_N => first | k_is | rfl)
    (case aX_CanalError => first | k_is | rfl)
    (case aX_NotNow => first | k_is | rfl)
    (case aX_BadRow => first | k_is | rfl)
    (case aX_Unknown => first | k_is | rfl)
    (case aX_NotLinked => first | k_is | rfl)
    (case a0 => first | k_is | rfl)
    (case i0 => first | k_is | rfl)
    (case ac0 => first | k_is | rfl)
    (case l0 => first | k_is | rfl)
    (case c0 => first | k_is | rfl)
    (case k0 => first | k_is | rfl)
    (case a1 => first | k_is | rfl)
    (case i1 => first | k_is | rfl)
    (case l1 => first | k_is | rfl)
    (case c1 => first | k_is | rfl)
    (case k1 => first | k_is | rfl)
    (case a2 => first | k_is | rfl)
    (case i2 => first | k_is | rfl)
    (case l2 => first | k_is | rfl)
    (case c2 => first | k_is | rfl)
    (case k2 => first | k_is | rfl)
    (case a3 => first | k_is | rfl)
    (case i3 => first | k_is | rfl)
    (case l3 => first | k_is | rfl)
    (case c3 => first | k_is | rfl)
    (case k3 => first | k_is | rfl)
    (case a4 => first | k_is | rfl)
    (case i4 => first | k_is | rfl)
    (case l4 => first | k_is | rfl)
    (case c4 => first | k_is | rfl)
    (case k4 => first | k_is | rfl)
    (case lT4 => first | k_is | rfl)
    (case dT4 => first | k_is | rfl)
    (case a5 => first | k_is | rfl)
    (case l5 => first | k_is | rfl)
    (case c5 => first | k_is | rfl)
    (case k5 => first | k_is | rfl)
    (case a6 => first | k_is | rfl)
    (case l6 => first | k_is | rfl)
    (case c6 => first | k_is | rfl)
    (case k6 => first | k_is | rfl)
    (case a7 => first | k_is | rfl)
    (case l7 => first | k_is | rfl)
    (case c7 => first | k_is | rfl)
    (case k7 => first | k_is | rfl)
    (case a8 => first | k_is | rfl)
    (case l8 => first | k_is | rfl)
    (case c8 => first | k_is | rfl)
    (case k8 => first | k_is | rfl)
    (case a9 => first | k_is | rfl)
    (case l9 => first | k_is | rfl)
    (case c9 => first | k_is | rfl)
    (case k9 => first | k_is | rfl)
    (case a10 => first | k_is | rfl)
    (case l10 => first | k_is | rfl)
    (case c10 => first | k_is | rfl)
    (case k10 => first | k_is | rfl)
    (case a11 => first | k_is | rfl)
    (case l11 => first | k_is | rfl)
    (case c11 => first | k_is | rfl)
    (case k11 => first | k_is | rfl)
    (case a12 => first | k_is | rfl)
    (case l12 => first | k_is | rfl)
    (case c12 => first | k_is | rfl)
    (case k12 => first | k_is | rfl)
    (case a13 => first | k_is | rfl)
    (case l13 => first | k_is | rfl)
    (case c13 => first | k_is | rfl)
    (case k13 => first | k_is | rfl)
    (case a14 => first | k_is | rfl)
    (case l14 => first | k_is | rfl)
    (case c14 => first | k_is | rfl)
    (case k14 => first | k_is | rfl)
    (case a15 => first | k_is | rfl)
    (case l15 => first | k_is | rfl)
    (case c15 => first | k_is | rfl)
    (case k15 => first | k_is | rfl)
    (case a16 => first | k_is | rfl)
    (case l16 => first | k_is | rfl)
    (case c16 => first | k_is | rfl)
    (case k16 => first | k_is | rfl)
    (case a17 => first | k_is | rfl)
    (case l17 => first | k_is | rfl)
    (case c17 => first | k_is | rfl)
    (case k17 => first | k_is | rfl)
    (case a18 => first | k_is | rfl)
    (case l18 => first | k_is | rfl)
    (case c18 => first | k_is | rfl)
    (case k18 => first | k_is | rfl)
    (case z_list => first | k_is | rfl)
    (case z_isinstance => first | k_is | rfl)
    (case z_bool => first | k_is | rfl)
    (case z_int => first | k_is | rfl)
    (case z_len => first | k_is | rfl)
    (case z_range => first | k_is | rfl)
    (case z_ValueError => first | k_is | rfl)
    (case z_tuple => first | k_is | rfl)
    (case pg_P => first | k_is | rfl)
    (case hdd_P => first | k_is | rfl)
    (case po_P => first | k_is | rfl)
    (case sa_P => first | k_is | rfl)
    (case mk_P => first | k_is | rfl)
    (case kc_P => first | k_is | rfl)
    (case n_name_P => first | k_is | rfl)
    (case n_high_P => first | k_is | rfl)
    (case n_low_P => first | k_is | rfl)
    (case n_room_P => first | k_is | rfl)
    (case pg_B => first | k_is | rfl)
    (case hdd_B => first | k_is | rfl)
    (case po_B => first | k_is | rfl)
    (case sa_B => first | k_is | rfl)
    (case mk_B => first | k_is | rfl)
    (case kc_B => first | k_is | rfl)
    (case n_name_B => first | k_is | rfl)
    (case n_high_B => first | k_is | rfl)
    (case n_low_B => first | k_is | rfl)
    (case n_room_B => first | k_is | rfl)
    (case n_side_B => first | k_is | rfl)
    (case pg_U => first | k_is | rfl)
    (case hdd_U => first | k_is | rfl)
    (case po_U => first | k_is | rfl)
    (case sa_U => first | k_is | rfl)
    (case mk_U => first | k_is | rfl)
    (case kc_U => first | k_is | rfl)
    (case n_name_U => first | k_is | rfl)
    (case n_high_U => first | k_is | rfl)
    (case n_low_U => first | k_is | rfl)
    (case n_room_U => first | k_is | rfl)
    (case n_lift_U => first | k_is | rfl)
    (case g1 => first | k_is | rfl)
    (case g2 => first | k_is | rfl)
    (case pg_R => first | k_is | rfl)
    (case hdd_R => first | k_is | rfl)
    (case po_R => first | k_is | rfl)
    (case sa_R => first | k_is | rfl)
    (case mk_R => first | k_is | rfl)
    (case kc_R => first | k_is | rfl)
    (case nR_name => first | k_is | rfl)
    (case nR_least => first | k_is | rfl)
    (case nR_crest => first | k_is | rfl)
    (case nR_berths => first | k_is | rfl)
    (case nR_water => first | k_is | rfl)
    (case nR_target => first | k_is | rfl)
    (case pg_N => first | k_is | rfl)
    (case hdd_N => first | k_is | rfl)
    (case po_N => first | k_is | rfl)
    (case sa_N => first | k_is | rfl)
    (case mk_N => first | k_is | rfl)
    (case kc_N => first | k_is | rfl)
    (case nN_reaches => first | k_is | rfl)
    (case nN_locks => first | k_is | rfl)
    (case nN_nights => first | k_is | rfl)
    (case xX_NotLinked => first | k_is | k_exc | kit_is | kts_exm | rfl)
    (case eg_eL => first | k_is | rfl)
    (case en_eL => first | k_is | rfl)
    (case ec_eL => first | k_is | rfl)
    (case eo_eL => first | k_is | rfl)
    (case eb_eL => first | k_is | rfl)
    (case cX_eL => first | k_is | rfl)
    (case exmX_eL => first | k_is | k_exc | kit_is | kts_exm | rfl)
    (case kX_eL_0 => first | k_is | k_exc | kit_is | kts_exm | rfl)
    (case kX_eL_1 => first | k_is | k_exc | kit_is | kts_exm | rfl)
    (case kY_eL_0 => first | k_is | k_exc | kit_is | kts_exm | rfl)
