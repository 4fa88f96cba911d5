import PyProof.Rows.All
import Wide.All
import OpenK.AllK
import Wide.FinOn
import Lean
import PyProof.EqAt
import PyProof.EqKinds
import PyProof.TupleCall
import PyProof.NeKinds
import OpenK.KOwn
import KE.KTryMore
import KE.RegKTryMore
import PyProof.NsDelKeeps
import KE.KIntText
import PySem.Challenge.RW_lockhouse_k15_machine_words
set_option Elab.async false
set_option linter.all false
set_option maxRecDepth 100000
/-! THE HAND LAYER, for ints, bools, texts, own classes, LISTS and tuples (index, slices, in, append, pop ..), calls, loops. Paste it whole ahead of your own text; what your proof does not reach may be deleted. -/
namespace L2
open PySem PySem.Spec PyProof.Rows

/-- a key: an int or a str -/
abbrev Key := Sum Int Str
def keyIs : Key → Value → Bool
  | .inl k, v => Value.isInt k v
  | .inr x, v => Value.isStrOf x v
def keyH (w : World) : Key → Int
  | .inl k => hashInt k
  | .inr x => hashStr w x
theorem keyIs_shape : ∀ {k : Key} {v : Value}, keyIs k v = true → (∃ i t, k = Sum.inl i ∧ v = Value.int i t) ∨ (∃ x t, k = Sum.inr x ∧ v = Value.str x t)
  | .inl i, v, h => by
    obtain ⟨t, e⟩ := Value.isInt_shape (k := i) (v := v) h
    exact .inl ⟨i, t, rfl, e⟩
  | .inr x, v, h => by
    obtain ⟨t, e⟩ := Value.isStrOf_shape (x := x) (v := v) h
    exact .inr ⟨x, t, rfl, e⟩
theorem keyIs_int (i : Int) (t : Tok) : keyIs (.inl i) (.int i t) = true := by simp [keyIs, Value.isInt]
theorem keyIs_str (x : Str) (t : Tok) : keyIs (.inr x) (.str x t) = true := by simp [keyIs, Value.isStrOf]
theorem key_ll (a b : Int) : decide ((Sum.inl a : Key) = Sum.inl b) = (a == b) := by
  by_cases e : a = b
  · subst e; simp
  · have h : ¬ (Sum.inl a : Key) = Sum.inl b := fun q => e (Sum.inl.inj q)
    rw [decide_eq_false h]
    exact (beq_eq_false_iff_ne.mpr e).symm
theorem key_rr (a b : Str) : decide ((Sum.inr a : Key) = Sum.inr b) = decide (a = b) := by
  by_cases e : a = b
  · subst e; simp
  · have h : ¬ (Sum.inr a : Key) = Sum.inr b := fun q => e (Sum.inr.inj q)
    rw [decide_eq_false h, decide_eq_false e]
theorem key_lr (a : Int) (b : Str) : decide ((Sum.inl a : Key) = Sum.inr b) = false := decide_eq_false (fun q => nomatch q)
theorem key_rl (a : Str) (b : Int) : decide ((Sum.inr a : Key) = Sum.inl b) = false := decide_eq_false (fun q => nomatch q)

def mixKind (prog : Program) (w : World) : PySem.KeyKind prog w Key where
  is := keyIs
  hash := keyH w
  inj := fun v a b ha hb => by
    rcases keyIs_shape ha with ⟨i, t, rfl, rfl⟩ | ⟨x, t, rfl, rfl⟩
    · rcases keyIs_shape hb with ⟨j, u, rfl, e⟩ | ⟨y, u, rfl, e⟩
      · injection e with e1 _; rw [e1]
      · exact nomatch e
    · rcases keyIs_shape hb with ⟨j, u, rfl, e⟩ | ⟨y, u, rfl, e⟩
      · exact nomatch e
      · injection e with e1 _; rw [e1]
  byValue := fun k v h => by
    rcases keyIs_shape h with ⟨i, t, rfl, rfl⟩ | ⟨x, t, rfl, rfl⟩ <;> rfl
  pyHash := fun hv h => by
    rcases keyIs_shape hv with ⟨i, t, rfl, rfl⟩ | ⟨x, t, rfl, rfl⟩
    · exact wpAny_pyHash_int h
    · exact wpAny_pyHash_str h
  eqBool := fun hu hv h => by
    rcases keyIs_shape hu with ⟨i, t, rfl, rfl⟩ | ⟨x, t, rfl, rfl⟩
    · rcases keyIs_shape hv with ⟨j, u, rfl, rfl⟩ | ⟨y, u, rfl, rfl⟩
      · rw [key_ll] at h; exact wpAny_eqBool_int h
      · rw [key_lr] at h; exact SeqAt.EqAt.int_str i t y u _ _ _ _ h
    · rcases keyIs_shape hv with ⟨j, u, rfl, rfl⟩ | ⟨y, u, rfl, rfl⟩
      · rw [key_rl] at h; exact SeqAt.EqAt.str_int x t j u _ _ _ _ h
      · rw [key_rr] at h; exact wpAny_eqBool_str h
  «strs» := fun k x t v h => by
    rcases keyIs_shape h with ⟨i, u, rfl, e⟩ | ⟨y, u, rfl, e⟩
    · exact nomatch e
    · injection e with e1 _
      subst e1
      cases v <;> rfl

theorem mixKind_is (prog : Program) (w : World) (k : Key) (v : Value) : (mixKind prog w).is k v = keyIs k v := rfl
theorem mixKind_int (prog : Program) (w : World) (i : Int) (t : Tok) : (mixKind prog w).is (.inl i) (.int i t) = true := keyIs_int i t
theorem mixKind_str (prog : Program) (w : World) (x : Str) (t : Tok) : (mixKind prog w).is (.inr x) (.str x t) = true := keyIs_str x t
end L2

namespace L2
open PySem PySem.Spec PyProof.Rows

/-- a value, without the heap -/
inductive V where
  | non | bl (b : Bool) | int (i : Int) | str (x : Str) | byt (b : Array UInt8) | flt (b : UInt64) | ref (a : Addr) | ty (n : String)
  deriving DecidableEq

def RelV : V → Value → Prop
  | .non, u => u = Value.none
  | .bl b, u => u = Value.bool b
  | .int i, u => ∃ t, u = Value.int i t
  | .str x, u => ∃ t, u = Value.str x t
  | .byt b, u => ∃ t, u = Value.bytes b t
  | .flt b, u => ∃ t, u = Value.float b t
  | .ref a, u => u = Value.ref a
  | .ty n, u => u = Value.type n

abbrev Vals : List V → List Value → Prop := Paired RelV
theorem Vals.length {xs : List V} {us : List Value} (r : Vals xs us) : xs.length = us.length := Paired.length r
theorem Vals.get : ∀ {xs : List V} {us : List Value} {i : Nat} {x : V}, Vals xs us → xs[i]? = some x → ∃ u, us[i]? = some u ∧ RelV x u
  | _, _, _, _, .nil, e => by simp at e
  | _, _, 0, _, .cons r _, e => by simp at e; subst e; exact ⟨_, rfl, r⟩
  | _, _, i + 1, x, .cons _ t, e => by
    obtain ⟨u, h1, h2⟩ := Vals.get (i := i) (x := x) t (by simpa using e)
    exact ⟨u, by simpa using h1, h2⟩
theorem Vals.set {x : V} {u : Value} (r : RelV x u) : ∀ {xs : List V} {us : List Value} (i : Nat), Vals xs us → Vals (xs.set i x) (us.set i u)
  | _, _, _, .nil => .nil
  | _, _, 0, .cons _ t => .cons r t
  | _, _, i + 1, .cons q t => .cons q (Vals.set r i t)
theorem Vals.append : ∀ {xs ys : List V} {us ws : List Value}, Vals xs us → Vals ys ws → Vals (xs ++ ys) (us ++ ws)
  | _, _, _, _, .nil, s => s
  | _, _, _, _, .cons r t, s => .cons r (Vals.append t s)
theorem Vals.take : ∀ {xs : List V} {us : List Value} (n : Nat), Vals xs us → Vals (xs.take n) (us.take n)
  | _, _, 0, _ => .nil
  | _, _, _ + 1, .nil => .nil
  | _, _, n + 1, .cons r t => .cons r (Vals.take n t)
theorem Vals.drop : ∀ {xs : List V} {us : List Value} (n : Nat), Vals xs us → Vals (xs.drop n) (us.drop n)
  | _, _, 0, r => r
  | _, _, _ + 1, .nil => .nil
  | _, _, n + 1, .cons _ t => Vals.drop n t
theorem Vals.none_of : ∀ {xs : List V} {us : List Value} {i : Nat}, Vals xs us → xs[i]? = none → us[i]? = none := fun {xs us i} r e => by
  have h1 := r.length
  have h2 : xs.length ≤ i := List.getElem?_eq_none_iff.mp e
  exact List.getElem?_eq_none_iff.mpr (by omega)

def RelO : Option V → Option Value → Prop
  | some v, some u => RelV v u
  | none, none => True
  | _, _ => False
def KV {κ : Type} : List (κ × V) → List (κ × Value) → Prop := Paired fun (p : κ × V) (q : κ × Value) => p.1 = q.1 ∧ RelV p.2 q.2

/-- a key of a dict (00_mix): an int or a text -/
def kV : Key → V
  | .inl i => .int i
  | .inr x => .str x

/-- what stands at a tracked address -/
inductive HO where
  /-- a list -/
  | lst (xs : List V)
  /-- a tuple (never changes) -/
  | tup (xs : List V)
  /-- a dict whose keys are ints and texts; one whose keys are tuples of ints and texts (the empty one is both) -/
  | dK (kvs : List (Key × V)) | dT (kvs : List (List Key × V))
  /-- a set of ints: its members, its size -/
  | set (S : Int → Bool) (n : Nat)
  /-- an instance of the class at C, its dict at dx, its attributes -/
  | ins (C dx : Addr) (fs : List (Str × V))
  /-- the dict of the instance at x -/
  | own (x : Addr)
  /-- the dict of an exception -/
  | xd (fs : List (Str × V))
  /-- a bound method, f of x -/
  | met (f x : Addr)
  /-- a range object lo, lo + 1, .. below hi -/
  | rng (lo hi : Int)
  /-- a thing that is known to the object (the script; a dict while a loop walks it): read, never written while it is so -/
  | frz (o : Obj) (u : HO)
  /-- a code object's table -/
  | tbl (ps : Array Value)
  /-- any other thing, by what is true of its one object (a def of one's own: SetO a S n := HO.ext fun h => ..) -/
  | ext (φ : Heap → Prop)

abbrev Hp := Addr → Option HO
def upd (H : Hp) (a : Addr) (o : HO) : Hp := fun b => if b = a then some o else H b
theorem upd_same {H : Hp} {a : Addr} {o : HO} : upd H a o a = some o := by unfold upd; rw [if_pos rfl]
theorem upd_ne {H : Hp} {a b : Addr} {o : HO} (h : b ≠ a) : upd H a o b = H b := by unfold upd; rw [if_neg h]
theorem upd_upd {H : Hp} {a : Addr} {o u : HO} : upd (upd H a o) a u = upd H a u := by
  funext b; unfold upd; split <;> rfl
/-- two objects of different content stand apart -/
theorem ne_of {H : Hp} {a b : Addr} {o u : HO} (h : H a = some o) (h' : H b = some u) (d : o ≠ u) : a ≠ b := by
  intro e; subst e; rw [h] at h'; exact d (Option.some.inj h')
theorem ne_of_none {H : Hp} {a b : Addr} {o : HO} (h : H a = some o) (h' : H b = none) : a ≠ b := by
  intro e; subst e; rw [h] at h'; cases h'

section
variable (P : Program) (w : World)
def ObjOk (H : Hp) (h : Heap) (a : Addr) : HO → Prop
  | .lst xs => xs.length ≤ sizeLine ∧ ∃ (its : List Value) (n : Nat), Vals xs its ∧ h.get? a = some { cls := .type "list", data := .seq its.toArray n }
  | .tup xs => xs.length ≤ sizeLine ∧ ∃ its : List Value, Vals xs its ∧ IsTup h a its.toArray
  | .dK kvs => kvs.length ≤ sizeLine ∧ (a == sysModules) = false ∧ ∃ vs, KV kvs vs ∧ h.DictOf (mixKind P w) a vs
  | .dT kvs => kvs.length ≤ sizeLine ∧ (a == sysModules) = false ∧ ∃ xs : List (List Key × Addr × Value),
      Paired (fun (p : List Key × V) (q : List Key × Addr × Value) => p.1 = q.1 ∧ H q.2.1 = some (.tup (p.1.map kV)) ∧ RelV p.2 q.2.2) kvs xs ∧
      ∃ o es ep, h.get? a = some o ∧ o.ExactDict ∧ o.data = .dict es ep ∧ es.toList = xs.map (entryOfKey (tupleKind (mixKind P w))) ∧ (xs.map (·.1)).Nodup
  | .set S n => h.SetOf (intKind P w) a S n
  | .ins C dx fs => H dx = some (.own a) ∧ fs.length ≤ 1000 ∧ dx ≠ a ∧ h.get? a = some (PySem.W.instObj C dx) ∧
      ∃ mA, h.Ns1 dx mA ∧ (∀ f, RelO (fs.lookup f) (mA f)) ∧ PySem.Within mA (fs.map (·.1))
  | .own _ => ∃ o, h.get? a = some o
  | .xd fs => ∃ mA, h.Ns1 a mA ∧ ∀ f, RelO (fs.lookup f) (mA f)
  | .rng lo hi => ∃ t u v, h.get? a = some { cls := .type "range", data := .fields #[.int lo t, .int hi u, .int 1 v] }
  | .frz o u => h.get? a = some o ∧ ObjOk H h a u
  | .tbl ps => h.get? a = some { cls := .none, data := .fields ps }
  | .met f x => h.get? a = some (PySem.W.methodObj (.ref f) (.ref x))
  | .ext φ => φ h ∧ (∃ o, h.get? a = some o) ∧ ∀ h1 h2 : Heap, φ h1 → (∀ o, h1.get? a = some o → h2.get? a = some o) → φ h2
/-- the abstract heap is held -/
def HOk (H : Hp) (h : Heap) : Prop := ∀ a o, H a = some o → ObjOk P w H h a o
end

section
variable {P : Program} {w : World} {H H' : Hp} {h h' : Heap} {a : Addr} {o : HO}
theorem ObjOk.lt (x : ObjOk P w H h a o) : a < h.objs.size := by
  cases o with
  | lst xs => obtain ⟨_, _, _, _, e⟩ := x; exact Heap.lt_size e
  | tup xs => obtain ⟨_, _, _, p⟩ := x; exact p.lt
  | dK kvs => obtain ⟨_, _, _, _, o, _, _, e, _⟩ := x; exact Heap.lt_size e
  | dT kvs => obtain ⟨_, _, _, _, o, _, _, e, _⟩ := x; exact Heap.lt_size e
  | set S n => obtain ⟨o, _, _, _, e, _⟩ := x; exact Heap.lt_size e
  | ins C dx fs => obtain ⟨_, _, _, e, _⟩ := x; exact Heap.lt_size e
  | own y => obtain ⟨_, e⟩ := x; exact Heap.lt_size e
  | xd fs => obtain ⟨_, ⟨_, _, _, e, _⟩, _⟩ := x; exact Heap.lt_size e
  | rng lo hi => obtain ⟨_, _, _, e⟩ := x; exact Heap.lt_size e
  | frz ob u => obtain ⟨e, _⟩ := x; exact Heap.lt_size e
  | tbl ps => exact Heap.lt_size (show h.get? a = some _ from x)
  | met f y => exact Heap.lt_size (show h.get? a = some _ from x)
  | ext φ => obtain ⟨_, ⟨_, e⟩, _⟩ := x; exact Heap.lt_size e
theorem Paired.mapP {α β : Type} {F G : α → β → Prop} : ∀ {l₁ : List α} {l₂ : List β}, Paired F l₁ l₂ → (∀ a b, F a b → G a b) → Paired G l₁ l₂
  | _, _, .nil, _ => .nil
  | _, _, .cons r t, f => .cons (f _ _ r) (Paired.mapP t f)
theorem Paired.imp' {α β : Type} {F G : α → β → Prop} (f : ∀ a b, F a b → G a b) {l₁ : List α} {l₂ : List β} (r : Paired F l₁ l₂) : Paired G l₁ l₂ := Paired.mapP r f
/-- what an object's description leans on: its own object, its own dict, the tuples -/
theorem ObjOk.stay (x : ObjOk P w H h a o) (k : ∀ b u, (b = a ∨ H b = some (.own a)) → h.get? b = some u → h'.get? b = some u)
    (ho : ∀ b, H b = some (.own a) → H' b = some (.own a)) (ht : ∀ b xs, H b = some (.tup xs) → H' b = some (.tup xs)) : ObjOk P w H' h' a o := by
  induction o with
  | lst xs => obtain ⟨z, its, n, r, e⟩ := x; exact ⟨z, its, n, r, k _ _ (.inl rfl) e⟩
  | tup xs => obtain ⟨z, its, r, ob, e, c⟩ := x; exact ⟨z, its, r, ob, k _ _ (.inl rfl) e, c⟩
  | dK kvs => obtain ⟨z, y, vs, r, ob, es, ep, e, c⟩ := x; exact ⟨z, y, vs, r, ob, es, ep, k _ _ (.inl rfl) e, c⟩
  | dT kvs =>
    obtain ⟨z, y, xs, r, ob, es, ep, e, c⟩ := x
    exact ⟨z, y, xs, Paired.mapP r fun p q z => ⟨z.1, ht _ _ z.2.1, z.2.2⟩, ob, es, ep, k _ _ (.inl rfl) e, c⟩
  | set S n => obtain ⟨ob, es, ep, t, e, c⟩ := x; exact ⟨ob, es, ep, t, k _ _ (.inl rfl) e, c⟩
  | ins C dx fs =>
    obtain ⟨d, z, ne, e, mA, ⟨od, es, ep, e2, c⟩, r⟩ := x
    exact ⟨ho _ d, z, ne, k _ _ (.inl rfl) e, mA, ⟨od, es, ep, k _ _ (.inr d) e2, c⟩, r⟩
  | own y => obtain ⟨ob, e⟩ := x; exact ⟨ob, k _ _ (.inl rfl) e⟩
  | xd fs => obtain ⟨mA, ⟨od, es, ep, e, c⟩, r⟩ := x; exact ⟨mA, ⟨od, es, ep, k _ _ (.inl rfl) e, c⟩, r⟩
  | rng lo hi => obtain ⟨t, u, v, e⟩ := x; exact ⟨t, u, v, k _ _ (.inl rfl) e⟩
  | frz ob u ih => obtain ⟨e, q⟩ := x; exact ⟨k _ _ (.inl rfl) e, ih q⟩
  | tbl ps =>
    have e : h.get? a = some { cls := .none, data := .fields ps } := x
    show h'.get? a = some { cls := .none, data := .fields ps }
    exact k a _ (.inl rfl) e
  | met f y =>
    have e : h.get? a = some (PySem.W.methodObj (.ref f) (.ref y)) := x
    show h'.get? a = some (PySem.W.methodObj (.ref f) (.ref y))
    exact k a _ (.inl rfl) e
  | ext φ => obtain ⟨p, ⟨o, e⟩, st⟩ := x; exact ⟨st _ _ p fun o q => k _ _ (.inl rfl) q, ⟨o, k _ _ (.inl rfl) e⟩, st⟩
theorem HOk.lt (x : HOk P w H h) (e : H a = some o) : a < h.objs.size := (x a o e).lt
theorem HOk.fresh (x : HOk P w H h) (e : h.objs.size ≤ a) : H a = none := by
  cases q : H a with
  | none => rfl
  | some u => exact absurd (Nat.lt_of_lt_of_le (x.lt q) e) (Nat.lt_irrefl _)
/-- every object of the heap is kept -/
theorem HOk.kept (x : HOk P w H h) (k : ∀ b u, h.get? b = some u → h'.get? b = some u) : HOk P w H h' := fun a o e =>
  (x a o e).stay (fun b u _ q => k b u q) (fun _ q => q) fun _ _ q => q
/-- a new object is laid and tracked -/
theorem HOk.laid (x : HOk P w H h) (k : ∀ b u, h.get? b = some u → h'.get? b = some u) (hp : h.objs.size ≤ a) (new : ObjOk P w (upd H a o) h' a o) : HOk P w (upd H a o) h' := fun b u e => by
  have hn := x.fresh hp
  by_cases hb : b = a
  · subst hb; rw [upd_same] at e; cases e; exact new
  · rw [upd_ne hb] at e
    exact (x b u e).stay (fun c v _ q => k c v q) (fun c q => by rw [upd_ne (ne_of_none q hn)]; exact q) fun c xs q => by rw [upd_ne (ne_of_none q hn)]; exact q
end

/-- what may be read as u: it is u, or a known u -/
def Rd (H : Hp) (a : Addr) (u : HO) : Prop := H a = some u ∨ ∃ o, H a = some (.frz o u)
theorem Rd.of {H : Hp} {a : Addr} {u : HO} (h : H a = some u) : Rd H a u := .inl h
theorem Rd.ok {P : Program} {w : World} {H : Hp} {h : Heap} {a : Addr} {u : HO} (r : Rd H a u) (x : HOk P w H h) : ObjOk P w H h a u := by
  rcases r with r | ⟨o, r⟩
  · exact x a u r
  · obtain ⟨_, q⟩ := x a _ r
    exact q
/-- what may be written -/
def Mut : Option HO → Prop
  | some (.lst _) => True
  | some (.dK _) => True
  | some (.dT _) => True
  | some (.set _ _) => True
  | some (.ins _ _ _) => True
  | some (.ext _) => True
  | _ => False
section
variable {P : Program} {w : World} {H : Hp} {h h' : Heap} {x e : Addr} {o' : HO}
/-- the object at e is changed: x itself, or the dict of the instance x -/
theorem HOk.write (ok : HOk P w H h) (mu : Mut (H x)) (he : e = x ∨ H e = some (.own x)) (k : ∀ b u, b ≠ e → h.get? b = some u → h'.get? b = some u) (heo : ∃ u, h'.get? e = some u)
    (new : ObjOk P w (upd H x o') h' x o') : HOk P w (upd H x o') h' := fun b u q => by
  have nown : ∀ c y, H c = some (.own y) → c ≠ x := fun c y r z => by subst z; rw [r] at mu; exact mu
  have ntup : ∀ c xs, H c = some (.tup xs) → c ≠ x := fun c xs r z => by subst z; rw [r] at mu; exact mu
  by_cases hb : b = x
  · subst hb; rw [upd_same] at q; cases q; exact new
  · rw [upd_ne hb] at q
    by_cases hbe : b = e
    · have q' : H b = some (.own x) := by
        rcases he with z | z
        · exact absurd (hbe.trans z) hb
        · rw [hbe]; exact z
      rw [q] at q'; cases q'
      obtain ⟨v, hv⟩ := heo
      exact ⟨v, by rw [hbe]; exact hv⟩
    · refine (ok b u q).stay (fun c v hc r => k c v ?_ r) (fun c r => by rw [upd_ne (nown c b r)]; exact r) fun c xs r => by rw [upd_ne (ntup c xs r)]; exact r
      rcases hc with rfl | hc
      · exact hbe
      · rintro rfl
        rcases he with z | z
        · exact nown c b hc z
        · rw [hc] at z; cases z; exact hb rfl
end

/-! ### kept unless tracked; of the frames at fs (the callers') the slots may change (an exception that passes writes there); of the records at ex (iterators) nothing is said -/
structure Un (fs ex : List Addr) (H H' : Hp) (h h' : Heap) : Prop where
  keep : ∀ b o, h.get? b = some o → H b = none → b ∉ fs → b ∉ ex → h'.get? b = some o
  slot : ∀ b o, h.get? b = some o → H b = none → b ∈ fs → b ∉ ex → ∃ sl, h'.get? b = some { o with slots := sl }
  free : ∀ b o, h.get? b = some o → H b = none → b ∉ ex → H' b = none
  there : ∀ b o, h.get? b = some o → b ∉ ex → ∃ o', h'.get? b = some o'
  tups : ∀ b xs, H b = some (.tup xs) → H' b = some (.tup xs)
  frzs : ∀ b o u, H b = some (.frz o u) → H' b = some (.frz o u)
  tbls : ∀ b ps, H b = some (.tbl ps) → ∃ more, H' b = some (.tbl (ps ++ more))
section
variable {fs fs' ex ex' : List Addr} {H H1 H2 : Hp} {h h1 h2 h' : Heap} {a x e : Addr} {o : HO}
theorem Un.any (u : Un fs ex H H1 h h1) {b : Addr} {ob : Obj} (q : h.get? b = some ob) (n : H b = none) (hx : b ∉ ex) : ∃ sl, h1.get? b = some { ob with slots := sl } := by
  by_cases hb : b ∈ fs
  · exact u.slot b ob q n hb hx
  · exact ⟨ob.slots, u.keep b ob q n hb hx⟩
theorem Un.trans (a : Un fs ex H H1 h h1) (b : Un fs ex H1 H2 h1 h2) : Un fs ex H H2 h h2 where
  keep := fun c ob q n hc hx => b.keep c ob (a.keep c ob q n hc hx) (a.free c ob q n hx) hc hx
  slot := fun c ob q n hc hx => by
    obtain ⟨sl, e1⟩ := a.slot c ob q n hc hx
    obtain ⟨sl', e2⟩ := b.slot c _ e1 (a.free c ob q n hx) hc hx
    exact ⟨sl', e2⟩
  free := fun c ob q n hx => by
    obtain ⟨o', e1⟩ := a.there c ob q hx
    exact b.free c o' e1 (a.free c ob q n hx) hx
  there := fun c ob q hx => by
    obtain ⟨o', e1⟩ := a.there c ob q hx
    exact b.there c o' e1 hx
  tups := fun c xs q => b.tups c xs (a.tups c xs q)
  frzs := fun c ob xs q => b.frzs c ob xs (a.frzs c ob xs q)
  tbls := fun c ps q => by
    obtain ⟨m1, e1⟩ := a.tbls c ps q
    obtain ⟨m2, e2⟩ := b.tbls c _ e1
    exact ⟨m1 ++ m2, by rw [e2, Array.append_assoc]⟩
theorem Un.kept (k : ∀ b u, h.get? b = some u → h'.get? b = some u) : Un fs ex H H h h' :=
  ⟨fun b ob q _ _ _ => k b ob q, fun b ob q _ _ _ => ⟨ob.slots, k b ob q⟩, fun _ _ _ n _ => n, fun b ob q _ => ⟨ob, k b ob q⟩, fun _ _ q => q, fun _ _ _ q => q, fun _ ps q => ⟨#[], by rw [q]; simp⟩⟩
theorem Un.refl : Un fs ex H H h h := Un.kept fun _ _ q => q
theorem Un.laid (k : ∀ b u, h.get? b = some u → h'.get? b = some u) (hp : h.objs.size ≤ a) (hn : H a = none) : Un fs ex H (upd H a o) h h' where
  keep := fun b u q _ _ _ => k b u q
  slot := fun b u q _ _ _ => ⟨u.slots, k b u q⟩
  free := fun b u q n _ => by rw [upd_ne (Nat.ne_of_lt (Nat.lt_of_lt_of_le (Heap.lt_size q) hp))]; exact n
  there := fun b u q _ => ⟨u, k b u q⟩
  tups := fun b xs q => by rw [upd_ne (ne_of_none q hn)]; exact q
  frzs := fun b u xs q => by rw [upd_ne (ne_of_none q hn)]; exact q
  tbls := fun b ps q => ⟨#[], by rw [upd_ne (ne_of_none q hn), q]; simp⟩
theorem Un.write (mu : Mut (H x)) (he : e = x ∨ H e = some (.own x)) (k : ∀ b u, b ≠ e → h.get? b = some u → h'.get? b = some u) (heo : ∃ u, h'.get? e = some u) : Un fs ex H (upd H x o) h h' := by
  have hx : ∀ b, H b = none → b ≠ x := fun b n z => by subst z; rw [n] at mu; exact mu
  have hb : ∀ b, H b = none → b ≠ e := fun b n z => by
    subst z
    rcases he with r | r
    · exact hx b n r
    · rw [n] at r; cases r
  have hm : ∀ b u, H b = some u → ¬ Mut (some u) → b ≠ x := fun b u q nm z => by subst z; rw [q] at mu; exact nm mu
  refine ⟨fun b u q n _ _ => k b u (hb b n) q, fun b u q n _ _ => ⟨u.slots, k b u (hb b n) q⟩, fun b u q n _ => by rw [upd_ne (hx b n)]; exact n, fun b u q _ => ?_,
    fun b xs q => by rw [upd_ne (hm b _ q fun z => z)]; exact q, fun b u xs q => by rw [upd_ne (hm b _ q fun z => z)]; exact q, fun b ps q => ⟨#[], by rw [upd_ne (hm b _ q fun z => z), q]; simp⟩⟩
  by_cases hbe : b = e
  · subst hbe; exact heo
  · exact ⟨u, k b u hbe q⟩
theorem Un.mono (u : Un fs ex H H1 h h1) (hs : ∀ b ∈ fs, b ∈ fs') (hx : ∀ b ∈ ex, b ∈ ex') : Un fs' ex' H H1 h h1 :=
  ⟨fun b ob q n hb he => u.keep b ob q n (fun z => hb (hs b z)) fun z => he (hx b z), fun _ _ q n _ he => u.any q n fun z => he (hx _ z), fun b ob q n he => u.free b ob q n fun z => he (hx b z), fun b ob q he => u.there b ob q fun z => he (hx b z), u.tups, u.frzs, u.tbls⟩
end

/-! ### the heap without what is tracked -/
def trk (h : Heap) (H : Hp) : List Addr := (List.range h.objs.size).filter fun a => (H a).isSome
def hidT (h : Heap) (H : Hp) : Heap := PySem.W.hideAll h (trk h H)
theorem hidT_size (h : Heap) (H : Hp) : (hidT h H).objs.size = h.objs.size := PySem.W.hideAll_size _ _
theorem hidT_get {h : Heap} {H : Hp} {b : Addr} {o : Obj} (e : h.get? b = some o) (n : H b = none) : (hidT h H).get? b = some o :=
  PySem.W.hideAll_get _ e fun hm => by
    have q : (H b).isSome = true := (List.mem_filter.mp hm).2
    rw [n] at q; simp at q
theorem of_hidT {h : Heap} {H : Hp} {b : Addr} {o : Obj} (e : (hidT h H).get? b = some o) : h.get? b = some o ∧ H b = none := by
  have e' : h.get? b = some o := PySem.W.of_hideAll (trk h H) e
  refine ⟨e', ?_⟩
  cases q : H b with
  | none => rfl
  | some x =>
    have hm : b ∈ trk h H := List.mem_filter.mpr ⟨List.mem_range.mpr (Heap.lt_size e'), by simp [q]⟩
    have z : (hidT h H).get? b = none := PySem.W.hideAll_none (trk h H) hm
    rw [z] at e; cases e

/-! ### OpenK's ledger, filled with every new object but one -/
def allNews (g h : Heap) (L : Addr) : List (Addr × Obj) := (List.range h.objs.size).filterMap fun a => if a = L ∨ (g.get? a).isSome = true then none else (h.get? a).map fun o => (a, o)
theorem mem_allNews {g h : Heap} {L a : Addr} {o : Obj} (h1 : a ≠ L) (h2 : g.get? a = none) (h3 : h.get? a = some o) : (a, o) ∈ allNews g h L :=
  List.mem_filterMap.mpr ⟨a, List.mem_range.mpr (Heap.lt_size h3), by simp [h1, h2, h3]⟩
theorem of_mem_allNews {g h : Heap} {L : Addr} {p : Addr × Obj} (hp : p ∈ allNews g h L) : p.1 ≠ L ∧ g.get? p.1 = none ∧ h.get? p.1 = some p.2 := by
  obtain ⟨b, _, e⟩ := List.mem_filterMap.mp hp
  split at e
  · cases e
  · rename_i hn
    cases q : h.get? b with
    | none => rw [q] at e; simp at e
    | some u =>
      rw [q] at e
      simp only [Option.map_some, Option.some.injEq] at e
      subst e
      refine ⟨fun z => hn (.inl z), ?_, q⟩
      show g.get? b = none
      cases r : g.get? b with
      | none => rfl
      | some v => exact (hn (.inr (by simp [r]))).elim
def rest (g h : Heap) (L d : Addr) : List (Addr × Obj) := (allNews g h L).filter fun p => decide (p.1 ≠ d)
theorem rest_ne {g h : Heap} {L d : Addr} : ∀ p ∈ rest g h L d, p.1 ≠ d := fun p hp => of_decide_eq_true (List.mem_filter.mp hp).2
theorem mem_rest {g h : Heap} {L d a : Addr} {o : Obj} (h1 : a ≠ L) (h2 : g.get? a = none) (h3 : h.get? a = some o) (h4 : a ≠ d) : (a, o) ∈ rest g h L d :=
  List.mem_filter.mpr ⟨mem_allNews h1 h2 h3, decide_eq_true h4⟩
theorem news_all {g h : Heap} {L : Addr} : News g L h (allNews g h L) := fun p hp => let ⟨a, b, c⟩ := of_mem_allNews hp; ⟨c, a, b⟩
theorem news_at {g h : Heap} {L d : Addr} {o : Obj} (h1 : d ≠ L) (h2 : g.get? d = none) (h3 : h.get? d = some o) : News g L h ((d, o) :: rest g h L d) := fun p hp => by
  rcases List.mem_cons.mp hp with rfl | hp
  · exact ⟨h3, h1, h2⟩
  · exact news_all p (List.mem_filter.mp hp).1
/-- behind a rule that changed d alone: all else but the frame is kept -/
theorem kept_of_news {g h h' : Heap} {L d : Addr} {m : Str → Option Value} (k : ∀ b o, g.get? b = some o → h.get? b = some o) (F : Fr g L h' m) (N : News g L h' (rest g h L d)) :
    ∀ b o, b ≠ L → b ≠ d → h.get? b = some o → h'.get? b = some o := fun b o h1 h2 e => by
  cases q : g.get? b with
  | some u =>
    have := k b u q
    rw [e] at this; cases this
    exact F.keep b _ q
  | none => exact (N (b, o) (mem_rest h1 q e h2)).1
end L2

namespace L2
open PySem PySem.Spec PyProof.Rows

/-- the module's facts, over the base: the heap at the law's entry without what is tracked there -/
structure Mod (K : PySem.W.Frag) (mg : Str → Option Value) (base : Heap) : Prop where
  kin : K.In base
  glob : base.Ns mainGlobals mg
  blt : ∃ mb, base.Ns builtinsNs mb ∧ ∀ x : Str, x ≠ "__name__" → mb x = bootBuiltins x
  nolimit : base.NoLimit

/-- the context: a def's body (or a comprehension's block) running. base: fixed through the whole law; s₀, H₀: the entry; outer: the frames whose slots others may change (a def's callers); stack: all frames that run;
   ex: iterators that were made ahead of the entry and are walked here (a comprehension's); fn: the names whose cells were made at the entry (a def: all; a comprehension's block: its own); calm: not within an except suite; pn: pins that every state bears; xe: what is wanted of an exception that leaves the code -/
structure Cx where
  prog : Program
  w : World
  K : PySem.W.Frag
  mg : Str → Option Value
  base : Heap
  A : Around
  N : List Str
  s₀ : Shared
  H₀ : Hp
  env : Env
  outer : List Env
  stack : List Env
  ex : List Addr
  fn : Str → Bool
  calm : Bool
  pn : List (Addr × Obj)
  xe : Value → Shared → Prop
/-- the callers' frames -/
def frs (l : List Env) : List Addr := l.filterMap (·.frame)
abbrev Cx.fs (X : Cx) : List Addr := frs X.outer

def Vis (sc : Scope) (x : Str) : Prop := sc.names.lookup x = some .local ∨ sc.names.lookup x = some .cell ∨ sc.names.lookup x = some .free
def Loc (sc : Scope) (x : Str) : Prop := sc.names.lookup x = some .local ∨ sc.names.lookup x = some .cell
def Look (env : Env) (h : Heap) (m : Str → Option Value) (x : Str) (u : Value) : Prop :=
  (env.kindOf x = some .local ∧ m x = some u) ∨ ((env.kindOf x = some .cell ∨ env.kindOf x = some .free) ∧ ∃ c, env.cells.lookup x = some c ∧ h.IsCell c (some u))

structure Cx.Ok (X : Cx) : Prop where
  mod : Mod X.K X.mg X.base
  kind : X.env.scope.kind = .function
  glob : X.env.globals = mainGlobals
  blt : X.env.builtins = builtinsNs
  above : X.s₀.heap.objs.size ≤ X.env.locals
  inj : ∀ x y c, X.env.cells.lookup x = some c → X.env.cells.lookup y = some c → x = y
  has : ∀ x, (X.env.kindOf x = some .cell ∨ X.env.kindOf x = some .free) → ∃ c, X.env.cells.lookup x = some c
  cab : ∀ x c, X.fn x = true → X.env.cells.lookup x = some c → X.s₀.heap.objs.size ≤ c
  hd : X.calm = true → X.A.handled = none
  frames : X.A.frames = some X.stack
  stk : X.stack = X.outer ∨ (X.stack = X.env :: X.outer ∧ X.env.frame = some X.env.locals)
  exf : ∀ b ∈ X.ex, b ≠ X.env.locals ∧ ∀ x c, X.env.cells.lookup x = some c → c ≠ b
  bs : ∀ b o, X.base.get? b = some o → X.s₀.heap.get? b = some o ∧ X.H₀ b = none
  bsz : X.base.objs.size ≤ X.s₀.heap.objs.size
  noex : ∀ b o, X.base.get? b = some o → b ∉ X.ex
  exfs : ∀ b ∈ X.ex, b ∉ X.fs
  funs : X.s₀.heap.FunFrames X.base X.outer
  frf : ∀ b ∈ X.fs, X.H₀ b = none

structure Inv (X : Cx) (pins : List (Addr × Obj)) (σ : List (Option V)) (H : Hp) (s : Shared) : Prop where
  ok : X.Ok
  os : s.os = X.s₀.os
  bare : AllBare s.gens
  base : Un X.fs X.ex X.H₀ H X.s₀.heap s.heap
  loc : ∃ m, s.heap.Ns X.env.locals m ∧ ∀ (i : Nat) (x : Str) (v : V), X.N[i]? = some x → σ[i]? = some (some v) → Vis X.env.scope x → ∃ u, RelV v u ∧ Look X.env s.heap m x u
  cell : ∀ x c, X.env.cells.lookup x = some c → ∃ v, s.heap.IsCell c v
  free : H X.env.locals = none
  freeC : ∀ x c, X.env.cells.lookup x = some c → H c = none
  pin : ∀ p ∈ X.pn ++ pins, s.heap.get? p.1 = some p.2 ∧ H p.1 = none ∧ p.1 ≠ X.env.locals ∧ p.1 ∉ X.fs ∧ ∀ v, p.2.data ≠ .cell v
  hok : HOk X.prog X.w H s.heap
  len : σ.length = X.N.length

section
variable {X : Cx} {pins : List (Addr × Obj)} {σ : List (Option V)} {H H' : Hp} {s : Shared} {h' : Heap}

theorem Cx.Ok.nofr (ok : X.Ok) {b : Addr} {o : Obj} (e : X.base.get? b = some o) : b ∉ X.fs := fun hb => by
  have := (ok.funs.mem hb).1
  rw [e] at this; cases this
theorem Inv.bs (I : Inv X pins σ H s) : ∀ b o, X.base.get? b = some o → s.heap.get? b = some o ∧ H b = none := fun b o e =>
  ⟨I.base.keep b o (I.ok.bs b o e).1 (I.ok.bs b o e).2 (I.ok.nofr e) (I.ok.noex b o e), I.base.free b o (I.ok.bs b o e).1 (I.ok.bs b o e).2 (I.ok.noex b o e)⟩
theorem Inv.bk (I : Inv X pins σ H s) : ∀ b o, X.base.get? b = some o → s.heap.get? b = some o := fun b o e => (I.bs b o e).1
theorem Inv.mod (I : Inv X pins σ H s) : Mod X.K X.mg X.base := I.ok.mod
theorem Inv.kIn (I : Inv X pins σ H s) : X.K.In s.heap := I.ok.mod.kin.keeps I.bk
theorem Inv.nolimit (I : Inv X pins σ H s) : s.heap.NoLimit := I.ok.mod.nolimit.keeps I.bk
/-- the frame over the base: for OpenK's rules (K.In X.base is I.mod.kin) -/
theorem Inv.fr (I : Inv X pins σ H s) : ∃ m, Fr X.base X.env.locals s.heap m :=
  let ⟨m, hn, _⟩ := I.loc
  ⟨m, hn, I.bk, Nat.le_trans I.ok.bsz I.ok.above⟩
theorem Inv.lt (I : Inv X pins σ H s) : X.env.locals < s.heap.objs.size := let ⟨_, hn, _⟩ := I.loc; hn.lt
theorem Inv.sz (I : Inv X pins σ H s) : X.s₀.heap.objs.size ≤ s.heap.objs.size := Nat.le_trans I.ok.above (Nat.le_of_lt I.lt)
theorem Inv.nofs (I : Inv X pins σ H s) {a : Addr} (h : s.heap.objs.size ≤ a) : a ∉ X.fs := fun hb => by
  obtain ⟨_, o, ho, _⟩ := I.ok.funs.mem hb
  exact absurd (Nat.lt_of_lt_of_le (Heap.lt_size ho) (Nat.le_trans I.sz h)) (Nat.lt_irrefl _)
theorem Inv.cne (I : Inv X pins σ H s) : ∀ x c, X.env.cells.lookup x = some c → c ≠ X.env.locals := fun x c e z => by
  obtain ⟨v, o, ho, hd⟩ := I.cell x c e
  obtain ⟨m, ⟨o', es, ep, ho', hd', _⟩, _⟩ := I.loc
  rw [z, ho'] at ho; cases ho; rw [hd'] at hd; cases hd
theorem Inv.funs (I : Inv X pins σ H s) : s.heap.FunFrames X.base X.outer := by
  have all : ∀ (l : List Env), (∀ b ∈ frs l, b ∈ X.fs) → X.s₀.heap.FunFrames X.base l → s.heap.FunFrames X.base l := by
    intro l
    induction l with
    | nil => intro _ _; trivial
    | cons env r ih =>
      intro hs hl
      obtain ⟨hk, ⟨L, o, hf, hn, ho, hd⟩, hr⟩ := hl
      have hL : L ∈ X.fs := hs L (by unfold frs; rw [List.filterMap_cons, hf]; exact List.mem_cons_self)
      obtain ⟨sl, e⟩ := I.base.slot L o ho (I.ok.frf L hL) hL fun z => I.ok.exfs L z hL
      exact ⟨hk, ⟨L, _, hf, hn, e, hd⟩, ih (fun b hb => hs b (by unfold frs; rw [List.filterMap_cons, hf]; exact List.mem_cons_of_mem _ hb)) hr⟩
  exact all X.outer (fun _ hb => hb) I.ok.funs

/-- the frames that run, for a call -/
theorem Inv.stack (I : Inv X pins σ H s) : s.heap.FunFrames X.base X.stack := by
  rcases I.ok.stk with e | ⟨e, hf⟩
  · rw [e]; exact I.funs
  · rw [e]
    obtain ⟨m, hn, _⟩ := I.loc
    refine .cons (by rw [I.ok.kind]; decide) hf hn ?_ I.funs
    exact Heap.get?_none_of_le (Nat.le_trans I.ok.bsz I.ok.above)
theorem Inv.stkSub (I : Inv X pins σ H s) : ∀ b ∈ frs X.stack, b ∈ X.env.locals :: X.fs := fun b hb => by
  rcases I.ok.stk with e | ⟨e, hf⟩
  · rw [e] at hb; exact List.mem_cons_of_mem _ hb
  · rw [e] at hb
    unfold frs at hb
    rw [List.filterMap_cons, hf] at hb
    exact hb
theorem Inv.stkFree (I : Inv X pins σ H s) : ∀ b ∈ frs X.stack, H b = none := fun b hb => by
  rcases List.mem_cons.mp (I.stkSub b hb) with e | hb
  · rw [e]; exact I.free
  · obtain ⟨_, o, ho, _⟩ := I.ok.funs.mem hb
    exact I.base.free b o ho (I.ok.frf b hb) fun z => I.ok.exfs b z hb

/-- THE STEP: the untracked objects but the frame and the records at ch are kept (the callers' frames up to slots), the frame's map is kept, the new abstract heap is held -/
theorem Inv.step {g' : Array GenState} {t' : Nat} {d' : Drawn} {ch : List Addr} (I : Inv X pins σ H s)
    (hch : ∀ b ∈ ch, (b ∈ X.ex ∨ X.s₀.heap.objs.size ≤ b) ∧ b ≠ X.env.locals ∧ (∀ x c, X.env.cells.lookup x = some c → c ≠ b) ∧ ∀ p ∈ X.pn ++ pins, p.1 ≠ b)
    (keep : ∀ b o, b ≠ X.env.locals → b ∉ X.fs → b ∉ ch → s.heap.get? b = some o → H b = none → h'.get? b = some o)
    (slot : ∀ b o, b ≠ X.env.locals → b ∈ X.fs → b ∉ ch → s.heap.get? b = some o → H b = none → ∃ sl, h'.get? b = some { o with slots := sl }) (free : ∀ b o, b ∉ ch → s.heap.get? b = some o → H b = none → H' b = none)
    (there : ∀ b o, b ∉ ch → s.heap.get? b = some o → ∃ o', h'.get? b = some o')
    (tups : ∀ b xs, H b = some (.tup xs) → H' b = some (.tup xs)) (frzs : ∀ b o u, H b = some (.frz o u) → H' b = some (.frz o u)) (tbls : ∀ b ps, H b = some (.tbl ps) → ∃ more, H' b = some (.tbl (ps ++ more)))
    (ns : ∀ m, s.heap.Ns X.env.locals m → h'.Ns X.env.locals m) (hok : HOk X.prog X.w H' h') (hg : AllBare g') :
    Inv X pins σ H' { s with heap := h', gens := g', drawn := d', toks := t' } := by
  have neL : ∀ b o, X.s₀.heap.get? b = some o → b ≠ X.env.locals := fun b o e => Nat.ne_of_lt (Nat.lt_of_lt_of_le (Heap.lt_size e) I.ok.above)
  have neC : ∀ b o, X.s₀.heap.get? b = some o → b ∉ X.ex → b ∉ ch := fun b o e hx hb => by
    rcases (hch b hb).1 with z | z
    · exact hx z
    · exact absurd (Nat.lt_of_lt_of_le (Heap.lt_size e) z) (Nat.lt_irrefl _)
  have cellK : ∀ x c, X.env.cells.lookup x = some c → ∀ v, s.heap.IsCell c v → h'.IsCell c v := fun x c e v ⟨o, ho, hd⟩ => by
    have nch : c ∉ ch := fun z => (hch c z).2.2.1 x c e rfl
    by_cases hc : c ∈ X.fs
    · obtain ⟨sl, q⟩ := slot c o (I.cne x c e) hc nch ho (I.freeC x c e)
      exact ⟨_, q, hd⟩
    · exact ⟨o, keep c o (I.cne x c e) hc nch ho (I.freeC x c e), hd⟩
  refine ⟨I.ok, I.os, hg, ⟨fun b o e n hb hx => ?_, fun b o e n hb hx => ?_, fun b o e n hx => ?_, fun b o e hx => ?_, fun b xs e => tups b xs (I.base.tups b xs e), fun b o xs e => frzs b o xs (I.base.frzs b o xs e), fun b ps e => ?_⟩, ?_, fun x c e => ?_, ?_, fun x c e => ?_, fun p hp => ?_, hok, I.len⟩
  · exact keep b o (neL b o e) hb (neC b o e hx) (I.base.keep b o e n hb hx) (I.base.free b o e n hx)
  · obtain ⟨sl, e1⟩ := I.base.slot b o e n hb hx
    obtain ⟨sl', e2⟩ := slot b _ (neL b o e) hb (neC b o e hx) e1 (I.base.free b o e n hx)
    exact ⟨sl', e2⟩
  · obtain ⟨o', e1⟩ := I.base.there b o e hx
    exact free b o' (neC b o e hx) e1 (I.base.free b o e n hx)
  · obtain ⟨o', e1⟩ := I.base.there b o e hx
    exact there b o' (neC b o e hx) e1
  · obtain ⟨m1, e1⟩ := I.base.tbls b ps e
    obtain ⟨m2, e2⟩ := tbls b _ e1
    exact ⟨m1 ++ m2, by rw [e2, Array.append_assoc]⟩
  · obtain ⟨m, hn, hl⟩ := I.loc
    refine ⟨m, ns m hn, fun i x v e1 e2 e3 => ?_⟩
    obtain ⟨u, r, l⟩ := hl i x v e1 e2 e3
    refine ⟨u, r, ?_⟩
    rcases l with l | ⟨k, c, e, z⟩
    · exact .inl l
    · exact .inr ⟨k, c, e, cellK x c e _ z⟩
  · obtain ⟨v, z⟩ := I.cell x c e
    exact ⟨v, cellK x c e v z⟩
  · obtain ⟨m, ⟨o, _, _, ho, _⟩, _⟩ := I.loc
    exact free _ o (fun z => (hch _ z).2.1 rfl) ho I.free
  · obtain ⟨v, o, ho, hd⟩ := I.cell x c e
    exact free c o (fun z => (hch c z).2.2.1 x c e rfl) ho (I.freeC x c e)
  · obtain ⟨e, n, ne, nf, d⟩ := I.pin p hp
    have nch : p.1 ∉ ch := fun z => (hch p.1 z).2.2.2 p hp rfl
    exact ⟨keep p.1 p.2 ne nf nch e n, free p.1 p.2 nch e n, ne, nf, d⟩
/-- .. where the frame's own object is kept too -/
theorem Inv.un {t' : Nat} (I : Inv X pins σ H s) (u : Un X.fs [] H H' s.heap h') (hok : HOk X.prog X.w H' h') : Inv X pins σ H' { s with heap := h', toks := t' } := by
  obtain ⟨m, ⟨o, es, ep, ho, r⟩, _⟩ := id I.loc
  obtain ⟨sl, hL⟩ := u.any ho I.free (by simp)
  exact I.step (g' := s.gens) (d' := s.drawn) (ch := []) (fun _ z => nomatch z) (fun b o _ hb _ e n => u.keep b o e n hb (by simp)) (fun b o _ hb _ e n => u.slot b o e n hb (by simp)) (fun b o _ e n => u.free b o e n (by simp)) (fun b o _ e => u.there b o e (by simp)) u.tups u.frzs u.tbls (fun m' hm => by
    obtain ⟨o', es', ep', ho', r'⟩ := hm
    rw [ho] at ho'; cases ho'
    exact ⟨_, es', ep', hL, r'⟩) hok I.bare
/-- behind a call (or a comprehension's block): the slots of this frame may have changed too, the records at ch may have turned -/
theorem Inv.call {g' : Array GenState} {t' : Nat} {d' : Drawn} {ch : List Addr} (I : Inv X pins σ H s) (u : Un (frs X.stack) ch H H' s.heap h') (hok : HOk X.prog X.w H' h') (hg : AllBare g')
    (hch : ∀ b ∈ ch, (b ∈ X.ex ∨ X.s₀.heap.objs.size ≤ b) ∧ b ≠ X.env.locals ∧ (∀ x c, X.env.cells.lookup x = some c → c ≠ b) ∧ ∀ p ∈ X.pn ++ pins, p.1 ≠ b) :
    Inv X pins σ H' { s with heap := h', gens := g', drawn := d', toks := t' } := by
  obtain ⟨m, ⟨o, es, ep, ho, r⟩, _⟩ := id I.loc
  obtain ⟨sl, hL⟩ := u.any ho I.free fun z => (hch _ z).2.1 rfl
  exact I.step (ch := ch) hch (fun b o hL hb hc e n => u.keep b o e n (fun z => (List.mem_cons.mp (I.stkSub b z)).elim hL hb) hc) (fun b o _ _ hc e n => u.any e n hc) (fun b o hc e n => u.free b o e n hc) (fun b o hc e => u.there b o e hc) u.tups u.frzs u.tbls (fun m' hm => by
    obtain ⟨o', es', ep', ho', r'⟩ := hm
    rw [ho] at ho'; cases ho'
    exact ⟨_, es', ep', hL, r'⟩) hok hg
/-- an untracked record of ours (an iterator) has turned -/
theorem Inv.turned {t' : Nat} {it : Addr} (I : Inv X pins σ H s) (k : ∀ b o, b ≠ it → s.heap.get? b = some o → h'.get? b = some o) (hn : H it = none) (hL : it ≠ X.env.locals)
    (h1 : it ∈ X.ex ∨ X.s₀.heap.objs.size ≤ it) (h2 : ∀ x c, X.env.cells.lookup x = some c → c ≠ it) (h3 : ∀ p ∈ X.pn ++ pins, p.1 ≠ it) : Inv X pins σ H { s with heap := h', toks := t' } := by
  have nit : ∀ b u, H b = some u → b ≠ it := fun b u e z => by rw [z, hn] at e; cases e
  refine I.step (g' := s.gens) (d' := s.drawn) (ch := [it]) (fun b hb => ?_) (fun b o _ _ hc e _ => k b o (fun z => hc (by simp [z])) e) (fun b o _ _ hc e _ => ⟨o.slots, k b o (fun z => hc (by simp [z])) e⟩) (fun _ _ _ _ n => n)
    (fun b o hc e => ⟨o, k b o (fun z => hc (by simp [z])) e⟩) (fun _ _ e => e) (fun _ _ _ e => e) (fun b ps e => ⟨#[], by rw [e]; simp⟩) (fun m hm => ?_) (fun b u e => ?_) I.bare
  · have e : b = it := by simpa using hb
    subst e
    exact ⟨h1, hL, h2, h3⟩
  · obtain ⟨o, es, ep, ho, r⟩ := hm
    exact ⟨o, es, ep, k _ o (Ne.symm hL) ho, r⟩
  · refine (I.hok b u e).stay (fun c v hc q => k c v ?_ q) (fun _ q => q) fun _ _ q => q
    rcases hc with z | z
    · rw [z]; exact nit b u e
    · exact nit c _ z
theorem Inv.tok (I : Inv X pins σ H s) (t : Nat) : Inv X pins σ H { s with toks := t } := I.un (h' := s.heap) (t' := t) Un.refl I.hok
/-- all objects kept -/
theorem Inv.kept {t' : Nat} (I : Inv X pins σ H s) (k : ∀ b u, s.heap.get? b = some u → h'.get? b = some u) : Inv X pins σ H { s with heap := h', toks := t' } := I.un (Un.kept k) (I.hok.kept k)
/-- a new object laid and tracked -/
theorem Inv.laid {a : Addr} {o : HO} {t' : Nat} (I : Inv X pins σ H s) (k : ∀ b u, s.heap.get? b = some u → h'.get? b = some u) (hp : s.heap.objs.size ≤ a) (new : ObjOk X.prog X.w (upd H a o) h' a o) :
    Inv X pins σ (upd H a o) { s with heap := h', toks := t' } := I.un (Un.laid k hp (I.hok.fresh hp)) (I.hok.laid k hp new)
/-- an object written -/
theorem Inv.write {x e : Addr} {o : HO} {t' : Nat} (I : Inv X pins σ H s) (mu : Mut (H x)) (he : e = x ∨ H e = some (.own x)) (k : ∀ b u, b ≠ e → s.heap.get? b = some u → h'.get? b = some u) (heo : ∃ u, h'.get? e = some u)
    (new : ObjOk X.prog X.w (upd H x o) h' x o) : Inv X pins σ (upd H x o) { s with heap := h', toks := t' } := I.un (Un.write mu he k heo) (I.hok.write mu he k heo new)
/-- forgetting slots, pins -/
theorem Inv.weak {σ' : List (Option V)} (I : Inv X pins σ H s) (hl : σ'.length = σ.length) (w : ∀ (i : Nat) v, σ'[i]? = some (some v) → σ[i]? = some (some v)) : Inv X pins σ' H s :=
  ⟨I.ok, I.os, I.bare, I.base, let ⟨m, hn, hl'⟩ := I.loc; ⟨m, hn, fun i x v e1 e2 e3 => hl' i x v e1 (w i v e2) e3⟩, I.cell, I.free, I.freeC, I.pin, I.hok, hl.trans I.len⟩
theorem Inv.pins_of {pins' : List (Addr × Obj)} (I : Inv X pins σ H s) (h : ∀ p ∈ pins', s.heap.get? p.1 = some p.2 ∧ H p.1 = none ∧ p.1 ≠ X.env.locals ∧ p.1 ∉ X.fs ∧ ∀ v, p.2.data ≠ .cell v) : Inv X pins' σ H s :=
  ⟨I.ok, I.os, I.bare, I.base, I.loc, I.cell, I.free, I.freeC, fun p hp => (List.mem_append.mp hp).elim (fun z => I.pin p (List.mem_append_left _ z)) (h p), I.hok, I.len⟩

theorem nodup_ix {N : List Str} (hN : N.Nodup) {i j : Nat} {x : Str} (a : N[i]? = some x) (b : N[j]? = some x) : i = j := by
  obtain ⟨h1, e1⟩ := List.getElem?_eq_some_iff.mp a
  obtain ⟨h2, e2⟩ := List.getElem?_eq_some_iff.mp b
  exact (List.getElem_inj hN).mp (e1.trans e2.symm)

/-- a name is stored; what changed -/
theorem store_ok2 {M : Model} {A : Around} {E : Value → Shared → Prop} {i : Nat} {x : Str} {v : V} {u : Value} {Q : Unit → Shared → Prop} (I : Inv X pins σ H s) (hN : X.N.Nodup) (hi : X.N[i]? = some x) (hx : Loc X.env.scope x) (r : RelV v u)
    (h : ∀ s', Inv X pins (σ.set i (some v)) H s' → (∃ a, Heap.SameBut a s.heap s'.heap ∧ (a = X.env.locals ∨ X.env.cells.lookup x = some a)) → Q () s') (hf : X.fn x = true ∨ X.env.scope.names.lookup x = some .local := by first | exact .inl rfl | exact .inr rfl | assumption) : wpAny M A (storeName X.env x u) Q E s := by
  obtain ⟨m, hn, hl⟩ := id I.loc
  have hcls : (X.env.scope.kind == .class || (X.env.scope.kind == .module && X.env.locals != X.env.globals)) = false := by rw [I.ok.kind]; rfl
  have hiσ : i < σ.length := by rw [I.len]; exact (List.getElem?_eq_some_iff.mp hi).1
  have cne := I.cne
  have tracked : ∀ {a : Addr} {h' : Heap}, (∃ o, s.heap.get? a = some o ∧ H a = none) → Heap.SameBut a s.heap h' → HOk X.prog X.w H h' := fun {a h'} ha hs b ob e => by
    obtain ⟨_, _, hfree⟩ := ha
    refine (I.hok b ob e).stay (fun c w' hc q => (hs.2 c ?_).trans q) (fun _ q => q) fun _ _ q => q
    rintro rfl
    rcases hc with rfl | hc
    · rw [hfree] at e; cases e
    · rw [hfree] at hc; cases hc
  rcases hx with hk | hk
  · refine wpAny_storeName_local hk hn (fun h' hn' hs => ?_) hcls
    obtain ⟨oL, _, _, hoL, _⟩ := id hn
    refine h _ ⟨I.ok, I.os, I.bare, ⟨fun b o e n hb hx => ?_, fun b o e n hb hx => ?_, I.base.free, fun b o e hx => ?_, I.base.tups, I.base.frzs, I.base.tbls⟩, ⟨_, hn', fun j y v' e1 e2 e3 => ?_⟩, fun y c e => ?_, I.free, I.freeC, fun p hp => ?_, tracked ⟨oL, hoL, I.free⟩ hs, by simpa using I.len⟩ ⟨_, hs, .inl rfl⟩
    · exact (hs.2 b (Nat.ne_of_lt (Nat.lt_of_lt_of_le (Heap.lt_size e) I.ok.above))).trans (I.base.keep b o e n hb hx)
    · obtain ⟨sl, e1⟩ := I.base.slot b o e n hb hx
      exact ⟨sl, (hs.2 b (Nat.ne_of_lt (Nat.lt_of_lt_of_le (Heap.lt_size e) I.ok.above))).trans e1⟩
    · obtain ⟨o', e1⟩ := I.base.there b o e hx
      exact ⟨o', (hs.2 b (Nat.ne_of_lt (Nat.lt_of_lt_of_le (Heap.lt_size e) I.ok.above))).trans e1⟩
    · by_cases hj : j = i
      · subst hj
        rw [hi] at e1; cases e1
        rw [List.getElem?_set_self hiσ] at e2
        cases e2
        exact ⟨u, r, .inl ⟨hk, by simp⟩⟩
      · rw [List.getElem?_set_ne (Ne.symm hj)] at e2
        obtain ⟨u', r', q⟩ := hl j y v' e1 e2 e3
        refine ⟨u', r', ?_⟩
        rcases q with ⟨k, e⟩ | ⟨k, c, e, z⟩
        · refine .inl ⟨k, ?_⟩
          have : y ≠ x := fun e => hj (nodup_ix hN e1 (e ▸ hi))
          simp [this, e]
        · exact .inr ⟨k, c, e, z.sameBut hs (cne y c e)⟩
    · obtain ⟨w', z⟩ := I.cell y c e
      exact ⟨w', z.sameBut hs (cne y c e)⟩
    · obtain ⟨e, n, ne, nf, d⟩ := I.pin p hp
      exact ⟨(hs.2 p.1 ne).trans e, n, ne, nf, d⟩
  · have hfn : X.fn x = true := by
      rcases hf with z | z
      · exact z
      · rw [z] at hk; cases hk
    obtain ⟨c, hc⟩ := I.ok.has x (.inl hk)
    obtain ⟨w', z⟩ := I.cell x c hc
    refine wpAny_storeName_cell I.ok.kind hk hc z (fun h' hc' hs => ?_)
    obtain ⟨oc, hoc, hocd⟩ := id z
    refine h { s with heap := h' } ⟨I.ok, I.os, I.bare, ⟨fun b o e n hb hx => ?_, fun b o e n hb hx => ?_, I.base.free, fun b o e hx => ?_, I.base.tups, I.base.frzs, I.base.tbls⟩, ⟨m, hn.sameBut hs (Ne.symm (cne x c hc)), fun j y v' e1 e2 e3 => ?_⟩, fun y c' e => ?_, I.free, I.freeC, fun p hp => ?_, tracked ⟨oc, hoc, I.freeC x c hc⟩ hs, by simpa using I.len⟩ ⟨c, hs, .inr hc⟩
    · exact (hs.2 b (Nat.ne_of_lt (Nat.lt_of_lt_of_le (Heap.lt_size e) (I.ok.cab x c hfn hc)))).trans (I.base.keep b o e n hb hx)
    · obtain ⟨sl, e1⟩ := I.base.slot b o e n hb hx
      exact ⟨sl, (hs.2 b (Nat.ne_of_lt (Nat.lt_of_lt_of_le (Heap.lt_size e) (I.ok.cab x c hfn hc)))).trans e1⟩
    · obtain ⟨o', e1⟩ := I.base.there b o e hx
      exact ⟨o', (hs.2 b (Nat.ne_of_lt (Nat.lt_of_lt_of_le (Heap.lt_size e) (I.ok.cab x c hfn hc)))).trans e1⟩
    · by_cases hj : j = i
      · subst hj
        rw [hi] at e1; cases e1
        rw [List.getElem?_set_self hiσ] at e2
        cases e2
        exact ⟨u, r, .inr ⟨.inl hk, c, hc, hc'⟩⟩
      · rw [List.getElem?_set_ne (Ne.symm hj)] at e2
        obtain ⟨u', r', q⟩ := hl j y v' e1 e2 e3
        refine ⟨u', r', ?_⟩
        rcases q with q | ⟨k, c', e, z'⟩
        · exact .inl q
        · refine .inr ⟨k, c', e, z'.sameBut hs ?_⟩
          rintro rfl
          exact hj (nodup_ix hN e1 (I.ok.inj _ _ _ e hc ▸ hi))
    · by_cases hcc : c' = c
      · subst hcc; exact ⟨_, hc'⟩
      · obtain ⟨w2, z2⟩ := I.cell y c' e
        exact ⟨w2, z2.sameBut hs hcc⟩
    · obtain ⟨e, n, ne, nf, d⟩ := I.pin p hp
      refine ⟨(hs.2 p.1 ?_).trans e, n, ne, nf, d⟩
      intro q
      rw [q, hoc] at e
      have q' : oc = p.2 := Option.some.inj e
      exact d w' (by rw [← q']; exact hocd)
theorem store_ok {M : Model} {A : Around} {E : Value → Shared → Prop} {i : Nat} {x : Str} {v : V} {u : Value} {Q : Unit → Shared → Prop} (I : Inv X pins σ H s) (hN : X.N.Nodup) (hi : X.N[i]? = some x) (hx : Loc X.env.scope x) (r : RelV v u)
    (h : ∀ s', Inv X pins (σ.set i (some v)) H s' → Q () s') (hf : X.fn x = true ∨ X.env.scope.names.lookup x = some .local := by first | exact .inl rfl | exact .inr rfl | assumption) : wpAny M A (storeName X.env x u) Q E s :=
  store_ok2 I hN hi hx r (fun s' I' _ => h s' I') hf
/-- behind a call or a block, the state as it is -/
theorem Inv.call' {s' : Shared} {ch : List Addr} (I : Inv X pins σ H s) (ho : s'.os = s.os) (u : Un (frs X.stack) ch H H' s.heap s'.heap) (hok : HOk X.prog X.w H' s'.heap) (hg : AllBare s'.gens)
    (hch : ∀ b ∈ ch, (b ∈ X.ex ∨ X.s₀.heap.objs.size ≤ b) ∧ b ≠ X.env.locals ∧ (∀ x c, X.env.cells.lookup x = some c → c ≠ b) ∧ ∀ p ∈ X.pn ++ pins, p.1 ≠ b) : Inv X pins σ H' s' := by
  obtain ⟨h', g', d', t', o'⟩ := s'
  have e : o' = s.os := ho
  subst e
  exact I.call (g' := g') (t' := t') (d' := d') u hok hg hch
end

/-! ### the judgements -/
/-- an exception: its class, its own dict's address (where it has one), the abstract heap behind it -/
abbrev XK := Value → Option Addr → Hp → Prop
abbrev St := List (Option V)
abbrev VK := V → Hp → Prop
/-- an expression's reading; a test's; an argument list's -/
abbrev TE := St → Hp → VK → Prop
abbrev TT := St → Hp → (Bool → Hp → Prop) → Prop
abbrev TA := St → Hp → (List V → Hp → Prop) → Prop
/-- what is wanted behind a statement -/
structure Ends where
  nx : St → Hp → Prop
  rt : VK
  bk : St → Hp → Prop := fun _ _ => False
  ct : St → Hp → Prop := fun _ _ => False
abbrev TS := Ends → St → Hp → Prop

def EP (X : Cx) (pins : List (Addr × Obj)) (σ : St) (Q : VK) (u : Value) (s' : Shared) : Prop := ∃ v H', Inv X pins σ H' s' ∧ RelV v u ∧ Q v H'
def TP (X : Cx) (pins : List (Addr × Obj)) (σ : St) (Q : Bool → Hp → Prop) (b : Bool) (s' : Shared) : Prop := ∃ H', Inv X pins σ H' s' ∧ Q b H'
def AP (X : Cx) (pins : List (Addr × Obj)) (σ : St) (Q : List V → Hp → Prop) (us : List Value) (s' : Shared) : Prop := ∃ vs H', Inv X pins σ H' s' ∧ Vals vs us ∧ Q vs H'
def SP (X : Cx) (pins : List (Addr × Obj)) (D : Ends) (f : Flow) (s' : Shared) : Prop :=
  match f with
  | .next => ∃ σ' H', Inv X pins σ' H' s' ∧ D.nx σ' H'
  | .brk => ∃ σ' H', Inv X pins σ' H' s' ∧ D.bk σ' H'
  | .cont => ∃ σ' H', Inv X pins σ' H' s' ∧ D.ct σ' H'
  | .ret u => ∃ v σ' H', Inv X pins σ' H' s' ∧ RelV v u ∧ D.rt v H'

def PE (X : Cx) (e : Expr) (t : TE) : Prop :=
  ∀ (pins : List (Addr × Obj)) (s : Shared) (σ : St) (H : Hp) (Q : VK), Inv X pins σ H s → t σ H Q → wpAny (model X.prog X.w) X.A (eval e X.env) (EP X pins σ Q) X.xe s
def PT (X : Cx) (e : Expr) (t : TT) : Prop :=
  ∀ (pins : List (Addr × Obj)) (s : Shared) (σ : St) (H : Hp) (Q : Bool → Hp → Prop), Inv X pins σ H s → t σ H Q → wpAny (model X.prog X.w) X.A (isTrue e X.env (eval e X.env)) (TP X pins σ Q) X.xe s
/-- a test whatever its 'whole' is (and, or) -/
def PW (X : Cx) (e : Expr) (t : TT) : Prop :=
  ∀ (whole : Sem Value) (pins : List (Addr × Obj)) (s : Shared) (σ : St) (H : Hp) (Q : Bool → Hp → Prop), Inv X pins σ H s → t σ H Q → wpAny (model X.prog X.w) X.A (isTrue e X.env whole) (TP X pins σ Q) X.xe s
theorem PW.pt {X : Cx} {e : Expr} {t : TT} (h : PW X e t) : PT X e t := h _
/-- an argument list (no star), from the left -/
def PA (X : Cx) (es : List Expr) (t : TA) : Prop :=
  ∀ (pos : Pos) (pins : List (Addr × Obj)) (s : Shared) (σ : St) (H : Hp) (Q : List V → Hp → Prop), Inv X pins σ H s → t σ H Q → wpAny (model X.prog X.w) X.A (spliced (backTo pos (starEach es X.env))) (AP X pins σ Q) X.xe s
def PS (X : Cx) (st : Stmt) (t : TS) : Prop :=
  ∀ (pins : List (Addr × Obj)) (s : Shared) (σ : St) (H : Hp) (D : Ends), Inv X pins σ H s → t D σ H → wpAny (model X.prog X.w) X.A (exec st X.env) (SP X pins D) X.xe s
def PSs (X : Cx) (st : List Stmt) (t : TS) : Prop :=
  ∀ (pins : List (Addr × Obj)) (s : Shared) (σ : St) (H : Hp) (D : Ends), Inv X pins σ H s → t D σ H → wpAny (model X.prog X.w) X.A (execs st X.env) (SP X pins D) X.xe s
/-- weaken the end -/
theorem thn {α : Type} {t : Sem α} {Q Q' : α → Shared → Prop} {M : Model} {A : Around} {E : Value → Shared → Prop} {s : Shared} (h : wpAny M A t Q E s) (hQ : ∀ a s, Q a s → Q' a s) : wpAny M A t Q' E s := wpAny_mono h hQ fun _ _ x => x
end L2

namespace L2
open PySem PySem.Spec PyProof.Rows
section
variable {X : Cx}

/-- two expressions in a row -/
theorem bin {a b : Expr} {ta tb : TE} (ha : PE X a ta) (hb : PE X b tb) {pins : List (Addr × Obj)} {s : Shared} {σ : St} {H : Hp} {R : V → V → Hp → Prop} (I : Inv X pins σ H s) (h : ta σ H fun x H1 => tb σ H1 fun y H2 => R x y H2)
    {α : Type} {Q : α → Shared → Prop} {f : Value → Value → Sem α}
    (hf : ∀ v u s2 x y H2, Inv X pins σ H2 s2 → RelV x v → RelV y u → R x y H2 → wpAny (model X.prog X.w) X.A (f v u) Q X.xe s2) :
    wpAny (model X.prog X.w) X.A (eval a X.env) (fun v s₁ => wpAny (model X.prog X.w) X.A (eval b X.env) (fun u s₂ => wpAny (model X.prog X.w) X.A (f v u) Q X.xe s₂) X.xe s₁) X.xe s := by
  refine thn (ha pins s σ H _ I h) fun v s1 ⟨x, H1, I1, r1, q1⟩ => ?_
  refine thn (hb pins s1 σ H1 _ I1 q1) fun u s2 ⟨y, H2, I2, r2, q2⟩ => ?_
  exact hf v u s2 x y H2 I2 r1 r2 q2

/-! ### names and constants -/
def tVar (i : Nat) : TE := fun σ H Q => ∃ v, σ[i]? = some (some v) ∧ Q v H
def tC (v : V) : TE := fun _ H Q => Q v H
theorem pe_var {i : Nat} {x : Str} {pos : Pos} (hN : X.N[i]? = some x) (hv : Vis X.env.scope x) (hd : (x == ("__debug__" : Str)) = false := by decide) (hcd : (x == ("__classdict__" : Str)) = false := by decide) : PE X (.Name x pos) (tVar i) := by
  intro pins s σ H Q I h
  obtain ⟨v, e, h⟩ := h
  obtain ⟨m, hn, hl⟩ := I.loc
  obtain ⟨u, r, l⟩ := hl i x v hN e hv
  have fin : EP X pins σ Q u s := ⟨v, H, I, r, h⟩
  rcases l with ⟨hk, hm⟩ | ⟨hk, c, hc, hcell⟩
  · exact wpAny_Name (wpAny_loadName_local I.ok.kind hk hn hm fin) hd
  · rcases hk with hk | hk
    · exact wpAny_Name (wpAny_loadName_cell I.ok.kind hk hc hcell fin) hd
    · exact wpAny_Name (wpAny_loadName_free I.ok.kind hk hc hcell fin hcd) hd
theorem pe_int {i j pos} : PE X (.Constant (.int i) j pos) (tC (.int i)) := fun _ _ _ H _ I h => wpAny_Constant_int ⟨.int i, H, I.tok _, ⟨_, rfl⟩, h⟩
theorem pe_bl {b j pos} : PE X (.Constant (.bool b) j pos) (tC (.bl b)) := fun _ _ _ H _ I h => Constant_bool ⟨.bl b, H, I, rfl, h⟩
theorem pe_non {j pos} : PE X (.Constant .none j pos) (tC .non) := fun _ _ _ H _ I h => Constant_none ⟨.non, H, I, rfl, h⟩
theorem pe_str {x j pos} : PE X (.Constant (.str x) j pos) (tC (.str x)) := fun _ _ _ H _ I h => Calls.Constant_str ⟨.str x, H, I.tok _, ⟨_, rfl⟩, h⟩

/-- a global name of the def -/
def Gl (X : Cx) (x : Str) : Prop := X.env.kindOf x = some .globalImplicit
theorem ld_glob {E : Value → Shared → Prop} {pins : List (Addr × Obj)} {s : Shared} {σ : St} {H : Hp} {x : Str} {u : Value} {pos : Pos} {Q : Value → Shared → Prop} (I : Inv X pins σ H s) (hg : Gl X x) (hm : X.mg x = some u) (h : Q u s)
    (hd : (x == ("__debug__" : Str)) = false := by decide) : wpAny (model X.prog X.w) X.A (eval (.Name x pos) X.env) Q E s :=
  Calls.Name_function_global I.ok.kind hg (Calls.loadGlobal_global (by rw [I.ok.glob]; exact I.mod.glob.keeps I.bk) hm h) hd
theorem ld_blt {E : Value → Shared → Prop} {pins : List (Addr × Obj)} {s : Shared} {σ : St} {H : Hp} {x : Str} {u : Value} {pos : Pos} {Q : Value → Shared → Prop} (I : Inv X pins σ H s) (hg : Gl X x) (hm : X.mg x = none) (hv : bootBuiltins x = some u) (h : Q u s)
    (hn : x ≠ "__name__" := by decide) (hd : (x == ("__debug__" : Str)) = false := by decide) : wpAny (model X.prog X.w) X.A (eval (.Name x pos) X.env) Q E s := by
  obtain ⟨mb, h1, h2⟩ := I.mod.blt
  exact Calls.Name_function_global I.ok.kind hg (Calls.loadGlobal_builtin (by rw [I.ok.glob]; exact I.mod.glob.keeps I.bk) hm (by rw [I.ok.blt]; exact h1.keeps I.bk) ((h2 x hn).trans hv) h) hd
/-- a module's constant, a class, a function, as a value -/
theorem pe_glob {x : Str} {v : V} {u : Value} {pos : Pos} (hg : Gl X x) (hm : X.mg x = some u) (r : RelV v u) (hd : (x == ("__debug__" : Str)) = false := by decide) : PE X (.Name x pos) (tC v) :=
  fun _ _ _ H _ I h => ld_glob I hg hm ⟨v, H, I, r, h⟩ hd
theorem pe_bltn {x : Str} {v : V} {u : Value} {pos : Pos} (hg : Gl X x) (hm : X.mg x = none) (hv : bootBuiltins x = some u) (r : RelV v u) (hn : x ≠ "__name__" := by decide) (hd : (x == ("__debug__" : Str)) = false := by decide) : PE X (.Name x pos) (tC v) :=
  fun _ _ _ H _ I h => ld_blt I hg hm hv ⟨v, H, I, r, h⟩ hn hd

/-! ### arithmetic -/
/-- two ints -/
def t2I (ta tb : TE) (k : Int → Int → Hp → Prop) : St → Hp → Prop := fun σ H => ta σ H fun x H1 => tb σ H1 fun y H2 => ∃ i j, x = .int i ∧ y = .int j ∧ k i j H2
def tAdd (ta tb : TE) : TE := fun σ H Q => t2I ta tb (fun i j H2 => Q (.int (i + j)) H2) σ H
def tSub (ta tb : TE) : TE := fun σ H Q => t2I ta tb (fun i j H2 => Q (.int (i - j)) H2) σ H
/-- the left factor below 2^64 -/
def tMul (ta tb : TE) : TE := fun σ H Q => t2I ta tb (fun i j H2 => (-(2 ^ 64) < i ∧ i < 2 ^ 64) ∧ Q (.int (i * j)) H2) σ H
variable {a b : Expr} {ta tb : TE} {pos : Pos}
theorem pe_add (ha : PE X a ta) (hb : PE X b tb) : PE X (.BinOp a .Add b pos) (tAdd ta tb) := by
  intro pins s σ H Q I h
  refine wpAny_BinOp (bin ha hb I h fun v u s2 x y H2 I2 rx ry q => ?_)
  obtain ⟨i, j, rfl, rfl, q⟩ := q
  obtain ⟨t, rfl⟩ := rx
  obtain ⟨t', rfl⟩ := ry
  exact add_int ⟨.int _, H2, I2.tok _, ⟨_, rfl⟩, q⟩
theorem pe_sub (ha : PE X a ta) (hb : PE X b tb) : PE X (.BinOp a .Sub b pos) (tSub ta tb) := by
  intro pins s σ H Q I h
  refine wpAny_BinOp (bin ha hb I h fun v u s2 x y H2 I2 rx ry q => ?_)
  obtain ⟨i, j, rfl, rfl, q⟩ := q
  obtain ⟨t, rfl⟩ := rx
  obtain ⟨t', rfl⟩ := ry
  exact sub_int ⟨.int _, H2, I2.tok _, ⟨_, rfl⟩, q⟩
theorem pe_mul (ha : PE X a ta) (hb : PE X b tb) : PE X (.BinOp a .Mult b pos) (tMul ta tb) := by
  intro pins s σ H Q I h
  refine wpAny_BinOp (bin ha hb I h fun v u s2 x y H2 I2 rx ry q => ?_)
  obtain ⟨i, j, rfl, rfl, ⟨q1, q2⟩, q⟩ := q
  obtain ⟨t, rfl⟩ := rx
  obtain ⟨t', rfl⟩ := ry
  exact mul_int ⟨.int _, H2, I2.tok _, ⟨_, rfl⟩, q⟩ (.of_left (intBits_le_64 q1 q2))

/-! ### comparisons -/
def PC (X : Cx) (op : CmpOp) (a b : Expr) (t : TE) : Prop :=
  ∀ (pins : List (Addr × Obj)) (s : Shared) (σ : St) (H : Hp) (Q : VK), Inv X pins σ H s → t σ H Q →
    wpAny (model X.prog X.w) X.A (eval a X.env) (fun v s₁ => wpAny (model X.prog X.w) X.A (eval b X.env) (fun u s₂ => wpAny (model X.prog X.w) X.A (compareOp op v u) (EP X pins σ Q) X.xe s₂) X.xe s₁) X.xe s
theorem nobehind (b : Expr) {op : CmpOp} (h : op ≠ .In) (h2 : op ≠ .NotIn) : behindInMarks op b = false := by
  have e1 : (op == CmpOp.In) = false := by cases op <;> first | rfl | exact absurd rfl h
  have e2 : (op == CmpOp.NotIn) = false := by cases op <;> first | rfl | exact absurd rfl h2
  cases b <;> simp [behindInMarks, e1, e2]
def tCmp (p : Int → Int → Bool) (ta tb : TE) : TE := fun σ H Q => t2I ta tb (fun i j H2 => Q (.bl (p i j)) H2) σ H
abbrev tLt : TE → TE → TE := tCmp fun i j => decide (i < j)
abbrev tLe : TE → TE → TE := tCmp fun i j => decide (i ≤ j)
abbrev tGt : TE → TE → TE := tCmp fun i j => decide (j < i)
abbrev tGe : TE → TE → TE := tCmp fun i j => decide (j ≤ i)
abbrev tEqI : TE → TE → TE := tCmp fun i j => decide (i = j)
abbrev tNeI : TE → TE → TE := tCmp fun i j => !decide (i = j)
/-- a comparison of two ints, by its rule -/
theorem pc_int {op : CmpOp} {p : Int → Int → Bool} (ha : PE X a ta) (hb : PE X b tb)
    (rule : ∀ (i j : Int) (t u : Tok) (Q : Value → Shared → Prop) (s : Shared), Q (.bool (p i j)) s → wpAny (model X.prog X.w) X.A (compareOp op (.int i t) (.int j u)) Q X.xe s) : PC X op a b (tCmp p ta tb) := by
  intro pins s σ H Q I h
  refine bin ha hb I h fun v u s2 x y H2 I2 rx ry q => ?_
  obtain ⟨i, j, rfl, rfl, q⟩ := q
  obtain ⟨t, rfl⟩ := rx
  obtain ⟨t', rfl⟩ := ry
  exact rule i j t t' _ s2 ⟨.bl _, H2, I2, rfl, q⟩
theorem pc_lt (ha : PE X a ta) (hb : PE X b tb) : PC X .Lt a b (tLt ta tb) := pc_int ha hb fun _ _ _ _ _ _ h => lt_int h
theorem pc_le (ha : PE X a ta) (hb : PE X b tb) : PC X .LtE a b (tLe ta tb) := pc_int ha hb fun _ _ _ _ _ _ h => le_int h
theorem pc_gt (ha : PE X a ta) (hb : PE X b tb) : PC X .Gt a b (tGt ta tb) := pc_int ha hb fun _ _ _ _ _ _ h => gt_int h
theorem pc_ge (ha : PE X a ta) (hb : PE X b tb) : PC X .GtE a b (tGe ta tb) := pc_int ha hb fun _ _ _ _ _ _ h => ge_int h
theorem pc_eqI (ha : PE X a ta) (hb : PE X b tb) : PC X .Eq a b (tEqI ta tb) := pc_int ha hb fun _ _ _ _ _ _ h => eq_int (by rw [Bool.beq_eq_decide_eq]; exact h)
theorem pc_neI (ha : PE X a ta) (hb : PE X b tb) : PC X .NotEq a b (tNeI ta tb) := pc_int ha hb fun _ _ _ _ _ _ h => ne_int (by rw [bne, Bool.beq_eq_decide_eq]; exact h)
/-- is None -/
def tIsN (ta : TE) : TE := fun σ H Q => ta σ H fun x H1 => Q (.bl (decide (x = .non))) H1
def tNotN (ta : TE) : TE := fun σ H Q => ta σ H fun x H1 => Q (.bl (!decide (x = .non))) H1
theorem RelV.none_iff {x : V} {v : Value} (r : RelV x v) : (v == Value.none) = decide (x = .non) := by
  cases x with
  | non => cases r; rfl
  | bl _ => cases r; rfl
  | int _ => obtain ⟨t, rfl⟩ := r; rfl
  | str _ => obtain ⟨t, rfl⟩ := r; rfl
  | byt _ => obtain ⟨t, rfl⟩ := r; rfl
  | flt _ => obtain ⟨t, rfl⟩ := r; rfl
  | ref _ => cases r; rfl
  | ty _ => cases r; rfl
theorem pc_isN {j pos'} (ha : PE X a ta) : PC X .Is a (.Constant .none j pos') (tIsN ta) := by
  intro pins s σ H Q I h
  refine thn (ha pins s σ H _ I h) fun v s1 ⟨x, H1, I1, r1, q1⟩ => ?_
  exact Constant_none (is_none_gen ⟨.bl _, H1, I1, by rw [r1.none_iff]; rfl, q1⟩)
theorem pc_notN {j pos'} (ha : PE X a ta) : PC X .IsNot a (.Constant .none j pos') (tNotN ta) := by
  intro pins s σ H Q I h
  refine thn (ha pins s σ H _ I h) fun v s1 ⟨x, H1, I1, r1, q1⟩ => ?_
  exact Constant_none (isnot_none_gen ⟨.bl _, H1, I1, by rw [r1.none_iff]; rfl, q1⟩)
/-- a comparison as a value, as a test -/
def tB (t : TE) : TT := fun σ H Q => t σ H fun x H1 => ∃ c, x = .bl c ∧ Q c H1
theorem pe_cmp {op : CmpOp} {t : TE} (h : PC X op a b t) (h1 : behindInMarks op b = false := by first | exact nobehind _ (by decide) (by decide) | rfl) : PE X (.Compare a [op] [b] pos) t := fun pins s σ H Q I hw => wpAny_Compare1 (h pins s σ H Q I hw) h1
theorem pt_cmp {op : CmpOp} {t : TE} (h : PC X op a b t) (h1 : behindInMarks op b = false := by first | exact nobehind _ (by decide) (by decide) | rfl) : PT X (.Compare a [op] [b] pos) (tB t) := by
  intro pins s σ H Q I hw
  refine wpAny_isTrue_Compare1 (thn (h pins s σ H _ I hw) fun v s1 h1 => thn h1 fun u s2 h2 => thn h2 fun c s3 ⟨x, H1, I1, r1, q1⟩ => ?_) h1
  obtain ⟨d, rfl, q⟩ := q1
  cases r1
  exact wpAny_truthy_bool ⟨H1, I1, q⟩
/-- an expression whose value is a bool, as a test -/
theorem pt_val {e : Expr} {t : TE} (h : PE X e t) (he : ∀ whole, isTrue e X.env whole = (do let v ← whole; standAt e.pos; holding [v] (truthy v)) := by intro _; rfl) : PT X e (tB t) := by
  intro pins s σ H Q I hw
  refine isTrue_plain (thn (h pins s σ H _ I hw) fun v s1 ⟨x, H1, I1, r1, q1⟩ => ?_) (he _)
  obtain ⟨d, rfl, q⟩ := q1
  cases r1
  exact wpAny_truthy_bool ⟨H1, I1, q⟩

/-! ### and, or, not -/
variable {tA tB' : TT} {rest : List Expr}
def tAnd (t u : TT) : TT := fun σ H Q => t σ H fun c H1 => if c = true then u σ H1 Q else Q false H1
def tOr (t u : TT) : TT := fun σ H Q => t σ H fun c H1 => if c = true then Q true H1 else u σ H1 Q
def tNot (t : TT) : TT := fun σ H Q => t σ H fun c H1 => Q (!c) H1
theorem pw_and1 (ha : PT X a tA) : PW X (.BoolOp .And [a] pos) tA := by
  intro wh pins s σ H Q I h
  refine isTrue_and (thn (ha pins s σ H Q I h) fun c s1 e => ?_)
  cases c with
  | true => exact isTrue_and_nil e
  | false => exact e
theorem pw_or1 (ha : PT X a tA) : PW X (.BoolOp .Or [a] pos) tA := by
  intro wh pins s σ H Q I h
  refine isTrue_or (thn (ha pins s σ H Q I h) fun c s1 e => ?_)
  cases c with
  | false => exact isTrue_or_nil e
  | true => exact e
theorem pw_and (ha : PT X a tA) (hb : PW X (.BoolOp .And (b :: rest) pos) tB') : PW X (.BoolOp .And (a :: b :: rest) pos) (tAnd tA tB') := by
  intro wh pins s σ H Q I h
  refine isTrue_and (thn (ha pins s σ H _ I h) fun c s1 ⟨H1, I1, q1⟩ => ?_)
  cases c with
  | true => exact hb wh pins s1 σ H1 Q I1 q1
  | false => exact ⟨H1, I1, q1⟩
theorem pw_or (ha : PT X a tA) (hb : PW X (.BoolOp .Or (b :: rest) pos) tB') : PW X (.BoolOp .Or (a :: b :: rest) pos) (tOr tA tB') := by
  intro wh pins s σ H Q I h
  refine isTrue_or (thn (ha pins s σ H _ I h) fun c s1 ⟨H1, I1, q1⟩ => ?_)
  cases c with
  | true => exact ⟨H1, I1, q1⟩
  | false => exact hb wh pins s1 σ H1 Q I1 q1
theorem pt_not (ha : PT X a tA) : PT X (.UnaryOp .Not a pos) (tNot tA) := by
  intro pins s σ H Q I h
  exact isTrue_not (ha pins s σ H (fun c H1 => Q (!c) H1) I h)
/-- .. as values (bools) -/
def tAndV (ta tb : TE) : TE := fun σ H Q => ta σ H fun x H1 => ∃ c, x = .bl c ∧ if c = true then tb σ H1 Q else Q (.bl false) H1
def tOrV (ta tb : TE) : TE := fun σ H Q => ta σ H fun x H1 => ∃ c, x = .bl c ∧ if c = true then Q (.bl true) H1 else tb σ H1 Q
def tNotV (ta : TE) : TE := fun σ H Q => ta σ H fun x H1 => ∃ c, x = .bl c ∧ Q (.bl (!c)) H1
theorem pe_one {op} {t : TE} (h : PE X a t) : PE X (.BoolOp op [a] pos) t := fun pins s σ H Q I hw => BoolOp_one (h pins s σ H Q I hw)
theorem pe_and (ha : PE X a ta) (hb : PE X (.BoolOp .And (b :: rest) pos) tb) : PE X (.BoolOp .And (a :: b :: rest) pos) (tAndV ta tb) := by
  intro pins s σ H Q I h
  refine BoolOp_and (thn (ha pins s σ H _ I h) fun v s1 ⟨x, H1, I1, r1, q1⟩ => ?_)
  obtain ⟨c, rfl, q1⟩ := q1
  cases r1
  refine wpAny_truthy_bool ?_
  cases c with
  | true => exact hb pins s1 σ H1 Q I1 q1
  | false => exact ⟨.bl false, H1, I1, rfl, q1⟩
theorem pe_or (ha : PE X a ta) (hb : PE X (.BoolOp .Or (b :: rest) pos) tb) : PE X (.BoolOp .Or (a :: b :: rest) pos) (tOrV ta tb) := by
  intro pins s σ H Q I h
  refine BoolOp_or (thn (ha pins s σ H _ I h) fun v s1 ⟨x, H1, I1, r1, q1⟩ => ?_)
  obtain ⟨c, rfl, q1⟩ := q1
  cases r1
  refine wpAny_truthy_bool ?_
  cases c with
  | false => exact hb pins s1 σ H1 Q I1 q1
  | true => exact ⟨.bl true, H1, I1, rfl, q1⟩
theorem pe_not (ha : PE X a ta) : PE X (.UnaryOp .Not a pos) (tNotV ta) := by
  intro pins s σ H Q I h
  refine UnaryOp_ (thn (ha pins s σ H _ I h) fun v s1 ⟨x, H1, I1, r1, q1⟩ => ?_)
  obtain ⟨c, rfl, q1⟩ := q1
  cases r1
  exact not_of (wpAny_truthy_bool ⟨.bl (!c), H1, I1, rfl, q1⟩)
/-- a if t else b -/
def tIf (t : TT) (ta tb : TE) : TE := fun σ H Q => t σ H fun c H1 => if c = true then ta σ H1 Q else tb σ H1 Q
theorem pe_ifExp {c : Expr} (hc : PT X c tA) (ha : PE X a ta) (hb : PE X b tb) : PE X (.IfExp c a b pos) (tIf tA ta tb) := by
  intro pins s σ H Q I h
  refine wpAny_IfExp (thn (hc pins s σ H _ I h) fun d s1 ⟨H1, I1, q1⟩ => ?_)
  cases d with
  | true => exact ha pins s1 σ H1 Q I1 q1
  | false => exact hb pins s1 σ H1 Q I1 q1
end
end L2

namespace L2
open PySem PySem.Spec PyProof.Rows

/-! ### a list, a tuple that is read: tracked, frozen, or an object of the module -/
def SqL (K : PySem.W.Frag) (H : Hp) (a : Addr) (xs : List V) : Prop :=
  Rd H a (.lst xs) ∨
    ∃ (o : Obj) (its : Array Value) (n : Nat), K.lookup a = some o ∧ o.cls = .type "list" ∧ o.dict = none ∧ o.data = .seq its n ∧ its.size ≤ sizeLine ∧ Vals xs its.toList
def SqT (K : PySem.W.Frag) (H : Hp) (a : Addr) (xs : List V) : Prop :=
  Rd H a (.tup xs) ∨
    ∃ (o : Obj) (its : Array Value) (n : Nat), K.lookup a = some o ∧ o.cls = .type "tuple" ∧ o.data = .seq its n ∧ its.size ≤ sizeLine ∧ Vals xs its.toList
def absV : Value → Option V
  | .none => some .non
  | .bool b => some (.bl b)
  | .int i _ => some (.int i)
  | .str x _ => some (.str x)
  | .bytes b _ => some (.byt b)
  | .float b _ => some (.flt b)
  | .ref a => some (.ref a)
  | .type n => some (.ty n)
  | _ => none
theorem RelV.abs {x : V} {u : Value} (r : RelV x u) : absV u = some x := by
  cases x with
  | non => cases r; rfl
  | bl _ => cases r; rfl
  | int _ => obtain ⟨t, rfl⟩ := r; rfl
  | str _ => obtain ⟨t, rfl⟩ := r; rfl
  | byt _ => obtain ⟨t, rfl⟩ := r; rfl
  | flt _ => obtain ⟨t, rfl⟩ := r; rfl
  | ref _ => cases r; rfl
  | ty _ => cases r; rfl
theorem RelV.inj {x y : V} {u : Value} (r : RelV x u) (q : RelV y u) : x = y := Option.some.inj (r.abs.symm.trans q.abs)
theorem Vals.inj : ∀ {xs ys : List V} {us : List Value}, Vals xs us → Vals ys us → xs = ys
  | _, _, _, .nil, .nil => rfl
  | _, _, _, .cons r t, .cons r' t' => by rw [r.inj r', Vals.inj t t']
section
variable {X : Cx} {pins : List (Addr × Obj)} {σ : St} {H : Hp} {s : Shared} {a : Addr} {xs ys : List V}
theorem SqL.of {K : PySem.W.Frag} (h : H a = some (.lst xs)) : SqL K H a xs := .inl (.inl h)
theorem SqT.of {K : PySem.W.Frag} (h : H a = some (.tup xs)) : SqT K H a xs := .inl (.inl h)
theorem Inv.list (I : Inv X pins σ H s) (h : SqL X.K H a xs) : ∃ its : List Value, Vals xs its ∧ PlainL s.heap a its.toArray ∧ xs.length ≤ sizeLine := by
  rcases h with h | ⟨o, its, n, hk, hc, hd, hs, hz, r⟩
  · obtain ⟨z, its, n, r, e⟩ := h.ok I.hok
    exact ⟨its, r, ⟨_, n, e, rfl, rfl, rfl⟩, z⟩
  · refine ⟨its.toList, r, ⟨o, n, I.kIn a o hk, hc, hd, by simpa using hs⟩, ?_⟩
    have e := r.length
    simp only [Array.length_toList] at e
    omega
theorem Inv.tuple (I : Inv X pins σ H s) (h : SqT X.K H a xs) : ∃ its : List Value, Vals xs its ∧ IsTup s.heap a its.toArray ∧ xs.length ≤ sizeLine := by
  rcases h with h | ⟨o, its, n, hk, hc, hs, hz, r⟩
  · obtain ⟨z, its, r, p⟩ := h.ok I.hok
    exact ⟨its, r, p, z⟩
  · refine ⟨its.toList, r, ⟨o, I.kIn a o hk, hc, n, by simpa using hs⟩, ?_⟩
    have e := r.length
    simp only [Array.length_toList] at e
    omega
theorem Inv.list_inj (I : Inv X pins σ H s) (h : SqL X.K H a xs) (h' : SqL X.K H a ys) : xs = ys := by
  obtain ⟨its, r, ⟨o, n, e, _, _, d⟩, _⟩ := I.list h
  obtain ⟨its', r', ⟨o', n', e', _, _, d'⟩, _⟩ := I.list h'
  rw [e] at e'; cases e'
  rw [d] at d'
  injection d' with d1 _
  have : its = its' := by simpa using congrArg Array.toList d1
  subst this
  exact r.inj r'
theorem Inv.tuple_inj (I : Inv X pins σ H s) (h : SqT X.K H a xs) (h' : SqT X.K H a ys) : xs = ys := by
  obtain ⟨its, r, ⟨o, e, _, n, d⟩, _⟩ := I.tuple h
  obtain ⟨its', r', ⟨o', e', _, n', d'⟩, _⟩ := I.tuple h'
  rw [e] at e'; cases e'
  rw [d] at d'
  injection d' with d1 _
  have : its = its' := by simpa using congrArg Array.toList d1
  subst this
  exact r.inj r'
end

/-! ### another wish about exceptions -/
abbrev Cx.wish (X : Cx) (E : Value → Shared → Prop) : Cx := { X with xe := E }
/-- no exception leaves -/
abbrev Cx.nox (X : Cx) : Cx := X.wish fun _ _ => False
theorem Cx.Ok.wish {X : Cx} (ok : X.Ok) (E : Value → Shared → Prop) : (X.wish E).Ok :=
  ⟨ok.mod, ok.kind, ok.glob, ok.blt, ok.above, ok.inj, ok.has, ok.cab, ok.hd, ok.frames, ok.stk, ok.exf, ok.bs, ok.bsz, ok.noex, ok.exfs, ok.funs, ok.frf⟩
theorem Cx.Ok.unwish {X : Cx} {E : Value → Shared → Prop} (ok : (X.wish E).Ok) : X.Ok :=
  ⟨ok.mod, ok.kind, ok.glob, ok.blt, ok.above, ok.inj, ok.has, ok.cab, ok.hd, ok.frames, ok.stk, ok.exf, ok.bs, ok.bsz, ok.noex, ok.exfs, ok.funs, ok.frf⟩
section
variable {X : Cx} {pins : List (Addr × Obj)} {σ : St} {H : Hp} {s : Shared} {E : Value → Shared → Prop}
theorem Inv.wish (I : Inv X pins σ H s) (E : Value → Shared → Prop) : Inv (X.wish E) pins σ H s := ⟨I.ok.wish E, I.os, I.bare, I.base, I.loc, I.cell, I.free, I.freeC, I.pin, I.hok, I.len⟩
theorem Inv.unwish (I : Inv (X.wish E) pins σ H s) : Inv X pins σ H s := ⟨I.ok.unwish, I.os, I.bare, I.base, I.loc, I.cell, I.free, I.freeC, I.pin, I.hok, I.len⟩
theorem SP.unwish {D : Ends} {f : Flow} {s' : Shared} (h : SP (X.wish E) pins D f s') : SP X pins D f s' := by
  cases f with
  | next => obtain ⟨σ', H', I, q⟩ := h; exact ⟨σ', H', I.unwish, q⟩
  | brk => obtain ⟨σ', H', I, q⟩ := h; exact ⟨σ', H', I.unwish, q⟩
  | cont => obtain ⟨σ', H', I, q⟩ := h; exact ⟨σ', H', I.unwish, q⟩
  | ret u => obtain ⟨v, σ', H', I, r, q⟩ := h; exact ⟨v, σ', H', I.unwish, r, q⟩
theorem PE.nox {e : Expr} {t : TE} (h : PE X.nox e t) : PE X e t := fun pins s σ H Q I hw =>
  wpAny_mono (h pins s σ H Q (I.wish _) hw) (fun _ _ ⟨v, H', I', r, q⟩ => ⟨v, H', I'.unwish, r, q⟩) fun _ _ z => False.elim z
theorem PT.nox {e : Expr} {t : TT} (h : PT X.nox e t) : PT X e t := fun pins s σ H Q I hw =>
  wpAny_mono (h pins s σ H Q (I.wish _) hw) (fun _ _ ⟨H', I', q⟩ => ⟨H', I'.unwish, q⟩) fun _ _ z => False.elim z
theorem PSs.nox {st : List Stmt} {t : TS} (h : PSs X.nox st t) : PSs X st t := fun pins s σ H D I hw =>
  wpAny_mono (h pins s σ H D (I.wish _) hw) (fun _ _ q => q.unwish) fun _ _ z => False.elim z
end

/-! ### blocks and small statements -/
section
variable {X : Cx} {st : Stmt} {rest : List Stmt} {t u : TS} {e : Expr} {te : TE} {pos : Pos}
def tNext : TS := fun D σ H => D.nx σ H
def tSeq (t u : TS) : TS := fun D σ H => t { D with nx := u D } σ H
theorem pss_nil : PSs X [] tNext := fun _ _ σ H _ I h => wpAny_execs_nil ⟨σ, H, I, h⟩
theorem pss_cons (h1 : PS X st t) (h2 : PSs X rest u) : PSs X (st :: rest) (tSeq t u) := by
  intro pins s σ H D I h
  refine wpAny_execs_cons (thn (h1 pins s σ H { D with nx := u D } I h) fun f s1 q => ?_)
  cases f with
  | next =>
    obtain ⟨σ', H', I', q⟩ := q
    exact h2 pins s1 σ' H' D I' q
  | ret v => exact q
  | brk => exact q
  | cont => exact q
theorem pss_one (h1 : PS X st t) : PSs X [st] t := by
  intro pins s σ H D I h
  refine wpAny_execs_cons (thn (h1 pins s σ H D I h) fun f s1 q => ?_)
  cases f with
  | next => exact wpAny_execs_nil q
  | ret v => exact q
  | brk => exact q
  | cont => exact q
def tBreak : TS := fun D σ H => D.bk σ H
def tCont : TS := fun D σ H => D.ct σ H
theorem ps_pass : PS X (.Pass pos) tNext := fun _ _ σ H _ I h => wpAny_Pass ⟨σ, H, I, h⟩
theorem ps_break : PS X (.Break pos) tBreak := fun _ _ σ H _ I h => wpAny_Break ⟨σ, H, I, h⟩
theorem ps_continue : PS X (.Continue pos) tCont := fun _ _ σ H _ I h => wpAny_Continue ⟨σ, H, I, h⟩
/-- in a def's body nothing is shown -/
theorem Inv.quiet {pins : List (Addr × Obj)} {σ : St} {H : Hp} {s : Shared} (I : Inv X pins σ H s) : interactive X.env = false := by simp [interactive, I.ok.kind]
/-- a docstring -/
theorem ps_doc {x j pos pos'} : PS X (.Expr (.Constant (.str x) j pos) pos') tNext := fun _ s σ H _ I h => wpAny_Expr (Calls.Constant_str (show SP X _ _ .next { s with toks := s.toks + 1 } from ⟨σ, H, I.tok _, h⟩)) I.quiet
/-- an expression whose value is dropped -/
def tDrop (te : TE) : TS := fun D σ H => te σ H fun _ H1 => D.nx σ H1
theorem ps_expr (he : PE X e te) (hs : swapsWith e none pos.line X.env = pure false := by rfl) : PS X (.Expr e pos) (tDrop te) := by
  intro pins s σ H D I h
  exact wpAny_Expr_any (thn (he pins s σ H _ I h) fun v s1 ⟨x, H1, I1, r1, q1⟩ => ⟨σ, H1, I1, q1⟩) I.quiet hs
def tRet (te : TE) : TS := fun D σ H => te σ H D.rt
theorem ps_ret (he : PE X e te) : PS X (.Return (some e) pos) (tRet te) := by
  intro pins s σ H D I h
  exact wpAny_Return_some (thn (he pins s σ H _ I h) fun v s1 ⟨x, H1, I1, r1, q1⟩ => ⟨x, σ, H1, I1, r1, q1⟩)
def tRetN : TS := fun D _ H => D.rt .non H
theorem ps_retN : PS X (.Return none pos) tRetN := fun _ _ σ H _ I h => wpAny_Return_none ⟨.non, σ, H, I, rfl, h⟩
def tIfS (c : TT) (t u : TS) : TS := fun D σ H => c σ H fun b H1 => if b = true then t D σ H1 else u D σ H1
theorem ps_if {c : Expr} {a b : List Stmt} {tc : TT} (hc : PT X c tc) (ha : PSs X a t) (hb : PSs X b u) : PS X (.If c a b pos) (tIfS tc t u) := by
  intro pins s σ H D I h
  refine wpAny_If (thn (hc pins s σ H _ I h) fun d s1 ⟨H1, I1, q1⟩ => ?_)
  cases d with
  | true => exact ha pins s1 σ H1 D I1 q1
  | false => exact hb pins s1 σ H1 D I1 q1
/-- code that the proof never comes to -/
def tNever : TS := fun _ _ _ => False
theorem ps_never : PS X st tNever := fun _ _ _ _ _ _ h => h.elim
theorem pss_never {sts : List Stmt} : PSs X sts tNever := fun _ _ _ _ _ _ h => h.elim
end

/-! ### targets -/
abbrev TG := V → St → Hp → (St → Hp → Prop) → Prop
abbrev TGs := List V → St → Hp → (St → Hp → Prop) → Prop
def PG (X : Cx) (target : Expr) (t : TG) : Prop :=
  ∀ (pins : List (Addr × Obj)) (s : Shared) (σ : St) (H : Hp) (v : V) (u : Value) (Q : St → Hp → Prop), Inv X pins σ H s → RelV v u → t v σ H Q →
    wpAny (model X.prog X.w) X.A (assign target X.env u) (fun _ s' => ∃ σ' H', Inv X pins σ' H' s' ∧ Q σ' H') X.xe s
/-- several targets, one after another -/
def PGs (X : Cx) (ts : List Expr) (t : TGs) : Prop :=
  ∀ (pins : List (Addr × Obj)) (s : Shared) (σ : St) (H : Hp) (vs : List V) (us : List Value) (Q : St → Hp → Prop), Inv X pins σ H s → Vals vs us → t vs σ H Q →
    wpAny (model X.prog X.w) X.A (assignInOrder ((assignEach ts X.env).map (·.2)) us) (fun _ s' => ∃ σ' H', Inv X pins σ' H' s' ∧ Q σ' H') X.xe s
/-- o[i] = v, by values -/
abbrev TSet := V → V → V → Hp → (Hp → Prop) → Prop
def PSet (X : Cx) (t : TSet) : Prop :=
  ∀ (pins : List (Addr × Obj)) (s : Shared) (σ : St) (H : Hp) (o i v : V) (ov iv u : Value) (Q : Hp → Prop), Inv X pins σ H s → RelV o ov → RelV i iv → RelV v u → t o i v H Q →
    wpAny (model X.prog X.w) X.A (setItem ov iv u) (fun _ s' => ∃ H', Inv X pins σ H' s' ∧ Q H') X.xe s
/-- a op= b, by values -/
abbrev TIp := V → V → Hp → VK → Prop
def PIp (X : Cx) (op : Operator) (t : TIp) : Prop :=
  ∀ (pins : List (Addr × Obj)) (s : Shared) (σ : St) (H : Hp) (x y : V) (v u : Value) (Q : VK), Inv X pins σ H s → RelV x v → RelV y u → t x y H Q →
    wpAny (model X.prog X.w) X.A (inplaceOp op v u) (EP X pins σ Q) X.xe s
section
variable {X : Cx} {pos : Pos}
def gName (i : Nat) : TG := fun v σ H Q => Q (σ.set i (some v)) H
theorem pg_name {i : Nat} {x : Str} (hN : X.N.Nodup) (hi : X.N[i]? = some x) (hx : Loc X.env.scope x) (hf : X.fn x = true ∨ X.env.scope.names.lookup x = some .local := by first | exact .inl rfl | exact .inr rfl | assumption) : PG X (.Name x pos) (gName i) := by
  intro pins s σ H v u Q I r h
  exact wpAny_assign_Name (store_ok I hN hi hx r (fun s' I' => ⟨_, H, I', h⟩) hf)
def gNil : TGs := fun vs σ H Q => vs = [] ∧ Q σ H
def gCons (t : TG) (u : TGs) : TGs := fun vs σ H Q => ∃ v r, vs = v :: r ∧ t v σ H fun σ' H' => u r σ' H' Q
theorem pgs_nil : PGs X [] gNil := by
  intro pins s σ H vs us Q I r h
  obtain ⟨e, h⟩ := h
  subst e
  cases r
  exact assignInOrder_nil ⟨σ, H, I, h⟩
theorem pgs_cons {e : Expr} {es : List Expr} {t : TG} {u : TGs} (h1 : PG X e t) (h2 : PGs X es u)
    (hs : (assignEach (e :: es) X.env).map (·.2) = assign e X.env :: (assignEach es X.env).map (·.2) := by rfl) : PGs X (e :: es) (gCons t u) := by
  intro pins s σ H vs us Q I r h
  obtain ⟨v, vr, e1, h⟩ := h
  subst e1
  cases r with
  | cons r rr =>
    rw [hs]
    refine assignInOrder_cons (thn (h1 pins s σ H _ _ _ I r h) fun _ s1 ⟨σ1, H1, I1, q1⟩ => ?_)
    exact h2 pins s1 σ1 H1 _ _ Q I1 rr q1
/-- (a, b, ..) = a tuple of that length -/
def gTup (K : PySem.W.Frag) (n : Nat) (t : TGs) : TG := fun v σ H Q => ∃ a xs, v = .ref a ∧ SqT K H a xs ∧ xs.length = n ∧ t xs σ H Q
theorem pg_tup {es : List Expr} {k : Nat} {t : TGs} {n : Nat} (hc : X.calm = true) (h : PGs X es t)
    (hn : (assignEach es X.env).length = n := by rfl) (hst : (assignEach es X.env).findIdx? (·.1) = none := by rfl) : PG X (.Tuple es k pos) (gTup X.K n t) := by
  intro pins s σ H v u Q I r hw
  obtain ⟨a, xs, e1, hq, hl, hw⟩ := hw
  subst e1
  cases r
  obtain ⟨its, rv, ht, hz⟩ := I.tuple hq
  refine assign_Tuple_tuple (I.ok.hd hc) ht (by simp [hn, ← hl, rv.length]) hst fun h' hx => ?_
  have I1 : Inv X pins σ H { s with heap := h' } := I.kept (t' := s.toks) fun b o e => hx b o (Nat.ne_of_lt (Heap.lt_size e)) e
  exact h pins _ σ H xs _ Q I1 (by simpa using rv) hw
/-- o[i] = .. -/
def gSub (to ti : TE) (t : TSet) : TG := fun v σ H Q => to σ H fun o H1 => ti σ H1 fun i H2 => t o i v H2 fun H3 => Q σ H3
theorem pg_sub {o i : Expr} {to ti : TE} {t : TSet} (ho : PE X o to) (hi : PE X i ti) (hs : PSet X t)
    (ha : ∀ v, assign (.Subscript o i pos) X.env v = (do
      let ov ← holding [v] (eval o X.env)
      let iv ← holding [v, ov] (eval i X.env)
      standAt pos
      holding [v, ov, iv] (setItem ov iv v)
      release [v, ov, iv] []) := by intro _; rfl) : PG X (.Subscript o i pos) (gSub to ti t) := by
  intro pins s σ H v u Q I r h
  rw [ha]
  refine wpAny_bind (wpAny_holding (thn (ho pins s σ H _ I h) fun ov s1 ⟨x, H1, I1, r1, q1⟩ => ?_))
  refine wpAny_bind (wpAny_holding (thn (hi pins s1 σ H1 _ I1 q1) fun iv s2 ⟨y, H2, I2, r2, q2⟩ => ?_))
  refine wpAny_bind (wpAny_standAt (wpAny_bind (wpAny_holding (thn (hs pins s2 σ H2 x y v ov iv u _ I2 r1 r2 r q2) fun _ s3 ⟨H3, I3, q3⟩ => ?_))))
  exact wpAny_release ⟨σ, H3, I3, q3⟩
/-- target = value -/
def tAsg (te : TE) (g : TG) : TS := fun D σ H => te σ H fun x H1 => g x σ H1 D.nx
theorem ps_asg {tg e : Expr} {te : TE} {g : TG} (he : PE X e te) (hg : PG X tg g) (hs : swapsWithSole [tg] e pos.line X.env = pure false := by rfl) (hw : swappedStores [tg] e X.env = pure none := by rfl)
    (h1 : (assignEach [tg] X.env).map (·.2) = [assign tg X.env] := by rfl) : PS X (.Assign [tg] e pos) (tAsg te g) := by
  intro pins s σ H D I h
  refine wpAny_Assign_stores (thn (he pins s σ H _ I h) fun v s1 ⟨x, H1, I1, r1, q1⟩ => ?_) hs hw
  rw [h1]
  exact thn (hg pins s1 σ H1 x v _ I1 r1 q1) fun _ s2 q => q
/-- name = value -/
theorem ps_set {i : Nat} {x : Str} {e : Expr} {te : TE} {pos' : Pos} (hN : X.N.Nodup) (hi : X.N[i]? = some x) (hx : Loc X.env.scope x) (he : PE X e te) (hs : swapsWith e (some (.Name x pos')) pos.line X.env = pure false := by rfl) (hf : X.fn x = true ∨ X.env.scope.names.lookup x = some .local := by first | exact .inl rfl | exact .inr rfl | assumption) :
    PS X (.Assign [.Name x pos'] e pos) (tAsg te (gName i)) := by
  intro pins s σ H D I h
  refine wpAny_Assign_Name (thn (he pins s σ H _ I h) fun v s1 ⟨y, H1, I1, r1, q1⟩ => ?_) hs
  exact store_ok I1 hN hi hx r1 (fun s2 I2 => ⟨_, H1, I2, q1⟩) hf
/-- a, b = x, y with plain local names: stored from the right; the pair itself is not tracked (the opening rows as in PyProof/Rows/TupAssign.lean:23) -/
def tPar (i j : Nat) (ta : TA) : TS := fun D σ H => ta σ H fun vs H1 => ∃ v w, vs = [v, w] ∧ D.nx ((σ.set i (some v)).set j (some w)) H1
theorem ps_par {i j : Nat} {x y : Str} {a b : Expr} {ta : TA} {px py pt : Pos} {kt k2 pt2} (hc : X.calm = true) (hN : X.N.Nodup) (hi : X.N[i]? = some x) (hj : X.N[j]? = some y) (hij : i ≠ j)
    (hx : X.env.scope.names.lookup x = some .local) (hy : X.env.scope.names.lookup y = some .local) (ha : PA X [a, b] ta)
    (hw : swappedStores [.Tuple [.Name x px, .Name y py] kt pt] (.Tuple [a, b] k2 pt2) X.env = pure (some [x, y]))
    (hs : swapsWithSole [.Tuple [.Name x px, .Name y py] kt pt] (.Tuple [a, b] k2 pt2) pos.line X.env = pure false := by rfl) :
    PS X (.Assign [.Tuple [.Name x px, .Name y py] kt pt] (.Tuple [a, b] k2 pt2) pos) (tPar i j ta) := by
  intro pins s σ H D I h
  rw [exec_Assign_arm]
  refine wpAny_bind (wpAny_standAt ?_)
  rw [hs]
  refine wpAny_bind (wpAny_pure ?_)
  rw [if_neg (by decide)]
  refine wpAny_bind (Tuple_ (thn (ha _ pins s σ H _ I h) fun us s1 ⟨vs, H1, I1, r1, q1⟩ => ?_))
  obtain ⟨v, w, e1, q1⟩ := q1
  subst e1
  obtain ⟨u1, u2, rfl, rv, rw'⟩ : ∃ u1 u2, us = [u1, u2] ∧ RelV v u1 ∧ RelV w u2 := by
    cases r1 with
    | cons p q =>
      cases q with
      | cons p' q' =>
        cases q'
        exact ⟨_, _, rfl, p, p'⟩
  refine wpAny_newObj_type ?_ (by show 2 ≤ sizeLine; decide)
  have I2 : Inv X pins σ H1 { s1 with heap := s1.heap.push { cls := .type "tuple", data := .seq [u1, u2].toArray } } := I1.kept (t' := s1.toks) fun b o e => Heap.get?_push_of_some _ e
  rw [hw]
  refine wpAny_bind (wpAny_pure ?_)
  show wpAny (model X.prog X.w) X.A (do rule "assign.swapped-stores"; let items ← unpackItems (.ref s1.heap.objs.size) 2 none; assignInOrder [fun v => bindName X.env y v, fun v => bindName X.env x v] items.reverse; pure Flow.next) _ _ _
  refine wpAny_bind (wpAny_rule (wpAny_bind (unpackItems_tuple (items := #[u1, u2]) (I.ok.hd hc) (IsTup.new s1.heap _) fun h' hx' => ?_)))
  have I3 := I2.kept (h' := h') (t' := s1.toks) fun b o e => hx' b o (Nat.ne_of_lt (Heap.lt_size e)) e
  show wpAny _ _ (assignInOrder [fun v => bindName X.env y v, fun v => bindName X.env x v] [u2, u1] >>= fun _ => pure Flow.next) _ _ _
  refine wpAny_bind (assignInOrder_cons (wpAny_bindName (store_ok I3 hN hj (.inl hy) rw' (fun s2 I4 => ?_) (.inr hy))))
  refine assignInOrder_cons (wpAny_bindName (store_ok I4 hN hi (.inl hx) rv (fun s3 I5 => assignInOrder_nil (wpAny_pure ?_)) (.inr hx)))
  rw [List.set_comm _ _ (Ne.symm hij)] at I5
  exact ⟨_, H1, I5, q1⟩
/-- name op= e -/
def tAug (i : Nat) (te : TE) (ti : TIp) : TS := fun D σ H => ∃ x, σ[i]? = some (some x) ∧ te σ H fun y H1 => ti x y H1 fun z H2 => D.nx (σ.set i (some z)) H2
theorem ps_aug {i : Nat} {x : Str} {e : Expr} {te : TE} {op : Operator} {ti : TIp} {pos' : Pos} (hN : X.N.Nodup) (hi : X.N[i]? = some x) (hx : Loc X.env.scope x) (he : PE X e te) (ho : PIp X op ti) (hf : X.fn x = true ∨ X.env.scope.names.lookup x = some .local := by first | exact .inl rfl | exact .inr rfl | assumption) :
    PS X (.AugAssign (.Name x pos') op e pos) (tAug i te ti) := by
  intro pins s σ H D I h
  obtain ⟨v, e1, h⟩ := h
  obtain ⟨m, hn, hl⟩ := I.loc
  have vis : Vis X.env.scope x := by rcases hx with k | k; exact .inl k; exact .inr (.inl k)
  obtain ⟨u, r, l⟩ := hl i x v hi e1 vis
  refine wpAny_AugAssign_Name ?_
  have go : wpAny (model X.prog X.w) X.A (eval e X.env) (fun w s₂ => wpAny (model X.prog X.w) X.A (inplaceOp op u w) (fun r s₃ => wpAny (model X.prog X.w) X.A (storeName X.env x r) (fun _ => SP X pins D .next) X.xe s₃) X.xe s₂) X.xe s := by
    refine thn (he pins s σ H _ I h) fun w s1 ⟨y, H1, I1, r1, q1⟩ => ?_
    refine thn (ho pins s1 σ H1 v y u w _ I1 r r1 q1) fun z s2 ⟨zv, H2, I2, r2, q2⟩ => ?_
    exact store_ok I2 hN hi hx r2 (fun s3 I3 => ⟨_, H2, I3, q2⟩) hf
  rcases l with ⟨hk, hm⟩ | ⟨hk, c, hc, hcell⟩
  · exact wpAny_loadName_local I.ok.kind hk hn hm go
  · rcases hk with hk | hk
    · exact wpAny_loadName_cell I.ok.kind hk hc hcell go
    · rcases hx with k | k
      · have : X.env.scope.names.lookup x = some .free := hk
        rw [k] at this; cases this
      · have : X.env.scope.names.lookup x = some .free := hk
        rw [k] at this; cases this
/-- o[i] op= e -/
def tAugS (to ti te : TE) (tget : V → V → Hp → VK → Prop) (tip : TIp) (tset : TSet) : TS := fun D σ H => to σ H fun o H1 => ti σ H1 fun i H2 => tget o i H2 fun x H3 => te σ H3 fun y H4 => tip x y H4 fun z H5 => tset o i z H5 fun H6 => D.nx σ H6
/-- o[i], by values -/
def PGet (X : Cx) (t : V → V → Hp → VK → Prop) : Prop :=
  ∀ (pins : List (Addr × Obj)) (s : Shared) (σ : St) (H : Hp) (o i : V) (ov iv : Value) (Q : VK), Inv X pins σ H s → RelV o ov → RelV i iv → t o i H Q →
    wpAny (model X.prog X.w) X.A (getItem ov iv) (EP X pins σ Q) X.xe s
theorem ps_augS {o i e : Expr} {to ti te : TE} {tget : V → V → Hp → VK → Prop} {tip : TIp} {tset : TSet} {op : Operator} {tpos : Pos} (ho : PE X o to) (hi : PE X i ti) (hg : PGet X tget) (he : PE X e te) (hp : PIp X op tip) (hs : PSet X tset)
    (ha : ∀ ov iv new, augStore i ov iv new = (do holding [new, ov, iv] (setItem ov iv new); release [new, ov, iv] []; pure .next) := by intros; rfl) : PS X (.AugAssign (.Subscript o i tpos) op e pos) (tAugS to ti te tget tip tset) := by
  intro pins s σ H D I h
  refine wpAny_AugAssign_SubscriptAny (thn (ho pins s σ H _ I h) fun ov s1 ⟨x1, H1, I1, r1, q1⟩ => ?_) ha
  refine thn (hi pins s1 σ H1 _ I1 q1) fun iv s2 ⟨x2, H2, I2, r2, q2⟩ => ?_
  refine thn (hg pins s2 σ H2 x1 x2 ov iv _ I2 r1 r2 q2) fun old s3 ⟨x3, H3, I3, r3, q3⟩ => ?_
  refine thn (he pins s3 σ H3 _ I3 q3) fun v s4 ⟨x4, H4, I4, r4, q4⟩ => ?_
  refine thn (hp pins s4 σ H4 x3 x4 old v _ I4 r3 r4 q4) fun new s5 ⟨x5, H5, I5, r5, q5⟩ => ?_
  exact thn (hs pins s5 σ H5 x1 x2 x5 ov iv new _ I5 r1 r2 r5 q5) fun _ s6 ⟨H6, I6, q6⟩ => ⟨σ, H6, I6, q6⟩
/-- ints -/
def ipI (f : Int → Int → Int) : TIp := fun x y H Q => ∃ i j, x = .int i ∧ y = .int j ∧ Q (.int (f i j)) H
theorem ip_add : PIp X .Add (ipI fun i j => i + j) := by
  intro pins s σ H x y v u Q I r1 r2 h
  obtain ⟨i, j, e1, e2, q⟩ := h
  subst e1; subst e2
  obtain ⟨t, rfl⟩ := r1
  obtain ⟨t', rfl⟩ := r2
  exact iadd_int ⟨.int _, H, I.tok _, ⟨_, rfl⟩, q⟩
theorem ip_sub : PIp X .Sub (ipI fun i j => i - j) := by
  intro pins s σ H x y v u Q I r1 r2 h
  obtain ⟨i, j, e1, e2, q⟩ := h
  subst e1; subst e2
  obtain ⟨t, rfl⟩ := r1
  obtain ⟨t', rfl⟩ := r2
  exact isub_int ⟨.int _, H, I.tok _, ⟨_, rfl⟩, q⟩
end

/-! ### while -/
section
variable {X : Cx} {pos : Pos}
/-- the invariant W with its measure -/
def tWhile (c : TT) (tb : TS) : TS := fun D σ H => ∃ W : Nat → St → Hp → Prop, (∃ m, W m σ H) ∧ ∀ m σ H, W m σ H →
  c σ H fun b H1 => if b = true then ∃ N : St → Hp → Prop, (∀ σ' H', N σ' H' → ∃ m', m' < m ∧ W m' σ' H') ∧ tb { D with nx := N, ct := N, bk := D.nx } σ H1 else D.nx σ H1
theorem ps_while {c : Expr} {body : List Stmt} {tc : TT} {tb : TS} (hp : PassesOwn (model X.prog X.w) X.A X.env X.xe) (hc : PT X c tc) (hb : PSs X body tb) : PS X (.While c body [] pos) (tWhile tc tb) := by
  intro pins s σ H D I h
  obtain ⟨W, ⟨m0, w0⟩, turn⟩ := h
  refine wpAny_While (codeAny_whileLoop (fun n s' => ∃ σ' H', Inv X pins σ' H' s' ∧ W n σ' H') ?_ m0 ⟨σ, H, I, w0⟩)
  rintro n s1 ⟨σ1, H1, I1, w1⟩
  refine wpAny_passesOwn hp (thn (hc pins s1 σ1 H1 _ I1 (turn n σ1 H1 w1)) fun b s2 ⟨H2, I2, q2⟩ => ?_)
  cases b with
  | true =>
    obtain ⟨N, hN, q2⟩ := q2
    rw [if_pos rfl]
    refine wpAny_passesOwn hp (thn (hb pins s2 σ1 H2 _ I2 q2) fun f s3 q3 => ?_)
    cases f with
    | next =>
      obtain ⟨σ3, H3, I3, n3⟩ := q3
      obtain ⟨m', hm, w3⟩ := hN σ3 H3 n3
      exact ⟨m', hm, σ3, H3, I3, w3⟩
    | cont =>
      obtain ⟨σ3, H3, I3, n3⟩ := q3
      obtain ⟨m', hm, w3⟩ := hN σ3 H3 n3
      exact ⟨m', hm, σ3, H3, I3, w3⟩
    | brk => exact q3
    | ret v => exact q3
  | false =>
    rw [if_neg Bool.false_ne_true]
    exact wpAny_execs_nil ⟨σ1, H2, I2, q2⟩
end

/-! ### what a loop or a comprehension walks -/
/-- at turn i: it yields x (the heap may grow), or it stops -/
structure It where
  go : Nat → Hp → Prop
  yld : Nat → Hp → V → Hp → Prop
  stop : Nat → Hp → Prop
/-- the iterator's own objects may turn: they are not the frame's, not pinned, younger than the entry (or a comprehension's own) -/
def FpOk (X : Cx) (pins : List (Addr × Obj)) (H : Hp) (b : Addr) : Prop :=
  H b = none ∧ b ≠ X.env.locals ∧ b ∉ X.fs ∧ (b ∈ X.ex ∨ X.s₀.heap.objs.size ≤ b) ∧ (∀ x c, X.env.cells.lookup x = some c → c ≠ b) ∧ ∀ p ∈ X.pn ++ pins, p.1 ≠ b
theorem Inv.fpOk {X : Cx} {pins : List (Addr × Obj)} {σ : St} {H H' : Hp} {s : Shared} {b : Addr} (I : Inv X pins σ H s) (hb : s.heap.objs.size ≤ b) (hn : H' b = none) : FpOk X pins H' b := by
  refine ⟨hn, Nat.ne_of_gt (Nat.lt_of_lt_of_le I.lt hb), I.nofs hb, .inr (Nat.le_trans I.sz hb), fun x c e z => ?_, fun p hp z => ?_⟩
  · obtain ⟨v, q⟩ := I.cell x c e
    exact absurd (Nat.lt_of_lt_of_le q.lt (by rw [z]; exact hb)) (Nat.lt_irrefl _)
  · exact absurd (Nat.lt_of_lt_of_le (Heap.lt_size (I.pin p hp).1) (by rw [z]; exact hb)) (Nat.lt_irrefl _)
structure Turn (P : Program) (w : World) (K : PySem.W.Frag) (tg : Expr) (J : It) (fp : List Addr) (it : Addr) (tn : Nat → Heap → Prop) : Prop where
  mem : it ∈ fp
  obj : ∀ i h, tn i h → ∀ b ∈ fp, ∃ o, h.get? b = some o ∧ ∀ v, o.data ≠ .cell v
  keep : ∀ i h h', tn i h → (∀ b ∈ fp, ∀ o, h.get? b = some o → h'.get? b = some o) → tn i h'
  item : ∀ (X : Cx), X.prog = P → X.w = w → X.K = K → X.calm = true → ∀ (i : Nat) (pins : List (Addr × Obj)) (s : Shared) (σ : St) (H : Hp) (E : Value → Shared → Prop), Inv X pins σ H s → (∀ b ∈ fp, FpOk X pins H b) → tn i s.heap → J.go i H →
    wpAny (model P w) X.A (pyNext (.ref it)) (fun r s1 => ∃ u, r = some u ∧
      wpAny (model P w) X.A (letOwnedTupleGo tg (.ref it) u) (fun _ s2 => ∃ x H', Inv X pins σ H' s2 ∧ RelV x u ∧ J.yld i H x H' ∧ tn (i + 1) s2.heap ∧ ∀ b ∈ fp, H' b = none) E s1) E s
  done : ∀ (X : Cx), X.prog = P → X.w = w → X.K = K → X.calm = true → ∀ (i : Nat) (pins : List (Addr × Obj)) (s : Shared) (σ : St) (H : Hp) (E : Value → Shared → Prop), Inv X pins σ H s → (∀ b ∈ fp, FpOk X pins H b) → tn i s.heap → J.stop i H →
    wpAny (model P w) X.A (pyNext (.ref it)) (fun r s1 => r = none ∧ Inv X pins σ H s1) E s
  self : ∀ (A : Around) (i : Nat) (s : Shared) (Q : Value → Shared → Prop) (E : Value → Shared → Prop), tn i s.heap → Q (.ref it) s → wpAny (model P w) A (pyIter (.ref it)) Q E s
abbrev TI := St → Hp → (It → Hp → Prop) → Prop
/-- an iterator has come -/
def PIE (X : Cx) (pins : List (Addr × Obj)) (σ : St) (tg : Expr) (R : It → Hp → Prop) (itv : Value) (s2 : Shared) : Prop :=
  ∃ (it : Addr) (fp : List Addr) (tn : Nat → Heap → Prop) (J : It) (H' : Hp), itv = .ref it ∧ Inv X pins σ H' s2 ∧ Turn X.prog X.w X.K tg J fp it tn ∧ tn 0 s2.heap ∧ (∀ b ∈ fp, FpOk X pins H' b) ∧ R J H'
def PI (X : Cx) (tg iter : Expr) (wi : TI) : Prop :=
  ∀ (pins : List (Addr × Obj)) (s : Shared) (σ : St) (H : Hp) (R : It → Hp → Prop), Inv X pins σ H s → wi σ H R →
    wpAny (model X.prog X.w) X.A (eval iter X.env) (fun v s1 => wpAny (model X.prog X.w) X.A (pyIter v) (PIE X pins σ tg R) X.xe s1) X.xe s

/-- the step ahead of the store is nothing for an iterator that keeps no tuple -/
theorem go_of {M : Model} {A : Around} {E : Value → Shared → Prop} {s : Shared} {tg : Expr} {it : Addr} {u : Value} {o : Obj} {n : String} {vs : Array Value} {Q : Unit → Shared → Prop} (ho : s.heap.get? it = some o) (hc : o.cls = .type n) (hd : o.data = .fields vs)
    (hn : ["enumerate", "zip", "dict_itemiterator", "dict_reverseitemiterator", "odict_iterator", "itertools.zip_longest", "itertools.pairwise"].contains n = false) (hQ : Q () s) : wpAny M A (letOwnedTupleGo tg (.ref it) u) Q E s := by
  unfold letOwnedTupleGo
  cases tg <;> first
    | exact wpAny_pure hQ
    | (cases u <;> first
        | exact wpAny_pure hQ
        | (refine wpAny_bind (wpAny_load ho ?_)
           rw [hc, hd]
           show wpAny M A (if (["enumerate", "zip", "dict_itemiterator", "dict_reverseitemiterator", "odict_iterator", "itertools.zip_longest", "itertools.pairwise"].contains n && vs[0]? == some (rawInt _)) = true then _ else _) Q E s
           rw [if_neg (by intro h; rw [hn, Bool.false_and] at h; cases h)]
           exact wpAny_pure hQ))

/-- the list at a, as it stands at each turn (a loop may append to it) -/
def Itl (K : PySem.W.Frag) (a : Addr) : It :=
  ⟨fun i H => ∃ xs x, SqL K H a xs ∧ xs[i]? = some x, fun i H x H' => H' = H ∧ ∀ xs, SqL K H a xs → xs[i]? = some x, fun i H => ∃ xs, SqL K H a xs ∧ xs.length ≤ i⟩
def Itt (K : PySem.W.Frag) (a : Addr) : It :=
  ⟨fun i H => ∃ xs x, SqT K H a xs ∧ xs[i]? = some x, fun i H x H' => H' = H ∧ ∀ xs, SqT K H a xs → xs[i]? = some x, fun i H => ∃ xs, SqT K H a xs ∧ xs.length ≤ i⟩
/-- lo, lo + 1, .. (n of them) -/
def Itr (lo : Int) (n : Nat) : It := ⟨fun i _ => i < n, fun i H x H' => H' = H ∧ x = .int (lo + i), fun i _ => n ≤ i⟩
theorem turn_list {P : Program} {w : World} {K : PySem.W.Frag} {tg : Expr} (a it : Addr) : Turn P w K tg (Itl K a) [it] it (fun i h => h.IsListIter it a i) where
  mem := by simp
  obj := fun i h st b hb => by
    have e : b = it := by simpa using hb
    subst e
    obtain ⟨o, e, c, d⟩ := st
    exact ⟨o, e, fun v z => by rw [d] at z; cases z⟩
  keep := fun i h h' st k => st.at fun o e => k it (by simp) o e
  item := by
    intro X hP hw hK hc i pins s σ H E I hf st hg
    subst hP hw hK
    obtain ⟨xs, x, hq, hx⟩ := hg
    obtain ⟨its, rv, p, hz⟩ := I.list hq
    obtain ⟨u, hu, ru⟩ := rv.get hx
    obtain ⟨f0, f1, f2, f3, f4, f5⟩ := hf it (by simp)
    refine wpAny_pyNext_list_item st p.isList (x := u) (by simpa using hu) fun h' st' sb => ?_
    have I1 : Inv X pins σ H { s with heap := h' } := I.turned (t' := s.toks) (fun b o hb e => (sb.2 b hb).trans e) f0 f1 f3 f4 f5
    obtain ⟨o, e, c, d⟩ := id st'
    exact ⟨u, rfl, go_of (s := { s with heap := h' }) e c d (by decide) ⟨x, H, I1, ru, ⟨rfl, fun ys hy => by rw [I.list_inj hy hq]; exact hx⟩, st', fun b hb => (hf b hb).1⟩⟩
  done := by
    intro X hP hw hK hc i pins s σ H E I hf st hg
    subst hP hw hK
    obtain ⟨xs, hq, hx⟩ := hg
    obtain ⟨its, rv, p, hz⟩ := I.list hq
    obtain ⟨f0, f1, f2, f3, f4, f5⟩ := hf it (by simp)
    have hl := rv.length
    exact wpAny_pyNext_list_end (I.ok.hd hc) st p.isList (by simp; omega) fun h' eb => ⟨rfl, I.turned (t' := s.toks) (fun b o hb e => eb b o hb e) f0 f1 f3 f4 f5⟩
  self := fun _ _ _ _ _ st h => wpAny_pyIter_listiter st h
theorem turn_tuple {P : Program} {w : World} {K : PySem.W.Frag} {tg : Expr} (a it : Addr) : Turn P w K tg (Itt K a) [it] it (fun i h => h.IsTupleIter it a i) where
  mem := by simp
  obj := fun i h st b hb => by
    have e : b = it := by simpa using hb
    subst e
    obtain ⟨o, e, c, d⟩ := st
    exact ⟨o, e, fun v z => by rw [d] at z; cases z⟩
  keep := fun i h h' st k => st.at fun o e => k it (by simp) o e
  item := by
    intro X hP hw hK hc i pins s σ H E I hf st hg
    subst hP hw hK
    obtain ⟨xs, x, hq, hx⟩ := hg
    obtain ⟨its, rv, p, hz⟩ := I.tuple hq
    obtain ⟨u, hu, ru⟩ := rv.get hx
    obtain ⟨f0, f1, f2, f3, f4, f5⟩ := hf it (by simp)
    refine wpAny_pyNext_tuple_item st (show s.heap.IsTuple a its.toArray from p) (x := u) (by simpa using hu) fun h' st' sb => ?_
    have I1 : Inv X pins σ H { s with heap := h' } := I.turned (t' := s.toks) (fun b o hb e => (sb.2 b hb).trans e) f0 f1 f3 f4 f5
    obtain ⟨o, e, c, d⟩ := id st'
    exact ⟨u, rfl, go_of (s := { s with heap := h' }) e c d (by decide) ⟨x, H, I1, ru, ⟨rfl, fun ys hy => by rw [I.tuple_inj hy hq]; exact hx⟩, st', fun b hb => (hf b hb).1⟩⟩
  done := by
    intro X hP hw hK hc i pins s σ H E I hf st hg
    subst hP hw hK
    obtain ⟨xs, hq, hx⟩ := hg
    obtain ⟨its, rv, p, hz⟩ := I.tuple hq
    obtain ⟨f0, f1, f2, f3, f4, f5⟩ := hf it (by simp)
    have hl := rv.length
    exact wpAny_pyNext_tuple_end (I.ok.hd hc) st (show s.heap.IsTuple a its.toArray from p) (by simp; omega) fun h' eb => ⟨rfl, I.turned (t' := s.toks) (fun b o hb e => eb b o hb e) f0 f1 f3 f4 f5⟩
  self := fun _ _ _ _ _ st h => wpAny_pyIter_tupleiter st h
theorem turn_range {P : Program} {w : World} {K : PySem.W.Frag} {tg : Expr} (it : Addr) (lo : Int) (n : Nat) : Turn P w K tg (Itr lo n) [it] it (fun i h => IsRangeIter h it (lo + (i : Nat) * 1) ((n : Int) - (i : Nat)) 1) where
  mem := by simp
  obj := fun i h st b hb => by
    have e : b = it := by simpa using hb
    subst e
    exact ⟨_, st, fun v z => by
      have z' : Data.fields _ = Data.cell v := z
      cases z'⟩
  keep := fun i h h' st k => k it (by simp) _ st
  item := by
    intro X hP hw hK hc i pins s σ H E I hf st hg
    subst hP hw hK
    obtain ⟨f0, f1, f2, f3, f4, f5⟩ := hf it (by simp)
    have W := Walks.range (prog := X.prog) (w := X.w) (I.ok.hd hc) it lo 1 n
    refine W.item i s _ _ hg st fun v h' tk hv st' kk => ?_
    obtain ⟨t, rfl⟩ := hv
    have I1 : Inv X pins σ H { s with heap := h', toks := tk } := I.turned (fun b o hb e => kk b o (by simpa using hb) e) f0 f1 f3 f4 f5
    refine ⟨_, rfl, go_of (s := { s with heap := h', toks := tk }) (n := "range_iterator") st' rfl rfl (by decide) ⟨.int (lo + i), H, I1, ⟨t, ?_⟩, ⟨rfl, rfl⟩, st', fun b hb => (hf b hb).1⟩⟩
    rw [Int.mul_one]
  done := by
    intro X hP hw hK hc i pins s σ H E I hf st hg
    subst hP hw hK
    obtain ⟨f0, f1, f2, f3, f4, f5⟩ := hf it (by simp)
    exact wpAny_pyNext_range_end (I.ok.hd hc) st (by have : n ≤ i := hg; omega) fun h' eb => ⟨rfl, I.turned (t' := s.toks) (fun b o hb e => eb b o hb e) f0 f1 f3 f4 f5⟩
  self := fun _ _ _ _ _ st h => wpAny_pyIter_rangeiter st h
end L2

namespace L2
open PySem PySem.Spec PyProof.Rows
section
variable {X : Cx} {tg : Expr}
def iList (K : PySem.W.Frag) (tl : TE) : TI := fun σ H R => tl σ H fun x H1 => ∃ a, x = .ref a ∧ (∃ xs, SqL K H1 a xs) ∧ R (Itl K a) H1
def iTup (K : PySem.W.Frag) (tl : TE) : TI := fun σ H R => tl σ H fun x H1 => ∃ a, x = .ref a ∧ (∃ xs, SqT K H1 a xs) ∧ R (Itt K a) H1
theorem pi_list {l : Expr} {tl : TE} (hl : PE X l tl) : PI X tg l (iList X.K tl) := by
  intro pins s σ H R I h
  refine thn (hl pins s σ H _ I h) fun v s1 ⟨x, H1, I1, r1, q1⟩ => ?_
  obtain ⟨a, e, ⟨xs, hq⟩, q⟩ := q1
  subst e
  cases r1
  obtain ⟨its, rv, p, hz⟩ := I1.list hq
  refine wpAny_pyIter_list p.isList ?_
  refine ⟨s1.heap.objs.size, [s1.heap.objs.size], _, _, H1, rfl, I1.kept (t' := s1.toks) fun b o e => Heap.get?_push_of_some _ e, turn_list a _, ⟨_, Heap.get?_push_size _ rfl, rfl, rfl⟩, fun b hb => ?_, q⟩
  have e : b = s1.heap.objs.size := by simpa using hb
  subst e
  exact I1.fpOk (Nat.le_refl _) (I1.hok.fresh (Nat.le_refl _))
theorem pi_tup {l : Expr} {tl : TE} (hl : PE X l tl) : PI X tg l (iTup X.K tl) := by
  intro pins s σ H R I h
  refine thn (hl pins s σ H _ I h) fun v s1 ⟨x, H1, I1, r1, q1⟩ => ?_
  obtain ⟨a, e, ⟨xs, hq⟩, q⟩ := q1
  subst e
  cases r1
  obtain ⟨its, rv, p, hz⟩ := I1.tuple hq
  refine wpAny_pyIter_tuple (show s1.heap.IsTuple a its.toArray from p) ?_
  refine ⟨s1.heap.objs.size, [s1.heap.objs.size], _, _, H1, rfl, I1.kept (t' := s1.toks) fun b o e => Heap.get?_push_of_some _ e, turn_tuple a _, ⟨_, Heap.get?_push_size _ rfl, rfl, rfl⟩, fun b hb => ?_, q⟩
  have e : b = s1.heap.objs.size := by simpa using hb
  subst e
  exact I1.fpOk (Nat.le_refl _) (I1.hok.fresh (Nat.le_refl _))
/-- a range object just made, walked -/
theorem range_it {pins : List (Addr × Obj)} {σ : St} {H : Hp} {s : Shared} {R : It → Hp → Prop} {E : Value → Shared → Prop} {lo hi : Int} {t u v : Tok} {tk : Nat} (I : Inv X pins σ H s) (h1 : -(2 ^ 62) ≤ lo) (h2 : lo < 2 ^ 62) (h3 : -(2 ^ 62) ≤ hi) (h4 : hi < 2 ^ 62)
    (q : R (Itr lo (hi - lo).toNat) H) : wpAny (model X.prog X.w) X.A (pyIter (.ref s.heap.objs.size)) (PIE X pins σ tg R) E { s with heap := s.heap.push { cls := .type "range", data := .fields #[.int lo t, .int hi u, .int 1 v] }, toks := tk } := by
  refine wpAny_pyIter_range (IsRange.new ..) (small_one h1 h2 h3 h4) ?_
  have I1 : Inv X pins σ H { s with heap := s.heap.push { cls := .type "range", data := .fields #[.int lo t, .int hi u, .int 1 v] }, toks := tk } := I.kept fun b o e => Heap.get?_push_of_some _ e
  refine ⟨(s.heap.push { cls := .type "range", data := .fields #[.int lo t, .int hi u, .int 1 v] }).objs.size, [(s.heap.push { cls := .type "range", data := .fields #[.int lo t, .int hi u, .int 1 v] }).objs.size], _, _, H, rfl,
    I1.kept (t' := tk) fun b o e => Heap.get?_push_of_some _ e, turn_range _ lo (hi - lo).toNat, ?_, fun b hb => ?_, q⟩
  · have e1 : lo + ((0 : Nat) : Int) * 1 = lo := by simp
    have e2 : (((hi - lo).toNat : Nat) : Int) - ((0 : Nat) : Int) = Builtin.Range.rangeSize lo hi 1 := by rw [rangeSize_one]; split <;> omega
    show IsRangeIter _ _ (lo + ((0 : Nat) : Int) * 1) ((((hi - lo).toNat : Nat) : Int) - ((0 : Nat) : Int)) 1
    rw [e1, e2]
    exact Heap.get?_push_size _ rfl
  · have e : b = (s.heap.push { cls := .type "range", data := .fields #[.int lo t, .int hi u, .int 1 v] }).objs.size := by simpa using hb
    subst e
    exact I1.fpOk (Nat.le_refl _) (I1.hok.fresh (Nat.le_refl _))
def iRng1 (ta : TA) : TI := fun σ H R => ta σ H fun vs H1 => ∃ j : Int, vs = [.int j] ∧ -(2 ^ 62) ≤ j ∧ j < 2 ^ 62 ∧ R (Itr 0 j.toNat) H1
def iRng2 (ta : TA) : TI := fun σ H R => ta σ H fun vs H1 => ∃ i j : Int, vs = [.int i, .int j] ∧ (-(2 ^ 62) ≤ i ∧ i < 2 ^ 62 ∧ -(2 ^ 62) ≤ j ∧ j < 2 ^ 62) ∧ R (Itr i (j - i).toNat) H1
theorem pi_range1 {a : Expr} {ta : TA} {p pos : Pos} (hg : Gl X "range") (hm : X.mg "range" = none) (ha : PA X [a] ta) (hs : starEach [a] X.env = [(false, eval a X.env)] := by rfl) : PI X tg (.Call (.Name "range" p) [a] [] pos) (iRng1 ta) := by
  intro pins s σ H R I h
  refine Call_ (ld_blt I hg hm boot_range (PyProof.Rows.callWith_type1 (thn (ha pos pins s σ H _ I h) fun us s1 ⟨vs, H1, I1, r1, q1⟩ => ?_) hs rfl))
  obtain ⟨j, e, q1, q2, q⟩ := q1
  subst e
  cases r1 with
  | cons r rr =>
    cases rr
    obtain ⟨t, rfl⟩ := r
    exact call_range_1 (range_it I1 (by omega) (by omega) q1 q2 (by simpa using q))
theorem pi_range2 {a b : Expr} {ta : TA} {p pos : Pos} (hg : Gl X "range") (hm : X.mg "range" = none) (ha : PA X [a, b] ta) (hs : starEach [a, b] X.env = [(false, eval a X.env), (false, eval b X.env)] := by rfl) (hs2 : starEach [b] X.env = [(false, eval b X.env)] := by rfl) :
    PI X tg (.Call (.Name "range" p) [a, b] [] pos) (iRng2 ta) := by
  intro pins s σ H R I h
  refine Call_ (ld_blt I hg hm boot_range (PyProof.Rows.callWith_type1 (thn (ha pos pins s σ H _ I h) fun us s1 ⟨vs, H1, I1, r1, q1⟩ => ?_) (by rw [hs, hs2]) (by rw [hs2]; rfl)))
  obtain ⟨i, j, e, ⟨q1, q2, q3, q4⟩, q⟩ := q1
  subst e
  cases r1 with
  | cons r rr =>
    cases rr with
    | cons r' rr =>
      cases rr
      obtain ⟨t, rfl⟩ := r
      obtain ⟨t', rfl⟩ := r'
      exact call_range_2 (range_it I1 q1 q2 q3 q4 q)

/-! ### for -/
/-- W: the invariant by the turn and a measure; N: what the body is to reach -/
def tFor (wi : TI) (g : TG) (tb : TS) : TS := fun D σ H => wi σ H fun J H1 => ∃ W : Nat → Nat → St → Hp → Prop, (∃ m, W 0 m σ H1) ∧ ∀ i m σ H, W i m σ H →
  (J.stop i H ∧ D.nx σ H) ∨ (J.go i H ∧ ∃ N : St → Hp → Prop, (∀ σ' H', N σ' H' → ∃ m', m' < m ∧ W (i + 1) m' σ' H') ∧ ∀ x H', J.yld i H x H' → g x σ H' fun σ2 H2 => tb { D with nx := N, ct := N, bk := D.nx } σ2 H2)
/-- the records at fp as they stand -/
def pinsAt (fp : List Addr) (h : Heap) : List (Addr × Obj) := fp.filterMap fun b => (h.get? b).map fun o => (b, o)
theorem mem_pinsAt {fp : List Addr} {h : Heap} {b : Addr} {o : Obj} (hb : b ∈ fp) (e : h.get? b = some o) : (b, o) ∈ pinsAt fp h := List.mem_filterMap.mpr ⟨b, hb, by rw [e]; rfl⟩
theorem of_pinsAt {fp : List Addr} {h : Heap} {p : Addr × Obj} (hp : p ∈ pinsAt fp h) : p.1 ∈ fp ∧ h.get? p.1 = some p.2 := by
  obtain ⟨b, hb, e⟩ := List.mem_filterMap.mp hp
  cases q : h.get? b with
  | none => rw [q] at e; cases e
  | some o =>
    rw [q] at e
    have e' : (b, o) = p := Option.some.inj e
    subst e'
    exact ⟨hb, q⟩
theorem Inv.pinned {pins : List (Addr × Obj)} {σ : St} {H : Hp} {s : Shared} {fp : List Addr} (I : Inv X pins σ H s) (hf : ∀ b ∈ fp, FpOk X pins H b) (ho : ∀ b ∈ fp, ∃ o, s.heap.get? b = some o ∧ ∀ v, o.data ≠ .cell v) : Inv X (pins ++ pinsAt fp s.heap) σ H s :=
  I.pins_of fun p hp => (List.mem_append.mp hp).elim (fun z => I.pin p (List.mem_append_right _ z)) fun z => by
    obtain ⟨hb, e⟩ := of_pinsAt z
    obtain ⟨f0, f1, f2, _⟩ := hf p.1 hb
    obtain ⟨o, e', d⟩ := ho p.1 hb
    rw [e] at e'; cases e'
    exact ⟨e, f0, f1, f2, d⟩
theorem Inv.unpinned {pins pl : List (Addr × Obj)} {σ : St} {H : Hp} {s : Shared} (I : Inv X (pins ++ pl) σ H s) : Inv X pins σ H s := I.pins_of fun p hp => I.pin p (List.mem_append_right _ (List.mem_append_left _ hp))
theorem ps_for {iter : Expr} {body : List Stmt} {wi : TI} {g : TG} {tb : TS} {pos : Pos} (hp : PassesOwn (model X.prog X.w) X.A X.env X.xe) (hc : X.calm = true) (hi : PI X tg iter wi) (hg : PG X tg g) (hb : PSs X body tb)
    (hs : ∀ x, foldedSetIterable iter X.env x = pure x := by intro _; rfl) : PS X (.For tg iter body [] pos) (tFor wi g tb) := by
  intro pins s σ H D I h
  refine wpAny_For (thn (hi pins s σ H _ I h) fun v s1 h1 => thn h1 fun itv s2 h2 => ?_) hs
  obtain ⟨it, fp, tn, J, H2, e, I2, T, st2, f2, W, ⟨m0, w0⟩, turn⟩ := h2
  subst e
  -- what stays true of the iterator's objects through the loop
  have stat : ∀ {H' : Hp}, (∀ b ∈ fp, H' b = none) → ∀ b ∈ fp, FpOk X pins H' b := fun hn b hb => ⟨hn b hb, (f2 b hb).2⟩
  refine codeAny_forLoop_any (fun n s' => ∃ i σ' H', Inv X pins σ' H' s' ∧ tn i s'.heap ∧ (∀ b ∈ fp, H' b = none) ∧ W i n σ' H') ?_ m0 ⟨0, σ, H2, I2, st2, fun b hb => (f2 b hb).1, w0⟩
  rintro n s3 ⟨i, σ3, H3, I3, st3, fr3, w3⟩
  rcases turn i n σ3 H3 w3 with ⟨stop, qn⟩ | ⟨go, N, hN, step⟩
  · refine wpAny_passesOwn hp (thn (T.done X rfl rfl rfl hc i pins s3 σ3 H3 X.xe I3 (stat fr3) st3 stop) fun r s4 ⟨hr, I4⟩ => ?_)
    subst hr
    exact wpAny_execs_nil ⟨σ3, H3, I4, qn⟩
  · refine wpAny_passesOwn hp (thn (T.item X rfl rfl rfl hc i pins s3 σ3 H3 X.xe I3 (stat fr3) st3 go) fun r s4 ⟨u, hr, h4⟩ => ?_)
    subst hr
    refine wpAny_passesOwn hp (thn h4 fun _ s5 ⟨x, H5, I5, r5, y5, st5, fr5⟩ => ?_)
    have I5' := I5.pinned (stat fr5) (T.obj _ _ st5)
    refine wpAny_passesOwn hp (thn (hg _ s5 σ3 H5 x u _ I5' r5 (step x H5 y5)) fun _ s6 ⟨σ6, H6, I6, q6⟩ => ?_)
    refine wpAny_passesOwn hp (thn (hb _ s6 σ6 H6 _ I6 q6) fun f s7 q7 => ?_)
    have again : ∀ {σ7 : St} {H7 : Hp}, Inv X (pins ++ pinsAt fp s5.heap) σ7 H7 s7 → N σ7 H7 → ∃ m, m < n ∧ ∃ i σ' H', Inv X pins σ' H' s7 ∧ tn i s7.heap ∧ (∀ b ∈ fp, H' b = none) ∧ W i m σ' H' := fun {σ7 H7} I7 n7 => by
      obtain ⟨m', hm, w7⟩ := hN σ7 H7 n7
      refine ⟨m', hm, i + 1, σ7, H7, I7.unpinned, T.keep _ _ _ st5 fun b hb o e => (I7.pin (b, o) (List.mem_append_right _ (List.mem_append_right _ (mem_pinsAt hb e)))).1, fun b hb => ?_, w7⟩
      obtain ⟨o, e, d⟩ := T.obj _ _ st5 b hb
      exact (I7.pin (b, o) (List.mem_append_right _ (List.mem_append_right _ (mem_pinsAt hb e)))).2.1
    cases f with
    | next => obtain ⟨σ7, H7, I7, n7⟩ := q7; exact again I7 n7
    | cont => obtain ⟨σ7, H7, I7, n7⟩ := q7; exact again I7 n7
    | brk => obtain ⟨σ7, H7, I7, q7⟩ := q7; exact ⟨σ7, H7, I7.unpinned, q7⟩
    | ret v => obtain ⟨x7, σ7, H7, I7, r7, q7⟩ := q7; exact ⟨x7, σ7, H7, I7.unpinned, r7, q7⟩
end

/-! ### the forms one uses -/
/-- over a list that the body leaves as it is -/
theorem for_list {K : PySem.W.Frag} {a : Addr} {xs : List V} {g : TG} {tb : TS} {D : Ends} {σ : St} {H : Hp} (Pv : Nat → St → Hp → Prop) (h0 : Pv 0 σ H) (hl : ∀ i σ H, i ≤ xs.length → Pv i σ H → SqL K H a xs)
    (hs : ∀ i x σ H, xs[i]? = some x → Pv i σ H → g x σ H fun σ2 H2 => tb { D with nx := Pv (i + 1), ct := Pv (i + 1), bk := D.nx } σ2 H2) (hd : ∀ σ H, Pv xs.length σ H → D.nx σ H) :
    ∃ W : Nat → Nat → St → Hp → Prop, (∃ m, W 0 m σ H) ∧ ∀ i m σ H, W i m σ H →
      ((Itl K a).stop i H ∧ D.nx σ H) ∨ ((Itl K a).go i H ∧ ∃ N : St → Hp → Prop, (∀ σ' H', N σ' H' → ∃ m', m' < m ∧ W (i + 1) m' σ' H') ∧ ∀ x H', (Itl K a).yld i H x H' → g x σ H' fun σ2 H2 => tb { D with nx := N, ct := N, bk := D.nx } σ2 H2) := by
  refine ⟨fun i m σ H => m = xs.length - i ∧ i ≤ xs.length ∧ Pv i σ H, ⟨xs.length, by simp, Nat.zero_le _, h0⟩, ?_⟩
  rintro i m σ H ⟨rfl, hi, p⟩
  have q := hl i σ H hi p
  by_cases hlt : i < xs.length
  · refine .inr ⟨⟨xs, xs[i], q, by simp [hlt]⟩, Pv (i + 1), fun σ' H' p' => ⟨xs.length - (i + 1), by omega, rfl, hlt, p'⟩, fun x H' y => ?_⟩
    obtain ⟨e, y⟩ := y
    subst e
    exact hs i x σ _ (y xs q) p
  · have e : i = xs.length := by omega
    subst e
    exact .inl ⟨⟨xs, q, Nat.le_refl _⟩, hd σ H p⟩
theorem for_tup {K : PySem.W.Frag} {a : Addr} {xs : List V} {g : TG} {tb : TS} {D : Ends} {σ : St} {H : Hp} (Pv : Nat → St → Hp → Prop) (h0 : Pv 0 σ H) (hl : ∀ i σ H, i ≤ xs.length → Pv i σ H → SqT K H a xs)
    (hs : ∀ i x σ H, xs[i]? = some x → Pv i σ H → g x σ H fun σ2 H2 => tb { D with nx := Pv (i + 1), ct := Pv (i + 1), bk := D.nx } σ2 H2) (hd : ∀ σ H, Pv xs.length σ H → D.nx σ H) :
    ∃ W : Nat → Nat → St → Hp → Prop, (∃ m, W 0 m σ H) ∧ ∀ i m σ H, W i m σ H →
      ((Itt K a).stop i H ∧ D.nx σ H) ∨ ((Itt K a).go i H ∧ ∃ N : St → Hp → Prop, (∀ σ' H', N σ' H' → ∃ m', m' < m ∧ W (i + 1) m' σ' H') ∧ ∀ x H', (Itt K a).yld i H x H' → g x σ H' fun σ2 H2 => tb { D with nx := N, ct := N, bk := D.nx } σ2 H2) := by
  refine ⟨fun i m σ H => m = xs.length - i ∧ i ≤ xs.length ∧ Pv i σ H, ⟨xs.length, by simp, Nat.zero_le _, h0⟩, ?_⟩
  rintro i m σ H ⟨rfl, hi, p⟩
  have q := hl i σ H hi p
  by_cases hlt : i < xs.length
  · refine .inr ⟨⟨xs, xs[i], q, by simp [hlt]⟩, Pv (i + 1), fun σ' H' p' => ⟨xs.length - (i + 1), by omega, rfl, hlt, p'⟩, fun x H' y => ?_⟩
    obtain ⟨e, y⟩ := y
    subst e
    exact hs i x σ _ (y xs q) p
  · have e : i = xs.length := by omega
    subst e
    exact .inl ⟨⟨xs, q, Nat.le_refl _⟩, hd σ H p⟩
theorem for_range {lo : Int} {n : Nat} {g : TG} {tb : TS} {D : Ends} {σ : St} {H : Hp} (Pv : Nat → St → Hp → Prop) (h0 : Pv 0 σ H)
    (hs : ∀ i σ H, i < n → Pv i σ H → g (.int (lo + i)) σ H fun σ2 H2 => tb { D with nx := Pv (i + 1), ct := Pv (i + 1), bk := D.nx } σ2 H2) (hd : ∀ σ H, Pv n σ H → D.nx σ H) :
    ∃ W : Nat → Nat → St → Hp → Prop, (∃ m, W 0 m σ H) ∧ ∀ i m σ H, W i m σ H →
      ((Itr lo n).stop i H ∧ D.nx σ H) ∨ ((Itr lo n).go i H ∧ ∃ N : St → Hp → Prop, (∀ σ' H', N σ' H' → ∃ m', m' < m ∧ W (i + 1) m' σ' H') ∧ ∀ x H', (Itr lo n).yld i H x H' → g x σ H' fun σ2 H2 => tb { D with nx := N, ct := N, bk := D.nx } σ2 H2) := by
  refine ⟨fun i m σ H => m = n - i ∧ i ≤ n ∧ Pv i σ H, ⟨n, by simp, Nat.zero_le _, h0⟩, ?_⟩
  rintro i m σ H ⟨rfl, hi, p⟩
  by_cases hlt : i < n
  · refine .inr ⟨hlt, Pv (i + 1), fun σ' H' p' => ⟨n - (i + 1), by omega, rfl, hlt, p'⟩, fun x H' y => ?_⟩
    obtain ⟨e, y⟩ := y
    subst e y
    exact hs i σ _ hlt p
  · have e : i = n := by omega
    subst e
    exact .inl ⟨Nat.le_refl _, hd σ H p⟩
/-- while, by a word and a measure of the state -/
theorem while_by {c : TT} {tb : TS} {D : Ends} {σ : St} {H : Hp} (Pv : St → Hp → Prop) (μ : St → Hp → Nat) (h0 : Pv σ H)
    (hs : ∀ σ H, Pv σ H → c σ H fun b H1 => if b = true then tb { D with nx := fun σ' H' => Pv σ' H' ∧ μ σ' H' < μ σ H, ct := fun σ' H' => Pv σ' H' ∧ μ σ' H' < μ σ H, bk := D.nx } σ H1 else D.nx σ H1)
    (mono : ∀ σ H Q Q', (∀ b H1, Q b H1 → Q' b H1) → c σ H Q → c σ H Q') : tWhile c tb D σ H := by
  refine ⟨fun m σ H => m = μ σ H ∧ Pv σ H, ⟨_, rfl, h0⟩, ?_⟩
  rintro m σ H ⟨rfl, p⟩
  refine mono σ H _ _ (fun b H1 q => ?_) (hs σ H p)
  cases b with
  | true => exact ⟨_, fun σ' H' ⟨p', l⟩ => ⟨_, l, rfl, p'⟩, q⟩
  | false => exact q
end L2

namespace L2
open PySem PySem.Spec PyProof.Rows

abbrev R2 := V → V → Hp → VK → Prop
/-- a two-place operation on values: f is binaryOp op, inplaceOp op or compareOp op -/
def OpR (X : Cx) (f : Value → Value → Sem Value) (r : R2) : Prop :=
  ∀ (pins : List (Addr × Obj)) (s : Shared) (σ : St) (H : Hp) (x y : V) (v u : Value) (Q : VK), Inv X pins σ H s → RelV x v → RelV y u → r x y H Q →
    wpAny (model X.prog X.w) X.A (f v u) (EP X pins σ Q) X.xe s
/-- a one-place operation -/
def UnR (X : Cx) (f : Value → Sem Value) (r : V → Hp → VK → Prop) : Prop :=
  ∀ (pins : List (Addr × Obj)) (s : Shared) (σ : St) (H : Hp) (x : V) (v : Value) (Q : VK), Inv X pins σ H s → RelV x v → r x H Q →
    wpAny (model X.prog X.w) X.A (f v) (EP X pins σ Q) X.xe s
/-- a call of a value that is known (a builtin, a type) with values -/
def CallR (X : Cx) (f : Value) (r : List V → Hp → VK → Prop) : Prop :=
  ∀ (pins : List (Addr × Obj)) (s : Shared) (σ : St) (H : Hp) (xs : List V) (us : List Value) (Q : VK), Inv X pins σ H s → Vals xs us → r xs H Q →
    wpAny (model X.prog X.w) X.A (call f us) (EP X pins σ Q) X.xe s
/-- a value's truth -/
def TruR (X : Cx) (r : V → Hp → (Bool → Hp → Prop) → Prop) : Prop :=
  ∀ (pins : List (Addr × Obj)) (s : Shared) (σ : St) (H : Hp) (x : V) (v : Value) (Q : Bool → Hp → Prop), Inv X pins σ H s → RelV x v → r x H Q →
    wpAny (model X.prog X.w) X.A (truthy v) (TP X pins σ Q) X.xe s

def tOp (r : R2) (ta tb : TE) : TE := fun σ H Q => ta σ H fun x H1 => tb σ H1 fun y H2 => r x y H2 Q
def tUn (r : V → Hp → VK → Prop) (ta : TE) : TE := fun σ H Q => ta σ H fun x H1 => r x H1 Q
/-- ints in, under C, and a value out -/
def rI (C : Int → Int → Prop) (g : Int → Int → V) : R2 := fun x y H Q => ∃ i j, x = .int i ∧ y = .int j ∧ C i j ∧ Q (g i j) H
def rI0 (g : Int → Int → V) : R2 := fun x y H Q => ∃ i j, x = .int i ∧ y = .int j ∧ Q (g i j) H
def rU (g : Int → V) : V → Hp → VK → Prop := fun x H Q => ∃ i, x = .int i ∧ Q (g i) H

section
variable {X : Cx} {a b c : Expr} {ta tb tc : TE} {pos : Pos}

theorem binT (ha : PE X a ta) (hb : PE X b tb) {pins : List (Addr × Obj)} {s : Shared} {σ : St} {H : Hp} {R : V → V → Hp → Prop} (I : Inv X pins σ H s)
    (h : ta σ H fun x H1 => tb σ H1 fun y H2 => R x y H2) {Q : Value → Shared → Prop} {f : Value → Value → Sem Value}
    (hf : ∀ v u s2 x y H2, Inv X pins σ H2 s2 → RelV x v → RelV y u → R x y H2 → wpAny (model X.prog X.w) X.A (f v u) Q X.xe s2) :
    wpAny (model X.prog X.w) X.A (eval a X.env) (fun v s₁ => wpAny (model X.prog X.w) X.A (eval b X.env) (fun u s₂ => wpAny (model X.prog X.w) X.A (f v u) Q X.xe s₂) X.xe s₁) X.xe s := by
  refine thn (ha pins s σ H _ I h) fun v s1 ⟨x, H1, I1, r1, q1⟩ => ?_
  refine thn (hb pins s1 σ H1 _ I1 q1) fun u s2 ⟨y, H2, I2, r2, q2⟩ => ?_
  exact hf v u s2 x y H2 I2 r1 r2 q2

theorem pe_op {op : Operator} {r : R2} (ho : OpR X (binaryOp op) r) (ha : PE X a ta) (hb : PE X b tb) : PE X (.BinOp a op b pos) (tOp r ta tb) := by
  intro pins s σ H Q I h
  exact wpAny_BinOp (binT ha hb I h fun v u s2 x y H2 I2 rx ry q => ho pins s2 σ H2 x y v u Q I2 rx ry q)
theorem pe_un {op : UnaryOp} {r : V → Hp → VK → Prop} (ho : UnR X (unaryOp op) r) (ha : PE X a ta) : PE X (.UnaryOp op a pos) (tUn r ta) := by
  intro pins s σ H Q I h
  exact UnaryOp_ (thn (ha pins s σ H _ I h) fun v s1 ⟨x, H1, I1, r1, q1⟩ => ho pins s1 σ H1 x v Q I1 r1 q1)
/-- a op= e at a name: the name's slot i -/
theorem augR {op : Operator} {r : R2} (ho : OpR X (inplaceOp op) r) {pins : List (Addr × Obj)} {s : Shared} {σ : St} {H : Hp} {x y : V} {v u : Value} {Q : VK} (I : Inv X pins σ H s)
    (rx : RelV x v) (ry : RelV y u) (q : r x y H Q) : wpAny (model X.prog X.w) X.A (inplaceOp op v u) (EP X pins σ Q) X.xe s := ho pins s σ H x y v u Q I rx ry q

/-! ### ints -/
theorem opI {f : Value → Value → Sem Value} {C : Int → Int → Prop} {g : Int → Int → Int}
    (rule : ∀ (i j : Int) (t u : Tok) (s : Shared) (Q : Value → Shared → Prop) (E : Value → Shared → Prop), C i j → Q (.int (g i j) s.toks) { s with toks := s.toks + 1 } → wpAny (model X.prog X.w) X.A (f (.int i t) (.int j u)) Q E s) :
    OpR X f (rI C fun i j => .int (g i j)) := by
  intro pins s σ H x y v u Q I rx ry h
  obtain ⟨i, j, rfl, rfl, hc, q⟩ := h
  obtain ⟨t, rfl⟩ := rx
  obtain ⟨t', rfl⟩ := ry
  exact rule i j t t' s _ _ hc ⟨.int (g i j), H, I.tok _, ⟨_, rfl⟩, q⟩
theorem opI0 {f : Value → Value → Sem Value} {g : Int → Int → Int}
    (rule : ∀ (i j : Int) (t u : Tok) (s : Shared) (Q : Value → Shared → Prop) (E : Value → Shared → Prop), Q (.int (g i j) s.toks) { s with toks := s.toks + 1 } → wpAny (model X.prog X.w) X.A (f (.int i t) (.int j u)) Q E s) :
    OpR X f (rI0 fun i j => .int (g i j)) := by
  intro pins s σ H x y v u Q I rx ry h
  obtain ⟨i, j, rfl, rfl, q⟩ := h
  obtain ⟨t, rfl⟩ := rx
  obtain ⟨t', rfl⟩ := ry
  exact rule i j t t' s _ _ ⟨.int (g i j), H, I.tok _, ⟨_, rfl⟩, q⟩
theorem opB0 {f : Value → Value → Sem Value} {g : Int → Int → Bool}
    (rule : ∀ (i j : Int) (t u : Tok) (s : Shared) (Q : Value → Shared → Prop) (E : Value → Shared → Prop), Q (.bool (g i j)) s → wpAny (model X.prog X.w) X.A (f (.int i t) (.int j u)) Q E s) :
    OpR X f (rI0 fun i j => .bl (g i j)) := by
  intro pins s σ H x y v u Q I rx ry h
  obtain ⟨i, j, rfl, rfl, q⟩ := h
  obtain ⟨t, rfl⟩ := rx
  obtain ⟨t', rfl⟩ := ry
  exact rule i j t t' s _ _ ⟨.bl (g i j), H, I, rfl, q⟩

def CDiv (i j : Int) : Prop := 0 < j ∧ j < 1073741824
def CDivN (i j : Int) : Prop := j ≠ 0 ∧ j.natAbs < 1073741824
def CPow (i j : Int) : Prop := 0 ≤ j ∧ j ≤ 1000000 ∧ i.natAbs < 2 ^ 64
def CMul (i j : Int) : Prop := (-(2 ^ 64) < i ∧ i < 2 ^ 64) ∨ (-(2 ^ 64) < j ∧ j < 2 ^ 64)
theorem CMul.ok {i j : Int} (h : CMul i j) : IntMulOk i j := by
  rcases h with ⟨h1, h2⟩ | ⟨h1, h2⟩
  · exact .of_left (intBits_le_64 h1 h2)
  · exact .of_right (intBits_le_64 h1 h2)
theorem two_pow_nn (k : Nat) : (0 : Int) ≤ 2 ^ k := by
  rw [two_pow_cast]
  exact Int.natCast_nonneg _

theorem op_add : OpR X (binaryOp .Add) (rI0 fun i j => .int (i + j)) := opI0 fun _ _ _ _ _ _ _ q => add_int q
theorem op_sub : OpR X (binaryOp .Sub) (rI0 fun i j => .int (i - j)) := opI0 fun _ _ _ _ _ _ _ q => sub_int q
theorem op_mul : OpR X (binaryOp .Mult) (rI CMul fun i j => .int (i * j)) := opI fun _ _ _ _ _ _ _ hc q => mul_int q hc.ok
/-- // by a positive divisor -/
theorem op_fdiv : OpR X (binaryOp .FloorDiv) (rI CDiv fun i j => .int (i / j)) := opI fun i j _ _ _ _ _ hc q => by
  have h1 : (0 : Int) < j := hc.1
  have h2 : j < 1073741824 := hc.2
  exact floordiv_int (by omega) (by rw [Int.fdiv_eq_ediv_of_nonneg i (by omega)]; exact q) (.inl (PyProof.noPylong_small (by omega)))
theorem op_fdivN : OpR X (binaryOp .FloorDiv) (rI CDivN fun i j => .int (i.fdiv j)) := opI fun _ _ _ _ _ _ _ hc q => floordiv_int hc.1 q (.inl (PyProof.noPylong_small hc.2))
/-- % by a positive divisor of any size -/
theorem op_mod : OpR X (binaryOp .Mod) (rI (fun _ j => 0 < j) fun i j => .int (i % j)) := opI fun i j _ _ _ _ _ hc q => by
  have h1 : (0 : Int) < j := hc
  exact mod_int' (by omega) (by rw [Int.fmod_eq_emod_of_nonneg i (by omega)]; exact q)
theorem op_modN : OpR X (binaryOp .Mod) (rI (fun _ j => j ≠ 0) fun i j => .int (i.fmod j)) := opI fun _ _ _ _ _ _ _ hc q => mod_int' hc q
theorem op_pow : OpR X (binaryOp .Pow) (rI CPow fun i j => .int (i ^ j.toNat)) := opI fun _ _ _ _ _ _ _ hc q => pow_int_small hc.1 hc.2.1 hc.2.2 q
theorem op_shl : OpR X (binaryOp .LShift) (rI CPow fun i j => .int (i * 2 ^ j.toNat)) := opI fun _ _ _ _ _ _ _ hc q => lshift_int_small hc.1 hc.2.1 hc.2.2 q
theorem op_shr : OpR X (binaryOp .RShift) (rI (fun _ j => 0 ≤ j) fun i j => .int (i / 2 ^ j.toNat)) := opI fun i j _ _ _ _ _ hc q =>
  rshift_int hc (by rw [Int.fdiv_eq_ediv_of_nonneg i (two_pow_nn _)]; exact q)
theorem op_and : OpR X (binaryOp .BitAnd) (rI0 fun i j => .int (Builtin.bitAnd i j)) := opI0 fun _ _ _ _ _ _ _ q => and_int q
theorem op_or : OpR X (binaryOp .BitOr) (rI0 fun i j => .int (Builtin.bitOr i j)) := opI0 fun _ _ _ _ _ _ _ q => or_int q
theorem op_xor : OpR X (binaryOp .BitXor) (rI0 fun i j => .int (Builtin.bitXor i j)) := opI0 fun _ _ _ _ _ _ _ q => xor_int q

theorem iop_add : OpR X (inplaceOp .Add) (rI0 fun i j => .int (i + j)) := opI0 fun _ _ _ _ _ _ _ q => iadd_int q
theorem iop_sub : OpR X (inplaceOp .Sub) (rI0 fun i j => .int (i - j)) := opI0 fun _ _ _ _ _ _ _ q => isub_int q
theorem iop_mul : OpR X (inplaceOp .Mult) (rI CMul fun i j => .int (i * j)) := opI fun _ _ _ _ _ _ _ hc q => imul_int q hc.ok
theorem iop_fdiv : OpR X (inplaceOp .FloorDiv) (rI CDiv fun i j => .int (i / j)) := opI fun i j _ _ _ _ _ hc q => by
  have h1 : (0 : Int) < j := hc.1
  have h2 : j < 1073741824 := hc.2
  exact ifloordiv_int (by omega) (by rw [Int.fdiv_eq_ediv_of_nonneg i (by omega)]; exact q) (.inl (PyProof.noPylong_small (by omega)))
theorem iop_mod : OpR X (inplaceOp .Mod) (rI (fun _ j => 0 < j) fun i j => .int (i % j)) := opI fun i j _ _ _ _ _ hc q => by
  have h1 : (0 : Int) < j := hc
  exact imod_int (by omega) (by rw [Int.fmod_eq_emod_of_nonneg i (by omega)]; exact q)
theorem iop_shl : OpR X (inplaceOp .LShift) (rI CPow fun i j => .int (i * 2 ^ j.toNat)) := opI fun _ _ _ _ _ _ _ hc q => ilshift_int_small hc.1 hc.2.1 hc.2.2 q
theorem iop_shr : OpR X (inplaceOp .RShift) (rI (fun _ j => 0 ≤ j) fun i j => .int (i / 2 ^ j.toNat)) := opI fun i j _ _ _ _ _ hc q =>
  irshift_int hc (by rw [Int.fdiv_eq_ediv_of_nonneg i (two_pow_nn _)]; exact q)
theorem iop_and : OpR X (inplaceOp .BitAnd) (rI0 fun i j => .int (Builtin.bitAnd i j)) := opI0 fun _ _ _ _ _ _ _ q => iand_int q
theorem iop_or : OpR X (inplaceOp .BitOr) (rI0 fun i j => .int (Builtin.bitOr i j)) := opI0 fun _ _ _ _ _ _ _ q => ior_int q
theorem iop_xor : OpR X (inplaceOp .BitXor) (rI0 fun i j => .int (Builtin.bitXor i j)) := opI0 fun _ _ _ _ _ _ _ q => ixor_int q

theorem unI {f : Value → Sem Value} {g : Int → Int}
    (rule : ∀ (i : Int) (t : Tok) (s : Shared) (Q : Value → Shared → Prop) (E : Value → Shared → Prop), Q (.int (g i) s.toks) { s with toks := s.toks + 1 } → wpAny (model X.prog X.w) X.A (f (.int i t)) Q E s) :
    UnR X f (rU fun i => .int (g i)) := by
  intro pins s σ H x v Q I rx h
  obtain ⟨i, rfl, q⟩ := h
  obtain ⟨t, rfl⟩ := rx
  exact rule i t s _ _ ⟨.int (g i), H, I.tok _, ⟨_, rfl⟩, q⟩
theorem un_neg : UnR X (unaryOp .USub) (rU fun i => .int (-i)) := unI fun _ _ _ _ _ q => neg_int q
theorem un_inv : UnR X (unaryOp .Invert) (rU fun i => .int (Builtin.bitNot i)) := unI fun _ _ _ _ _ q => invert_int q

/-! ### bools among ints: n += (a < b) -/
theorem op_add_ib : OpR X (binaryOp .Add) (fun x y H Q => ∃ i k, x = .int i ∧ y = .bl k ∧ Q (.int (i + b2i k)) H) := by
  intro pins s σ H x y v u Q I rx ry h
  obtain ⟨i, k, rfl, rfl, q⟩ := h
  obtain ⟨t, rfl⟩ := rx
  cases ry
  exact add_int_bool ⟨.int (i + b2i k), H, I.tok _, ⟨_, rfl⟩, q⟩
end

/-! ### comparisons -/
/-- the scalars that == tells apart as data does -/
def scal : V → V → Bool
  | .non, .non => true | .non, .int _ => true | .int _, .non => true | .non, .bl _ => true | .bl _, .non => true | .non, .str _ => true | .str _, .non => true
  | .int _, .int _ => true | .bl _, .bl _ => true | .str _, .str _ => true | .byt _, .byt _ => true
  | .int _, .str _ => true | .str _, .int _ => true | .bl _, .str _ => true | .str _, .bl _ => true
  | _, _ => false
def rEq : R2 := fun x y H Q => scal x y = true ∧ Q (.bl (decide (x = y))) H
def rNe : R2 := fun x y H Q => scal x y = true ∧ Q (.bl (!decide (x = y))) H

theorem dec_int {i j : Int} : decide (V.int i = V.int j) = (i == j) := by
  rw [Bool.eq_iff_iff]
  simp
theorem dec_bl {i j : Bool} : decide (V.bl i = V.bl j) = (i == j) := by
  rw [Bool.eq_iff_iff]
  simp
theorem dec_str {i j : Str} : decide (V.str i = V.str j) = (i == j) := by
  rw [Bool.eq_iff_iff]
  simp
theorem dec_byt {i j : Array UInt8} : decide (V.byt i = V.byt j) = (i.toList == j.toList) := by
  rw [Bool.eq_iff_iff]
  cases i
  cases j
  simp

section
variable {X : Cx} {a b c : Expr} {ta tb tc : TE} {pos : Pos}
theorem fin_bl {pins : List (Addr × Obj)} {σ : St} {H : Hp} {s : Shared} {Q : VK} {k k' : Bool} (I : Inv X pins σ H s) (q : Q (.bl k) H) (e : k = k') : EP X pins σ Q (.bool k') s := by
  subst e
  exact ⟨.bl k, H, I, rfl, q⟩
theorem op_eq : OpR X (compareOp .Eq) rEq := by
  intro pins s σ H x y v u Q I rx ry h
  obtain ⟨hs, q⟩ := h
  cases x with
  | non =>
    cases rx
    cases y with
    | non => cases ry; exact PySem.EqNone.eq_none_none (fin_bl I q (by simp))
    | bl j => cases ry; exact PySem.EqNone.eq_none_bool (fin_bl I q (by simp))
    | int j => obtain ⟨t', rfl⟩ := ry; exact PySem.EqNone.eq_none_int (fin_bl I q (by simp))
    | str j => obtain ⟨t', rfl⟩ := ry; exact PySem.EqNone.eq_none_str (fin_bl I q (by simp))
    | _ => exact absurd (show false = true from hs) Bool.false_ne_true
  | bl i =>
    cases rx
    cases y with
    | non => cases ry; exact PySem.EqNone.eq_bool_none (fin_bl I q (by simp))
    | bl j => cases ry; exact eq_bool (fin_bl I q dec_bl)
    | str j => obtain ⟨t', rfl⟩ := ry; exact PySem.EqMixed.eq_bool_str (fin_bl I q (by simp))
    | _ => exact absurd (show false = true from hs) Bool.false_ne_true
  | int i =>
    obtain ⟨t, rfl⟩ := rx
    cases y with
    | non => cases ry; exact PySem.EqNone.eq_int_none (fin_bl I q (by simp))
    | int j => obtain ⟨t', rfl⟩ := ry; exact eq_int (fin_bl I q dec_int)
    | str j => obtain ⟨t', rfl⟩ := ry; exact PySem.EqMixed.eq_int_str (fin_bl I q (by simp))
    | _ => exact absurd (show false = true from hs) Bool.false_ne_true
  | str i =>
    obtain ⟨t, rfl⟩ := rx
    cases y with
    | non => cases ry; exact PySem.EqNone.eq_str_none (fin_bl I q (by simp))
    | bl j => cases ry; exact PySem.EqMixed.eq_str_bool (fin_bl I q (by simp))
    | int j => obtain ⟨t', rfl⟩ := ry; exact PySem.EqMixed.eq_str_int (fin_bl I q (by simp))
    | str j => obtain ⟨t', rfl⟩ := ry; exact eq_str (fin_bl I q dec_str)
    | _ => exact absurd (show false = true from hs) Bool.false_ne_true
  | byt i =>
    obtain ⟨t, rfl⟩ := rx
    cases y with
    | byt j => obtain ⟨t', rfl⟩ := ry; exact PySem.W.eq_bytes (fin_bl I q dec_byt)
    | _ => exact absurd (show false = true from hs) Bool.false_ne_true
  | _ => cases y <;> exact absurd (show false = true from hs) Bool.false_ne_true
theorem op_ne : OpR X (compareOp .NotEq) rNe := by
  intro pins s σ H x y v u Q I rx ry h
  obtain ⟨hs, q⟩ := h
  cases x with
  | non =>
    cases rx
    cases y with
    | non => cases ry; exact PySem.EqNone.ne_none_none (fin_bl I q (by simp))
    | bl j => cases ry; exact PySem.EqNone.ne_none_bool (fin_bl I q (by simp))
    | int j => obtain ⟨t', rfl⟩ := ry; exact PySem.EqNone.ne_none_int (fin_bl I q (by simp))
    | str j => obtain ⟨t', rfl⟩ := ry; exact PySem.EqNone.ne_none_str (fin_bl I q (by simp))
    | _ => exact absurd (show false = true from hs) Bool.false_ne_true
  | bl i =>
    cases rx
    cases y with
    | non => cases ry; exact PySem.EqNone.ne_bool_none (fin_bl I q (by simp))
    | bl j => cases ry; exact ne_bool (fin_bl I q (congrArg not dec_bl))
    | str j => obtain ⟨t', rfl⟩ := ry; exact PySem.EqMixed.ne_bool_str (fin_bl I q (by simp))
    | _ => exact absurd (show false = true from hs) Bool.false_ne_true
  | int i =>
    obtain ⟨t, rfl⟩ := rx
    cases y with
    | non => cases ry; exact PySem.EqNone.ne_int_none (fin_bl I q (by simp))
    | int j => obtain ⟨t', rfl⟩ := ry; exact ne_int (fin_bl I q (congrArg not dec_int))
    | str j => obtain ⟨t', rfl⟩ := ry; exact PySem.EqMixed.ne_int_str (fin_bl I q (by simp))
    | _ => exact absurd (show false = true from hs) Bool.false_ne_true
  | str i =>
    obtain ⟨t, rfl⟩ := rx
    cases y with
    | non => cases ry; exact PySem.EqNone.ne_str_none (fin_bl I q (by simp))
    | bl j => cases ry; exact PySem.EqMixed.ne_str_bool (fin_bl I q (by simp))
    | int j => obtain ⟨t', rfl⟩ := ry; exact PySem.EqMixed.ne_str_int (fin_bl I q (by simp))
    | str j => obtain ⟨t', rfl⟩ := ry; exact ne_str (fin_bl I q (congrArg not dec_str))
    | _ => exact absurd (show false = true from hs) Bool.false_ne_true
  | byt i =>
    obtain ⟨t, rfl⟩ := rx
    cases y with
    | byt j => obtain ⟨t', rfl⟩ := ry; exact PySem.W.ne_bytes (fin_bl I q (congrArg not dec_byt))
    | _ => exact absurd (show false = true from hs) Bool.false_ne_true
  | _ => cases y <;> exact absurd (show false = true from hs) Bool.false_ne_true

theorem op_lt : OpR X (compareOp .Lt) (rI0 fun i j => .bl (decide (i < j))) := opB0 fun _ _ _ _ _ _ _ q => lt_int q
theorem op_le : OpR X (compareOp .LtE) (rI0 fun i j => .bl (decide (i ≤ j))) := opB0 fun _ _ _ _ _ _ _ q => le_int q
theorem op_gt : OpR X (compareOp .Gt) (rI0 fun i j => .bl (decide (j < i))) := opB0 fun _ _ _ _ _ _ _ q => gt_int q
theorem op_ge : OpR X (compareOp .GtE) (rI0 fun i j => .bl (decide (j ≤ i))) := opB0 fun _ _ _ _ _ _ _ q => ge_int q
theorem op_lt_str : OpR X (compareOp .Lt) (fun x y H Q => ∃ i j, x = .str i ∧ y = .str j ∧ Q (.bl (decide (i.cps.toList < j.cps.toList))) H) := by
  intro pins s σ H x y v u Q I rx ry h
  obtain ⟨i, j, rfl, rfl, q⟩ := h
  obtain ⟨t, rfl⟩ := rx
  obtain ⟨t', rfl⟩ := ry
  exact lt_str (fin_bl I q rfl)
/-- the one string within the other -/
theorem op_in_str : OpR X (compareOp .In) (fun x y H Q => ∃ i j, x = .str i ∧ y = .str j ∧ Q (.bl (!(Builtin.Str.occurrences j i 0 j.length 1).isEmpty)) H) := by
  intro pins s σ H x y v u Q I rx ry h
  obtain ⟨i, j, rfl, rfl, q⟩ := h
  obtain ⟨t, rfl⟩ := rx
  obtain ⟨t', rfl⟩ := ry
  exact in_str (fin_bl I q rfl)

/-- is None, is not None: the right side a value none -/
theorem op_isN : OpR X (compareOp .Is) (fun x y H Q => y = .non ∧ Q (.bl (decide (x = .non))) H) := by
  intro pins s σ H x y v u Q I rx ry h
  obtain ⟨rfl, q⟩ := h
  cases ry
  refine is_none_gen (fin_bl I q ?_)
  cases x <;> first
    | (cases rx; rfl)
    | (obtain ⟨t, rfl⟩ := rx; rfl)
theorem op_notN : OpR X (compareOp .IsNot) (fun x y H Q => y = .non ∧ Q (.bl (!decide (x = .non))) H) := by
  intro pins s σ H x y v u Q I rx ry h
  obtain ⟨rfl, q⟩ := h
  cases ry
  refine isnot_none_gen (fin_bl I q ?_)
  cases x <;> first
    | (cases rx; rfl)
    | (obtain ⟨t, rfl⟩ := rx; rfl)

theorem op_notin_str : OpR X (compareOp .NotIn) (fun x y H Q => ∃ i j, x = .str i ∧ y = .str j ∧ Q (.bl (!(!(Builtin.Str.occurrences j i 0 j.length 1).isEmpty))) H) := by
  intro pins s σ H x y v u Q I rx ry h
  obtain ⟨i, j, rfl, rfl, q⟩ := h
  obtain ⟨t, rfl⟩ := rx
  obtain ⟨t', rfl⟩ := ry
  exact notIn_str (fin_bl I q rfl)
/-- is, is not of two objects that are tracked lists or instances -/
def isObj : HO → Bool
  | .lst _ => true
  | .ins _ _ _ => true
  | _ => false
theorem obj_there {pins : List (Addr × Obj)} {s : Shared} {σ : St} {H : Hp} {a : Addr} {o : HO} (I : Inv X pins σ H s) (h : H a = some o) (p : isObj o = true) : ∃ ob, s.heap.get? a = some ob ∧ ob.cls ≠ .type "tuple" := by
  cases o with
  | lst xs =>
    obtain ⟨_, its, n, _, e⟩ : xs.length ≤ sizeLine ∧ ∃ (its : List Value) (n : Nat), Vals xs its ∧ s.heap.get? a = some { cls := .type "list", data := .seq its.toArray n } := I.hok a _ h
    exact ⟨_, e, (by show Value.type "list" ≠ .type "tuple"; decide +kernel)⟩
  | ins C dx fs =>
    have x := I.hok a _ h
    obtain ⟨_, _, _, e, _⟩ := x
    exact ⟨_, e, (by show Value.ref C ≠ .type "tuple"; exact fun z => by cases z)⟩
  | _ => exact absurd (show false = true from p) Bool.false_ne_true
theorem op_is_ref : OpR X (compareOp .Is) (fun x y H Q => ∃ a b oa ob, x = .ref a ∧ y = .ref b ∧ H a = some oa ∧ isObj oa = true ∧ H b = some ob ∧ isObj ob = true ∧ Q (.bl (decide (a = b))) H) := by
  intro pins s σ H x y v u Q I rx ry h
  obtain ⟨a, b, oa, ob, rfl, rfl, ha, pa, hb, pb, q⟩ := h
  cases rx
  cases ry
  obtain ⟨o1, e1, n1⟩ := obj_there I ha pa
  obtain ⟨o2, e2, _⟩ := obj_there I hb pb
  by_cases z : a = b
  · subst z
    exact wpAny_is_ref_self (fin_bl I q (by simp))
  · exact wpAny_is_ref_other z e1 e2 n1 (fin_bl I q (by simp [z]))
theorem op_isnot_ref : OpR X (compareOp .IsNot) (fun x y H Q => ∃ a b oa ob, x = .ref a ∧ y = .ref b ∧ H a = some oa ∧ isObj oa = true ∧ H b = some ob ∧ isObj ob = true ∧ Q (.bl (!decide (a = b))) H) := by
  intro pins s σ H x y v u Q I rx ry h
  obtain ⟨a, b, oa, ob, rfl, rfl, ha, pa, hb, pb, q⟩ := h
  cases rx
  cases ry
  obtain ⟨o1, e1, n1⟩ := obj_there I ha pa
  obtain ⟨o2, e2, _⟩ := obj_there I hb pb
  by_cases z : a = b
  · subst z
    exact wpAny_isNot_ref_self (fin_bl I q (by simp))
  · exact wpAny_isNot_ref_other z e1 e2 n1 (fin_bl I q (by simp [z]))

/-- two rules for one operation: by cases -/
theorem OpR.or {f : Value → Value → Sem Value} {r r' : R2} (h : OpR X f r) (h' : OpR X f r') : OpR X f (fun x y H Q => r x y H Q ∨ r' x y H Q) := by
  intro pins s σ H x y v u Q I rx ry q
  rcases q with q | q
  · exact h pins s σ H x y v u Q I rx ry q
  · exact h' pins s σ H x y v u Q I rx ry q

theorem nomark (b : Expr) {op : CmpOp} (h : op ≠ .In := by decide) (h2 : op ≠ .NotIn := by decide) : behindInMarks op b = false := by
  have e1 : (op == CmpOp.In) = false := by cases op <;> first | rfl | exact absurd rfl h
  have e2 : (op == CmpOp.NotIn) = false := by cases op <;> first | rfl | exact absurd rfl h2
  cases b <;> simp [behindInMarks, e1, e2]
/-- a comparison as a value; hm: nomark b, or (for in, not in) by with_unfolding_all rfl -/
theorem pe_cmpR {op : CmpOp} {r : R2} (ho : OpR X (compareOp op) r) (ha : PE X a ta) (hb : PE X b tb) (hm : behindInMarks op b = false) : PE X (.Compare a [op] [b] pos) (tOp r ta tb) := by
  intro pins s σ H Q I h
  exact wpAny_Compare1 (binT ha hb I h fun v u s2 x y H2 I2 rx ry q => ho pins s2 σ H2 x y v u Q I2 rx ry q) hm
/-- a reading of a value as a test -/
def tTest (t : TE) : TT := fun σ H Q => t σ H fun x H' => ∃ k, x = .bl k ∧ Q k H'
theorem pt_cmpR {op : CmpOp} {r : R2} (ho : OpR X (compareOp op) r) (ha : PE X a ta) (hb : PE X b tb) (hm : behindInMarks op b = false) : PT X (.Compare a [op] [b] pos) (tTest (tOp r ta tb)) := by
  intro pins s σ H Q I h
  refine wpAny_isTrue_Compare1 (thn (ha pins s σ H _ I h) fun v s1 ⟨x, H1, I1, r1, q1⟩ => thn (hb pins s1 σ H1 _ I1 q1) fun u s2 ⟨y, H2, I2, r2, q2⟩ =>
    thn (ho pins s2 σ H2 x y v u _ I2 r1 r2 q2) fun c s3 ⟨z, H3, I3, r3, k, e, q3⟩ => ?_) hm
  subst e
  cases r3
  exact wpAny_truthy_bool ⟨H3, I3, q3⟩
/-- a op1 b op2 c -/
def tChain (r r' : R2) (ta tb tc : TE) : TE := fun σ H Q => ta σ H fun x H1 => tb σ H1 fun y H2 => r x y H2 fun z H3 => ∃ k, z = .bl k ∧
  (if k = true then tc σ H3 fun w' H4 => r' y w' H4 Q else Q (.bl false) H3)
theorem pe_chain {op op' : CmpOp} {r r' : R2} (ho : OpR X (compareOp op) r) (ho' : OpR X (compareOp op') r') (ha : PE X a ta) (hb : PE X b tb) (hc : PE X c tc)
    (hm : lastMarks [op, op'] [b, c] = false := by with_unfolding_all rfl) : PE X (.Compare a [op, op'] [b, c] pos) (tChain r r' ta tb tc) := by
  intro pins s σ H Q I h
  refine Compare_chain (thn (ha pins s σ H _ I h) fun v s1 ⟨x, H1, I1, r1, q1⟩ => chain_link (thn (hb pins s1 σ H1 _ I1 q1) fun u s2 ⟨y, H2, I2, r2, q2⟩ =>
    thn (ho pins s2 σ H2 x y v u _ I2 r1 r2 q2) fun d s3 ⟨z, H3, I3, r3, k, e, q3⟩ => ?_)) hm
  subst e
  cases r3
  refine wpAny_truthy_bool ?_
  cases k with
  | false => exact ite_ff ⟨.bl false, H3, I3, rfl, q3⟩
  | true => exact ite_tt (chain_last (thn (hc pins s3 σ H3 _ I3 q3) fun w' s4 ⟨z', H4, I4, r4, q4⟩ => ho' pins s4 σ H4 y z' u w' Q I4 r2 r4 q4))
theorem pt_chain {op op' : CmpOp} {r r' : R2} (ho : OpR X (compareOp op) r) (ho' : OpR X (compareOp op') r') (ha : PE X a ta) (hb : PE X b tb) (hc : PE X c tc)
    (hm : lastMarks [op, op'] [b, c] = false := by with_unfolding_all rfl) : PT X (.Compare a [op, op'] [b, c] pos) (tTest (tChain r r' ta tb tc)) := by
  intro pins s σ H Q I h
  refine isTrue_chain (thn (ha pins s σ H _ I h) fun v s1 ⟨x, H1, I1, r1, q1⟩ => test_link (thn (hb pins s1 σ H1 _ I1 q1) fun u s2 ⟨y, H2, I2, r2, q2⟩ =>
    thn (ho pins s2 σ H2 x y v u _ I2 r1 r2 q2) fun d s3 ⟨z, H3, I3, r3, k, e, q3⟩ => ?_)) hm
  subst e
  cases r3
  refine wpAny_truthy_bool ?_
  cases k with
  | false =>
    obtain ⟨k', e', q'⟩ := q3
    cases e'
    exact ite_ff ⟨H3, I3, q'⟩
  | true =>
    refine ite_tt (test_last (thn (hc pins s3 σ H3 _ I3 q3) fun w' s4 ⟨z', H4, I4, r4, q4⟩ => thn (ho' pins s4 σ H4 y z' u w' _ I4 r2 r4 q4) fun d' s5 ⟨z2, H5, I5, r5, k2, e2, q5⟩ => ?_))
    subst e2
    cases r5
    exact wpAny_truthy_bool ⟨H5, I5, q5⟩

/-! ### truth -/
/-- a value's truth by the abstract heap -/
def TruV (K : PySem.W.Frag) (x : V) (H : Hp) (k : Bool) : Prop :=
  match x with
  | .non => k = false
  | .bl b => k = b
  | .int i => k = (i != 0)
  | .str y => y.length ≤ sizeLine ∧ k = ((y.length : Int) != 0)
  | .byt y => y.size ≤ sizeLine ∧ k = ((y.size : Int) != 0)
  | .ref p => (∃ xs, SqL K H p xs ∧ k = !xs.isEmpty) ∨ (∃ xs, SqT K H p xs ∧ k = !xs.isEmpty) ∨ ∃ kvs, H p = some (.dK kvs) ∧ k = !kvs.isEmpty
  | _ => False
theorem isEmpty_kv {κ : Type} {kvs : List (κ × V)} {vs : List (κ × Value)} (r : KV kvs vs) : (!vs.isEmpty) = !kvs.isEmpty := by
  cases r <;> rfl
theorem isEmpty_of {xs : List V} {its : List Value} (r : Vals xs its) : (!its.toArray.isEmpty) = !xs.isEmpty := by
  cases r <;> simp
theorem line63 : (sizeLine : Nat) < 2 ^ 63 := by rw [sizeLine_eq]; decide
theorem tru_ok : TruR X (fun x H Q => ∃ k, TruV X.K x H k ∧ Q k H) := by
  intro pins s σ H x v Q I rx h
  obtain ⟨k, e, q⟩ := h
  have hl := line63
  have hs : sizeLine = 16777216 := sizeLine_eq
  cases x with
  | non =>
    cases rx
    have e' : k = false := e
    subst e'
    exact truthy_none ⟨H, I, q⟩
  | bl b =>
    cases rx
    have e' : k = b := e
    subst e'
    exact wpAny_truthy_bool ⟨H, I, q⟩
  | int i =>
    obtain ⟨t, rfl⟩ := rx
    have e' : k = (i != 0) := e
    subst e'
    exact PySem.P.truthy_int ⟨H, I, q⟩
  | str y =>
    obtain ⟨t, rfl⟩ := rx
    obtain ⟨hy, e'⟩ : y.length ≤ sizeLine ∧ k = ((y.length : Int) != 0) := e
    subst e'
    exact PySem.P.truthy_str (by omega) ⟨H, I.tok _, q⟩
  | byt y =>
    obtain ⟨t, rfl⟩ := rx
    obtain ⟨hy, e'⟩ : y.size ≤ sizeLine ∧ k = ((y.size : Int) != 0) := e
    subst e'
    exact PySem.W.truthy_bytes (by omega) ⟨H, I.tok _, q⟩
  | ref p =>
    cases rx
    have e' : (∃ xs, SqL X.K H p xs ∧ k = !xs.isEmpty) ∨ (∃ xs, SqT X.K H p xs ∧ k = !xs.isEmpty) ∨ ∃ kvs, H p = some (.dK kvs) ∧ k = !kvs.isEmpty := e
    rcases e' with ⟨xs, hx, e'⟩ | ⟨xs, hx, e'⟩ | ⟨kvs, hx, e'⟩
    · subst e'
      obtain ⟨its, r, pl, hz⟩ := I.list hx
      have hlen := r.length
      exact wpAny_truthy_list pl.isList (by simp only [List.size_toArray]; omega) ⟨H, I.tok _, by rw [isEmpty_of r]; exact q⟩
    · subst e'
      obtain ⟨its, r, pl, hz⟩ := I.tuple hx
      have hlen := r.length
      exact truthy_tuple pl (by simp only [List.size_toArray]; omega) ⟨H, I.tok _, by rw [isEmpty_of r]; exact q⟩
    · subst e'
      obtain ⟨hz, hS, vs, r, m⟩ : kvs.length ≤ sizeLine ∧ (p == sysModules) = false ∧ ∃ vs, KV kvs vs ∧ s.heap.DictOf (mixKind X.prog X.w) p vs := I.hok p _ hx
      have hlen : kvs.length = vs.length := Paired.length r
      exact wpAny_truthy_dict hS m (by omega) ⟨H, I.tok _, by rw [isEmpty_kv r]; exact q⟩
  | _ => exact (show False from e).elim
/-- any expression whose test is its value's truth (a name, a call, a subscript, a field ..: he by fun _ => rfl) -/
theorem pt_truth (ha : PE X a ta) (he : ∀ whole, isTrue a X.env whole = (do let v ← whole; standAt a.pos; holding [v] (truthy v))) :
    PT X a (fun σ H Q => ta σ H fun x H' => ∃ k, TruV X.K x H' k ∧ Q k H') := by
  intro pins s σ H Q I h
  exact isTrue_plain (thn (ha pins s σ H _ I h) fun v s1 ⟨x, H1, I1, r1, q1⟩ => tru_ok pins s1 σ H1 x v Q I1 r1 q1) (he _)

/-! ### strs and bytes -/
theorem pe_byt {x : List UInt8} {k : Nat} : PE X (.Constant (.bytes x) k pos) (fun _ H Q => Q (.byt x.toArray) H) := fun _ _ _ H _ I h => PySem.W.Constant_bytes ⟨.byt x.toArray, H, I.tok _, ⟨_, rfl⟩, h⟩
theorem op_add_str : OpR X (binaryOp .Add) (fun x y H Q => ∃ i j, x = .str i ∧ y = .str j ∧ i.length + j.length ≤ sizeLine ∧ Q (.str (i ++ j)) H) := by
  intro pins s σ H x y v u Q I rx ry h
  obtain ⟨i, j, rfl, rfl, hz, q⟩ := h
  obtain ⟨t, rfl⟩ := rx
  obtain ⟨t', rfl⟩ := ry
  exact add_str (fun t' tk => ⟨.str (i ++ j), H, I.tok _, ⟨_, rfl⟩, q⟩) hz
theorem iop_add_str : OpR X (inplaceOp .Add) (fun x y H Q => ∃ i j, x = .str i ∧ y = .str j ∧ i.length + j.length ≤ sizeLine ∧ Q (.str (i ++ j)) H) := by
  intro pins s σ H x y v u Q I rx ry h
  obtain ⟨i, j, rfl, rfl, hz, q⟩ := h
  obtain ⟨t, rfl⟩ := rx
  obtain ⟨t', rfl⟩ := ry
  exact iadd_str (fun t' tk => ⟨.str (i ++ j), H, I.tok _, ⟨_, rfl⟩, q⟩) hz
theorem op_add_byt : OpR X (binaryOp .Add) (fun x y H Q => ∃ i j, x = .byt i ∧ y = .byt j ∧ i.size + j.size ≤ 16777216 ∧ Q (.byt (i ++ j)) H) := by
  intro pins s σ H x y v u Q I rx ry h
  obtain ⟨i, j, rfl, rfl, hz, q⟩ := h
  obtain ⟨t, rfl⟩ := rx
  obtain ⟨t', rfl⟩ := ry
  exact PySem.W.KBy.add_bytes hz (fun t' tk => ⟨.byt (i ++ j), H, I.tok _, ⟨_, rfl⟩, q⟩)

def PlainIxT (b : Expr) : Prop := ∀ o i, subscripted b false o i = operate [o, i] (getItem o i)
/-- s[i], 0 ≤ i < len -/
theorem pe_item_str (ha : PE X a ta) (hb : PE X b tb) (hs : PlainIxT b) :
    PE X (.Subscript a b pos) (tOp (fun x y H Q => ∃ z i c, x = .str z ∧ y = .int i ∧ 0 ≤ i ∧ i < 2 ^ 63 ∧ i < z.length ∧ z.cps[i.toNat]? = some c ∧ Q (.str ⟨#[c]⟩) H) ta tb) := by
  intro pins s σ H Q I h
  refine Subscript_ (binT ha hb I h fun v u s2 x y H2 I2 rx ry q => ?_)
  obtain ⟨z, i, c, rfl, rfl, h0, h63, h1, hc, q⟩ := q
  obtain ⟨t, rfl⟩ := rx
  obtain ⟨t', rfl⟩ := ry
  have e : seqIndex? i z.length = some i.toNat := PySem.StrLaws.seqIndex_nonneg h0 h1
  exact tail_any (typeIs_str s2 z t) slot_str_getitem.lookup (getItem_str (c := c) (by
    have e1 : decide (i < -(2 ^ 63 : Int)) = false := decide_eq_false (by omega)
    have e2 : decide (i ≥ 2 ^ 63) = false := decide_eq_false (by omega)
    rw [e1, e2] <;> rfl) (by rw [e]; exact hc) ⟨.str ⟨#[c]⟩, H2, I2.tok _, ⟨_, rfl⟩, q⟩) (hs _ _)
/-- b[i], 0 ≤ i < len -/
theorem pe_item_byt (ha : PE X a ta) (hb : PE X b tb) (hs : PlainIxT b) :
    PE X (.Subscript a b pos) (tOp (fun x y H Q => ∃ (z : List UInt8) (i : Int), x = .byt z.toArray ∧ y = .int i ∧ z.length ≤ sizeLine ∧ 0 ≤ i ∧ i < z.length ∧ Q (.int ((z.getD i.toNat 0).toNat : Nat)) H) ta tb) := by
  intro pins s σ H Q I h
  refine Subscript_ (binT ha hb I h fun v u s2 x y H2 I2 rx ry q => ?_)
  obtain ⟨z, i, rfl, rfl, hz, h0, h1, q⟩ := q
  obtain ⟨t, rfl⟩ := rx
  obtain ⟨t', rfl⟩ := ry
  have hl : sizeLine = 16777216 := sizeLine_eq
  exact tail_any (PySem.W.typeIs_bytes s2 z.toArray t) PySem.W.FB.slot_bytes_getitem.lookup (PySem.W.getItem_bytes (by omega) h0 h1 ⟨.int ((z.getD i.toNat 0).toNat : Nat), H2, I2.tok _, ⟨_, rfl⟩, q⟩) (hs _ _)

/-! ### scalar builtins, by CallR -/
theorem vals1 {x : V} {us : List Value} (r : Vals [x] us) : ∃ u, us = [u] ∧ RelV x u := by
  cases r with
  | cons r1 r2 => cases r2; exact ⟨_, rfl, r1⟩
theorem vals2 {x y : V} {us : List Value} (r : Vals [x, y] us) : ∃ u w', us = [u, w'] ∧ RelV x u ∧ RelV y w' := by
  cases r with
  | cons r1 r2 =>
    cases r2 with
    | cons r3 r4 => cases r4; exact ⟨_, _, rfl, r1, r3⟩
theorem call_abs : CallR X (.builtin "abs") (fun xs H Q => ∃ i, xs = [.int i] ∧ Q (.int (if i < 0 then -i else i)) H) := by
  intro pins s σ H xs us Q I r h
  obtain ⟨i, rfl, q⟩ := h
  obtain ⟨u, rfl, t, rfl⟩ := vals1 r
  exact call_abs_int fun u tk => ⟨.int (if i < 0 then -i else i), H, I.tok _, ⟨_, rfl⟩, q⟩
theorem call_max2 (hc : X.calm = true) : CallR X (.builtin "max") (fun xs H Q => ∃ i j, xs = [.int i, .int j] ∧ Q (.int (if j > i then j else i)) H) := by
  intro pins s σ H xs us Q I r h
  obtain ⟨i, j, rfl, q⟩ := h
  obtain ⟨u, w', rfl, ⟨t, rfl⟩, ⟨t', rfl⟩⟩ := vals2 r
  refine max_two_ints (I.ok.hd hc) fun h' tk k => ⟨_, H, I.kept k, ?_, q⟩
  by_cases hj : j > i
  · rw [if_pos hj, if_pos hj]; exact ⟨_, rfl⟩
  · rw [if_neg hj, if_neg hj]; exact ⟨_, rfl⟩
theorem call_min2 (hc : X.calm = true) : CallR X (.builtin "min") (fun xs H Q => ∃ i j, xs = [.int i, .int j] ∧ Q (.int (if j < i then j else i)) H) := by
  intro pins s σ H xs us Q I r h
  obtain ⟨i, j, rfl, q⟩ := h
  obtain ⟨u, w', rfl, ⟨t, rfl⟩, ⟨t', rfl⟩⟩ := vals2 r
  refine min_two_ints (I.ok.hd hc) fun h' tk k => ⟨_, H, I.kept k, ?_, q⟩
  by_cases hj : j < i
  · rw [if_pos hj, if_pos hj]; exact ⟨_, rfl⟩
  · rw [if_neg hj, if_neg hj]; exact ⟨_, rfl⟩
theorem call_int1 : CallR X (.type "int") (fun xs H Q => (∃ i, xs = [.int i] ∧ Q (.int i) H) ∨ ∃ k, xs = [.bl k] ∧ Q (.int (if k then 1 else 0)) H) := by
  intro pins s σ H xs us Q I r h
  rcases h with ⟨i, rfl, q⟩ | ⟨k, rfl, q⟩
  · obtain ⟨u, rfl, t, rfl⟩ := vals1 r
    exact call_int_int ⟨.int i, H, I, ⟨_, rfl⟩, q⟩
  · obtain ⟨u, rfl, r1⟩ := vals1 r
    cases r1
    exact call_int_bool ⟨.int (if k then 1 else 0), H, I.tok _, ⟨_, rfl⟩, q⟩
theorem call_bool1 : CallR X (.type "bool") (fun xs H Q => (∃ i, xs = [.int i] ∧ Q (.bl (i != 0)) H) ∨ ∃ k, xs = [.bl k] ∧ Q (.bl k) H) := by
  intro pins s σ H xs us Q I r h
  rcases h with ⟨i, rfl, q⟩ | ⟨k, rfl, q⟩
  · obtain ⟨u, rfl, t, rfl⟩ := vals1 r
    exact call_bool_int ⟨.bl (i != 0), H, I, rfl, q⟩
  · obtain ⟨u, rfl, r1⟩ := vals1 r
    cases r1
    exact call_bool_bool ⟨.bl k, H, I, rfl, q⟩
theorem call_str_int : CallR X (.type "str") (fun xs H Q => ∃ i, xs = [.int i] ∧ i.natAbs.log2 < 1920 ∧ Q (.str (toString i)) H) := by
  intro pins s σ H xs us Q I r h
  obtain ⟨i, rfl, hz, q⟩ := h
  obtain ⟨u, rfl, t, rfl⟩ := vals1 r
  exact PySem.P.str_of_int hz ⟨.str _, H, I.tok _, ⟨_, rfl⟩, q⟩
theorem call_ord : CallR X (.builtin "ord") (fun xs H Q => ∃ x, xs = [.str x] ∧ x.length = 1 ∧ Q (.int (x.cps.getD 0 0 : Nat)) H) := by
  intro pins s σ H xs us Q I r h
  obtain ⟨x, rfl, hz, q⟩ := h
  obtain ⟨u, rfl, t, rfl⟩ := vals1 r
  exact ord_of_one hz ⟨.int _, H, I.tok _, ⟨_, rfl⟩, q⟩
theorem call_chr : CallR X (.builtin "chr") (fun xs H Q => ∃ i, xs = [.int i] ∧ 0 ≤ i ∧ i ≤ 1114111 ∧ Q (.str ⟨#[i.toNat]⟩) H) := by
  intro pins s σ H xs us Q I r h
  obtain ⟨i, rfl, h0, h1, q⟩ := h
  obtain ⟨u, rfl, t, rfl⟩ := vals1 r
  exact chr_of_range h0 h1 ⟨.str _, H, I.tok _, ⟨_, rfl⟩, q⟩
/-- len of a str, a bytes, a list, a tuple -/
def LenV (K : PySem.W.Frag) (x : V) (H : Hp) (n : Nat) : Prop :=
  match x with
  | .str y => y.length ≤ sizeLine ∧ n = y.length
  | .byt y => y.size ≤ sizeLine ∧ n = y.size
  | .ref p => (∃ xs, SqL K H p xs ∧ n = xs.length) ∨ ∃ xs, SqT K H p xs ∧ n = xs.length
  | _ => False
theorem call_len : CallR X (.builtin "len") (fun xs H Q => ∃ x n, xs = [x] ∧ LenV X.K x H n ∧ Q (.int n) H) := by
  intro pins s σ H xs us Q I r h
  obtain ⟨x, n, rfl, e, q⟩ := h
  obtain ⟨u, rfl, rx⟩ := vals1 r
  have hl := line63
  have hs : sizeLine = 16777216 := sizeLine_eq
  cases x with
  | str y =>
    obtain ⟨t, rfl⟩ := rx
    obtain ⟨hy, e'⟩ : y.length ≤ sizeLine ∧ n = y.length := e
    subst e'
    exact len_str (by omega) ⟨.int _, H, I.tok _, ⟨_, rfl⟩, q⟩
  | byt y =>
    obtain ⟨t, rfl⟩ := rx
    obtain ⟨hy, e'⟩ : y.size ≤ sizeLine ∧ n = y.size := e
    subst e'
    exact PySem.W.len_bytes (by omega) ⟨.int _, H, I.tok _, ⟨_, rfl⟩, q⟩
  | ref p =>
    cases rx
    have e' : (∃ xs, SqL X.K H p xs ∧ n = xs.length) ∨ ∃ xs, SqT X.K H p xs ∧ n = xs.length := e
    rcases e' with ⟨xs, hx, e'⟩ | ⟨xs, hx, e'⟩
    · subst e'
      obtain ⟨its, r', pl, hz⟩ := I.list hx
      have hlen := r'.length
      exact Calls.call_len_list pl.isList (by simp only [List.size_toArray]; omega) ⟨.int xs.length, H, I.tok _, ⟨_, by simp only [List.size_toArray]; rw [hlen]⟩, q⟩
    · subst e'
      obtain ⟨its, r', pl, hz⟩ := I.tuple hx
      have hlen := r'.length
      exact len_tuple pl (by simp only [List.size_toArray]; omega) ⟨.int xs.length, H, I.tok _, ⟨_, by simp only [List.size_toArray]; rw [hlen]⟩, q⟩
  | _ => exact (show False from e).elim
/-- divmod: a new tuple -/
theorem call_divmod : CallR X (.builtin "divmod") (fun xs H Q => ∃ i j, xs = [.int i, .int j] ∧ CDiv i j ∧ ∀ p, H p = none → Q (.ref p) (upd H p (.tup [.int (i / j), .int (i % j)]))) := by
  intro pins s σ H xs us Q I r h
  obtain ⟨i, j, rfl, ⟨h1, h2⟩, q⟩ := h
  obtain ⟨u, w', rfl, ⟨t, rfl⟩, ⟨t', rfl⟩⟩ := vals2 r
  refine divmod_int (by omega) ?_ (.inl (PyProof.noPylong_small (by omega)))
  rw [Int.fdiv_eq_ediv_of_nonneg i (by omega), Int.fmod_eq_emod_of_nonneg i (by omega)]
  have hn : H s.heap.objs.size = none := I.hok.fresh (Nat.le_refl _)
  refine ⟨.ref s.heap.objs.size, _, ?_, rfl, q _ hn⟩
  refine I.laid (fun b o e => Heap.get?_push_of_some _ e) (Nat.le_refl _) ⟨by simp only [List.length_cons, List.length_nil]; rw [sizeLine_eq]; decide, [.int (i / j) s.toks, .int (i % j) (s.toks + 1)], .cons ⟨_, rfl⟩ (.cons ⟨_, rfl⟩ .nil), ?_⟩
  exact ⟨_, Heap.get?_push_size s.heap rfl, rfl, 0, rfl⟩
end
end L2

namespace L2
open PySem PySem.Spec PyProof.Rows

/-! ### an instance, its attributes a map -/
structure ObjM (h : Heap) (x dx C : Addr) (mA : Str → Option Value) : Prop where
  obj : h.get? x = some (PySem.W.instObj C dx)
  ns : h.Ns1 dx mA
  ne : dx ≠ x

theorem lookIn_ns {h : Heap} {dx : Addr} {mA : Str → Option Value} (n : h.Ns1 dx mA) : ∃ od, h.get? dx = some od ∧ ∀ name, PySem.W.lookIn name od = some (mA name) := by
  obtain ⟨o, es, ep, ho, hd, hk, _, hm⟩ := n
  refine ⟨o, ho, fun name => ?_⟩
  have e := hm name
  unfold nsFind findBy at e
  rw [← Array.find?_toList] at e
  unfold PySem.W.lookIn
  rw [hd]
  dsimp only
  split
  · rename_i y q
    rw [q] at e
    exact congrArg some e
  · rename_i q
    rw [q] at e
    have a : es.toList.any (·.refKey) = false := by
      rw [List.any_eq_false]
      intro y hy
      obtain ⟨z, t, hkey⟩ := hk y (Array.mem_toList_iff.mp hy)
      simp [DictEntry.refKey, hkey]
    have a' : ¬ es.toList.any (·.refKey) = true := by rw [a]; exact Bool.false_ne_true
    rw [if_neg a']
    exact congrArg some e

theorem ObjM.look {h : Heap} {x dx C : Addr} {mA : Str → Option Value} (I : ObjM h x dx C mA) : ∃ od, PySem.W.InstAt h x (PySem.W.instObj C dx) C (some od) ∧ ∀ name, PySem.W.lookIn name od = some (mA name) :=
  let ⟨od, ho, hl⟩ := lookIn_ns I.ns
  ⟨od, ⟨I.obj, rfl, rfl, ho⟩, hl⟩

section
variable {prog : Program} {w : World} {A : Around} {E : Value → Shared → Prop} {s : Shared} {K : PySem.W.Frag} {x dx C f : Addr} {mA : Str → Option Value} {name : Str} {v : Value}

theorem get_map {expr : Bool} {Q : Value → Shared → Prop} (X : K.In s.heap) (I : ObjM s.heap x dx C mA) (hg : PySem.W.plainGet K C name = true) (hh : PySem.W.hasDictIn K C = true)
    (ha : PySem.W.findIn K (.ref C) name = some none) (hv : mA name = some v) (hv' : PySem.W.handedIn v = true) (h : Q v { s with toks := s.toks + 1 }) :
    wpAny (model prog w) A (getAttr (.ref x) name expr) Q E s := by
  obtain ⟨od, J, hl⟩ := I.look
  exact PySem.W.get_value X J (PySem.W.plainGet_of hg).1 (PySem.W.findObj_own hh ha rfl (by rw [hl, hv])) hv' h

theorem get_const {expr : Bool} {a : Value} {Q : Value → Shared → Prop} (X : K.In s.heap) (I : ObjM s.heap x dx C mA) (hg : PySem.W.plainGet K C name = true) (hh : PySem.W.hasDictIn K C = true)
    (ha : PySem.W.findIn K (.ref C) name = some (some a)) (hn : PySem.W.specialIn K a "__get__" = some none) (hc : PySem.W.copiedNames.contains name = false) (hv : mA name = none) (hv' : PySem.W.handedIn a = true)
    (h : Q a { s with toks := s.toks + 1 }) : wpAny (model prog w) A (getAttr (.ref x) name expr) Q E s := by
  obtain ⟨od, J, hl⟩ := I.look
  exact PySem.W.get_value X J (PySem.W.plainGet_of hg).1 (PySem.W.findObj_cls hh ha hn hv' hc (by rw [hl, hv])) hv' h

theorem get_meth {pl : Sem Bool} {Q : Value × List Value → Shared → Prop} (X : K.In s.heap) (I : ObjM s.heap x dx C mA) (hg : PySem.W.plainGet K C name = true)
    (hf : PySem.W.findIn K (.ref C) name = some (some (.ref f))) (ht : PySem.W.isFn K (.ref f) = true) (hv : mA name = none) (h : Q (.ref f, [.ref x]) s) :
    wpAny (model prog w) A (getMethod (.ref x) name pl) Q E s := by
  obtain ⟨od, J, hl⟩ := I.look
  exact PySem.W.method_fn X J (PySem.W.plainGet_of hg).1 (PySem.W.plainGet_of hg).2 hf (beq_iff_eq.mp ht) (by show (PySem.W.lookIn name od).map (·.isSome) = some false; rw [hl, hv]; rfl) h

theorem set_map {ns : List Str} {Q : Unit → Shared → Prop} (X : K.In s.heap) (I : ObjM s.heap x dx C mA)
    (hs : PySem.W.findIn K (.ref C) "__setattr__" = some (some (.builtin "object.__setattr__"))) (hp : PySem.W.plainOver K C = true) (ht : PySem.W.takerIn K C name = some none) (hh : PySem.W.hasDictIn K C = true)
    (hw : PySem.Within mA ns) (hsz : ns.length ≤ sizeLine)
    (h : ∀ h', ObjM h' x dx C (fun y => if y = name then some v else mA y) → Heap.SameBut dx s.heap h' → Q () { s with heap := h', toks := s.toks + 2 }) :
    wpAny (model prog w) A (setAttr (.ref x) name v) Q E s := by
  obtain ⟨od, J, hl⟩ := I.look
  refine PySem.W.set_plain X J hs (PySem.W.osa_open (s := { s with toks := s.toks + 1 }) (r := none) X J hp ht fun b => ?_)
  obtain ⟨cd, hc, hd'⟩ := PySem.W.any_some hh
  have hx : s.heap.get? x = some ⟨.ref C, some dx, .plain, #[]⟩ := I.obj
  refine wpAny_bind (wpAny_pure (wpAny_bind (wpAny_bind (wpAny_loadPart hx (wpAny_bind (PySem.W.Looks.here (s := { s with toks := s.toks + 1 }) (PySem.W.looks_clsIn X hc) ?_))))))
  rw [hd']
  refine wpAny_pure (a := some dx) (wpAny_bind (wpAny_pure (wpAny_bind ?_)))
  refine wpAny_nsSet1 (s := { s with toks := s.toks + 1 }) I.ns fun h' hn2 hs2 => ?_
  obtain ⟨oD, esD, epD, hoD, hdD, hcD⟩ := hn2.count (PySem.Within.cons name v hw)
  refine wpAny_bind (wpAny_lookBehind hoD (by rw [hdD]; exact pastItsLine_dict (Nat.le_trans hcD (by rw [List.length_cons]; omega))) ?_)
  exact wpAny_pure (h _ ⟨(hs2.2 _ (Ne.symm I.ne)).trans I.obj, hn2, I.ne⟩ hs2)

/-- C(..): the dict at the heap's end, the instance behind it; then its __init__ -/
theorem make_map {R : Result → Shared → Prop} {vs : List Value} {kw : List (Str × Value)} (X : K.In s.heap) (hm : PySem.W.makesIn K C = true)
    (hi : PySem.W.findIn K (.ref C) "__init__" = some (some (.ref f))) (hf : PySem.W.typeIn K (.ref f) = some (.type "function"))
    (h : codeAny (model prog w) (A.under (.builtin "type.__call__" ⟨.ref C :: vs, kw⟩)) (.call (.ref f) ⟨.ref (s.heap.objs.size + 1) :: vs, kw⟩) (PySem.W.InitBack (s.heap.objs.size + 1) R)
      { s with heap := (s.heap.push PySem.W.emptyDict).push (PySem.W.instObj C s.heap.objs.size) }) :
    codeAny (model prog w) A (.call (.ref C) ⟨vs, kw⟩) R s := by
  obtain ⟨hh, g, d, t, os⟩ := s
  exact PySem.W.make_core (PySem.W.makes_of X hm) (PySem.W.looks_findIn X hi) (fun self => PySem.W.bind_fn X self hf) (.inl rfl) h
/-- C() where there is no __init__ but object's -/
theorem make_map0 {R : Result → Shared → Prop} (X : K.In s.heap) (hm : PySem.W.makesIn K C = true)
    (hi : PySem.W.findIn K (.ref C) "__init__" = some (some (.builtin "object.__init__")))
    (hb : ∀ self, PySem.W.Looks (model prog w) s.heap (bindSpecial (.builtin "object.__init__") self) (.builtin "object.__init__", [self]))
    (h : codeAny (model prog w) (A.under (.builtin "type.__call__" ⟨[.ref C], []⟩)) (.call (.builtin "object.__init__") ⟨[.ref (s.heap.objs.size + 1)], []⟩) (PySem.W.InitBack (s.heap.objs.size + 1) R)
      { s with heap := (s.heap.push PySem.W.emptyDict).push (PySem.W.instObj C s.heap.objs.size) }) :
    codeAny (model prog w) A (.call (.ref C) ⟨[], []⟩) R s := by
  obtain ⟨hh, g, d, t, os⟩ := s
  exact PySem.W.make_core (PySem.W.makes_of X hm) (PySem.W.looks_findIn X hi) hb (.inr ⟨rfl, rfl⟩) h
end

/-! ### the attributes as a list of pairs -/
def putF (f : Str) (v : V) : List (Str × V) → List (Str × V)
  | [] => [(f, v)]
  | (g, x) :: r => if g = f then (g, v) :: r else (g, x) :: putF f v r
theorem lookup_putF (f g : Str) (v : V) : ∀ fs : List (Str × V), (putF f v fs).lookup g = if g = f then some v else fs.lookup g
  | [] => by
    show List.lookup g [(f, v)] = _
    by_cases h : g = f
    · have hb : (g == f) = true := beq_iff_eq.mpr h
      simp only [List.lookup, hb, if_pos h]
    · have hb : (g == f) = false := beq_eq_false_iff_ne.mpr h
      simp only [List.lookup, hb, if_neg h]
  | (k, x) :: r => by
    have ih := lookup_putF f g v r
    rw [show putF f v ((k, x) :: r) = (if k = f then (k, v) :: r else (k, x) :: putF f v r) from rfl]
    by_cases hk : k = f
    · rw [if_pos hk]
      by_cases h : g = k
      · have hb : (g == k) = true := beq_iff_eq.mpr h
        simp only [List.lookup, hb, if_pos (h.trans hk)]
      · have hb : (g == k) = false := beq_eq_false_iff_ne.mpr h
        simp only [List.lookup, hb, if_neg (fun e : g = f => h (e.trans hk.symm))]
    · rw [if_neg hk]
      by_cases h : g = k
      · have hb : (g == k) = true := beq_iff_eq.mpr h
        simp only [List.lookup, hb, if_neg (fun e : g = f => hk (h.symm.trans e))]
      · have hb : (g == k) = false := beq_eq_false_iff_ne.mpr h
        simp only [List.lookup, hb]
        exact ih
theorem keys_putF (f : Str) (v : V) : ∀ fs : List (Str × V), f ∈ (putF f v fs).map (·.1) ∧ ∀ g, g ∈ fs.map (·.1) → g ∈ (putF f v fs).map (·.1)
  | [] => ⟨by simp [putF], fun g h => by simp at h⟩
  | (k, x) :: r => by
    obtain ⟨i1, i2⟩ := keys_putF f v r
    rw [show putF f v ((k, x) :: r) = (if k = f then (k, v) :: r else (k, x) :: putF f v r) from rfl]
    by_cases hk : k = f
    · rw [if_pos hk]
      subst hk
      exact ⟨by simp, fun g h => by simpa using h⟩
    · rw [if_neg hk]
      refine ⟨?_, fun g h => ?_⟩
      · rw [List.map_cons]
        exact List.mem_cons_of_mem _ i1
      · rw [List.map_cons] at h ⊢
        rcases List.mem_cons.mp h with e | e
        · exact List.mem_cons.mpr (.inl e)
        · exact List.mem_cons_of_mem _ (i2 g e)
theorem length_putF (f : Str) (v : V) : ∀ fs : List (Str × V), (putF f v fs).length ≤ fs.length + 1
  | [] => by simp [putF]
  | (k, x) :: r => by
    have ih := length_putF f v r
    rw [show putF f v ((k, x) :: r) = (if k = f then (k, v) :: r else (k, x) :: putF f v r) from rfl]
    by_cases hk : k = f
    · rw [if_pos hk, List.length_cons, List.length_cons]; omega
    · rw [if_neg hk, List.length_cons, List.length_cons]; omega

theorem RelO.some_of {v : V} {o : Option Value} (r : RelO (some v) o) : ∃ u, o = some u ∧ RelV v u := by
  cases o with
  | none => exact (show False from r).elim
  | some u => exact ⟨u, rfl, r⟩
theorem RelO.none_of {o : Option Value} (r : RelO none o) : o = none := by
  cases o with
  | none => rfl
  | some u => exact (show False from r).elim
theorem handed_of {v : V} {u : Value} (r : RelV v u) : PySem.W.handedIn u = true := by
  cases v with
  | non => cases (show u = Value.none from r); rfl
  | bl b => cases (show u = Value.bool b from r); rfl
  | int i => obtain ⟨t, e⟩ := (show ∃ t, u = Value.int i t from r); cases e; rfl
  | str x => obtain ⟨t, e⟩ := (show ∃ t, u = Value.str x t from r); cases e; rfl
  | byt b => obtain ⟨t, e⟩ := (show ∃ t, u = Value.bytes b t from r); cases e; rfl
  | flt b => obtain ⟨t, e⟩ := (show ∃ t, u = Value.float b t from r); cases e; rfl
  | ref a => cases (show u = Value.ref a from r); rfl
  | ty n => cases (show u = Value.type n from r); rfl

section
variable {P : Program} {w : World} {H H' : Hp} {h h' : Heap} {a C dx : Addr} {fs fs' : List (Str × V)}
theorem ins_get (hok : HOk P w H h) (e : H a = some (.ins C dx fs)) : ∃ mA, ObjM h a dx C mA ∧ (∀ f, RelO (fs.lookup f) (mA f)) ∧ PySem.Within mA (fs.map (·.1)) ∧ fs.length ≤ 1000 ∧ H dx = some (.own a) := by
  obtain ⟨d, z, ne, ob, mA, n, r, q⟩ := (show ObjOk P w H h a (.ins C dx fs) from hok a _ e)
  exact ⟨mA, ⟨ob, n, ne⟩, r, q, z, d⟩
end

/-! ### what of the text a class must have -/
structure Cls (K : PySem.W.Frag) (C : Addr) : Prop where
  pg : PySem.W.plainGet K C Str.empty = true
  hd : PySem.W.hasDictIn K C = true
  po : PySem.W.plainOver K C = true
  sa : PySem.W.findIn K (.ref C) "__setattr__" = some (some (.builtin "object.__setattr__"))
theorem Cls.get {K : PySem.W.Frag} {C : Addr} (c : Cls K C) (f : Str) : PySem.W.plainGet K C f = true := c.pg
/-- no class of it has the name -/
def NoAttr (K : PySem.W.Frag) (C : Addr) (f : Str) : Prop := PySem.W.findIn K (.ref C) f = some none
theorem NoAttr.taker {K : PySem.W.Frag} {C : Addr} {f : Str} (n : NoAttr K C f) : PySem.W.takerIn K C f = some none := by
  unfold PySem.W.takerIn
  rw [show PySem.W.findIn K (.ref C) f = some none from n]
  rfl
/-- a constant of the class -/
structure Con (K : PySem.W.Frag) (C : Addr) (f : Str) (v : V) (u : Value) : Prop where
  at_ : PySem.W.findIn K (.ref C) f = some (some u)
  rel : RelV v u
  get : PySem.W.specialIn K u "__get__" = some none
  cp : PySem.W.copiedNames.contains f = false
/-- a method: a plain def of the class or of one above it -/
structure Meth (K : PySem.W.Frag) (C : Addr) (m : Str) (f : Addr) : Prop where
  at_ : PySem.W.findIn K (.ref C) m = some (some (.ref f))
  fn : PySem.W.isFn K (.ref f) = true
  kp : PySem.W.keepIn K (.ref f) = true

section
variable {X : Cx} {pins : List (Addr × Obj)} {σ : St} {H : Hp} {s : Shared} {a C dx : Addr} {fs : List (Str × V)} {f : Str} {v : V} {A : Around} {E : Value → Shared → Prop}

theorem getattr_ok {b : Bool} {Q : Value → Shared → Prop} (I : Inv X pins σ H s) (e : H a = some (.ins C dx fs)) (c : Cls X.K C) (n : NoAttr X.K C f) (l : fs.lookup f = some v)
    (h : ∀ u s', Inv X pins σ H s' → RelV v u → Q u s') : wpAny (model X.prog X.w) A (getAttr (.ref a) f b) Q E s := by
  obtain ⟨mA, O, r, _, _, _⟩ := ins_get I.hok e
  obtain ⟨u, hu, ru⟩ := RelO.some_of (v := v) (o := mA f) (by rw [← l]; exact r f)
  exact get_map I.kIn O (c.get f) c.hd n hu (handed_of ru) (h u _ (I.tok _) ru)

theorem getcon_ok {b : Bool} {u : Value} {Q : Value → Shared → Prop} (I : Inv X pins σ H s) (e : H a = some (.ins C dx fs)) (c : Cls X.K C) (k : Con X.K C f v u) (l : fs.lookup f = none)
    (h : ∀ s', Inv X pins σ H s' → Q u s') : wpAny (model X.prog X.w) A (getAttr (.ref a) f b) Q E s := by
  obtain ⟨mA, O, r, _, _, _⟩ := ins_get I.hok e
  have hn : mA f = none := RelO.none_of (by rw [← l]; exact r f)
  exact get_const I.kIn O (c.get f) c.hd k.at_ k.get k.cp hn (handed_of k.rel) (h _ (I.tok _))

theorem getmeth_ok {m : Str} {g : Addr} {pl : Sem Bool} {Q : Value × List Value → Shared → Prop} (I : Inv X pins σ H s) (e : H a = some (.ins C dx fs)) (c : Cls X.K C) (k : Meth X.K C m g) (l : fs.lookup m = none)
    (h : Q (.ref g, [.ref a]) s) : wpAny (model X.prog X.w) A (getMethod (.ref a) m pl) Q E s := by
  obtain ⟨mA, O, r, _, _, _⟩ := ins_get I.hok e
  have hn : mA m = none := RelO.none_of (by rw [← l]; exact r m)
  exact get_meth I.kIn O (c.get m) k.at_ k.fn hn h

theorem setattr_ok {y : V} {u : Value} {Q : Unit → Shared → Prop} (I : Inv X pins σ H s) (e : H a = some (.ins C dx fs)) (c : Cls X.K C) (n : NoAttr X.K C f) (hl : fs.length < 1000) (ry : RelV y u)
    (h : ∀ s', Inv X pins σ (upd H a (.ins C dx (putF f y fs))) s' → Q () s') : wpAny (model X.prog X.w) A (setAttr (.ref a) f u) Q E s := by
  obtain ⟨mA, O, r, wi, _, ho⟩ := ins_get I.hok e
  have hz : (fs.map (·.1)).length ≤ sizeLine := by rw [List.length_map, sizeLine_eq]; omega
  refine set_map I.kIn O c.sa c.po n.taker c.hd wi hz fun h' O' sb => h _ ?_
  have hd : ∃ o, h'.get? dx = some o := let ⟨o, _, _, e', _⟩ := O'.ns; ⟨o, e'⟩
  refine I.write (x := a) (e := dx) (by rw [e]; exact True.intro) (.inr ho) (fun b q hb z => (sb.2 b hb).trans z) hd ?_
  refine ⟨by rw [upd_ne O.ne]; exact ho, ?_, O.ne, O'.obj, _, O'.ns, fun g => ?_, fun g hg => ?_⟩
  · have := length_putF f y fs; omega
  · show RelO ((putF f y fs).lookup g) (if g = f then some u else mA g)
    rw [lookup_putF]
    by_cases q : g = f
    · rw [if_pos q, if_pos q]; exact ry
    · rw [if_neg q, if_neg q]; exact r g
  · by_cases q : g = f
    · rw [q]; exact (keys_putF f y fs).1
    · refine (keys_putF f y fs).2 g (wi g fun z => hg ?_)
      show (if g = f then some u else mA g) = none
      rw [if_neg q]; exact z

/-- a new instance, tracked, without attributes -/
theorem Inv.made (I : Inv X pins σ H s) : Inv X pins σ (upd (upd H s.heap.objs.size (.own (s.heap.objs.size + 1))) (s.heap.objs.size + 1) (.ins C s.heap.objs.size []))
    { s with heap := (s.heap.push PySem.W.emptyDict).push (PySem.W.instObj C s.heap.objs.size) } := by
  have e1 : (s.heap.push PySem.W.emptyDict).get? s.heap.objs.size = some PySem.W.emptyDict := Heap.get?_push_size s.heap rfl
  have e2 : ((s.heap.push PySem.W.emptyDict).push (PySem.W.instObj C s.heap.objs.size)).get? (s.heap.objs.size + 1) = some (PySem.W.instObj C s.heap.objs.size) := by
    have := Heap.get?_push_size (s.heap.push PySem.W.emptyDict) (o := PySem.W.instObj C s.heap.objs.size) rfl
    rwa [Heap.size_push] at this
  have e3 : (s.heap.push PySem.W.emptyDict).Ns s.heap.objs.size (fun _ => none) := ⟨PySem.W.emptyDict, #[], _, e1, rfl, (fun e he => absurd he (by simp)), fun _ => rfl⟩
  have I1 := I.laid (a := s.heap.objs.size) (o := .own (s.heap.objs.size + 1)) (h' := s.heap.push PySem.W.emptyDict) (t' := s.toks) (fun b u q => Heap.get?_push_of_some _ q) (Nat.le_refl _) ⟨_, e1⟩
  refine I1.laid (a := s.heap.objs.size + 1) (o := .ins C s.heap.objs.size []) (t' := s.toks) (fun b u q => Heap.get?_push_of_some _ q) (Nat.le_of_eq (Heap.size_push _ _)) ?_
  have ne : s.heap.objs.size ≠ s.heap.objs.size + 1 := Nat.ne_of_lt (Nat.lt_succ_self _)
  refine ⟨by rw [upd_ne ne, upd_same], Nat.zero_le _, ne, e2, fun _ => none, (Heap.Ns1.of_empty e3).at fun o q => Heap.get?_push_of_some _ q, fun _ => True.intro, fun y hy => absurd rfl hy⟩

/-- e.f where nothing but the object is asked: through attributeBase (super) and the last hold -/
theorem attr_of {prog : Program} {w : World} {env : Env} {e : Expr} {f : Str} {pos : Pos} {s : Shared} {Q : Value → Shared → Prop} (hb : attributeBase e f env (eval e env) = eval e env)
    (h : wpAny (model prog w) A (eval e env) (fun o s₁ => wpAny (model prog w) A (getAttr o f true) Q E s₁) E s) : wpAny (model prog w) A (eval (.Attribute e f pos) env) Q E s :=
  Attribute_any_ h (by rw [arm_eval_Attribute, hb])
end

/-! ### readings and rules -/
/-- e.f, an attribute of the instance -/
def tFld (K : PySem.W.Frag) (ta : TE) (f : Str) : TE := fun σ H Q => ta σ H fun x H1 => ∃ a C dx fs v, x = .ref a ∧ H1 a = some (.ins C dx fs) ∧ Cls K C ∧ NoAttr K C f ∧ fs.lookup f = some v ∧ Q v H1
/-- e.f, a constant of the class -/
def tCon (K : PySem.W.Frag) (ta : TE) (f : Str) : TE := fun σ H Q => ta σ H fun x H1 => ∃ a C dx fs v u, x = .ref a ∧ H1 a = some (.ins C dx fs) ∧ Cls K C ∧ Con K C f v u ∧ fs.lookup f = none ∧ Q v H1
/-- e.f = value -/
def sFld (K : PySem.W.Frag) (ta tv : TE) (f : Str) : TS := fun D σ H => tv σ H fun y H1 => ta σ H1 fun x H2 => ∃ a C dx fs, x = .ref a ∧ H2 a = some (.ins C dx fs) ∧ Cls K C ∧ NoAttr K C f ∧ fs.length < 1000 ∧
  D.nx σ (upd H2 a (.ins C dx (putF f y fs)))
/-- an augmented operator on two values -/
def InOp (X : Cx) (op : Operator) (rd : V → V → Hp → VK → Prop) : Prop :=
  ∀ (pins : List (Addr × Obj)) (s : Shared) (σ : St) (H : Hp) (x y : V) (u v : Value) (Q : VK), Inv X pins σ H s → RelV x u → RelV y v → rd x y H Q → wpAny (model X.prog X.w) X.A (inplaceOp op u v) (EP X pins σ Q) X.xe s
/-- e.f op= value -/
def sFldAug (K : PySem.W.Frag) (ta tv : TE) (rd : V → V → Hp → VK → Prop) (f : Str) : TS := fun D σ H => ta σ H fun x H1 => ∃ a C dx fs v, x = .ref a ∧ H1 a = some (.ins C dx fs) ∧ Cls K C ∧ NoAttr K C f ∧ fs.lookup f = some v ∧
  tv σ H1 fun y H2 => rd v y H2 fun z H3 => ∃ dx' fs', H3 a = some (.ins C dx' fs') ∧ fs'.length < 1000 ∧ D.nx σ (upd H3 a (.ins C dx' (putF f z fs')))

section
variable {X : Cx} {o e value : Expr} {f : Str} {pos pos' tpos : Pos} {ta tv : TE}
theorem pe_fld (he : PE X e ta) (hb : attributeBase e f X.env (eval e X.env) = eval e X.env) : PE X (.Attribute e f pos) (tFld X.K ta f) := by
  intro pins s σ H Q I h
  refine attr_of hb (thn (he pins s σ H _ I h) fun u s1 ⟨x, H1, I1, rx, a, C, dx, fs, v, ex, ea, c, n, l, q⟩ => ?_)
  subst ex
  obtain rfl : u = Value.ref a := rx
  exact getattr_ok I1 ea c n l fun u' s2 I2 ru => ⟨v, H1, I2, ru, q⟩
theorem pe_con (he : PE X e ta) (hb : attributeBase e f X.env (eval e X.env) = eval e X.env) : PE X (.Attribute e f pos) (tCon X.K ta f) := by
  intro pins s σ H Q I h
  refine attr_of hb (thn (he pins s σ H _ I h) fun u s1 ⟨x, H1, I1, rx, a, C, dx, fs, v, u0, ex, ea, c, k, l, q⟩ => ?_)
  subst ex
  obtain rfl : u = Value.ref a := rx
  exact getcon_ok I1 ea c k l fun s2 I2 => ⟨v, H1, I2, k.rel, q⟩
theorem ps_fld (ha : PE X o ta) (hv : PE X value tv) (hs : swapsWith value (some (.Attribute o f pos')) pos.line X.env = pure false) : PS X (.Assign [.Attribute o f pos'] value pos) (sFld X.K ta tv f) := by
  intro pins s σ H D I h
  refine plainObj_wpAny_Assign_Attribute (thn (hv pins s σ H _ I h) fun u s1 ⟨y, H1, I1, ry, q⟩ => thn (ha pins s1 σ H1 _ I1 q) fun ov s2 ⟨x, H2, I2, rx, a, C, dx, fs, ex, ea, c, n, l, q2⟩ => ?_) hs
  subst ex
  obtain rfl : ov = Value.ref a := rx
  exact setattr_ok I2 ea c n l ry fun s3 I3 => ⟨σ, _, I3, q2⟩
theorem ps_fldaug {op : Operator} {rd : V → V → Hp → VK → Prop} (ha : PE X o ta) (hv : PE X value tv) (hop : InOp X op rd) : PS X (.AugAssign (.Attribute o f tpos) op value pos) (sFldAug X.K ta tv rd f) := by
  intro pins s σ H D I h
  refine wpAny_AugAssign_AttributeAny (thn (ha pins s σ H _ I h) fun ov s1 ⟨x, H1, I1, rx, a, C, dx, fs, v, ex, ea, c, n, l, q⟩ => ?_)
  subst ex
  obtain rfl : ov = Value.ref a := rx
  refine getattr_ok I1 ea c n l fun u s2 I2 ru => thn (hv pins s2 σ H1 _ I2 q) fun w3 s3 ⟨y, H2, I3, ry, q3⟩ => thn (hop pins s3 σ H2 v y u w3 _ I3 ru ry q3) fun w4 s4 ⟨z, H3, I4, rz, dx', fs', ea', l', q4⟩ => ?_
  exact setattr_ok I4 ea' c n l' rz fun s5 I5 => ⟨σ, _, I5, q4⟩
def rAdd : V → V → Hp → VK → Prop := fun x y H Q => ∃ i j, x = .int i ∧ y = .int j ∧ Q (.int (i + j)) H
def rSub : V → V → Hp → VK → Prop := fun x y H Q => ∃ i j, x = .int i ∧ y = .int j ∧ Q (.int (i - j)) H
theorem in_add : InOp X .Add rAdd := by
  rintro pins s σ H x y u v Q I rx ry ⟨i, j, rfl, rfl, q⟩
  obtain ⟨t, rfl⟩ := (show ∃ t, u = Value.int i t from rx)
  obtain ⟨t', rfl⟩ := (show ∃ t', v = Value.int j t' from ry)
  exact PyProof.Rows.iadd_int ⟨.int (i + j), H, I.tok _, ⟨_, rfl⟩, q⟩
theorem in_sub : InOp X .Sub rSub := by
  rintro pins s σ H x y u v Q I rx ry ⟨i, j, rfl, rfl, q⟩
  obtain ⟨t, rfl⟩ := (show ∃ t, u = Value.int i t from rx)
  obtain ⟨t', rfl⟩ := (show ∃ t', v = Value.int j t' from ry)
  exact PyProof.Rows.isub_int ⟨.int (i - j), H, I.tok _, ⟨_, rfl⟩, q⟩

/-- what is between an instance and its method: the tree of a method call -/
theorem methcall_of {pl : Sem Bool} {m : Str} {apos : Pos} {args : List Expr} {pins : List (Addr × Obj)} {s : Shared} {σ : St} {H : Hp} {Q : Value → Shared → Prop} {te : TE} (he : PE X e te) (I : Inv X pins σ H s)
    (h : te σ H fun x H1 => ∃ a C dx fs g, x = .ref a ∧ H1 a = some (.ins C dx fs) ∧ Cls X.K C ∧ Meth X.K C m g ∧ fs.lookup m = none ∧
      ∀ s1, Inv X pins σ H1 s1 → wpAny (model X.prog X.w) X.A (callWith pos (.ref g) [.ref a] (backTo pos (starEach args X.env)) (backToKw pos (keywordEach [] X.env))) Q X.xe s1)
    (ht : eval (.Call (.Attribute e m apos) args [] pos) X.env = (do
      let ov ← eval e X.env
      standAt apos.atName
      let (f, first) ← holding [ov] (getMethod ov m pl)
      callWith pos f first (backTo pos (starEach args X.env)) (backToKw pos (keywordEach [] X.env)))) :
    wpAny (model X.prog X.w) X.A (eval (.Call (.Attribute e m apos) args [] pos) X.env) Q X.xe s := by
  refine PySem.W.methodCall_KW (pl := pl) (thn (he pins s σ H _ I h) fun u s1 ⟨x, H1, I1, rx, a, C, dx, fs, g, ex, ea, c, k, l, q⟩ => ?_) ht
  subst ex
  obtain rfl : u = Value.ref a := rx
  exact getmeth_ok I1 ea c k l (q s1 I1)
end

/-! ### isinstance -/
section
variable {X : Cx} {pins : List (Addr × Obj)} {σ : St} {H : Hp} {s : Shared} {A : Around} {E : Value → Shared → Prop} {Q : Value → Shared → Prop} {c : Value} {b : Bool}
/-- the type of a value, as the fragment's deciders take it; for an instance its class -/
inductive TyOf (K : PySem.W.Frag) (H : Hp) : V → Value → Prop where
  | non : TyOf K H .non (.type "NoneType")
  | bl (x : Bool) : TyOf K H (.bl x) (.type "bool")
  | int (i : Int) : TyOf K H (.int i) (.type "int")
  | str (x : Str) : TyOf K H (.str x) (.type "str")
  | flt (x : UInt64) : TyOf K H (.flt x) (.type "float")
  | lst {a : Addr} {xs : List V} (e : H a = some (.lst xs)) : TyOf K H (.ref a) (.type "list")
  | frz {a : Addr} {o : Obj} {xs : List V} (e : H a = some (.frz o (.lst xs))) : TyOf K H (.ref a) (.type "list")
  | tup {a : Addr} {xs : List V} (e : H a = some (.tup xs)) : TyOf K H (.ref a) (.type "tuple")
  | dK {a : Addr} {kvs : List (Key × V)} (e : H a = some (.dK kvs)) : TyOf K H (.ref a) (.type "dict")
  | dT {a : Addr} {kvs : List (List Key × V)} (e : H a = some (.dT kvs)) : TyOf K H (.ref a) (.type "dict")
  | ins {a C dx : Addr} {fs : List (Str × V)} (e : H a = some (.ins C dx fs)) (cl : Cls K C) (ha : PySem.W.findIn K (.ref C) "__class__" = some (some (.builtin "object.__class__")))
      (hn : PySem.W.specialIn K (.builtin "object.__class__") "__get__" = some (some (.builtin "getset_descriptor.__get__"))) (htk : PySem.W.takesIn K (.builtin "object.__class__") = some true)
      (hm : PySem.W.mroIn K C (.type "object") = some true) : TyOf K H (.ref a) (.ref C)
/-- isinstance(x, c) for one class c, a built-in or an own one: kitOne's answer -/
theorem isinst_ok {x : V} {u t : Value} (I : Inv X pins σ H s) (rx : RelV x u) (ty : TyOf X.K H x t) (e : PySem.W.kitOne X.K t c = some b) (h : ∀ tk, Q (.bool b) { s with toks := tk }) :
    wpAny (model X.prog X.w) A (call (.builtin "isinstance") [u, c]) Q E s := by
  cases ty with
  | non => cases (show u = Value.none from rx); exact PySem.W.kia_one PySem.W.kitx_none I.kIn True.intro e (fun z => nomatch z) h
  | bl y => cases (show u = Value.bool y from rx); exact PySem.W.kia_one PySem.W.kitx_bool I.kIn True.intro e (fun z => nomatch z) h
  | int i => obtain ⟨t, q⟩ := (show ∃ t, u = Value.int i t from rx); cases q; exact PySem.W.kia_one PySem.W.kitx_int I.kIn True.intro e (fun z => nomatch z) h
  | str y => obtain ⟨t, q⟩ := (show ∃ t, u = Value.str y t from rx); cases q; exact PySem.W.kia_one PySem.W.kitx_str I.kIn True.intro e (fun z => nomatch z) h
  | flt y => obtain ⟨t, q⟩ := (show ∃ t, u = Value.float y t from rx); cases q; exact PySem.W.kia_one PySem.W.kitx_float I.kIn True.intro e (fun z => nomatch z) h
  | @lst a xs ea =>
    cases (show u = Value.ref a from rx)
    obtain ⟨_, _, n, _, h1⟩ := (show ObjOk X.prog X.w H s.heap a (.lst xs) from I.hok a _ ea)
    exact PySem.W.kia_one PySem.W.kitx_list I.kIn ⟨_, h1, rfl⟩ e (fun z => nomatch z) h
  | @frz a ob xs ea =>
    cases (show u = Value.ref a from rx)
    obtain ⟨_, _, _, n, _, h1⟩ := (show ObjOk X.prog X.w H s.heap a (.frz ob (.lst xs)) from I.hok a _ ea)
    exact PySem.W.kia_one PySem.W.kitx_list I.kIn ⟨_, h1, rfl⟩ e (fun z => nomatch z) h
  | @tup a xs ea =>
    cases (show u = Value.ref a from rx)
    obtain ⟨_, _, _, p⟩ := (show ObjOk X.prog X.w H s.heap a (.tup xs) from I.hok a _ ea)
    obtain ⟨o, h1, h2, _⟩ := p
    exact PySem.W.kia_one PySem.W.kitx_tuple I.kIn ⟨o, h1, h2⟩ e (fun z => nomatch z) h
  | @dK a kvs ea =>
    cases (show u = Value.ref a from rx)
    obtain ⟨_, _, vs, _, p⟩ := (show ObjOk X.prog X.w H s.heap a (.dK kvs) from I.hok a _ ea)
    obtain ⟨o, es, ep, h1, h2, _⟩ := p
    exact PySem.W.kia_one PySem.W.kitx_dict I.kIn ⟨o, h1, h2.1⟩ e (fun z => nomatch z) h
  | @dT a kvs ea =>
    cases (show u = Value.ref a from rx)
    obtain ⟨_, _, xs, _, o, es, ep, h1, h2, _⟩ := (show ObjOk X.prog X.w H s.heap a (.dT kvs) from I.hok a _ ea)
    exact PySem.W.kia_one PySem.W.kitx_dict I.kIn ⟨o, h1, h2.1⟩ e (fun z => nomatch z) h
  | @ins a C dx fs ea cl ha hn htk hm =>
    cases (show u = Value.ref a from rx)
    obtain ⟨mA, O, _⟩ := ins_get I.hok ea
    obtain ⟨od, J, _⟩ := O.look
    exact PySem.W.kia_one (PySem.W.kitx_own (cl.get _) cl.hd ha hn htk hm) I.kIn J e (fun z => nomatch z) h
end
end L2

namespace L2
open PySem PySem.Spec PyProof.Rows

/-! ### room -/
structure Room (k : Nat) (A : Around) : Prop where
  hd : A.handled = none
  dp : A.depth + 3 * k + 5 < recursionLimit
  un : A.units + 16 * k + 200 < cLine
theorem Room.mono {j k : Nat} {A : Around} (r : Room k A) (h : j ≤ k) : Room j A := ⟨r.hd, by have := r.dp; omega, by have := r.un; omega⟩
theorem Room.deeper {k : Nat} {A : Around} (r : Room (k + 1) A) (env : Env) : Room k (A.deeper env) :=
  ⟨r.hd, by have := r.dp; show A.depth + 1 + 3 * k + 5 < _; omega, by have := r.un; show A.units + 3 + 16 * k + 200 < _; omega⟩
theorem Room.in1 {k : Nat} {A : Around} (r : Room (k + 1) A) : Room k A.in1 :=
  ⟨r.hd, by have := r.dp; show A.depth + 3 * k + 5 < _; omega, by have := r.un; show A.units + 1 + 16 * k + 200 < _; omega⟩
theorem make_depth {A : Around} {C : Addr} {us : List Value} {kw : List (Str × Value)} : (A.under (.builtin "type.__call__" ⟨.ref C :: us, kw⟩)).depth = A.depth + 1 := by
  first | rfl | simp [Around.under, Code.weight, Code.isCreation, Code.isGuard, Code.isCaller, Code.frames, Code.isFrame, guardIds]
theorem make_units {A : Around} {C : Addr} {us : List Value} {kw : List (Str × Value)} : (A.under (.builtin "type.__call__" ⟨.ref C :: us, kw⟩)).units = A.units + 1 := by
  first | rfl | simp [Around.under, Code.cUnits, Code.frames, Code.isFrame]
theorem Room.make {k : Nat} {A : Around} (r : Room (k + 1) A) (C : Addr) (us : List Value) (kw : List (Str × Value)) : Room k (A.under (.builtin "type.__call__" ⟨.ref C :: us, kw⟩)) :=
  ⟨r.hd, by have := r.dp; rw [make_depth]; omega, by have := r.un; rw [make_units]; omega⟩
theorem Room.depth {k : Nat} {A : Around} (r : Room k A) : A.depth < recursionLimit := by have := r.dp; omega
theorem Room.units {k : Nat} {A : Around} (r : Room k A) : A.units + 64 < cLine := by have := r.un; omega
theorem Room.units0 {k : Nat} {A : Around} (r : Room k A) : A.units < cLine := by have := r.un; omega

/-! ### argument lists and displays -/
def tNil : TA := fun _ H Q => Q [] H
def tCons (ta : TE) (tr : TA) : TA := fun σ H Q => ta σ H fun x H1 => tr σ H1 fun xs H2 => Q (x :: xs) H2
section
variable {X : Cx} {e : Expr} {es : List Expr} {te : TE} {t : TA} {pos : Pos}
theorem pa_nil : PA X [] tNil := fun _ _ _ _ H Q I h => Calls.spliced_nil ⟨[], H, I, .nil, h⟩
theorem pa_cons (ha : PE X e te) (hr : PA X es t) (hs : starEach (e :: es) X.env = (false, eval e X.env) :: starEach es X.env := by rfl) : PA X (e :: es) (tCons te t) := by
  intro pos pins s σ H Q I h
  rw [hs]
  show wpAny _ _ (spliced ((false, eval e X.env) :: backTo pos (starEach es X.env))) _ _ s
  refine Calls.spliced_cons (thn (ha pins s σ H _ I h) fun u s1 ⟨x, H1, I1, r1, q1⟩ => ?_)
  exact thn (hr pos pins s1 σ H1 _ I1 q1) fun us s2 ⟨xs, H2, I2, r2, q2⟩ => ⟨x :: xs, H2, I2, .cons r1 r2, q2⟩

/-- a tuple, a list of written items -/
def tTup (t : TA) : TE := fun σ H Q => t σ H fun xs H1 => xs.length ≤ sizeLine ∧ ∀ p, H1 p = none → Q (.ref p) (upd H1 p (.tup xs))
def tLst (t : TA) : TE := fun σ H Q => t σ H fun xs H1 => xs.length ≤ sizeLine ∧ ∀ p, H1 p = none → Q (.ref p) (upd H1 p (.lst xs))
theorem pe_tup {x1} (h : PA X es t) : PE X (.Tuple es x1 pos) (tTup t) := by
  intro pins s σ H Q I hq
  refine wpAny_Tuple_spliced (thn (h pos pins s σ H _ I hq) fun us s1 ⟨xs, H1, I1, r, z, q⟩ => ⟨by rw [← r.length]; exact z, ?_⟩)
  have hf : H1 s1.heap.objs.size = none := I1.hok.fresh (Nat.le_refl _)
  refine ⟨.ref s1.heap.objs.size, upd H1 s1.heap.objs.size (.tup xs), I1.laid (t' := s1.toks) (fun b u e => Heap.get?_push_of_some _ e) (Nat.le_refl _) ?_, rfl, q _ hf⟩
  exact ⟨z, us, r, ⟨_, Heap.get?_push_size _ rfl, rfl, _, rfl⟩⟩
theorem pe_lst (h : PA X es t) : PE X (.List es pos) (tLst t) := by
  intro pins s σ H Q I hq
  refine wpAny_List_spliced (thn (h pos pins s σ H _ I hq) fun us s1 ⟨xs, H1, I1, r, z, q⟩ => ⟨by rw [← r.length]; exact z, ?_⟩)
  have hf : H1 s1.heap.objs.size = none := I1.hok.fresh (Nat.le_refl _)
  refine ⟨.ref s1.heap.objs.size, upd H1 s1.heap.objs.size (.lst xs), I1.laid (t' := s1.toks) (fun b u e => Heap.get?_push_of_some _ e) (Nat.le_refl _) ?_, rfl, q _ hf⟩
  exact ⟨z, us, 0, r, Heap.get?_push_size _ rfl⟩
end

/-! ### what a def promises -/
/-- a def's promise: the bound arguments in the parameters' order, the heap, the wanted end, the wanted exception -/
abbrev Sp := List V → Hp → VK → XK → Prop
/-- how an exception lies behind a call (file 08 gives it): the callers' frames, abstract heap and state ahead of the call, the wish, the exception, the state -/
abbrev CXT := List Env → Hp → Shared → XK → Value → Shared → Prop

/-- the state at a call -/
structure Env0 (P : Program) (w : World) (K : PySem.W.Frag) (mg : Str → Option Value) (base : Heap) (A : Around) (outer : List Env) (s : Shared) (H : Hp) : Prop where
  frames : A.frames = some outer
  mod : Mod K mg base
  bs : ∀ b o, base.get? b = some o → s.heap.get? b = some o ∧ H b = none
  bsz : base.objs.size ≤ s.heap.objs.size
  funs : s.heap.FunFrames base outer
  frf : ∀ b ∈ frs outer, H b = none
  hok : HOk P w H s.heap
  bare : AllBare s.gens
/-- a call's end -/
def CE (outer : List Env) (P : Program) (w : World) (H : Hp) (s : Shared) (Q : VK) (u : Value) (s' : Shared) : Prop :=
  ∃ v H', s'.os = s.os ∧ AllBare s'.gens ∧ Un (frs outer) [] H H' s.heap s'.heap ∧ HOk P w H' s'.heap ∧ RelV v u ∧ Q v H'
def CR (CX : CXT) (outer : List Env) (P : Program) (w : World) (H : Hp) (s : Shared) (Q : VK) (E : XK) (r : Result) (s' : Shared) : Prop :=
  match r with
  | .ok (.ret u) => CE outer P w H s Q u s'
  | .ok _ => False
  | .error e => CX outer H s E e s'
structure FnOk (P : Program) (w : World) (K : PySem.W.Frag) (mg : Str → Option Value) (base : Heap) (CX : CXT) (k : Nat) (f : Addr) (fd : FuncData) (ps : List Str) (sp : Sp) : Prop where
  len : ∀ vs H Q E, sp vs H Q E → vs.length = ps.length
  run : ∀ (A : Around) (outer : List Env) (s : Shared) (H : Hp) (args : Args) (us : List Value) (vs : List V) (Q : VK) (E : XK), Room k A → Env0 P w K mg base A outer s H → BindsTo s fd args (ps.zip us) → Vals vs us → sp vs H Q E →
    codeAny (model P w) A (.call (.ref f) args) (CR CX outer P w H s Q E) s
theorem FnOk.mono {P : Program} {w : World} {K : PySem.W.Frag} {mg : Str → Option Value} {base : Heap} {CX : CXT} {j k : Nat} {f : Addr} {fd : FuncData} {ps : List Str} {sp : Sp} (F : FnOk P w K mg base CX j f fd ps sp) (h : j ≤ k) :
    FnOk P w K mg base CX k f fd ps sp := ⟨F.len, fun A outer s H args us vs Q E hr => F.run A outer s H args us vs Q E (hr.mono h)⟩
/-- a weaker promise -/
theorem FnOk.imp {P : Program} {w : World} {K : PySem.W.Frag} {mg : Str → Option Value} {base : Heap} {CX : CXT} {k : Nat} {f : Addr} {fd : FuncData} {ps : List Str} {sp sp' : Sp} (F : FnOk P w K mg base CX k f fd ps sp)
    (h : ∀ vs H Q E, sp' vs H Q E → sp vs H Q E) : FnOk P w K mg base CX k f fd ps sp' :=
  ⟨fun vs H Q E q => F.len vs H Q E (h _ _ _ _ q), fun A outer s H args us vs Q E hr he hb hv hs => F.run A outer s H args us vs Q E hr he hb hv (h _ _ _ _ hs)⟩

theorem Env0.make {P : Program} {w : World} {K : PySem.W.Frag} {mg : Str → Option Value} {base : Heap} {A : Around} {outer : List Env} {s : Shared} {H : Hp} (e : Env0 P w K mg base A outer s H) (C : Addr) (us : List Value) (kw : List (Str × Value)) :
    Env0 P w K mg base (A.under (.builtin "type.__call__" ⟨.ref C :: us, kw⟩)) outer s H := ⟨by first | exact e.frames | (simpa [Around.under, Code.envs, Code.isFrame, pushEnvs] using e.frames), e.mod, e.bs, e.bsz, e.funs, e.frf, e.hok, e.bare⟩
theorem Env0.in1 {P : Program} {w : World} {K : PySem.W.Frag} {mg : Str → Option Value} {base : Heap} {A : Around} {outer : List Env} {s : Shared} {H : Hp} (e : Env0 P w K mg base A outer s H) :
    Env0 P w K mg base A.in1 outer s H := ⟨e.frames, e.mod, e.bs, e.bsz, e.funs, e.frf, e.hok, e.bare⟩

section
variable {X : Cx} {pins : List (Addr × Obj)} {σ : St} {H : Hp} {s s' : Shared}
/-- from a body: what a callee wants -/
theorem Inv.env0 (I : Inv X pins σ H s) : Env0 X.prog X.w X.K X.mg X.base X.A X.stack s H :=
  ⟨I.ok.frames, I.ok.mod, I.bs, Nat.le_trans I.ok.bsz I.sz, I.stack, I.stkFree, I.hok, I.bare⟩
/-- behind a call -/
theorem Inv.after {Q : VK} {u : Value} (I : Inv X pins σ H s) (h : CE X.stack X.prog X.w H s Q u s') : EP X pins σ Q u s' := by
  obtain ⟨v, H', os, bare, un, hok, r, q⟩ := h
  obtain ⟨hh, g, d, t, os'⟩ := s'
  obtain rfl : os' = s.os := os
  exact ⟨v, H', I.call (h' := hh) (g' := g) (d' := d) (t' := t) (ch := []) un hok bare (fun b z => absurd z (by simp)), r, q⟩
end

/-! ### calls -/
/-- f(..): the written arguments, then the defaults dvs; E: what is wanted of an exception -/
def tCall (sp : Sp) (dvs : List V) (E : XK) (t : TA) : TE := fun σ H Q => t σ H fun vs H1 => sp (vs ++ dvs) H1 Q E
/-- o.m(..) of an instance of the class at C -/
def tMeth (C : Addr) (m : Str) (sp : Sp) (dvs : List V) (E : XK) (ta : TE) (t : TA) : TE := fun σ H Q => ta σ H fun x H1 => ∃ a dx fs, x = .ref a ∧ H1 a = some (.ins C dx fs) ∧ fs.lookup m = none ∧
  t σ H1 fun vs H2 => sp (x :: (vs ++ dvs)) H2 Q E
/-- C(..): a new instance and its dict, then __init__ -/
def tMake (C : Addr) (sp : Sp) (dvs : List V) (E : XK) (t : TA) : TE := fun σ H Q => t σ H fun vs H1 => ∀ x dx, H1 x = none → H1 dx = none → dx ≠ x →
  sp (.ref x :: (vs ++ dvs)) (upd (upd H1 dx (.own x)) x (.ins C dx [])) (fun v H2 => v = .non ∧ Q (.ref x) H2) E

/-- how the parameters are bound: us the positional arguments, kw the keywords' values by name, ds the defaults that fill up -/
def Binds (K : PySem.W.Frag) (fd : FuncData) (ps : List Str) (ds : List Value) : Prop :=
  ∀ (s : Shared) (us : List Value), K.In s.heap → (us ++ ds).length = ps.length → BindsTo s fd ⟨us, []⟩ (ps.zip (us ++ ds))
/-- every parameter is given -/
theorem Binds.all {K : PySem.W.Frag} {fd : FuncData} {ps : List Str} (h : ∀ us : List Value, us.length = ps.length → bindArgs fd ⟨us, []⟩ = pure (ps.zip us)) : Binds K fd ps [] := fun s us _ hl => by
  rw [List.append_nil] at hl ⊢
  exact .of_eq (h us hl)

/-- an exception of a callee reaches what this body wants of exceptions -/
def Passes (CX : CXT) (X : Cx) (E : XK) : Prop := ∀ (pins : List (Addr × Obj)) (σ : St) (H : Hp) (s : Shared) (e : Value) (s' : Shared), Inv X pins σ H s → CX X.stack H s E e s' → X.xe e s'

section
variable {X : Cx} {CX : CXT} {k : Nat} {f C : Addr} {fd : FuncData} {ps : List Str} {sp : Sp} {dvs : List V} {ds : List Value} {E : XK} {x m : Str} {p pos apos : Pos} {e o : Expr} {es : List Expr} {ta : TE} {t : TA}

/-- the callee runs -/
theorem run_fn {pins : List (Addr × Obj)} {σ : St} {H : Hp} {s : Shared} {Q : VK} {us : List Value} {vs : List V} (F : FnOk X.prog X.w X.K X.mg X.base CX k f fd ps sp) (hr : Room k X.A) (hb : Binds X.K fd ps ds) (hd : Vals dvs ds) (hx : Passes CX X E)
    (I : Inv X pins σ H s) (r : Vals vs us) (h : sp (vs ++ dvs) H Q E) : wpAny (model X.prog X.w) X.A (call (.ref f) us) (EP X pins σ Q) X.xe s := by
  have r2 : Vals (vs ++ dvs) (us ++ ds) := r.append hd
  have hl : (us ++ ds).length = ps.length := by rw [← r2.length]; exact F.len _ _ _ _ h
  refine wpAny_call (codeAny_mono (F.run X.A X.stack s H ⟨us, []⟩ (us ++ ds) (vs ++ dvs) Q E hr I.env0 (hb s us I.kIn hl) r2 h) fun r s' hq => ?_)
  cases r with
  | error e => exact hx pins σ H s e s' I hq
  | ok fl =>
    cases fl with
    | ret u => exact I.after hq
    | next => exact False.elim hq
    | brk => exact False.elim hq
    | cont => exact False.elim hq

theorem pe_call (F : FnOk X.prog X.w X.K X.mg X.base CX k f fd ps sp) (hr : Room k X.A) (hg : Gl X x) (hm : X.mg x = some (.ref f)) (hk : PySem.W.keepIn X.K (.ref f) = true) (hb : Binds X.K fd ps ds) (hd : Vals dvs ds) (hx : Passes CX X E)
    (ha : PA X (e :: es) t) (hdb : (x == ("__debug__" : Str)) = false := by decide) (he : starEach (e :: es) X.env = (false, eval e X.env) :: starEach es X.env := by rfl) (hpl : (backTo pos (starEach es X.env)).any (·.1) = false := by rfl) :
    PE X (.Call (.Name x p) (e :: es) [] pos) (tCall sp dvs E t) := by
  intro pins s σ H Q I h
  refine wpAny_Call_Name_kw (ld_glob I hg hm ?_ hdb)
  refine PySem.W.callWith_K (h₀ := X.base) I.ok.mod.kin hk (thn (ha pos pins s σ H _ I h) fun us s1 ⟨vs, H1, I1, r, q⟩ => ⟨I1.kIn, ?_⟩) he hpl
  exact run_fn F hr hb hd hx I1 r q
theorem pe_call0 (F : FnOk X.prog X.w X.K X.mg X.base CX k f fd ps sp) (hr : Room k X.A) (hg : Gl X x) (hm : X.mg x = some (.ref f)) (hk : PySem.W.keepIn X.K (.ref f) = true) (hb : Binds X.K fd ps ds) (hd : Vals dvs ds) (hx : Passes CX X E)
    (hdb : (x == ("__debug__" : Str)) = false := by decide) : PE X (.Call (.Name x p) [] [] pos) (tCall sp dvs E tNil) := by
  intro pins s σ H Q I h
  refine wpAny_Call_Name_kw (ld_glob I hg hm ?_ hdb)
  exact PySem.W.callWith_K0 I.kIn hk (run_fn (us := []) F hr hb hd hx I .nil h)

/-- o.m(e, ..) -/
theorem pe_meth {pl : Sem Bool} (he : PE X o ta) (c : Cls X.K C) (hm : Meth X.K C m f) (F : FnOk X.prog X.w X.K X.mg X.base CX k f fd ps sp) (hr : Room k X.A) (hb : Binds X.K fd ps ds) (hd : Vals dvs ds) (hx : Passes CX X E) (ha : PA X (e :: es) t)
    (hst : starEach (e :: es) X.env = (false, eval e X.env) :: starEach es X.env := by rfl) (hpl : (backTo pos (starEach es X.env)).any (·.1) = false := by rfl)
    (ht : eval (.Call (.Attribute o m apos) (e :: es) [] pos) X.env = (do
      let ov ← eval o X.env
      standAt apos.atName
      let (f, first) ← holding [ov] (getMethod ov m pl)
      callWith pos f first (backTo pos (starEach (e :: es) X.env)) (backToKw pos (keywordEach [] X.env))) := by rfl) :
    PE X (.Call (.Attribute o m apos) (e :: es) [] pos) (tMeth C m sp dvs E ta t) := by
  intro pins s σ H Q I h
  refine PySem.W.methodCall_KW (pl := pl) (thn (he pins s σ H _ I h) fun u s1 ⟨x, H1, I1, rx, a, dx, fs, ex, ea, l, q⟩ => ?_) ht
  subst ex
  obtain rfl : u = Value.ref a := rx
  refine getmeth_ok I1 ea c hm l ?_
  refine PySem.W.callWith_K (first := [.ref a]) (h₀ := X.base) I.ok.mod.kin hm.kp (thn (ha pos pins s1 σ H1 _ I1 q) fun us s2 ⟨vs, H2, I2, r, q2⟩ => ⟨I2.kIn, ?_⟩) hst hpl
  exact run_fn (us := .ref a :: us) (vs := .ref a :: vs) F hr hb hd hx I2 (.cons rfl r) q2
/-- o.m() -/
theorem pe_meth0 {pl : Sem Bool} (he : PE X o ta) (c : Cls X.K C) (hm : Meth X.K C m f) (F : FnOk X.prog X.w X.K X.mg X.base CX k f fd ps sp) (hr : Room k X.A) (hb : Binds X.K fd ps ds) (hd : Vals dvs ds) (hx : Passes CX X E)
    (ht : eval (.Call (.Attribute o m apos) [] [] pos) X.env = (do
      let ov ← eval o X.env
      standAt apos.atName
      let (f, first) ← holding [ov] (getMethod ov m pl)
      callWith pos f first (backTo pos (starEach [] X.env)) (backToKw pos (keywordEach [] X.env))) := by rfl) :
    PE X (.Call (.Attribute o m apos) [] [] pos) (tMeth C m sp dvs E ta tNil) := by
  intro pins s σ H Q I h
  refine PySem.W.methodCall_KW (pl := pl) (thn (he pins s σ H _ I h) fun u s1 ⟨x, H1, I1, rx, a, dx, fs, ex, ea, l, q⟩ => ?_) ht
  subst ex
  obtain rfl : u = Value.ref a := rx
  refine getmeth_ok I1 ea c hm l ?_
  exact PySem.W.callWith_K0 (first := [.ref a]) I1.kIn hm.kp (run_fn (us := [.ref a]) (vs := [.ref a]) F hr hb hd hx I1 (.cons rfl .nil) q)

/-- what a class must have to be made -/
structure Mk (K : PySem.W.Frag) (C f : Addr) : Prop where
  makes : PySem.W.makesIn K C = true
  init : PySem.W.findIn K (.ref C) "__init__" = some (some (.ref f))
  fn : PySem.W.isFn K (.ref f) = true
  kp : PySem.W.keepIn K (.ref C) = true

theorem run_make {pins : List (Addr × Obj)} {σ : St} {H : Hp} {s : Shared} {Q : VK} {us : List Value} {vs : List V} (M : Mk X.K C f) (F : FnOk X.prog X.w X.K X.mg X.base CX k f fd ps sp) (hr : Room (k + 1) X.A) (hb : Binds X.K fd ps ds) (hd : Vals dvs ds)
    (hx : Passes CX X E) (I : Inv X pins σ H s) (r : Vals vs us)
    (h : ∀ x dx, H x = none → H dx = none → dx ≠ x → sp (.ref x :: (vs ++ dvs)) (upd (upd H dx (.own x)) x (.ins C dx [])) (fun v H2 => v = .non ∧ Q (.ref x) H2) E) :
    wpAny (model X.prog X.w) X.A (call (.ref C) us) (EP X pins σ Q) X.xe s := by
  have hq := h (s.heap.objs.size + 1) s.heap.objs.size (I.hok.fresh (Nat.le_succ _)) (I.hok.fresh (Nat.le_refl _)) (Nat.ne_of_lt (Nat.lt_succ_self _))
  have I2 := Inv.made (C := C) I
  have r2 : Vals (V.ref (s.heap.objs.size + 1) :: (vs ++ dvs)) (Value.ref (s.heap.objs.size + 1) :: (us ++ ds)) := .cons rfl (r.append hd)
  have hl : (Value.ref (s.heap.objs.size + 1) :: us ++ ds).length = ps.length := by
    have e := r2.length
    rw [F.len _ _ _ _ hq] at e
    exact e.symm
  refine wpAny_call (make_map (f := f) I.kIn M.makes M.init (beq_iff_eq.mp M.fn) (codeAny_mono (F.run _ X.stack _ _ ⟨Value.ref (s.heap.objs.size + 1) :: us, []⟩ (Value.ref (s.heap.objs.size + 1) :: (us ++ ds)) _ _ E (hr.make C us [])
    (I2.env0.make C us []) (hb _ (Value.ref (s.heap.objs.size + 1) :: us) I2.kIn hl) r2 hq) fun r s' hq' => ?_))
  cases r with
  | error e => exact hx pins σ _ _ e s' I2 hq'
  | ok fl =>
    cases fl with
    | ret u =>
      obtain ⟨v, H', I3, rv, ev, q3⟩ := I2.after hq'
      subst ev
      exact ⟨rv, ⟨V.ref (s.heap.objs.size + 1), H', I3, rfl, q3⟩⟩
    | next => exact False.elim hq'
    | brk => exact False.elim hq'
    | cont => exact False.elim hq'
theorem pe_make (M : Mk X.K C f) (F : FnOk X.prog X.w X.K X.mg X.base CX k f fd ps sp) (hr : Room (k + 1) X.A) (hg : Gl X x) (hm : X.mg x = some (.ref C)) (hb : Binds X.K fd ps ds) (hd : Vals dvs ds) (hx : Passes CX X E)
    (ha : PA X (e :: es) t) (hdb : (x == ("__debug__" : Str)) = false := by decide) (he : starEach (e :: es) X.env = (false, eval e X.env) :: starEach es X.env := by rfl) (hpl : (backTo pos (starEach es X.env)).any (·.1) = false := by rfl) :
    PE X (.Call (.Name x p) (e :: es) [] pos) (tMake C sp dvs E t) := by
  intro pins s σ H Q I h
  refine wpAny_Call_Name_kw (ld_glob I hg hm ?_ hdb)
  refine PySem.W.callWith_K (h₀ := X.base) I.ok.mod.kin M.kp (thn (ha pos pins s σ H _ I h) fun us s1 ⟨vs, H1, I1, r, q⟩ => ⟨I1.kIn, ?_⟩) he hpl
  exact run_make M F hr hb hd hx I1 r q
theorem pe_make0 (M : Mk X.K C f) (F : FnOk X.prog X.w X.K X.mg X.base CX k f fd ps sp) (hr : Room (k + 1) X.A) (hg : Gl X x) (hm : X.mg x = some (.ref C)) (hb : Binds X.K fd ps ds) (hd : Vals dvs ds) (hx : Passes CX X E)
    (hdb : (x == ("__debug__" : Str)) = false := by decide) : PE X (.Call (.Name x p) [] [] pos) (tMake C sp dvs E tNil) := by
  intro pins s σ H Q I h
  refine wpAny_Call_Name_kw (ld_glob I hg hm ?_ hdb)
  exact PySem.W.callWith_K0 I.kIn M.kp (run_make (us := []) M F hr hb hd hx I .nil h)
end

/-! ### keywords -/
/-- the values of the keywords, from the left -/
def PK (X : Cx) (kws : List Keyword) (t : TA) : Prop :=
  ∀ (pos : Pos) (pins : List (Addr × Obj)) (s : Shared) (σ : St) (H : Hp) (Q : List V → Hp → Prop), Inv X pins σ H s → t σ H Q → wpAny (model X.prog X.w) X.A (evalAll ((backToKw pos (keywordEach kws X.env)).map (·.2))) (AP X pins σ Q) X.xe s
section
variable {X : Cx} {CX : CXT} {k : Nat} {f C : Addr} {fd : FuncData} {ps ks : List Str} {sp : Sp} {E : XK} {x m : Str} {p pos apos kpos : Pos} {e o : Expr} {es : List Expr} {kws : List Keyword} {te ta : TE} {t tk : TA} {nm : Option Str}
theorem pk_nil : PK X [] tNil := fun _ _ _ _ H Q I h => wpAny_evalAll_nil ⟨[], H, I, .nil, h⟩
theorem pk_cons (ha : PE X e te) (hr : PK X kws t) : PK X (⟨nm, e, kpos⟩ :: kws) (tCons te t) := by
  intro pos pins s σ H Q I h
  show wpAny _ _ (evalAll ((do let v ← eval e X.env; standAt pos; pure v) :: (backToKw pos (keywordEach kws X.env)).map (·.2))) _ _ s
  refine wpAny_evalAll_cons (wpAny_bind (thn (ha pins s σ H _ I h) fun u s1 ⟨x, H1, I1, r1, q1⟩ => wpAny_bind (wpAny_standAt (wpAny_pure ?_))))
  exact thn (hr pos pins s1 σ H1 _ I1 q1) fun us s2 ⟨xs, H2, I2, r2, q2⟩ => ⟨x :: xs, H2, I2, .cons r1 r2, q2⟩

/-- how a call with keywords binds: g puts the positional values us and the keywords' values ws (names ks) in the parameters' order, defaults among them -/
structure KBinds (K : PySem.W.Frag) (fd : FuncData) (ps ks : List Str) (g : List Value → List Value → List Value) (gV : List V → List V → List V) : Prop where
  to : ∀ (s : Shared) (us ws : List Value), K.In s.heap → (g us ws).length = ps.length → BindsTo s fd ⟨us, ks.zip ws⟩ (ps.zip (g us ws))
  rel : ∀ {vs : List V} {us : List Value} {zs : List V} {ws : List Value}, Vals vs us → Vals zs ws → Vals (gV vs zs) (g us ws)
def tCallK (sp : Sp) (gV : List V → List V → List V) (E : XK) (t tk : TA) : TE := fun σ H Q => t σ H fun vs H1 => tk σ H1 fun zs H2 => sp (gV vs zs) H2 Q E
variable {g : List Value → List Value → List Value} {gV : List V → List V → List V}
theorem run_fnk {pins : List (Addr × Obj)} {σ : St} {H : Hp} {s : Shared} {Q : VK} {us ws : List Value} {vs zs : List V} (F : FnOk X.prog X.w X.K X.mg X.base CX k f fd ps sp) (hr : Room k X.A) (hb : KBinds X.K fd ps ks g gV) (hx : Passes CX X E)
    (I : Inv X pins σ H s) (r : Vals vs us) (rz : Vals zs ws) (h : sp (gV vs zs) H Q E) : wpAny (model X.prog X.w) X.A (call (.ref f) us (ks.zip ws)) (EP X pins σ Q) X.xe s := by
  have r2 := hb.rel r rz
  have hl : (g us ws).length = ps.length := by rw [← r2.length]; exact F.len _ _ _ _ h
  refine wpAny_call (codeAny_mono (F.run X.A X.stack s H ⟨us, ks.zip ws⟩ (g us ws) (gV vs zs) Q E hr I.env0 (hb.to s us ws I.kIn hl) r2 h) fun r s' hq => ?_)
  cases r with
  | error e => exact hx pins σ H s e s' I hq
  | ok fl =>
    cases fl with
    | ret u => exact I.after hq
    | next => exact False.elim hq
    | brk => exact False.elim hq
    | cont => exact False.elim hq
/-- f(e, .., k = v, ..) -/
theorem pe_callK (F : FnOk X.prog X.w X.K X.mg X.base CX k f fd ps sp) (hr : Room k X.A) (hg : Gl X x) (hm : X.mg x = some (.ref f)) (hk : PySem.W.keepIn X.K (.ref f) = true) (hb : KBinds X.K fd ps ks g gV) (hx : Passes CX X E)
    (ha : PA X (e :: es) t) (hkw : PK X kws tk) (hall : (backToKw pos (keywordEach kws X.env)).all (·.1.isSome) = true := by rfl) (hks : (backToKw pos (keywordEach kws X.env)).filterMap (·.1) = ks := by rfl)
    (hdb : (x == ("__debug__" : Str)) = false := by decide) (he : starEach (e :: es) X.env = (false, eval e X.env) :: starEach es X.env := by rfl)
    (hpl : ((backTo pos (starEach (e :: es) X.env)).any (·.1) || (backToKw pos (keywordEach kws X.env)).any (·.1.isNone)) = false := by rfl) :
    PE X (.Call (.Name x p) (e :: es) kws pos) (tCallK sp gV E t tk) := by
  intro pins s σ H Q I h
  refine wpAny_Call_Name_kw (ld_glob I hg hm ?_ hdb)
  refine PySem.W.callWith_KW (h₀ := X.base) I.ok.mod.kin hk hall (thn (ha pos pins s σ H _ I h) fun us s1 ⟨vs, H1, I1, r, q⟩ => ?_) hpl he
  refine thn (hkw pos pins s1 σ H1 _ I1 q) fun ws s2 ⟨zs, H2, I2, rz, q2⟩ => ⟨I2.kIn, ?_⟩
  rw [hks]
  exact run_fnk F hr hb hx I2 r rz q2
end

/-! ### a def's body keeps its promise -/
/-- names: the parameters first -/
structure FnScope (N P : List Str) (sc : Scope) : Prop where
  kind : sc.kind = .function
  co : sc.isCoroutine = false
  gen : sc.isGenerator = false
  nd : N.Nodup
  pre : N.take P.length = P
  par : ∀ x ∈ P, sc.names.lookup x = some .local ∨ sc.names.lookup x = some .cell
  nofree : ∀ y ∈ sc.names, y.2 ≠ .free

theorem bindL_out {kindOf : Str → Option NameKind} {x : Str} : ∀ {binds : List (Str × Value)} {m : Str → Option Value}, (∀ v, (x, v) ∉ binds) → bindL kindOf binds m x = m x
  | [], _, _ => rfl
  | (n, v) :: r, m, h => by
    unfold bindL
    rw [bindL_out fun w hw => h w (List.mem_cons_of_mem _ hw)]
    split
    · have : x ≠ n := by rintro rfl; exact h v List.mem_cons_self
      simp [this]
    · rfl
theorem bindC_out {kindOf : Str → Option NameKind} {x : Str} : ∀ {binds : List (Str × Value)} {m : Str → Option Value}, (∀ v, (x, v) ∉ binds) → bindC kindOf binds m x = m x
  | [], _, _ => rfl
  | (n, v) :: r, m, h => by
    unfold bindC
    rw [bindC_out fun w hw => h w (List.mem_cons_of_mem _ hw)]
    split
    · rfl
    · have : x ≠ n := by rintro rfl; exact h v List.mem_cons_self
      simp [this]
theorem bindL_get {kindOf : Str → Option NameKind} {x : Str} {v : Value} : ∀ {P : List Str} {vs : List Value} {i : Nat} {m : Str → Option Value}, P.Nodup → P[i]? = some x → vs[i]? = some v → kindOf x = some .local →
    bindL kindOf (P.zip vs) m x = some v
  | [], _, _, _, _, h, _, _ => by simp at h
  | _ :: _, [], _, _, _, _, h, _ => by simp at h
  | p :: P, w :: vs, 0, m, nd, h1, h2, hk => by
    simp at h1 h2; subst h1; subst h2
    show bindL kindOf ((p, w) :: P.zip vs) m p = _
    unfold bindL
    rw [bindL_out fun v hv => (List.nodup_cons.mp nd).1 (List.of_mem_zip hv).1, if_pos hk]
    simp
  | p :: P, w :: vs, i + 1, m, nd, h1, h2, hk => by
    show bindL kindOf ((p, w) :: P.zip vs) m x = _
    unfold bindL
    exact bindL_get (i := i) (List.nodup_cons.mp nd).2 (by simpa using h1) (by simpa using h2) hk
theorem bindC_get {kindOf : Str → Option NameKind} {x : Str} {v : Value} : ∀ {P : List Str} {vs : List Value} {i : Nat} {m : Str → Option Value}, P.Nodup → P[i]? = some x → vs[i]? = some v → kindOf x ≠ some .local →
    bindC kindOf (P.zip vs) m x = some v
  | [], _, _, _, _, h, _, _ => by simp at h
  | _ :: _, [], _, _, _, _, h, _ => by simp at h
  | p :: P, w :: vs, 0, m, nd, h1, h2, hk => by
    simp at h1 h2; subst h1; subst h2
    show bindC kindOf ((p, w) :: P.zip vs) m p = _
    unfold bindC
    rw [bindC_out fun v hv => (List.nodup_cons.mp nd).1 (List.of_mem_zip hv).1, if_neg hk]
    simp
  | p :: P, w :: vs, i + 1, m, nd, h1, h2, hk => by
    show bindC kindOf ((p, w) :: P.zip vs) m x = _
    unfold bindC
    exact bindC_get (i := i) (List.nodup_cons.mp nd).2 (by simpa using h1) (by simpa using h2) hk

/-- the names' values at the entry -/
def start (N : List Str) (vs : List V) : St := vs.map some ++ List.replicate (N.length - vs.length) none

/-- the context of a def's body, at its entry; an exception leaves the frame, then lies as CX says -/
def cxOf (CX : CXT) (P : Program) (w : World) (K : PySem.W.Frag) (mg : Str → Option Value) (base : Heap) (N : List Str) (qual : Str) (scope : Scope) (f : Addr) (cd : Value) (A : Around) (outer : List Env) (s : Shared) (H : Hp) (E : XK) : Cx where
  prog := P
  w := w
  K := K
  mg := mg
  base := base
  A := A.deeper (envOfC qual scope s.heap.objs.size f cd)
  N := N
  s₀ := s
  H₀ := H
  env := envOfC qual scope s.heap.objs.size f cd
  outer := outer
  stack := envOfC qual scope s.heap.objs.size f cd :: outer
  ex := []
  calm := true
  fn := fun _ => true
  pn := []
  xe := fun e s' => wpAny (model P w) (A.deeper (envOfC qual scope s.heap.objs.size f cd)) (leaving (envOfC qual scope s.heap.objs.size f cd) e) (fun _ s'' => CX outer H s E e s'') (fun e' s'' => CX outer H s E e' s'') s'

theorem cell_has {sc : Scope} {n : Nat} {x : Str} (h : sc.names.lookup x = some .cell) : ∃ c, (cellsFrom n sc.names []).lookup x = some c := by
  have q := PySem.W.cellsFrom_some sc.names n [] (.inl h)
  exact Option.isSome_iff_exists.mp q

theorem inv_start {CX : CXT} {P : Program} {w : World} {K : PySem.W.Frag} {mg : Str → Option Value} {base : Heap} {N ps : List Str} {qual : Str} {scope : Scope} {f : Addr} {cd : Value} {A : Around} {outer : List Env} {s s1 : Shared} {H : Hp} {E : XK} {us : List Value} {vs : List V}
    (S : FnScope N ps scope) (hd : A.handled = none) (e0 : Env0 P w K mg base A outer s H) (hl : vs.length = ps.length) (r : Vals vs us)
    (x : InCallC s s.heap.objs.size (bindL (envOfC qual scope s.heap.objs.size f cd).kindOf (ps.zip us) fun _ => none) (cellsFrom (s.heap.objs.size + 1) scope.names []) (bindC (envOfC qual scope s.heap.objs.size f cd).kindOf (ps.zip us) fun _ => none) s1) :
    Inv (cxOf CX P w K mg base N qual scope f cd A outer s H E) [] (start N vs) H s1 := by
  have hpl : ps.length ≤ N.length := by have := congrArg List.length S.pre; rw [List.length_take] at this; omega
  obtain ⟨h1, tk, rfl, hk⟩ := x.done
  have noA : ∀ b : Addr, b ∉ (cxOf CX P w K mg base N qual scope f cd A outer s H E).ex := fun b z => absurd (show b ∈ ([] : List Addr) from z) (by simp)
  refine ⟨⟨e0.mod, S.kind, rfl, rfl, Nat.le_refl _, fun y z c h1 h2 => ?_, fun y hy => ?_, fun y c _ h => ?_, fun _ => hd, Around.frames_deeper e0.frames, .inr ⟨rfl, rfl⟩, fun b z => absurd z (noA b), e0.bs, e0.bsz, fun b _ _ => noA b, fun b z => absurd z (noA b), e0.funs, e0.frf⟩,
    rfl, e0.bare, Un.kept hk, ⟨_, x.toInCall.ns, fun i y v h1 h2 h3 => ?_⟩, fun y c h => ⟨_, x.cell y c h⟩, e0.hok.fresh (Nat.le_refl _), fun y c h => ?_, fun p hp => absurd (show p ∈ ([] : List (Addr × Obj)) from hp) (by simp), e0.hok.kept hk, ?_⟩
  · exact name_of_addr x.apart (PySem.mem_of_lookup h1) (PySem.mem_of_lookup h2)
  · have hy : scope.names.lookup y = some .cell ∨ scope.names.lookup y = some .free := hy
    rcases hy with hy | hy
    · exact cell_has hy
    · exact absurd rfl (S.nofree _ (PySem.mem_of_lookup hy))
  · exact Nat.le_of_lt (x.above y c (PySem.mem_of_lookup h))
  · have hi : i < vs.length := by
      unfold start at h2
      by_cases hi : i < vs.length
      · exact hi
      · rw [List.getElem?_append_right (by simpa using hi)] at h2
        rw [List.getElem?_replicate] at h2
        split at h2 <;> cases h2
    have ha : vs[i]? = some v := by
      unfold start at h2
      rw [List.getElem?_append_left (by simpa using hi), List.getElem?_map] at h2
      cases e : vs[i]? with
      | none => rw [e] at h2; cases h2
      | some a => rw [e] at h2; cases h2; rfl
    obtain ⟨u, hu, rv⟩ := r.get ha
    have hp : ps[i]? = some y := by
      rw [← S.pre, List.getElem?_take_of_lt (by omega)]; exact h1
    have ndP : ps.Nodup := by rw [← S.pre]; exact S.nd.sublist (List.take_sublist _ _)
    refine ⟨u, rv, ?_⟩
    rcases S.par y (List.mem_of_getElem? hp) with k | k
    · exact .inl ⟨k, bindL_get ndP hp hu k⟩
    · obtain ⟨c, e⟩ := cell_has (n := s.heap.objs.size + 1) k
      refine .inr ⟨.inl k, c, e, ?_⟩
      have q := x.cell y c e
      rw [bindC_get ndP hp hu (by show scope.names.lookup y ≠ _; rw [k]; decide)] at q
      exact q
  · exact e0.hok.fresh (Nat.le_of_lt (x.above y c (PySem.mem_of_lookup h)))
  · unfold start
    show _ = N.length
    rw [List.length_append, List.length_map, List.length_replicate]
    omega

/-- THE RULE: a def (or a method) of the text, by its body. The body's reading t is chosen for each entry; it is run at the parameters' values -/
theorem fn_of {CX : CXT} {P : Program} {w : World} {K : PySem.W.Frag} {mg : Str → Option Value} {base : Heap} {k : Nat} {f : Addr} {name qual : Str} {params : Arguments} {body : List Stmt} {scope : Scope} {dV kV doc pm cdv ct oc : Value} {an od : Option Addr}
    {osl : Array (Option Value)} {N ps : List Str} {sp : Sp} (lk : K.lookup f = some ⟨oc, od, .func (PySem.W.fnOf name qual params body scope dV kV doc pm an cdv ct), osl⟩) (hcd : PySem.W.codeIn K cdv qual = true) (S : FnScope N ps scope)
    (len : ∀ vs H Q E, sp vs H Q E → vs.length = ps.length)
    (hbody : ∀ (A : Around) (outer : List Env) (s : Shared) (H : Hp) (vs : List V) (Q : VK) (E : XK), Room k (A.deeper (envOfC qual scope s.heap.objs.size f cdv)) → sp vs H Q E →
      ∃ t, PSs (cxOf CX P w K mg base N qual scope f cdv A outer s H E) body t ∧ t { nx := fun _ H' => Q .non H', rt := Q } (start N vs) H) :
    FnOk P w K mg base CX (k + 1) f (PySem.W.fnOf name qual params body scope dV kV doc pm an cdv ct) ps sp := by
  refine ⟨len, fun A outer s H args us vs Q E hr e0 hb r hsp => ?_⟩
  have hl := len _ _ _ _ hsp
  have KX : K.In s.heap := e0.mod.kin.keeps fun b o e => (e0.bs b o e).1
  have lim : s.heap.NoLimit := e0.mod.nolimit.keeps fun b o e => (e0.bs b o e).1
  have hkind : ∀ y ∈ ps.zip us, scope.names.lookup y.1 = some .local ∨ (scope.names.lookup y.1 = some .cell ∧ ((cellsFrom (s.heap.objs.size + 1) scope.names []).lookup y.1).isSome = true) := fun ⟨n, v⟩ hy => by
    rcases S.par n (List.of_mem_zip hy).1 with q | q
    · exact .inl q
    · exact .inr ⟨q, PySem.W.cellsFrom_some _ _ _ (.inl q)⟩
  refine codeAny_call_function hr.depth (KX _ _ lk) rfl S.co S.gen rfl (PySem.W.codeRec_of KX hcd) (hb _ _ _ _ ?_)
  refine wpAny_newFunctionEnv_cells S.kind hkind fun env he s1 x => ?_
  subst he
  refine ⟨lim.keeps x.toInCall.keep, codeAny_func ?_⟩
  obtain ⟨t, ht, hq⟩ := hbody A outer s H vs Q E (hr.deeper _) hsp
  have I : Inv (cxOf CX P w K mg base N qual scope f cdv A outer s H E) [] (start N vs) H s1 := inv_start S hr.hd e0 hl r x
  refine wpAny_mono (ht [] s1 (start N vs) H _ I hq) (fun fl s' hs => ?_) fun e s' hs => hs
  have fin : ∀ {σ' : St} {H' : Hp} {v : V} {u : Value}, Inv (cxOf CX P w K mg base N qual scope f cdv A outer s H E) [] σ' H' s' → RelV v u → Q v H' → CE outer P w H s Q u s' :=
    fun {σ' H' v u} J rv q => ⟨v, H', J.os, J.bare, J.base, J.hok, rv, q⟩
  cases fl with
  | ret u =>
    obtain ⟨v, σ', H', J, rv, q⟩ := hs
    exact fin J rv q
  | next =>
    obtain ⟨σ', H', J, q⟩ := hs
    exact fin (v := V.non) (u := Value.none) J rfl q
  | brk =>
    obtain ⟨_, _, _, q⟩ := hs
    exact False.elim q
  | cont =>
    obtain ⟨_, _, _, q⟩ := hs
    exact False.elim q
end L2

namespace L2
open PySem PySem.Spec PyProof.Rows
section
variable {X : Cx} {x : Str} {p pos : Pos} {e : Expr} {es : List Expr} {t : TA} {id T : String} {r : List V → Hp → VK → Prop}

def tCB (r : List V → Hp → VK → Prop) (t : TA) : TE := fun σ H Q => t σ H fun vs H1 => r vs H1 Q
/-- f(e, ..), f a built-in function -/
theorem pe_callB (hc : CallR X (.builtin id) r) (hg : Gl X x) (hm : X.mg x = none) (hv : bootBuiltins x = some (.builtin id)) (ha : PA X (e :: es) t) (hn : x ≠ "__name__" := by decide) (hdb : (x == ("__debug__" : Str)) = false := by decide)
    (he : starEach (e :: es) X.env = (false, eval e X.env) :: starEach es X.env := by rfl) (hpl : (backTo pos (starEach es X.env)).any (·.1) = false := by rfl) : PE X (.Call (.Name x p) (e :: es) [] pos) (tCB r t) := by
  intro pins s σ H Q I h
  refine wpAny_Call_Name_kw (ld_blt I hg hm hv ?_ hn hdb)
  exact PyProof.Rows.callWith_builtin1 (thn (ha pos pins s σ H _ I h) fun us s1 ⟨vs, H1, I1, r1, q1⟩ => hc pins s1 σ H1 vs us Q I1 r1 q1) he hpl
/-- T(e, ..), T a built-in type -/
theorem pe_callTy (hc : CallR X (.type T) r) (hg : Gl X x) (hm : X.mg x = none) (hv : bootBuiltins x = some (.type T)) (ha : PA X (e :: es) t) (hn : x ≠ "__name__" := by decide) (hdb : (x == ("__debug__" : Str)) = false := by decide)
    (he : starEach (e :: es) X.env = (false, eval e X.env) :: starEach es X.env := by rfl) (hpl : (backTo pos (starEach es X.env)).any (·.1) = false := by rfl) : PE X (.Call (.Name x p) (e :: es) [] pos) (tCB r t) := by
  intro pins s σ H Q I h
  refine wpAny_Call_Name_kw (ld_blt I hg hm hv ?_ hn hdb)
  exact PyProof.Rows.callWith_type1 (thn (ha pos pins s σ H _ I h) fun us s1 ⟨vs, H1, I1, r1, q1⟩ => hc pins s1 σ H1 vs us Q I1 r1 q1) he hpl
/-- T() -/
theorem pe_callTy0 (hc : CallR X (.type T) r) (hg : Gl X x) (hm : X.mg x = none) (hv : bootBuiltins x = some (.type T)) (hn : x ≠ "__name__" := by decide) (hdb : (x == ("__debug__" : Str)) = false := by decide) :
    PE X (.Call (.Name x p) [] [] pos) (tCB r tNil) := by
  intro pins s σ H Q I h
  refine wpAny_Call_Name_kw (ld_blt I hg hm hv ?_ hn hdb)
  exact PyProof.Rows.callWith_type0 (hc pins s σ H [] [] Q I .nil h)
end
end L2

namespace HT
open PySem PyProof.Rows

/-- t < u of tuples of ints -/
def lexLt : List Int → List Int → Bool
  | [], [] => false
  | [], _ :: _ => true
  | _ :: _, [] => false
  | x :: xs, y :: ys => if x = y then lexLt xs ys else decide (x < y)
theorem lexLt_cons (x y : Int) (xs ys : List Int) : lexLt (x :: xs) (y :: ys) = if x = y then lexLt xs ys else decide (x < y) := rfl
theorem lexLt_nil_nil : lexLt [] [] = false := rfl
theorem lexLt_nil_cons (y : Int) (ys : List Int) : lexLt [] (y :: ys) = true := rfl
theorem lexLt_cons_nil (x : Int) (xs : List Int) : lexLt (x :: xs) [] = false := rfl

theorem eqAt_int (A : Around) (s : Shared) (a : Int) (t : Tok) (c : Int) (u : Tok) : ∃ e, SeqAt.EqAt A s (.int a t) (.int c u) e ∧ (e = true ↔ a = c) :=
  ⟨(a == c), SeqAt.EqAt.int_int a t c u, by simp⟩
theorem rcLt_int (A : Around) (s : Shared) (a : Int) (t : Tok) (c : Int) (u : Tok) (prog : Program) (w : World) (E : Value → Shared → Prop) (Q : Value → Shared → Prop) (h : Q (.bool (decide (a < c))) s) :
    wpAny (model prog w) A (richCompare .Lt (.int a t) (.int c u)) Q E s :=
  (PyProof.Rows.lt_int h : wpAny (model prog w) A (compareOp .Lt (.int a t) (.int c u)) Q E s)

section
open PySem.SeqAt
open PySem.AutoSeq1 (wpAny_loadPart')
open PySem.MeetsSeq PySem.MeetsSeq2 PySem.MeetsSeq3

theorem tuple_lt_ints (l b : Addr) (items items2 : Array Value) (n n2 : Nat) (dd dd2 : Option Addr) (sl sl2 : Array (Option Value)) (ns ms : List Int) (hi : IntsAre items.toList ns) (hj : IntsAre items2.toList ms) :
    Meets (Builtin.«tuple.__lt__» ⟨[.ref l, .ref b], []⟩)
      (fun _ R s => s.heap.get? l = some { cls := .type "tuple", dict := dd, data := .seq items n, slots := sl } ∧ s.heap.get? b = some { cls := .type "tuple", dict := dd2, data := .seq items2 n2, slots := sl2 } ∧
        R (.ok (.ret (.bool (lexLt ns ms)))) s) :=
  .of_wp fun prog w A R s h => by
    obtain ⟨hp, g, d, tk, os⟩ := s; obtain ⟨hl, hb, h⟩ := h
    have f2 := AutoSeq1.sub_tuple_tuple
    have z1 : items.size = ns.length := by rw [← hi.length]; simp
    have z2 : items2.size = ms.length := by rw [← hj.length]; simp
    wp_walk using wpAny_loadPart' hl, wpAny_loadPart' hb, wpAny_forIn_list _ (fun rest b s' => b.1 = none ∧ s' = ⟨hp, g, d, tk, os⟩ ∧ ∃ (vs ws : List Value) (ns' ms' : List Int), rest = vs.zip ws ∧
      IntsAre vs ns' ∧ IntsAre ws ms' ∧ ns'.length + items2.size = ms'.length + items.size ∧ R (.ok (.ret (.bool (lexLt ns' ms')))) ⟨hp, g, d, tk, os⟩) _
    case turn =>
      rintro ⟨y, x⟩ rest b s' ⟨hb', rfl, vs, ws, ns', ms', hz, hvi, hwi, hlen, hR⟩
      cases hvi with
      | nil => rw [List.zip_nil_left] at hz; cases hz
      | cons a t hvi' =>
        cases hwi with
        | nil => rw [List.zip_nil_right] at hz; cases hz
        | cons c u hwi' =>
          rw [List.zip_cons_cons] at hz
          injection hz with hyx hrest
          injection hyx with hy hx
          subst hy hx
          rw [lexLt_cons] at hR
          simp only [List.length_cons] at hlen
          obtain ⟨e, he, hiff⟩ := eqAt_int A.in1 ⟨hp, g, d, tk, os⟩ a t c u
          refine wpAny_bind (he prog w _ _ ?_)
          cases e with
          | true =>
            rw [if_pos (hiff.mp rfl)] at hR
            wp_walk
            exact ⟨rfl, rfl, _, _, _, _, hrest, hvi', hwi', by omega, hR⟩
          | false =>
            rw [if_neg (fun q => absurd (hiff.mpr q) Bool.false_ne_true)] at hR
            have hri := rcLt_int A.in1 ⟨hp, g, d, tk, os⟩ a t c u prog w
            wp_walk using hri
            exact ⟨_, rfl, by simpa using hR⟩
    case fin =>
      rintro ⟨b1, b2⟩ s' ⟨hb', rfl, vs, ws, ns', ms', hz, hvi, hwi, hlen, hR⟩
      simp only at hb'
      subst hb'
      have hv : lexLt ns' ms' = decide (items.size < items2.size) := by
        cases hvi with
        | nil =>
          cases hwi with
          | nil =>
            simp only [List.length_nil] at hlen
            rw [lexLt_nil_nil]
            exact (decide_eq_false (by omega)).symm
          | cons c u hw =>
            simp only [List.length_nil, List.length_cons] at hlen
            rw [lexLt_nil_cons]
            exact (decide_eq_true (by omega)).symm
        | cons a t hv =>
          cases hwi with
          | nil =>
            simp only [List.length_nil, List.length_cons] at hlen
            rw [lexLt_cons_nil]
            exact (decide_eq_false (by omega)).symm
          | cons c u hw =>
            rw [List.zip_cons_cons] at hz
            cases hz
      rw [hv] at hR
      wp_walk
      exact ⟨_, rfl, by simpa [Builtin.Tuple.tupleCompareSizes] using hR⟩
    case h =>
      exact ⟨rfl, rfl, items.toList, items2.toList, ns, ms, rfl, hi, hj, by omega, h⟩
end

section
variable {prog : Program} {w : World} {A : Around} {E : Value → Shared → Prop} {s : Shared}

theorem lt_tupInts {l b : Addr} {items items2 : Array Value} {ns ms : List Int} {Q : Value → Shared → Prop} (hl : IsTup s.heap l items) (hb : IsTup s.heap b items2) (hi : IntsAre items.toList ns) (hj : IntsAre items2.toList ms)
    (hu : A.units < cLine) (h : Q (.bool (lexLt ns ms)) s) : wpAny (model prog w) A (compareOp .Lt (.ref l) (.ref b)) Q E s := by
  obtain ⟨⟨cls, dd, data, sl⟩, ho, hc, n, hd⟩ := id hl
  obtain ⟨⟨cls2, dd2, data2, sl2⟩, ho2, hc2, n2, hd2⟩ := id hb
  simp only at hc hd hc2 hd2
  subst hc hd hc2 hd2
  exact richCompare_meets_room (op := .Lt) ⟨_, ho, rfl⟩ ⟨_, ho2, rfl⟩ PySem.F.slot_tuple_lt PySem.F.entry_tuple_lt (PySem.F.args_tuple_lt_2 _ _) (tuple_lt_ints l b items items2 n n2 dd dd2 sl sl2 ns ms hi hj)
    ⟨ho, ho2, show Value.bool (lexLt ns ms) ≠ Value.notImplemented ∧ Q (.bool (lexLt ns ms)) s from ⟨(fun x => nomatch x), h⟩⟩ hu

/-- t + u, t not empty -/
theorem cat_tup {t b : Addr} {vs ws : List Value} {Q : Value → Shared → Prop} (ht : IsTup s.heap t vs.toArray) (hb : IsTup s.heap b ws.toArray) (hv : vs ≠ [])
    (h1 : ws = [] → Q (.ref t) s) (h2 : ws ≠ [] → Q (.ref s.heap.objs.size) { s with heap := s.heap.push { cls := .type "tuple", data := .seq (vs ++ ws).toArray } })
    (hsz : vs.length + ws.length ≤ sizeLine) : wpAny (model prog w) A (binaryOp .Add (.ref t) (.ref b)) Q E s := by
  obtain ⟨⟨cls, dd, data, sl⟩, ho, hc, n, hd⟩ := id ht
  obtain ⟨⟨cls2, dd2, data2, sl2⟩, ho2, hc2, n2, hd2⟩ := id hb
  simp only at hc hd hc2 hd2
  subst hc hd hc2 hd2
  have e : vs.toArray ++ ws.toArray = (vs ++ ws).toArray := by simp
  by_cases hw : ws = []
  · exact concat_meets ⟨_, ho, rfl⟩ ⟨_, ho2, rfl⟩ noFill_tuple_add seq_tuple_add PySem.F.slot_tuple_add PySem.F.entry_tuple_add (PySem.F.args_tuple_add_2 _ _)
      (tuple_addW1 t b vs.toArray ws.toArray n n2 dd dd2 sl sl2 (by simpa using hv) (by simp [hw])) ⟨ho, ho2, h1 hw⟩
  · refine concat_meets ⟨_, ho, rfl⟩ ⟨_, ho2, rfl⟩ noFill_tuple_add seq_tuple_add PySem.F.slot_tuple_add PySem.F.entry_tuple_add (PySem.F.args_tuple_add_2 _ _)
      (tuple_addW2 t b vs.toArray ws.toArray n n2 dd dd2 sl sl2 (by simpa using hv) (by simpa using hw) (by rw [List.size_toArray, List.size_toArray]; exact hsz)) ⟨ho, ho2, ?_⟩
    rw [e]
    exact h2 hw

/-! ### t[a:b], not the whole -/
/-- a slice's bound as a place among n (d where it is left out) -/
def sIx (n d : Nat) : Option Int → Nat
  | none => d
  | some v => if v < 0 then (v + (n : Int)).toNat else min v.toNat n
theorem sIx_none (n d : Nat) : sIx n d none = d := rfl
theorem sIx_nat (n d k : Nat) : sIx n d (some (k : Int)) = min k n := by
  show (if (k : Int) < 0 then ((k : Int) + (n : Int)).toNat else min (k : Int).toNat n) = min k n
  rw [if_neg (by omega), Int.toNat_natCast]
theorem sIx_le (n d : Nat) (hd : d ≤ n) (o : Option Int) : sIx n d o ≤ n := by
  cases o with
  | none => exact hd
  | some v =>
    show (if v < 0 then (v + (n : Int)).toNat else min v.toNat n) ≤ n
    by_cases hv : v < 0
    · rw [if_pos hv]; omega
    · rw [if_neg hv]; exact Nat.min_le_right _ _
theorem clip_eq (v : Int) (n d : Nat) : (if v < 0 then max (v + (n : Int)) 0 else min v (n : Int)) = ((sIx n d (some v) : Nat) : Int) := by
  show (if v < 0 then max (v + (n : Int)) 0 else min v (n : Int)) = (((if v < 0 then (v + (n : Int)).toNat else min v.toNat n) : Nat) : Int)
  by_cases hv : v < 0
  · simp only [if_pos hv]; omega
  · simp only [if_neg hv]; omega
theorem adjust_gen (lo hi : Option Int) (n : Nat) : Builtin.Slice.sliceAdjust lo hi 1 (n : Int) = (((sIx n 0 lo : Nat) : Int), ((sIx n n hi : Nat) : Int)) := by
  have h1 : ¬ ((1 : Int) < 0) := by omega
  unfold Builtin.Slice.sliceAdjust
  simp only [h1, if_false]
  refine Prod.ext ?_ ?_
  · cases lo with
    | none => rfl
    | some v => exact clip_eq v n 0
  · cases hi with
    | none => rfl
    | some v => exact clip_eq v n n
theorem places_gen (i j : Nat) : Builtin.Slice.slicePlaces (i : Int) (j : Int) 1 = j - i := by
  unfold Builtin.Slice.slicePlaces
  have h1 : (1 : Int) > 0 := by omega
  simp only [h1, if_true, Int.ediv_one]
  split <;> omega
theorem slicePart_ {v : Value} {o : Option Int} {Q : Option Int → Shared → Prop} (p : IsPart v o) (h : Q o s) : wpAny (model prog w) A (Builtin.Slice.slicePartIndex v) Q E s := by
  cases p with
  | none => exact slicePart_none h
  | int i t => exact slicePart_int h
theorem sliceApplied_gen {sl : Addr} {vl vu : Value} {lo hi : Option Int} {n : Nat} {Q : Int × Int × Nat → Shared → Prop} (hs : s.heap.IsSliceOf sl vl vu .none) (pl : IsPart vl lo) (pu : IsPart vu hi)
    (h : Q (((sIx n 0 lo : Nat) : Int), 1, sIx n n hi - sIx n 0 lo) s) : wpAny (model prog w) A (Builtin.Slice.sliceApplied (.ref sl) (pure (n : Int))) Q E s := by
  obtain ⟨os, hos, hcs, hds⟩ := id hs
  unfold Builtin.Slice.sliceApplied Builtin.Slice.sliceFields
  refine wpAny_bind (wpAny_bind (wpAny_field hos hds (x := vl) rfl (wpAny_bind (wpAny_field hos hds (x := vu) rfl (wpAny_bind (wpAny_field hos hds (x := .none) rfl (wpAny_pure ?_)))))))
  refine wpAny_bind (slicePart_none ?_)
  show wpAny _ _ (if ((1 : Int) == 0) = true then _ else _) _ _ s
  rw [if_neg (by decide)]
  refine wpAny_bind (slicePart_ pl (wpAny_bind (slicePart_ pu (wpAny_bind (wpAny_pure ?_)))))
  show wpAny _ _ (match Builtin.Slice.sliceAdjust lo hi 1 (n : Int) with | (lo, hi) => pure (lo, (1 : Int), Builtin.Slice.slicePlaces lo hi 1)) _ _ s
  rw [adjust_gen lo hi n]
  show wpAny _ _ (pure (((sIx n 0 lo : Nat) : Int), (1 : Int), Builtin.Slice.slicePlaces ((sIx n 0 lo : Nat) : Int) ((sIx n n hi : Nat) : Int) 1)) _ _ s
  rw [places_gen]
  exact wpAny_pure h
theorem pick_gen (xs : Array Value) (i k : Nat) : ((List.range k).filterMap fun (m : Nat) => xs[((i : Int) + (m : Int) * 1).toNat]?).toArray = ((xs.toList.drop i).take k).toArray := by
  have e : (fun (m : Nat) => xs[((i : Int) + (m : Int) * 1).toNat]?) = fun m => xs[i + m]? := by
    funext m
    have : ((i : Int) + (m : Int) * 1).toNat = i + m := by omega
    rw [this]
  rw [e]
  have := pick_run xs i k
  rw [List.filterMap_map] at this
  have e2 : ((fun x => xs[x]?) ∘ fun x => i + x) = fun m => xs[i + m]? := rfl
  rw [e2] at this
  rw [this]

theorem getItem_tuple_cut {t sl : Addr} {items : Array Value} {vl vu : Value} {lo hi : Option Int} {Q : Value → Shared → Prop} (ht : IsTup s.heap t items) (hs : s.heap.IsSliceOf sl vl vu .none) (pl : IsPart vl lo) (pu : IsPart vu hi)
    (hw : ¬ (sIx items.size 0 lo = 0 ∧ sIx items.size items.size hi = items.size))
    (h : Q (.ref s.heap.objs.size) { s with heap := s.heap.push { cls := .type "tuple", data := .seq ((items.toList.drop (sIx items.size 0 lo)).take (sIx items.size items.size hi - sIx items.size 0 lo)).toArray } })
    (hsz : items.size ≤ sizeLine) : wpAny (model prog w) A (getItem (.ref t) (.ref sl)) Q E s := by
  have htake : sizeOk (.seq ((items.toList.drop (sIx items.size 0 lo)).take (sIx items.size items.size hi - sIx items.size 0 lo)).toArray) := by
    show ((items.toList.drop (sIx items.size 0 lo)).take (sIx items.size items.size hi - sIx items.size 0 lo)).toArray.size ≤ sizeLine
    rw [List.size_toArray, List.length_take, List.length_drop, Array.length_toList]
    omega
  have hj : sIx items.size items.size hi ≤ items.size := sIx_le _ _ (Nat.le_refl _) hi
  obtain ⟨os, hos, hcs, hds⟩ := id hs
  have hTs : s.TypeIs (.ref sl) "slice" := ⟨os, hos, hcs⟩
  unfold getItem
  try with_reducible refine wpAny_holding ?_
  first | refine wpAny_bind (wpAny_pure ?_) | skip
  refine wpAny_bind (wpAny_sequenceKey ht.typeIs (by decide) ?_)
  refine wpAny_bind (wpAny_callSpecial?_slot (name := Str.ofString "__getitem__") ht.typeIs PyProof.Rows.slot_tuple_getitem
    (wpAny_call_entry PyProof.Rows.slot_tuple_getitem ht.typeIs entry_tuple_getitem ?_ (args_tuple_getitem _ _)))
  show wpAny _ _ (Builtin.Tuple.tupleItemsOf (.ref t) >>= _) _ _ s
  refine wpAny_bind (tupleItemsOf_ ht ?_)
  refine wpAny_bind (wpAny_typeOf hTs ?_)
  rw [if_pos (by decide)]
  refine wpAny_bind (sliceApplied_gen hs pl pu ?_)
  have hno : ¬ ((((sIx items.size 0 lo : Nat) : Int) == 0 && (1 : Int) == 1 && (sIx items.size items.size hi - sIx items.size 0 lo) == items.size) = true) := by
    intro q
    rw [Bool.and_eq_true, Bool.and_eq_true] at q
    have q1 : ((sIx items.size 0 lo : Nat) : Int) = 0 := eq_of_beq q.1.1
    have q2 : sIx items.size items.size hi - sIx items.size 0 lo = items.size := eq_of_beq q.2
    exact hw ⟨by omega, by omega⟩
  show wpAny _ _ (if (((sIx items.size 0 lo : Nat) : Int) == 0 && (1 : Int) == 1 && (sIx items.size items.size hi - sIx items.size 0 lo) == items.size) = true then _ else _) _ _ s
  rw [if_neg hno, pick_gen]
  first
    | exact wpAny_bind (m := Builtin.Tuple.tupleExact _) (wpAny_newObj_type (wpAny_pure ⟨_, rfl, wpAny_pure h⟩) htake)
    | exact wpAny_bind (m := Builtin.Tuple.tupleExact _) (wpAny_newObj_type (wpAny_bind (wpAny_pure (wpAny_pure ⟨_, rfl, wpAny_pure h⟩))) htake)
    | exact wpAny_bind (wpAny_bind (m := Builtin.Tuple.tupleExact _) (wpAny_newObj_type (wpAny_pure (wpAny_pure ⟨_, rfl, wpAny_pure h⟩)) htake))
    | exact wpAny_bind (wpAny_bind (m := Builtin.Tuple.tupleExact _) (wpAny_newObj_type (wpAny_pure ⟨_, rfl, wpAny_pure h⟩) htake))
end
end HT

namespace L2
open PySem PySem.Spec PyProof.Rows

/-! ### the parts of a slice -/
abbrev TO := St → Hp → (Option Int → Hp → Prop) → Prop
/-- a slice's part (left out, or an int) -/
def PO (X : Cx) (e : Option Expr) (t : TO) : Prop :=
  ∀ (pins : List (Addr × Obj)) (s : Shared) (σ : St) (H : Hp) (Q : Option Int → Hp → Prop), Inv X pins σ H s → t σ H Q →
    wpAny (model X.prog X.w) X.A (evalPart e X.env) (fun u s' => ∃ o H', Inv X pins σ H' s' ∧ IsPart u o ∧ Q o H') X.xe s
def tNoPart : TO := fun _ H Q => Q none H
def tPart (t : TE) : TO := fun σ H Q => t σ H fun x H1 => ∃ i, x = .int i ∧ Q (some i) H1

theorem intsAre_of {ns : List Int} : ∀ {us : List Value}, Vals (ns.map V.int) us → IntsAre us ns := by
  induction ns with
  | nil => intro us r; rw [List.map_nil] at r; cases r; exact .nil
  | cons n ns ih =>
    intro us r
    rw [List.map_cons] at r
    cases r with
    | cons r1 r2 =>
      obtain ⟨t, e⟩ := r1
      subst e
      exact .cons n t (ih r2)

section
variable {X : Cx} {e : Expr} {te : TE} {lo hi : Option Expr} {tl th : TO} {pos p2 : Pos}

theorem po_none : PO X none tNoPart := by
  intro pins s σ H Q I h
  rw [evalPart_none]
  exact wpAny_pure ⟨none, H, I, .none, h⟩
theorem po_some (h : PE X e te) : PO X (some e) (tPart te) := by
  intro pins s σ H Q I hw
  rw [evalPart_some]
  refine thn (h pins s σ H _ I hw) fun u s1 ⟨x, H1, I1, r1, q1⟩ => ?_
  obtain ⟨i, rfl, q⟩ := q1
  obtain ⟨t, rfl⟩ := r1
  exact ⟨some i, H1, I1, .int i t, q⟩

/-- what a slice of a value is, by values: the slice object stands at sl -/
def SlR (X : Cx) (r : V → Option Int → Option Int → Hp → VK → Prop) : Prop :=
  ∀ (pins : List (Addr × Obj)) (s : Shared) (σ : St) (H : Hp) (x : V) (v vl vu : Value) (lo hi : Option Int) (sl : Addr) (Q : VK), Inv X pins σ H s → RelV x v → s.heap.IsSliceOf sl vl vu .none → IsPart vl lo → IsPart vu hi → r x lo hi H Q →
    ∃ T id, typeLookup (.type T) "__getitem__" = pure (some (.builtin id)) ∧ s.TypeIs v T ∧ wpAny (model X.prog X.w) X.A (getItem v (.ref sl)) (EP X pins σ Q) X.xe s
theorem SlR.or {r r' : V → Option Int → Option Int → Hp → VK → Prop} (h : SlR X r) (h' : SlR X r') : SlR X (fun x lo hi H Q => r x lo hi H Q ∨ r' x lo hi H Q) := by
  intro pins s σ H x v vl vu lo hi sl Q I rx hs pl pu q
  rcases q with q | q
  · exact h pins s σ H x v vl vu lo hi sl Q I rx hs pl pu q
  · exact h' pins s σ H x v vl vu lo hi sl Q I rx hs pl pu q
def tSl (r : V → Option Int → Option Int → Hp → VK → Prop) (te : TE) (tl th : TO) : TE := fun σ H Q => te σ H fun x H1 => tl σ H1 fun l H2 => th σ H2 fun u H3 => r x l u H3 Q
/-- a[lo:hi], any a -/
theorem pe_slice {r : V → Option Int → Option Int → Hp → VK → Prop} (hr : SlR X r) (he : PE X e te) (hl : PO X lo tl) (hu : PO X hi th) : PE X (.Subscript e (.Slice lo hi none p2) pos) (tSl r te tl th) := by
  intro pins s σ H Q I h
  refine Subscript_ (thn (he pins s σ H _ I h) fun v s1 ⟨x, H1, I1, r1, q1⟩ => ?_)
  refine wpAny_Slice (thn (hl pins s1 σ H1 _ I1 q1) fun vl s2 ⟨l, H2, I2, pl, q2⟩ => thn (hu pins s2 σ H2 _ I2 q2) fun vu s3 ⟨u, H3, I3, pu, q3⟩ => ?_)
  rw [evalPart_none]
  refine wpAny_pure ?_
  have I4 : Inv X pins σ H3 { s3 with heap := s3.heap.push { cls := .type "slice", data := .fields #[vl, vu, .none] } } := I3.kept (t' := s3.toks) fun b ob q => Heap.get?_push_of_some _ q
  obtain ⟨T, id, hT, ht, hg⟩ := hr pins { s3 with heap := s3.heap.push { cls := .type "slice", data := .fields #[vl, vu, .none] } } σ H3 x v vl vu l u s3.heap.objs.size Q I4 r1 (Heap.IsSliceOf.new ..) pl pu q3
  show wpAny (model X.prog X.w) X.A (subscriptTail e (.Slice lo hi none p2) v (.ref s3.heap.objs.size)) (EP X pins σ Q) X.xe { s3 with heap := s3.heap.push { cls := .type "slice", data := .fields #[vl, vu, .none] } }
  exact tail_any (ops := [.ref s3.heap.objs.size, v]) ht hT hg (by with_unfolding_all rfl)

/-- the items of xs[lo:hi] -/
def cutV (xs : List V) (lo hi : Option Int) : List V := (xs.drop (HT.sIx xs.length 0 lo)).take (HT.sIx xs.length xs.length hi - HT.sIx xs.length 0 lo)
theorem cutV_length (xs : List V) (lo hi : Option Int) : (cutV xs lo hi).length ≤ xs.length := by
  unfold cutV
  rw [List.length_take, List.length_drop]
  omega
/-- t[lo:hi], not the whole of it (the whole would be t itself) -/
def rSlT (K : PySem.W.Frag) : V → Option Int → Option Int → Hp → VK → Prop := fun x lo hi H Q => ∃ a xs, x = .ref a ∧ SqT K H a xs ∧
  ¬ (HT.sIx xs.length 0 lo = 0 ∧ HT.sIx xs.length xs.length hi = xs.length) ∧ ∀ p, H p = none → Q (.ref p) (upd H p (.tup (cutV xs lo hi)))
theorem sl_tup : SlR X (rSlT X.K) := by
  intro pins s σ H x v vl vu lo hi sl Q I rx hs pl pu h
  obtain ⟨a, xs, rfl, hx, hw, q⟩ := h
  cases rx
  obtain ⟨its, r, ht, hz⟩ := I.tuple hx
  have hlen : its.toArray.size = xs.length := by rw [List.size_toArray]; exact r.length.symm
  refine ⟨"tuple", _, PyProof.Rows.slot_tuple_getitem.lookup, ht.typeIs, ?_⟩
  refine HT.getItem_tuple_cut ht hs pl pu (by rw [hlen]; exact hw) ?_ (by rw [hlen]; exact hz)
  rw [hlen]
  refine ⟨.ref s.heap.objs.size, _, I.laid (t' := s.toks) (o := .tup (cutV xs lo hi)) (fun b ob q => Heap.get?_push_of_some _ q) (Nat.le_refl _) ?_, rfl, q _ (I.hok.fresh (Nat.le_refl _))⟩
  exact ⟨Nat.le_trans (cutV_length xs lo hi) hz, _, (r.drop (HT.sIx xs.length 0 lo)).take (HT.sIx xs.length xs.length hi - HT.sIx xs.length 0 lo), IsTup.new _ _⟩

/-! ### t < u, t + u -/
def rLtT (K : PySem.W.Frag) : R2 := fun x y H Q => ∃ a b ns ms, x = .ref a ∧ y = .ref b ∧ SqT K H a (ns.map V.int) ∧ SqT K H b (ms.map V.int) ∧ Q (.bl (HT.lexLt ns ms)) H
theorem op_ltT (hu : X.A.units < cLine) : OpR X (compareOp .Lt) (rLtT X.K) := by
  intro pins s σ H x y v u Q I rx ry h
  obtain ⟨a, b, ns, ms, rfl, rfl, ha, hb, q⟩ := h
  cases rx
  cases ry
  obtain ⟨its, r1, p1, _⟩ := I.tuple ha
  obtain ⟨its2, r2, p2, _⟩ := I.tuple hb
  have i1 : IntsAre its.toArray.toList ns := intsAre_of r1
  have i2 : IntsAre its2.toArray.toList ms := intsAre_of r2
  exact HT.lt_tupInts p1 p2 i1 i2 hu ⟨.bl (HT.lexLt ns ms), H, I, rfl, q⟩
/-- t + u, t not empty: u empty gives t itself -/
def rCatT (K : PySem.W.Frag) : R2 := fun x y H Q => ∃ a b xs ys, x = .ref a ∧ y = .ref b ∧ SqT K H a xs ∧ SqT K H b ys ∧ xs ≠ [] ∧ xs.length + ys.length ≤ sizeLine ∧
  (ys = [] → Q (.ref a) H) ∧ (ys ≠ [] → ∀ p, H p = none → Q (.ref p) (upd H p (.tup (xs ++ ys))))
theorem Vals.nil_iff {xs : List V} {us : List Value} (r : Vals xs us) : us = [] ↔ xs = [] := by
  cases r with
  | nil => simp
  | cons _ _ => simp
theorem op_catT : OpR X (binaryOp .Add) (rCatT X.K) := by
  intro pins s σ H x y v u Q I rx ry h
  obtain ⟨a, b, xs, ys, rfl, rfl, ha, hb, hx, hz, q1, q2⟩ := h
  cases rx
  cases ry
  obtain ⟨its, r1, p1, _⟩ := I.tuple ha
  obtain ⟨its2, r2, p2, _⟩ := I.tuple hb
  refine HT.cat_tup p1 p2 (fun z => hx (r1.nil_iff.mp z)) (fun z => ⟨.ref a, H, I, rfl, q1 (r2.nil_iff.mp z)⟩) (fun z => ?_) (by rw [← r1.length, ← r2.length]; exact hz)
  refine ⟨.ref s.heap.objs.size, _, I.laid (t' := s.toks) (o := .tup (xs ++ ys)) (fun b ob q => Heap.get?_push_of_some _ q) (Nat.le_refl _) ?_, rfl, q2 (fun w => z (r2.nil_iff.mpr w)) _ (I.hok.fresh (Nat.le_refl _))⟩
  exact ⟨by rw [List.length_append]; exact hz, _, r1.append r2, IsTup.new _ _⟩
/-- tuple(t) -/
theorem call_tupleT : CallR X (.type "tuple") (fun xs H Q => ∃ a ys, xs = [.ref a] ∧ SqT X.K H a ys ∧ Q (.ref a) H) := by
  intro pins s σ H xs us Q I r h
  obtain ⟨a, ys, rfl, ha, q⟩ := h
  obtain ⟨u, rfl, ru⟩ := vals1 r
  cases ru
  obtain ⟨its, _, p1, _⟩ := I.tuple ha
  exact call_tuple_same (items := its.toArray) p1 ⟨.ref a, H, I, rfl, q⟩
end
end L2

namespace L2
open PySem PySem.Spec PyProof.Rows

/-! ### places -/
/-- the place that an index of any sign means -/
def ixN (n : Nat) (i : Int) : Option Nat := if 0 ≤ i then (if i < n then some i.toNat else none) else if -(n : Int) ≤ i then some (i + n).toNat else none
def atI {α : Type} (xs : List α) (i : Int) : Option α := (ixN xs.length i).bind fun j => xs[j]?
theorem ixN_seq {n : Nat} {i : Int} {j : Nat} (h : ixN n i = some j) : seqIndex? i n = some j ∧ j < n ∧ -(n : Int) ≤ i ∧ i < n := by
  unfold ixN at h
  by_cases h0 : 0 ≤ i
  · rw [if_pos h0] at h
    by_cases h1 : i < n
    · rw [if_pos h1] at h
      have e : i.toNat = j := Option.some.inj h
      exact ⟨by rw [seqIndex_of h0 h1, e], by omega, by omega, h1⟩
    · rw [if_neg h1] at h; cases h
  · rw [if_neg h0] at h
    by_cases h1 : -(n : Int) ≤ i
    · rw [if_pos h1] at h
      have e : (i + n).toNat = j := Option.some.inj h
      exact ⟨by rw [seqIndex_neg (by omega) h1, e], by omega, h1, by omega⟩
    · rw [if_neg h1] at h; cases h
theorem atI_get {α : Type} {xs : List α} {i : Int} {v : α} (h : atI xs i = some v) : ∃ j, seqIndex? i xs.length = some j ∧ xs[j]? = some v ∧ j < xs.length ∧ -(xs.length : Int) ≤ i ∧ i < xs.length := by
  unfold atI at h
  cases e : ixN xs.length i with
  | none => rw [e] at h; cases h
  | some j =>
    rw [e] at h
    obtain ⟨h1, h2, h3, h4⟩ := ixN_seq e
    exact ⟨j, h1, h, h2, h3, h4⟩
theorem atI_nat {α : Type} {xs : List α} {j : Nat} {v : α} (h : xs[j]? = some v) : atI xs (j : Int) = some v := by
  have hj : j < xs.length := (List.getElem?_eq_some_iff.mp h).1
  have e : ixN xs.length (j : Int) = some j := by
    unfold ixN
    rw [if_pos (by omega), if_pos (by omega)]; simp
  unfold atI; rw [e]; exact h
theorem atI_last {α : Type} (xs : List α) (v : α) : atI (xs ++ [v]) (-1) = some v := by
  have hl : (xs ++ [v]).length = xs.length + 1 := by simp
  have e : ixN (xs ++ [v]).length (-1) = some xs.length := by
    unfold ixN
    rw [hl, if_neg (by decide), if_pos (by omega)]
    congr 1
    omega
  unfold atI
  rw [e]
  show (xs ++ [v])[xs.length]? = some v
  simp

/-! ### what may be subscripted -/
/-- what stands as an index of a plain subscript -/
def PlainIx (b : Expr) : Prop := ∀ o i, subscripted b false o i = operate [o, i] (getItem o i)
/-- a subscript by values -/
def IxR (X : Cx) (r : R2) : Prop :=
  ∀ (value slice : Expr) (pins : List (Addr × Obj)) (s : Shared) (σ : St) (H : Hp) (x y : V) (v u : Value) (Q : VK), Inv X pins σ H s → RelV x v → RelV y u → r x y H Q →
    subscripted slice false v u = operate [v, u] (getItem v u) → wpAny (model X.prog X.w) X.A (subscriptTail value slice v u) (EP X pins σ Q) X.xe s
/-- a call of a builtin's method by values: the receiver, the arguments -/
def MtR (X : Cx) (id : String) (r : V → List V → Hp → VK → Prop) : Prop :=
  ∀ (pins : List (Addr × Obj)) (s : Shared) (σ : St) (H : Hp) (x : V) (xs : List V) (v : Value) (us : List Value) (Q : VK), Inv X pins σ H s → RelV x v → Vals xs us → r x xs H Q →
    wpAny (model X.prog X.w) X.A (call (.builtin id) (v :: us)) (EP X pins σ Q) X.xe s
section
variable {X : Cx} {a b : Expr} {ta tb : TE} {pos : Pos}
theorem IxR.or {r r' : R2} (h : IxR X r) (h' : IxR X r') : IxR X (fun x y H Q => r x y H Q ∨ r' x y H Q) := by
  intro value slice pins s σ H x y v u Q I rx ry q hs
  rcases q with q | q
  · exact h value slice pins s σ H x y v u Q I rx ry q hs
  · exact h' value slice pins s σ H x y v u Q I rx ry q hs
theorem MtR.or {id : String} {r r' : V → List V → Hp → VK → Prop} (h : MtR X id r) (h' : MtR X id r') : MtR X id (fun x xs H Q => r x xs H Q ∨ r' x xs H Q) := by
  intro pins s σ H x xs v us Q I rx rs q
  rcases q with q | q
  · exact h pins s σ H x xs v us Q I rx rs q
  · exact h' pins s σ H x xs v us Q I rx rs q
/-- a[b] -/
theorem pe_ix {r : R2} (hr : IxR X r) (ha : PE X a ta) (hb : PE X b tb) (hs : PlainIx b) : PE X (.Subscript a b pos) (tOp r ta tb) := by
  intro pins s σ H Q I h
  exact Subscript_ (binT ha hb I h fun v u s2 x y H2 I2 rx ry q => hr a b pins s2 σ H2 x y v u Q I2 rx ry q (hs _ _))

def rIxL (K : PySem.W.Frag) : R2 := fun x y H Q => ∃ p xs i v, x = .ref p ∧ y = .int i ∧ SqL K H p xs ∧ atI xs i = some v ∧ Q v H
def rIxT (K : PySem.W.Frag) : R2 := fun x y H Q => ∃ p xs i v, x = .ref p ∧ y = .int i ∧ SqT K H p xs ∧ atI xs i = some v ∧ Q v H
def rIxS : R2 := fun x y H Q => ∃ z i c, x = .str z ∧ y = .int i ∧ z.length ≤ sizeLine ∧ atI z.cps.toList i = some c ∧ Q (.str ⟨#[c]⟩) H
theorem ix_list : IxR X (rIxL X.K) := by
  intro value slice pins s σ H x y v u Q I rx ry h hs
  obtain ⟨p, xs, i, z, rfl, rfl, hq, he, q⟩ := h
  cases rx
  obtain ⟨t, rfl⟩ := ry
  obtain ⟨its, r, pl, hz⟩ := I.list hq
  obtain ⟨j, h1, h2, h3, h4, h5⟩ := atI_get he
  obtain ⟨w, ew, rw'⟩ := r.get h2
  have hl := r.length
  have hn := line63
  have fin : EP X pins σ Q w s := ⟨z, H, I, rw', q⟩
  by_cases h0 : 0 ≤ i
  · have hj : i.toNat = j := by
      rw [seqIndex_of h0 h5] at h1
      exact Option.some.inj h1
    exact item_listR pl.isList h0 (by omega) (by rw [hj]; simpa using ew) fin hs
  · have hj : (i + (its.toArray.size : Int)).toNat = j := by
      rw [seqIndex_neg (by omega) h4] at h1
      rw [List.size_toArray, ← hl]
      exact Option.some.inj h1
    exact subscriptTail_builtinR (x := w) pl.isList.typeIs slot_list_getitem.lookup
      (wpAny_getItem_list_neg (Q := fun r s' => r = w ∧ EP X pins σ Q r s') pl.isList (by omega) (by rw [List.size_toArray] <;> omega) (by omega) (by rw [hj]; simpa using ew) ⟨rfl, fin⟩) hs
theorem ix_tup : IxR X (rIxT X.K) := by
  intro value slice pins s σ H x y v u Q I rx ry h hs
  obtain ⟨p, xs, i, z, rfl, rfl, hq, he, q⟩ := h
  cases rx
  obtain ⟨t, rfl⟩ := ry
  obtain ⟨its, r, pl, hz⟩ := I.tuple hq
  obtain ⟨j, h1, h2, h3, h4, h5⟩ := atI_get he
  obtain ⟨w, ew, rw'⟩ := r.get h2
  have hl := r.length
  have hn := line63
  have fin : EP X pins σ Q w s := ⟨z, H, I, rw', q⟩
  exact subscriptTail_builtinR (x := w) pl.typeIs slot_tuple_getitem.lookup
    (getItem_tuple (j := j) (Q := fun r s' => r = w ∧ EP X pins σ Q r s') pl (by omega) (by omega) (by rw [List.size_toArray, ← hl]; exact h1) (by simpa using ew) ⟨rfl, fin⟩) hs
theorem ix_str : IxR X rIxS := by
  intro value slice pins s σ H x y v u Q I rx ry h hs
  obtain ⟨z, i, c, rfl, rfl, hz, he, q⟩ := h
  obtain ⟨t, rfl⟩ := rx
  obtain ⟨t', rfl⟩ := ry
  obtain ⟨j, h1, h2, h3, h4, h5⟩ := atI_get he
  have hl : z.cps.toList.length = z.length := by simp [Str.length]
  rw [hl] at h1 h4 h5
  have hn := line63
  exact tail_any (typeIs_str s z t) slot_str_getitem.lookup (getItem_str (c := c) (by
    have e1 : decide (i < -(2 ^ 63 : Int)) = false := decide_eq_false (by omega)
    have e2 : decide (i ≥ 2 ^ 63) = false := decide_eq_false (by omega)
    rw [e1, e2, Bool.or_false]) (by rw [h1]; simpa using h2) ⟨.str ⟨#[c]⟩, H, I.tok _, ⟨_, rfl⟩, q⟩) hs
/-- list, tuple or str -/
def rIx (K : PySem.W.Frag) : R2 := fun x y H Q => rIxL K x y H Q ∨ rIxT K x y H Q ∨ rIxS x y H Q
theorem ix_seq : IxR X (rIx X.K) := ix_list.or (ix_tup.or ix_str)

/-! ### xs[i] = v, any sign -/
/-- the list's object behind a store -/
theorem mapSeq_set (its : List Value) (n j : Nat) (u : Value) : Obj.mapSeq (·.setIfInBounds j u) { cls := .type "list", data := .seq its.toArray n } = { cls := .type "list", data := .seq (its.set j u).toArray n } := by
  simp [Obj.mapSeq]
theorem Inv.lst {pins : List (Addr × Obj)} {σ : St} {H : Hp} {s : Shared} {p : Addr} {xs : List V} (I : Inv X pins σ H s) (h : H p = some (.lst xs)) :
    ∃ (its : List Value) (n : Nat), Vals xs its ∧ s.heap.get? p = some { cls := .type "list", data := .seq its.toArray n } ∧ xs.length ≤ sizeLine := by
  obtain ⟨z, its, n, r, e⟩ := I.hok p _ h
  exact ⟨its, n, r, e, z⟩
/-- the list at p is written by an update of its object -/
theorem Inv.lstUpd {pins : List (Addr × Obj)} {σ : St} {H : Hp} {s : Shared} {p : Addr} {xs ys : List V} {its its' : List Value} {n n' : Nat} {f : Obj → Obj} (I : Inv X pins σ H s) (h : H p = some (.lst xs))
    (ho : s.heap.get? p = some { cls := .type "list", data := .seq its.toArray n }) (hf : f { cls := .type "list", data := .seq its.toArray n } = { cls := .type "list", data := .seq its'.toArray n' }) (r : Vals ys its') (hz : ys.length ≤ sizeLine) (t : Nat) :
    Inv X pins σ (upd H p (.lst ys)) { s with heap := s.heap.update p f, toks := t } := by
  have e : (s.heap.update p f).get? p = some { cls := .type "list", data := .seq its'.toArray n' } := by
    rw [Heap.get?_update_self f ho (by rw [hf] <;> rfl), hf]
  refine I.write (x := p) (e := p) (by rw [h]; trivial) (.inl rfl) (fun b u hb q => (Heap.get?_update_other _ _ (Ne.symm hb)).trans q) ⟨_, e⟩ ?_
  exact ⟨hz, its', n', r, e⟩
def rSetL : V → V → V → Hp → (Hp → Prop) → Prop := fun o i v H Q => ∃ p xs k j, o = .ref p ∧ i = .int k ∧ H p = some (.lst xs) ∧ ixN xs.length k = some j ∧ Q (upd H p (.lst (xs.set j v)))
theorem set_list : PSet X rSetL := by
  intro pins s σ H o i v ov iv u Q I ro ri rv h
  obtain ⟨p, xs, k, j, rfl, rfl, hp, hj, q⟩ := h
  cases ro
  obtain ⟨t, rfl⟩ := ri
  obtain ⟨its, n, r, ho, hz⟩ := I.lst hp
  obtain ⟨h1, h2, h3, h4⟩ := ixN_seq hj
  have hl := r.length
  have hn := line63
  have I' : Inv X pins σ (upd H p (.lst (xs.set j v))) { s with heap := s.heap.update p (Obj.mapSeq (·.setIfInBounds j u)) } :=
    I.lstUpd hp ho (mapSeq_set its n j u) (r.set rv j) (by rw [List.length_set]; exact hz) s.toks
  by_cases h0 : 0 ≤ k
  · have hk : k.toNat = j := by
      rw [seqIndex_of h0 h4] at h1
      exact Option.some.inj h1
    exact PySem.W.ki_setAt ho h0 (by omega) (by rw [List.size_toArray, ← hl]; exact h4) (by rw [hk]; exact ⟨_, I', q⟩)
  · have hk : (k + (its.toArray.size : Int)).toNat = j := by
      rw [seqIndex_neg (by omega) h3] at h1
      rw [List.size_toArray, ← hl]
      exact Option.some.inj h1
    exact PySem.W.ki_setBack ho (by omega) (by rw [List.size_toArray, ← hl]; exact h3) (by omega) (by rw [hk]; exact ⟨_, I', q⟩)

/-! ### slices -/
theorem slice_bounds (lo hi : Option Int) (n : Nat) : (sliceBounds lo hi none n).1 = ((HT.sIx n 0 lo : Nat) : Int) ∧ (sliceBounds lo hi none n).2.1 = ((HT.sIx n n hi : Nat) : Int) ∧ (sliceBounds lo hi none n).2.2 = 1 := by
  refine ⟨?_, ?_, rfl⟩
  · cases lo with
    | none => simp [sliceBounds, HT.sIx]
    | some i =>
      simp only [sliceBounds, HT.sIx, Option.getD_none, show (1 : Int) > 0 by decide, if_true]
      by_cases h : i < 0
      · simp only [h, if_true] <;> omega
      · simp only [h, if_false] <;> omega
  · cases hi with
    | none => simp [sliceBounds, HT.sIx]
    | some i =>
      simp only [sliceBounds, HT.sIx, Option.getD_none, show (1 : Int) > 0 by decide, if_true]
      by_cases h : i < 0
      · simp only [h, if_true] <;> omega
      · simp only [h, if_false] <;> omega
theorem slicePick_cut (its : List Value) (lo hi : Option Int) : slicePick its.toArray lo hi none = ((its.drop (HT.sIx its.length 0 lo)).take (HT.sIx its.length its.length hi - HT.sIx its.length 0 lo)).toArray := by
  obtain ⟨h1, h2, h3⟩ := slice_bounds lo hi its.toArray.size
  unfold slicePick
  rw [h1, h2, h3]
  simp only [sliceRange_one, pick_run, List.size_toArray] <;> rfl
/-- xs[lo:hi] of a list: a new list -/
def rSlL (K : PySem.W.Frag) : V → Option Int → Option Int → Hp → VK → Prop := fun x lo hi H Q => ∃ a xs, x = .ref a ∧ SqL K H a xs ∧ ∀ p, H p = none → Q (.ref p) (upd H p (.lst (cutV xs lo hi)))
theorem sl_list : SlR X (rSlL X.K) := by
  intro pins s σ H x v vl vu lo hi sl Q I rx hs pl pu h
  obtain ⟨a, xs, rfl, hx, q⟩ := h
  cases rx
  obtain ⟨its, r, ht, hz⟩ := I.list hx
  have hlen := r.length
  refine ⟨"list", _, slot_list_getitem.lookup, ht.isList.typeIs, ?_⟩
  refine wpAny_getItem_list_slice ht.isList hs pl pu .none (by simp) ?_ (by rw [List.size_toArray] <;> omega)
  rw [slicePick_cut, ← hlen]
  refine ⟨.ref s.heap.objs.size, _, I.laid (t' := s.toks) (o := .lst (cutV xs lo hi)) (fun b ob q => Heap.get?_push_of_some _ q) (Nat.le_refl _) ?_, rfl, q _ (I.hok.fresh (Nat.le_refl _))⟩
  exact ⟨Nat.le_trans (cutV_length xs lo hi) hz, _, 0, (r.drop (HT.sIx xs.length 0 lo)).take (HT.sIx xs.length xs.length hi - HT.sIx xs.length 0 lo), Heap.get?_push_size _ rfl⟩

/-! ### in, not in: flat items -/
def flatV : V → Bool
  | .non => true
  | .bl _ => true
  | .int _ => true
  | .str _ => true
  | _ => false
/-- == of flat values -/
def eqV : V → V → Bool
  | .non, .non => true
  | .bl a, .bl b => a == b
  | .bl a, .int b => (if a then 1 else 0) == b
  | .int a, .bl b => a == (if b then 1 else 0)
  | .int a, .int b => a == b
  | .str a, .str b => a == b
  | _, _ => false
theorem eqAt_V {A : Around} {s : Shared} {y x : V} {u v : Value} (ry : RelV y u) (rx : RelV x v) (fy : flatV y = true) (fx : flatV x = true) : SeqAt.EqAt A s u v (eqV y x) := by
  cases y with
  | non =>
    cases ry
    cases x with
    | non => cases rx; exact SeqAt.EqAt.same _
    | bl b => cases rx; exact SeqAt.EqAt.none_bool b
    | int b => obtain ⟨t, rfl⟩ := rx; exact SeqAt.EqAt.none_int b t
    | str b => obtain ⟨t, rfl⟩ := rx; exact SeqAt.EqAt.none_str b t
    | _ => exact absurd (show false = true from fx) Bool.false_ne_true
  | bl a =>
    cases ry
    cases x with
    | non => cases rx; exact SeqAt.EqAt.bool_none a
    | bl b => cases rx; exact SeqAt.EqAt.bool_bool a b
    | int b => obtain ⟨t, rfl⟩ := rx; exact SeqAt.EqAt.bool_int a b t
    | str b => obtain ⟨t, rfl⟩ := rx; exact SeqAt.EqAt.bool_str a b t
    | _ => exact absurd (show false = true from fx) Bool.false_ne_true
  | int a =>
    obtain ⟨t', rfl⟩ := ry
    cases x with
    | non => cases rx; exact SeqAt.EqAt.int_none a t'
    | bl b => cases rx; exact SeqAt.EqAt.int_bool a t' b
    | int b => obtain ⟨t, rfl⟩ := rx; exact SeqAt.EqAt.int_int a t' b t
    | str b => obtain ⟨t, rfl⟩ := rx; exact SeqAt.EqAt.int_str a t' b t
    | _ => exact absurd (show false = true from fx) Bool.false_ne_true
  | str a =>
    obtain ⟨t', rfl⟩ := ry
    cases x with
    | non => cases rx; exact SeqAt.EqAt.str_none a t'
    | bl b => cases rx; exact SeqAt.EqAt.str_bool a t' b
    | int b => obtain ⟨t, rfl⟩ := rx; exact SeqAt.EqAt.str_int a t' b t
    | str b => obtain ⟨t, rfl⟩ := rx; exact SeqAt.EqAt.str_str a t' b t
    | _ => exact absurd (show false = true from fx) Bool.false_ne_true
  | _ => exact absurd (show false = true from fy) Bool.false_ne_true
/-- the items' answers, read off the values (a value's own answer does not lean on its token) -/
def eqU (x : V) (u : Value) : Bool := match u with
  | .none => eqV .non x
  | .bool b => eqV (.bl b) x
  | .int i _ => eqV (.int i) x
  | .str z _ => eqV (.str z) x
  | _ => false
theorem eqU_of {x y : V} {u : Value} (r : RelV y u) (f : flatV y = true) : eqU x u = eqV y x := by
  cases y with
  | non => cases r; rfl
  | bl b => cases r; rfl
  | int i => obtain ⟨t, rfl⟩ := r; rfl
  | str z => obtain ⟨t, rfl⟩ := r; rfl
  | _ => exact absurd (show false = true from f) Bool.false_ne_true
theorem any_eqU {x : V} : ∀ {xs : List V} {us : List Value}, Vals xs us → xs.all flatV = true → us.any (eqU x) = xs.any fun y => eqV y x
  | _, _, .nil, _ => rfl
  | y :: xs, u :: us, .cons r t, f => by
    rw [List.all_cons, Bool.and_eq_true] at f
    rw [List.any_cons, List.any_cons, eqU_of r f.1, any_eqU t f.2]
theorem mem_eqAt {A : Around} {s : Shared} {x : V} {v : Value} (rx : RelV x v) (fx : flatV x = true) : ∀ {xs : List V} {us : List Value}, Vals xs us → xs.all flatV = true → ∀ u ∈ us, SeqAt.EqAt A s u v (eqU x u)
  | _, _, .nil, _ => fun u hu => by cases hu
  | y :: xs, u :: us, .cons r t, f => fun u' hu => by
    rw [List.all_cons, Bool.and_eq_true] at f
    rcases List.mem_cons.mp hu with rfl | hu
    · rw [eqU_of r f.1]; exact eqAt_V r rx f.1 fx
    · exact mem_eqAt rx fx t f.2 u' hu
def inV (x : V) (xs : List V) : Bool := xs.any fun y => eqV y x
/-- x in a list or tuple of flat items -/
def rIn (K : PySem.W.Frag) (neg : Bool) : R2 := fun x y H Q => ∃ p xs, y = .ref p ∧ (SqL K H p xs ∨ SqT K H p xs) ∧ flatV x = true ∧ xs.all flatV = true ∧ Q (.bl (if neg then !inV x xs else inV x xs)) H
theorem op_in_seq : OpR X (compareOp .In) (rIn X.K false) := by
  intro pins s σ H x y v u Q I rx ry h
  obtain ⟨p, xs, rfl, hq, fx, fs, q⟩ := h
  cases ry
  rcases hq with hq | hq
  · obtain ⟨its, r, pl, hz⟩ := I.list hq
    refine SeqAt.in_listAt (eqU x) pl.isList (fun w hw => mem_eqAt rx fx r fs w (by simpa using hw)) ⟨.bl _, H, I, rfl, ?_⟩
    rw [show its.toArray.any (eqU x) = its.any (eqU x) by simp, any_eqU r fs]
    exact q
  · obtain ⟨its, r, pl, hz⟩ := I.tuple hq
    refine SeqAt.in_tupleAt (eqU x) pl (fun w hw => mem_eqAt rx fx r fs w (by simpa using hw)) ⟨.bl _, H, I, rfl, ?_⟩
    rw [show its.toArray.any (eqU x) = its.any (eqU x) by simp, any_eqU r fs]
    exact q
theorem op_notIn_seq : OpR X (compareOp .NotIn) (rIn X.K true) := by
  intro pins s σ H x y v u Q I rx ry h
  obtain ⟨p, xs, rfl, hq, fx, fs, q⟩ := h
  cases ry
  rcases hq with hq | hq
  · obtain ⟨its, r, pl, hz⟩ := I.list hq
    refine SeqAt.notIn_listAt (eqU x) pl.isList (fun w hw => mem_eqAt rx fx r fs w (by simpa using hw)) ⟨.bl _, H, I, rfl, ?_⟩
    rw [show its.toArray.any (eqU x) = its.any (eqU x) by simp, any_eqU r fs]
    exact q
  · obtain ⟨its, r, pl, hz⟩ := I.tuple hq
    refine SeqAt.notIn_tupleAt (eqU x) pl (fun w hw => mem_eqAt rx fx r fs w (by simpa using hw)) ⟨.bl _, H, I, rfl, ?_⟩
    rw [show its.toArray.any (eqU x) = its.any (eqU x) by simp, any_eqU r fs]
    exact q
theorem op_notIn_str : OpR X (compareOp .NotIn) (fun x y H Q => ∃ i j, x = .str i ∧ y = .str j ∧ Q (.bl (!(!(Builtin.Str.occurrences j i 0 j.length 1).isEmpty))) H) := by
  intro pins s σ H x y v u Q I rx ry h
  obtain ⟨i, j, rfl, rfl, q⟩ := h
  obtain ⟨t, rfl⟩ := rx
  obtain ⟨t', rfl⟩ := ry
  exact notIn_str ⟨.bl _, H, I, rfl, q⟩

/-! ### len, list(x), tuple(x) of any list or tuple that is read -/
theorem call_len_seq : CallR X (.builtin "len") (fun xs H Q => ∃ p ys, xs = [.ref p] ∧ (SqL X.K H p ys ∨ SqT X.K H p ys) ∧ Q (.int ys.length) H) := by
  intro pins s σ H xs us Q I r h
  obtain ⟨p, ys, rfl, hq, q⟩ := h
  obtain ⟨u, rfl, rx⟩ := vals1 r
  cases rx
  have hn := line63
  rcases hq with hq | hq
  · obtain ⟨its, r', pl, hz⟩ := I.list hq
    have hlen := r'.length
    exact Calls.call_len_list pl.isList (by simp only [List.size_toArray] <;> omega) ⟨.int ys.length, H, I.tok _, ⟨s.toks + 1, by rw [List.size_toArray, hlen]⟩, q⟩
  · obtain ⟨its, r', pl, hz⟩ := I.tuple hq
    have hlen := r'.length
    exact len_tuple pl (by simp only [List.size_toArray] <;> omega) ⟨.int ys.length, H, I.tok _, ⟨s.toks + 1, by rw [List.size_toArray, hlen]⟩, q⟩
theorem call_len_str : CallR X (.builtin "len") (fun xs H Q => ∃ z, xs = [.str z] ∧ z.length ≤ sizeLine ∧ Q (.int z.length) H) := by
  intro pins s σ H xs us Q I r h
  obtain ⟨z, rfl, hz, q⟩ := h
  obtain ⟨u, rfl, t, rfl⟩ := vals1 r
  have hn := line63
  exact len_str (by omega) ⟨.int z.length, H, I.tok _, ⟨_, rfl⟩, q⟩
theorem CallR.or {f : Value} {r r' : List V → Hp → VK → Prop} (h : CallR X f r) (h' : CallR X f r') : CallR X f (fun xs H Q => r xs H Q ∨ r' xs H Q) := by
  intro pins s σ H xs us Q I rs q
  rcases q with q | q
  · exact h pins s σ H xs us Q I rs q
  · exact h' pins s σ H xs us Q I rs q
theorem call_list_of : CallR X (.type "list") (fun xs H Q => ∃ p ys, xs = [.ref p] ∧ (SqL X.K H p ys ∨ SqT X.K H p ys) ∧ ∀ l, H l = none → Q (.ref l) (upd H l (.lst ys))) := by
  intro pins s σ H xs us Q I r h
  obtain ⟨p, ys, rfl, hq, q⟩ := h
  obtain ⟨u, rfl, rx⟩ := vals1 r
  cases rx
  have fin : ∀ (its : List Value), Vals ys its → ys.length ≤ sizeLine → ∀ (h' : Heap) (c' : Nat), (∀ b o', s.heap.get? b = some o' → h'.get? b = some o') →
      h'.get? s.heap.objs.size = some { cls := .type "list", dict := none, data := .seq its.toArray c', slots := #[] } → EP X pins σ Q (.ref s.heap.objs.size) { s with heap := h' } := fun its r' hz h' c' kp e =>
    ⟨.ref s.heap.objs.size, _, I.laid (t' := s.toks) kp (Nat.le_refl _) (show ObjOk X.prog X.w _ h' _ (.lst ys) from ⟨hz, its, c', r', e⟩), rfl, q _ (I.hok.fresh (Nat.le_refl _))⟩
  rcases hq with hq | hq
  · obtain ⟨its, r', pl, hz⟩ := I.list hq
    have hlen := r'.length
    obtain ⟨o, ho, hc, n, hd⟩ := pl.isList
    exact call_list_seq p (.inl rfl) ho hc hd (fun h' c' kp e => fin its r' hz h' c' kp e) (by simp only [List.size_toArray] <;> omega)
  · obtain ⟨its, r', pl, hz⟩ := I.tuple hq
    have hlen := r'.length
    obtain ⟨o, ho, hc, n, hd⟩ := pl
    exact call_list_seq p (.inr rfl) ho hc hd (fun h' c' kp e => fin its r' hz h' c' kp e) (by simp only [List.size_toArray] <;> omega)
theorem call_tuple_of : CallR X (.type "tuple") (fun xs H Q => ∃ p ys, xs = [.ref p] ∧ ((SqL X.K H p ys ∧ ∀ l, H l = none → Q (.ref l) (upd H l (.tup ys))) ∨ (SqT X.K H p ys ∧ Q (.ref p) H))) := by
  intro pins s σ H xs us Q I r h
  obtain ⟨p, ys, rfl, h⟩ := h
  obtain ⟨u, rfl, rx⟩ := vals1 r
  cases rx
  rcases h with ⟨hq, q⟩ | ⟨hq, q⟩
  · obtain ⟨its, r', pl, hz⟩ := I.list hq
    have hlen := r'.length
    refine call_tuple_list pl.isList (fun h' kp => ?_) (by simp only [List.size_toArray] <;> omega)
    have I1 : Inv X pins σ H { s with heap := h' } := I.kept (t' := s.toks) kp
    have I2 : Inv X pins σ (upd H h'.objs.size (.tup ys)) { s with heap := h'.push { cls := .type "tuple", data := .seq its.toArray } } :=
      I1.laid (t' := s.toks) (fun b o e => Heap.get?_push_of_some _ e) (Nat.le_refl _) (show ObjOk X.prog X.w _ _ _ (.tup ys) from ⟨hz, its, r', IsTup.new _ _⟩)
    exact ⟨.ref h'.objs.size, _, I2, rfl, q _ (I1.hok.fresh (Nat.le_refl _))⟩
  · obtain ⟨its, r', pl, hz⟩ := I.tuple hq
    exact call_tuple_same pl ⟨.ref p, H, I, rfl, q⟩

/-! ### the call of a builtin's method: o.m(..) -/
/-- the value is of that builtin type -/
def tyV (K : PySem.W.Frag) (T : String) (x : V) (H : Hp) : Prop := match x with
  | .str _ => T = "str"
  | .int _ => T = "int"
  | .ref p => (T = "list" ∧ ∃ xs, SqL K H p xs) ∨ (T = "tuple" ∧ ∃ o, K.lookup p = some o ∧ o.cls = .type "tuple" ∧ o.dict = none) ∨
      (T = "dict" ∧ ((∃ kvs, H p = some (.dK kvs)) ∨ ∃ kvs, H p = some (.dT kvs))) ∨ (T = "set" ∧ ∃ S n, H p = some (.set S n))
  | _ => False
theorem tyV_is {pins : List (Addr × Obj)} {σ : St} {H : Hp} {s : Shared} {T : String} {x : V} {v : Value} (I : Inv X pins σ H s) (r : RelV x v) (ty : tyV X.K T x H) :
    s.TypeIs v T ∧ ∀ a, v = .ref a → ∃ ob, s.heap.get? a = some ob ∧ ob.dict = none := by
  cases x with
  | str z =>
    obtain ⟨t, rfl⟩ := r
    cases (show T = "str" from ty)
    exact ⟨typeIs_str s z t, fun _ e => nomatch e⟩
  | int i =>
    obtain ⟨t, rfl⟩ := r
    cases (show T = "int" from ty)
    exact ⟨typeIs_int s i t, fun _ e => nomatch e⟩
  | ref p =>
    cases r
    rcases ty with ⟨rfl, xs, hq⟩ | ⟨rfl, o, hk, hc, hd⟩ | ⟨rfl, hk⟩ | ⟨rfl, S, n, hk⟩
    · obtain ⟨its, _, pl, _⟩ := I.list hq
      refine ⟨pl.isList.typeIs, fun a e => ?_⟩
      cases e
      obtain ⟨o, n, e, c, hd, _⟩ := pl
      exact ⟨o, e, hd⟩
    · refine ⟨⟨o, I.kIn p o hk, hc⟩, fun a e => ?_⟩
      cases e
      exact ⟨o, I.kIn _ o hk, hd⟩
    · have z : ∃ o, s.heap.get? p = some o ∧ o.ExactDict := by
        rcases hk with ⟨kvs, hk⟩ | ⟨kvs, hk⟩
        · obtain ⟨_, _, _, _, o, _, _, e, ex, _⟩ := I.hok p _ hk
          exact ⟨o, e, ex⟩
        · obtain ⟨_, _, _, _, o, _, _, e, ex, _⟩ := I.hok p _ hk
          exact ⟨o, e, ex⟩
      obtain ⟨o, e, ex⟩ := z
      refine ⟨⟨o, e, ex.1⟩, fun a e2 => ?_⟩
      cases e2
      exact ⟨o, e, ex.2.1⟩
    · obtain ⟨o, _, _, _, e, ex, _⟩ := I.hok p _ hk
      refine ⟨⟨o, e, ex.1⟩, fun a e2 => ?_⟩
      cases e2
      exact ⟨o, e, ex.2.1⟩
  | _ => exact False.elim ty
def tBM0 (K : PySem.W.Frag) (T : String) (r : V → List V → Hp → VK → Prop) (to : TE) : TE := fun σ H Q => to σ H fun x H1 => tyV K T x H1 ∧ r x [] H1 Q
def tBM (K : PySem.W.Frag) (T : String) (r : V → List V → Hp → VK → Prop) (to : TE) (t : TA) : TE := fun σ H Q => to σ H fun x H1 => tyV K T x H1 ∧ t σ H1 fun xs H2 => r x xs H2 Q
variable {o e : Expr} {es : List Expr} {to : TE} {t : TA} {name : Str} {apos cpos : Pos} {T id : String} {r : V → List V → Hp → VK → Prop}
theorem pe_bm0 (pa : PlainAttrs T) (slot : Slot T name id) (hty : typeOf (.builtin id) = pure (.type "method_descriptor")) (hm : MtR X id r) (ho : PE X o to)
    (hbase : attributeBase o name X.env (eval o X.env) = eval o X.env := by rfl) (hline : (apos.endLine == cpos.line) = true := by rfl) : PE X (.Call (.Attribute o name apos) [] [] cpos) (tBM0 X.K T r to) := by
  intro pins s σ H Q I h
  refine wpAny_Call_method0_late hbase hline (thn (ho pins s σ H _ I h) fun v s1 ⟨x, H1, I1, r1, ty, q1⟩ => ?_)
  obtain ⟨h1, h2⟩ := tyV_is I1 r1 ty
  exact ⟨T, id, pa, slot, hty, h1, h2, Calls.callWith_builtin rfl (PySem.evalArgs_none (hm pins s1 σ H1 x [] v [] Q I1 r1 .nil q1))⟩
theorem pe_bm (pa : PlainAttrs T) (slot : Slot T name id) (hty : typeOf (.builtin id) = pure (.type "method_descriptor")) (hm : MtR X id r) (ho : PE X o to) (ha : PA X (e :: es) t)
    (hbase : attributeBase o name X.env (eval o X.env) = eval o X.env := by rfl)
    (hfew : ((backTo cpos (starEach (e :: es) X.env)).all (fun x => !x.1) && (backToKw cpos (keywordEach [] X.env)).all (fun x => x.1.isSome)
      && decide ((e :: es).length + ([] : List Keyword).length + (if ([] : List Keyword).isEmpty then 0 else 1) < 30)) = true := by rfl)
    (hline : (apos.endLine == cpos.line) = true := by rfl) (hs : starEach (e :: es) X.env = (false, eval e X.env) :: starEach es X.env := by rfl) (hplain : (backTo cpos (starEach es X.env)).any (·.1) = false := by rfl) :
    PE X (.Call (.Attribute o name apos) (e :: es) [] cpos) (tBM X.K T r to t) := by
  intro pins s σ H Q I h
  refine wpAny_Call_method_late hbase hfew hline rfl (thn (ho pins s σ H _ I h) fun v s1 ⟨x, H1, I1, r1, ty, q1⟩ => ?_)
  obtain ⟨h1, h2⟩ := tyV_is I1 r1 ty
  refine ⟨T, id, pa, slot, hty, h1, h2, ?_⟩
  have hA := ha cpos pins s1 σ H1 _ I1 q1
  rw [hs] at hA ⊢
  refine Calls.callWith_builtin (by show (false || (backTo cpos (starEach es X.env)).any (·.1)) = false; rw [hplain] <;> rfl) (Calls.evalArgs_plain ?_)
  exact thn hA fun us s2 ⟨vs, H2, I2, r2, q2⟩ => hm pins s2 σ H2 x vs v us Q I2 r1 r2 q2
/- xs.append(e), list.index on a module's tuple .. are MtR facts of 06m -/
end
end L2

namespace L2
open PySem PySem.Spec PyProof.Rows

def MtM (X : Cx) (id : String) (r : V → List V → Hp → VK → Prop) : Prop :=
  ∀ (pins : List (Addr × Obj)) (s : Shared) (σ : St) (H : Hp) (x : V) (xs : List V) (v : Value) (us : List Value) (Q : VK), Inv X pins σ H s → RelV x v → Vals xs us → r x xs H Q →
    wpAny (model X.prog X.w) X.A (call (.builtin id) (v :: us)) (EP X pins σ Q) X.xe s

/-! ### lists of values -/
theorem Vals.one : ∀ {x : V} {us : List Value}, Vals [x] us → ∃ u, us = [u] ∧ RelV x u
  | _, _, .cons r .nil => ⟨_, rfl, r⟩
theorem Vals.two : ∀ {x y : V} {us : List Value}, Vals [x, y] us → ∃ u v, us = [u, v] ∧ RelV x u ∧ RelV y v
  | _, _, _, .cons r (.cons q .nil) => ⟨_, _, rfl, r, q⟩
theorem Vals.zero : ∀ {us : List Value}, Vals [] us → us = []
  | _, .nil => rfl
theorem Vals.dropLast {xs : List V} {us : List Value} (h : Vals xs us) : Vals xs.dropLast us.dropLast := by
  induction h with
  | nil => exact .nil
  | cons r t ih =>
    cases t with
    | nil => exact .nil
    | cons q t' => exact .cons r ih
theorem Vals.eraseIdx : ∀ {xs : List V} {us : List Value} (i : Nat), Vals xs us → Vals (xs.eraseIdx i) (us.eraseIdx i)
  | _, _, _, .nil => .nil
  | _, _, 0, .cons _ t => t
  | _, _, i + 1, .cons r t => .cons r (Vals.eraseIdx i t)
theorem Vals.reverse {xs : List V} {us : List Value} (h : Vals xs us) : Vals xs.reverse us.reverse := by
  induction h with
  | nil => exact .nil
  | cons r t ih => rw [List.reverse_cons, List.reverse_cons]; exact Vals.append ih (.cons r .nil)
theorem Vals.rep {xs : List V} {us : List Value} (h : Vals xs us) : ∀ k : Nat, Vals (List.replicate k xs).flatten (List.replicate k us).flatten
  | 0 => .nil
  | k + 1 => by
    rw [List.replicate_succ, List.replicate_succ, List.flatten_cons, List.flatten_cons]
    exact Vals.append h (Vals.rep h k)
theorem erase_last {α : Type} (l : List α) : l.eraseIdx (l.length - 1) = l.dropLast := by
  induction l with
  | nil => rfl
  | cons a r ih =>
    cases r with
    | nil => rfl
    | cons b r =>
      have e : (a :: b :: r).length - 1 = ((b :: r).length - 1) + 1 := by
        have h1 : (a :: b :: r).length = r.length + 2 := rfl
        have h2 : (b :: r).length = r.length + 1 := rfl
        omega
      rw [e, List.eraseIdx_cons_succ, ih]
      all_goals rfl
theorem len_erase {α : Type} : ∀ (l : List α) (i : Nat), (l.eraseIdx i).length ≤ l.length
  | [], _ => Nat.le_refl _
  | _ :: _, 0 => Nat.le_succ _
  | _ :: r, i + 1 => Nat.succ_le_succ (len_erase r i)
theorem foldl_rep (its : List Value) : ∀ (k : Nat) (acc : List Value),
    List.foldl (fun x1 x2 => x1 ++ x2) acc.toArray (List.replicate k its.toArray) = (acc ++ (List.replicate k its).flatten).toArray
  | 0, acc => by simp
  | k + 1, acc => by
    have e : acc.toArray ++ its.toArray = (acc ++ its).toArray := by simp
    have e2 : (acc ++ its) ++ (List.replicate k its).flatten = acc ++ (List.replicate (k + 1) its).flatten := by
      rw [List.replicate_succ, List.flatten_cons, List.append_assoc]
    rw [← e2, ← foldl_rep its k (acc ++ its), ← e, List.replicate_succ, List.foldl_cons]

section
variable {X : Cx} {pins : List (Addr × Obj)} {σ : St} {H : Hp} {s : Shared} {l b : Addr} {xs ys zs : List V}

/-! ### the two steps: a tracked list is rewritten, a new list is laid -/
theorem Inv.lset {its its' : List Value} {n : Nat} {f : Array Value → Array Value} {t' : Nat} (I : Inv X pins σ H s) (hH : H l = some (.lst xs))
    (e : s.heap.get? l = some { cls := .type "list", data := .seq its.toArray n }) (hf : f its.toArray = its'.toArray) (hv : Vals ys its') (hz : ys.length ≤ sizeLine) :
    Inv X pins σ (upd H l (.lst ys)) { s with heap := s.heap.update l (Obj.mapSeq f), toks := t' } := by
  have q := PySem.IsL.update e f
  rw [hf] at q
  refine I.write (x := l) (e := l) (by rw [hH]; exact trivial) (.inl rfl) (fun b' u hb hu => (Heap.get?_update_other s.heap (Obj.mapSeq f) (Ne.symm hb)).trans hu) ⟨_, q⟩ ?_
  exact ⟨hz, its', _, hv, q⟩
theorem Inv.lnew {its : List Value} {t' : Nat} (I : Inv X pins σ H s) (hv : Vals ys its) (hz : ys.length ≤ sizeLine) :
    Inv X pins σ (upd H s.heap.objs.size (.lst ys)) { s with heap := s.heap.push { cls := .type "list", data := .seq its.toArray }, toks := t' } :=
  I.laid (fun _ _ q => Heap.get?_push_of_some _ q) (Nat.le_refl _) ⟨hz, its, 0, hv, Heap.get?_push_size _ rfl⟩
theorem Inv.fresh (I : Inv X pins σ H s) : H s.heap.objs.size = none := I.hok.fresh (Nat.le_refl _)
theorem Inv.lstM (I : Inv X pins σ H s) (hH : H l = some (.lst xs)) : xs.length ≤ sizeLine ∧ ∃ (its : List Value) (n : Nat), Vals xs its ∧ xs.length = its.length ∧ s.heap.get? l = some { cls := .type "list", data := .seq its.toArray n } := by
  obtain ⟨z, its, n, r, e⟩ := I.hok l _ hH
  exact ⟨z, its, n, r, r.length, e⟩

theorem notLongL {n : Nat} (h : n ≤ sizeLine) : Builtin.List.listTooLong n = false := by
  unfold Builtin.List.listTooLong
  exact decide_eq_false (by omega)
end

section
variable {X : Cx}

/-! ### methods -/
def rAppend : V → List V → Hp → VK → Prop := fun x vs H Q => ∃ l xs y, x = .ref l ∧ vs = [y] ∧ H l = some (.lst xs) ∧ xs.length < sizeLine ∧ Q .non (upd H l (.lst (xs ++ [y])))
theorem mt_append : MtM X "list.append" rAppend := by
  intro pins s σ H x vs v us Q I rx rv h
  obtain ⟨l, xs, y, rfl, rfl, hH, hz, q⟩ := h
  cases rx
  obtain ⟨u, rfl, ru⟩ := rv.one
  obtain ⟨z, its, n, r, hl, e⟩ := I.lstM hH
  refine call_meets F.slot_list_append ⟨_, e, rfl⟩ F.entry_list_append (F.args_list_append_2 _ _) (PySem.list_append l its.toArray n u (by rw [List.size_toArray]; omega)) ⟨e, ?_⟩
  refine ⟨.non, _, I.lset (its' := its ++ [u]) hH e (by simp) (r.append (.cons ru .nil)) ?_, rfl, q⟩
  rw [List.length_append, List.length_singleton]
  omega

def rExtend : V → List V → Hp → VK → Prop := fun x vs H Q => ∃ l b xs zs, x = .ref l ∧ vs = [.ref b] ∧ H l = some (.lst xs) ∧ H b = some (.lst zs) ∧ xs.length + zs.length ≤ sizeLine ∧ Q .non (upd H l (.lst (xs ++ zs)))
theorem mt_extend : MtM X "list.extend" rExtend := by
  intro pins s σ H x vs v us Q I rx rv h
  obtain ⟨l, b, xs, zs, rfl, rfl, hH, hB, hz, q⟩ := h
  cases rx
  obtain ⟨u, rfl, ru⟩ := rv.one
  cases ru
  obtain ⟨z, its, n, r, hl, e⟩ := I.lstM hH
  obtain ⟨z2, its2, n2, r2, hl2, e2⟩ := I.lstM hB
  have hsz : its.toArray.size + its2.toArray.size ≤ sizeLine := by rw [List.size_toArray, List.size_toArray]; omega
  have hlong : ¬ (!its.toArray.isEmpty && Builtin.List.listTooLong (its.toArray.size + its2.toArray.size)) = true := by
    rw [notLongL hsz, Bool.and_false]
    exact Bool.false_ne_true
  refine call_meets F.slot_list_extend ⟨_, e, rfl⟩ F.entry_list_extend (F.args_list_extend_2 _ _)
    (AutoSeq1.list_extend_list_list_0 l its.toArray n b its2.toArray n2 hlong (by rw [List.size_toArray]; omega) (by omega)) ⟨e, e2, ?_⟩
  refine ⟨.non, _, I.lset (its' := its ++ its2) hH e (by simp) (r.append r2) ?_, rfl, q⟩
  rw [List.length_append]
  omega

def rPop : V → List V → Hp → VK → Prop := fun x vs H Q => ∃ l xs y, x = .ref l ∧ vs = [] ∧ H l = some (.lst xs) ∧ xs[xs.length - 1]? = some y ∧ Q y (upd H l (.lst xs.dropLast))
theorem mt_pop : MtM X "list.pop" rPop := by
  intro pins s σ H x vs v us Q I rx rv h
  obtain ⟨l, xs, y, rfl, rfl, hH, hy, q⟩ := h
  cases rx
  have hus := rv.zero
  subst hus
  obtain ⟨z, its, n, r, hl, e⟩ := I.lstM hH
  obtain ⟨u, hu, ru⟩ := r.get hy
  have hy' : its.toArray[its.toArray.size - 1]? = some u := by
    show its.toArray[its.length - 1]? = some u
    rw [← Array.getElem?_toList, ← hl]
    exact hu
  refine call_meets F.slot_list_pop ⟨_, e, rfl⟩ F.entry_list_pop (F.args_list_pop_1 _) (MeetsSeq.list_pop_last l its.toArray n u hy' (by rw [List.size_toArray]; omega)) ⟨e, ?_⟩
  refine ⟨y, _, I.lset (its' := its.dropLast) hH e ?_ r.dropLast ?_, ru, q⟩
  · show its.toArray.eraseIdxIfInBounds (its.toArray.size - 1) = its.dropLast.toArray
    rw [List.size_toArray, List.eraseIdxIfInBounds_toArray, erase_last]
  · rw [List.length_dropLast]
    omega

def rPopAt : V → List V → Hp → VK → Prop := fun x vs H Q => ∃ l xs i k y, x = .ref l ∧ vs = [.int i] ∧ H l = some (.lst xs) ∧ -(2 ^ 63) ≤ i ∧ i < 2 ^ 63 ∧ seqIndex? i xs.length = some k ∧ xs[k]? = some y ∧ Q y (upd H l (.lst (xs.eraseIdx k)))
theorem mt_popAt : MtM X "list.pop" rPopAt := by
  intro pins s σ H x vs v us Q I rx rv h
  obtain ⟨l, xs, i, k, y, rfl, rfl, hH, h1, h2, hk, hy, q⟩ := h
  cases rx
  obtain ⟨u, rfl, ru⟩ := rv.one
  obtain ⟨t, rfl⟩ := ru
  obtain ⟨z, its, n, r, hl, e⟩ := I.lstM hH
  obtain ⟨w, hw, rw'⟩ := r.get hy
  refine call_meets F.slot_list_pop ⟨_, e, rfl⟩ F.entry_list_pop (F.args_list_pop_2 _ _)
    (MeetsSeq.list_pop_at l its.toArray n i t k w (fitsIndex_both h1 h2) (by rw [List.size_toArray, ← hl]; exact hk) (by rw [← Array.getElem?_toList]; exact hw) (by rw [List.size_toArray]; omega)) ⟨e, ?_⟩
  refine ⟨y, _, I.lset (its' := its.eraseIdx k) hH e ?_ (r.eraseIdx k) ?_, rw', q⟩
  · show its.toArray.eraseIdxIfInBounds k = (its.eraseIdx k).toArray
    rw [List.eraseIdxIfInBounds_toArray]
  · have := len_erase xs k
    omega

def rReverse : V → List V → Hp → VK → Prop := fun x vs H Q => ∃ l xs, x = .ref l ∧ vs = [] ∧ H l = some (.lst xs) ∧ Q .non (upd H l (.lst xs.reverse))
theorem mt_reverse : MtM X "list.reverse" rReverse := by
  intro pins s σ H x vs v us Q I rx rv h
  obtain ⟨l, xs, rfl, rfl, hH, q⟩ := h
  cases rx
  have hus := rv.zero
  subst hus
  obtain ⟨z, its, n, r, hl, e⟩ := I.lstM hH
  refine call_meets F.slot_list_reverse ⟨_, e, rfl⟩ F.entry_list_reverse (F.args_list_reverse_1 _) (AutoSeq1.list_reverse_list_0 l its.toArray n (by rw [List.size_toArray]; omega)) ⟨e, ?_⟩
  refine ⟨.non, _, I.lset (its' := its.reverse) hH e (by simp) r.reverse ?_, rfl, q⟩
  rw [List.length_reverse]
  omega

def rClear : V → List V → Hp → VK → Prop := fun x vs H Q => ∃ l xs, x = .ref l ∧ vs = [] ∧ H l = some (.lst xs) ∧ Q .non (upd H l (.lst []))
theorem mt_clear : MtM X "list.clear" rClear := by
  intro pins s σ H x vs v us Q I rx rv h
  obtain ⟨l, xs, rfl, rfl, hH, q⟩ := h
  cases rx
  have hus := rv.zero
  subst hus
  obtain ⟨z, its, n, r, hl, e⟩ := I.lstM hH
  refine call_meets F.slot_list_clear ⟨_, e, rfl⟩ F.entry_list_clear (F.args_list_clear_1 _) (AutoSeq1.list_clear_list_0 l its.toArray n (by rw [List.size_toArray]; omega)) ⟨e, ?_⟩
  exact ⟨.non, _, I.lset (its' := []) (ys := []) hH e rfl .nil (Nat.zero_le _), rfl, q⟩

/-! ### list + list, list += list, list * int -/
def rCat : R2 := fun x y H Q => ∃ l b xs zs, x = .ref l ∧ y = .ref b ∧ H l = some (.lst xs) ∧ H b = some (.lst zs) ∧ xs.length + zs.length ≤ sizeLine ∧ ∀ p, H p = none → Q (.ref p) (upd H p (.lst (xs ++ zs)))
theorem op_cat : OpR X (binaryOp .Add) rCat := by
  intro pins s σ H x y v u Q I rx ry h
  obtain ⟨l, b, xs, zs, rfl, rfl, hH, hB, hz, q⟩ := h
  cases rx
  cases ry
  obtain ⟨z, its, n, r, hl, e⟩ := I.lstM hH
  obtain ⟨z2, its2, n2, r2, hl2, e2⟩ := I.lstM hB
  refine PySem.P.add_list e e2 ?_ (by rw [List.size_toArray, List.size_toArray]; omega)
  have ea : its.toArray ++ its2.toArray = (its ++ its2).toArray := by simp
  rw [ea]
  exact ⟨.ref _, _, I.lnew (t' := s.toks) (r.append r2) (by rw [List.length_append]; omega), rfl, q _ I.fresh⟩
/-- a list times an int (a negative one is nothing) -/
def rRep : R2 := fun x y H Q => ∃ l k xs, x = .ref l ∧ y = .int k ∧ H l = some (.lst xs) ∧ -(2 ^ 63) ≤ k ∧ k < 2 ^ 63 ∧ xs.length * k.toNat ≤ sizeLine ∧
  ∀ p, H p = none → Q (.ref p) (upd H p (.lst (List.replicate k.toNat xs).flatten))
theorem len_rep {α : Type} (xs : List α) (k : Nat) : (List.replicate k xs).flatten.length = k * xs.length := by
  induction k with
  | zero => simp
  | succ k ih => rw [List.replicate_succ, List.flatten_cons, List.length_append, ih, Nat.succ_mul, Nat.add_comm]
theorem op_rep : OpR X (binaryOp .Mult) rRep := by
  intro pins s σ H x y v u Q I rx ry h
  obtain ⟨l, k, xs, rfl, rfl, hH, h1, h2, hz, q⟩ := h
  cases rx
  obtain ⟨t, rfl⟩ := ry
  obtain ⟨z, its, n, r, hl, e⟩ := I.lstM hH
  have hlen : its.toArray.size * k.toNat ≤ sizeLine := by rw [List.size_toArray, ← hl]; exact hz
  have hcap : ¬ its.toArray.size * k.toNat > (2 ^ 63 - 1) / 8 := by
    have : (sizeLine : Nat) ≤ (2 ^ 63 - 1) / 8 := by decide
    omega
  have hfit : ¬ (!Builtin.List.listFitsIndex k) = true := by
    rw [fitsIndex_both h1 h2]
    exact Bool.false_ne_true
  have hlong : ¬ Builtin.List.listTooLong (its.toArray.size * k.toNat) = true := by
    rw [notLongL hlen]
    exact Bool.false_ne_true
  have hnew : List.foldl (fun x1 x2 => x1 ++ x2) #[] (List.replicate (if its.toArray.isEmpty = true then 0 else k.toNat) its.toArray) = (List.replicate k.toNat its).flatten.toArray := by
    have f0 : ∀ m : Nat, List.foldl (fun x1 x2 => x1 ++ x2) #[] (List.replicate m its.toArray) = (List.replicate m its).flatten.toArray := fun m => by
      have := foldl_rep its m []
      rw [List.nil_append] at this
      exact this
    rw [f0]
    cases its with
    | nil => simp
    | cons a r' => rw [if_neg (by simp)]
  refine wpAny_binaryOp_repeat_ref (T := "list") (U := "int") (by decide) ⟨_, e, rfl⟩ (fun s' => typeIs_int s' k t) noFill_list_mul F.fills_int_mul F.slot_int_rmul repeat_list F.slot_int_index.lookup
    (call_meets F.slot_int_rmul (typeIs_int s k t) F.entry_int_rmul (F.args_int_rmul_2 _ _) (int___rmul___int_list k t l its.toArray n)
      ⟨e, rfl, ⟨_, e, rfl⟩, call_meets F.slot_list_mul ⟨_, e, rfl⟩ F.entry_list_mul (F.args_list_mul_2 _ _) (AutoListH.list___mul___list_int_3 l its.toArray n k t hfit hcap hlong) ⟨e, ?_⟩⟩)
  rw [hnew]
  exact ⟨.ref _, _, I.lnew (t' := s.toks) (r.rep k.toNat) (by rw [len_rep, Nat.mul_comm]; exact hz), rfl, q _ I.fresh⟩

/-! ### del xs[i] -/
theorem del_list {pins : List (Addr × Obj)} {s : Shared} {σ : St} {H : Hp} {l : Addr} {xs : List V} {i : Int} {t : Tok} {k : Nat} {Q : Unit → Shared → Prop} (I : Inv X pins σ H s) (hH : H l = some (.lst xs))
    (h1 : -(2 ^ 63) ≤ i) (h2 : i < 2 ^ 63) (hk : seqIndex? i xs.length = some k) (h : ∀ s', Inv X pins σ (upd H l (.lst (xs.eraseIdx k))) s' → Q () s') :
    wpAny (model X.prog X.w) X.A (delItem (.ref l) (.int i t)) Q X.xe s := by
  obtain ⟨z, its, n, r, hl, e⟩ := I.lstM hH
  refine PySem.P.delItem_list (k := k) e (fitsIndex_both h1 h2) (by rw [List.size_toArray, ← hl]; exact hk) (h _ ?_) (by rw [List.size_toArray]; omega)
  refine I.lset (its' := its.eraseIdx k) (t' := s.toks) hH e ?_ (r.eraseIdx k) ?_
  · show its.toArray.eraseIdxIfInBounds k = (its.eraseIdx k).toArray
    rw [List.eraseIdxIfInBounds_toArray]
  · have := len_erase xs k
    omega
end

/-! ### xs[a:b] = ys -/
section
variable {prog : Program} {w : World} {A : Around} {E : Value → Shared → Prop} {s : Shared}
theorem splice_eq (its its2 : List Value) (a c : Nat) : its.toArray.extract 0 a ++ its2.toArray ++ its.toArray.extract c its.toArray.size = (its.take a ++ its2 ++ its.drop c).toArray := by
  apply Array.toList_inj.mp
  first
    | (simp
       exact List.take_of_length_le (by simp))
    | simp [List.take_of_length_le]
    | simp
theorem bounds_run {a c n : Nat} (hac : a ≤ c) (hc : c ≤ n) : sliceBounds (some (a : Int)) (some (c : Int)) none n = ((a : Int), (c : Int), 1) := by
  simp only [sliceBounds, Option.getD_none]
  have h1 : ¬ ((a : Int) < 0) := by omega
  have h2 : ¬ ((c : Int) < 0) := by omega
  simp only [h1, h2, if_false, show (1 : Int) > 0 by decide, if_true]
  congr 1
  · omega
  · congr 1; omega
set_option maxRecDepth 100000 in
/-- list.__setitem__ with a slice of step one and another list -/
theorem setItem_slice {l b sl : Addr} {items new : Array Value} {n n2 : Nat} {vl vu : Value} {a c : Nat} {Q : Unit → Shared → Prop}
    (e : s.heap.get? l = some { cls := .type "list", data := .seq items n }) (e2 : s.heap.get? b = some { cls := .type "list", data := .seq new n2 }) (hne : l ≠ b)
    (hs : s.heap.IsSliceOf sl vl vu .none) (pl : IsPart vl (some (a : Int))) (pu : IsPart vu (some (c : Int))) (hac : a ≤ c) (hc : c ≤ items.size)
    (hsz : items.size + new.size ≤ sizeLine) (h : Q () { s with heap := s.heap.update l (Obj.mapSeq fun xs => xs.extract 0 a ++ new ++ xs.extract c xs.size) }) :
    wpAny (model prog w) A (setItem (.ref l) (.ref sl) (.ref b)) Q E s := by
  have hl : s.heap.IsList l items := PySem.IsL.isList e
  have hb : s.heap.IsList b new := PySem.IsL.isList e2
  obtain ⟨os, hos, hcs, hds⟩ := id hs
  have hTs : s.TypeIs (.ref sl) "slice" := ⟨os, hos, hcs⟩
  have hstep : ¬ ((rawPart none == rawInt 0) = true) := Bool.false_ne_true
  have hsame : Builtin.List.listSameRef (.ref l) (.ref b) = false := by
    unfold Builtin.List.listSameRef
    exact beq_eq_false_iff_ne.mpr hne
  have hmax : (max (a : Int) (c : Int)).toNat = c := by omega
  have hz' : ((fun xs : Array Value => xs.extract 0 a ++ new ++ xs.extract c xs.size) items).size ≤ sizeLine + 1 := by
    simp only [Array.size_append, Array.size_extract]
    omega
  unfold setItem
  try with_reducible refine wpAny_holding ?_
  first | refine wpAny_bind (wpAny_pure ?_) | skip
  refine wpAny_bind (wpAny_sequenceKey hl.typeIs (by decide) ?_)
  refine wpAny_bind (wpAny_callSpecial?_slot (name := Str.ofString "__setitem__") hl.typeIs slot_list_setitem
    (wpAny_call_entry slot_list_setitem hl.typeIs entry_list_setitem ?_ (args_list_setitem _ _ _)))
  show wpAny _ _ (Builtin.List.listSubscript? (.ref sl) >>= _) _ _ s
  refine wpAny_bind ?_
  unfold Builtin.List.listSubscript?
  refine wpAny_bind (wpAny_specialOf hTs slice_no_index ?_)
  simp only [Option.isNone_none, if_true]
  refine wpAny_pure ?_
  show wpAny _ _ (typeOf (.ref sl) >>= _) _ _ s
  refine wpAny_bind (wpAny_typeOf hTs ?_)
  first
    | rw [if_neg (by decide)]
    | refine PySem.W.KFB.if_not (by decide) ?_
  rw [listSliceParts_eq]
  refine wpAny_bind (wpAny_bind (wpAny_field hos hds (x := .none) rfl (wpAny_bind (wpAny_listPart .none ?_))))
  rw [if_neg hstep]
  refine wpAny_bind (wpAny_field hos hds (x := vl) rfl (wpAny_bind (wpAny_listPart pl ?_)))
  refine wpAny_bind (wpAny_field hos hds (x := vu) rfl (wpAny_bind (wpAny_listPart pu (wpAny_pure ?_))))
  first
    | simp only [hsame, Bool.false_eq_true, if_false]
    | refine PySem.W.KFB.if_not hsame ?_
    | (dsimp only
       rw [if_neg (by rw [hsame]; exact Bool.false_ne_true)])
  refine wpAny_bind (m := Builtin.List.listAllItems (.ref b) "must assign iterable to extended slice") ?_
  unfold Builtin.List.listAllItems
  refine wpAny_bind (wpAny_typeOf hb.typeIs ?_)
  first
    | refine PySem.W.KFB.if_so (by decide) ?_
    | rw [if_pos (by decide)]
    | simp only [beq_self_eq_true, Bool.true_or, if_true]
  unfold Builtin.List.listItems
  refine wpAny_bind (wpAny_seqItems e2 rfl (wpAny_pure ?_))
  refine wpAny_bind (wpAny_bind (wpAny_seqItems e rfl (wpAny_pure ?_)))
  refine wpAny_bind (wpAny_of_eq ((sliceIndices_raw (some (a : Int)) (some (c : Int)) none items.size (by simp)).trans (congrArg (pure : Int × Int × Int → Sem (Int × Int × Int)) (bounds_run hac hc))) ?_)
  show wpAny _ _ (if ((1 : Int) == 1) = true then _ else _) _ _ s
  rw [if_pos (by decide)]
  refine wpAny_bind (wpAny_rule ?_)
  first
    | simp only [notLongL hsz, Bool.false_eq_true, if_false]
    | refine PySem.W.KFB.if_not (notLongL hsz) ?_
  first | refine wpAny_bind (wpAny_pure ?_) | skip
  show wpAny _ _ (updateSeq l (fun xs => xs.extract 0 ((a : Int)).toNat ++ new ++ xs.extract (max (a : Int) (c : Int)).toNat xs.size) >>= _) _ _ s
  rw [hmax, Int.toNat_natCast]
  refine wpAny_bind (wpAny_updateSeq (hz := Nat.le_trans (Nat.le_add_right _ _) hsz) (_hz' := hz') e rfl ?_)
  refine wpAny_bind (wpAny_letGo ?_)
  first
    | exact wpAny_bind (wpAny_pure (wpAny_pure ⟨.none, rfl, wpAny_pure h⟩))
    | exact wpAny_pure ⟨.none, rfl, wpAny_pure h⟩
end

section
variable {X : Cx}
/-- xs[a:c] = ys of another list, at the value level: sl is the slice object that was just made -/
theorem set_slice {pins : List (Addr × Obj)} {s : Shared} {σ : St} {H : Hp} {l b sl : Addr} {xs ys : List V} {a c : Int} {vl vu : Value} {Q : Unit → Shared → Prop} (I : Inv X pins σ H s)
    (hH : H l = some (.lst xs)) (hB : H b = some (.lst ys)) (hne : l ≠ b) (hs : s.heap.IsSliceOf sl vl vu .none) (ra : RelV (.int a) vl) (rc : RelV (.int c) vu) (h0 : 0 ≤ a) (hac : a ≤ c) (hc : c ≤ xs.length)
    (hz : xs.length + ys.length ≤ sizeLine) (h : ∀ s', Inv X pins σ (upd H l (.lst (xs.take a.toNat ++ ys ++ xs.drop c.toNat))) s' → Q () s') :
    wpAny (model X.prog X.w) X.A (setItem (.ref l) (.ref sl) (.ref b)) Q X.xe s := by
  obtain ⟨ta, rfl⟩ := ra
  obtain ⟨tc, rfl⟩ := rc
  obtain ⟨z, its, n, r, hl, e⟩ := I.lstM hH
  obtain ⟨z2, its2, n2, r2, hl2, e2⟩ := I.lstM hB
  obtain ⟨a', rfl⟩ := Int.eq_ofNat_of_zero_le h0
  obtain ⟨c', rfl⟩ := Int.eq_ofNat_of_zero_le (Int.le_trans h0 hac)
  simp only [Int.toNat_natCast] at h
  refine setItem_slice (a := a') (c := c') e e2 hne hs (.int _ _) (.int _ _) (by omega) (by rw [List.size_toArray]; omega) (by rw [List.size_toArray, List.size_toArray]; omega) (h _ ?_)
  refine I.lset (its' := its.take a' ++ its2 ++ its.drop c') (t' := s.toks) hH e ?_ (Vals.append (Vals.append (r.take _) r2) (r.drop _)) ?_
  · exact splice_eq its its2 a' c'
  · rw [List.length_append, List.length_append, List.length_take, List.length_drop]
    omega
end
end L2

namespace Att
open PySem PySem.W PySem.Calls PyProof.Rows

/-! ### the script -/
theorem ints_of_wellAll {P : Params} {h : Heap} : ∀ (ns : List Int) (vs : List Value), WellAll P h vs (ns.map WData.int) → IntsAre vs ns := by
  intro ns
  induction ns with
  | nil =>
    intro vs w
    rw [List.map_nil] at w
    cases w
    exact .nil
  | cons n ns ih =>
    intro vs w
    rw [List.map_cons] at w
    cases w with
    | cons a b =>
      cases a
      exact .cons _ _ (ih _ b)

theorem script_of {l : OpenLaw} {n : Nat} (hn : l.most = some n) {P : Params} {h : Heap} {args : List WData} {vals : List Value}
    (hpre : l.row.toRowW.claim.pre args = true) (hwl : WellAll P h vals args) :
    ∃ a vs ns, vals = [Value.ref a] ∧ args = [WData.list (ns.map WData.int)] ∧ h.get? a = some { cls := .type "list", data := .seq vs.toArray } ∧ IntsAre vs ns ∧ ns.length ≤ n := by
  have hsh : WShape.hasAll [] args [.list .int] = true := (pre_splitW hpre).1
  have hc : l.pre.holds [] { args := args } = true := (pre_splitW hpre).2
  obtain ⟨d, r, rfl, h1, h2⟩ := hasAllW_cons hsh
  obtain rfl := hasAllW_nil h2
  obtain ⟨xs, rfl, h3⟩ := hasW_list h1
  obtain ⟨ns, rfl⟩ := items_int h3
  have hlen : ns.length ≤ n := by
    unfold OpenLaw.pre at hc
    have h4 : (WTm.not (.lt (.lit (.int (n : Int))) (.len (.arg 0)))).holds [] { args := [.list (ns.map .int)] } = true := by
      have h4 := (holds_andW hc).1
      rw [hn] at h4
      exact h4
    have h5 := condW_of h4 (w_not (w_lt w_lit (w_len_list (w_arg rfl))))
    rw [List.length_map] at h5
    refine Nat.le_of_not_lt fun q => ?_
    have q' : (n : Int) < ((ns.length : Nat) : Int) := by omega
    first
      | (rw [decide_eq_true q'] at h5; exact absurd h5 (by decide))
      | (simp at h5; omega)
  cases hwl with
  | cons w1 w2 =>
    cases w2
    cases w1 with
    | list ho hall => exact ⟨_, _, ns, rfl, rfl, ho, ints_of_wellAll ns _ hall, hlen⟩

theorem post_true (l : OpenLaw) (args : List WData) : l.row.toRowW.claim.post args (.bool true) args = true :=
  postW_of (r := l.row.toRowW) (X := (true == true))
    (show WShape.has [] (.bool true) .bool = true by first | rfl | decide | simp [WShape.has, WShape.arms, WShape.armsAll])
    (show (WTm.eq .res (.lit (.bool true))).value [] { args := args, res := some (.bool true), after := args } = some (.bool (true == true)) from w_eq_bool (w_res rfl) w_lit) rfl

/-! ### the attachment: holds_open's last premise (the goal 'hc' behind k_head) from a wpAny of the law's body -/
theorem attach {l : OpenLaw} {n : Nat} {q : Program} {loose : List Str} {XP : (Str → Option Value) → Heap → Prop} {YP : World → Heap → Prop} {d : DefRec} {x : Str}
    (hn : l.most = some n) (hdf : d.params.defaults = [])
    (hbind : ∀ pm cd doc v : Value, bindArgs (docDef d.name d.params d.body d.scope pm cd doc) ⟨[v], []⟩ = pure [(x, v)])
    (hx : d.scope.names.lookup x = some .local ∨ d.scope.names.lookup x = some .cell)
    (hk : d.scope.kind = .function) (hco : d.scope.isCoroutine = false) (hgen : d.scope.isGenerator = false)
    (body : ∀ (w : World) (s₀ s₁ s : Shared) (mg mb : Str → Option Value) (fa : Addr) (o : Obj) (pm cd doc : Value) (a : Addr) (vs : List Value) (ns : List Int),
      Ground q loose [] XP w s₀ mg mb s₁.heap → YP w s₁.heap →
      s₁.heap.get? fa = some o → o.data = .func (docDef d.name d.params d.body d.scope pm cd doc) → s₁.heap.CodeRec cd d.name → mg d.name = some (.ref fa) →
      s₁.heap.get? a = some { cls := .type "list", data := .seq vs.toArray } → IntsAre vs ns → ns.length ≤ n →
      s.gens = #[] → s.os = s₁.os →
      Fr s₁.heap s₁.heap.objs.size s.heap (bindL (envOfC d.name d.scope s₁.heap.objs.size fa cd).kindOf [(x, .ref a)] fun _ => none) →
      Cl s₁.heap.objs.size (cellsFrom (s₁.heap.objs.size + 1) d.scope.names []) s.heap (bindC (envOfC d.name d.scope s₁.heap.objs.size fa cd).kindOf [(x, .ref a)] fun _ => none) →
      wpAny (model l.prog w) (callerA.deeper (envOfC d.name d.scope s₁.heap.objs.size fa cd)) (execs d.body (envOfC d.name d.scope s₁.heap.objs.size fa cd))
        (fun f s' => f = .ret (.bool true) ∧ OldK s₁.heap s'.heap ∧ s'.os = s₁.os ∧ AllBare s'.gens) (fun _ _ => False) s) :
    WalkO q loose XP YP l.row.toRowW d [] (fun f vs => PySem.call f vs) := by
  intro w s₀ s₁ mg mb G Y fa o pm cd doc dV kV ho hd hcd hD hmg hg args vals as hpre hlay hrd hwl hlo
  obtain rfl : dV = .none := Dflts.none hD hdf
  obtain rfl : kV = .none := Dflts.noKw hD
  obtain ⟨a, vs, ns, rfl, rfl, hobj, hints, hlen⟩ := script_of hn hpre hwl
  refine enter_call ?_
  refine call_cells_ret (o := o) (by rw [depth_caller]; decide) ho (fd_plain hd) G.T.nolimit hcd (hbind pm cd doc (.ref a)) (fun y hy => ?_) (fun h₁ tk F X => ?_) hco hgen hk
  · obtain rfl : y = (x, Value.ref a) := List.mem_singleton.mp hy
    rcases hx with e | e
    · exact .inl e
    · exact .inr ⟨e, cellsFrom_some _ _ _ (.inl e)⟩
  · refine wpAny_mono (body w s₀ s₁ { s₁ with heap := h₁, toks := tk } mg mb fa o pm cd doc a vs ns G Y ho (fd_plain hd) hcd hmg hobj hints hlen hg rfl F X) (fun f s' hq => ?_) (fun _ _ hq => hq)
    obtain ⟨rfl, h2, h3, h4⟩ := hq
    exact ⟨.inl ⟨.bool true, .bool true, [], rfl, fun _ => rfl, .bool true, post_true l _, fun _ => ⟨List.Pairwise.nil, fun _ hm => (nomatch hm)⟩⟩, h2, h3, h4⟩

/-- the same from a codeAny of the CALL (for a layer whose function contracts speak of calls) -/
theorem attach_call {l : OpenLaw} {n : Nat} {q : Program} {loose : List Str} {XP : (Str → Option Value) → Heap → Prop} {YP : World → Heap → Prop} {d : DefRec}
    (hn : l.most = some n) (hdf : d.params.defaults = [])
    (call : ∀ (w : World) (s₀ s₁ : Shared) (mg mb : Str → Option Value) (fa : Addr) (o : Obj) (pm cd doc : Value) (a : Addr) (vs : List Value) (ns : List Int),
      Ground q loose [] XP w s₀ mg mb s₁.heap → YP w s₁.heap →
      s₁.heap.get? fa = some o → o.data = .func (docDef d.name d.params d.body d.scope pm cd doc) → s₁.heap.CodeRec cd d.name → mg d.name = some (.ref fa) →
      s₁.heap.get? a = some { cls := .type "list", data := .seq vs.toArray } → IntsAre vs ns → ns.length ≤ n → s₁.gens = #[] →
      codeAny (model l.prog w) callerA (.call (.ref fa) ⟨[.ref a], []⟩) (fun r s' => r = .ok (.ret (.bool true)) ∧ OldK s₁.heap s'.heap ∧ s'.os = s₁.os ∧ AllBare s'.gens) s₁) :
    WalkO q loose XP YP l.row.toRowW d [] (fun f vs => PySem.call f vs) := by
  intro w s₀ s₁ mg mb G Y fa o pm cd doc dV kV ho hd hcd hD hmg hg args vals as hpre hlay hrd hwl hlo
  obtain rfl : dV = .none := Dflts.none hD hdf
  obtain rfl : kV = .none := Dflts.noKw hD
  obtain ⟨a, vs, ns, rfl, rfl, hobj, hints, hlen⟩ := script_of hn hpre hwl
  refine enter_call (codeAny_mono (call w s₀ s₁ mg mb fa o pm cd doc a vs ns G Y ho (fd_plain hd) hcd hmg hobj hints hlen hg) fun r s' hq => ?_)
  obtain ⟨rfl, h2, h3, h4⟩ := hq
  exact ⟨.inl ⟨.bool true, .bool true, [], rfl, fun _ => rfl, .bool true, post_true l _, fun _ => ⟨List.Pairwise.nil, fun _ hm => (nomatch hm)⟩⟩, h2, h3, h4⟩

/-- the same where the top left finished generators (o_head chose holds_openN): nothing may have changed at all and no generator may be left -/
theorem attachN {l : OpenLaw} {n : Nat} {q : Program} {loose : List Str} {XP : (Str → Option Value) → Heap → Prop} {YP : World → Heap → Prop} {d : DefRec} {x : Str}
    (hn : l.most = some n) (hdf : d.params.defaults = [])
    (hbind : ∀ pm cd doc v : Value, bindArgs (docDef d.name d.params d.body d.scope pm cd doc) ⟨[v], []⟩ = pure [(x, v)])
    (hx : d.scope.names.lookup x = some .local ∨ d.scope.names.lookup x = some .cell)
    (hk : d.scope.kind = .function) (hco : d.scope.isCoroutine = false) (hgen : d.scope.isGenerator = false)
    (body : ∀ (w : World) (s₀ s₁ s : Shared) (mg mb : Str → Option Value) (fa : Addr) (o : Obj) (pm cd doc : Value) (a : Addr) (vs : List Value) (ns : List Int),
      Ground q loose [] XP w s₀ mg mb s₁.heap → YP w s₁.heap →
      s₁.heap.get? fa = some o → o.data = .func (docDef d.name d.params d.body d.scope pm cd doc) → s₁.heap.CodeRec cd d.name → mg d.name = some (.ref fa) →
      s₁.heap.get? a = some { cls := .type "list", data := .seq vs.toArray } → IntsAre vs ns → ns.length ≤ n →
      s.gens = #[] → s.os = s₁.os →
      Fr s₁.heap s₁.heap.objs.size s.heap (bindL (envOfC d.name d.scope s₁.heap.objs.size fa cd).kindOf [(x, .ref a)] fun _ => none) →
      Cl s₁.heap.objs.size (cellsFrom (s₁.heap.objs.size + 1) d.scope.names []) s.heap (bindC (envOfC d.name d.scope s₁.heap.objs.size fa cd).kindOf [(x, .ref a)] fun _ => none) →
      wpAny (model l.prog w) (callerA.deeper (envOfC d.name d.scope s₁.heap.objs.size fa cd)) (execs d.body (envOfC d.name d.scope s₁.heap.objs.size fa cd))
        (fun f s' => f = .ret (.bool true) ∧ (∀ b o, s₁.heap.get? b = some o → s'.heap.get? b = some o) ∧ s'.os = s₁.os ∧ s'.gens = #[]) (fun _ _ => False) s) :
    WalkN q loose XP YP l.row.toRowW d [] (fun f vs => PySem.call f vs) := by
  intro w s₀ s₁ mg mb G Y fa o pm cd doc dV kV ho hd hcd hD hmg hg args vals as hpre hlay hrd hwl hlo
  obtain rfl : dV = .none := Dflts.none hD hdf
  obtain rfl : kV = .none := Dflts.noKw hD
  obtain ⟨a, vs, ns, rfl, rfl, hobj, hints, hlen⟩ := script_of hn hpre hwl
  refine enter_callW ?_
  refine call_cells_ret (o := o) (by rw [depth_caller]; decide) ho (fd_plain hd) G.T.nolimit hcd (hbind pm cd doc (.ref a)) (fun y hy => ?_) (fun h₁ tk F X => ?_) hco hgen hk
  · obtain rfl : y = (x, Value.ref a) := List.mem_singleton.mp hy
    rcases hx with e | e
    · exact .inl e
    · exact .inr ⟨e, cellsFrom_some _ _ _ (.inl e)⟩
  · refine wpAny_mono (body w s₀ s₁ { s₁ with heap := h₁, toks := tk } mg mb fa o pm cd doc a vs ns G Y ho (fd_plain hd) hcd hmg hobj hints hlen hg rfl F X) (fun f s' hq => ?_) (fun _ _ hq => hq)
    obtain ⟨rfl, h2, h3, h4⟩ := hq
    exact ⟨.inl ⟨.bool true, .bool true, [], rfl, fun _ => rfl, .bool true, post_true l _, fun _ => ⟨List.Pairwise.nil, fun _ hm => (nomatch hm)⟩⟩, h2, h3, h4⟩

/-! ### rules over ANY heap (no ledger) from facts about the written part K: the library's own take a ledger (News) for what they write -/
section
variable {prog : Program} {w : World} {A : Around} {E : Value → Shared → Prop} {s : Shared} {K : Frag}

/-- a def of the module, or a method (qual 'C.m'), entered: the frame is the next address; cells behind it -/
theorem call_fn {R : Result → Shared → Prop} {name qual : Str} {params : Arguments} {body : List Stmt} {scope : Scope} {dV kV doc pm cdv ct oc : Value} {an od : Option Addr} {osl : Array (Option Value)} {f : Addr} {args : Args} {binds : List (Str × Value)}
    (X : K.In s.heap) (hlim : s.heap.NoLimit) (ho : K.lookup f = some ⟨oc, od, .func (fnOf name qual params body scope dV kV doc pm an cdv ct), osl⟩) (hcd : codeIn K cdv qual = true) (hroom : A.depth < recursionLimit)
    (hbind : BindsTo s (fnOf name qual params body scope dV kV doc pm an cdv ct) args binds)
    (hkind : (binds.all fun y => scope.names.lookup y.1 == some .local || scope.names.lookup y.1 == some .cell) = true)
    (h : ∀ s₁, InCallC s s.heap.objs.size (bindL (envOfC qual scope s.heap.objs.size f cdv).kindOf binds fun _ => none) (cellsFrom (s.heap.objs.size + 1) scope.names [])
        (bindC (envOfC qual scope s.heap.objs.size f cdv).kindOf binds fun _ => none) s₁ →
      wpAny (model prog w) (A.deeper (envOfC qual scope s.heap.objs.size f cdv)) (execs body (envOfC qual scope s.heap.objs.size f cdv))
        (fun fl s' => R (.ok (.ret (match fl with | .ret v => v | _ => .none))) s')
        (fun e s' => wpAny (model prog w) (A.deeper (envOfC qual scope s.heap.objs.size f cdv)) (leaving (envOfC qual scope s.heap.objs.size f cdv) e) (fun _ s'' => R (.error e) s'') (fun e' s'' => R (.error e') s'') s') s₁)
    (hco : scope.isCoroutine = false) (hgen : scope.isGenerator = false) (hk : scope.kind = .function) : codeAny (model prog w) A (.call (.ref f) args) R s := by
  refine codeAny_call_function hroom (X _ _ ho) rfl hco hgen rfl (codeRec_of X hcd) (hbind _ _ _ _ ?_)
  refine wpAny_newFunctionEnv_cells hk (kindsX hkind _) fun env he s₁ x => ?_
  subst he
  exact ⟨hlim.keeps x.toInCall.keep, codeAny_func (h s₁ x)⟩

/-- C(..): dict at size, instance at size + 1, then __init__ -/
theorem make_obj {R : Result → Shared → Prop} {C fI : Addr} {rest : List Value} {kw : List (Str × Value)}
    (X : K.In s.heap) (hm : makesIn K C = true) (hi : findIn K (.ref C) "__init__" = some (some (.ref fI))) (hf : isFn K (.ref fI) = true)
    (h : codeAny (model prog w) (A.under (.builtin "type.__call__" ⟨.ref C :: rest, kw⟩)) (.call (.ref fI) ⟨.ref (s.heap.objs.size + 1) :: rest, kw⟩) (InitBack (s.heap.objs.size + 1) R)
      { s with heap := (s.heap.push emptyDict).push (instObj C s.heap.objs.size) }) : codeAny (model prog w) A (.call (.ref C) ⟨rest, kw⟩) R s := by
  obtain ⟨hh, g, d, t, os⟩ := s
  exact make_core (makes_of X hm) (looks_findIn X hi) (fun self => bind_fn X self (beq_iff_eq.mp hf)) (.inl rfl) h

/-- x.name where the instance's dict holds the name and the class does not -/
theorem get_field {x C : Addr} {ox : Obj} {es : List DictEntry} {n : Nat} {name : Str} {expr : Bool} {v : Value} {Q : Value → Shared → Prop}
    (X : K.In s.heap) (I : PySem.W.InstAt s.heap x ox C (some (dictOf es n))) (hg : plainGet K C name = true) (hh : hasDictIn K C = true) (ha : findIn K (.ref C) name = some none)
    (hl : getL name es = some (some v)) (hv : handedIn v = true) (h : Q v { s with toks := s.toks + 1 }) : wpAny (model prog w) A (getAttr (.ref x) name expr) Q E s :=
  get_value X I (plainGet_of hg).1 (findObj_own hh ha rfl hl) hv h

/-- x.m(..): the method found in the class -/
theorem get_method {x C f : Addr} {ox : Obj} {es : List DictEntry} {n : Nat} {name : Str} {pl : Sem Bool} {Q : Value × List Value → Shared → Prop}
    (X : K.In s.heap) (I : PySem.W.InstAt s.heap x ox C (some (dictOf es n))) (hg : plainGet K C name = true) (hf : findIn K (.ref C) name = some (some (.ref f))) (ht : isFn K (.ref f) = true)
    (hl : getL name es = some none) (h : Q (.ref f, [.ref x]) s) : wpAny (model prog w) A (getMethod (.ref x) name pl) Q E s :=
  method_fn X I (plainGet_of hg).1 (plainGet_of hg).2 hf (beq_iff_eq.mp ht) (by show (lookIn name (dictOf es n)).map _ = _; rw [lookIn_dict, hl]; rfl) h

/-! the whole heap as the ledger: makes every rule that writes through a ledger a rule over any heap -/
def noObjs (h : Heap) : Heap := { h with objs := #[] }
theorem noObjs_get (h : Heap) (b : Addr) : (noObjs h).get? b = none := by
  cases e : (noObjs h).get? b with
  | none => rfl
  | some o => exact absurd (Heap.lt_size e) (Nat.not_lt_zero _)
def ledger (h : Heap) (L d : Addr) : List (Addr × Obj) := (List.range h.objs.size).filterMap fun a => if a = L ∨ a = d then none else (h.get? a).map fun o => (a, o)
theorem mem_ledger {h : Heap} {L d a : Addr} {o : Obj} : (a, o) ∈ ledger h L d ↔ a ≠ L ∧ a ≠ d ∧ h.get? a = some o := by
  unfold ledger
  rw [List.mem_filterMap]
  constructor
  · rintro ⟨b, _, e⟩
    split at e
    · cases e
    · rename_i hb
      obtain ⟨o', ho, e'⟩ := Option.map_eq_some_iff.mp e
      cases e'
      exact ⟨fun q => hb (.inl q), fun q => hb (.inr q), ho⟩
  · rintro ⟨n1, n2, ho⟩
    refine ⟨a, List.mem_range.mpr (Heap.lt_size ho), ?_⟩
    rw [if_neg (show ¬ (a = L ∨ a = d) from fun q => q.elim n1 n2), ho] <;> rfl
theorem news_ledger {h : Heap} {L d : Addr} {od : Obj} (hne : d ≠ L) (ho : h.get? d = some od) : News (noObjs h) L h ([] ++ (d, od) :: ledger h L d) := by
  rintro ⟨a, o⟩ hp
  rcases List.mem_cons.mp hp with e | hp
  · cases e
    exact ⟨ho, hne, noObjs_get _ _⟩
  · obtain ⟨n1, n2, e⟩ := mem_ledger.mp hp
    exact ⟨e, n1, noObjs_get _ _⟩
theorem fr_all {h : Heap} {L : Addr} {m : Str → Option Value} (n : h.Ns L m) : Fr (noObjs h) L h m :=
  ⟨n, fun b o e => (by rw [noObjs_get] at e; cases e), Nat.zero_le _⟩
/-- Upd of the head entry (for append_K, setItem_K ..) -/
theorem upd_ledger {h : Heap} {L d : Addr} {o o' : Obj} : Upd d o o' ((d, o) :: ledger h L d) ((d, o') :: ledger h L d) :=
  .head fun ⟨_, _⟩ hp => (mem_ledger.mp hp).2.1

/-- x.name = v over any heap: L is any namespace of the heap (the frame's, say): its map stays, its object is not told; all else but the dict stays -/
theorem set_field {x C dx L : Addr} {ox : Obj} {m : Str → Option Value} {es es' : List DictEntry} {n n' : Nat} {name : Str} {v : Value} {Q : Unit → Shared → Prop}
    (X : K.In s.heap) (I : PySem.W.InstAt s.heap x ox C (some (dictOf es n))) (hd : ox.dict = some dx) (hL : s.heap.Ns L m) (hne : dx ≠ L)
    (hs : findIn K (.ref C) "__setattr__" = some (some (.builtin "object.__setattr__"))) (hp : plainOver K C = true) (ht : takerIn K C name = some none) (hh : hasDictIn K C = true) (hl : (getL name es).isSome = true)
    (e : (putL name (PyData.keyHash w.params name) (.str name (s.toks + 1)) v es, putN name es n) = (es', n')) (hz : es'.length ≤ 1000)
    (h : ∀ h' : Heap, h'.Ns L m → h'.get? dx = some (dictOf es' n') → (∀ b o, b ≠ dx → b ≠ L → s.heap.get? b = some o → h'.get? b = some o) → Q () { s with heap := h', toks := s.toks + 2 }) :
    wpAny (model prog w) A (setAttr (.ref x) name v) Q E s := by
  obtain ⟨e1, e2⟩ := Prod.mk.inj e
  have hdx : s.heap.get? dx = some (dictOf es n) := by
    have := I.dict
    rw [hd] at this
    exact this
  refine set_plain X I hs (osa_dict (s := { s with toks := s.toks + 1 }) (h₀ := noObjs s.heap) (L := L) (m := m) (od := dictOf es n) (od' := dictOf es' n') (es := es') (n := n') (pre := []) (post := ledger s.heap L dx)
    (fr_all hL) (news_ledger hne hdx) X I hd hp ht hh hl (fun _ q => nomatch q) (fun ⟨_, _⟩ q => (mem_ledger.mp q).2.1) (by rw [putName_dict, e1, e2]) rfl hz fun h' F' N' => ?_)
  exact h h' F'.ns (N'.get (List.Mem.head _)) fun b o n1 n2 ho => N'.get (List.Mem.tail _ (mem_ledger.mpr ⟨n2, n1, ho⟩))
end
end Att

namespace L2
open PySem PySem.Spec PyProof.Rows

theorem vals_ints : ∀ {vs : List Value} {ns : List Int}, IntsAre vs ns → Vals (ns.map V.int) vs
  | _, _, .nil => .nil
  | _, _, .cons n t h => .cons ⟨t, rfl⟩ (vals_ints h)

/-- nothing is tracked but the script, known to the object (or it is an object of the module) -/
def Only (H : Hp) : Prop := ∀ b, H b = none ∨ ∃ o xs, H b = some (.frz o (.lst xs))

/-- THE HEAD: the law's promise, at the heap behind the top. F, the promise of the law's def, may use that base is part of the heap (so K.In base, base.Ns mainGlobals mg stand in Mod) -/
theorem law_call {P : Program} {w : World} {K : PySem.W.Frag} {mg mb : Str → Option Value} {CX : CXT} {k : Nat} {fa a : Addr} {fd : FuncData} {x : Str} {sp : Sp} {s₁ : Shared} {vs : List Value} {ns : List Int}
    (KX : K.In s₁.heap) (hns : s₁.heap.Ns mainGlobals mg) (hb : s₁.heap.Ns builtinsNs mb) (hbb : ∀ x : Str, x ≠ "__name__" → mb x = bootBuiltins x) (hlim : s₁.heap.NoLimit) (hg : s₁.gens = #[])
    (ha : s₁.heap.get? a = some { cls := .type "list", data := .seq vs.toArray }) (hi : IntsAre vs ns) (hl : ns.length ≤ sizeLine) (hr : Room k callerA)
    (F : ∀ base : Heap, K.In base → base.Ns mainGlobals mg → FnOk P w K mg base CX k fa fd [x] sp) (hbind : ∀ (s : Shared) (u : Value), BindsTo s fd ⟨[u], []⟩ [(x, u)])
    (hsp : ∀ H : Hp, Only H → SqL K H a (ns.map V.int) → sp [.ref a] H (fun v _ => v = .bl true) fun _ _ _ => False)
    (hCX : ∀ H e s', CX [] H s₁ (fun _ _ _ => False) e s' → False) :
    codeAny (model P w) callerA (.call (.ref fa) ⟨[.ref a], []⟩) (fun r s' => r = .ok (.ret (.bool true)) ∧ OldK s₁.heap s'.heap ∧ s'.os = s₁.os ∧ AllBare s'.gens) s₁ := by
  have rv := vals_ints hi
  have lenV := hi.length
  -- from an abstract heap in which nothing but the script may be tracked
  have core : ∀ H : Hp, Only H → SqL K H a (ns.map V.int) → HOk P w H s₁.heap → (∀ b, H b ≠ none → b = a) → (H a ≠ none → K.lookup a = none) →
      codeAny (model P w) callerA (.call (.ref fa) ⟨[.ref a], []⟩) (fun r s' => r = .ok (.ret (.bool true)) ∧ OldK s₁.heap s'.heap ∧ s'.os = s₁.os ∧ AllBare s'.gens) s₁ := by
    intro H hO hS hok hA hK
    have base_of : ∀ {b : Addr} {o : Obj}, s₁.heap.get? b = some o → H b = none → (hidT s₁.heap H).get? b = some o := fun e n => hidT_get e n
    have noA : ∀ {b : Addr} {o : Obj} {es : Array DictEntry} {ep : Nat}, s₁.heap.get? b = some o → o.data = .dict es ep → H b = none := fun {b o es ep} e d => by
      cases q : H b with
      | none => rfl
      | some u =>
        have e' : b = a := hA b (by rw [q]; simp)
        subst e'
        rw [ha] at e; cases e
        have d' : Data.seq vs.toArray _ = Data.dict es ep := d
        cases d'
    have nsK : ∀ {b : Addr} {m : Str → Option Value}, s₁.heap.Ns b m → (hidT s₁.heap H).Ns b m := fun {b m} ⟨o, es, ep, e, d, r⟩ => ⟨o, es, ep, base_of e (noA e d), d, r⟩
    have hKb : K.In (hidT s₁.heap H) := fun b o e => base_of (KX b o e) (by
      cases q : H b with
      | none => rfl
      | some u =>
        have e' : b = a := hA b (by rw [q]; simp)
        subst e'
        rw [hK (by rw [q]; simp)] at e; cases e)
    have hM : Mod K mg (hidT s₁.heap H) := ⟨hKb, nsK hns, ⟨mb, nsK hb, hbb⟩, let ⟨mc, h1, h2⟩ := hlim; ⟨mc, nsK h1, h2⟩⟩
    have e0 : Env0 P w K mg (hidT s₁.heap H) callerA [] s₁ H := ⟨rfl, hM, fun b o e => of_hidT e, Nat.le_of_eq (hidT_size _ _), trivial, fun b hb => absurd (show b ∈ ([] : List Addr) from hb) (by simp), hok, .of_eq hg⟩
    refine codeAny_mono ((F _ hKb (nsK hns)).run callerA [] s₁ H ⟨[.ref a], []⟩ [.ref a] [.ref a] _ _ hr e0 (hbind s₁ (.ref a)) (.cons rfl .nil) (hsp H hO hS)) fun r s' h => ?_
    cases r with
    | error e => exact (hCX H e s' h).elim
    | ok fl =>
      cases fl with
      | next => exact False.elim h
      | brk => exact False.elim h
      | cont => exact False.elim h
      | ret u =>
        obtain ⟨v, H', os, bare, un, hok', r', q⟩ := h
        have q' : v = .bl true := q
        subst q'
        obtain rfl : u = Value.bool true := r'
        refine ⟨rfl, OldK.of_keep fun b o e => ?_, os, bare⟩
        cases q : H b with
        | none => exact un.keep b o e q (by intro z; exact absurd (show b ∈ ([] : List Addr) from z) (by simp)) (by simp)
        | some u =>
          rcases hO b with z | ⟨ob, xs, z⟩
          · rw [q] at z; cases z
          · have z2 := un.frzs b ob _ z
            obtain ⟨e1, _⟩ := hok b _ z
            obtain ⟨e2, _⟩ := hok' b _ z2
            rw [e] at e1; cases e1
            exact e2
  cases hk : K.lookup a with
  | some o =>
    -- the script is one of the module's own objects
    have e := KX a o hk
    rw [ha] at e
    cases e
    refine core (fun _ => none) (fun _ => .inl rfl) (.inr ⟨_, vs.toArray, _, hk, rfl, rfl, rfl, by rw [List.size_toArray, lenV]; exact hl, by simpa using rv⟩) (fun b u z => by have z' : (none : Option HO) = some u := z; cases z') (fun b z => absurd rfl z) fun z => absurd rfl z
  | none =>
    refine core (fun b => if b = a then some (.frz { cls := .type "list", data := .seq vs.toArray } (.lst (ns.map V.int))) else none) (fun b => ?_) (.inl (.inr ⟨{ cls := .type "list", data := .seq vs.toArray }, if_pos rfl⟩)) (fun b u z => ?_) (fun b z => ?_) fun _ => hk
    · by_cases hb : b = a
      · exact .inr ⟨_, _, if_pos hb⟩
      · exact .inl (if_neg hb)
    · by_cases hb : b = a
      · have z' := (if_pos hb).symm.trans z
        cases z'
        subst hb
        exact ⟨ha, by rw [List.length_map]; exact hl, vs, _, rv, ha⟩
      · have z' := (if_neg hb).symm.trans z
        cases z'
    · by_cases hb : b = a
      · exact hb
      · exact absurd (if_neg hb) z
end L2

namespace L2
open PySem PySem.Spec PyProof.Rows

abbrev KOf {K : PySem.W.Frag} {h : Heap} (_ : K.In h) : PySem.W.Frag := K

/-- the goal that k_head leaves (case hc), from the law's promise. F gives the function object fd (K's own) once, then the promise over every base -/
theorem walk_of {l : PySem.W.OpenLaw} {n k : Nat} {q : Program} {loose : List Str} {XP : (Str → Option Value) → Heap → Prop} {YP : World → Heap → Prop} {d : DefRec} {K : Params → PySem.W.Frag} {CX : World → CXT} {sp : World → Sp} {x : Str}
    (hn : l.most = some n) (hn2 : n ≤ sizeLine) (hdf : d.params.defaults = []) (hr : Room k callerA)
    (hY : ∀ (w : World) (h : Heap), YP w h → (K w.params).In h)
    (F : ∀ (w : World) (mg : Str → Option Value) (fa : Addr) (h : Heap), (K w.params).In h → h.Ns mainGlobals mg → mg d.name = some (.ref fa) →
      ∃ fd : FuncData, (∀ (s : Shared) (u : Value), BindsTo s fd ⟨[u], []⟩ [(x, u)]) ∧
        ∀ base : Heap, (K w.params).In base → base.Ns mainGlobals mg → FnOk l.prog w (K w.params) mg base (CX w) k fa fd [x] (sp w))
    (hsp : ∀ (w : World) (H : Hp) (a : Addr) (ns : List Int), ns.length ≤ n → Only H → SqL (K w.params) H a (ns.map V.int) → sp w [.ref a] H (fun v _ => v = .bl true) fun _ _ _ => False)
    (hCX : ∀ (w : World) (H : Hp) (s : Shared) (e : Value) (s' : Shared), CX w [] H s (fun _ _ _ => False) e s' → False) :
    PySem.W.WalkO q loose XP YP l.row.toRowW d [] (fun f vs => PySem.call f vs) := by
  refine Att.attach_call hn hdf fun w s₀ s₁ mg mb fa o pm cd doc a vs ns G Y ho hd hcd hmg hobj hints hlen hg => ?_
  have KX := hY w _ Y
  obtain ⟨fd, hb, hF⟩ := F w mg fa _ KX G.T.g hmg
  exact law_call KX G.T.g G.T.b G.T.builtins G.T.nolimit hg hobj hints (Nat.le_trans hlen hn2) hr hF hb (fun H hO hS => hsp w H a ns hlen hO hS) fun H e s' => hCX w H s₁ e s'
/-- the same where the promise hangs on the written part alone: (sp := My.sp_law), no hole under a binder -/
theorem walk_ofK {l : PySem.W.OpenLaw} {n k : Nat} {q : Program} {loose : List Str} {XP : (Str → Option Value) → Heap → Prop} {YP : World → Heap → Prop} {d : DefRec} {K : Params → PySem.W.Frag} {CX : CXT} {sp : PySem.W.Frag → Sp} {x : Str}
    (hn : l.most = some n) (hn2 : n ≤ sizeLine) (hdf : d.params.defaults = []) (hr : Room k callerA)
    (hY : ∀ (w : World) (h : Heap), YP w h → (K w.params).In h)
    (F : ∀ (w : World) (mg : Str → Option Value) (fa : Addr) (h : Heap), (K w.params).In h → h.Ns mainGlobals mg → mg d.name = some (.ref fa) →
      ∃ fd : FuncData, (∀ (s : Shared) (u : Value), BindsTo s fd ⟨[u], []⟩ [(x, u)]) ∧
        ∀ base : Heap, (K w.params).In base → base.Ns mainGlobals mg → FnOk l.prog w (K w.params) mg base CX k fa fd [x] (sp (K w.params)))
    (hsp : ∀ (K : PySem.W.Frag) (H : Hp) (a : Addr) (ns : List Int), ns.length ≤ n → Only H → SqL K H a (ns.map V.int) → sp K [.ref a] H (fun v _ => v = .bl true) fun _ _ _ => False)
    (hCX : ∀ (H : Hp) (s : Shared) (e : Value) (s' : Shared), CX [] H s (fun _ _ _ => False) e s' → False) :
    PySem.W.WalkO q loose XP YP l.row.toRowW d [] (fun f vs => PySem.call f vs) :=
  walk_of (K := K) (CX := fun _ => CX) (sp := fun w => sp (K w.params)) hn hn2 hdf hr hY F (fun w H a ns h1 h2 h3 => hsp (K w.params) H a ns h1 h2 h3) fun _ H s e s' => hCX H s e s'
end L2

/- THE LAST THEOREM (shape; LID, My.* are yours):
   My.Adr: a structure of the addresses that your layer names (classes, functions); My.Txt K t: a structure (Prop) of the equations over K;
   My.txt_mk : {K} {implicit addresses ..} (e1 : nsIn K mainGlobals "law" = some (some (.ref f))) (e2 : K.lookup f = some ⟨oc, od, .func (fnOf "law" "law" params body scope dV kV doc pm an cdv ct), sl⟩) (e3 : codeIn K cdv "law" = true) .. : ∃ t, My.Txt K t

set_option maxRecDepth 100000 in
set_option maxHeartbeats 0 in
theorem PySem.Challenge.cw_LID_holds : PySem.Challenge.rw_LID.Holds := by
  w_on; o_law; k_head; (case hw => w_witness2)
  k_fill
  refine L2.walk_of (l := PySem.Challenge.rw_LID) (n := 63) (k := 40) (x := "script") (CX := fun w => ..) (sp := fun _ => My.sp_law) rfl (by decide) rfl ⟨rfl, by decide, by decide⟩ (fun w h Y => PySem.W.kIn_of Y) ?F ?S ?C
  case F =>
    intro w mg fa h KX G hmg
    have T : ∃ t, My.Txt (L2.KOf KX) t := by
      dsimp only [L2.KOf]                          -- K must stand as «<heap const> w.params» for k_is
      refine' My.txt_mk ?e1 ?e2 ?e3 ..
      (case e1 => PySem.W.k_is)                    -- in the order: a name -> its address -> its object -> its parts
      (case e2 => PySem.W.k_is)
      ..
    obtain ⟨t, T⟩ := T
    have e0 := hmg.symm.trans (PySem.W.mg_of KX G T.law)
    cases e0                                       -- fa is the law's own address
    exact ⟨_, fun s u => .of_eq rfl, fun base kb nb => My.law_fn T kb nb⟩     -- if «.of_eq rfl» comes too early: refine' ⟨_, ?b, fun base kb nb => My.law_fn T kb nb⟩; exact fun s u => .of_eq rfl
  case S => exact fun w H a ns hl hO hS => ..
  case C => exact ..
(the tactic k_is has no namespace: write k_is) -/

/-! SHORT WORDS over the layer: a def of the text, its body, what a loop and a test want. -/
namespace L2
open PySem PySem.Spec PyProof.Rows

/-! ### the text by places -/
/-- the j-th statement of a class's body -/
def inClass (s : Stmt) (j : Nat) : Stmt := match s with
  | .ClassDef _ _ _ body _ _ _ _ _ _ _ => body.getD j (.Pass ⟨0, 0, 0, 0⟩)
  | _ => .Pass ⟨0, 0, 0, 0⟩
def defArgs (s : Stmt) : Arguments := match s with
  | .FunctionDef _ a _ _ _ _ _ _ _ _ => a
  | _ => { posonlyargs := [], args := [], vararg := none, kwonlyargs := [], kw_defaults := [], kwarg := none, defaults := [] }
def defBody (s : Stmt) : List Stmt := match s with
  | .FunctionDef _ _ b _ _ _ _ _ _ _ => b
  | _ => []
def defScope (s : Stmt) : Scope := match s with
  | .FunctionDef _ _ _ _ _ _ sc _ _ _ => sc
  | _ => { kind := .function, names := [], isGenerator := false, isCoroutine := false }

/-! ### no exception leaves a def -/
abbrev CX0 : CXT := fun _ _ _ _ _ _ => False
abbrev E0 : XK := fun _ _ _ => False
theorem pass0 {X : Cx} : Passes CX0 X E0 := fun _ _ _ _ _ _ _ h => h.elim

/-! ### a def (or method) of the text as it stands behind the top -/
structure Fun (K : PySem.W.Frag) (x qual : Str) (st : Stmt) (f : Addr) (fd : FuncData) : Prop where
  ex : ∃ (oc : Value) (od : Option Addr) (kV doc pm : Value) (an : Option Addr) (cdv ct : Value) (osl : Array (Option Value)),
    fd = PySem.W.fnOf x qual (defArgs st) (defBody st) (defScope st) .none kV doc pm an cdv ct ∧ K.lookup f = some ⟨oc, od, .func fd, osl⟩ ∧ PySem.W.codeIn K cdv qual = true
  kp : PySem.W.keepIn K (.ref f) = true
section
variable {P : Program} {w : World} {K : PySem.W.Frag} {mg : Str → Option Value} {base : Heap}
/-- THE RULE for a def: its body as a term of rules, and the reading of that term -/
theorem Fun.ok {x qual : Str} {st : Stmt} {f : Addr} {fd : FuncData} {N ps : List Str} {k : Nat} {sp : Sp} (F : Fun K x qual st f fd) (S : FnScope N ps (defScope st)) (len : ∀ vs H Q E, sp vs H Q E → vs.length = ps.length)
    (hbody : ∀ (cdv : Value) (A : Around) (outer : List Env) (s : Shared) (H : Hp) (vs : List V) (Q : VK) (E : XK), Room k (A.deeper (envOfC qual (defScope st) s.heap.objs.size f cdv)) → sp vs H Q E →
      ∃ t, PSs (cxOf CX0 P w K mg base N qual (defScope st) f cdv A outer s H E).nox (defBody st) t ∧ t { nx := fun _ H' => Q .non H', rt := Q } (start N vs) H) : FnOk P w K mg base CX0 (k + 1) f fd ps sp := by
  obtain ⟨oc, od, kV, doc, pm, an, cdv, ct, osl, rfl, lk, hcd⟩ := F.ex
  refine fn_of lk hcd S len fun A outer s H vs Q E hr hsp => ?_
  obtain ⟨t, h, q⟩ := hbody cdv A outer s H vs Q E hr hsp
  exact ⟨t, h.nox, q⟩
/-- how its arguments bind (no defaults): h is «fun _ _ _ _ _ _ us hl => match us, hl with | [_, _], _ => rfl», one _ a parameter -/
theorem Fun.binds {x qual : Str} {st : Stmt} {f : Addr} {fd : FuncData} {ps : List Str} (F : Fun K x qual st f fd)
    (h : ∀ (kV doc pm : Value) (an : Option Addr) (cdv ct : Value) (us : List Value), us.length = ps.length → bindArgs (PySem.W.fnOf x qual (defArgs st) (defBody st) (defScope st) .none kV doc pm an cdv ct) ⟨us, []⟩ = pure (ps.zip us)) : Binds K fd ps [] := by
  obtain ⟨oc, od, kV, doc, pm, an, cdv, ct, osl, rfl, lk, hcd⟩ := F.ex
  exact .all (h kV doc pm an cdv ct)
theorem fun_mk {x qual : Str} {st : Stmt} {f : Addr} {oc : Value} {od an : Option Addr} {osl : Array (Option Value)} {kV doc pm cdv ct : Value} (l : K.lookup f = some ⟨oc, od, .func (PySem.W.fnOf x qual (defArgs st) (defBody st) (defScope st) .none kV doc pm an cdv ct), osl⟩)
    (c : PySem.W.codeIn K cdv qual = true) (k : PySem.W.keepIn K (.ref f) = true) : Fun K x qual st f (PySem.W.fnOf x qual (defArgs st) (defBody st) (defScope st) .none kV doc pm an cdv ct) := ⟨⟨oc, od, kV, doc, pm, an, cdv, ct, osl, rfl, l, c⟩, k⟩
end
theorem hu_of {A : Around} {k : Nat} (hr : Room k A) : A.units + 1 < cLine := Nat.lt_of_le_of_lt (Nat.add_le_add_left (by decide : 1 ≤ 64) _) hr.units
theorem small1000 {n : Nat} (h : n ≤ 1000) : n < sizeLine := Nat.lt_of_le_of_lt h (by decide)

/-! ### expressions in short: the name that stands in the i-th slot -/
section
variable {X : Cx}
theorem pv (i : Nat) {x : Str} {pos : Pos} (hN : X.N[i]? = some x := by rfl) (hv : Vis X.env.scope x := by first | exact Or.inl rfl | exact Or.inr (Or.inl rfl) | exact Or.inr (Or.inr rfl)) (hd : (x == ("__debug__" : Str)) = false := by decide)
    (hcd : (x == ("__classdict__" : Str)) = false := by decide) : PE X (.Name x pos) (tVar i) := pe_var hN hv hd hcd
end

/-! ### tests -/
theorem iteF {A B : Prop} (h : B) : if false = true then A else B := by
  rw [if_neg Bool.false_ne_true]
  exact h
theorem iteT {A B : Prop} (h : A) : if true = true then A else B := by
  rw [if_pos rfl]
  exact h
theorem ite2 {c A B : Prop} [Decidable c] (h1 : c → A) (h2 : ¬ c → B) : if c then A else B := by
  by_cases h : c
  · rw [if_pos h]
    exact h1 h
  · rw [if_neg h]
    exact h2 h
theorem iteNS {c A B : Prop} [Decidable c] (hc : c) (h : B) : if (!decide c) = true then A else B := by
  rw [decide_eq_true hc]
  exact iteF h

/-! ### heaps -/
/-- all that was tracked is as it was -/
def Same (H H' : Hp) : Prop := ∀ b o, H b = some o → H' b = some o
theorem Same.refl (H : Hp) : Same H H := fun _ _ h => h
theorem Same.trans {H H1 H2 : Hp} (a : Same H H1) (b : Same H1 H2) : Same H H2 := fun c o h => b c o (a c o h)
theorem Same.free {H H' : Hp} (e : Same H H') {l : Addr} (h : H' l = Option.none) : H l = Option.none := by
  cases q : H l with
  | none => rfl
  | some o =>
    rw [e l o q] at h
    cases h
theorem Same.seq {K : PySem.W.Frag} {H H' : Hp} {a : Addr} {xs : List V} (e : Same H H') (h : SqL K H a xs) : SqL K H' a xs := by
  rcases h with (h | ⟨o, h⟩) | h
  · exact .inl (.inl (e _ _ h))
  · exact .inl (.inr ⟨o, e _ _ h⟩)
  · exact .inr h

end L2
namespace L2
open PySem PySem.Spec PyProof.Rows

/-! ### list comprehensions -/
/-- the cells that a block takes from the frame around it -/
def takenCells (cells : List (Str × Addr)) : List (Str × NameKind) → List (Str × Addr) → List (Str × Addr)
  | [], cs => cs
  | (n, k) :: r, cs => if (k == NameKind.free) = true then takenCells cells r ((n, (cells.lookup n).getD 0) :: cs) else takenCells cells r cs
theorem closure_taken {scope : Scope} {env : Env} (h : ∀ x ∈ scope.names, x.2 = .free → ∃ c, env.cells.lookup x.1 = some c) : closureFor scope env = pure (takenCells env.cells scope.names []) := by
  simp only [closureFor]
  have go : ∀ (l : List (Str × NameKind)) (cs : List (Str × Addr)), (∀ x ∈ l, x.2 = .free → ∃ c, env.cells.lookup x.1 = some c) →
      (forIn l cs fun x r => match x with | (name, kind) => if (kind == NameKind.free) = true then do let a ← cellOf env name; pure (ForInStep.yield ((name, a) :: r)) else pure (ForInStep.yield r) : Sem (List (Str × Addr))) = pure (takenCells env.cells l cs) := by
    intro l
    induction l with
    | nil => intro cs _; rfl
    | cons p r ih =>
      intro cs hp
      obtain ⟨n, k⟩ := p
      rw [List.forIn_cons]
      have hr := fun cs => ih cs fun x hx => hp x (List.mem_cons_of_mem _ hx)
      by_cases hk : (k == NameKind.free) = true
      · have hk' : k = NameKind.free := by simpa using hk
        obtain ⟨c, hc⟩ := hp (n, k) List.mem_cons_self hk'
        have hc' : env.cells.lookup n = some c := hc
        simp only [hk, if_true, takenCells, cellOf, hc', Option.getD_some, pure_bind]
        exact hr _
      · simp only [hk, if_false, takenCells, pure_bind]
        exact hr _
  rw [go scope.names [] h]
  rfl
theorem taken_look {cells : List (Str × Addr)} : ∀ {l : List (Str × NameKind)} {cs : List (Str × Addr)} {x : Str} {c : Addr}, (∀ y ∈ l, y.2 = .free → ∃ c, cells.lookup y.1 = some c) → (∀ y d, cs.lookup y = some d → cells.lookup y = some d) →
    (takenCells cells l cs).lookup x = some c → cells.lookup x = some c
  | [], cs, x, c, _, hc, e => hc x c e
  | (n, k) :: r, cs, x, c, hl, hc, e => by
    unfold takenCells at e
    by_cases hk : (k == NameKind.free) = true
    · rw [if_pos hk] at e
      obtain ⟨d, hd⟩ := hl (n, k) List.mem_cons_self (by simpa using hk)
      have hd' : cells.lookup n = some d := hd
      refine taken_look (fun y hy => hl y (List.mem_cons_of_mem _ hy)) (fun y d' q => ?_) e
      rw [List.lookup_cons] at q
      by_cases hy : (y == n) = true
      · rw [hy] at q
        have hyn : y = n := by simpa using hy
        subst hyn
        rw [hd'] at q ⊢
        exact q
      · rw [Bool.not_eq_true] at hy
        rw [hy] at q
        exact hc y d' q
    · rw [if_neg hk] at e
      exact taken_look (fun y hy => hl y (List.mem_cons_of_mem _ hy)) hc e
theorem taken_grow {cells : List (Str × Addr)} : ∀ {l : List (Str × NameKind)} {cs : List (Str × Addr)} {x : Str}, (∃ c, cs.lookup x = some c) → ∃ c, (takenCells cells l cs).lookup x = some c
  | [], _, _, h => h
  | (n, k) :: r, cs, x, h => by
    unfold takenCells
    by_cases hk : (k == NameKind.free) = true
    · rw [if_pos hk]
      refine taken_grow ?_
      rw [List.lookup_cons]
      by_cases hy : (x == n) = true
      · rw [hy]; exact ⟨_, rfl⟩
      · rw [Bool.not_eq_true] at hy
        rw [hy]; exact h
    · rw [if_neg hk]; exact taken_grow h
theorem taken_has {cells : List (Str × Addr)} : ∀ {l : List (Str × NameKind)} {cs : List (Str × Addr)} {x : Str}, (x, NameKind.free) ∈ l → ∃ c, (takenCells cells l cs).lookup x = some c
  | (n, k) :: r, cs, x, h => by
    unfold takenCells
    rcases List.mem_cons.mp h with e | e
    · cases e
      rw [if_pos (by rfl)]
      exact taken_grow (by rw [List.lookup_cons, beq_self_eq_true]; exact ⟨_, rfl⟩)
    · by_cases hk : (k == NameKind.free) = true
      · rw [if_pos hk]; exact taken_has e
      · rw [if_neg hk]; exact taken_has e

/-- the loop of a list comprehension, any target, any tests -/
theorem comp_loop {prog : Program} {w : World} {A : Around} {elt target iter : Expr} {ifs : List Expr} {scope : Scope} {pos : Pos} {it acc : Value} {env : Env} {R : Result → Shared → Prop} {s : Shared} (I : Nat → Shared → Prop)
    (turn : ∀ n s, I n s → wpAny (model prog w) A (pyNext it) (fun r s₁ => match r with
      | none => R (.ok .next) s₁
      | some v => wpAny (model prog w) A (letOwnedTupleGo target it v) (fun _ s₁' => wpAny (model prog w) A (assign target env v) (fun _ s₂ =>
          wpAny (model prog w) A (forIn ifs true fun c r => if r = true then do let ok ← isTrue c env (eval c env); pure (ForInStep.yield ok) else pure (ForInStep.yield r)) (fun ok s₃ =>
            if ok = true then wpAny (model prog w) A (eval elt env) (fun x s₄ =>
              wpAny (model prog w) A (call (.builtin "list.append") [acc, x]) (fun _ s₅ => ∃ m, m < n ∧ I m s₅) (fun _ _ => False) s₄) (fun _ _ => False) s₃
            else ∃ m, m < n ∧ I m s₃) (fun _ _ => False) s₂) (fun _ _ => False) s₁') (fun _ _ => False) s₁) (fun _ _ => False) s)
    (n : Nat) (h : I n s) : codeAny (model prog w) A (.compLoop (.ListComp elt [⟨target, iter, ifs, 0⟩] scope pos) 0 it acc env) R s := by
  refine codeAny_loop rfl I (fun n s hI => ?_) n h
  show wpAny _ A ((compTurn (.ListComp elt [⟨target, iter, ifs, 0⟩] scope pos) 0 it acc env).onRaise (fun x => do noteFrame x env; theTreesLotGoes x)) _ _ s
  refine wpAny_noted ?_
  rw [compTurn_list]
  refine wpAny_bind (wpAny_standAt (wpAny_bind (wpAny_mono (turn n s hI) (fun r s₁ h₁ => ?_) fun _ _ h' => h'.elim)))
  cases r with
  | none => exact wpAny_pure h₁
  | some v =>
    refine wpAny_bind (wpAny_mono h₁ (fun _ s₁' h₁' => ?_) fun _ _ h' => h'.elim)
    refine wpAny_bind (wpAny_mono h₁' (fun _ s₂ h₂ => wpAny_bind (wpAny_mono h₂ (fun ok s₃ h₃ => ?_) fun _ _ h' => h'.elim)) fun _ _ h' => h'.elim)
    cases ok with
    | false => exact wpAny_pure ⟨rfl, h₃⟩
    | true =>
      exact wpAny_bind (wpAny_bind (wpAny_mono h₃ (fun x s₄ h₄ => wpAny_bind (wpAny_mono h₄ (fun _ s₅ h₅ => wpAny_pure (wpAny_pure ⟨rfl, h₅⟩)) fun _ _ h' => h'.elim)) fun _ _ h' => h'.elim))

/-- the context of a comprehension's block -/
def compCx (X : Cx) (N : List Str) (scope : Scope) (C : Addr) (s : Shared) (H : Hp) (pins : List (Addr × Obj)) (fp : List Addr) : Cx where
  prog := X.prog
  w := X.w
  K := X.K
  mg := X.mg
  base := X.base
  A := X.A
  N := N
  s₀ := s
  H₀ := H
  env := compEnvC scope (takenCells X.env.cells scope.names []) C X.env
  outer := X.stack
  stack := X.stack
  ex := fp
  fn := fun _ => false
  calm := X.calm
  pn := X.pn ++ pins
  xe := fun _ _ => False

/-- what is asked of a comprehension's scope: its free names are cells around it -/
structure CompScope (X : Cx) (scope : Scope) : Prop where
  kind : scope.kind = .function
  nocell : ∀ y ∈ scope.names, y.2 ≠ .cell
  names : ∀ y ∈ scope.names, y.2 = .local → scope.names.lookup y.1 = some .local
  free : ∀ y ∈ scope.names, y.2 = .free → X.env.kindOf y.1 = some .cell ∨ X.env.kindOf y.1 = some .free

theorem lookup_relabel {env : Env} {x : Str} : ∀ {names : List (Str × NameKind)} {k : NameKind}, (names.map fun (n, k) => if (k == NameKind.free && env.scope.kind == .function && env.kindOf n == some .cell) then (n, NameKind.cell) else (n, k)).lookup x = some k →
    ∃ k', names.lookup x = some k' ∧ (k' = k ∨ (k' = .free ∧ k = .cell ∧ env.kindOf x = some .cell))
  | [], k, h => by simp at h
  | (n, k0) :: r, k, h => by
    have ih := @lookup_relabel env x r k
    have h' : List.lookup x ((if (k0 == NameKind.free && env.scope.kind == .function && env.kindOf n == some .cell) = true then (n, NameKind.cell) else (n, k0)) :: r.map fun (n, k) => if (k == NameKind.free && env.scope.kind == .function && env.kindOf n == some .cell) = true then (n, NameKind.cell) else (n, k)) = some k := h
    by_cases hc : (k0 == NameKind.free && env.scope.kind == .function && env.kindOf n == some .cell) = true
    · rw [if_pos hc] at h'
      rw [List.lookup_cons] at h'
      cases hx : x == n with
      | true =>
        rw [hx] at h'
        have hk : NameKind.cell = k := Option.some.inj h'
        simp only [Bool.and_eq_true, beq_iff_eq] at hc
        have hxn : x = n := by simpa using hx
        refine ⟨k0, by rw [List.lookup_cons, hx], .inr ⟨hc.1.1, hk.symm, by rw [hxn]; exact hc.2⟩⟩
      | false =>
        rw [hx] at h'
        obtain ⟨k', e1, e2⟩ := ih h'
        exact ⟨k', by rw [List.lookup_cons, hx]; exact e1, e2⟩
    · rw [if_neg hc] at h'
      rw [List.lookup_cons] at h'
      cases hx : x == n with
      | true =>
        rw [hx] at h'
        exact ⟨k0, by rw [List.lookup_cons, hx], .inl (Option.some.inj h')⟩
      | false =>
        rw [hx] at h'
        obtain ⟨k', e1, e2⟩ := ih h'
        exact ⟨k', by rw [List.lookup_cons, hx]; exact e1, e2⟩
theorem mem_of_look {α : Type} : ∀ {l : List (Str × α)} {x : Str} {k : α}, l.lookup x = some k → (x, k) ∈ l
  | [], _, _, h => by simp at h
  | (n, a) :: r, x, k, h => by
    rw [List.lookup_cons] at h
    cases hx : x == n with
    | true =>
      rw [hx] at h
      have e : a = k := Option.some.inj h
      have hxn : x = n := by simpa using hx
      subst e; subst hxn
      exact List.mem_cons_self
    | false =>
      rw [hx] at h
      exact List.mem_cons_of_mem _ (mem_of_look h)

/-- the tests of a comprehension: none, one -/
def PTs (X : Cx) (ifs : List Expr) (t : TT) : Prop :=
  ∀ (pins : List (Addr × Obj)) (s : Shared) (σ : St) (H : Hp) (Q : Bool → Hp → Prop), Inv X pins σ H s → t σ H Q →
    wpAny (model X.prog X.w) X.A (forIn ifs true fun c r => if r = true then do let ok ← isTrue c X.env (eval c X.env); pure (ForInStep.yield ok) else pure (ForInStep.yield r)) (TP X pins σ Q) X.xe s
def tYes : TT := fun _ H Q => Q true H
theorem pts_nil {X : Cx} : PTs X [] tYes := fun _ _ _ H _ I h => wpAny_tests_nil ⟨H, I, h⟩
theorem pts_one {X : Cx} {c : Expr} {t : TT} (hc : PT X c t) : PTs X [c] t := fun pins s σ H Q I h => wpAny_tests_one (hc pins s σ H Q I h)

/-- [te for g in wi if tc]: the turns by W (turn, measure, the block's names, heap), N what a turn is to reach -/
def cTurns (D : Addr) (J : It) (g : TG) (tc : TT) (te : TE) (σ₀ : St) (H : Hp) (Q : Hp → Prop) : Prop :=
  ∃ W : Nat → Nat → St → Hp → Prop, (∃ m, W 0 m σ₀ (upd H D (.lst []))) ∧ ∀ i m σ' H', W i m σ' H' →
    (J.stop i H' ∧ Q H') ∨ (J.go i H' ∧ ∃ N : St → Hp → Prop, (∀ σ'' H'', N σ'' H'' → ∃ m', m' < m ∧ W (i + 1) m' σ'' H'') ∧ ∀ x H2, J.yld i H' x H2 → g x σ' H2 fun σ2 H3 => tc σ2 H3 fun b H4 =>
      if b = true then te σ2 H4 fun v H5 => ∃ xs, H5 D = some (.lst xs) ∧ xs.length < sizeLine ∧ N σ2 (upd H5 D (.lst (xs ++ [v]))) else N σ2 H4)
def tComp (wi : TI) (cap : St → St) (g : TG) (tc : TT) (te : TE) : TE := fun σ H Q => wi σ H fun J H1 => ∀ D, H1 D = none → cTurns D J g tc te (cap σ) H1 fun H' => Q (.ref D) H'
/-- x = [..] -/
def tSetComp (i : Nat) (wi : TI) (cap : St → St) (g : TG) (tc : TT) (te : TE) : TS := fun D σ H => wi σ H fun J H1 => ∀ d, H1 d = none → cTurns d J g tc te (cap σ) H1 fun H' => D.nx (σ.set i (some (.ref d))) H'

/-- the block's names hold what the names around it hold: N' and cap -/
def Caps (X : Cx) (N : List Str) (scope : Scope) (cap : St → St) : Prop :=
  ∀ σ : St, σ.length = X.N.length → (cap σ).length = N.length ∧ ∀ (i : Nat) (x : Str) (v : V), N[i]? = some x → (cap σ)[i]? = some (some v) → scope.names.lookup x = some .free ∧ ∃ j : Nat, X.N[j]? = some x ∧ σ[j]? = some (some v)

/-- n names of the block's own, then those that stand in the slots js around it -/
def capF (n : Nat) (js : List Nat) : St → St := fun σ => List.replicate n none ++ js.map fun j => (σ[j]?).join
theorem caps_of {X : Cx} {N : List Str} {scope : Scope} (n : Nat) (js : List Nat) (h1 : N.length = n + js.length) (h2 : js.map (fun j => X.N[j]?) = (N.drop n).map some) (h3 : ∀ x ∈ N.drop n, scope.names.lookup x = some .free) : Caps X N scope (capF n js) := by
  intro σ hσ
  refine ⟨by unfold capF; rw [List.length_append, List.length_replicate, List.length_map, h1], fun i x v e1 e2 => ?_⟩
  unfold capF at e2
  by_cases hi : i < n
  · rw [List.getElem?_append_left (by simpa using hi), List.getElem?_replicate, if_pos hi] at e2
    cases e2
  · rw [List.getElem?_append_right (by simpa using hi), List.length_replicate, List.getElem?_map] at e2
    cases hj : js[i - n]? with
    | none => rw [hj] at e2; cases e2
    | some j =>
      rw [hj] at e2
      have e3 : (σ[j]?).join = some v := Option.some.inj e2
      have e4 : σ[j]? = some (some v) := by
        cases q : σ[j]? with
        | none => rw [q] at e3; cases e3
        | some o =>
          rw [q] at e3
          have e5 : o = some v := e3
          rw [e5]
      have hd : (N.drop n)[i - n]? = some x := by
        rw [List.getElem?_drop, show n + (i - n) = i by omega]
        exact e1
      have e5 := congrArg (fun l => l[i - n]?) h2
      simp only [List.getElem?_map, hj, hd, Option.map_some] at e5
      exact ⟨h3 x (List.mem_of_getElem? hd), j, Option.some.inj e5, e4⟩
theorem compScope {X : Cx} {scope : Scope} (sc : Scope) (hsc : X.env.scope = sc) (kind : scope.kind = .function) (nocell : ∀ y ∈ scope.names, y.2 ≠ .cell) (names : ∀ y ∈ scope.names, y.2 = .local → scope.names.lookup y.1 = some .local)
    (free : ∀ y ∈ scope.names, y.2 = .free → sc.names.lookup y.1 = some .cell ∨ sc.names.lookup y.1 = some .free) : CompScope X scope := ⟨kind, nocell, names, fun y hy hf => by
  subst hsc
  exact free y hy hf⟩

section
variable {X : Cx} {N : List Str} {scope : Scope} {pins : List (Addr × Obj)} {σ : St} {H : Hp} {s : Shared} {fp : List Addr}

theorem comp_cells (S : CompScope X scope) (I : Inv X pins σ H s) : ∀ y ∈ scope.names, y.2 = .free → ∃ c, X.env.cells.lookup y.1 = some c := fun y hy hf => I.ok.has y.1 (S.free y hy hf)

theorem comp_inv {cap : St → St} {D C : Addr} {h₁ : Heap} {t' : Nat} {m : Str → Option Value} (S : CompScope X scope) (I : Inv X pins σ H s) (hcap : Caps X N scope cap) (hf : ∀ b ∈ fp, FpOk X pins H b) (hfo : ∀ b ∈ fp, ∃ o, s.heap.get? b = some o)
    (hD : s.heap.objs.size ≤ D) (hC : s.heap.objs.size ≤ C) (hDC : D ≠ C) (old : ∀ b o, s.heap.get? b = some o → h₁.get? b = some o) (hns : h₁.Ns C m) (hl : h₁.get? D = some { cls := .type "list", data := .seq ([] : List Value).toArray }) :
    Inv (compCx X N scope C s H pins fp) [] (cap σ) (upd H D (.lst [])) { s with heap := h₁, toks := t' } := by
  have cellsOk := comp_cells S I
  have look : ∀ x c, (takenCells X.env.cells scope.names []).lookup x = some c → X.env.cells.lookup x = some c := fun x c e => taken_look cellsOk (fun y d q => by simp at q) e
  have lt : ∀ {b : Addr} {o : Obj}, s.heap.get? b = some o → b < s.heap.objs.size := fun e => Heap.lt_size e
  have cellLt : ∀ x c, X.env.cells.lookup x = some c → c < s.heap.objs.size := fun x c e => by
    obtain ⟨v, o, ho, _⟩ := I.cell x c e
    exact lt ho
  have nD : H D = none := I.hok.fresh hD
  have nC : H C = none := I.hok.fresh hC
  have stkNe : ∀ b : Addr, b ≠ X.env.locals → b ∉ X.fs → b ∉ frs X.stack := fun b h1 h2 z => by
    rcases List.mem_cons.mp (I.stkSub b z) with e | e
    · exact h1 e
    · exact h2 e
  refine ⟨⟨I.ok.mod, S.kind, I.ok.glob, I.ok.blt, hC, fun x y c h1 h2 => I.ok.inj x y c (look x c h1) (look y c h2), fun x hx => ?_, fun x c hfn _ => (nomatch hfn), I.ok.hd, I.ok.frames, .inl rfl, fun b hb => ⟨?_, fun x c e => (hf b hb).2.2.2.2.1 x c (look x c e)⟩,
      I.bs, Nat.le_trans I.ok.bsz I.sz, fun b o e hb => ?_, fun b hb => stkNe b (hf b hb).2.1 (hf b hb).2.2.1, I.stack, I.stkFree⟩,
    rfl, I.bare, Un.laid old hD nD, ⟨m, hns, fun i x v h1 h2 h3 => ?_⟩, fun x c e => ?_, ?_, fun x c e => ?_, fun p hp => ?_, ?_, (hcap σ I.len).1⟩
  · -- has
    have hx' : ∃ k, (relabel scope X.env).names.lookup x = some k ∧ (k = .cell ∨ k = .free) := by
      rcases hx with e | e
      · exact ⟨_, e, .inl rfl⟩
      · exact ⟨_, e, .inr rfl⟩
    obtain ⟨k, e, hk⟩ := hx'
    obtain ⟨k', e1, e2⟩ := lookup_relabel e
    have hm := mem_of_look e1
    have hfree : k' = .free := by
      rcases e2 with e2 | e2
      · subst e2
        rcases hk with hk | hk
        · subst hk
          exact absurd rfl (S.nocell _ hm)
        · exact hk
      · exact e2.1
    subst hfree
    exact taken_has hm
  · obtain ⟨o, ho⟩ := hfo b hb
    exact Nat.ne_of_lt (Nat.lt_of_lt_of_le (lt ho) hC)
  · rcases (hf b hb).2.2.2.1 with z | z
    · exact I.ok.noex b o e z
    · exact absurd (Nat.lt_of_lt_of_le (Heap.lt_size e) (Nat.le_trans I.ok.bsz z)) (Nat.lt_irrefl _)
  · -- names
    obtain ⟨hfr, j, hj, hv⟩ := (hcap σ I.len).2 i x v h1 h2
    have hm := mem_of_look hfr
    have hk := S.free _ hm rfl
    obtain ⟨m0, _, hl0⟩ := I.loc
    have vis : Vis X.env.scope x := by
      rcases hk with k | k
      · exact .inr (.inl k)
      · exact .inr (.inr k)
    obtain ⟨u, r, l⟩ := hl0 j x v hj hv vis
    refine ⟨u, r, .inr ⟨?_, ?_⟩⟩
    · have hvis : ∃ k, (relabel scope X.env).names.lookup x = some k := by
        rcases h3 with e | e | e <;> exact ⟨_, e⟩
      obtain ⟨k, e⟩ := hvis
      obtain ⟨k', e1, e2⟩ := lookup_relabel e
      rw [hfr] at e1
      cases e1
      rcases e2 with e2 | e2
      · subst e2; exact .inr e
      · rw [e2.2.1] at e; exact .inl e
    · rcases l with ⟨k, _⟩ | ⟨_, c, hc, hcell⟩
      · exfalso
        rcases hk with q | q
        · have q' : X.env.kindOf x = some .cell := q
          rw [k] at q'; cases q'
        · have q' : X.env.kindOf x = some .free := q
          rw [k] at q'; cases q'
      · obtain ⟨c', e'⟩ := taken_has (cells := X.env.cells) (cs := []) hm
        have e2 := look x c' e'
        have e2' : X.env.cells.lookup x = some c' := e2
        rw [hc] at e2'
        cases e2'
        obtain ⟨o, ho, hd⟩ := hcell
        exact ⟨c, e', o, old _ _ ho, hd⟩
  · obtain ⟨v, o, ho, hd⟩ := I.cell x c (look x c e)
    exact ⟨v, o, old _ _ ho, hd⟩
  · show upd H D (.lst []) C = none
    rw [upd_ne (Ne.symm hDC)]
    exact nC
  · have hc := look x c e
    rw [upd_ne (Nat.ne_of_lt (Nat.lt_of_lt_of_le (cellLt x c hc) hD))]
    exact I.freeC x c hc
  · have hp' : p ∈ X.pn ++ pins := by
      rcases List.mem_append.mp hp with z | z
      · exact z
      · cases z
    obtain ⟨e, n, ne, nf, d⟩ := I.pin p hp'
    refine ⟨old _ _ e, ?_, Nat.ne_of_lt (Nat.lt_of_lt_of_le (lt e) hC), stkNe p.1 ne nf, d⟩
    rw [upd_ne (Nat.ne_of_lt (Nat.lt_of_lt_of_le (lt e) hD))]
    exact n
  · refine I.hok.laid old hD ?_
    exact ⟨Nat.zero_le _, [], 0, .nil, hl⟩

/-- behind the block: the frame around it again -/
theorem comp_back {σ' : St} {H' : Hp} {s' : Shared} {C : Addr} {σc : St} {Nc : List Str} (I : Inv X pins σ H s) (hf : ∀ b ∈ fp, FpOk X pins H b) (J : Inv (compCx X Nc scope C s H pins fp) [] σc H' s') : Inv X pins σ H' s' := by
  refine I.call' (ch := fp) J.os J.base J.hok J.bare fun b hb => ?_
  obtain ⟨_, h2, _, h4, h5, h6⟩ := hf b hb
  exact ⟨h4, h2, h5, h6⟩
theorem comp_off {σ' : St} {H' : Hp} {s' : Shared} {C : Addr} {h' : Heap} (I : Inv X pins σ H s) (hC : s.heap.objs.size ≤ C) (J : Inv X pins σ' H' s') (hn : H' C = none) (sb : Heap.SameBut C s'.heap h') : Inv X pins σ' H' { s' with heap := h' } := by
  refine J.turned (t' := s'.toks) (it := C) (fun b o hb e => (sb.2 b hb).trans e) hn (Nat.ne_of_gt (Nat.lt_of_lt_of_le I.lt hC)) (.inr (Nat.le_trans I.sz hC)) (fun x c e z => ?_) fun p hp z => ?_
  · obtain ⟨v, q⟩ := I.cell x c e
    exact absurd (Nat.lt_of_lt_of_le q.lt (by rw [z]; exact hC)) (Nat.lt_irrefl _)
  · exact absurd (Nat.lt_of_lt_of_le (Heap.lt_size (I.pin p hp).1) (by rw [z]; exact hC)) (Nat.lt_irrefl _)

/-- the block runs -/
theorem comp_run {tg iter elt : Expr} {ifs : List Expr} {pos : Pos} {cap : St → St} {g : TG} {tc : TT} {te : TE} {J : It} {it : Addr} {tn : Nat → Heap → Prop} {Q : Addr → Hp → Prop} {RR : Value → Addr → Result → Shared → Prop}
    (hcalm : X.calm = true) (S : CompScope X scope) (hcap : Caps X N scope cap) (I : Inv X pins σ H s) (T : Turn X.prog X.w X.K tg J fp it tn) (st : tn 0 s.heap) (hf : ∀ b ∈ fp, FpOk X pins H b)
    (hg : ∀ C, PG (compCx X N scope C s H pins fp) tg g) (hc : ∀ C, PTs (compCx X N scope C s H pins fp) ifs tc) (he : ∀ C, PE (compCx X N scope C s H pins fp) elt te)
    (hq : ∀ D, H D = none → cTurns D J g tc te (cap σ) H (Q D))
    (hRR : ∀ D C σc H' s', s.heap.objs.size ≤ C → Inv (compCx X N scope C s H pins fp) [] σc H' s' → Q D H' → RR (.ref D) C (.ok .next) s') :
    wpAny (model X.prog X.w) X.A (newList []) (fun acc s₃ => wpAny (model X.prog X.w) X.A (newFunctionEnv scope X.env.globals (takenCells X.env.cells scope.names []) [] X.env.qual none .none (some X.env)) (fun cenv s₄ =>
      codeAny (model X.prog X.w) X.A (.compStart (.ListComp elt [⟨tg, iter, ifs, 0⟩] scope pos) 0 (.ref it) acc { cenv with scope := relabel scope X.env }) (RR acc cenv.locals) s₄) X.xe s₃) X.xe s := by
  refine wpAny_newObj_type (wpAny_newFunctionEnv S.nocell (by intro y hy; simp at hy) (fun h₁ hns₁ hsb₁ => ?_) S.kind)
  dsimp only at hns₁ hsb₁ ⊢
  generalize hH2 : s.heap.push { cls := .type "list", dict := none, data := .seq ([] : List Value).toArray } = H2 at hns₁ hsb₁ ⊢
  have hC : H2.objs.size = s.heap.objs.size + 1 := by rw [← hH2, Heap.size_push]
  have hDC : s.heap.objs.size ≠ H2.objs.size := by rw [hC]; exact Nat.ne_of_lt (Nat.lt_succ_self _)
  have hCle : s.heap.objs.size ≤ H2.objs.size := by rw [hC]; exact Nat.le_succ _
  have below : ∀ b, b < s.heap.objs.size → b ≠ H2.objs.size := fun b hb => by rw [hC]; exact Nat.ne_of_lt (Nat.lt_succ_of_lt hb)
  have old : ∀ b o, s.heap.get? b = some o → h₁.get? b = some o := fun b o e => hsb₁.extBut b o (below b (Heap.lt_size e)) (Heap.get?_push_of_some _ (hH2 ▸ Heap.get?_push_of_some _ e))
  have hacc : h₁.get? s.heap.objs.size = some { cls := .type "list", data := .seq ([] : List Value).toArray } := hsb₁.extBut _ _ hDC (Heap.get?_push_of_some _ (hH2 ▸ Heap.get?_push_size _ rfl))
  have obj0 := T.obj 0 s.heap st
  have I1 : ∀ t', Inv (compCx X N scope H2.objs.size s H pins fp) [] (cap σ) (upd H s.heap.objs.size (.lst [])) { s with heap := h₁, toks := t' } := fun t' =>
    comp_inv S I hcap hf (fun b hb => let ⟨o, e, _⟩ := obj0 b hb; ⟨o, e⟩) (Nat.le_refl _) hCle hDC old hns₁ hacc
  have st1 : tn 0 h₁ := T.keep 0 s.heap h₁ st fun b _ o e => old b o e
  -- what stays true of the iterator's objects
  have stat : ∀ {H' : Hp}, (∀ b ∈ fp, H' b = none) → ∀ b ∈ fp, FpOk (compCx X N scope H2.objs.size s H pins fp) [] H' b := fun hn b hb => by
    obtain ⟨_, h2, h3, h4, h5, h6⟩ := hf b hb
    obtain ⟨o, ho, _⟩ := obj0 b hb
    refine ⟨hn b hb, below b (Heap.lt_size ho), ?_, .inl hb, fun x c e => h5 x c (taken_look (comp_cells S I) (fun y d q => by simp at q) e), fun p hp => ?_⟩
    · intro z
      rcases List.mem_cons.mp (I.stkSub b z) with e | e
      · exact h2 e
      · exact h3 e
    · rcases List.mem_append.mp hp with z | z
      · exact h6 p z
      · cases z
  have fr1 : ∀ b ∈ fp, upd H s.heap.objs.size (.lst []) b = none := fun b hb => by
    obtain ⟨o, ho, _⟩ := obj0 b hb
    rw [upd_ne (Nat.ne_of_lt (Heap.lt_size ho))]
    exact (hf b hb).1
  obtain ⟨W, ⟨m0, w0⟩, turn⟩ := hq s.heap.objs.size (I.hok.fresh (Nat.le_refl _))
  have loop : ∀ s₃ : Shared, s₃ = { s with heap := h₁, toks := s.toks + ([] : List (Str × Value)).length } →
      codeAny (model X.prog X.w) X.A (.compLoop (.ListComp elt [⟨tg, iter, ifs, 0⟩] scope pos) 0 (.ref it) (.ref s.heap.objs.size) (compEnvC scope (takenCells X.env.cells scope.names []) H2.objs.size X.env))
        (RR (.ref s.heap.objs.size) H2.objs.size) s₃ := by
    rintro s₃ rfl
    refine comp_loop (fun n s' => ∃ i σ' H', Inv (compCx X N scope H2.objs.size s H pins fp) [] σ' H' s' ∧ tn i s'.heap ∧ (∀ b ∈ fp, H' b = none) ∧ W i n σ' H') ?_ m0 ⟨0, cap σ, _, I1 _, st1, fr1, w0⟩
    rintro n s3 ⟨i, σ3, H3, I3, st3, fr3, w3⟩
    rcases turn i n σ3 H3 w3 with ⟨stop, qn⟩ | ⟨go, Nn, hN, step⟩
    · refine thn (T.done (compCx X N scope H2.objs.size s H pins fp) rfl rfl rfl hcalm i [] s3 σ3 H3 (fun _ _ => False) I3 (stat fr3) st3 stop) fun r s4 ⟨hr, I4⟩ => ?_
      subst hr
      exact hRR _ _ σ3 H3 s4 hCle I4 qn
    · refine thn (T.item (compCx X N scope H2.objs.size s H pins fp) rfl rfl rfl hcalm i [] s3 σ3 H3 (fun _ _ => False) I3 (stat fr3) st3 go) fun r s4 ⟨u, hr, h4⟩ => ?_
      subst hr
      refine thn h4 fun _ s5 ⟨x, H5, I5, r5, y5, st5, fr5⟩ => ?_
      have I5' := I5.pinned (stat fr5) (T.obj _ _ st5)
      have again : ∀ {σ7 : St} {H7 : Hp} {s7 : Shared}, Inv (compCx X N scope H2.objs.size s H pins fp) ([] ++ pinsAt fp s5.heap) σ7 H7 s7 → Nn σ7 H7 →
          ∃ m, m < n ∧ ∃ i σ' H', Inv (compCx X N scope H2.objs.size s H pins fp) [] σ' H' s7 ∧ tn i s7.heap ∧ (∀ b ∈ fp, H' b = none) ∧ W i m σ' H' := fun {σ7 H7 s7} I7 n7 => by
        obtain ⟨m', hm, w7⟩ := hN σ7 H7 n7
        refine ⟨m', hm, i + 1, σ7, H7, I7.unpinned, T.keep _ _ _ st5 fun b hb o e => (I7.pin (b, o) (List.mem_append_right _ (List.mem_append_right _ (mem_pinsAt hb e)))).1, fun b hb => ?_, w7⟩
        obtain ⟨o, e, d⟩ := T.obj _ _ st5 b hb
        exact (I7.pin (b, o) (List.mem_append_right _ (List.mem_append_right _ (mem_pinsAt hb e)))).2.1
      refine thn (hg _ _ s5 σ3 H5 x u _ I5' r5 (step x H5 y5)) fun _ s6 ⟨σ6, H6, I6, q6⟩ => ?_
      refine thn (hc _ _ s6 σ6 H6 _ I6 q6) fun ok s7 ⟨H7, I7, q7⟩ => ?_
      cases ok with
      | false => exact again I7 q7
      | true =>
        refine thn (he _ _ s7 σ6 H7 _ I7 q7) fun v s8 ⟨y, H8, I8, r8, xs, hD8, hz8, n8⟩ => ?_
        refine thn (mt_append _ s8 σ6 H8 (.ref s.heap.objs.size) [y] (.ref s.heap.objs.size) [v] (fun _ H9 => Nn σ6 H9) I8 rfl (.cons r8 .nil) ⟨_, _, _, rfl, rfl, hD8, hz8, n8⟩) fun _ s9 ⟨_, H9, I9, _, n9⟩ => ?_
        exact again I9 n9
  exact codeAny_compStart_list (loop _ rfl) (wpAny_mono (T.self X.A 0 _ (fun v s' => v = .ref it ∧ s' = _) (fun _ _ => False) st1 ⟨rfl, rfl⟩) (fun v s' ⟨e1, e2⟩ => by subst e1; subst e2; exact loop _ rfl) fun _ _ z => z.elim)

/-- [elt for tg in iter if ..] -/
theorem pe_comp {tg iter elt : Expr} {ifs : List Expr} {pos : Pos} {wi : TI} {g : TG} {tc : TT} {te : TE} (N : List Str) (cap : St → St) (hcalm : X.calm = true) (S : CompScope X scope) (hcap : Caps X N scope cap) (hi : PI X tg iter wi)
    (hg : ∀ C s H pins fp, PG (compCx X N scope C s H pins fp) tg g) (hc : ∀ C s H pins fp, PTs (compCx X N scope C s H pins fp) ifs tc) (he : ∀ C s H pins fp, PE (compCx X N scope C s H pins fp) elt te)
    (hs : ∀ x, foldedSetIterable iter X.env x = pure x := by intro _; rfl) : PE X (.ListComp elt [⟨tg, iter, ifs, 0⟩] scope pos) (tComp wi cap g tc te) := by
  intro pins s σ H Q I h
  rw [eval_ListComp]
  refine wpAny_comprehension_free (use := none) rfl hs (closure_taken (comp_cells S I)) S.kind S.names (thn (hi pins s σ H _ I h) fun v s1 h1 => thn h1 fun itv s2 h2 => ?_)
  obtain ⟨it, fp, tn, J, H2, e, I2, T, st2, f2, q2⟩ := h2
  subst e
  refine comp_run (RR := fun acc C => compPost (model X.prog X.w) X.A X.xe none (EP X pins σ Q) acc C) (Q := fun D H' => Q (.ref D) H') hcalm S hcap I2 T st2 f2 (fun C => hg C _ _ _ _) (fun C => hc C _ _ _ _) (fun C => he C _ _ _ _) q2 ?_
  intro D C σc H' s' hC Jc q
  obtain ⟨m, hn, _⟩ := Jc.loc
  refine ⟨m, hn, fun h' hs' => ?_⟩
  exact ⟨.ref D, H', comp_off I2 hC (comp_back (σ' := σ) I2 f2 Jc) Jc.free hs', rfl, q⟩
/-- x = [elt for tg in iter if ..] -/
theorem ps_setComp {tg iter elt : Expr} {ifs : List Expr} {pos spos py : Pos} {i : Nat} {y : Str} {wi : TI} {g : TG} {tc : TT} {te : TE} (N : List Str) (cap : St → St) (hN : X.N.Nodup) (hy : X.N[i]? = some y) (hloc : Loc X.env.scope y) (hcalm : X.calm = true) (S : CompScope X scope) (hcap : Caps X N scope cap) (hi : PI X tg iter wi)
    (hg : ∀ C s H pins fp, PG (compCx X N scope C s H pins fp) tg g) (hc : ∀ C s H pins fp, PTs (compCx X N scope C s H pins fp) ifs tc) (he : ∀ C s H pins fp, PE (compCx X N scope C s H pins fp) elt te)
    (hsw : swapsWith (.ListComp elt [⟨tg, iter, ifs, 0⟩] scope pos) (some (.Name y py)) spos.line X.env = pure true := by rfl)
    (hs : ∀ x, foldedSetIterable iter X.env x = pure x := by intro _; rfl) (hfn : X.fn y = true ∨ X.env.scope.names.lookup y = some .local := by first | exact .inl rfl | exact .inr rfl | assumption) :
    PS X (.Assign [.Name y py] (.ListComp elt [⟨tg, iter, ifs, 0⟩] scope pos) spos) (tSetComp i wi cap g tc te) := by
  intro pins s σ H D I h
  rw [exec_Assign_Name_used _ _ _ _ hsw]
  refine wpAny_bind (wpAny_standAt (wpAny_bind ?_))
  show wpAny _ X.A (do let _ ← comprehension (.ListComp elt [⟨tg, iter, ifs, 0⟩] scope pos) scope X.env _ (newList []) false (eval iter X.env) (some (assign (.Name y py) X.env))) _ _ s
  refine wpAny_bind (wpAny_mono (wpAny_comprehension_free (use := some (assign (.Name y py) X.env)) (Q := fun _ s' => SP X pins D .next s') rfl hs (closure_taken (comp_cells S I)) S.kind S.names
    (thn (hi pins s σ H _ I h) fun v s1 h1 => thn h1 fun itv s2 h2 => ?_)) (fun _ s' hq => wpAny_pure (wpAny_pure hq)) fun _ _ e => e)
  obtain ⟨it, fp, tn, J, H2, e, I2, T, st2, f2, q2⟩ := h2
  subst e
  refine comp_run (RR := fun acc C => compPost (model X.prog X.w) X.A X.xe (some (assign (.Name y py) X.env)) (fun _ s' => SP X pins D .next s') acc C) (Q := fun d H' => D.nx (σ.set i (some (.ref d))) H') hcalm S hcap I2 T st2 f2 (fun C => hg C _ _ _ _) (fun C => hc C _ _ _ _) (fun C => he C _ _ _ _) q2 ?_
  intro d C σc H' s' hC Jc q
  obtain ⟨m, hn, _⟩ := Jc.loc
  have J1 : Inv X pins σ H' s' := comp_back (σ' := σ) I2 f2 Jc
  show wpAny _ X.A (assign (.Name y py) X.env (.ref d)) _ _ _
  refine wpAny_assign_Name (store_ok2 (v := .ref d) J1 hN hy hloc rfl (fun s'' J2 hsb => ?_) hfn)
  obtain ⟨a, sb, ha⟩ := hsb
  have haC : C ≠ a := by
    rcases ha with e | e
    · rw [e]; exact Nat.ne_of_gt (Nat.lt_of_lt_of_le I2.lt hC)
    · obtain ⟨v, q'⟩ := I2.cell y a e
      exact Nat.ne_of_gt (Nat.lt_of_lt_of_le q'.lt hC)
  refine ⟨m, hn.sameBut sb haC, fun h' hs' => ?_⟩
  exact ⟨_, H', comp_off I2 hC J2 Jc.free hs', q⟩
end
end L2
namespace L2
open PySem PySem.Spec PyProof.Rows
theorem rd_yes {σ : St} {H : Hp} {Q : Bool → Hp → Prop} (h : Q true H) : tYes σ H Q := h
/-! ### the forms of a comprehension's turns -/
theorem turns_list {K : PySem.W.Frag} {a D : Addr} {xs : List V} {g : TG} {tc : TT} {te : TE} {σ₀ : St} {H : Hp} {Q : Hp → Prop} (Pv : Nat → St → Hp → Prop) (h0 : Pv 0 σ₀ (upd H D (.lst []))) (hl : ∀ i σ H, i ≤ xs.length → Pv i σ H → SqL K H a xs)
    (hs : ∀ i x σ H, xs[i]? = some x → Pv i σ H → g x σ H fun σ2 H3 => tc σ2 H3 fun b H4 => if b = true then te σ2 H4 fun v H5 => ∃ ys, H5 D = some (.lst ys) ∧ ys.length < sizeLine ∧ Pv (i + 1) σ2 (upd H5 D (.lst (ys ++ [v]))) else Pv (i + 1) σ2 H4)
    (hd : ∀ σ H, Pv xs.length σ H → Q H) : cTurns D (Itl K a) g tc te σ₀ H Q := by
  refine ⟨fun i m σ H => m = xs.length - i ∧ i ≤ xs.length ∧ Pv i σ H, ⟨xs.length, by simp, Nat.zero_le _, h0⟩, ?_⟩
  rintro i m σ H ⟨rfl, hi, p⟩
  have q := hl i σ H hi p
  by_cases hlt : i < xs.length
  · refine .inr ⟨⟨xs, xs[i], q, by simp [hlt]⟩, Pv (i + 1), fun σ' H' p' => ⟨xs.length - (i + 1), by omega, rfl, hlt, p'⟩, fun x H' y => ?_⟩
    obtain ⟨e, y⟩ := y
    subst e
    exact hs i x σ _ (y xs q) p
  · have e : i = xs.length := by omega
    subst e
    exact .inl ⟨⟨xs, q, Nat.le_refl _⟩, hd σ H p⟩
theorem turns_range {lo : Int} {n : Nat} {D : Addr} {g : TG} {tc : TT} {te : TE} {σ₀ : St} {H : Hp} {Q : Hp → Prop} (Pv : Nat → St → Hp → Prop) (h0 : Pv 0 σ₀ (upd H D (.lst [])))
    (hs : ∀ i σ H, i < n → Pv i σ H → g (.int (lo + i)) σ H fun σ2 H3 => tc σ2 H3 fun b H4 => if b = true then te σ2 H4 fun v H5 => ∃ ys, H5 D = some (.lst ys) ∧ ys.length < sizeLine ∧ Pv (i + 1) σ2 (upd H5 D (.lst (ys ++ [v]))) else Pv (i + 1) σ2 H4)
    (hd : ∀ σ H, Pv n σ H → Q H) : cTurns D (Itr lo n) g tc te σ₀ H Q := by
  refine ⟨fun i m σ H => m = n - i ∧ i ≤ n ∧ Pv i σ H, ⟨n, by simp, Nat.zero_le _, h0⟩, ?_⟩
  rintro i m σ H ⟨rfl, hi, p⟩
  by_cases hlt : i < n
  · refine .inr ⟨hlt, Pv (i + 1), fun σ' H' p' => ⟨n - (i + 1), by omega, rfl, hlt, p'⟩, fun x H' y => ?_⟩
    obtain ⟨e, y⟩ := y
    subst e y
    exact hs i σ _ hlt p
  · have e : i = n := by omega
    subst e
    exact .inl ⟨Nat.le_refl _, hd σ H p⟩
theorem same_upd {H H' : Hp} {D : Addr} {o : HO} (hD : H D = none) (s : Same H H') : Same H (upd H' D o) := fun b u q => by
  rw [upd_ne (ne_of_none q hD)]
  exact s b u q
/-- between two turns of a comprehension whose first name is the target and whose turns change nothing that was there: R i ys H of the first i items' results ys -/
def CompAt (H : Hp) (D : Addr) (caps : St) (R : Nat → List V → Hp → Prop) (i : Nat) (σ : St) (Hi : Hp) : Prop := ∃ ys c, σ = c :: caps ∧ Same H Hi ∧ Hi D = some (.lst ys) ∧ ys.length ≤ i ∧ R i ys Hi
theorem comp_put {H Hi H5 : Hp} {D : Addr} {caps : St} {R : Nat → List V → Hp → Prop} {i : Nat} {ys : List V} {c : Option V} {v : V} (hD : H D = none) (s : Same H Hi) (hY : Hi D = some (.lst ys)) (hl : ys.length ≤ i) (hi : i ≤ 999) (s5 : Same Hi H5)
    (r : R (i + 1) (ys ++ [v]) (upd H5 D (.lst (ys ++ [v])))) : ∃ zs, H5 D = some (.lst zs) ∧ zs.length < sizeLine ∧ CompAt H D caps R (i + 1) (c :: caps) (upd H5 D (.lst (zs ++ [v]))) := by
  refine ⟨ys, s5 _ _ hY, small1000 (by omega), ys ++ [v], c, rfl, same_upd hD (s.trans s5), upd_same, ?_, r⟩
  rw [List.length_append, List.length_singleton]; omega
theorem comp_skip {H Hi H4 : Hp} {D : Addr} {caps : St} {R : Nat → List V → Hp → Prop} {i : Nat} {ys : List V} {c : Option V} (s : Same H Hi) (hY : Hi D = some (.lst ys)) (hl : ys.length ≤ i) (s4 : Same Hi H4) (r : R (i + 1) ys H4) :
    CompAt H D caps R (i + 1) (c :: caps) H4 := ⟨ys, c, rfl, s.trans s4, s4 _ _ hY, by omega, r⟩
theorem comp_listR {K : PySem.W.Frag} {a D : Addr} {xs : List V} {tc : TT} {te : TE} {caps : St} {H : Hp} {Q : Hp → Prop} (R : Nat → List V → Hp → Prop) (hD : H D = none) (hS : SqL K H a xs) (h0 : R 0 [] (upd H D (.lst [])))
    (hs : ∀ i x ys Hi, xs[i]? = some x → i < xs.length → ys.length ≤ i → Same H Hi → Hi D = some (.lst ys) → R i ys Hi → tc (some x :: caps) Hi fun b H4 => if b = true then te (some x :: caps) H4 fun v H5 => ∃ zs, H5 D = some (.lst zs) ∧ zs.length < sizeLine ∧ CompAt H D caps R (i + 1) (some x :: caps) (upd H5 D (.lst (zs ++ [v])))
      else CompAt H D caps R (i + 1) (some x :: caps) H4)
    (hd : ∀ ys Hf, Same H Hf → Hf D = some (.lst ys) → ys.length ≤ xs.length → R xs.length ys Hf → Q Hf) : cTurns D (Itl K a) (gName 0) tc te (none :: caps) H Q := by
  refine turns_list (xs := xs) (CompAt H D caps R) ⟨[], none, rfl, same_upd hD (Same.refl H), upd_same, Nat.le_refl _, h0⟩ (fun i σ Hi _ ⟨_, _, _, s, _⟩ => s.seq hS) ?_ ?_
  · rintro i x σ Hi hx ⟨ys, c, rfl, s, hY, hl, r⟩
    exact hs i x ys Hi hx (List.getElem?_eq_some_iff.mp hx).1 hl s hY r
  · rintro σ Hf ⟨ys, c, rfl, s, hY, hl, r⟩
    exact hd ys Hf s hY hl r
theorem comp_rangeR {lo : Int} {n : Nat} {D : Addr} {tc : TT} {te : TE} {caps : St} {H : Hp} {Q : Hp → Prop} (R : Nat → List V → Hp → Prop) (hD : H D = none) (h0 : R 0 [] (upd H D (.lst [])))
    (hs : ∀ i ys Hi, i < n → ys.length ≤ i → Same H Hi → Hi D = some (.lst ys) → R i ys Hi → tc (some (.int (lo + i)) :: caps) Hi fun b H4 => if b = true then te (some (.int (lo + i)) :: caps) H4 fun v H5 => ∃ zs, H5 D = some (.lst zs) ∧ zs.length < sizeLine ∧ CompAt H D caps R (i + 1) (some (.int (lo + i)) :: caps) (upd H5 D (.lst (zs ++ [v])))
      else CompAt H D caps R (i + 1) (some (.int (lo + i)) :: caps) H4)
    (hd : ∀ ys Hf, Same H Hf → Hf D = some (.lst ys) → ys.length ≤ n → R n ys Hf → Q Hf) : cTurns D (Itr lo n) (gName 0) tc te (none :: caps) H Q := by
  refine turns_range (CompAt H D caps R) ⟨[], none, rfl, same_upd hD (Same.refl H), upd_same, Nat.le_refl _, h0⟩ ?_ ?_
  · rintro i σ Hi hi ⟨ys, c, rfl, s, hY, hl, r⟩
    exact hs i ys Hi hi hl s hY r
  · rintro σ Hf ⟨ys, c, rfl, s, hY, hl, r⟩
    exact hd ys Hf s hY hl r

/-! ### isinstance as a call -/
def clsV : V → Option Value
  | .ty n => some (.type n)
  | .ref a => some (.ref a)
  | _ => none
section
variable {X : Cx}
def rIsi (K : PySem.W.Frag) : List V → Hp → VK → Prop := fun xs H Q => ∃ (x c : V) (t u : Value) (b : Bool), xs = [x, c] ∧ clsV c = some u ∧ TyOf K H x t ∧ PySem.W.kitOne K t u = some b ∧ Q (.bl b) H
theorem call_isi : CallR X (.builtin "isinstance") (rIsi X.K) := by
  intro pins s σ H xs us Q I r h
  obtain ⟨x, c, t, u, b, rfl, hc, ty, e, q⟩ := h
  obtain ⟨u1, u2, rfl, r1, r2⟩ := vals2 r
  have e2 : u2 = u := by
    cases c with
    | ty n => cases (show u2 = Value.type n from r2); exact Option.some.inj hc
    | ref a => cases (show u2 = Value.ref a from r2); exact Option.some.inj hc
    | _ => cases hc
  subst e2
  exact isinst_ok I r1 ty e fun tk => ⟨.bl b, H, I.tok _, rfl, q⟩
end
theorem kit_same {K : PySem.W.Frag} (n : String) : PySem.W.kitOne K (.type n) (.type n) = some true := by
  unfold PySem.W.kitOne
  rw [if_pos (beq_self_eq_true _)]
theorem kit_int_bool {K : PySem.W.Frag} : PySem.W.kitOne K (.type "int") (.type "bool") = some false := by kernel_rfl

/-! ### == and != of two lists, two tuples of flat items -/
def eqs (xs ys : List V) : Bool := (List.range (min xs.length ys.length)).all (fun j => eqV (xs.getD j .non) (ys.getD j .non)) && xs.length == ys.length
theorem eqV_refl {x : V} (h : flatV x = true) : eqV x x = true := by
  cases x with
  | non => rfl
  | bl b => show (b == b) = true; simp
  | int i => show (i == i) = true; simp
  | str z => show (z == z) = true; simp
  | _ => exact absurd (show false = true from h) Bool.false_ne_true
theorem eqs_refl {xs : List V} (h : xs.all flatV = true) : eqs xs xs = true := by
  unfold eqs
  rw [Bool.and_eq_true]
  refine ⟨?_, by simp⟩
  rw [List.all_eq_true]
  intro j hj
  have hj' : j < xs.length := by simpa using hj
  refine eqV_refl ?_
  rw [List.getD_eq_getElem?_getD, List.getElem?_eq_getElem hj']
  exact List.all_eq_true.mp h _ (List.getElem_mem hj')
theorem vals_getD {xs : List V} {us : List Value} (r : Vals xs us) {j : Nat} (h : j < us.toArray.size) : RelV (xs.getD j .non) us.toArray[j] := by
  have hj : j < us.length := by simpa using h
  have hx : j < xs.length := by rw [r.length]; exact hj
  obtain ⟨u, e, q⟩ := r.get (List.getElem?_eq_getElem hx)
  rw [List.getElem?_eq_getElem hj] at e
  have e' := Option.some.inj e
  rw [List.getD_eq_getElem?_getD, List.getElem?_eq_getElem hx]
  show RelV xs[j] us.toArray[j]
  rw [List.getElem_toArray, e']
  exact q
theorem flat_getD {xs : List V} (h : xs.all flatV = true) {j : Nat} (hj : j < xs.length) : flatV (xs.getD j .non) = true := by
  rw [List.getD_eq_getElem?_getD, List.getElem?_eq_getElem hj]
  exact List.all_eq_true.mp h _ (List.getElem_mem hj)
section
variable {X : Cx}
def rEqT (K : PySem.W.Frag) (neg : Bool) : R2 := fun x y H Q => ∃ a b xs ys, x = .ref a ∧ y = .ref b ∧ SqT K H a xs ∧ SqT K H b ys ∧ xs.all flatV = true ∧ ys.all flatV = true ∧ Q (.bl (if neg then !eqs xs ys else eqs xs ys)) H
theorem op_neT (hu : X.A.units < cLine) : OpR X (compareOp .NotEq) (rEqT X.K true) := by
  intro pins s σ H x y v u Q I rx ry h
  obtain ⟨a, b, xs, ys, rfl, rfl, ha, hb, fx, fy, q⟩ := h
  cases rx
  cases ry
  obtain ⟨its, r, pl, hz⟩ := I.tuple ha
  obtain ⟨its2, r2, pl2, hz2⟩ := I.tuple hb
  have hl := r.length
  have hl2 := r2.length
  refine SeqAt.RcNeAt.tuples (e := fun j => eqV (xs.getD j .non) (ys.getD j .non)) pl pl2 hu (fun j h1 h2 => ?_) X.prog X.w X.xe _ ⟨.bl _, H, I, rfl, ?_⟩
  · exact eqAt_V (vals_getD r h1) (vals_getD r2 h2) (flat_getD fx (by rw [hl]; simpa using h1)) (flat_getD fy (by rw [hl2]; simpa using h2))
  · have e : (!((List.range (min its.toArray.size its2.toArray.size)).all (fun j => eqV (xs.getD j .non) (ys.getD j .non)) && its.toArray.size == its2.toArray.size)) = !eqs xs ys := by
      unfold eqs
      rw [List.size_toArray, List.size_toArray, ← hl, ← hl2]
    rw [e]
    exact q
end
end L2
namespace L2
open PySem PySem.Spec PyProof.Rows
/-! ### != of two lists that hold the same -/
def flatR : V → Bool
  | .ref _ => true
  | x => flatV x
theorem eqAt_same {A : Around} {s : Shared} {x : V} {u v : Value} (ru : RelV x u) (rv : RelV x v) (f : flatR x = true) : SeqAt.EqAt A s u v true := by
  cases x with
  | ref a =>
    cases ru
    cases rv
    exact SeqAt.EqAt.same _
  | non => have := eqAt_V (A := A) (s := s) ru rv rfl rfl; rwa [eqV_refl (x := .non) rfl] at this
  | bl b => have := eqAt_V (A := A) (s := s) ru rv rfl rfl; rwa [eqV_refl (x := .bl b) rfl] at this
  | int i => have := eqAt_V (A := A) (s := s) ru rv rfl rfl; rwa [eqV_refl (x := .int i) rfl] at this
  | str z => have := eqAt_V (A := A) (s := s) ru rv rfl rfl; rwa [eqV_refl (x := .str z) rfl] at this
  | _ => exact absurd (show false = true from f) Bool.false_ne_true
section
variable {X : Cx}
def rNeLS (K : PySem.W.Frag) : R2 := fun x y H Q => ∃ a b xs, x = .ref a ∧ y = .ref b ∧ SqL K H a xs ∧ SqL K H b xs ∧ xs.all flatR = true ∧ Q (.bl false) H
theorem op_neL (hu : X.A.units < cLine) : OpR X (compareOp .NotEq) (rNeLS X.K) := by
  intro pins s σ H x y v u Q I rx ry h
  obtain ⟨a, b, xs, rfl, rfl, ha, hb, fx, q⟩ := h
  cases rx
  cases ry
  obtain ⟨its, r, pl, hz⟩ := I.list ha
  obtain ⟨its2, r2, pl2, hz2⟩ := I.list hb
  have hl := r.length
  have hl2 := r2.length
  refine SeqAt.RcNeAt.lists (e := fun _ => true) pl.isList pl2.isList (by rw [List.size_toArray, List.size_toArray, ← hl, hl2]) hu (fun j h1 h2 => ?_) X.prog X.w X.xe _ ⟨.bl _, H, I, rfl, ?_⟩
  · refine eqAt_same (vals_getD r h1) (vals_getD r2 h2) ?_
    have hj : j < xs.length := by rw [hl]; simpa using h1
    rw [List.getD_eq_getElem?_getD, List.getElem?_eq_getElem hj]
    exact List.all_eq_true.mp fx _ (List.getElem_mem hj)
  · have e : (!(List.range its.toArray.size).all fun _ => true) = false := by simp
    rw [e]
    exact q
end
end L2
namespace L2
open PySem PySem.Spec PyProof.Rows
/-! ### rules whose reading names the written part by a letter (for a comprehension's block) -/
section
variable {X : Cx} (K : PySem.W.Frag)
theorem ix_listK (h : X.K = K := by rfl) : IxR X (rIxL K) := by subst h; exact ix_list
theorem ix_tupK (h : X.K = K := by rfl) : IxR X (rIxT K) := by subst h; exact ix_tup
theorem ix_seqK (h : X.K = K := by rfl) : IxR X (rIx K) := by subst h; exact ix_seq
theorem sl_listK (h : X.K = K := by rfl) : SlR X (rSlL K) := by subst h; exact sl_list
theorem call_len_seqK (h : X.K = K := by rfl) : CallR X (.builtin "len") (fun xs H Q => ∃ p ys, xs = [.ref p] ∧ (SqL K H p ys ∨ SqT K H p ys) ∧ Q (.int ys.length) H) := by subst h; exact call_len_seq
theorem call_isiK (h : X.K = K := by rfl) : CallR X (.builtin "isinstance") (rIsi K) := by subst h; exact call_isi
theorem pg_tupK {es : List Expr} {k : Nat} {t : TGs} {n : Nat} {pos : Pos} (hc : X.calm = true) (h : PGs X es t) (hK : X.K = K := by rfl)
    (hn : (assignEach es X.env).length = n := by rfl) (hst : (assignEach es X.env).findIdx? (·.1) = none := by rfl) : PG X (.Tuple es k pos) (gTup K n t) := by subst hK; exact pg_tup hc h hn hst
end
end L2
namespace L2
open PySem PySem.Spec PyProof.Rows
section
variable {X : Cx}
theorem op_eqL (hu : X.A.units < cLine) : OpR X (compareOp .Eq) (fun x y H Q => ∃ a b xs, x = .ref a ∧ y = .ref b ∧ SqL X.K H a xs ∧ SqL X.K H b xs ∧ xs.all flatR = true ∧ Q (.bl true) H) := by
  intro pins s σ H x y v u Q I rx ry h
  obtain ⟨a, b, xs, rfl, rfl, ha, hb, fx, q⟩ := h
  cases rx
  cases ry
  obtain ⟨its, r, pl, hz⟩ := I.list ha
  obtain ⟨its2, r2, pl2, hz2⟩ := I.list hb
  have hl := r.length
  have hl2 := r2.length
  refine SeqAt.eq_listAt (e := fun _ => true) pl.isList pl2.isList (by rw [List.size_toArray, List.size_toArray, ← hl, hl2]) hu (fun j h1 h2 => ?_) ⟨.bl _, H, I, rfl, ?_⟩
  · refine eqAt_same (vals_getD r h1) (vals_getD r2 h2) ?_
    have hj : j < xs.length := by rw [hl]; simpa using h1
    rw [List.getD_eq_getElem?_getD, List.getElem?_eq_getElem hj]
    exact List.all_eq_true.mp fx _ (List.getElem_mem hj)
  · have e : ((List.range its.toArray.size).all fun _ => true) = true := by simp
    rw [e]
    exact q
end
end L2
namespace L2
open PySem PySem.Spec PyProof.Rows
/-! ### a cut between two statements; is, is not of bools -/
section
variable {X : Cx}
def tCut (t u : TS) : TS := fun D σ H => ∃ P : St → Hp → Prop, t { D with nx := P } σ H ∧ ∀ σ' H', P σ' H' → u D σ' H'
theorem pss_cut {st : Stmt} {rest : List Stmt} {t u : TS} (h1 : PS X st t) (h2 : PSs X rest u) : PSs X (st :: rest) (tCut t u) := by
  intro pins s σ H D I h
  obtain ⟨P, hP, hu⟩ := h
  refine wpAny_execs_cons (thn (h1 pins s σ H { D with nx := P } I hP) fun f s1 q => ?_)
  cases f with
  | next =>
    obtain ⟨σ', H', I', q⟩ := q
    exact h2 pins s1 σ' H' D I' (hu σ' H' q)
  | ret v => exact q
  | brk => exact q
  | cont => exact q
theorem op_isB : OpR X (compareOp .Is) (fun x y H Q => ∃ c d, x = .bl c ∧ y = .bl d ∧ Q (.bl (c == d)) H) := by
  intro pins s σ H x y v u Q I rx ry h
  obtain ⟨c, d, rfl, rfl, q⟩ := h
  cases rx
  cases ry
  exact is_bool ⟨.bl _, H, I, rfl, q⟩
theorem op_isnotB : OpR X (compareOp .IsNot) (fun x y H Q => ∃ c d, x = .bl c ∧ y = .bl d ∧ Q (.bl (c != d)) H) := by
  intro pins s σ H x y v u Q I rx ry h
  obtain ⟨c, d, rfl, rfl, q⟩ := h
  cases rx
  cases ry
  exact isnot_bool ⟨.bl _, H, I, rfl, q⟩
end
end L2
namespace L2
open PySem PySem.Spec PyProof.Rows
/-! ### defs by their names; defaults -/
structure Def (P : Program) (w : World) (K : PySem.W.Frag) (mg : Str → Option Value) (base : Heap) (k : Nat) (x : Str) (ps : List Str) (dvs : List V) (sp : Sp) : Prop where
  ex : ∃ (f : Addr) (fd : FuncData) (ds : List Value), FnOk P w K mg base CX0 k f fd ps sp ∧ mg x = some (.ref f) ∧ PySem.W.keepIn K (.ref f) = true ∧ Vals dvs ds ∧ Binds K fd ps ds
theorem pe_def {X : Cx} {k k' : Nat} {x : Str} {ps : List Str} {dvs : List V} {sp : Sp} {p pos : Pos} {e : Expr} {es : List Expr} {t : TA} (F : Def X.prog X.w X.K X.mg X.base k x ps dvs sp) (hr : Room k' X.A) (hg : Gl X x) (ha : PA X (e :: es) t)
    (hk : k ≤ k' := by decide) (hdb : (x == ("__debug__" : Str)) = false := by decide) (he : starEach (e :: es) X.env = (false, eval e X.env) :: starEach es X.env := by rfl) (hpl : (backTo pos (starEach es X.env)).any (·.1) = false := by rfl) :
    PE X (.Call (.Name x p) (e :: es) [] pos) (tCall sp dvs E0 t) := by
  obtain ⟨f, fd, ds, G, m, kp, hv, b⟩ := F.ex
  exact pe_call G (hr.mono hk) hg m kp b hv pass0 ha hdb he hpl
/-- a def with defaults: dV the tuple of the defaults ds -/
structure FunD (K : PySem.W.Frag) (x qual : Str) (st : Stmt) (f : Addr) (fd : FuncData) (ds : List Value) : Prop where
  ex : ∃ (oc : Value) (od : Option Addr) (T : Addr) (kV doc pm : Value) (an : Option Addr) (cdv ct : Value) (osl : Array (Option Value)) (oT : Obj) (n : Nat),
    fd = PySem.W.fnOf x qual (defArgs st) (defBody st) (defScope st) (.ref T) kV doc pm an cdv ct ∧ K.lookup f = some ⟨oc, od, .func fd, osl⟩ ∧ PySem.W.codeIn K cdv qual = true ∧ K.lookup T = some oT ∧ oT.data = .seq ds.toArray n
  kp : PySem.W.keepIn K (.ref f) = true
section
variable {P : Program} {w : World} {K : PySem.W.Frag} {mg : Str → Option Value} {base : Heap}
theorem FunD.ok {x qual : Str} {st : Stmt} {f : Addr} {fd : FuncData} {ds : List Value} {N ps : List Str} {k : Nat} {sp : Sp} (F : FunD K x qual st f fd ds) (S : FnScope N ps (defScope st)) (len : ∀ vs H Q E, sp vs H Q E → vs.length = ps.length)
    (hbody : ∀ (cdv : Value) (A : Around) (outer : List Env) (s : Shared) (H : Hp) (vs : List V) (Q : VK) (E : XK), Room k (A.deeper (envOfC qual (defScope st) s.heap.objs.size f cdv)) → sp vs H Q E →
      ∃ t, PSs (cxOf CX0 P w K mg base N qual (defScope st) f cdv A outer s H E).nox (defBody st) t ∧ t { nx := fun _ H' => Q .non H', rt := Q } (start N vs) H) : FnOk P w K mg base CX0 (k + 1) f fd ps sp := by
  obtain ⟨oc, od, T, kV, doc, pm, an, cdv, ct, osl, oT, n, rfl, lk, hcd, _, _⟩ := F.ex
  refine fn_of lk hcd S len fun A outer s H vs Q E hr hsp => ?_
  obtain ⟨t, h, q⟩ := hbody cdv A outer s H vs Q E hr hsp
  exact ⟨t, h.nox, q⟩
theorem FunD.binds {x qual : Str} {st : Stmt} {f : Addr} {fd : FuncData} {ds : List Value} {ps : List Str} (ds' : List Value) (m : Nat) (hm : m + ds'.length = ps.length) (F : FunD K x qual st f fd ds)
    (h : ∀ (T : Addr) (kV doc pm : Value) (an : Option Addr) (cdv ct : Value) (us : List Value), us.length = m → ∃ k, bindArgs (PySem.W.fnOf x qual (defArgs st) (defBody st) (defScope st) (.ref T) kV doc pm an cdv ct) ⟨us, []⟩ = seqItems? (.ref T) >>= k ∧
      k (some ds.toArray) = pure (ps.zip (us ++ ds'))) : Binds K fd ps ds' := by
  obtain ⟨oc, od, T, kV, doc, pm, an, cdv, ct, osl, oT, n, rfl, lk, hcd, lT, dT⟩ := F.ex
  intro s us hK hl
  obtain ⟨k, h1, h2⟩ := h T kV doc pm an cdv ct us (by rw [List.length_append] at hl; omega)
  exact BindsTo.of_defaults rfl (hK _ _ lT) dT h1 h2
theorem funD_mk {x qual : Str} {st : Stmt} {f T : Addr} {oc : Value} {od an : Option Addr} {osl : Array (Option Value)} {kV doc pm cdv ct : Value} {oT : Obj} {n : Nat} {ds : List Value}
    (l : K.lookup f = some ⟨oc, od, .func (PySem.W.fnOf x qual (defArgs st) (defBody st) (defScope st) (.ref T) kV doc pm an cdv ct), osl⟩)
    (c : PySem.W.codeIn K cdv qual = true) (k : PySem.W.keepIn K (.ref f) = true) (lT : K.lookup T = some oT) (dT : oT.data = .seq ds.toArray n) : FunD K x qual st f (PySem.W.fnOf x qual (defArgs st) (defBody st) (defScope st) (.ref T) kV doc pm an cdv ct) ds :=
  ⟨⟨oc, od, T, kV, doc, pm, an, cdv, ct, osl, oT, n, rfl, l, c, lT, dT⟩, k⟩
end
/-! ### a list's item by values -/
section
variable {X : Cx}
theorem get_list : PGet X (rIxL X.K) := by
  intro pins s σ H o i ov iv Q I ro ri h
  obtain ⟨p, xs, k, z, rfl, rfl, hq, he, q⟩ := h
  cases ro
  obtain ⟨t, rfl⟩ := ri
  obtain ⟨its, r, pl, hz⟩ := I.list hq
  obtain ⟨j, h1, h2, h3, h4, h5⟩ := atI_get he
  obtain ⟨w, ew, rw'⟩ := r.get h2
  have hl := r.length
  have hn := line63
  have fin : EP X pins σ Q w s := ⟨z, H, I, rw', q⟩
  by_cases h0 : 0 ≤ k
  · have hj : k.toNat = j := by
      rw [seqIndex_of h0 h5] at h1
      exact Option.some.inj h1
    exact wpAny_getItem_list pl.isList h0 (by omega) (by rw [hj]; simpa using ew) fin
  · have hj : (k + (its.toArray.size : Int)).toNat = j := by
      rw [seqIndex_neg (by omega) h4] at h1
      rw [List.size_toArray, ← hl]
      exact Option.some.inj h1
    exact wpAny_getItem_list_neg pl.isList (by omega) (by rw [List.size_toArray] <;> omega) (by omega) (by rw [hj]; simpa using ew) fin
end
end L2
namespace L2
open PySem
theorem iteNT {c A B : Prop} [Decidable c] (hc : ¬ c) (h : A) : if (!decide c) = true then A else B := by
  rw [decide_eq_false hc]
  exact iteT h
theorem iteDF {c A B : Prop} [Decidable c] (hc : ¬ c) (h : B) : if decide c = true then A else B := by
  rw [decide_eq_false hc]
  exact iteF h
theorem iteDT {c A B : Prop} [Decidable c] (hc : c) (h : A) : if decide c = true then A else B := by
  rw [decide_eq_true hc]
  exact iteT h
end L2
namespace L2
open PySem PySem.Spec PyProof.Rows
/-! ### a call with keywords -/
def gK {α : Type} (m n : Nat) (us ws : List α) : List α := if us.length = m ∧ ws.length = n then us ++ ws else []
structure DefK (P : Program) (w : World) (K : PySem.W.Frag) (mg : Str → Option Value) (base : Heap) (k : Nat) (x : Str) (ps : List Str) (m : Nat) (ks : List Str) (sp : Sp) : Prop where
  ex : ∃ (f : Addr) (fd : FuncData), FnOk P w K mg base CX0 k f fd ps sp ∧ mg x = some (.ref f) ∧ PySem.W.keepIn K (.ref f) = true ∧ KBinds K fd ps ks (gK m ks.length) (gK m ks.length)
theorem pe_defK {X : Cx} {k k' m : Nat} {x : Str} {ps ks : List Str} {sp : Sp} {p pos : Pos} {e : Expr} {es : List Expr} {kws : List Keyword} {t tk : TA} (F : DefK X.prog X.w X.K X.mg X.base k x ps m ks sp) (hr : Room k' X.A) (hg : Gl X x) (ha : PA X (e :: es) t) (hkw : PK X kws tk)
    (hk : k ≤ k' := by decide) (hall : (backToKw pos (keywordEach kws X.env)).all (·.1.isSome) = true := by rfl) (hks : (backToKw pos (keywordEach kws X.env)).filterMap (·.1) = ks := by rfl)
    (hdb : (x == ("__debug__" : Str)) = false := by decide) (he : starEach (e :: es) X.env = (false, eval e X.env) :: starEach es X.env := by rfl)
    (hpl : ((backTo pos (starEach (e :: es) X.env)).any (·.1) || (backToKw pos (keywordEach kws X.env)).any (·.1.isNone)) = false := by rfl) :
    PE X (.Call (.Name x p) (e :: es) kws pos) (tCallK sp (gK m ks.length) E0 t tk) := by
  obtain ⟨f, fd, G, hm, kp, b⟩ := F.ex
  exact pe_callK G (hr.mono hk) hg hm kp b pass0 ha hkw hall hks hdb he hpl
theorem FunD.kbinds {K : PySem.W.Frag} {x qual : Str} {st : Stmt} {f : Addr} {fd : FuncData} {ds : List Value} {ps ks : List Str} (m : Nat) (hp : 0 < ps.length) (F : FunD K x qual st f fd ds)
    (h : ∀ (T : Addr) (kV doc pm : Value) (an : Option Addr) (cdv ct : Value) (us ws : List Value), us.length = m → ws.length = ks.length → ∃ k, bindArgs (PySem.W.fnOf x qual (defArgs st) (defBody st) (defScope st) (.ref T) kV doc pm an cdv ct) ⟨us, ks.zip ws⟩ = seqItems? (.ref T) >>= k ∧
      k (some ds.toArray) = pure (ps.zip (us ++ ws))) : KBinds K fd ps ks (gK m ks.length) (gK m ks.length) := by
  obtain ⟨oc, od, T, kV, doc, pm, an, cdv, ct, osl, oT, n, rfl, lk, hcd, lT, dT⟩ := F.ex
  refine ⟨fun s us ws hK hl => ?_, fun {vs us zs ws} r1 r2 => ?_⟩
  · unfold gK at hl ⊢
    by_cases c : us.length = m ∧ ws.length = ks.length
    · rw [if_pos c] at hl ⊢
      obtain ⟨k, h1, h2⟩ := h T kV doc pm an cdv ct us ws c.1 c.2
      exact BindsTo.of_defaults rfl (hK _ _ lT) dT h1 h2
    · rw [if_neg c] at hl
      have : 0 = ps.length := hl
      omega
  · unfold gK
    rw [r1.length, r2.length]
    by_cases c : us.length = m ∧ ws.length = ks.length
    · rw [if_pos c, if_pos c]
      exact r1.append r2
    · rw [if_neg c, if_neg c]
      exact .nil
end L2
namespace L2
open PySem PySem.Spec PyProof.Rows
/-! ### a class by its name; a method of its instances -/
structure MkD (P : Program) (w : World) (K : PySem.W.Frag) (mg : Str → Option Value) (base : Heap) (k : Nat) (x : Str) (C : Addr) (ps : List Str) (sp : Sp) : Prop where
  ex : mg x = some (.ref C) ∧ ∃ (f : Addr) (fd : FuncData), Mk K C f ∧ FnOk P w K mg base CX0 k f fd ps sp ∧ Binds K fd ps []
structure MeD (P : Program) (w : World) (K : PySem.W.Frag) (mg : Str → Option Value) (base : Heap) (k : Nat) (C : Addr) (m : Str) (ps : List Str) (sp : Sp) : Prop where
  ex : Cls K C ∧ ∃ (f : Addr) (fd : FuncData), Meth K C m f ∧ FnOk P w K mg base CX0 k f fd ps sp ∧ Binds K fd ps []
section
variable {X : Cx} {k k' : Nat} {x m : Str} {C : Addr} {ps : List Str} {sp : Sp} {p pos apos : Pos} {o e : Expr} {es : List Expr} {ta : TE} {t : TA}
theorem pe_mk (M : MkD X.prog X.w X.K X.mg X.base k x C ps sp) (hr : Room k' X.A) (hg : Gl X x) (ha : PA X (e :: es) t)
    (hk : k + 1 ≤ k' := by decide) (hdb : (x == ("__debug__" : Str)) = false := by decide) (he : starEach (e :: es) X.env = (false, eval e X.env) :: starEach es X.env := by rfl) (hpl : (backTo pos (starEach es X.env)).any (·.1) = false := by rfl) :
    PE X (.Call (.Name x p) (e :: es) [] pos) (tMake C sp [] E0 t) := by
  obtain ⟨hm, f, fd, M, G, b⟩ := M.ex
  exact pe_make M G (hr.mono hk) hg hm b .nil pass0 ha hdb he hpl
theorem pe_m {pl : Sem Bool} (M : MeD X.prog X.w X.K X.mg X.base k C m ps sp) (hr : Room k' X.A) (ho : PE X o ta) (ha : PA X (e :: es) t) (hk : k ≤ k' := by decide)
    (hst : starEach (e :: es) X.env = (false, eval e X.env) :: starEach es X.env := by rfl) (hpl : (backTo pos (starEach es X.env)).any (·.1) = false := by rfl)
    (ht : eval (.Call (.Attribute o m apos) (e :: es) [] pos) X.env = (do
      let ov ← eval o X.env
      standAt apos.atName
      let (f, first) ← holding [ov] (getMethod ov m pl)
      callWith pos f first (backTo pos (starEach (e :: es) X.env)) (backToKw pos (keywordEach [] X.env))) := by rfl) :
    PE X (.Call (.Attribute o m apos) (e :: es) [] pos) (tMeth C m sp [] E0 ta t) := by
  obtain ⟨c, f, fd, M, G, b⟩ := M.ex
  exact pe_meth (pl := pl) ho c M G (hr.mono hk) b .nil pass0 ha hst hpl ht
theorem pe_m0 {pl : Sem Bool} (M : MeD X.prog X.w X.K X.mg X.base k C m ps sp) (hr : Room k' X.A) (ho : PE X o ta) (hk : k ≤ k' := by decide)
    (ht : eval (.Call (.Attribute o m apos) [] [] pos) X.env = (do
      let ov ← eval o X.env
      standAt apos.atName
      let (f, first) ← holding [ov] (getMethod ov m pl)
      callWith pos f first (backTo pos (starEach [] X.env)) (backToKw pos (keywordEach [] X.env))) := by rfl) :
    PE X (.Call (.Attribute o m apos) [] [] pos) (tMeth C m sp [] E0 ta tNil) := by
  obtain ⟨c, f, fd, M, G, b⟩ := M.ex
  exact pe_meth0 (pl := pl) ho c M G (hr.mono hk) b .nil pass0 ht
end
end L2
namespace L2
open PySem PySem.Spec PyProof.Rows
/-! ### C.m(..): a def of a class, called by the class -/
structure ClsM (K : PySem.W.Frag) (C : Addr) (m : Str) (f : Addr) : Prop where
  sp : PySem.W.specialIn K (.ref C) "__getattribute__" = some (some (.builtin "type.__getattribute__"))
  rd : PySem.W.readsIn K C (.type "type") = true
  fc : PySem.W.findCls K (.ref C) (.type "type") m = some (.val (.ref f))
  kp : PySem.W.keepIn K (.ref f) = true
structure CmD (P : Program) (w : World) (K : PySem.W.Frag) (mg : Str → Option Value) (base : Heap) (k : Nat) (x : Str) (C : Addr) (m : Str) (ps : List Str) (sp : Sp) : Prop where
  ex : mg x = some (.ref C) ∧ ∃ (f : Addr) (fd : FuncData), ClsM K C m f ∧ FnOk P w K mg base CX0 k f fd ps sp ∧ Binds K fd ps []
theorem pe_clsm {X : Cx} {k k' : Nat} {x m : Str} {C : Addr} {ps : List Str} {sp : Sp} {p pos apos : Pos} {e : Expr} {es : List Expr} {t : TA} {pl : Sem Bool} (M : CmD X.prog X.w X.K X.mg X.base k x C m ps sp) (hr : Room k' X.A) (hg : Gl X x) (ha : PA X (e :: es) t) (hk : k ≤ k' := by decide)
    (hdb : (x == ("__debug__" : Str)) = false := by decide) (hst : starEach (e :: es) X.env = (false, eval e X.env) :: starEach es X.env := by rfl) (hpl : (backTo pos (starEach es X.env)).any (·.1) = false := by rfl)
    (ht : eval (.Call (.Attribute (.Name x p) m apos) (e :: es) [] pos) X.env = (do
      let ov ← eval (.Name x p) X.env
      standAt apos.atName
      let (f, first) ← holding [ov] (getMethod ov m pl)
      callWith pos f first (backTo pos (starEach (e :: es) X.env)) (backToKw pos (keywordEach [] X.env))) := by rfl) :
    PE X (.Call (.Attribute (.Name x p) m apos) (e :: es) [] pos) (tCall sp [] E0 t) := by
  obtain ⟨hm, f, fd, c, G, b⟩ := M.ex
  intro pins s σ H Q I h
  refine PySem.W.methodCall_KW (pl := pl) (thn ((pe_glob (v := .ref C) hg hm rfl hdb : PE X (.Name x p) (tC (.ref C))) pins s σ H (fun v H1 => v = .ref C ∧ H1 = H) I ⟨rfl, rfl⟩) fun u s1 ⟨v, H1, I1, rv, e1, e2⟩ => ?_) ht
  subst e1 e2
  obtain rfl : u = Value.ref C := rv
  refine PySem.W.method_cls I1.kIn c.sp (PySem.W.cls_value I1.kIn c.rd c.fc rfl ?_)
  have I2 := I1.tok (s1.toks + 1)
  refine PySem.W.callWith_K (first := []) (h₀ := X.base) I.ok.mod.kin c.kp (thn (ha pos pins _ σ H1 _ I2 h) fun us s2 ⟨vs, H2, I3, r, q2⟩ => ⟨I3.kIn, ?_⟩) hst hpl
  exact run_fn (us := us) (vs := vs) G (hr.mono hk) b .nil pass0 I3 r q2
/-- isinstance by an own class above -/
theorem kit_sub {K : PySem.W.Frag} {A B : Addr} {cd : ClassData} (h1 : PySem.W.clsIn K B = some cd) (h2 : PySem.W.typeIn K (.ref B) = some (.type "type")) (h3 : PySem.W.subIn K (.ref A) (.ref B) = some true) : PySem.W.kitOne K (.ref A) (.ref B) = some true := by
  unfold PySem.W.kitOne
  by_cases e : ((Value.ref A == Value.ref B) = true)
  · rw [if_pos e]
  · rw [if_neg e]
    show (if ((PySem.W.clsIn K B).isSome && PySem.W.typeIn K (.ref B) == some (.type "type")) = true then PySem.W.subIn K (.ref A) (.ref B) else none) = some true
    rw [if_pos (by rw [h1, h2]; rfl)]
    exact h3
end L2
namespace L2
open PySem PySem.Spec PyProof.Rows
/-! ### sum of a list of ints, all of a list of bools -/
section
variable {X : Cx}
theorem vals_int_at {ns : List Int} {its : List Value} (rv : Vals (ns.map V.int) its) {i : Nat} {v : Value} (h : its.toArray[i]? = some v) : ∃ t, v = Value.int (ns.getD i 0) t := by
  have h' : its[i]? = some v := by simpa using h
  have hi : i < its.length := (List.getElem?_eq_some_iff.mp h').1
  have hn : i < ns.length := by have := rv.length; rw [List.length_map] at this; omega
  obtain ⟨u, e, q⟩ := rv.get (x := V.int (ns.getD i 0)) (i := i) (by rw [List.getElem?_map, List.getElem?_eq_getElem hn, List.getD_eq_getElem?_getD, List.getElem?_eq_getElem hn]; rfl)
  rw [h'] at e
  cases e
  exact q
theorem vals_bl_at {bs : List Bool} {its : List Value} (rv : Vals (bs.map V.bl) its) {i : Nat} {v : Value} (h : its.toArray[i]? = some v) : v = Value.bool (bs.getD i true) := by
  have h' : its[i]? = some v := by simpa using h
  have hi : i < its.length := (List.getElem?_eq_some_iff.mp h').1
  have hn : i < bs.length := by have := rv.length; rw [List.length_map] at this; omega
  obtain ⟨u, e, q⟩ := rv.get (x := V.bl (bs.getD i true)) (i := i) (by rw [List.getElem?_map, List.getElem?_eq_getElem hn, List.getD_eq_getElem?_getD, List.getElem?_eq_getElem hn]; rfl)
  rw [h'] at e
  cases e
  exact q
theorem range_all_getD (bs : List Bool) : (List.range bs.length).all (fun i => bs.getD i true) = bs.all id := by
  rw [Bool.eq_iff_iff, List.all_eq_true, List.all_eq_true]
  constructor
  · intro h x hx
    obtain ⟨i, hi, e⟩ := List.mem_iff_getElem.mp hx
    have := h i (by simpa using hi)
    rw [List.getD_eq_getElem?_getD, List.getElem?_eq_getElem hi, e] at this
    exact this
  · intro h i hi
    have hi' : i < bs.length := by simpa using hi
    rw [List.getD_eq_getElem?_getD, List.getElem?_eq_getElem hi']
    exact h _ (List.getElem_mem hi')
theorem call_sumL (hc : X.calm = true) : CallR X (.builtin "sum") (fun xs H Q => ∃ (p : Addr) (ns : List Int), xs = [.ref p] ∧ SqL X.K H p (ns.map V.int) ∧ Q (.int ns.sum) H) := by
  intro pins s σ H xs us Q I r h
  obtain ⟨p, ns, rfl, hq, q⟩ := h
  obtain ⟨u, rfl, rx⟩ := vals1 r
  cases rx
  obtain ⟨its, rv, pl, hz⟩ := I.list hq
  have hlen := rv.length
  rw [List.length_map] at hlen
  have hp : p < s.heap.objs.size := by obtain ⟨o, n, e, _⟩ := pl; exact Heap.lt_size e
  refine call_sum_walkAnyS (wpAny_pyIter_list pl.isList ?_)
  refine ⟨s.heap.objs.size, _, _, _, _, _, _, fun i => ns.getD i 0, rfl, (Walks.list (A := X.A.in1) (I.ok.hd hc) s.heap.objs.size p (Nat.ne_of_lt hp) its.toArray).toS, ⟨⟨_, Heap.get?_push_size _ rfl, rfl, rfl⟩, pl.isList.at fun o e => Heap.get?_push_of_some _ e⟩, fun b hb => ?_, fun i v h => vals_int_at rv h, fun s' t' m => ?_⟩
  · rw [Heap.size_push]
    rcases List.mem_cons.mp hb with e | e
    · rw [e]; exact Nat.lt_succ_self _
    · have e' : b = p := by simpa using e
      rw [e']; exact Nat.lt_succ_of_lt hp
  · obtain ⟨hh, g, d, t, os⟩ := s'
    obtain ⟨m1, m2, m3, m4, m5⟩ := m
    have m2' : g = s.gens := m2
    have m3' : d = s.drawn := m3
    have m4' : os = s.os := m4
    subst m2' m3' m4'
    have e : preSum (fun i => ns.getD i 0) its.toArray.size = ns.sum := by rw [preSum_getD, List.size_toArray, ← hlen, List.take_length]
    rw [e]
    refine ⟨.int ns.sum, H, I.kept (t' := t) fun b o e => m1 b o (fun hb => ?_) (Heap.get?_push_of_some _ e), ⟨_, rfl⟩, q⟩
    have e' : b = s.heap.objs.size := by simpa using hb
    exact absurd (Heap.lt_size e) (by rw [e']; exact Nat.lt_irrefl _)
theorem call_allL (hc : X.calm = true) : CallR X (.builtin "all") (fun xs H Q => ∃ (p : Addr) (bs : List Bool), xs = [.ref p] ∧ SqL X.K H p (bs.map V.bl) ∧ Q (.bl (bs.all id)) H) := by
  intro pins s σ H xs us Q I r h
  obtain ⟨p, bs, rfl, hq, q⟩ := h
  obtain ⟨u, rfl, rx⟩ := vals1 r
  cases rx
  obtain ⟨its, rv, pl, hz⟩ := I.list hq
  have hlen := rv.length
  rw [List.length_map] at hlen
  have hp : p < s.heap.objs.size := by obtain ⟨o, n, e, _⟩ := pl; exact Heap.lt_size e
  refine call_all_walk (wpAny_pyIter_list pl.isList ?_)
  refine ⟨s.heap.objs.size, _, _, _, _, _, fun i => bs.getD i true, rfl, Walks.list (A := X.A.in1) (I.ok.hd hc) s.heap.objs.size p (Nat.ne_of_lt hp) its.toArray, ⟨⟨_, Heap.get?_push_size _ rfl, rfl, rfl⟩, pl.isList.at fun o e => Heap.get?_push_of_some _ e⟩, fun i v s' Q' E' h hQ => ?_, fun h' tk hk => ?_⟩
  · rw [vals_bl_at rv h]
    exact wpAny_truthy_bool hQ
  · rw [List.size_toArray, ← hlen, range_all_getD]
    refine ⟨.bl (bs.all id), H, I.kept (t' := tk) fun b o e => hk b o (fun hb => ?_) (Heap.get?_push_of_some _ e), rfl, q⟩
    have e' : b = s.heap.objs.size := by simpa using hb
    exact absurd (Heap.lt_size e) (by rw [e']; exact Nat.lt_irrefl _)
end
end L2
namespace L2
open PySem PySem.Spec PyProof.Rows
/-! ### exceptions: raised in a def, caught by a caller -/
section
variable {P : Program} {w : World} {H : Hp} {h h' : Heap} {a : Addr} {o : HO}
theorem ObjOk.there (x : ObjOk P w H h a o) : ∃ u, h.get? a = some u := by
  cases o with
  | lst xs => obtain ⟨_, _, _, _, e⟩ := x; exact ⟨_, e⟩
  | tup xs => obtain ⟨_, _, _, o, e, _⟩ := x; exact ⟨_, e⟩
  | dK kvs => obtain ⟨_, _, _, _, o, _, _, e, _⟩ := x; exact ⟨_, e⟩
  | dT kvs => obtain ⟨_, _, _, _, o, _, _, e, _⟩ := x; exact ⟨_, e⟩
  | set S n => obtain ⟨o, _, _, _, e, _⟩ := x; exact ⟨_, e⟩
  | ins C dx fs => obtain ⟨_, _, _, e, _⟩ := x; exact ⟨_, e⟩
  | own y => obtain ⟨_, e⟩ := x; exact ⟨_, e⟩
  | xd fs => obtain ⟨_, ⟨_, _, _, e, _⟩, _⟩ := x; exact ⟨_, e⟩
  | rng lo hi => obtain ⟨_, _, _, e⟩ := x; exact ⟨_, e⟩
  | frz ob u => obtain ⟨e, _⟩ := x; exact ⟨_, e⟩
  | tbl ps => exact ⟨_, (show h.get? a = some _ from x)⟩
  | met f y => exact ⟨_, (show h.get? a = some _ from x)⟩
  | ext φ => obtain ⟨_, e, _⟩ := x; exact e
theorem HOk.there (x : HOk P w H h) (e : H a = some o) : ∃ u, h.get? a = some u := (x a o e).there
/-- the tracked objects are kept -/
theorem HOk.keepT (x : HOk P w H h) (k : ∀ b u, H b ≠ none → h.get? b = some u → h'.get? b = some u) : HOk P w H h' := fun a o e =>
  (x a o e).stay (fun b u hb q => k b u (by
    rcases hb with rfl | hb
    · rw [e]; exact fun z => nomatch z
    · rw [hb]; exact fun z => nomatch z) q) (fun _ q => q) fun _ _ q => q
end
theorem Un.go {fs ex : List Addr} {H H1 : Hp} {h0 h h' : Heap} (u : Un fs ex H H1 h0 h) (k : ∀ b o, h.get? b = some o → b ∉ fs → b ∉ ex → (∃ o', h0.get? b = some o') → h'.get? b = some o)
    (ks : ∀ b o, h.get? b = some o → b ∈ fs → (∃ o', h0.get? b = some o') → ∃ sl, h'.get? b = some { o with slots := sl }) : Un fs ex H H1 h0 h' where
  keep := fun b o q n hb hx => k b o (u.keep b o q n hb hx) hb hx ⟨o, q⟩
  slot := fun b o q n hb hx => by
    obtain ⟨sl, e⟩ := u.slot b o q n hb hx
    obtain ⟨sl', e'⟩ := ks b _ e hb ⟨o, q⟩
    exact ⟨sl', e'⟩
  free := u.free
  there := fun b o q hx => by
    obtain ⟨o', e⟩ := u.there b o q hx
    by_cases hb : b ∈ fs
    · obtain ⟨sl, e'⟩ := ks b o' e hb ⟨o, q⟩
      exact ⟨_, e'⟩
    · exact ⟨o', k b o' e hb hx ⟨o, q⟩⟩
  tups := u.tups
  frzs := u.frzs
  tbls := u.tbls
/-- the exception at a, of the class at C, flies over the frames fr: what is tracked and what stood in h0 stands in a ground that the flight leaves alone -/
def Fly (fr : List Env) (Z : Addr → Prop) (h : Heap) (a C : Addr) : Prop :=
  ∃ (B : Heap) (a0 : Value), Heap.FlyingW B fr a (.ref C) a0 h ∧ ∀ b o, h.get? b = some o → b ∉ frs fr → Z b → B.get? b = some o
/-- how an exception lies behind a call -/
def CXE (P : Program) (w : World) : CXT := fun outer H s E e s' => ∃ (a C : Addr) (H' : Hp), e = .ref a ∧ s'.os = s.os ∧ AllBare s'.gens ∧ Un (frs outer) [] H H' s.heap s'.heap ∧ HOk P w H' s'.heap ∧
  Fly outer (fun b => H' b ≠ none ∨ ∃ o', s.heap.get? b = some o') s'.heap a C ∧ H' a = none ∧ s.heap.get? a = none ∧ E (.ref C) none H'
/-- what this code wants of an exception that is made here; of one that comes out of a callee -/
def Throws (X : Cx) (R : St → Value → Hp → Prop) : Prop := ∀ pins σ H s e h' C vs, Inv X pins σ H s → Heap.MadeExcOf s.heap h' e (.ref C) vs → R σ (.ref C) H → X.xe (.ref e) { s with heap := h' }
def Hears (X : Cx) (R : St → Value → Hp → Prop) : Prop := ∀ pins σ H s e s', Inv X pins σ H s → CXE X.prog X.w X.stack H s (fun c _ H' => R σ c H') e s' → X.xe e s'
/-- a def's body: the exception leaves the frame -/
theorem throws_cx {P : Program} {w : World} {K : PySem.W.Frag} {mg : Str → Option Value} {base : Heap} {N : List Str} {qual : Str} {scope : Scope} {f : Addr} {cd : Value} {A : Around} {outer : List Env} {s : Shared} {H : Hp} {E : XK} :
    Throws (cxOf (CXE P w) P w K mg base N qual scope f cd A outer s H E) (fun _ c H' => E c none H') := by
  intro pins σ H1 s1 e h' C vs I hx q
  have hin : ∀ env ∈ (envOfC qual scope s.heap.objs.size f cd :: outer), ∀ b, env.frame = some b → b ∈ frs (envOfC qual scope s.heap.objs.size f cd :: outer) := fun env he b hb => List.mem_filterMap.mpr ⟨env, he, hb⟩
  have hst : s1.heap.FunFrames base (envOfC qual scope s.heap.objs.size f cd :: outer) := I.stack
  have hfrees : ∀ b ∈ frs (envOfC qual scope s.heap.objs.size f cd :: outer), H1 b = none := I.stkFree
  have hfs : frs (envOfC qual scope s.heap.objs.size f cd :: outer) = s.heap.objs.size :: frs outer := rfl
  have ub : Un (frs outer) [] H H1 s.heap s1.heap := I.base
  have hno : s1.heap.get? e = none := hx.new
  show wpAny (model P w) (A.deeper (envOfC qual scope s.heap.objs.size f cd)) (leaving (envOfC qual scope s.heap.objs.size f cd) (.ref e)) (fun _ s'' => CXE P w outer H s E (.ref e) s'') (fun e' s'' => CXE P w outer H s E e' s'') { s1 with heap := h' }
  refine wpAny_leaves_madeW (base := PySem.W.hideAll s1.heap (frs (envOfC qual scope s.heap.objs.size f cd :: outer))) I.ok.frames rfl (fun b o q => PySem.W.of_hideAll _ q) (PySem.W.funFrames_hide hst hin) hx fun h2 t fl _ _ up => ?_
  dsimp only at up
  have keep : ∀ b o, s1.heap.get? b = some o → b ∉ frs (envOfC qual scope s.heap.objs.size f cd :: outer) → (PySem.W.hideAll s1.heap (frs (envOfC qual scope s.heap.objs.size f cd :: outer))).get? b = some o := fun b o q n => PySem.W.hideAll_get _ q n
  have old : ∀ b, (∃ o', s.heap.get? b = some o') → b ∉ frs outer → b ∉ frs (envOfC qual scope s.heap.objs.size f cd :: outer) := fun b ⟨o', q⟩ n z => by
    rw [hfs] at z
    rcases List.mem_cons.mp z with z | z
    · exact absurd (Heap.lt_size q) (by rw [z]; exact Nat.lt_irrefl _)
    · exact n z
  have trk : ∀ b, H1 b ≠ none → b ∉ frs (envOfC qual scope s.heap.objs.size f cd :: outer) := fun b hb z => hb (hfrees b z)
  refine ⟨e, C, H1, rfl, I.os, I.bare, ub.go (fun b o q n _ z => fl.1 b o (keep b o q (old b z n))) (fun b o q n _ => ?_), I.hok.keepT fun b u hb q => fl.1 b u (keep b u q (trk b hb)), ?_, ?_, ?_, q⟩
  · obtain ⟨_, o', ho', hd⟩ := hst.mem (show b ∈ frs (envOfC qual scope s.heap.objs.size f cd :: outer) from by rw [hfs]; exact List.mem_cons_of_mem _ n)
    rw [q] at ho'; cases ho'
    exact up b o (hx.keeps b o q) hd
  · refine ⟨_, _, fl, fun b o q n z => ?_⟩
    have hn : b ∉ frs (envOfC qual scope s.heap.objs.size f cd :: outer) := by
      rcases z with z | z
      · exact trk b z
      · exact old b z n
    have h1 : ∃ u, s1.heap.get? b = some u := by
      rcases z with z | ⟨o', z⟩
      · cases r : H1 b with
        | none => exact absurd r z
        | some v => exact I.hok.there r
      · exact ub.there b o' z (by simp)
    obtain ⟨u, hu⟩ := h1
    have hB := keep b u hu hn
    have := fl.1 b u hB
    have q' : h2.get? b = some o := q
    rw [q'] at this
    cases this
    exact hB
  · cases r : H1 e with
    | none => rfl
    | some v =>
      obtain ⟨u, hu⟩ := I.hok.there r
      rw [hno] at hu; cases hu
  · cases r : s.heap.get? e with
    | none => rfl
    | some v =>
      obtain ⟨u, hu⟩ := ub.there e v r (by simp)
      rw [hno] at hu; cases hu
/-- an exception of a callee leaves the frame, too -/
theorem hears_cx {P : Program} {w : World} {K : PySem.W.Frag} {mg : Str → Option Value} {base : Heap} {N : List Str} {qual : Str} {scope : Scope} {f : Addr} {cd : Value} {A : Around} {outer : List Env} {s : Shared} {H : Hp} {E : XK} :
    Hears (cxOf (CXE P w) P w K mg base N qual scope f cd A outer s H E) (fun _ c H' => E c none H') := by
  intro pins σ H1 s1 e s2 I hx
  obtain ⟨a, C, H2, rfl, os, bare, un, hok, ⟨B, a0, fl, ground⟩, ha, hs, q⟩ := hx
  have fl' : Heap.FlyingW B (envOfC qual scope s.heap.objs.size f cd :: outer) a (.ref C) a0 s2.heap := fl
  have J : Inv (cxOf (CXE P w) P w K mg base N qual scope f cd A outer s H E) pins σ H2 s2 := I.call' (ch := []) os un hok bare fun b z => absurd z (by simp)
  have ub : Un (frs outer) [] H H2 s.heap s2.heap := J.base
  have hfs : frs (envOfC qual scope s.heap.objs.size f cd :: outer) = s.heap.objs.size :: frs outer := rfl
  have old : ∀ b, (∃ o', s.heap.get? b = some o') → b ∉ frs outer → b ∉ frs (envOfC qual scope s.heap.objs.size f cd :: outer) := fun b ⟨o', q⟩ n z => by
    rw [hfs] at z
    rcases List.mem_cons.mp z with z | z
    · exact absurd (Heap.lt_size q) (by rw [z]; exact Nat.lt_irrefl _)
    · exact n z
  have trk : ∀ b, H2 b ≠ none → b ∉ frs (envOfC qual scope s.heap.objs.size f cd :: outer) := fun b hb z => hb (J.stkFree b z)
  have u1 : Un (frs outer) [] H H1 s.heap s1.heap := I.base
  have in1 : ∀ b, (∃ o', s.heap.get? b = some o') → ∃ o', s1.heap.get? b = some o' := fun b ⟨o', z⟩ => u1.there b o' z (by simp)
  have hst : s2.heap.FunFrames base (envOfC qual scope s.heap.objs.size f cd :: outer) := J.stack
  show wpAny (model P w) (A.deeper (envOfC qual scope s.heap.objs.size f cd)) (leaving (envOfC qual scope s.heap.objs.size f cd) (.ref a)) (fun _ s'' => CXE P w outer H s E (.ref a) s'') (fun e' s'' => CXE P w outer H s E e' s'') s2
  refine wpAny_leaves_onW J.ok.frames rfl fl' fun h3 fl3 up => ?_
  refine ⟨a, C, H2, rfl, J.os, J.bare, ub.go (fun b o q n _ z => fl3.1 b o (ground b o q (old b z n) (.inr (in1 b z)))) (fun b o q n _ => ?_), J.hok.keepT fun b u hb q => fl3.1 b u (ground b u q (trk b hb) (.inl hb)), ?_, ha, ?_, q⟩
  · obtain ⟨_, o', ho', hd⟩ := hst.mem (show b ∈ frs (envOfC qual scope s.heap.objs.size f cd :: outer) from by rw [hfs]; exact List.mem_cons_of_mem _ n)
    rw [q] at ho'; cases ho'
    exact up b o q hd
  · refine ⟨B, a0, fl3, fun b o q n z => ?_⟩
    have hn : b ∉ frs (envOfC qual scope s.heap.objs.size f cd :: outer) := by
      rcases z with z | z
      · exact trk b z
      · exact old b z n
    have h1 : ∃ u, s2.heap.get? b = some u := by
      rcases z with z | ⟨o', z⟩
      · cases r : H2 b with
        | none => exact absurd r z
        | some v => exact J.hok.there r
      · exact ub.there b o' z (by simp)
    obtain ⟨u, hu⟩ := h1
    have hB := ground b u hu hn (by
      rcases z with z | z
      · exact .inl z
      · exact .inr (in1 b z))
    have := fl3.1 b u hB
    have q' : h3.get? b = some o := q
    rw [q'] at this
    cases this
    exact hB
  · cases r : s.heap.get? a with
    | none => rfl
    | some v =>
      obtain ⟨u, hu⟩ := in1 a ⟨v, r⟩
      rw [hs] at hu; cases hu
end L2
namespace L2
open PySem PySem.Spec PyProof.Rows
/-- the class at C is an exception of the text, straight or by others under the built-in one whose mro is bmB -/
theorem exc_obj {K : PySem.W.Frag} {h : Heap} {C : Addr} {bmB : List Value} {newId : String} (X : K.In h) (q : PySem.W.excIn K C bmB newId = true) :
    ∃ bm N nm qn bs hdct sn sub ab col dd k0 k1 k2 k3 k5 mN, K.lookup C = some (excClassObj nm qn C N bs bm hdct sn sub ab col dd k0 k1 k2 k3 k5 newId) ∧ h.get? C = some (excClassObj nm qn C N bs bm hdct sn sub ab col dd k0 k1 k2 k3 k5 newId) ∧ h.Ns N mN ∧ mN "__init__" = none ∧ OwnTail h bmB bm := by
  unfold PySem.W.excIn at q
  split at q
  · rename_i dd cd sl ho
    split at q
    · rename_i C' bm k0 k1 k2 k3 n k5 hm hs
      simp only [Bool.and_eq_true, beq_iff_eq, Bool.not_eq_true'] at q
      obtain ⟨⟨⟨⟨⟨rfl, rfl⟩, hdel⟩, ht⟩, hok⟩, hni⟩ := q
      obtain ⟨nm, bs, mro, ns, qn, hd, sn, sub, ab, col, del⟩ := cd
      dsimp only at hm hdel hok hni
      subst hm hdel
      have hsl : sl = #[k0, k1, k2, k3, some (.builtin n), k5] := by
        obtain ⟨l⟩ := sl
        simp only at hs
        rw [hs]
      subst hsl
      exact ⟨bm, ns, nm, qn, bs, hd, sn, sub, ab, col, dd, k0, k1, k2, k3, k5, _, ho, X _ _ ho, .of_isNs (PySem.W.isNs_of_in X hok), PySem.W.nsMap_none_of_in X hok hni, PySem.W.tail_of_in X ht⟩
    · cases q
  · cases q
abbrev mroV : List Value := [.type "ValueError", .type "Exception", .type "BaseException", .type "object"]
/-- an exception class of the text under ValueError -/
def ExcC (K : PySem.W.Frag) (C : Addr) : Prop := PySem.W.excIn K C mroV "ValueError.__new__" = true
section
variable {X : Cx} {R : St → Value → Hp → Prop} {x : Str} {C : Addr} {np cpos pos p : Pos} {e : Expr} {es : List Expr} {t : TA}
/-- raise C(e, ..) -/
theorem ps_raise (hx : Throws X R) (hcalm : X.calm = true) (hg : Gl X x) (hm : X.mg x = some (.ref C)) (hc : ExcC X.K C) (ha : PA X (e :: es) t) (hdb : (x == ("__debug__" : Str)) = false := by decide)
    (he : starEach (e :: es) X.env = (false, eval e X.env) :: starEach es X.env := by rfl) (hpl : (backTo cpos (starEach es X.env)).any (·.1) = false := by rfl) :
    PS X (.Raise (some (.Call (.Name x np) (e :: es) [] cpos)) none pos) (fun _ σ H => t σ H fun vs H1 => vs.length ≤ sizeLine ∧ R σ (.ref C) H1) := by
  intro pins s σ H D I h
  obtain ⟨tl, N, nm, q, bs, hdct, sn, sub, ab, col, dd, k0, k1, k2, k3, k5, mN, _, hC, hN, hni, T⟩ := exc_obj I.ok.mod.kin hc
  refine wpAny_Raise_call_subT (C := C) (nm := nm) (q := q) (N := N) (bs := bs) (bm := tl) (hdct := hdct) (sn := sn) (sub := sub) (ab := ab) (col := col) (dd := dd) (k0 := k0) (k1 := k1) (k2 := k2) (k3 := k3) (k5 := k5)
    PySem.F.excBase_ValueError (mN := mN) (T.hasType PySem.F.excBase_ValueError.hasBase) (I.ok.hd hcalm) (by rw [he]; show (false || (backTo cpos (starEach es X.env)).any (·.1)) = false; rw [hpl]; rfl) hni (ld_glob I hg hm ⟨rfl, ?_⟩ hdb)
  have h1 := ha cpos pins s σ H _ I h
  rw [he] at h1 ⊢
  refine Calls.evalArgs_plain (wpAny_mono h1 (fun us s2 ⟨vs, H2, I2, r2, hl, q2⟩ => ⟨rfl, by rw [← r2.length]; exact hl, I2.bk _ _ hC, hN.keeps I2.bk, T.keeps I2.bk, fun h' a hm => hx pins σ H2 s2 a h' C us I2 hm q2⟩) fun _ _ y => y)
def tCallX (sp : Sp) (dvs : List V) (R : St → Value → Hp → Prop) (t : TA) : TE := fun σ H Q => t σ H fun vs H1 => sp (vs ++ dvs) H1 Q (fun c _ H' => R σ c H')
theorem run_fnX {k : Nat} {f : Addr} {fd : FuncData} {ps : List Str} {sp : Sp} {dvs : List V} {ds : List Value} {pins : List (Addr × Obj)} {σ : St} {H : Hp} {s : Shared} {Q : VK} {us : List Value} {vs : List V} (F : FnOk X.prog X.w X.K X.mg X.base (CXE X.prog X.w) k f fd ps sp) (hr : Room k X.A) (hb : Binds X.K fd ps ds) (hd : Vals dvs ds) (hx : Hears X R)
    (I : Inv X pins σ H s) (r : Vals vs us) (h : sp (vs ++ dvs) H Q (fun c _ H' => R σ c H')) : wpAny (model X.prog X.w) X.A (call (.ref f) us) (EP X pins σ Q) X.xe s := by
  have r2 : Vals (vs ++ dvs) (us ++ ds) := r.append hd
  have hl : (us ++ ds).length = ps.length := by rw [← r2.length]; exact F.len _ _ _ _ h
  refine wpAny_call (codeAny_mono (F.run X.A X.stack s H ⟨us, []⟩ (us ++ ds) (vs ++ dvs) Q _ hr I.env0 (hb s us I.kIn hl) r2 h) fun r s' hq => ?_)
  cases r with
  | error e => exact hx pins σ H s e s' I hq
  | ok fl =>
    cases fl with
    | ret u => exact I.after hq
    | next => exact False.elim hq
    | brk => exact False.elim hq
    | cont => exact False.elim hq
end
structure DefX (P : Program) (w : World) (K : PySem.W.Frag) (mg : Str → Option Value) (base : Heap) (k : Nat) (x : Str) (ps : List Str) (dvs : List V) (sp : Sp) : Prop where
  ex : ∃ (f : Addr) (fd : FuncData) (ds : List Value), FnOk P w K mg base (CXE P w) k f fd ps sp ∧ mg x = some (.ref f) ∧ PySem.W.keepIn K (.ref f) = true ∧ Vals dvs ds ∧ Binds K fd ps ds
/-- a call that may raise -/
theorem pe_defX {X : Cx} {R : St → Value → Hp → Prop} {k k' : Nat} {x : Str} {ps : List Str} {dvs : List V} {sp : Sp} {p pos : Pos} {e : Expr} {es : List Expr} {t : TA} (F : DefX X.prog X.w X.K X.mg X.base k x ps dvs sp) (hx : Hears X R) (hr : Room k' X.A) (hg : Gl X x) (ha : PA X (e :: es) t)
    (hk : k ≤ k' := by decide) (hdb : (x == ("__debug__" : Str)) = false := by decide) (he : starEach (e :: es) X.env = (false, eval e X.env) :: starEach es X.env := by rfl) (hpl : (backTo pos (starEach es X.env)).any (·.1) = false := by rfl) :
    PE X (.Call (.Name x p) (e :: es) [] pos) (tCallX sp dvs R t) := by
  obtain ⟨f, fd, ds, G, m, kp, hv, b⟩ := F.ex
  intro pins s σ H Q I h
  refine wpAny_Call_Name_kw (ld_glob I hg m ?_ hdb)
  refine PySem.W.callWith_K (h₀ := X.base) I.ok.mod.kin kp (thn (ha pos pins s σ H _ I h) fun us s1 ⟨vs, H1, I1, r, q⟩ => ⟨I1.kIn, ?_⟩) he hpl
  exact run_fnX G (hr.mono hk) b hv hx I1 r q
/-! ### try: .. except C: .. -/
/-- the object at a is none of the frame's -/
def Apart (X : Cx) (pins : List (Addr × Obj)) (a : Addr) : Prop := X.s₀.heap.get? a = none ∧ a ≠ X.env.locals ∧ (∀ x c, X.env.cells.lookup x = some c → c ≠ a) ∧ ∀ p ∈ X.pn ++ pins, p.1 ≠ a
/-- within the try: its pins stand; an exception is wanted in flight, with the state R -/
def tryCx (X : Cx) (pins : List (Addr × Obj)) (R : St → Value → Hp → Prop) : Cx := { X with
  pn := X.pn ++ pins
  xe := fun e s' => ∃ (a C : Addr) (σ' : St) (H' : Hp), e = .ref a ∧ Inv X pins σ' H' s' ∧ Fly X.stack (fun b => H' b ≠ none ∨ (∃ o, X.s₀.heap.get? b = some o) ∨ ∃ p ∈ X.pn ++ pins, p.1 = b) s'.heap a C ∧ H' a = none ∧ Apart X pins a ∧ R σ' (.ref C) H' }
theorem Cx.Ok.intoTry {X : Cx} {pins : List (Addr × Obj)} {R : St → Value → Hp → Prop} (ok : X.Ok) : (tryCx X pins R).Ok :=
  ⟨ok.mod, ok.kind, ok.glob, ok.blt, ok.above, ok.inj, ok.has, ok.cab, ok.hd, ok.frames, ok.stk, ok.exf, ok.bs, ok.bsz, ok.noex, ok.exfs, ok.funs, ok.frf⟩
theorem Cx.Ok.outTry {X : Cx} {pins : List (Addr × Obj)} {R : St → Value → Hp → Prop} (ok : (tryCx X pins R).Ok) : X.Ok :=
  ⟨ok.mod, ok.kind, ok.glob, ok.blt, ok.above, ok.inj, ok.has, ok.cab, ok.hd, ok.frames, ok.stk, ok.exf, ok.bs, ok.bsz, ok.noex, ok.exfs, ok.funs, ok.frf⟩
section
variable {X : Cx} {pins pins' : List (Addr × Obj)} {σ : St} {H : Hp} {s : Shared} {R : St → Value → Hp → Prop}
theorem Inv.intoTry (I : Inv X pins σ H s) : Inv (tryCx X pins R) [] σ H s :=
  ⟨I.ok.intoTry, I.os, I.bare, I.base, I.loc, I.cell, I.free, I.freeC, fun p hp => I.pin p (by have hp' : p ∈ (X.pn ++ pins) ++ [] := hp; rw [List.append_nil] at hp'; exact hp'), I.hok, I.len⟩
theorem Inv.outTry (I : Inv (tryCx X pins R) pins' σ H s) : Inv X pins σ H s :=
  ⟨I.ok.outTry, I.os, I.bare, I.base, I.loc, I.cell, I.free, I.freeC, fun p hp => I.pin p (List.mem_append_left _ hp), I.hok, I.len⟩
theorem SP.outTry {D : Ends} {f : Flow} {s' : Shared} (h : SP (tryCx X pins R) [] D f s') : SP X pins D f s' := by
  cases f with
  | next => obtain ⟨σ', H', I, q⟩ := h; exact ⟨σ', H', I.outTry, q⟩
  | brk => obtain ⟨σ', H', I, q⟩ := h; exact ⟨σ', H', I.outTry, q⟩
  | cont => obtain ⟨σ', H', I, q⟩ := h; exact ⟨σ', H', I.outTry, q⟩
  | ret u => obtain ⟨v, σ', H', I, r, q⟩ := h; exact ⟨v, σ', H', I.outTry, r, q⟩
theorem hears_try (hex : X.ex = []) : Hears (tryCx X pins R) R := by
  intro pins' σ H1 s1 e s2 I hx
  obtain ⟨a, C, H2, rfl, os, bare, un, hok, ⟨B, a0, fl, ground⟩, ha, hs, q⟩ := hx
  have I0 : Inv X pins σ H1 s1 := I.outTry
  have J : Inv X pins σ H2 s2 := I0.call' (ch := []) os un hok bare fun b z => absurd z (by simp)
  refine ⟨a, C, σ, H2, rfl, J, ⟨B, a0, fl, fun b o q n z => ground b o q n ?_⟩, ha, ⟨?_, fun z => ?_, fun x c e z => ?_, fun p hp z => ?_⟩, q⟩
  · rcases z with z | ⟨o', z⟩ | ⟨p, hp, rfl⟩
    · exact .inl z
    · exact .inr (I0.base.there b o' z (by rw [hex]; simp))
    · exact .inr ⟨_, (I0.pin p hp).1⟩
  · cases r : X.s₀.heap.get? a with
    | none => rfl
    | some v =>
      obtain ⟨u, hu⟩ := I0.base.there a v r (by rw [hex]; simp)
      rw [hs] at hu; cases hu
  · obtain ⟨m, ⟨o, _, _, ho, _⟩, _⟩ := I0.loc
    rw [← z, hs] at ho; cases ho
  · obtain ⟨v, o, ho, _⟩ := I0.cell x c e
    rw [z, hs] at ho; cases ho
  · have ho := (I0.pin p hp).1
    rw [z, hs] at ho; cases ho
/-- what stands in the ground is kept, all else up to slots: the state is as it was -/
theorem Inv.fly {h' : Heap} (I : Inv X pins σ H s) (hstk : X.stack = X.env :: X.outer) (hf : X.env.frame = some X.env.locals)
    (k : ∀ b o, s.heap.get? b = some o → b ∉ frs X.stack → (H b ≠ none ∨ (∃ o, X.s₀.heap.get? b = some o) ∨ ∃ p ∈ X.pn ++ pins, p.1 = b) → h'.get? b = some o) (up : s.heap.UpToSlots h') : Inv X pins σ H { s with heap := h' } := by
  have hfs : frs X.stack = X.env.locals :: X.fs := by rw [hstk]; unfold frs; rw [List.filterMap_cons, hf]; rfl
  have cellK : ∀ c v, s.heap.IsCell c v → h'.IsCell c v := fun c v ⟨o, ho, hd⟩ => by
    obtain ⟨sl, e⟩ := up c o ho (fun vs q => by rw [hd] at q; cases q)
    exact ⟨_, e, hd⟩
  have trk : ∀ b, H b ≠ none → b ∉ frs X.stack := fun b hb z => hb (I.stkFree b z)
  refine ⟨I.ok, I.os, I.bare, I.base.go (fun b o q n _ z => k b o q (fun m => ?_) (.inr (.inl z))) (fun b o q n z => ?_), ?_, fun x c e => ?_, I.free, I.freeC, fun p hp => ?_, I.hok.keepT fun b u hb q => k b u q (trk b hb) (.inl hb), I.len⟩
  · rw [hfs] at m
    rcases List.mem_cons.mp m with m | m
    · obtain ⟨o', z⟩ := z
      exact absurd (Nat.lt_of_lt_of_le (Heap.lt_size z) I.ok.above) (by rw [m]; exact Nat.lt_irrefl _)
    · exact n m
  · obtain ⟨_, o', ho', hd⟩ := I.stack.mem (show b ∈ frs X.stack from by rw [hfs]; exact List.mem_cons_of_mem _ n)
    rw [q] at ho'; cases ho'
    exact up b o q hd
  · obtain ⟨m, hn, hl⟩ := I.loc
    refine ⟨m, up.ns hn, fun i x v h1 h2 h3 => ?_⟩
    obtain ⟨u, r, l⟩ := hl i x v h1 h2 h3
    refine ⟨u, r, ?_⟩
    rcases l with l | ⟨l1, c, l2, l3⟩
    · exact .inl l
    · exact .inr ⟨l1, c, l2, cellK c _ l3⟩
  · obtain ⟨v, q⟩ := I.cell x c e
    exact ⟨v, cellK c v q⟩
  · obtain ⟨h1, h2, h3, h4, h5⟩ := I.pin p hp
    refine ⟨k p.1 p.2 h1 (fun m => ?_) (.inr (.inr ⟨p, hp, rfl⟩)), h2, h3, h4, h5⟩
    rw [hfs] at m
    rcases List.mem_cons.mp m with m | m
    · exact h3 m
    · exact h4 m
end
/-- within the except suite: an exception is held, none leaves -/
def suiteCx (X : Cx) (e : Value) : Cx := { X with A := X.A.mark (some e), calm := false, xe := fun _ _ => False }
section
variable {X : Cx} {pins : List (Addr × Obj)} {σ : St} {H : Hp} {s : Shared} {e : Value}
theorem Inv.intoSuite (I : Inv X pins σ H s) (e : Value) : Inv (suiteCx X e) pins σ H s :=
  ⟨⟨I.ok.mod, I.ok.kind, I.ok.glob, I.ok.blt, I.ok.above, I.ok.inj, I.ok.has, I.ok.cab, fun z => absurd (show false = true from z) (by decide), I.ok.frames, I.ok.stk, I.ok.exf, I.ok.bs, I.ok.bsz, I.ok.noex, I.ok.exfs, I.ok.funs, I.ok.frf⟩, I.os, I.bare, I.base, I.loc, I.cell, I.free, I.freeC, I.pin, I.hok, I.len⟩
theorem Inv.outSuite (ok : X.Ok) (I : Inv (suiteCx X e) pins σ H s) : Inv X pins σ H s := ⟨ok, I.os, I.bare, I.base, I.loc, I.cell, I.free, I.freeC, I.pin, I.hok, I.len⟩
theorem SP.outSuite (ok : X.Ok) {D : Ends} {f : Flow} {s' : Shared} (h : SP (suiteCx X e) pins D f s') : SP X pins D f s' := by
  cases f with
  | next => obtain ⟨σ', H', I, q⟩ := h; exact ⟨σ', H', I.outSuite ok, q⟩
  | brk => obtain ⟨σ', H', I, q⟩ := h; exact ⟨σ', H', I.outSuite ok, q⟩
  | cont => obtain ⟨σ', H', I, q⟩ := h; exact ⟨σ', H', I.outSuite ok, q⟩
  | ret u => obtain ⟨v, σ', H', I, r, q⟩ := h; exact ⟨v, σ', H', I.outSuite ok, r, q⟩
end
/-- the exception that is caught is one of the class at C -/
def tTry (C : Addr) (tb : (St → Value → Hp → Prop) → TS) (ts : TS) : TS := fun D σ H => ∃ R : St → Value → Hp → Prop, tb R D σ H ∧ ∀ σ' c H', R σ' c H' → c = .ref C ∧ ts D σ' H'
theorem ps_try {X : Cx} {body : List Stmt} {x : Str} {C : Addr} {np hpos pos : Pos} {b₀ : Stmt} {suite : List Stmt} {tb : (St → Value → Hp → Prop) → TS} {ts : TS} (hex : X.ex = []) (hstk : X.stack = X.env :: X.outer) (hf : X.env.frame = some X.env.locals)
    (hg : Gl X x) (hm : X.mg x = some (.ref C)) (hc : ExcC X.K C) (hb : ∀ pins R, Hears (tryCx X pins R) R → PSs (tryCx X pins R) body (tb R)) (hs : ∀ e, PSs (suiteCx X e) (b₀ :: suite) ts) (hdb : (x == ("__debug__" : Str)) = false := by decide) :
    PS X (.Try body [.ExceptHandler (some (.Name x np)) none (b₀ :: suite) hpos] [] [] pos) (tTry C tb ts) := by
  intro pins s σ H D I h
  obtain ⟨R, h1, h2⟩ := h
  refine wpAny_Try_except (wpAny_mono (hb pins R (hears_try hex) [] s σ H D I.intoTry h1) (fun f s1 q => ?_) (fun v s1 q => ?_))
  · have q' := q.outTry
    cases f with
    | next => exact wpAny_execs_nil q'
    | brk => exact q'
    | cont => exact q'
    | ret u => exact q'
  · obtain ⟨a, C', σ', H', rfl, J, ⟨B, a0, fl, ground⟩, ha, _, r⟩ := q
    obtain ⟨e1, h3⟩ := h2 σ' (.ref C') H' r
    cases e1
    have fl0 : Heap.FlyingW B (X.env :: X.outer) a (.ref C) a0 s1.heap := by rw [hstk] at fl; exact fl
    have hfr : X.A.frames = some (X.env :: X.outer) := by rw [← hstk]; exact J.ok.frames
    refine wpAny_looks_onW hfr hf fl0 fun h4 held4 up4 => ?_
    refine wpAny_landsW held4 fun h5 fl5 up5 => ?_
    have J5 : Inv X pins σ' H' { s1 with heap := h5 } := J.fly hstk hf (fun b o q n z => fl5.1 b o (ground b o q n z)) (up4.trans up5)
    obtain ⟨ob, hob, hobc⟩ := fl5.there
    obtain ⟨tl, N, nm, q, bs, hdct, sn, sub, ab, col, dd, k0, k1, k2, k3, k5, mN, _, hC, hN, hni, T⟩ := exc_obj J5.ok.mod.kin hc
    refine wpAny_handleBy_cons (codeAny_handlers_test (ld_glob (J5.intoSuite (.ref a)) hg hm ?_ hdb)) (by intro q; cases q)
    obtain ⟨hh, g, d, tk, os⟩ := s1
    refine wpAny_excMatches_sub_self (J5.bk _ _ hC) hob hobc (T.hasType PySem.F.excBase_ValueError.hasBase) (codeAny_handlers_suite ?_)
    refine lands_againW fl5 fun h6 fl6 up6 => ?_
    have J6 : Inv X pins σ' H' { heap := h6, gens := g, drawn := d, toks := tk, os := os } := J.fly hstk hf (fun b o q n z => fl6.1 b o (ground b o q n z)) ((up4.trans up5).trans up6)
    exact wpAny_mono (hs (.ref a) pins _ σ' H' D (J6.intoSuite _) h3) (fun f s' q => q.outSuite J6.ok) fun _ _ z => False.elim z
end L2
namespace L2
open PySem PySem.Spec PyProof.Rows
section
variable {P : Program} {w : World} {K : PySem.W.Frag} {mg : Str → Option Value} {base : Heap}
theorem Fun.okX {x qual : Str} {st : Stmt} {f : Addr} {fd : FuncData} {N ps : List Str} {k : Nat} {sp : Sp} (F : Fun K x qual st f fd) (S : FnScope N ps (defScope st)) (len : ∀ vs H Q E, sp vs H Q E → vs.length = ps.length)
    (hbody : ∀ (cdv : Value) (A : Around) (outer : List Env) (s : Shared) (H : Hp) (vs : List V) (Q : VK) (E : XK), Room k (A.deeper (envOfC qual (defScope st) s.heap.objs.size f cdv)) → sp vs H Q E →
      ∃ t, PSs (cxOf (CXE P w) P w K mg base N qual (defScope st) f cdv A outer s H E) (defBody st) t ∧ t { nx := fun _ H' => Q .non H', rt := Q } (start N vs) H) : FnOk P w K mg base (CXE P w) (k + 1) f fd ps sp := by
  obtain ⟨oc, od, kV, doc, pm, an, cdv, ct, osl, rfl, lk, hcd⟩ := F.ex
  exact fn_of lk hcd S len fun A outer s H vs Q E hr hsp => hbody cdv A outer s H vs Q E hr hsp
theorem FunD.okX {x qual : Str} {st : Stmt} {f : Addr} {fd : FuncData} {ds : List Value} {N ps : List Str} {k : Nat} {sp : Sp} (F : FunD K x qual st f fd ds) (S : FnScope N ps (defScope st)) (len : ∀ vs H Q E, sp vs H Q E → vs.length = ps.length)
    (hbody : ∀ (cdv : Value) (A : Around) (outer : List Env) (s : Shared) (H : Hp) (vs : List V) (Q : VK) (E : XK), Room k (A.deeper (envOfC qual (defScope st) s.heap.objs.size f cdv)) → sp vs H Q E →
      ∃ t, PSs (cxOf (CXE P w) P w K mg base N qual (defScope st) f cdv A outer s H E) (defBody st) t ∧ t { nx := fun _ H' => Q .non H', rt := Q } (start N vs) H) : FnOk P w K mg base (CXE P w) (k + 1) f fd ps sp := by
  obtain ⟨oc, od, T, kV, doc, pm, an, cdv, ct, osl, oT, n, rfl, lk, hcd, _, _⟩ := F.ex
  exact fn_of lk hcd S len fun A outer s H vs Q E hr hsp => hbody cdv A outer s H vs Q E hr hsp
/-- where no exception is wanted, none comes -/
theorem FnOk.noX {k : Nat} {f : Addr} {fd : FuncData} {ps : List Str} {sp sp' : Sp} (F : FnOk P w K mg base (CXE P w) k f fd ps sp) (h : ∀ vs H Q E, sp' vs H Q E → sp vs H Q (fun _ _ _ => False)) : FnOk P w K mg base CX0 k f fd ps sp' :=
  ⟨fun vs H Q E q => F.len vs H Q _ (h _ _ _ _ q), fun A outer s H args us vs Q E hr he hb hv hs => codeAny_mono (F.run A outer s H args us vs Q _ hr he hb hv (h _ _ _ _ hs)) fun r s' hq => by
    cases r with
    | ok fl => cases fl <;> exact hq
    | error e => obtain ⟨_, _, _, _, _, _, _, _, _, _, _, z⟩ := hq; exact z⟩
theorem FnOk.toX {k : Nat} {f : Addr} {fd : FuncData} {ps : List Str} {sp : Sp} (F : FnOk P w K mg base CX0 k f fd ps sp) : FnOk P w K mg base (CXE P w) k f fd ps sp :=
  ⟨F.len, fun A outer s H args us vs Q E hr he hb hv hs => codeAny_mono (F.run A outer s H args us vs Q E hr he hb hv hs) fun r s' hq => by
    cases r with
    | ok fl => cases fl <;> exact hq
    | error e => exact False.elim hq⟩
end
section
variable {X : Cx}
theorem call_sumT (hc : X.calm = true) : CallR X (.builtin "sum") (fun xs H Q => ∃ (p : Addr) (ns : List Int), xs = [.ref p] ∧ SqT X.K H p (ns.map V.int) ∧ Q (.int ns.sum) H) := by
  intro pins s σ H xs us Q I r h
  obtain ⟨p, ns, rfl, hq, q⟩ := h
  obtain ⟨u, rfl, rx⟩ := vals1 r
  cases rx
  obtain ⟨its, rv, pl, hz⟩ := I.tuple hq
  have hlen := rv.length
  rw [List.length_map] at hlen
  have pt : s.heap.IsTuple p its.toArray := pl
  have hp : p < s.heap.objs.size := by obtain ⟨o, e, _⟩ := pt; exact Heap.lt_size e
  refine call_sum_walkAnyS (wpAny_pyIter_tuple pt ?_)
  refine ⟨s.heap.objs.size, _, _, _, _, _, _, fun i => ns.getD i 0, rfl, (Walks.tuple (A := X.A.in1) (I.ok.hd hc) s.heap.objs.size p (Nat.ne_of_lt hp) its.toArray).toS, ⟨⟨_, Heap.get?_push_size _ rfl, rfl, rfl⟩, pt.at fun o e => Heap.get?_push_of_some _ e⟩, fun b hb => ?_, fun i v h => vals_int_at rv h, fun s' t' m => ?_⟩
  · rw [Heap.size_push]
    rcases List.mem_cons.mp hb with e | e
    · rw [e]; exact Nat.lt_succ_self _
    · have e' : b = p := by simpa using e
      rw [e']; exact Nat.lt_succ_of_lt hp
  · obtain ⟨hh, g, d, t, os⟩ := s'
    obtain ⟨m1, m2, m3, m4, m5⟩ := m
    have m2' : g = s.gens := m2
    have m3' : d = s.drawn := m3
    have m4' : os = s.os := m4
    subst m2' m3' m4'
    have e : preSum (fun i => ns.getD i 0) its.toArray.size = ns.sum := by rw [preSum_getD, List.size_toArray, ← hlen, List.take_length]
    rw [e]
    refine ⟨.int ns.sum, H, I.kept (t' := t) fun b o e => m1 b o (fun hb => ?_) (Heap.get?_push_of_some _ e), ⟨_, rfl⟩, q⟩
    have e' : b = s.heap.objs.size := by simpa using hb
    exact absurd (Heap.lt_size e) (by rw [e']; exact Nat.lt_irrefl _)
end
end L2
namespace L2
open PySem PySem.Spec PyProof.Rows
section
variable {X : Cx} {pins : List (Addr × Obj)} {σ : St} {H : Hp} {s : Shared}
/-- a local name's value is forgotten: of the frame's names the others stay -/
theorem Inv.unset {i : Nat} {x : Str} {m' : Str → Option Value} {h' : Heap} {t' : Nat} (I : Inv X pins σ H s) (hN : X.N.Nodup) (hi : X.N[i]? = some x)
    (hm : ∀ m, s.heap.Ns X.env.locals m → ∀ y, y ≠ x → m' y = m y) (hn : h'.Ns X.env.locals m') (hs : Heap.SameBut X.env.locals s.heap h') : Inv X pins (σ.set i none) H { s with heap := h', toks := t' } := by
  obtain ⟨m, hn0, hl⟩ := id I.loc
  obtain ⟨oL, _, _, hoL, _⟩ := id hn0
  have hiσ : i < σ.length := by rw [I.len]; exact (List.getElem?_eq_some_iff.mp hi).1
  refine ⟨I.ok, I.os, I.bare, ⟨fun b o e n hb hx => ?_, fun b o e n hb hx => ?_, I.base.free, fun b o e hx => ?_, I.base.tups, I.base.frzs, I.base.tbls⟩, ⟨_, hn, fun j y v' e1 e2 e3 => ?_⟩, fun y c e => ?_, I.free, I.freeC, fun p hp => ?_, ?_, by simpa using I.len⟩
  · exact (hs.2 b (Nat.ne_of_lt (Nat.lt_of_lt_of_le (Heap.lt_size e) I.ok.above))).trans (I.base.keep b o e n hb hx)
  · obtain ⟨sl, e1⟩ := I.base.slot b o e n hb hx
    exact ⟨sl, (hs.2 b (Nat.ne_of_lt (Nat.lt_of_lt_of_le (Heap.lt_size e) I.ok.above))).trans e1⟩
  · obtain ⟨o', e1⟩ := I.base.there b o e hx
    exact ⟨o', (hs.2 b (Nat.ne_of_lt (Nat.lt_of_lt_of_le (Heap.lt_size e) I.ok.above))).trans e1⟩
  · by_cases hj : j = i
    · subst hj
      rw [List.getElem?_set_self hiσ] at e2
      cases e2
    · rw [List.getElem?_set_ne (Ne.symm hj)] at e2
      obtain ⟨u', r', q⟩ := hl j y v' e1 e2 e3
      refine ⟨u', r', ?_⟩
      rcases q with ⟨k, e⟩ | ⟨k, c, e, z⟩
      · refine .inl ⟨k, ?_⟩
        have : y ≠ x := fun e => hj (nodup_ix hN e1 (e ▸ hi))
        rw [hm m hn0 y this]
        exact e
      · exact .inr ⟨k, c, e, z.sameBut hs (I.cne y c e)⟩
  · obtain ⟨w', z⟩ := I.cell y c e
    exact ⟨w', z.sameBut hs (I.cne y c e)⟩
  · obtain ⟨e, n, ne, nf, d⟩ := I.pin p hp
    exact ⟨(hs.2 p.1 ne).trans e, n, ne, nf, d⟩
  · refine I.hok.keepT fun b u hb q => (hs.2 b fun z => ?_).trans q
    rw [z] at hb
    exact hb I.free
theorem ns_same {h : Heap} {a : Addr} {m m' : Str → Option Value} (x : h.Ns a m) (y : h.Ns a m') : m = m' := by
  obtain ⟨o, es, ep, ho, hd, _, hf⟩ := x
  obtain ⟨o', es', ep', ho', hd', _, hf'⟩ := y
  rw [ho] at ho'; cases ho'
  rw [hd] at hd'; cases hd'
  funext n
  rw [← hf n, ← hf' n]
/-- behind an except suite with a name: the name goes -/
theorem name_goes {A : Around} {E : Value → Shared → Prop} {i : Nat} {x : Str} {pos : Pos} {Q : Unit → Shared → Prop} (I : Inv X pins σ H s) (hN : X.N.Nodup) (hi : X.N[i]? = some x) (hx : X.env.scope.names.lookup x = some .local)
    (h : ∀ s', Inv X pins (σ.set i none) H s' → Q () s') : wpAny (model X.prog X.w) A (do bindName X.env x .none; unbindBehindTheSuite X.env x pos) Q E s := by
  have hp : (X.env.scope.kind == .class || (X.env.scope.kind == .module && X.env.locals != X.env.globals)) = false := by rw [I.ok.kind]; rfl
  obtain ⟨m, hn, _⟩ := id I.loc
  refine wpAny_bind (wpAny_bindName (wpAny_storeName_local hx hn (fun h₁ hn₁ hs₁ => ?_) hp))
  unfold unbindBehindTheSuite
  refine wpAny_onRaise ?_
  unfold unbindName
  refine wpAny_bind (wpAny_point (wpAny_bind ?_))
  unfold deleteName
  have hl : X.env.kindOf x = some .local := hx
  simp only [hl, hp]
  rw [if_neg (by decide)]
  refine wpAny_bind (wpAny_nsDel_keeps hn₁ fun h₂ v hn₂ hs₂ => ?_)
  simp only [if_true, Option.isSome_some, Bool.not_true, Bool.false_eq_true, if_false]
  refine wpAny_pure (wpAny_point (h _ ?_))
  exact I.unset hN hi (fun m0 h0 y hy => by rw [ns_same h0 hn]; simp [hy]) hn₂ (hs₁.trans hs₂)
/-- an untracked object that is none of the frame's is tracked from here on -/
theorem Inv.track {a : Addr} {o : HO} (I : Inv X pins σ H s) (ha : H a = none) (ap : Apart X pins a) (new : ObjOk X.prog X.w (upd H a o) s.heap a o) : Inv X pins σ (upd H a o) s := by
  obtain ⟨n0, nl, nc, np⟩ := ap
  refine ⟨I.ok, I.os, I.bare, ⟨I.base.keep, I.base.slot, fun b u q n hx => ?_, I.base.there, fun b xs q => ?_, fun b u xs q => ?_, fun b ps q => ?_⟩, I.loc, I.cell, ?_, fun x c e => ?_, fun p hp => ?_, fun b u e => ?_, I.len⟩
  · rw [upd_ne (fun z => by rw [z, n0] at q; cases q)]
    exact I.base.free b u q n hx
  · have := I.base.tups b xs q
    rw [upd_ne (ne_of_none this ha)]; exact this
  · have := I.base.frzs b u xs q
    rw [upd_ne (ne_of_none this ha)]; exact this
  · obtain ⟨more, e⟩ := I.base.tbls b ps q
    exact ⟨more, by rw [upd_ne (ne_of_none e ha)]; exact e⟩
  · rw [upd_ne (Ne.symm nl)]; exact I.free
  · rw [upd_ne (nc x c e)]; exact I.freeC x c e
  · obtain ⟨h1, h2, h3⟩ := I.pin p hp
    exact ⟨h1, by rw [upd_ne (np p hp)]; exact h2, h3⟩
  · by_cases hb : b = a
    · subst hb; rw [upd_same] at e; cases e; exact new
    · rw [upd_ne hb] at e
      exact (I.hok b u e).stay (fun c v _ q => q) (fun c q => by rw [upd_ne (ne_of_none q ha)]; exact q) fun c xs q => by rw [upd_ne (ne_of_none q ha)]; exact q
end
/-- an exception object of the class at C -/
def ExcO (a C : Addr) : HO := .ext fun h => ∃ o vs, h.get? a = some o ∧ o.cls = .ref C ∧ o.data = .fields vs
/-- the exception that is caught: of a class that the clause's class at C0 takes; the name's slot -/
def tTryAs (K : PySem.W.Frag) (C0 : Addr) (i : Nat) (tb : (St → Value → Hp → Prop) → TS) (ts : TS) : TS := fun D σ H => ∃ R : St → Value → Hp → Prop, tb R D σ H ∧ ∀ σ' c H', R σ' c H' → ∃ C, c = .ref C ∧ PySem.W.exmOne K (.ref C) (.ref C0) = some true ∧
  ∀ a, H' a = none → ts { nx := fun σ2 H2 => D.nx (σ2.set i none) H2, rt := D.rt, bk := fun σ2 H2 => D.bk (σ2.set i none) H2, ct := fun σ2 H2 => D.ct (σ2.set i none) H2 } (σ'.set i (some (.ref a))) (upd H' a (ExcO a C))
theorem ps_tryAs {X : Cx} {body : List Stmt} {x n : Str} {C0 : Addr} {i : Nat} {np hpos pos : Pos} {b₀ : Stmt} {suite : List Stmt} {tb : (St → Value → Hp → Prop) → TS} {ts : TS} (hex : X.ex = []) (hstk : X.stack = X.env :: X.outer) (hf : X.env.frame = some X.env.locals)
    (hN : X.N.Nodup) (hi : X.N[i]? = some n) (hl : X.env.scope.names.lookup n = some .local)
    (hg : Gl X x) (hm : X.mg x = some (.ref C0)) (hb : ∀ pins R, Hears (tryCx X pins R) R → PSs (tryCx X pins R) body (tb R)) (hs : ∀ e, PSs (suiteCx X e) (b₀ :: suite) ts) (hdb : (x == ("__debug__" : Str)) = false := by decide) :
    PS X (.Try body [.ExceptHandler (some (.Name x np)) (some n) (b₀ :: suite) hpos] [] [] pos) (tTryAs X.K C0 i tb ts) := by
  intro pins s σ H D I h
  obtain ⟨R, h1, h2⟩ := h
  refine wpAny_Try_except (wpAny_mono (hb pins R (hears_try hex) [] s σ H D I.intoTry h1) (fun f s1 q => ?_) (fun v s1 q => ?_))
  · have q' := q.outTry
    cases f with
    | next => exact wpAny_execs_nil q'
    | brk => exact q'
    | cont => exact q'
    | ret u => exact q'
  · obtain ⟨a, C', σ', H', rfl, J, ⟨B, a0, fl, ground⟩, ha, ap, r⟩ := q
    obtain ⟨C, e1, hexm, h3⟩ := h2 σ' (.ref C') H' r
    cases e1
    have fl0 : Heap.FlyingW B (X.env :: X.outer) a (.ref C') a0 s1.heap := by rw [hstk] at fl; exact fl
    have hfr : X.A.frames = some (X.env :: X.outer) := by rw [← hstk]; exact J.ok.frames
    refine wpAny_looks_onW hfr hf fl0 fun h4 held4 up4 => ?_
    refine wpAny_landsW held4 fun h5 fl5 up5 => ?_
    have J5 : Inv X pins σ' H' { s1 with heap := h5 } := J.fly hstk hf (fun b o q n z => fl5.1 b o (ground b o q n z)) (up4.trans up5)
    obtain ⟨ob, hob, hobc⟩ := fl5.there
    have LT : PySem.W.Looks (model X.prog X.w) h5 (typeOf (.ref a)) (.ref C') := by
      have : PySem.W.Looks (model X.prog X.w) h5 (typeOf (.ref a)) ob.cls := (PySem.W.Looks.ld hob).andThen .now
      rw [hobc] at this
      exact this
    refine wpAny_handleBy_cons (codeAny_handlers_test (ld_glob (J5.intoSuite (.ref a)) hg hm ?_ hdb)) (by intro q; cases q)
    have KI : X.K.In h5 := J5.kIn
    refine (PySem.W.exm_one KI LT hexm).here ?_
    refine codeAny_handlers_suite_as ?_
    refine lands_againW fl5 fun h6 fl6 up6 => ?_
    have J6 : Inv X pins σ' H' { s1 with heap := h6 } := J.fly hstk hf (fun b o q n z => fl6.1 b o (ground b o q n z)) ((up4.trans up5).trans up6)
    obtain ⟨oe, vs, hoe, hoec, hoed, _⟩ := fl6.first
    have new : ObjOk X.prog X.w (upd H' a (ExcO a C')) h6 a (ExcO a C') :=
      ⟨⟨oe, vs, hoe, hoec, hoed⟩, ⟨oe, hoe⟩, fun h1 h2 ⟨o, vs, e1, e2, e3⟩ k => ⟨o, vs, k o e1, e2, e3⟩⟩
    have J7 : Inv X pins σ' (upd H' a (ExcO a C')) { s1 with heap := h6 } := J6.track ha ap new
    refine store_ok (X := suiteCx X (.ref a)) (i := i) (v := .ref a) (J7.intoSuite (.ref a)) hN hi (.inl hl) rfl (fun s7 J8 => ?_) (.inr hl)
    refine wpAny_mono (hs (.ref a) pins _ _ _ _ J8 (h3 a ha)) (fun f s' q => ?_) fun _ _ z => False.elim z
    have q' := q.outSuite J6.ok
    cases f with
    | next => obtain ⟨σ2, H2, I2, q2⟩ := q'; exact name_goes I2 hN hi hl fun s'' I3 => ⟨_, _, I3, q2⟩
    | brk => obtain ⟨σ2, H2, I2, q2⟩ := q'; exact name_goes I2 hN hi hl fun s'' I3 => ⟨_, _, I3, q2⟩
    | cont => obtain ⟨σ2, H2, I2, q2⟩ := q'; exact name_goes I2 hN hi hl fun s'' I3 => ⟨_, _, I3, q2⟩
    | ret u => obtain ⟨v, σ2, H2, I2, r2, q2⟩ := q'; exact name_goes I2 hN hi hl fun s'' I3 => ⟨_, _, _, I3, r2, q2⟩
end L2
namespace L2
open PySem PySem.Spec PySem.Calls PyProof.Rows PySem.W
/-- what a class of exceptions must have for isinstance -/
structure ExcAttr (K : PySem.W.Frag) (C : Addr) : Prop where
  ga : PySem.W.findIn K (.ref C) "__getattribute__" = some (some (.builtin "BaseException.__getattribute__"))
  gn : PySem.W.findIn K (.ref C) "__getattr__" = some none
  ca : PySem.W.findIn K (.ref C) "__class__" = some (some (.builtin "object.__class__"))
  mo : PySem.W.mroIn K C (.type "object") = some true
  mb : PySem.W.subIn K (.ref C) (.type "BaseException") = some true
section
variable {prog : Program} {w : World} {A : Around} {E : Value → Shared → Prop} {h : Heap} {g : Array GenState} {d : Drawn} {t : Nat} {os : OsState} {a C : Addr} {o : Obj} {K : PySem.W.Frag}
open PySem.Builtin PySem.Builtin.ObjectAttr PySem.Builtin.Getset_descriptor in
theorem exc_get {R : Result → Shared → Prop} {tp : Value} (X : K.In h) (Z : ExcAttr K C) (hx : h.get? a = some o) (hc : o.cls = .ref C) (hq : R (.ok (.ret (.ref C))) ⟨h, g, d, t, os⟩) :
    codeAny (model prog w) A (.call (.builtin "getset_descriptor.__get__") ⟨[.builtin "object.__class__", .ref a, tp], []⟩) R ⟨h, g, d, t, os⟩ := by
  have L0 : PySem.W.Looks (model prog w) h (typeOf (.ref a)) (.ref C) := hc ▸ (PySem.W.Looks.ld hx).andThen .now
  have L1 := PySem.W.looks_mroIn (M := model prog w) X Z.mo
  refine codeAny_call_builtin KF.slot_gs.plain KF.entry_gs (KF.slot_gs.check _ _ _ _ _ _ _ _ KF.type_class (KF.args_gs _ _ _) ?_)
  unfold Builtin.«getset_descriptor.__get__» descrGet
  rw [dga_obj]
  refine wpAny_bind (wpAny_pure ?_)
  unfold descrGetter descrCheckInstance descrNameAndClass isInstance
  simp only [KF.owner_class]
  repeat lk
  refine ⟨Code.quiet_builtin _ (by decide +kernel), codeAny_builtin KF.entry_class ?_⟩
  unfold Builtin.«object.__class__» shownTypeOf
  repeat lk
  exact hq
theorem exc_entry {tk : Tok} {Q : Fin → Shared → Prop} (X : K.In h) (Z : ExcAttr K C) (hx : h.get? a = some o) (hc : o.cls = .ref C) (hq : Q (.done (.ret (.ref C))) ⟨h, g, d, t, os⟩) :
    wpAny (model prog w) A (Builtin.«object.__getattribute__» ⟨[.ref a, .str "__class__" tk], []⟩) Q E ⟨h, g, d, t, os⟩ := by
  have hT5 : (⟨h, g, d, t, os⟩ : Shared).TypeIs (.builtin "object.__class__") "getset_descriptor" := F.typeOf_object_class
  have f5 := F.typeOf_object_class
  have f6 := F.slot_gs_get.lookup
  have f7 := F.slot_gs_set.lookup
  have L1 := PySem.W.looks_findIn (M := model prog w) X Z.ca
  repeat (any_goals (first | assumption | (with_reducible refine wpAny_loadPart_at hx ?_; rw [hc]) | with_reducible refine L1.at ?_ | wp_step))
  refine exc_get X Z hx hc ?_
  repeat (any_goals (first | assumption | wp_step))
theorem exc_check {M : Model} {nameV : Value} {Q : Unit → Shared → Prop} (X : K.In h) (Z : ExcAttr K C) (hx : h.get? a = some o) (hc : o.cls = .ref C) (hq : Q () ⟨h, g, d, t, os⟩) :
    wpAny M A (checkBuiltinCall "BaseException.__getattribute__" ⟨[.ref a, nameV], []⟩) Q E ⟨h, g, d, t, os⟩ := by
  have hk : builtinKind "BaseException.__getattribute__" = some .slot := by decide +kernel
  have hsplit : splitId "BaseException.__getattribute__" = some ("BaseException", "__getattribute__") := by decide +kernel
  have L1 : PySem.W.Looks M h (isSubtype (.ref C) (.type "BaseException")) true := PySem.W.looks_subIn X Z.mb
  have ha := F.args_bexc_ga (.ref a) nameV
  simp only [checkBuiltinCall, hk, hsplit]
  refine wpAny_bind ?_
  · unfold isInstance
    repeat (first | (with_reducible refine wpAny_loadPart_at hx ?_; rw [hc]) | with_reducible refine L1.at ?_ | wp_step)
    exact hq
theorem exc_call {tk : Tok} {R : Result → Shared → Prop} (X : K.In h) (Z : ExcAttr K C) (hx : h.get? a = some o) (hc : o.cls = .ref C) (hq : R (.ok (.ret (.ref C))) ⟨h, g, d, t, os⟩) :
    codeAny (model prog w) A (.call (.builtin "BaseException.__getattribute__") ⟨[.ref a, .str "__class__" tk], []⟩) R ⟨h, g, d, t, os⟩ :=
  codeAny_call_builtin PySem.F.attr_ValueError.ga.plain F.entry_bexc_ga (exc_check X Z hx hc (exc_entry X Z hx hc hq))
theorem exc_by {tk : Tok} {fill expr : Bool} {Q : Value → Shared → Prop} (X : K.In h) (Z : ExcAttr K C) (hx : h.get? a = some o) (hc : o.cls = .ref C) (hq : Q (.ref C) ⟨h, g, d, t, os⟩) :
    wpAny (model prog w) A (getAttrBy (.ref a) (.str "__class__" tk) fill expr) Q E ⟨h, g, d, t, os⟩ := by
  have f3 := PySem.F.attr_ValueError.ga.bind (.ref a)
  have hx0 : (expr && onTheHeap (Value.builtin "BaseException.__getattribute__")) = false := by cases expr <;> rfl
  have hx2 : (Value.builtin "BaseException.__getattribute__" == Value.builtin "object.__getattribute__") = false := by decide +kernel
  have hx1 : (onTheHeap (Value.ref C) && Value.builtin "BaseException.__getattribute__" == Value.builtin "object.__getattribute__") = false := by rw [hx2]; rfl
  have L1 := PySem.W.looks_findIn (M := model prog w) X Z.ga
  have L2 := PySem.W.looks_findIn (M := model prog w) X Z.gn
  repeat (any_goals (first | assumption | (with_reducible refine wpAny_loadPart_at hx ?_; rw [hc]) | with_reducible refine L1.at ?_ | with_reducible refine L2.at ?_ | wp_step))
  refine exc_call X Z hx hc ?_
  repeat (any_goals (first | assumption | wp_step))
theorem exc_attr {Q : Option Value → Shared → Prop} (X : K.In h) (Z : ExcAttr K C) (hx : h.get? a = some o) (hc : o.cls = .ref C) (hq : Q (some (.ref C)) ⟨h, g, d, t + 1, os⟩) :
    wpAny (model prog w) A (getAttr? (.ref a) "__class__") Q E ⟨h, g, d, t, os⟩ := by
  unfold getAttr? getAttrBy?
  repeat (any_goals (first | assumption | with_reducible apply exc_by X Z hx hc | wp_step))
end
/-- isinstance of an exception -/
theorem kitx_exc {K : PySem.W.Frag} {a C : Addr} (Z : ExcAttr K C) (hcl : (PySem.W.clsIn K C).isSome = true) : PySem.W.KitX K (.ref a) (.ref C) (fun h => ∃ o vs, h.get? a = some o ∧ o.cls = .ref C ∧ o.data = .fields vs) where
  ty := fun M h _ ⟨o, _, h1, h2, _⟩ => h2 ▸ (PySem.W.Looks.ld h1).andThen .now
  it := fun _ _ X _ => by
    unfold PySem.W.clsIn at hcl
    split at hcl
    · rename_i c' d' cd' sl' ho
      intro A' Q' E' s' k q
      unfold isType loadHead
      exact wpAny_bind (wpAny_loadPart (k _ _ (X _ _ ho)) (wpAny_pure q))
    · cases hcl
  ne := fun h tp dd its n sl X htp => by
    refine Bool.eq_false_iff.mpr fun q => ?_
    have e : C = tp := Value.ref.inj (beq_iff_eq.mp q)
    subst e
    unfold PySem.W.clsIn at hcl
    split at hcl
    · rename_i c' d' cd' sl' ho
      have z := (X _ _ ho).symm.trans htp
      cases z
    · cases hcl
  ca := fun {_ _ _ _ _ s} X ⟨o, _, h1, h2, _⟩ k => by
    obtain ⟨h, g, d, t, os⟩ := s
    exact exc_attr X Z h1 h2 k
section
variable {X : Cx}
/-- isinstance(e, c), e an exception of the class at C; c one class, or a tuple of classes -/
def rIsE (K : PySem.W.Frag) : List V → Hp → VK → Prop := fun xs H Q => ∃ (a C : Addr) (c : V) (b : Bool), xs = [.ref a, c] ∧ H a = some (ExcO a C) ∧ ExcAttr K C ∧ (PySem.W.clsIn K C).isSome = true ∧
  ((∃ u, clsV c = some u ∧ PySem.W.kitOne K (.ref C) u = some b) ∨ ∃ (p : Addr) (ds : List Addr), c = .ref p ∧ H p = some (.tup (ds.map V.ref)) ∧ PySem.W.kitAny K (.ref C) (ds.map Value.ref) = some b) ∧ Q (.bl b) H
theorem vals_refs : ∀ {ds : List Addr} {us : List Value}, Vals (ds.map V.ref) us → us = ds.map Value.ref
  | [], _, r => by cases r; rfl
  | d :: ds, _, r => by
    cases r with
    | cons h t =>
      cases (show _ = Value.ref d from h)
      rw [vals_refs t]
      rfl
theorem call_isE {K : PySem.W.Frag} (hK : X.K = K := by rfl) : CallR X (.builtin "isinstance") (rIsE K) := by
  subst hK
  intro pins s σ H xs us Q I r h
  obtain ⟨a, C, c, b, rfl, ha, Z, hcl, hc, q⟩ := h
  obtain ⟨u1, u2, rfl, r1, r2⟩ := vals2 r
  cases (show u1 = Value.ref a from r1)
  obtain ⟨p, _, _⟩ := (show ObjOk X.prog X.w H s.heap a (ExcO a C) from I.hok a _ ha)
  rcases hc with ⟨u, hu, e⟩ | ⟨tp, ds, rfl, ht, e⟩
  · have e2 : u2 = u := by
      cases c with
      | ty n => cases (show u2 = Value.type n from r2); exact Option.some.inj hu
      | ref a => cases (show u2 = Value.ref a from r2); exact Option.some.inj hu
      | _ => cases hu
    subst e2
    exact PySem.W.kia_one (kitx_exc Z hcl) I.kIn p e (fun z => nomatch z) fun tk => ⟨.bl b, H, I.tok _, rfl, q⟩
  · cases (show u2 = Value.ref tp from r2)
    obtain ⟨_, its, rv, ob, h1, h2, n, h3⟩ := (show ObjOk X.prog X.w H s.heap tp (.tup (ds.map V.ref)) from I.hok tp _ ht)
    have hi := vals_refs rv
    subst hi
    obtain ⟨oc, od, odt, osl⟩ := ob
    dsimp only at h2 h3
    subst h2 h3
    exact PySem.W.kia_tup (kitx_exc Z hcl) I.kIn p h1 e (fun z => nomatch z) fun tk => ⟨.bl b, H, I.tok _, rfl, q⟩
end
end L2
namespace L2
open PySem PySem.Spec PyProof.Rows
section
variable {X : Cx} {x : Str} {C : Addr} {pos p : Pos} {e : Expr} {es : List Expr} {t : TA}
/-- C(e, ..), an exception made as a value -/
def tMkE (C : Addr) (t : TA) : TE := fun σ H Q => t σ H fun vs H1 => vs.length ≤ sizeLine ∧ ∀ a, H1 a = none → Q (.ref a) (upd H1 a (ExcO a C))
theorem pe_mkE (hex : X.ex = []) (hg : Gl X x) (hm : X.mg x = some (.ref C)) (hk : PySem.W.keepIn X.K (.ref C) = true) (hc : ExcC X.K C) (ha : PA X (e :: es) t) (hdb : (x == ("__debug__" : Str)) = false := by decide)
    (he : starEach (e :: es) X.env = (false, eval e X.env) :: starEach es X.env := by rfl) (hpl : (backTo pos (starEach es X.env)).any (·.1) = false := by rfl) : PE X (.Call (.Name x p) (e :: es) [] pos) (tMkE C t) := by
  intro pins s σ H Q I h
  obtain ⟨tl, N, nm, q, bs, hdct, sn, sub, ab, col, dd, k0, k1, k2, k3, k5, mN, _, hC, hN, hni, T⟩ := exc_obj I.ok.mod.kin hc
  refine wpAny_Call_Name_kw (ld_glob I hg hm ?_ hdb)
  refine PySem.W.callWith_K (h₀ := X.base) I.ok.mod.kin hk (thn (ha pos pins s σ H _ I h) fun us s1 ⟨vs, H1, I1, r, hl, q⟩ => ⟨I1.kIn, ?_⟩) he hpl
  obtain ⟨hh, g, d, tk, os⟩ := s1
  show wpAny (model X.prog X.w) X.A (call (.ref C) us) (EP X pins σ Q) X.xe _
  refine wpAny_call_exc_subT (hrest := by rw [← r.length]; exact hl) PySem.F.excBase_ValueError (T.keeps I1.bk) (I1.bk _ _ hC) (hN.keeps I1.bk) hni fun h' a hx => ?_
  have J : Inv X pins σ H1 ⟨h', g, d, tk, os⟩ := I1.kept (t' := tk) hx.keeps
  have hno : hh.get? a = none := hx.new
  have h1n : H1 a = none := by
    cases z : H1 a with
    | none => rfl
    | some v =>
      obtain ⟨u, hu⟩ := I1.hok.there z
      rw [hno] at hu; cases hu
  obtain ⟨t0, ht, _, _⟩ := hx.there
  have ap : Apart X pins a := by
    refine ⟨?_, fun z => ?_, fun x c e z => ?_, fun p hp z => ?_⟩
    · cases z : X.s₀.heap.get? a with
      | none => rfl
      | some v =>
        obtain ⟨u, hu⟩ := I1.base.there a v z (by rw [hex]; simp)
        rw [hno] at hu; cases hu
    · obtain ⟨m, ⟨o, _, _, ho, _⟩, _⟩ := I1.loc
      rw [← z, hno] at ho; cases ho
    · obtain ⟨v, o, ho, _⟩ := I1.cell x c e
      rw [z, hno] at ho; cases ho
    · have ho := (I1.pin p hp).1
      rw [z, hno] at ho; cases ho
  have new : ObjOk X.prog X.w (upd H1 a (ExcO a C)) h' a (ExcO a C) := ⟨⟨_, _, ht, rfl, rfl⟩, ⟨_, ht⟩, fun h1 h2 ⟨o, vs, e1, e2, e3⟩ k => ⟨o, vs, k o e1, e2, e3⟩⟩
  exact ⟨.ref a, _, J.track h1n ap new, rfl, q a h1n⟩
end
end L2
namespace L2
open PySem PySem.Spec PyProof.Rows
section
variable {X : Cx}
theorem op_catS : OpR X (binaryOp .Add) (fun x y H Q => ∃ l b xs zs, x = .ref l ∧ y = .ref b ∧ SqL X.K H l xs ∧ SqL X.K H b zs ∧ xs.length + zs.length ≤ sizeLine ∧ ∀ p, H p = none → Q (.ref p) (upd H p (.lst (xs ++ zs)))) := by
  intro pins s σ H x y v u Q I rx ry h
  obtain ⟨l, b, xs, zs, rfl, rfl, hq, hq2, hz, q⟩ := h
  cases rx
  cases ry
  obtain ⟨its, r, pl, _⟩ := I.list hq
  obtain ⟨its2, r2, pl2, _⟩ := I.list hq2
  obtain ⟨⟨cls, dd, data, sl⟩, ho, hc, n, hd⟩ := id pl.isList
  obtain ⟨⟨cls2, dd2, data2, sl2⟩, ho2, hc2, n2, hd2⟩ := id pl2.isList
  dsimp only at hc hd hc2 hd2
  subst hc hd hc2 hd2
  have e1 := r.length
  have e2 := r2.length
  have ea : its.toArray ++ its2.toArray = (its ++ its2).toArray := by simp
  refine concat_meets ⟨_, ho, rfl⟩ ⟨_, ho2, rfl⟩ noFill_list_add seq_list_add PySem.F.slot_list_add PySem.F.entry_list_add (PySem.F.args_list_add_2 _ _) (list_addW l b its.toArray its2.toArray n n2 dd dd2 sl sl2 (by simp only [List.size_toArray]; omega)) ⟨ho, ho2, ?_⟩
  rw [ea]
  exact ⟨.ref _, _, I.lnew (t' := s.toks) (r.append r2) (by rw [List.length_append]; omega), rfl, q _ I.fresh⟩
end
end L2
namespace L2
open PySem PySem.Spec PyProof.Rows
/-! ### methods that may raise -/
def tMethX (C : Addr) (m : Str) (sp : Sp) (R : St → Value → Hp → Prop) (ta : TE) (t : TA) : TE := fun σ H Q => ta σ H fun x H1 => ∃ a dx fs, x = .ref a ∧ H1 a = some (.ins C dx fs) ∧ fs.lookup m = none ∧
  t σ H1 fun vs H2 => sp (x :: vs) H2 Q (fun c _ H' => R σ c H')
structure MeX (P : Program) (w : World) (K : PySem.W.Frag) (mg : Str → Option Value) (base : Heap) (k : Nat) (C : Addr) (m : Str) (ps : List Str) (sp : Sp) : Prop where
  ex : Cls K C ∧ ∃ (f : Addr) (fd : FuncData), Meth K C m f ∧ FnOk P w K mg base (CXE P w) k f fd ps sp ∧ Binds K fd ps []
section
variable {X : Cx} {R : St → Value → Hp → Prop} {k k' : Nat} {x m : Str} {C : Addr} {ps : List Str} {sp : Sp} {p pos apos : Pos} {o e : Expr} {es : List Expr} {ta : TE} {t : TA}
theorem pe_mX {pl : Sem Bool} (M : MeX X.prog X.w X.K X.mg X.base k C m ps sp) (hx : Hears X R) (hr : Room k' X.A) (ho : PE X o ta) (ha : PA X (e :: es) t) (hk : k ≤ k' := by decide)
    (hst : starEach (e :: es) X.env = (false, eval e X.env) :: starEach es X.env := by rfl) (hpl : (backTo pos (starEach es X.env)).any (·.1) = false := by rfl)
    (ht : eval (.Call (.Attribute o m apos) (e :: es) [] pos) X.env = (do
      let ov ← eval o X.env
      standAt apos.atName
      let (f, first) ← holding [ov] (getMethod ov m pl)
      callWith pos f first (backTo pos (starEach (e :: es) X.env)) (backToKw pos (keywordEach [] X.env))) := by rfl) :
    PE X (.Call (.Attribute o m apos) (e :: es) [] pos) (tMethX C m sp R ta t) := by
  obtain ⟨c, f, fd, hm, G, b⟩ := M.ex
  intro pins s σ H Q I h
  refine PySem.W.methodCall_KW (pl := pl) (thn (ho pins s σ H _ I h) fun u s1 ⟨x, H1, I1, rx, a, dx, fs, ex, ea, l, q⟩ => ?_) ht
  subst ex
  obtain rfl : u = Value.ref a := rx
  refine getmeth_ok I1 ea c hm l ?_
  refine PySem.W.callWith_K (first := [.ref a]) (h₀ := X.base) I.ok.mod.kin hm.kp (thn (ha pos pins s1 σ H1 _ I1 q) fun us s2 ⟨vs, H2, I2, r, q2⟩ => ⟨I2.kIn, ?_⟩) hst hpl
  exact run_fnX (us := .ref a :: us) (vs := .ref a :: vs) (dvs := []) G (hr.mono hk) b .nil hx I2 (.cons rfl r) (by rw [List.append_nil]; exact q2)
theorem pe_mX0 {pl : Sem Bool} (M : MeX X.prog X.w X.K X.mg X.base k C m ps sp) (hx : Hears X R) (hr : Room k' X.A) (ho : PE X o ta) (hk : k ≤ k' := by decide)
    (ht : eval (.Call (.Attribute o m apos) [] [] pos) X.env = (do
      let ov ← eval o X.env
      standAt apos.atName
      let (f, first) ← holding [ov] (getMethod ov m pl)
      callWith pos f first (backTo pos (starEach [] X.env)) (backToKw pos (keywordEach [] X.env))) := by rfl) :
    PE X (.Call (.Attribute o m apos) [] [] pos) (tMethX C m sp R ta tNil) := by
  obtain ⟨c, f, fd, hm, G, b⟩ := M.ex
  intro pins s σ H Q I h
  refine PySem.W.methodCall_KW (pl := pl) (thn (ho pins s σ H _ I h) fun u s1 ⟨x, H1, I1, rx, a, dx, fs, ex, ea, l, q⟩ => ?_) ht
  subst ex
  obtain rfl : u = Value.ref a := rx
  refine getmeth_ok I1 ea c hm l ?_
  exact PySem.W.callWith_K0 (first := [.ref a]) I1.kIn hm.kp (run_fnX (us := [.ref a]) (vs := [.ref a]) (dvs := []) G (hr.mono hk) b .nil hx I1 (.cons rfl .nil) q)
/-- where no exception can come -/
theorem hears_none : Hears X (fun _ _ _ => False) := fun _ _ _ _ _ _ _ ⟨_, _, _, _, _, _, _, _, _, _, _, z⟩ => z.elim
/-- a for within a def that raises -/
theorem own_cx {CX : CXT} {P : Program} {w : World} {K : PySem.W.Frag} {mg : Str → Option Value} {base : Heap} {N : List Str} {qual : Str} {scope : Scope} {f : Addr} {cd : Value} {A : Around} {outer : List Env} {s : Shared} {H : Hp} {E : XK} :
    PassesOwn (model (cxOf CX P w K mg base N qual scope f cd A outer s H E).prog (cxOf CX P w K mg base N qual scope f cd A outer s H E).w) (cxOf CX P w K mg base N qual scope f cd A outer s H E).A (cxOf CX P w K mg base N qual scope f cd A outer s H E).env (cxOf CX P w K mg base N qual scope f cd A outer s H E).xe := by
  intro e s' h
  exact PassesOwn.leaving (Q₁ := fun e s'' => CX outer H s E e s'') (E₁ := fun e' s'' => CX outer H s E e' s'') e s' h
end
end L2
namespace L2
open PySem PySem.Spec PyProof.Rows
/-! ### lists of pairs as tables -/
section
variable {κ : Type} [DecidableEq κ]
def valV (kvs : List (κ × V)) (k : κ) : Option V := (kvs.find? fun kv => decide (kv.1 = k)).map (·.2)
/-- in its place, or at the end -/
def putK (kvs : List (κ × V)) (k : κ) (v : V) : List (κ × V) :=
  if (kvs.any fun kv => decide (kv.1 = k)) = true then kvs.map (fun kv => if kv.1 = k then (kv.1, v) else kv) else kvs ++ [(k, v)]
def dropK (kvs : List (κ × V)) (k : κ) : List (κ × V) := kvs.filter fun kv => decide (kv.1 ≠ k)

theorem valV_nil {k : κ} : valV ([] : List (κ × V)) k = none := rfl
theorem valV_pos {p : κ × V} {r : List (κ × V)} {k : κ} (e : p.1 = k) : valV (p :: r) k = some p.2 := by simp [valV, List.find?_cons, e]
theorem valV_neg {p : κ × V} {r : List (κ × V)} {k : κ} (e : ¬ p.1 = k) : valV (p :: r) k = valV r k := by simp [valV, List.find?_cons, e]
theorem valV_any (k : κ) : ∀ kvs : List (κ × V), (kvs.any fun kv => decide (kv.1 = k)) = (valV kvs k).isSome
  | [] => rfl
  | p :: r => by
    rw [List.any_cons]
    by_cases e : p.1 = k
    · simp only [valV_pos e, decide_eq_true e, Bool.true_or, Option.isSome_some]
    · rw [valV_neg e, decide_eq_false e, Bool.false_or]; exact valV_any k r
theorem valV_map (k j : κ) (y : V) : ∀ kvs : List (κ × V), valV (kvs.map fun kv => if kv.1 = k then (kv.1, y) else kv) j = (valV kvs j).map fun x => if j = k then y else x
  | [] => rfl
  | p :: r => by
    have ih := valV_map k j y r
    rw [List.map_cons]
    by_cases h : p.1 = k
    · rw [if_pos h]
      by_cases e : p.1 = j
      · rw [valV_pos (p := (p.1, y)) e, valV_pos e, Option.map_some, if_pos (e.symm.trans h)]
      · rw [valV_neg (p := (p.1, y)) e, valV_neg e, ih]
    · rw [if_neg h]
      by_cases e : p.1 = j
      · rw [valV_pos (p := p) e, valV_pos e, Option.map_some, if_neg (fun z => h (e.trans z))]
      · rw [valV_neg (p := p) e, valV_neg e, ih]
theorem valV_snoc (k j : κ) (y : V) : ∀ kvs : List (κ × V), valV kvs k = none → valV (kvs ++ [(k, y)]) j = if j = k then some y else valV kvs j
  | [], _ => by
    by_cases e : k = j
    · rw [if_pos e.symm]; exact valV_pos (p := (k, y)) e
    · rw [if_neg (fun z => e z.symm)]; exact valV_neg (p := (k, y)) e
  | p :: r, hn => by
    rw [List.cons_append]
    have hk : ¬ p.1 = k := fun z => by rw [valV_pos z] at hn; cases hn
    rw [valV_neg hk] at hn
    have ih := valV_snoc k j y r hn
    by_cases e : p.1 = j
    · rw [valV_pos e, valV_pos e, if_neg (fun z => hk (e.trans z))]
    · rw [valV_neg e, valV_neg e, ih]
theorem valV_put (kvs : List (κ × V)) (k j : κ) (y : V) : valV (putK kvs k y) j = if j = k then some y else valV kvs j := by
  unfold putK
  by_cases a : (kvs.any fun kv => decide (kv.1 = k)) = true
  · rw [if_pos a, valV_map]
    rw [valV_any] at a
    by_cases e : j = k
    · obtain ⟨x, hx⟩ := Option.isSome_iff_exists.mp a
      rw [if_pos e, e, hx, Option.map_some, if_pos rfl]
    · rw [if_neg e]
      cases valV kvs j with
      | none => rfl
      | some x => rw [Option.map_some, if_neg e]
  · rw [if_neg a]
    refine valV_snoc k j y kvs ?_
    rw [valV_any] at a
    cases q : valV kvs k with
    | none => rfl
    | some x => rw [q] at a; exact (a rfl).elim
theorem length_putK (kvs : List (κ × V)) (k : κ) (v : V) : (putK kvs k v).length ≤ kvs.length + 1 := by
  unfold putK
  split
  · rw [List.length_map]; omega
  · rw [List.length_append, List.length_cons, List.length_nil]; omega
theorem putK_new {kvs : List (κ × V)} {k : κ} (v : V) (h : valV kvs k = none) : putK kvs k v = kvs ++ [(k, v)] := by
  unfold putK
  rw [valV_any, h]
  exact if_neg (by decide)

theorem RelO.isSome_eq {o : Option V} {u : Option Value} (r : RelO o u) : o.isSome = u.isSome := by
  cases o with
  | none => cases u with
    | none => rfl
    | some _ => exact (show False from r).elim
  | some _ => cases u with
    | none => exact (show False from r).elim
    | some _ => rfl
theorem RelO.getD {o : Option V} {u : Option Value} {d : V} {d' : Value} (r : RelO o u) (rd : RelV d d') : RelV (o.getD d) (u.getD d') := by
  cases o with
  | none => cases u with
    | none => exact rd
    | some _ => exact (show False from r).elim
  | some _ => cases u with
    | none => exact (show False from r).elim
    | some _ => exact r

/-- raw tables of the same keys -/
theorem KV.val {kvs : List (κ × V)} {vs : List (κ × Value)} (r : KV kvs vs) (k : κ) : RelO (valV kvs k) (valueAt vs k) := by
  unfold KV at r
  induction r with
  | nil => exact True.intro
  | @cons p q ps qs h t ih =>
    obtain ⟨h1, h2⟩ := h
    by_cases e : p.1 = k
    · have e' : q.1 = k := h1.symm.trans e
      have b : valueAt (q :: qs) k = some q.2 := by simp [valueAt, List.find?_cons, e']
      rw [valV_pos e, b]; exact h2
    · have e' : ¬ q.1 = k := fun z => e (h1.trans z)
      have b : valueAt (q :: qs) k = valueAt qs k := by simp [valueAt, List.find?_cons, e']
      rw [valV_neg e, b]; exact ih
theorem KV.any {kvs : List (κ × V)} {vs : List (κ × Value)} (r : KV kvs vs) (k : κ) : (kvs.any fun kv => decide (kv.1 = k)) = vs.any fun kv => decide (kv.1 = k) := by
  unfold KV at r
  induction r with
  | nil => rfl
  | cons h t ih => rw [List.any_cons, List.any_cons, ih, h.1]
theorem KV.repl {kvs : List (κ × V)} {vs : List (κ × Value)} (r : KV kvs vs) (k : κ) {y : V} {u : Value} (ry : RelV y u) :
    KV (kvs.map fun kv => if kv.1 = k then (kv.1, y) else kv) (vs.map fun kv => if kv.1 = k then (kv.1, u) else kv) := by
  unfold KV at r ⊢
  induction r with
  | nil => exact .nil
  | @cons p q ps qs h t ih =>
    rw [List.map_cons, List.map_cons]
    refine .cons ?_ ih
    obtain ⟨h1, h2⟩ := h
    by_cases e : p.1 = k
    · rw [if_pos e, if_pos (h1.symm.trans e)]; exact ⟨h1, ry⟩
    · rw [if_neg e, if_neg (fun z => e (h1.trans z))]; exact ⟨h1, h2⟩
theorem KV.put {kvs : List (κ × V)} {vs : List (κ × Value)} (r : KV kvs vs) (k : κ) {y : V} {u : Value} (ry : RelV y u) : KV (putK kvs k y) (stored vs k u) := by
  unfold putK stored
  rw [r.any k]
  by_cases e : (vs.any fun kv => decide (kv.1 = k)) = true
  · rw [if_pos e, if_pos e]; exact r.repl k ry
  · rw [if_neg e, if_neg e]; exact Paired.snoc r ⟨rfl, ry⟩
theorem KV.drop {kvs : List (κ × V)} {vs : List (κ × Value)} (r : KV kvs vs) (k : κ) : KV (dropK kvs k) (without vs k) := by
  unfold KV at r ⊢
  unfold dropK without
  induction r with
  | nil => exact .nil
  | @cons p q ps qs h t ih =>
    obtain ⟨h1, h2⟩ := h
    rw [List.filter_cons, List.filter_cons]
    by_cases e : p.1 = k
    · have a : ¬ decide (p.1 ≠ k) = true := by simp [e]
      have b : ¬ decide (q.1 ≠ k) = true := by simp [h1.symm.trans e]
      rw [if_neg a, if_neg b]; exact ih
    · have e' : ¬ q.1 = k := fun z => e (h1.trans z)
      have a : decide (p.1 ≠ k) = true := by simp [e]
      have b : decide (q.1 ≠ k) = true := by simp [e']
      rw [if_pos a, if_pos b]; exact .cons ⟨h1, h2⟩ ih
theorem KV.keys {kvs : List (κ × V)} {vs : List (κ × Value)} (r : KV kvs vs) : kvs.map (·.1) = vs.map (·.1) := by
  unfold KV at r
  induction r with
  | nil => rfl
  | cons h t ih => rw [List.map_cons, List.map_cons, ih, h.1]
theorem KV.length {kvs : List (κ × V)} {vs : List (κ × Value)} (r : KV kvs vs) : kvs.length = vs.length := Paired.length r
theorem dropK_le (kvs : List (κ × V)) (k : κ) : (dropK kvs k).length ≤ kvs.length := List.length_filter_le _ _
end


/-! ### a tracked dict, its keys ints and texts or tuples of these -/
theorem kV_is {P : Program} {w : World} {k : Key} {u : Value} (r : RelV (kV k) u) : (mixKind P w).is k u = true := by
  cases k with
  | inl i => obtain ⟨t, e⟩ := (show ∃ t, u = Value.int i t from r); subst e; exact mixKind_int P w i t
  | inr x => obtain ⟨t, e⟩ := (show ∃ t, u = Value.str x t from r); subst e; exact mixKind_str P w x t
theorem kV_inj {a b : Key} (e : kV a = kV b) : a = b := by
  cases a with
  | inl i => cases b with
    | inl j => have e' : V.int i = V.int j := e; injection e' with e'; rw [e']
    | inr y => exact nomatch (show V.int i = V.str y from e)
  | inr x => cases b with
    | inl j => exact nomatch (show V.str x = V.int j from e)
    | inr y => have e' : V.str x = V.str y := e; injection e' with e'; rw [e']
theorem kVs_inj : ∀ {a b : List Key}, a.map kV = b.map kV → a = b
  | [], [], _ => rfl
  | [], _ :: _, e => by simp at e
  | _ :: _, [], e => by simp at e
  | x :: xs, y :: ys, e => by
    rw [List.map_cons, List.map_cons] at e
    injection e with e1 e2
    rw [kV_inj e1, kVs_inj e2]
theorem items_are {P : Program} {w : World} : ∀ {ks : List Key} {us : List Value}, Vals (ks.map kV) us → ItemsAre (mixKind P w) ks us
  | [], _, r => by rw [List.map_nil] at r; cases r; exact .nil
  | k :: ks, _, r => by
    rw [List.map_cons] at r
    cases r with
    | cons h t => exact .cons (kV_is h) (items_are t)

/-- raw entries of a dict with tuple keys -/
abbrev KT (H : Hp) : List (List Key × V) → List (List Key × Addr × Value) → Prop := Paired fun p q => p.1 = q.1 ∧ H q.2.1 = some (.tup (p.1.map kV)) ∧ RelV p.2 q.2.2
theorem KT.val {H : Hp} {kvs : List (List Key × V)} {xs : List (List Key × Addr × Value)} (r : KT H kvs xs) (k : List Key) : RelO (valV kvs k) ((atKey xs k).map (·.2)) := by
  induction r with
  | nil => exact True.intro
  | @cons p q ps qs h t ih =>
    obtain ⟨h1, _, h2⟩ := h
    by_cases e : p.1 = k
    · have e' : q.1 = k := h1.symm.trans e
      have b : atKey (q :: qs) k = some q.2 := by simp [atKey, List.find?_cons, e']
      rw [valV_pos e, b]; exact h2
    · have e' : ¬ q.1 = k := fun z => e (h1.trans z)
      have b : atKey (q :: qs) k = atKey qs k := by simp [atKey, List.find?_cons, e']
      rw [valV_neg e, b]; exact ih
theorem KT.repl {H : Hp} {kvs : List (List Key × V)} {xs : List (List Key × Addr × Value)} (r : KT H kvs xs) (k : List Key) {y : V} {u : Value} (ry : RelV y u) :
    KT H (kvs.map fun kv => if kv.1 = k then (kv.1, y) else kv) (xs.map (putAt k u)) := by
  induction r with
  | nil => exact .nil
  | @cons p q ps qs h t ih =>
    rw [List.map_cons, List.map_cons]
    refine .cons ?_ ih
    obtain ⟨h1, h2, h3⟩ := h
    unfold putAt
    by_cases e : p.1 = k
    · rw [if_pos e, if_pos (h1.symm.trans e)]; exact ⟨h1, h2, ry⟩
    · rw [if_neg e, if_neg (fun z => e (h1.trans z))]; exact ⟨h1, h2, h3⟩
theorem KT.put {H : Hp} {kvs : List (List Key × V)} {xs : List (List Key × Addr × Value)} (r : KT H kvs xs) (k : List Key) {b : Addr} {y : V} {u : Value} (hb : H b = some (.tup (k.map kV))) (ry : RelV y u) :
    KT H (putK kvs k y) (storedH xs k b u) := by
  have e : (kvs.any fun kv => decide (kv.1 = k)) = (atKey xs k).isSome := by
    rw [valV_any, (r.val k).isSome_eq, Option.isSome_map]
  unfold putK storedH
  rw [e]
  by_cases q : (atKey xs k).isSome = true
  · rw [if_pos q, if_pos q]; exact r.repl k ry
  · rw [if_neg q, if_neg q]; exact Paired.snoc r ⟨rfl, hb, ry⟩
theorem KT.keeps {H H' : Hp} {kvs : List (List Key × V)} {xs : List (List Key × Addr × Value)} (r : KT H kvs xs) (ht : ∀ b ys, H b = some (.tup ys) → H' b = some (.tup ys)) : KT H' kvs xs :=
  Paired.mapP r fun _ _ z => ⟨z.1, ht _ _ z.2.1, z.2.2⟩

section
variable {P : Program} {w : World} {H : Hp} {h : Heap} {a : Addr}
theorem rd_of {u : HO} (ok : HOk P w H h) (e : Rd H a u) : ObjOk P w H h a u := e.ok ok
theorem dk_rd {kvs : List (Key × V)} (ok : HOk P w H h) (e : Rd H a (.dK kvs)) : kvs.length ≤ sizeLine ∧ (a == sysModules) = false ∧ ∃ vs, KV kvs vs ∧ h.DictOf (mixKind P w) a vs :=
  show ObjOk P w H h a (.dK kvs) from rd_of ok e
theorem dk_of {kvs : List (Key × V)} (ok : HOk P w H h) (e : H a = some (.dK kvs)) : kvs.length ≤ sizeLine ∧ (a == sysModules) = false ∧ ∃ vs, KV kvs vs ∧ h.DictOf (mixKind P w) a vs := dk_rd ok (.inl e)
/-- a tracked tuple of ints and texts is a key -/
theorem key_of {ks : List Key} (ok : HOk P w H h) (e : H a = some (.tup (ks.map kV))) : (tupleKind (mixKind P w)).is h ks a := by
  obtain ⟨_, its, r, o, h1, h2, n, h3⟩ := (show ObjOk P w H h a (.tup (ks.map kV)) from ok a _ e)
  exact ⟨o, its.toArray, n, h1, h2, h3, by simpa using items_are r⟩
theorem dt_rd {kvs : List (List Key × V)} (ok : HOk P w H h) (e : Rd H a (.dT kvs)) : kvs.length ≤ sizeLine ∧ (a == sysModules) = false ∧
    ∃ xs, KT H kvs xs ∧ h.DictOfH (tupleKind (mixKind P w)) a xs := by
  obtain ⟨z, y, xs, r, o, es, ep, h1, h2, h3, h4, h5⟩ := (show ObjOk P w H h a (.dT kvs) from rd_of ok e)
  refine ⟨z, y, xs, r, o, es, ep, h1, h2, h3, h4, fun x hx => ?_, h5⟩
  have all : ∀ {l : List (List Key × V)} {m : List (List Key × Addr × Value)}, KT H l m → ∀ x ∈ m, (tupleKind (mixKind P w)).is h x.1 x.2.1 := by
    intro l m q
    induction q with
    | nil => intro x hx; exact nomatch hx
    | @cons p q ps qs hq t ih =>
      intro x hx
      rcases List.mem_cons.mp hx with e | hx
      · subst e
        exact key_of ok (by rw [← hq.1]; exact hq.2.1)
      · exact ih x hx
  exact all r x hx
theorem dt_of {kvs : List (List Key × V)} (ok : HOk P w H h) (e : H a = some (.dT kvs)) : kvs.length ≤ sizeLine ∧ (a == sysModules) = false ∧
    ∃ xs, KT H kvs xs ∧ h.DictOfH (tupleKind (mixKind P w)) a xs := dt_rd ok (.inl e)
end

/-- what the dict at a holds at the key y -/
def DGet (H : Hp) (a : Addr) (y : V) (r : Option V) : Prop :=
  (∃ kvs k, Rd H a (.dK kvs) ∧ y = kV k ∧ r = valV kvs k) ∨ ∃ kvs k b, Rd H a (.dT kvs) ∧ y = .ref b ∧ H b = some (.tup (k.map kV)) ∧ r = valV kvs k
/-- the heap behind a[y] = v -/
def DPut (H : Hp) (a : Addr) (y v : V) (H' : Hp) : Prop :=
  (∃ kvs k, H a = some (.dK kvs) ∧ y = kV k ∧ kvs.length < sizeLine ∧ H' = upd H a (.dK (putK kvs k v))) ∨
  ∃ kvs k b, H a = some (.dT kvs) ∧ y = .ref b ∧ H b = some (.tup (k.map kV)) ∧ kvs.length < sizeLine ∧ H' = upd H a (.dT (putK kvs k v))
theorem DGet.k {H : Hp} {a : Addr} {kvs : List (Key × V)} {k : Key} (e : H a = some (.dK kvs)) : DGet H a (kV k) (valV kvs k) := .inl ⟨kvs, k, .inl e, rfl, rfl⟩
theorem DGet.t {H : Hp} {a b : Addr} {kvs : List (List Key × V)} {k : List Key} (e : H a = some (.dT kvs)) (eb : H b = some (.tup (k.map kV))) : DGet H a (.ref b) (valV kvs k) := .inr ⟨kvs, k, b, .inl e, rfl, eb, rfl⟩
theorem DPut.k {H : Hp} {a : Addr} {kvs : List (Key × V)} {k : Key} {v : V} (e : H a = some (.dK kvs)) (hl : kvs.length < sizeLine) : DPut H a (kV k) v (upd H a (.dK (putK kvs k v))) := .inl ⟨kvs, k, e, rfl, hl, rfl⟩
theorem DPut.t {H : Hp} {a b : Addr} {kvs : List (List Key × V)} {k : List Key} {v : V} (e : H a = some (.dT kvs)) (eb : H b = some (.tup (k.map kV))) (hl : kvs.length < sizeLine) :
    DPut H a (.ref b) v (upd H a (.dT (putK kvs k v))) := .inr ⟨kvs, k, b, e, rfl, eb, hl, rfl⟩


section
variable {X : Cx} {pins : List (Addr × Obj)} {σ : St} {H : Hp} {s : Shared} {a : Addr} {y v : V} {u r : Value} {o : Option V} {A : Around} {E : Value → Shared → Prop}

theorem Inv.big (I : Inv X pins σ H s) : sysModules < s.heap.objs.size := by
  have h : mainGlobals < s.heap.objs.size := (I.mod.glob.keeps I.bk).lt
  exact Nat.lt_trans (by decide) h

/-- d[y], there -/
theorem d_getItem {Q : Value → Shared → Prop} (hu : A.units + 1 < cLine) (I : Inv X pins σ H s) (g : DGet H a y (some v)) (ry : RelV y u) (h : ∀ w' s', Inv X pins σ H s' → RelV v w' → Q w' s') :
    wpAny (model X.prog X.w) A (getItem (.ref a) u) Q E s := by
  rcases g with ⟨kvs, k, e, ey, l⟩ | ⟨kvs, k, b, e, ey, eb, l⟩
  · subst ey
    obtain ⟨z, hd, vs, rel, dd⟩ := dk_rd I.hok e
    obtain ⟨w', hw, rw'⟩ := RelO.some_of (v := v) (o := valueAt vs k) (by rw [l]; exact rel.val k)
    exact wpAny_getItem_of (kV_is ry) dd.mapOf hw (h w' _ (I.tok _) rw')
  · subst ey
    cases (show u = Value.ref b from ry)
    obtain ⟨z, hd, xs, rel, dd⟩ := dt_rd I.hok e
    obtain ⟨w', hw, rw'⟩ := RelO.some_of (v := v) (o := (atKey xs k).map (·.2)) (by rw [l]; exact rel.val k)
    obtain ⟨p, hp, hp2⟩ := Option.map_eq_some_iff.mp hw
    refine wpAny_getItem_heap (tupleKind_room_in1 hu) (key_of I.hok eb) dd hp ?_
    rw [hp2]
    exact h w' _ (I.tok _) rw'
/-- y in d -/
theorem d_in {Q : Value → Shared → Prop} (hu : A.units + 1 < cLine) (I : Inv X pins σ H s) (g : DGet H a y o) (ry : RelV y u) (h : ∀ s', Inv X pins σ H s' → Q (.bool o.isSome) s') :
    wpAny (model X.prog X.w) A (compareOp .In u (.ref a)) Q E s := by
  rcases g with ⟨kvs, k, e, ey, l⟩ | ⟨kvs, k, b, e, ey, eb, l⟩
  · subst ey
    obtain ⟨z, hd, vs, rel, dd⟩ := dk_rd I.hok e
    refine wpAny_in_of (kV_is ry) hd dd.mapOf ?_
    rw [← (rel.val k).isSome_eq, ← l]
    exact h _ (I.tok _)
  · subst ey
    cases (show u = Value.ref b from ry)
    obtain ⟨z, hd, xs, rel, dd⟩ := dt_rd I.hok e
    refine wpAny_in_heap (tupleKind_room_in1 hu) (key_of I.hok eb) hd dd ?_
    have q := (rel.val k).isSome_eq
    rw [Option.isSome_map] at q
    rw [← q, ← l]
    exact h _ (I.tok _)
theorem d_notIn {Q : Value → Shared → Prop} (hu : A.units + 1 < cLine) (I : Inv X pins σ H s) (g : DGet H a y o) (ry : RelV y u) (h : ∀ s', Inv X pins σ H s' → Q (.bool (!o.isSome)) s') :
    wpAny (model X.prog X.w) A (compareOp .NotIn u (.ref a)) Q E s := by
  rcases g with ⟨kvs, k, e, ey, l⟩ | ⟨kvs, k, b, e, ey, eb, l⟩
  · subst ey
    obtain ⟨z, hd, vs, rel, dd⟩ := dk_rd I.hok e
    refine wpAny_notIn_of (kV_is ry) hd dd.mapOf ?_
    rw [← (rel.val k).isSome_eq, ← l]
    exact h _ (I.tok _)
  · subst ey
    cases (show u = Value.ref b from ry)
    obtain ⟨z, hd, xs, rel, dd⟩ := dt_rd I.hok e
    refine wpAny_notIn_heap (tupleKind_room_in1 hu) (key_of I.hok eb) hd dd ?_
    have q := (rel.val k).isSome_eq
    rw [Option.isSome_map] at q
    rw [← q, ← l]
    exact h _ (I.tok _)
/-- a dict's object is replaced -/
theorem d_write {h' : Heap} {t' : Nat} {ob : HO} (I : Inv X pins σ H s) (mu : Mut (H a)) (hs : Heap.SameBut a s.heap h') (he : ∃ q, h'.get? a = some q) (new : ObjOk X.prog X.w (upd H a ob) h' a ob) :
    Inv X pins σ (upd H a ob) { s with heap := h', toks := t' } :=
  I.write (x := a) (e := a) mu (.inl rfl) (fun b q hb z => (hs.2 b hb).trans z) he new
theorem dk_new {P : Program} {w : World} {H' : Hp} {h' : Heap} {kvs : List (Key × V)} {vs : List (Key × Value)} (z : kvs.length ≤ sizeLine) (hd : (a == sysModules) = false) (rel : KV kvs vs) (dd : h'.DictOf (mixKind P w) a vs) :
    ObjOk P w H' h' a (.dK kvs) := ⟨z, hd, vs, rel, dd⟩
/-- d[y] = v -/
theorem d_setItem {H' : Hp} {Q : Unit → Shared → Prop} (hu : A.units + 1 < cLine) (I : Inv X pins σ H s) (g : DPut H a y v H') (ry : RelV y u) (rv : RelV v r) (h : ∀ s', Inv X pins σ H' s' → Q () s') :
    wpAny (model X.prog X.w) A (setItem (.ref a) u r) Q E s := by
  rcases g with ⟨kvs, k, e, ey, l, eH⟩ | ⟨kvs, k, b, e, ey, eb, l, eH⟩
  · subst ey eH
    obtain ⟨z, hd, vs, rel, dd⟩ := dk_of I.hok e
    have hz : vs.length ≤ sizeLine := by rw [← rel.length]; exact z
    have hl : (putK kvs k v).length ≤ sizeLine := by have := length_putK kvs k v; omega
    refine wpAny_setItem_pairs (hsz := hz) (kV_is ry) dd fun h' dd' hs => h _ ?_
    have he : ∃ q, h'.get? a = some q := let ⟨q, _, _, hq, _⟩ := dd'; ⟨q, hq⟩
    exact d_write I (by rw [e]; exact True.intro) hs he (dk_new hl hd (rel.put k rv) dd')
  · subst ey eH
    cases (show u = Value.ref b from ry)
    obtain ⟨z, hd, xs, rel, dd⟩ := dt_of I.hok e
    have hz : xs.length ≤ sizeLine := by rw [← Paired.length rel]; exact z
    have hl : (putK kvs k v).length ≤ sizeLine := by have := length_putK kvs k v; omega
    refine wpAny_setItem_heap (hsz := hz) (tupleKind_room_in1 hu) (key_of I.hok eb) dd fun h' dd' hs => h _ ?_
    obtain ⟨q, es, ep, hq, h2, h3, h4, _, h5⟩ := dd'
    refine d_write I (by rw [e]; exact True.intro) hs ⟨q, hq⟩ ⟨hl, hd, _, (rel.put k eb rv).keeps fun c ys ec => ?_, q, es, ep, hq, h2, h3, h4, h5⟩
    rw [upd_ne (ne_of ec e (fun z => nomatch z))]
    exact ec
end

section
variable {X : Cx} {pins : List (Addr × Obj)} {σ : St} {H : Hp} {s : Shared} {a : Addr} {kvs : List (Key × V)} {k : Key} {u : Value} {A : Around} {E : Value → Shared → Prop}
/-- del d[k] -/
theorem d_delItem {Q : Unit → Shared → Prop} (I : Inv X pins σ H s) (e : H a = some (.dK kvs)) (ry : RelV (kV k) u) (l : (valV kvs k).isSome = true) (h : ∀ s', Inv X pins σ (upd H a (.dK (dropK kvs k))) s' → Q () s') :
    wpAny (model X.prog X.w) A (delItem (.ref a) u) Q E s := by
  obtain ⟨z, hd, vs, rel, dd⟩ := dk_of I.hok e
  refine wpAny_delItem_slot dd.typeIs (by decide) PySem.F.slot_dict_delitem
    (call_meetsIn PySem.F.slot_dict_delitem dd.typeIs PySem.F.entry_dict_delitem (PySem.F.args_dict_delitem_2 _ _) (meets_dict_delitem_pairs (mixKind X.prog X.w) a (kV_is ry)) ⟨vs, dd, by rw [← rel.length]; exact z, by rw [← (rel.val k).isSome_eq]; exact l, fun h' dd' hs => h _ ?_⟩)
  have he : ∃ q, h'.get? a = some q := let ⟨q, _, _, hq, _⟩ := dd'; ⟨q, hq⟩
  exact d_write I (by rw [e]; exact True.intro) hs he (dk_new (Nat.le_trans (dropK_le kvs k) z) hd (rel.drop k) dd')
/-- d.pop(k[, x]), there -/
theorem d_pop {v : V} {more : List Value} {Q : Value → Shared → Prop} (I : Inv X pins σ H s) (e : H a = some (.dK kvs)) (ry : RelV (kV k) u) (l : valV kvs k = some v) (hm : more = [] ∨ ∃ x, more = [x])
    (h : ∀ w' s', Inv X pins σ (upd H a (.dK (dropK kvs k))) s' → RelV v w' → Q w' s') : wpAny (model X.prog X.w) A (call (.builtin "dict.pop") (.ref a :: u :: more)) Q E s := by
  obtain ⟨z, hd, vs, rel, dd⟩ := dk_of I.hok e
  obtain ⟨w', hw, rw'⟩ := RelO.some_of (v := v) (o := valueAt vs k) (by rw [← l]; exact rel.val k)
  have hp : (keyPart u).isSome = true := by
    cases k with
    | inl i => obtain ⟨t, q⟩ := (show ∃ t, u = Value.int i t from ry); subst q; rfl
    | inr x => obtain ⟨t, q⟩ := (show ∃ t, u = Value.str x t from ry); subst q; rfl
  have ha : argsOk "dict.pop" ⟨.ref a :: u :: more, []⟩ := by
    rcases hm with q | ⟨x, q⟩
    · subst q; exact PySem.F.args_dict_pop_2 _ _
    · subst q; exact PySem.F.args_dict_pop_3 _ _ _
  refine call_meetsIn PySem.F.slot_dict_pop dd.typeIs PySem.F.entry_dict_pop ha (meets_dict_pop_there (mixKind X.prog X.w) a (kV_is ry) more hm hp)
    ⟨vs, w', dd, by rw [← rel.length]; exact z, hw, fun h' dd' hs => h w' _ ?_ rw'⟩
  have he : ∃ q, h'.get? a = some q := let ⟨q, _, _, hq, _⟩ := dd'; ⟨q, hq⟩
  exact d_write I (by rw [e]; exact True.intro) hs he (dk_new (Nat.le_trans (dropK_le kvs k) z) hd (rel.drop k) dd')
/-- d.pop(k, x), not there -/
theorem d_popD {r : Value} {Q : Value → Shared → Prop} (I : Inv X pins σ H s) (e : H a = some (.dK kvs)) (ry : RelV (kV k) u) (l : valV kvs k = none) (h : ∀ s', Inv X pins σ H s' → Q r s') :
    wpAny (model X.prog X.w) A (call (.builtin "dict.pop") [.ref a, u, r]) Q E s := by
  obtain ⟨z, hd, vs, rel, dd⟩ := dk_of I.hok e
  have hn : valueAt vs k = none := RelO.none_of (by rw [← l]; exact rel.val k)
  have hp : (keyPart u).isSome = true := by
    cases k with
    | inl i => obtain ⟨t, q⟩ := (show ∃ t, u = Value.int i t from ry); subst q; rfl
    | inr x => obtain ⟨t, q⟩ := (show ∃ t, u = Value.str x t from ry); subst q; rfl
  exact call_meetsIn PySem.F.slot_dict_pop dd.typeIs PySem.F.entry_dict_pop (PySem.F.args_dict_pop_3 _ _ _) (meets_dict_pop_default (mixKind X.prog X.w) a (kV_is ry) hd hp r) ⟨vs, dd, hn, h _ (I.tok _)⟩
/-- d.clear() -/
theorem d_clear {Q : Value → Shared → Prop} (I : Inv X pins σ H s) (e : H a = some (.dK kvs)) (h : ∀ s', Inv X pins σ (upd H a (.dK [])) s' → Q .none s') : wpAny (model X.prog X.w) A (call (.builtin "dict.clear") [.ref a]) Q E s := by
  obtain ⟨z, hd, vs, rel, dd⟩ := dk_of I.hok e
  refine call_meetsIn PySem.F.slot_dict_clear dd.typeIs PySem.F.entry_dict_clear (PySem.F.args_dict_clear_1 _) (meets_dict_clear (mixKind X.prog X.w) a) ⟨vs, dd, by rw [← rel.length]; exact z, fun h' dd' hs => h _ ?_⟩
  have he : ∃ q, h'.get? a = some q := let ⟨q, _, _, hq, _⟩ := dd'; ⟨q, hq⟩
  exact d_write (t' := s.toks) I (by rw [e]; exact True.intro) hs he (dk_new (Nat.zero_le _) hd .nil dd')
/-- len(d) -/
theorem d_len {Q : Value → Shared → Prop} (I : Inv X pins σ H s) (e : Rd H a (.dK kvs)) (h : ∀ t s', Inv X pins σ H s' → Q (.int kvs.length t) s') : wpAny (model X.prog X.w) A (call (.builtin "len") [.ref a]) Q E s := by
  obtain ⟨z, hd, vs, rel, dd⟩ := dk_rd I.hok e
  refine call_len_dict hd dd (by rw [← rel.length]; rw [sizeLine_eq] at z; omega) ?_
  rw [← rel.length]
  exact h _ _ (I.tok _)
/-- if d -/
theorem d_truth {Q : Bool → Shared → Prop} (I : Inv X pins σ H s) (e : Rd H a (.dK kvs)) (h : ∀ s', Inv X pins σ H s' → Q (!kvs.isEmpty) s') : wpAny (model X.prog X.w) A (truthy (.ref a)) Q E s := by
  obtain ⟨z, hd, vs, rel, dd⟩ := dk_rd I.hok e
  refine wpAny_truthy_dict hd dd (by rw [← rel.length]; rw [sizeLine_eq] at z; omega) ?_
  have q : kvs.isEmpty = vs.isEmpty := by cases rel <;> rfl
  rw [← q]
  exact h _ (I.tok _)
end


/-! ### readings and rules -/
/-- the element of a subscription, not a slice -/
def NoSl (i : Expr) : Prop := ∀ ov iv, subscripted i false ov iv = operate [ov, iv] (getItem ov iv)
theorem subD_of {prog : Program} {w : World} {A : Around} {E : Value → Shared → Prop} {s : Shared} {env : Env} {value slice : Expr} {pos : Pos} {T id : String} {Q : Value → Shared → Prop}
    (hl : typeLookup (.type T) "__getitem__" = pure (some (.builtin id))) (hs : NoSl slice)
    (h : wpAny (model prog w) A (eval value env) (fun o s₁ => wpAny (model prog w) A (eval slice env) (fun i s₂ => s₂.TypeIs o T ∧ wpAny (model prog w) A (getItem o i) Q E s₂) E s₁) E s) :
    wpAny (model prog w) A (eval (.Subscript value slice pos) env) Q E s := by
  refine Subscript_ (wpAny_mono h (fun o s₁ h₁ => wpAny_mono h₁ (fun i s₂ h₂ => ?_) fun _ _ x => x) fun _ _ x => x)
  obtain ⟨hT, h₂⟩ := h₂
  unfold subscriptTail
  refine wpAny_bind ?_
  rw [getitemInPython_of_ne hT.not_modules]
  refine wpAny_bind (wpAny_specialOf hT hl ?_)
  have fin : wpAny (model prog w) A (subscripted slice false o i) (fun r s₃ => wpAny (model prog w) A (letTemporaryGo value o r >>= fun _ => pure r) Q E s₃) E s₂ := by
    rw [hs o i]
    exact wpAny_operating (wpAny_mono h₂ (fun r s₃ h₃ => wpAny_bind (wpAny_letTemporaryGo (wpAny_pure h₃))) fun _ _ x => x)
  first
    | exact wpAny_pure (wpAny_bind fin)
    | exact wpAny_bind (wpAny_pure (wpAny_bind fin))
    | exact wpAny_bind fin

theorem dict_typeIs {X : Cx} {pins : List (Addr × Obj)} {σ : St} {H : Hp} {s : Shared} {a : Addr} {y : V} {o : Option V} (I : Inv X pins σ H s) (g : DGet H a y o) : s.TypeIs (.ref a) "dict" := by
  rcases g with ⟨kvs, k, e, _, _⟩ | ⟨kvs, k, b, e, _, _, _⟩
  · obtain ⟨_, _, vs, _, dd⟩ := dk_rd I.hok e
    exact dd.typeIs
  · obtain ⟨_, _, xs, _, dd⟩ := dt_rd I.hok e
    exact dd.typeIs
theorem dict_noDict {X : Cx} {pins : List (Addr × Obj)} {σ : St} {H : Hp} {s : Shared} {a : Addr} {y : V} {o : Option V} (I : Inv X pins σ H s) (g : DGet H a y o) :
    ∀ b, Value.ref a = .ref b → ∃ ob, s.heap.get? b = some ob ∧ ob.dict = none := fun b q => by
  cases q
  rcases g with ⟨kvs, k, e, _, _⟩ | ⟨kvs, k, b, e, _, _, _⟩
  · obtain ⟨_, _, vs, _, ob, _, _, h1, h2, _⟩ := dk_rd I.hok e
    exact ⟨ob, h1, h2.2.1⟩
  · obtain ⟨_, _, xs, _, ob, _, _, h1, h2, _⟩ := dt_rd I.hok e
    exact ⟨ob, h1, h2.2.1⟩

/-- d[y] -/
def tDGet (td ty : TE) : TE := fun σ H Q => td σ H fun x H1 => ty σ H1 fun y H2 => ∃ a v, x = .ref a ∧ DGet H2 a y (some v) ∧ Q v H2
/-- y in d, y not in d -/
def tDIn (ty td : TE) : TE := fun σ H Q => ty σ H fun y H1 => td σ H1 fun x H2 => ∃ a o, x = .ref a ∧ DGet H2 a y o ∧ Q (.bl o.isSome) H2
def tDNotIn (ty td : TE) : TE := fun σ H Q => ty σ H fun y H1 => td σ H1 fun x H2 => ∃ a o, x = .ref a ∧ DGet H2 a y o ∧ Q (.bl (!o.isSome)) H2
/-- d[y] = v -/
def sDPut (td ty tv : TE) : TS := fun D σ H => tv σ H fun v H1 => td σ H1 fun x H2 => ty σ H2 fun y H3 => ∃ a H4, x = .ref a ∧ DPut H3 a y v H4 ∧ D.nx σ H4
/-- d[y] op= v -/
def sDAug (td ty tv : TE) (rd : V → V → Hp → VK → Prop) : TS := fun D σ H => td σ H fun x H1 => ty σ H1 fun y H2 => ∃ a v, x = .ref a ∧ DGet H2 a y (some v) ∧
  tv σ H2 fun y2 H3 => rd v y2 H3 fun z H4 => ∃ H5, DPut H4 a y z H5 ∧ D.nx σ H5
/-- del d[y] -/
def sDDel (td ty : TE) : TS := fun D σ H => td σ H fun x H1 => ty σ H1 fun y H2 => ∃ a kvs k, x = .ref a ∧ H2 a = some (.dK kvs) ∧ y = kV k ∧ (valV kvs k).isSome = true ∧ D.nx σ (upd H2 a (.dK (dropK kvs k)))

section
variable {X : Cx} {o i e value : Expr} {pos pos' tpos : Pos} {td ty tv : TE}
theorem pe_dget (hu : X.A.units + 1 < cLine) (ho : PE X o td) (hi : PE X i ty) (hs : NoSl i) : PE X (.Subscript o i pos) (tDGet td ty) := by
  intro pins s σ H Q I h
  refine subD_of PySem.F.slot_dict_getitem.lookup hs (thn (ho pins s σ H _ I h) fun u s1 ⟨x, H1, I1, rx, q1⟩ => thn (hi pins s1 σ H1 _ I1 q1) fun iv s2 ⟨y, H2, I2, ry, a, v, ex, g, q2⟩ => ?_)
  subst ex
  obtain rfl : u = Value.ref a := rx
  exact ⟨dict_typeIs I2 g, d_getItem hu I2 g ry fun w' s3 I3 rw' => ⟨v, H2, I3, rw', q2⟩⟩
theorem pc_din (hu : X.A.units + 1 < cLine) (hi : PE X i ty) (ho : PE X o td) : PC X .In i o (tDIn ty td) := by
  intro pins s σ H Q I h
  refine thn (hi pins s σ H _ I h) fun iv s1 ⟨y, H1, I1, ry, q1⟩ => thn (ho pins s1 σ H1 _ I1 q1) fun u s2 ⟨x, H2, I2, rx, a, ov, ex, g, q2⟩ => ?_
  subst ex
  obtain rfl : u = Value.ref a := rx
  exact d_in hu I2 g ry fun s3 I3 => ⟨.bl ov.isSome, H2, I3, rfl, q2⟩
theorem pc_dnotin (hu : X.A.units + 1 < cLine) (hi : PE X i ty) (ho : PE X o td) : PC X .NotIn i o (tDNotIn ty td) := by
  intro pins s σ H Q I h
  refine thn (hi pins s σ H _ I h) fun iv s1 ⟨y, H1, I1, ry, q1⟩ => thn (ho pins s1 σ H1 _ I1 q1) fun u s2 ⟨x, H2, I2, rx, a, ov, ex, g, q2⟩ => ?_
  subst ex
  obtain rfl : u = Value.ref a := rx
  exact d_notIn hu I2 g ry fun s3 I3 => ⟨.bl (!ov.isSome), H2, I3, rfl, q2⟩
theorem ps_dput (hu : X.A.units + 1 < cLine) (ho : PE X o td) (hi : PE X i ty) (hv : PE X value tv) (hs : swapsWith value (some (.Subscript o i pos')) pos.line X.env = pure false) :
    PS X (.Assign [.Subscript o i pos'] value pos) (sDPut td ty tv) := by
  intro pins s σ H D I h
  refine wpAny_Assign_Subscript (thn (hv pins s σ H _ I h) fun r s1 ⟨v, H1, I1, rv, q1⟩ => thn (ho pins s1 σ H1 _ I1 q1) fun u s2 ⟨x, H2, I2, rx, q2⟩ => thn (hi pins s2 σ H2 _ I2 q2) fun iv s3 ⟨y, H3, I3, ry, a, H4, ex, g, q3⟩ => ?_) hs
  subst ex
  obtain rfl : u = Value.ref a := rx
  exact d_setItem hu I3 g ry rv fun s4 I4 => ⟨σ, H4, I4, q3⟩
theorem ps_daug {op : Operator} {rd : V → V → Hp → VK → Prop} (hu : X.A.units + 1 < cLine) (ho : PE X o td) (hi : PE X i ty) (hv : PE X value tv) (hop : InOp X op rd)
    (ha : ∀ ov iv new, augStore i ov iv new = (do holding [new, ov, iv] (setItem ov iv new); release [new, ov, iv] []; pure .next)) : PS X (.AugAssign (.Subscript o i tpos) op value pos) (sDAug td ty tv rd) := by
  intro pins s σ H D I h
  refine wpAny_AugAssign_SubscriptAny (thn (ho pins s σ H _ I h) fun u s1 ⟨x, H1, I1, rx, q1⟩ => thn (hi pins s1 σ H1 _ I1 q1) fun iv s2 ⟨y, H2, I2, ry, a, v, ex, g, q2⟩ => ?_) ha
  subst ex
  obtain rfl : u = Value.ref a := rx
  refine d_getItem hu I2 g ry fun w' s3 I3 rw' => thn (hv pins s3 σ H2 _ I3 q2) fun w2 s4 ⟨y2, H3, I4, ry2, q3⟩ => thn (hop pins s4 σ H3 v y2 w' w2 _ I4 rw' ry2 q3) fun w3 s5 ⟨z, H4, I5, rz, H5, g5, q4⟩ => ?_
  exact d_setItem hu I5 g5 ry rz fun s6 I6 => ⟨σ, H5, I6, q4⟩
theorem ps_ddel (ho : PE X o td) (hi : PE X i ty) : PS X (.Delete [.Subscript o i tpos] pos) (sDDel td ty) := by
  intro pins s σ H D I h
  refine wpAny_Delete (wpAny_deleteEach_cons (wpAny_delete_Subscript (thn (ho pins s σ H _ I h) fun u s1 ⟨x, H1, I1, rx, q1⟩ => thn (hi pins s1 σ H1 _ I1 q1) fun iv s2 ⟨y, H2, I2, ry, a, kvs, k, ex, e, ey, l, q2⟩ => ?_)))
  subst ex ey
  obtain rfl : u = Value.ref a := rx
  exact d_delItem I2 e ry l fun s3 I3 => wpAny_deleteEach_nil ⟨σ, _, I3, q2⟩
end


/-! ### displays -/
theorem dk_empty {P : Program} {w : World} {H : Hp} (h : Heap) (hb : sysModules < h.objs.size) : ObjOk P w H (h.push { cls := .type "dict", data := .dict #[] }) h.objs.size (.dK []) :=
  ⟨Nat.zero_le _, beq_eq_false_iff_ne.mpr (Ne.symm (Nat.ne_of_lt hb)), [], .nil, Heap.DictOf.new h⟩
theorem dt_empty {P : Program} {w : World} {H : Hp} (h : Heap) (hb : sysModules < h.objs.size) : ObjOk P w H (h.push { cls := .type "dict", data := .dict #[] }) h.objs.size (.dT []) :=
  ⟨Nat.zero_le _, beq_eq_false_iff_ne.mpr (Ne.symm (Nat.ne_of_lt hb)), [], .nil, _, #[], 0, Heap.get?_push_size _ rfl, ⟨rfl, rfl, rfl⟩, rfl, rfl, List.nodup_nil⟩
/-- {}, to be a dict of the kind that is wanted -/
def tDNewK : TE := fun _ H Q => ∀ p, H p = none → Q (.ref p) (upd H p (.dK []))
def tDNewT : TE := fun _ H Q => ∀ p, H p = none → Q (.ref p) (upd H p (.dT []))
section
variable {X : Cx} {pos : Pos}
theorem pe_dnewK : PE X (.Dict [] [] pos) tDNewK := fun pins s σ H Q I h =>
  wpAny_Dict_empty ⟨.ref s.heap.objs.size, _, I.laid (a := s.heap.objs.size) (o := .dK []) (t' := s.toks) (fun _ _ q => Heap.get?_push_of_some _ q) (Nat.le_refl _) (dk_empty s.heap I.big), rfl, h _ (I.hok.fresh (Nat.le_refl _))⟩
theorem pe_dnewT : PE X (.Dict [] [] pos) tDNewT := fun pins s σ H Q I h =>
  wpAny_Dict_empty ⟨.ref s.heap.objs.size, _, I.laid (a := s.heap.objs.size) (o := .dT []) (t' := s.toks) (fun _ _ q => Heap.get?_push_of_some _ q) (Nat.le_refl _) (dt_empty s.heap I.big), rfl, h _ (I.hok.fresh (Nat.le_refl _))⟩
end

/-- the pairs of a display, from the left -/
def tPairs : List (TE × TE) → St → Hp → (List (V × V) → Hp → Prop) → Prop
  | [], _, H, Q => Q [] H
  | (tk, tv) :: r, σ, H, Q => tk σ H fun x H1 => tv σ H1 fun y H2 => tPairs r σ H2 fun ps H3 => Q ((x, y) :: ps) H3
abbrev VV : List (V × V) → List (Value × Value) → Prop := Paired fun p q => RelV p.1 q.1 ∧ RelV p.2 q.2
def PPs (X : Cx) (pos : Pos) (keys : List (Option Expr)) (values : List Expr) (trs : List (TE × TE)) : Prop :=
  ∀ (pins : List (Addr × Obj)) (s : Shared) (σ : St) (H : Hp) (Q : List (V × V) → Hp → Prop), Inv X pins σ H s → tPairs trs σ H Q →
    wpAny (model X.prog X.w) X.A (evalPairs (pairTrees keys values X.env pos)) (fun vs s' => ∃ ps H', Inv X pins σ H' s' ∧ VV ps vs ∧ Q ps H') X.xe s
theorem pps_nil {X : Cx} {pos : Pos} : PPs X pos [] [] [] := fun pins s σ H Q I h => pairTrees_nil_walk ⟨[], H, I, .nil, h⟩
theorem pps_cons {X : Cx} {pos : Pos} {k v : Expr} {ks : List (Option Expr)} {vs : List Expr} {tk tv : TE} {trs : List (TE × TE)} (hk : PE X k tk) (hv : PE X v tv) (hr : PPs X pos ks vs trs) :
    PPs X pos (some k :: ks) (v :: vs) ((tk, tv) :: trs) := fun pins s σ H Q I h =>
  pairTrees_cons_walk (thn (hk pins s σ H _ I h) fun u s1 ⟨x, H1, I1, rx, q1⟩ => thn (hv pins s1 σ H1 _ I1 q1) fun w2 s2 ⟨y, H2, I2, ry, q2⟩ =>
    thn (hr pins s2 σ H2 _ I2 q2) fun ws s3 ⟨ps, H3, I3, rel, q3⟩ => ⟨(x, y) :: ps, H3, I3, .cons ⟨rx, ry⟩ rel, q3⟩)

def mergeK (kvs more : List (Key × V)) : List (Key × V) := more.foldl (fun acc kv => putK acc kv.1 kv.2) kvs
theorem KV.merge : ∀ {more : List (Key × V)} {rs : List (Key × Value)} {kvs : List (Key × V)} {vs : List (Key × Value)}, KV more rs → KV kvs vs → KV (mergeK kvs more) (merged vs rs) := by
  intro more rs kvs vs r
  unfold KV at r
  induction r generalizing kvs vs with
  | nil => intro q; exact q
  | @cons p q ps qs h t ih =>
    intro r0
    have e : KV (putK kvs p.1 p.2) (stored vs q.1 q.2) := by
      have := r0.put p.1 h.2
      rw [← h.1]; exact this
    exact ih e
theorem length_mergeK : ∀ (more kvs : List (Key × V)), (mergeK kvs more).length ≤ kvs.length + more.length
  | [], kvs => by show kvs.length ≤ kvs.length + 0; omega
  | p :: r, kvs => by
    have h1 := length_mergeK r (putK kvs p.1 p.2)
    have h2 := length_putK kvs p.1 p.2
    show (mergeK (putK kvs p.1 p.2) r).length ≤ _
    rw [List.length_cons]; omega
theorem carries_of {P : Program} {w : World} : ∀ {kvs : List (Key × V)} {ws : List (Value × Value)}, VV (kvs.map fun kv => (kV kv.1, kv.2)) ws → ∃ rs, Carries (mixKind P w) ws rs ∧ KV kvs rs
  | [], _, r => by rw [List.map_nil] at r; cases r; exact ⟨[], True.intro, .nil⟩
  | p :: kvs, _, r => by
    rw [List.map_cons] at r
    cases r with
    | @cons a b as bs h t =>
      obtain ⟨rs, c, q⟩ := carries_of (P := P) (w := w) t
      obtain ⟨b1, b2⟩ := b
      exact ⟨(p.1, b2) :: rs, ⟨kV_is h.1, rfl, c⟩, .cons ⟨rfl, h.2⟩ q⟩
/-- {k: v, ..} with keys ints and texts; the new dict stands empty while the pairs are made -/
def tDisp (trs : List (TE × TE)) : TE := fun σ H Q => ∀ p, H p = none → tPairs trs σ (upd H p (.dK [])) fun ps H2 => H2 p = some (.dK []) ∧ ∃ kvs : List (Key × V), ps = kvs.map (fun kv => (kV kv.1, kv.2)) ∧ kvs.length ≤ 15 ∧ Q (.ref p) (upd H2 p (.dK (mergeK [] kvs)))
theorem pe_disp {X : Cx} {pos : Pos} {keys : List (Option Expr)} {values : List Expr} {trs : List (TE × TE)} (h : PPs X pos keys values trs) (hall : keys.all (·.isSome) = true) (hl : keys.length = values.length) (h0 : keys ≠ [])
    (h15 : keys.length ≤ 15) : PE X (.Dict keys values pos) (tDisp trs) := by
  intro pins s σ H Q I q
  have hn := I.hok.fresh (Nat.le_refl s.heap.objs.size)
  have I1 := I.laid (a := s.heap.objs.size) (o := .dK []) (h' := s.heap.push { cls := .type "dict", data := .dict #[] }) (t' := s.toks) (fun _ _ q => Heap.get?_push_of_some _ q) (Nat.le_refl _) (dk_empty s.heap I.big)
  refine wpAny_Dict_walk (knd := mixKind X.prog X.w) hall hl h0 h15 (thn (h pins _ σ _ _ I1 (q _ hn)) fun ws s2 ⟨ps, H2, I2, rel, e, kvs, ep, lk, q2⟩ => ?_)
  subst ep
  obtain ⟨rs, c, rk⟩ := carries_of (P := X.prog) (w := X.w) rel
  obtain ⟨z, hd, vs0, r0, dd⟩ := dk_of I2.hok e
  cases r0
  refine ⟨rs, c, dd, fun h' dd' hs => ⟨.ref s.heap.objs.size, _, ?_, rfl, q2⟩⟩
  have hz : (mergeK [] kvs).length ≤ sizeLine := by
    have h1 := length_mergeK kvs []
    rw [List.length_nil] at h1
    rw [sizeLine_eq]; omega
  have he : ∃ q, h'.get? s.heap.objs.size = some q := let ⟨q, _, _, hq, _⟩ := dd'; ⟨q, hq⟩
  exact d_write I2 (by rw [e]; exact True.intro) hs he (dk_new hz hd (rk.merge .nil) dd')


end L2
namespace L2
open PySem PySem.Spec PyProof.Rows
/-! ### a method of an instance of one of three classes -/
inductive Kd where
  | plain | basin | pump
structure MeK (P : Program) (w : World) (K : PySem.W.Frag) (mg : Str → Option Value) (base : Heap) (k : Nat) (cs : Kd → Addr) (m : Str) (ps : List Str) (ss : Kd → Sp) : Prop where
  ex : ∀ kd, MeD P w K mg base k (cs kd) m ps (ss kd)
def tMethK (cs : Kd → Addr) (m : Str) (ss : Kd → Sp) (ta : TE) (t : TA) : TE := fun σ H Q => ta σ H fun x H1 => ∃ (kd : Kd) (a dx : Addr) (fs : List (Str × V)), x = .ref a ∧ H1 a = some (.ins (cs kd) dx fs) ∧ fs.lookup m = none ∧
  t σ H1 fun vs H2 => ss kd (x :: vs) H2 Q E0
section
variable {X : Cx} {k k' : Nat} {x m : Str} {cs : Kd → Addr} {ps : List Str} {ss : Kd → Sp} {p pos apos : Pos} {o e : Expr} {es : List Expr} {ta : TE} {t : TA}
theorem pe_mK {pl : Sem Bool} (M : MeK X.prog X.w X.K X.mg X.base k cs m ps ss) (hr : Room k' X.A) (ho : PE X o ta) (ha : PA X (e :: es) t) (hk : k ≤ k' := by decide)
    (hst : starEach (e :: es) X.env = (false, eval e X.env) :: starEach es X.env := by rfl) (hpl : (backTo pos (starEach es X.env)).any (·.1) = false := by rfl)
    (ht : eval (.Call (.Attribute o m apos) (e :: es) [] pos) X.env = (do
      let ov ← eval o X.env
      standAt apos.atName
      let (f, first) ← holding [ov] (getMethod ov m pl)
      callWith pos f first (backTo pos (starEach (e :: es) X.env)) (backToKw pos (keywordEach [] X.env))) := by rfl) :
    PE X (.Call (.Attribute o m apos) (e :: es) [] pos) (tMethK cs m ss ta t) := by
  intro pins s σ H Q I h
  refine PySem.W.methodCall_KW (pl := pl) (thn (ho pins s σ H _ I h) fun u s1 ⟨x, H1, I1, rx, kd, a, dx, fs, ex, ea, l, q⟩ => ?_) ht
  obtain ⟨c, f, fd, hm, G, b⟩ := (M.ex kd).ex
  subst ex
  obtain rfl : u = Value.ref a := rx
  refine getmeth_ok I1 ea c hm l ?_
  refine PySem.W.callWith_K (first := [.ref a]) (h₀ := X.base) I.ok.mod.kin hm.kp (thn (ha pos pins s1 σ H1 _ I1 q) fun us s2 ⟨vs, H2, I2, r, q2⟩ => ⟨I2.kIn, ?_⟩) hst hpl
  exact run_fn (us := .ref a :: us) (vs := .ref a :: vs) (dvs := []) G (hr.mono hk) b .nil pass0 I2 (.cons rfl r) (by rw [List.append_nil]; exact q2)
theorem pe_mK0 {pl : Sem Bool} (M : MeK X.prog X.w X.K X.mg X.base k cs m ps ss) (hr : Room k' X.A) (ho : PE X o ta) (hk : k ≤ k' := by decide)
    (ht : eval (.Call (.Attribute o m apos) [] [] pos) X.env = (do
      let ov ← eval o X.env
      standAt apos.atName
      let (f, first) ← holding [ov] (getMethod ov m pl)
      callWith pos f first (backTo pos (starEach [] X.env)) (backToKw pos (keywordEach [] X.env))) := by rfl) :
    PE X (.Call (.Attribute o m apos) [] [] pos) (tMethK cs m ss ta tNil) := by
  intro pins s σ H Q I h
  refine PySem.W.methodCall_KW (pl := pl) (thn (ho pins s σ H _ I h) fun u s1 ⟨x, H1, I1, rx, kd, a, dx, fs, ex, ea, l, q⟩ => ?_) ht
  obtain ⟨c, f, fd, hm, G, b⟩ := (M.ex kd).ex
  subst ex
  obtain rfl : u = Value.ref a := rx
  refine getmeth_ok I1 ea c hm l ?_
  exact PySem.W.callWith_K0 (first := [.ref a]) I1.kIn hm.kp (run_fn (us := [.ref a]) (vs := [.ref a]) (dvs := []) G (hr.mono hk) b .nil pass0 I1 (.cons rfl .nil) q)
end
end L2
namespace L2
open PySem PySem.Spec PyProof.Rows
/-! ### a dict of the module, its keys texts: read -/
def TopD (w : World) (K : PySem.W.Frag) (a : Addr) : Prop := ∃ es n, K.lookup a = some ⟨.type "dict", none, .dict es n, #[]⟩ ∧ PySem.W.KeysLit w.params es.toList ∧ (a == sysModules) = false
def tTop (w : World) (K : PySem.W.Frag) (td ty : TE) : TE := fun σ H Q => td σ H fun x H1 => ty σ H1 fun y H2 => ∃ (a : Addr) (z : Str) (u : Value) (v : V), x = .ref a ∧ TopD w K a ∧ y = .str z ∧ PySem.W.nsIn K a z = some (some u) ∧ RelV v u ∧ Q v H2
def tTopNot (w : World) (K : PySem.W.Frag) (ty td : TE) : TE := fun σ H Q => ty σ H fun y H1 => td σ H1 fun x H2 => ∃ (a : Addr) (z : Str) (r : Option Value), x = .ref a ∧ TopD w K a ∧ y = .str z ∧ PySem.W.nsIn K a z = some r ∧ Q (.bl (!r.isSome)) H2
section
variable {X : Cx} {K : PySem.W.Frag} {w : World} {o i : Expr} {pos : Pos} {td ty : TE}
theorem pe_dtop (ho : PE X o td) (hi : PE X i ty) (hs : NoSl i) (hK : X.K = K := by rfl) (hw : X.w = w := by rfl) : PE X (.Subscript o i pos) (tTop w K td ty) := by
  subst hK hw
  intro pins s σ H Q I h
  refine subD_of PySem.F.slot_dict_getitem.lookup hs (thn (ho pins s σ H _ I h) fun u s1 ⟨x, H1, I1, rx, q1⟩ => thn (hi pins s1 σ H1 _ I1 q1) fun iv s2 ⟨y, H2, I2, ry, a, z, uv, v, ex, T, ey, e, rv, q2⟩ => ?_)
  subst ex ey
  obtain rfl : u = Value.ref a := rx
  obtain ⟨t, rfl⟩ := ry
  obtain ⟨es, n, hl, hk, _⟩ := T
  have hm := PySem.W.mapOf_K (prog := X.prog) I2.kIn hl hk
  exact ⟨hm.typeIs, wpAny_getItem_of (strKind_is X.prog X.w z t) hm (PySem.W.find_K hl e) ⟨v, H2, I2.tok _, rv, q2⟩⟩
theorem pc_dtopnot (hi : PE X i ty) (ho : PE X o td) (hK : X.K = K := by rfl) (hw : X.w = w := by rfl) : PC X .NotIn i o (tTopNot w K ty td) := by
  subst hK hw
  intro pins s σ H Q I h
  refine thn (hi pins s σ H _ I h) fun iv s1 ⟨y, H1, I1, ry, q1⟩ => thn (ho pins s1 σ H1 _ I1 q1) fun u s2 ⟨x, H2, I2, rx, a, z, r, ex, T, ey, e, q2⟩ => ?_
  subst ex ey
  obtain rfl : u = Value.ref a := rx
  obtain ⟨t, rfl⟩ := ry
  obtain ⟨es, n, hl, hk, lo⟩ := T
  have hm := PySem.W.mapOf_K (prog := X.prog) I2.kIn hl hk
  refine wpAny_notIn_of (strKind_is X.prog X.w z t) lo hm ?_
  rw [PySem.W.find_K hl e]
  exact ⟨.bl (!r.isSome), H2, I2.tok _, rfl, q2⟩
end
/-- a tuple of the module -/
theorem sqt_top {K : PySem.W.Frag} {H : Hp} {a : Addr} {o : Obj} {its : List Value} {n : Nat} {xs : List V} (l : K.lookup a = some o) (c : o.cls = .type "tuple") (d : o.data = .seq its.toArray n) (z : its.length ≤ sizeLine) (v : Vals xs its) : SqT K H a xs :=
  .inr ⟨o, its.toArray, n, l, c, d, by rw [List.size_toArray]; exact z, v⟩
end L2
namespace L2
open PySem PySem.Spec PyProof.Rows
/-! ### == and != of lists whose items are flat, or tuples or lists of flat items -/
inductive DEq (K : PySem.W.Frag) (H : Hp) : V → V → Bool → Prop where
  | flat {x y : V} (hx : flatV x = true) (hy : flatV y = true) : DEq K H x y (eqV x y)
  | same (a : Addr) : DEq K H (.ref a) (.ref a) true
  | tup {a b : Addr} {xs ys : List V} (ne : a ≠ b) (ha : SqT K H a xs) (hb : SqT K H b ys) (fx : xs.all flatV = true) (fy : ys.all flatV = true) : DEq K H (.ref a) (.ref b) (eqs xs ys)
  | lst {a b : Addr} {xs ys : List V} (ne : a ≠ b) (ha : SqL K H a xs) (hb : SqL K H b ys) (fx : xs.all flatV = true) (fy : ys.all flatV = true) : DEq K H (.ref a) (.ref b) (eqs xs ys)
section
variable {X : Cx} {pins : List (Addr × Obj)} {σ : St} {H : Hp} {s : Shared} {A : Around}
theorem DEq.at {x y : V} {u v : Value} {e : Bool} (I : Inv X pins σ H s) (d : DEq X.K H x y e) (rx : RelV x u) (ry : RelV y v) (hu : A.units < cLine) : SeqAt.EqAt A s u v e := by
  cases d with
  | flat hx hy => exact eqAt_V rx ry hx hy
  | same a => cases rx; cases ry; exact SeqAt.EqAt.same _
  | @tup a b xs ys ne ha hb fx fy =>
    cases rx; cases ry
    obtain ⟨its, r, pl, hz⟩ := I.tuple ha
    obtain ⟨its2, r2, pl2, hz2⟩ := I.tuple hb
    have hl := r.length
    have hl2 := r2.length
    have h := SeqAt.RcAt.tuples (A := A) (e := fun j => eqV (xs.getD j .non) (ys.getD j .non)) pl pl2 hu (fun j h1 h2 => eqAt_V (vals_getD r h1) (vals_getD r2 h2) (flat_getD fx (by rw [hl]; simpa using h1)) (flat_getD fy (by rw [hl2]; simpa using h2)))
    have e : ((List.range (min its.toArray.size its2.toArray.size)).all (fun j => eqV (xs.getD j .non) (ys.getD j .non)) && its.toArray.size == its2.toArray.size) = eqs xs ys := by
      unfold eqs
      rw [List.size_toArray, List.size_toArray, ← hl, ← hl2]
    rw [e] at h
    exact SeqAt.EqAt.of_refs ne h
  | @lst a b xs ys ne ha hb fx fy =>
    cases rx; cases ry
    obtain ⟨its, r, pl, hz⟩ := I.list ha
    obtain ⟨its2, r2, pl2, hz2⟩ := I.list hb
    have hl := r.length
    have hl2 := r2.length
    by_cases he : xs.length = ys.length
    · have h := SeqAt.RcAt.lists (A := A) (e := fun j => eqV (xs.getD j .non) (ys.getD j .non)) pl.isList pl2.isList (by rw [List.size_toArray, List.size_toArray, ← hl, ← hl2, he]) hu (fun j h1 h2 => eqAt_V (vals_getD r h1) (vals_getD r2 h2) (flat_getD fx (by rw [hl]; simpa using h1)) (flat_getD fy (by rw [hl2]; simpa using h2)))
      have e : ((List.range its.toArray.size).all (fun j => eqV (xs.getD j .non) (ys.getD j .non))) = eqs xs ys := by
        unfold eqs
        rw [List.size_toArray, ← hl, ← he, Nat.min_self, beq_self_eq_true, Bool.and_true]
      rw [e] at h
      exact SeqAt.EqAt.of_refs ne h
    · have hf : eqs xs ys = false := by
        unfold eqs
        rw [show (xs.length == ys.length) = false from beq_eq_false_iff_ne.mpr he, Bool.and_false]
      rw [hf]
      exact SeqAt.EqAt.of_refs ne (SeqAt.RcAt.lists_lengths pl.isList pl2.isList (by rw [List.size_toArray, List.size_toArray, ← hl, ← hl2]; exact bne_iff_ne.mpr he) hu)
end
section
variable {X : Cx}
def rEqD (K : PySem.W.Frag) (neg : Bool) : R2 := fun x y H Q => ∃ (a b : Addr) (xs ys : List V) (es : List Bool), x = .ref a ∧ y = .ref b ∧ SqL K H a xs ∧ SqL K H b ys ∧ xs.length = ys.length ∧ es.length = xs.length ∧ (∀ j, j < xs.length → DEq K H (xs.getD j .non) (ys.getD j .non) (es.getD j true)) ∧ Q (.bl (if neg then !es.all id else es.all id)) H
theorem op_eqD (hu : X.A.units + 1 < cLine) : OpR X (compareOp .Eq) (rEqD X.K false) := by
  intro pins s σ H x y v u Q I rx ry h
  obtain ⟨a, b, xs, ys, es, rfl, rfl, ha, hb, hlen, hes, hd, q⟩ := h
  cases rx
  cases ry
  obtain ⟨its, r, pl, hz⟩ := I.list ha
  obtain ⟨its2, r2, pl2, hz2⟩ := I.list hb
  have hl := r.length
  have hl2 := r2.length
  refine SeqAt.eq_listAt (e := fun j => es.getD j true) pl.isList pl2.isList (by rw [List.size_toArray, List.size_toArray, ← hl, ← hl2, hlen]) (by omega) (fun j h1 h2 => ?_) ⟨.bl _, H, I, rfl, ?_⟩
  · exact (hd j (by rw [hl]; simpa using h1)).at I (vals_getD r h1) (vals_getD r2 h2) hu
  · rw [List.size_toArray, ← hl, ← hes, range_all_getD]
    exact q
theorem op_neD (hu : X.A.units + 1 < cLine) : OpR X (compareOp .NotEq) (rEqD X.K true) := by
  intro pins s σ H x y v u Q I rx ry h
  obtain ⟨a, b, xs, ys, es, rfl, rfl, ha, hb, hlen, hes, hd, q⟩ := h
  cases rx
  cases ry
  obtain ⟨its, r, pl, hz⟩ := I.list ha
  obtain ⟨its2, r2, pl2, hz2⟩ := I.list hb
  have hl := r.length
  have hl2 := r2.length
  refine SeqAt.RcNeAt.lists (e := fun j => es.getD j true) pl.isList pl2.isList (by rw [List.size_toArray, List.size_toArray, ← hl, ← hl2, hlen]) (by omega) (fun j h1 h2 => ?_) X.prog X.w X.xe _ ⟨.bl _, H, I, rfl, ?_⟩
  · exact (hd j (by rw [hl]; simpa using h1)).at I (vals_getD r h1) (vals_getD r2 h2) hu
  · rw [List.size_toArray, ← hl, ← hes, range_all_getD]
    exact q
/-- xs.index(x), flat items: its first place -/
def rIndex : V → List V → Hp → VK → Prop := fun x vs H Q => ∃ (l : Addr) (xs : List V) (y : V) (j : Nat), x = .ref l ∧ vs = [y] ∧ H l = some (.lst xs) ∧ flatV y = true ∧ xs.all flatV = true ∧ j < xs.length ∧ j ≤ 1000 ∧ eqV (xs.getD j .non) y = true ∧ (∀ i, i < j → eqV (xs.getD i .non) y = false) ∧ Q (.int (j : Int)) H
theorem mt_index : MtM X "list.index" rIndex := by
  intro pins s σ H x vs v us Q I rx rv h
  obtain ⟨l, xs, y, j, rfl, rfl, hH, fy, fx, hj, hj2, he, hno, q⟩ := h
  cases rx
  obtain ⟨u, rfl, ru⟩ := rv.one
  obtain ⟨z, its, n, r, hl, e⟩ := I.lstM hH
  have get : ∀ (m : Nat) (hm : m < its.toArray.size), eqU y its.toArray[m] = eqV (xs.getD m .non) y := fun m hm => eqU_of (vals_getD r hm) (flat_getD fx (by rw [hl]; simpa using hm))
  have hjs : j < its.toArray.size := by rw [List.size_toArray, ← hl]; exact hj
  refine call_meets F.slot_list_index ⟨_, e, rfl⟩ F.entry_list_index (F.args_list_index_2 _ _) (SeqAt.list_indexAt l its.toArray n none #[] u (eqU y) j hjs (by omega) (by rw [get j hjs]; exact he) (fun m hm hlt => by rw [get m hm]; exact hno m hlt)) ⟨e, fun w hw => mem_eqAt ru fy r fx w (by simpa using hw), ⟨.int (j : Int), H, I.tok _, ⟨_, rfl⟩, q⟩⟩
end
end L2
namespace L2
open PySem PySem.Spec PyProof.Rows
/-! ### except C0: (no name) of any class that C0 takes -/
def tTryAny (K : PySem.W.Frag) (C0 : Addr) (tb : (St → Value → Hp → Prop) → TS) (ts : TS) : TS := fun D σ H => ∃ R : St → Value → Hp → Prop, tb R D σ H ∧ ∀ σ' c H', R σ' c H' → ∃ C, c = .ref C ∧ PySem.W.exmOne K (.ref C) (.ref C0) = some true ∧ ts D σ' H'
theorem ps_tryAny {X : Cx} {body : List Stmt} {x : Str} {C0 : Addr} {np hpos pos : Pos} {b₀ : Stmt} {suite : List Stmt} {tb : (St → Value → Hp → Prop) → TS} {ts : TS} (hex : X.ex = []) (hstk : X.stack = X.env :: X.outer) (hf : X.env.frame = some X.env.locals)
    (hg : Gl X x) (hm : X.mg x = some (.ref C0)) (hb : ∀ pins R, Hears (tryCx X pins R) R → PSs (tryCx X pins R) body (tb R)) (hs : ∀ e, PSs (suiteCx X e) (b₀ :: suite) ts) (hdb : (x == ("__debug__" : Str)) = false := by decide) :
    PS X (.Try body [.ExceptHandler (some (.Name x np)) none (b₀ :: suite) hpos] [] [] pos) (tTryAny X.K C0 tb ts) := by
  intro pins s σ H D I h
  obtain ⟨R, h1, h2⟩ := h
  refine wpAny_Try_except (wpAny_mono (hb pins R (hears_try hex) [] s σ H D I.intoTry h1) (fun f s1 q => ?_) (fun v s1 q => ?_))
  · have q' := q.outTry
    cases f with
    | next => exact wpAny_execs_nil q'
    | brk => exact q'
    | cont => exact q'
    | ret u => exact q'
  · obtain ⟨a, C', σ', H', rfl, J, ⟨B, a0, fl, ground⟩, ha, _, r⟩ := q
    obtain ⟨C, e1, hexm, h3⟩ := h2 σ' (.ref C') H' r
    cases e1
    have fl0 : Heap.FlyingW B (X.env :: X.outer) a (.ref C') a0 s1.heap := by rw [hstk] at fl; exact fl
    have hfr : X.A.frames = some (X.env :: X.outer) := by rw [← hstk]; exact J.ok.frames
    refine wpAny_looks_onW hfr hf fl0 fun h4 held4 up4 => ?_
    refine wpAny_landsW held4 fun h5 fl5 up5 => ?_
    have J5 : Inv X pins σ' H' { s1 with heap := h5 } := J.fly hstk hf (fun b o q n z => fl5.1 b o (ground b o q n z)) (up4.trans up5)
    obtain ⟨ob, hob, hobc⟩ := fl5.there
    have LT : PySem.W.Looks (model X.prog X.w) h5 (typeOf (.ref a)) (.ref C') := by
      have : PySem.W.Looks (model X.prog X.w) h5 (typeOf (.ref a)) ob.cls := (PySem.W.Looks.ld hob).andThen .now
      rw [hobc] at this
      exact this
    refine wpAny_handleBy_cons (codeAny_handlers_test (ld_glob (J5.intoSuite (.ref a)) hg hm ?_ hdb)) (by intro q; cases q)
    have KI : X.K.In h5 := J5.kIn
    refine (PySem.W.exm_one KI LT hexm).here ?_
    refine codeAny_handlers_suite ?_
    refine lands_againW fl5 fun h6 fl6 up6 => ?_
    have J6 : Inv X pins σ' H' { s1 with heap := h6 } := J.fly hstk hf (fun b o q n z => fl6.1 b o (ground b o q n z)) ((up4.trans up5).trans up6)
    exact wpAny_mono (hs (.ref a) pins _ σ' H' D (J6.intoSuite _) h3) (fun f s' q => q.outSuite J6.ok) fun _ _ z => False.elim z
end L2
namespace L2
open PySem PySem.Spec PyProof.Rows
/-- f() -/
theorem pe_def0 {X : Cx} {k k' : Nat} {x : Str} {ps : List Str} {dvs : List V} {sp : Sp} {p pos : Pos} (F : Def X.prog X.w X.K X.mg X.base k x ps dvs sp) (hr : Room k' X.A) (hg : Gl X x) (hk : k ≤ k' := by decide) (hdb : (x == ("__debug__" : Str)) = false := by decide) :
    PE X (.Call (.Name x p) [] [] pos) (tCall sp dvs E0 tNil) := by
  obtain ⟨f, fd, ds, G, m, kp, hv, b⟩ := F.ex
  exact pe_call0 G (hr.mono hk) hg m kp b hv pass0 hdb
end L2
namespace L2
open PySem PySem.Spec PyProof.Rows
theorem call_tuple_ofK {X : Cx} (K : PySem.W.Frag) (h : X.K = K := by rfl) : CallR X (.type "tuple") (fun xs H Q => ∃ p ys, xs = [.ref p] ∧ ((SqL K H p ys ∧ ∀ l, H l = none → Q (.ref l) (upd H l (.tup ys))) ∨ (SqT K H p ys ∧ Q (.ref p) H))) := by subst h; exact call_tuple_of
end L2
namespace L2
open PySem PySem.Spec PyProof.Rows
/-! ### int(text), str(int), text.find(text) -/
section
variable {X : Cx}
theorem call_intS : CallR X (.type "int") (fun xs H Q => ∃ (z : Str) (n : Int), xs = [.str z] ∧ z.length ≤ 640 ∧ PySem.intText? z = some n ∧ Q (.int n) H) := by
  intro pins s σ H xs us Q I r h
  obtain ⟨z, n, rfl, hl, hn, q⟩ := h
  obtain ⟨u, rfl, t, rfl⟩ := vals1 r
  exact PySem.W.KIN.call_text hn hl ⟨.int n, H, I.tok _, ⟨_, rfl⟩, q⟩
theorem call_strI : CallR X (.type "str") (fun xs H Q => ∃ n : Int, xs = [.int n] ∧ n.natAbs.log2 < 1920 ∧ Q (.str (Str.ofString (toString n))) H) := by
  intro pins s σ H xs us Q I r h
  obtain ⟨n, rfl, hl, q⟩ := h
  obtain ⟨u, rfl, t, rfl⟩ := vals1 r
  exact P.str_of_int hl ⟨.str (Str.ofString (toString n)), H, I.tok _, ⟨_, rfl⟩, q⟩
/-- a list display of written texts, however long -/
theorem pa_consC {c : Const} {k : Nat} {pos : Pos} {es : List Expr} {te : TE} {t : TA} (ha : PE X (.Constant c k pos) te) (hr : PA X es t) : PA X (.Constant c k pos :: es) (tCons te t) := pa_cons ha hr rfl
def strOf : Expr → Option Str
  | .Constant (.str z) _ _ => some z
  | _ => none
theorem strOf_eq {e : Expr} {z : Str} (h : strOf e = some z) : ∃ k p, e = .Constant (.str z) k p := by
  unfold strOf at h
  split at h
  · cases h; exact ⟨_, _, rfl⟩
  · cases h
def strsOf : List Expr → List Str
  | [] => []
  | e :: r => (strOf e).getD "" :: strsOf r
def allStr : List Expr → Bool
  | [] => true
  | e :: r => (strOf e).isSome && allStr r
def tStrs : List Str → TA
  | [] => tNil
  | z :: r => tCons (tC (.str z)) (tStrs r)
theorem pa_strs : ∀ (es : List Expr), allStr es = true → PA X es (tStrs (strsOf es))
  | [], _ => pa_nil
  | e :: r, h => by
    have h : ((strOf e).isSome && allStr r) = true := h
    rw [Bool.and_eq_true] at h
    obtain ⟨z, hz⟩ := Option.isSome_iff_exists.mp h.1
    obtain ⟨k, p, rfl⟩ := strOf_eq hz
    exact pa_consC pe_str (pa_strs r h.2)
theorem tStrs_of : ∀ (zs : List Str) (σ : St) (H : Hp) (Q : List V → Hp → Prop), Q (zs.map V.str) H → tStrs zs σ H Q
  | [], _, _, _, h => h
  | z :: r, σ, H, Q, h => tStrs_of r σ H (fun xs H2 => Q (.str z :: xs) H2) h
def tStrL (zs : List Str) : TE := fun _ H Q => zs.length ≤ sizeLine ∧ ∀ p, H p = none → Q (.ref p) (upd H p (.lst (zs.map V.str)))
theorem pe_strs {es : List Expr} {pos : Pos} (h : allStr es = true) : PE X (.List es pos) (tStrL (strsOf es)) := fun pins s σ H Q I hq =>
  pe_lst (pa_strs es h) pins s σ H Q I (tStrs_of _ σ H _ ⟨by rw [List.length_map]; exact hq.1, hq.2⟩)
def rFind : V → List V → Hp → VK → Prop := fun x vs H Q => ∃ z y : Str, x = .str z ∧ vs = [.str y] ∧ Q (.int (Txt.find z y)) H
theorem mt_find : MtM X "str.find" rFind := by
  intro pins s σ H x vs v us Q I rx rv h
  obtain ⟨z, y, rfl, rfl, q⟩ := h
  obtain ⟨t, rfl⟩ := rx
  obtain ⟨u, rfl, t', rfl⟩ := rv.one
  exact call_gives F.slot_str_find (typeIs_str _ _ _) F.entry_str_find (F.args_str_find_2 _ _) (gives_str_find z y t t') ⟨.int (Txt.find z y), H, I.tok _, ⟨_, rfl⟩, q⟩
theorem fig_in (c : Nat) : (!(Builtin.Str.occurrences ("0123456789" : Str) ⟨#[c]⟩ 0 ("0123456789" : Str).length 1).isEmpty) = (decide (48 ≤ c) && decide (c ≤ 57)) := by
  rw [PySem.StrLaws.found_one, show ("0123456789" : Str).cps.toList = [48, 49, 50, 51, 52, 53, 54, 55, 56, 57] by decide +kernel]
  rw [← Bool.decide_and]
  refine decide_eq_decide.mpr ⟨fun h => ?_, fun h => ?_⟩
  · simp only [List.mem_cons, List.mem_nil_iff, or_false] at h
    omega
  · simp only [List.mem_cons, List.mem_nil_iff, or_false]
    omega
theorem fig_find {c : Nat} (h1 : 48 ≤ c) (h2 : c ≤ 57) : Txt.find ("0123456789" : Str) ⟨#[c]⟩ = (c : Int) - 48 := by
  obtain ⟨d, rfl⟩ : ∃ d, c = 48 + d := ⟨c - 48, by omega⟩
  have hd : d < 10 := by omega
  rcases d with _ | _ | _ | _ | _ | _ | _ | _ | _ | _ | d
  · decide +kernel
  · decide +kernel
  · decide +kernel
  · decide +kernel
  · decide +kernel
  · decide +kernel
  · decide +kernel
  · decide +kernel
  · decide +kernel
  · decide +kernel
  · omega
end
end L2
namespace L2
open PySem PySem.Spec PyProof.Rows
/-- == of two tuples of flat items -/
theorem op_eqT {X : Cx} (hu : X.A.units < cLine) : OpR X (compareOp .Eq) (rEqT X.K false) := by
  intro pins s σ H x y v u Q I rx ry h
  obtain ⟨a, b, xs, ys, rfl, rfl, ha, hb, fx, fy, q⟩ := h
  cases rx
  cases ry
  obtain ⟨its, r, pl, hz⟩ := I.tuple ha
  obtain ⟨its2, r2, pl2, hz2⟩ := I.tuple hb
  have hl := r.length
  have hl2 := r2.length
  refine SeqAt.eq_tupleAt (e := fun j => eqV (xs.getD j .non) (ys.getD j .non)) pl pl2 hu (fun j h1 h2 => ?_) ⟨.bl _, H, I, rfl, ?_⟩
  · exact eqAt_V (vals_getD r h1) (vals_getD r2 h2) (flat_getD fx (by rw [hl]; simpa using h1)) (flat_getD fy (by rw [hl2]; simpa using h2))
  · have e : ((List.range (min its.toArray.size its2.toArray.size)).all (fun j => eqV (xs.getD j .non) (ys.getD j .non)) && its.toArray.size == its2.toArray.size) = eqs xs ys := by
      unfold eqs
      rw [List.size_toArray, List.size_toArray, ← hl, ← hl2]
    rw [e]
    exact q
end L2
namespace My
open PySem L2
def top (i : Nat) : Stmt := PySem.Challenge.pw_lockhouse_k15_machine_words.main.body.getD i (.Pass ⟨0, 0, 0, 0⟩)
abbrev s_poured_all : Stmt := top 12
abbrev s_parts_not_nought : Stmt := top 18
abbrev s_PlainLock___init__ : Stmt := inClass (top 19) 0
abbrev s_BasinLock___init__ : Stmt := inClass (top 20) 0
abbrev s_PumpLock___init__ : Stmt := inClass (top 21) 0
abbrev s_PlainLock_fill_parts : Stmt := inClass (top 19) 1
abbrev s_BasinLock_fill_parts : Stmt := inClass (top 20) 1
abbrev s_PumpLock_fill_parts : Stmt := inClass (top 21) 1
abbrev s_PlainLock_let_parts : Stmt := inClass (top 19) 2
abbrev s_BasinLock_let_parts : Stmt := inClass (top 20) 2
abbrev s_filling : Stmt := top 9
abbrev s_letting : Stmt := top 10
abbrev s_Chamber___init__ : Stmt := inClass (top 16) 0
abbrev s_Chamber_waters : Stmt := inClass (top 16) 1
abbrev s_Chamber_gates : Stmt := inClass (top 16) 2
abbrev s_Chamber_boat : Stmt := inClass (top 16) 3
abbrev s_Chamber_stands_at : Stmt := inClass (top 16) 13
abbrev s_Chamber_after_pours : Stmt := inClass (top 16) 14
abbrev s_Chamber_refuse_open_gate : Stmt := inClass (top 16) 11
abbrev s_Chamber_refuse_shut_gate : Stmt := inClass (top 16) 12
abbrev s_Chamber_open_gate : Stmt := inClass (top 16) 5
abbrev s_Chamber_shut_gate : Stmt := inClass (top 16) 6
abbrev s_Chamber_fill_chamber : Stmt := inClass (top 16) 7
abbrev s_Chamber_let_chamber : Stmt := inClass (top 16) 8
abbrev s_Chamber_boat_in : Stmt := inClass (top 16) 9
abbrev s_Chamber_boat_out : Stmt := inClass (top 16) 10
abbrev s_Chamber_do : Stmt := inClass (top 16) 4
abbrev s__law_whole : Stmt := top 23
abbrev s__law_cell_at : Stmt := top 24
abbrev s__law_number : Stmt := top 25
abbrev s__law_side : Stmt := top 26
abbrev s__law_held : Stmt := top 27
abbrev s__law_lock : Stmt := top 28
abbrev s__law_fill_gains : Stmt := top 29
abbrev s__law_let_gains : Stmt := top 30
abbrev s__law_water : Stmt := top 31
abbrev s__law_four : Stmt := top 32
abbrev s__law_pair : Stmt := top 33
abbrev s__law_words : Stmt := top 34
abbrev s__law_stray : Stmt := top 35
abbrev s__law_due_gate : Stmt := top 36
abbrev s__law_due : Stmt := top 37
abbrev s__law_behind : Stmt := top 38
abbrev s__law_choice : Stmt := top 39
abbrev s__law_told : Stmt := top 40
abbrev s__law_names : Stmt := top 41
abbrev s__law_looks : Stmt := top 42
abbrev s_law : Stmt := top 43

theorem sameT {K : PySem.W.Frag} {H H' : Hp} {a : Addr} {xs : List V} (e : Same H H') (h : SqT K H a xs) : SqT K H' a xs := by
  rcases h with (h | ⟨o, h⟩) | h
  · exact .inl (.inl (e _ _ h))
  · exact .inl (.inr ⟨o, e _ _ h⟩)
  · exact .inr h
theorem same_new {H : Hp} {p : Addr} (h : H p = none) (o : HO) : Same H (upd H p o) := fun b u q => by rw [upd_ne (ne_of_none q h)]; exact q
theorem small {n : Nat} (h : n ≤ 1000) : n ≤ sizeLine := Nat.le_of_lt (small1000 h)
/-- a list or a tuple of ints -/
def Ints (K : PySem.W.Frag) (H : Hp) (a : Addr) (ws : List Int) : Prop := SqL K H a (ws.map V.int) ∨ SqT K H a (ws.map V.int)
theorem Ints.same {K : PySem.W.Frag} {H H' : Hp} {a : Addr} {ws : List Int} (e : Same H H') (h : Ints K H a ws) : Ints K H' a ws := by
  rcases h with h | h
  · exact .inl (e.seq h)
  · exact .inr (sameT e h)
theorem ixN_nat {n s : Nat} (h : s < n) : ixN n (s : Int) = some s := by
  unfold ixN
  rw [if_pos (by omega), if_pos (by omega)]
  simp
theorem atI_ints {ws : List Int} {s : Nat} (h : s < ws.length) : atI (ws.map V.int) (s : Int) = some (.int (ws.getD s 0)) := by
  refine atI_nat ?_
  rw [List.getElem?_map, List.getElem?_eq_getElem h, List.getD_eq_getElem?_getD, List.getElem?_eq_getElem h]
  rfl
theorem rIx_ints {K : PySem.W.Frag} {H : Hp} {p : Addr} {ws : List Int} {s : Nat} {Q : VK} (h : Ints K H p ws) (hs : s < ws.length) (q : Q (.int (ws.getD s 0)) H) : rIx K (.ref p) (.int s) H Q := by
  rcases h with h | h
  · exact .inl ⟨p, _, s, _, rfl, rfl, h, atI_ints hs, q⟩
  · exact .inr (.inl ⟨p, _, s, _, rfl, rfl, h, atI_ints hs, q⟩)
theorem map_set_int (ws : List Int) (s : Nat) (z : Int) : (ws.map V.int).set s (V.int z) = (ws.set s z).map V.int := by rw [List.map_set]
theorem cutV_ints (ns : List Int) (lo hi : Option Int) : ∃ ms : List Int, cutV (ns.map V.int) lo hi = ms.map V.int ∧ ms.length ≤ ns.length := by
  refine ⟨(ns.drop (HT.sIx ns.length 0 lo)).take (HT.sIx ns.length ns.length hi - HT.sIx ns.length 0 lo), ?_, ?_⟩
  · unfold cutV
    rw [List.length_map, List.map_take, List.map_drop]
  · rw [List.length_take, List.length_drop]
    omega
theorem get_ints {ms : List Int} {i : Nat} {x : V} (h : (ms.map V.int)[i]? = some x) : ∃ z, x = V.int z ∧ ms[i]? = some z := by
  rw [List.getElem?_map] at h
  cases e : ms[i]? with
  | none => rw [e] at h; cases h
  | some z => rw [e] at h; exact ⟨z, (Option.some.inj h).symm, rfl⟩
theorem snoc_ints (ms : List Int) (z : Int) : ms.map V.int ++ [V.int z] = (ms ++ [z]).map V.int := by simp
theorem all_flat_ints (ms : List Int) : (ms.map V.int).all flatV = true := by
  rw [List.all_eq_true]
  intro x hx
  obtain ⟨z, _, rfl⟩ := List.mem_map.mp hx
  rfl
theorem getD_int (ms : List Int) (k : Nat) : (ms.map V.int)[k]? = (ms[k]?).map V.int := List.getElem?_map ..
theorem toNat_mod {a b : Int} (h : 0 < b) : ∃ k : Nat, a % b = (k : Int) ∧ (k : Int) < b := by
  have h1 := Int.emod_nonneg a (by omega : b ≠ 0)
  have h2 := Int.emod_lt_of_pos a h
  exact ⟨(a % b).toNat, by omega, by omega⟩
/-- any int comes back: what a drawing helper promises -/
def spInt1 : Sp := fun vs H Q _ => ∃ c : Int, vs = [.int c] ∧ ∀ n : Int, Q (.int n) H
/-- the cell of a script at a place, or 0 -/
def spCell (K : PySem.W.Frag) : Sp := fun vs H Q _ => ∃ (a : Addr) (ns : List Int) (k : Nat), vs = [.ref a, .int k] ∧ SqL K H a (ns.map V.int) ∧ Q (.int (ns.getD k 0)) H
def spWhole : Sp := fun vs H Q _ => ∃ i : Int, vs = [.int i] ∧ Q (.bl true) H
/-- found is a tuple of the ints ms, due a list of them: True -/
def spSame (K : PySem.W.Frag) : Sp := fun vs H Q _ => ∃ (a b : Addr) (ms : List Int), vs = [.ref a, .ref b] ∧ H a = some (.tup (ms.map V.int)) ∧ SqL K H b (ms.map V.int) ∧ ms.length ≤ 1000 ∧ Q (.bl true) H
def spLaw (K : PySem.W.Frag) : Sp := fun vs H Q _ => ∃ (a : Addr) (ns : List Int), vs = [.ref a] ∧ SqL K H a (ns.map V.int) ∧ ns.length ≤ 63 ∧ ∀ H', Q (.bl true) H'

/-- one pour: source, target, amount -/
def pour (ws : List Int) (q : Nat × Nat × Int) : List Int := ((ws.set q.1 (ws.getD q.1 0 - q.2.2))).set q.2.1 ((ws.set q.1 (ws.getD q.1 0 - q.2.2)).getD q.2.1 0 + q.2.2)
theorem pour_length (ws : List Int) (q : Nat × Nat × Int) : (pour ws q).length = ws.length := by unfold pour; rw [List.length_set, List.length_set]
def pourAll (ws : List Int) (qs : List (Nat × Nat × Int)) : List Int := qs.foldl pour ws
theorem pourAll_length (qs : List (Nat × Nat × Int)) : ∀ ws : List Int, (pourAll ws qs).length = ws.length := by
  induction qs with
  | nil => intro ws; rfl
  | cons q r ih => intro ws; show (pourAll (pour ws q) r).length = _; rw [ih, pour_length]
theorem pourAll_snoc (ws : List Int) (qs : List (Nat × Nat × Int)) (q : Nat × Nat × Int) : pourAll ws (qs ++ [q]) = pour (pourAll ws qs) q := by
  unfold pourAll; rw [List.foldl_append]; rfl
theorem pourAll_take (ws : List Int) (qs : List (Nat × Nat × Int)) (i : Nat) (q : Nat × Nat × Int) (h : qs[i]? = some q) : pourAll ws (qs.take (i + 1)) = pour (pourAll ws (qs.take i)) q := by
  rw [List.take_add_one, h]; exact pourAll_snoc ..
/-- the list's items are tuples of pours, whose places stand among n vessels -/
def PoursAt (K : PySem.W.Frag) (H : Hp) (rs : List V) (qs : List (Nat × Nat × Int)) (n : Nat) : Prop :=
  rs.length = qs.length ∧ ∀ (i : Nat) (r : V), rs[i]? = some r → ∃ (a : Addr) (s t : Nat) (m : Int), r = .ref a ∧ qs[i]? = some (s, t, m) ∧ SqT K H a [.int s, .int t, .int m] ∧ s < n ∧ t < n
theorem PoursAt.same {K : PySem.W.Frag} {H H' : Hp} {rs : List V} {qs : List (Nat × Nat × Int)} {n : Nat} (e : Same H H') (h : PoursAt K H rs qs n) : PoursAt K H' rs qs n := by
  refine ⟨h.1, fun i r hi => ?_⟩
  obtain ⟨a, s, t, m, h1, h2, h3, h4⟩ := h.2 i r hi
  exact ⟨a, s, t, m, h1, h2, sameT e h3, h4⟩
/-- what poured_all promises: a new tuple -/
def spAll (K : PySem.W.Frag) : Sp := fun vs H Q _ => ∃ (w p : Addr) (ws : List Int) (rs : List V) (qs : List (Nat × Nat × Int)), vs = [.ref w, .ref p] ∧ Ints K H w ws ∧ SqL K H p rs ∧ PoursAt K H rs qs ws.length ∧ ws.length ≤ 1000 ∧
  ∀ (r : Addr) (H' : Hp), Same H H' → H r = none → H' r = some (.tup ((pourAll ws qs).map V.int)) → Q (.ref r) H'
/-- what poured promises where it is not refused -/
def spPoured (K : PySem.W.Frag) : Sp := fun vs H Q _ => ∃ (w : Addr) (ws : List Int) (s t : Nat) (m : Int) (kp : V), vs = [.ref w, .int s, .int t, .int m, kp] ∧ Ints K H w ws ∧ s < ws.length ∧ t < ws.length ∧ ws.length ≤ 1000 ∧
  (kp = .non ∨ ∃ k : Int, kp = .int k ∧ k ≤ ws.getD s 0 - m) ∧
  ∀ (r : Addr) (H' : Hp), Same H H' → H r = none → H' r = some (.tup ((pour ws (s, t, m)).map V.int)) → Q (.ref r) H'

/-- all but the object at d is as it was -/
def Keep (d : Addr) (H H' : Hp) : Prop := ∀ b o, b ≠ d → H b = some o → H' b = some o
theorem Keep.refl (d : Addr) (H : Hp) : Keep d H H := fun _ _ _ q => q
theorem Keep.of {d : Addr} {H H' : Hp} (s : Same H H') : Keep d H H' := fun b o _ q => s b o q
theorem Keep.trans {d : Addr} {H H1 H2 : Hp} (a : Keep d H H1) (b : Keep d H1 H2) : Keep d H H2 := fun c o n q => b c o n (a c o n q)
theorem Keep.upd {d : Addr} {H H' : Hp} (k : Keep d H H') (o : HO) : Keep d H (upd H' d o) := fun b u n q => by rw [upd_ne n]; exact k b u n q
theorem Keep.sqt {K : PySem.W.Frag} {d a : Addr} {H H' : Hp} {xs : List V} {ys : List V} (k : Keep d H H') (hd : H d = some (.lst ys)) (h : SqT K H a xs) : SqT K H' a xs := by
  rcases h with (h | ⟨o, h⟩) | h
  · exact .inl (.inl (k _ _ (ne_of h hd (fun z => nomatch z)) h))
  · exact .inl (.inr ⟨o, k _ _ (ne_of h hd (fun z => nomatch z)) h⟩)
  · exact .inr h
theorem Keep.sql {K : PySem.W.Frag} {d a : Addr} {H H' : Hp} {xs : List V} (k : Keep d H H') (hn : a ≠ d) (h : SqL K H a xs) : SqL K H' a xs := by
  rcases h with (h | ⟨o, h⟩) | h
  · exact .inl (.inl (k _ _ hn h))
  · exact .inl (.inr ⟨o, k _ _ hn h⟩)
  · exact .inr h
theorem Keep.pours {K : PySem.W.Frag} {d : Addr} {H H' : Hp} {rs ys : List V} {qs : List (Nat × Nat × Int)} {n : Nat} (k : Keep d H H') (hd : H d = some (.lst ys)) (h : PoursAt K H rs qs n) : PoursAt K H' rs qs n := by
  refine ⟨h.1, fun i r hi => ?_⟩
  obtain ⟨a, s, t, m, h1, h2, h3, h4⟩ := h.2 i r hi
  exact ⟨a, s, t, m, h1, h2, k.sqt hd h3, h4⟩
theorem PoursAt.snoc {K : PySem.W.Frag} {H : Hp} {rs : List V} {qs : List (Nat × Nat × Int)} {n s t : Nat} {m : Int} {a : Addr} (h : PoursAt K H rs qs n) (ht : SqT K H a [.int s, .int t, .int m]) (hs : s < n) (hn : t < n) : PoursAt K H (rs ++ [.ref a]) (qs ++ [(s, t, m)]) n := by
  refine ⟨by rw [List.length_append, List.length_append, h.1]; rfl, fun i r hi => ?_⟩
  by_cases hl : i < rs.length
  · rw [List.getElem?_append_left hl] at hi
    obtain ⟨b, s', t', m', h1, h2, h3⟩ := h.2 i r hi
    exact ⟨b, s', t', m', h1, by rw [List.getElem?_append_left (by rw [← h.1]; exact hl)]; exact h2, h3⟩
  · rw [List.getElem?_append_right (by omega)] at hi
    have hz : i - rs.length = 0 := by
      have := (List.getElem?_eq_some_iff.mp hi).1
      rw [List.length_singleton] at this
      omega
    rw [hz] at hi
    have e : V.ref a = r := Option.some.inj hi
    refine ⟨a, s, t, m, e.symm, ?_, ht, hs, hn⟩
    rw [List.getElem?_append_right (by rw [← h.1]; omega), ← h.1, hz]
    rfl
theorem pours_items {K : PySem.W.Frag} {H : Hp} {rs : List V} {qs : List (Nat × Nat × Int)} {n : Nat} (h : PoursAt K H rs qs n) : ∀ x ∈ rs, ∃ a, x = V.ref a := by
  intro x hx
  obtain ⟨i, hi, e⟩ := List.mem_iff_getElem.mp hx
  obtain ⟨a, _, _, _, h1, _⟩ := h.2 i x (by rw [List.getElem?_eq_getElem hi, e])
  exact ⟨a, h1⟩
theorem PoursAt.cut {K : PySem.W.Frag} {H : Hp} {rs : List V} {qs : List (Nat × Nat × Int)} {n : Nat} (h : PoursAt K H rs qs n) (i j : Nat) : PoursAt K H ((rs.drop i).take j) ((qs.drop i).take j) n := by
  refine ⟨by rw [List.length_take, List.length_take, List.length_drop, List.length_drop, h.1], fun k r hk => ?_⟩
  rw [List.getElem?_take] at hk ⊢
  by_cases hj : k < j
  · rw [if_pos hj] at hk ⊢
    rw [List.getElem?_drop] at hk ⊢
    exact h.2 _ r hk
  · rw [if_neg hj] at hk
    cases hk

def numberK (c : Int) : Int := if c % 5 = 0 then c / 5 % 4 else if c % 5 = 1 then 999999999999 - c / 5 % 3 else c / 5 % 1000000000000
def roomK (c : Int) : Int := 1 + numberK c % 999999999999
theorem roomK_pos (c : Int) : 1 ≤ roomK c := by
  unfold roomK
  have h := Int.emod_nonneg (numberK c) (by decide : (999999999999 : Int) ≠ 0)
  omega
def lettersS : Str := "abcdefghijklmnopqrstuvwxyz"
theorem letters_len : lettersS.cps.toList.length = 26 := by decide +kernel
theorem letters_small : lettersS.length ≤ sizeLine := by decide +kernel
def letterK (z : Nat) : Nat := lettersS.cps.toList.getD z 0
def nameUp (c : Int) : Nat → Str
  | 0 => ""
  | j + 1 => nameUp c j ++ ⟨#[letterK (c / ((0 : Int) + (j : Int) + 1) % 26).toNat]⟩
theorem nameUp_len (c : Int) : ∀ j : Nat, (nameUp c j).length = j
  | 0 => by
    show (("" : Str)).length = 0
    decide +kernel
  | j + 1 => by
    show (nameUp c j ++ _).length = _
    rw [Str.length_append, nameUp_len c j]
    rfl
def nameK (c : Int) : Str := nameUp c (1 + c % 12).toNat
theorem atI_letter {z : Int} (h0 : 0 ≤ z) (h1 : z < 26) : atI lettersS.cps.toList z = some (letterK z.toNat) := by
  have h := atI_nat (xs := lettersS.cps.toList) (j := z.toNat) (v := letterK z.toNat) (by
    unfold letterK
    rw [List.getD_eq_getElem?_getD, List.getElem?_eq_getElem (by rw [letters_len]; omega)]
    rfl)
  have e : ((z.toNat : Nat) : Int) = z := by omega
  rwa [e] at h
/-- a lock's attributes, in the order in which they are stored -/
def lockFs (n h l r : V) : List (Str × V) := putF "room" r (putF "low" l (putF "high" h (putF "name" n [])))
theorem ne_nh : ¬ (("name" : Str) = "high") := by decide +kernel
theorem ne_nl : ¬ (("name" : Str) = "low") := by decide +kernel
theorem ne_nr : ¬ (("name" : Str) = "room") := by decide +kernel
theorem ne_hl : ¬ (("high" : Str) = "low") := by decide +kernel
theorem ne_hr : ¬ (("high" : Str) = "room") := by decide +kernel
theorem ne_lr : ¬ (("low" : Str) = "room") := by decide +kernel
theorem lk_name (n h l r : V) : (lockFs n h l r).lookup ("name" : Str) = some n := by
  unfold lockFs
  rw [lookup_putF, if_neg ne_nr, lookup_putF, if_neg ne_nl, lookup_putF, if_neg ne_nh, lookup_putF, if_pos rfl]
theorem lk_high (n h l r : V) : (lockFs n h l r).lookup ("high" : Str) = some h := by
  unfold lockFs
  rw [lookup_putF, if_neg ne_hr, lookup_putF, if_neg ne_hl, lookup_putF, if_pos rfl]
theorem lk_low (n h l r : V) : (lockFs n h l r).lookup ("low" : Str) = some l := by
  unfold lockFs
  rw [lookup_putF, if_neg ne_lr, lookup_putF, if_pos rfl]
theorem lk_room (n h l r : V) : (lockFs n h l r).lookup ("room" : Str) = some r := by
  unfold lockFs
  rw [lookup_putF, if_pos rfl]
theorem lk_no (n h l r : V) {m : Str} (h1 : ¬ m = "room") (h2 : ¬ m = "low") (h3 : ¬ m = "high") (h4 : ¬ m = "name") : (lockFs n h l r).lookup m = none := by
  unfold lockFs
  rw [lookup_putF, if_neg h1, lookup_putF, if_neg h2, lookup_putF, if_neg h3, lookup_putF, if_neg h4]
  rfl
/-- the list's items are tuples (text, number) -/
def PartsAt (H : Hp) (rs : List V) (ps : List (Str × Int)) : Prop := rs.length = ps.length ∧ ∀ (i : Nat) (r : V), rs[i]? = some r → ∃ (a : Addr) (s : Str) (n : Int), r = .ref a ∧ ps[i]? = some (s, n) ∧ H a = some (.tup [.str s, .int n])
theorem PartsAt.nil {H : Hp} : PartsAt H [] [] := ⟨rfl, fun i r hi => by cases hi⟩
theorem PartsAt.keep {H H' : Hp} {d : Addr} {ys rs : List V} {ps : List (Str × Int)} (k : Keep d H H') (hd : H d = some (.lst ys)) (h : PartsAt H rs ps) : PartsAt H' rs ps := by
  refine ⟨h.1, fun i r hi => ?_⟩
  obtain ⟨a, s, n, h1, h2, h3⟩ := h.2 i r hi
  exact ⟨a, s, n, h1, h2, k _ _ (ne_of h3 hd (fun z => nomatch z)) h3⟩
theorem PartsAt.same {H H' : Hp} {rs : List V} {ps : List (Str × Int)} (e : Same H H') (h : PartsAt H rs ps) : PartsAt H' rs ps := by
  refine ⟨h.1, fun i r hi => ?_⟩
  obtain ⟨a, s, n, h1, h2, h3⟩ := h.2 i r hi
  exact ⟨a, s, n, h1, h2, e _ _ h3⟩
theorem PartsAt.snoc {H : Hp} {rs : List V} {ps : List (Str × Int)} {s : Str} {n : Int} {a : Addr} (h : PartsAt H rs ps) (ht : H a = some (.tup [.str s, .int n])) : PartsAt H (rs ++ [.ref a]) (ps ++ [(s, n)]) := by
  refine ⟨by rw [List.length_append, List.length_append, h.1]; rfl, fun i r hi => ?_⟩
  by_cases hl : i < rs.length
  · rw [List.getElem?_append_left hl] at hi
    obtain ⟨b, s', n', h1, h2, h3⟩ := h.2 i r hi
    exact ⟨b, s', n', h1, by rw [List.getElem?_append_left (by rw [← h.1]; exact hl)]; exact h2, h3⟩
  · rw [List.getElem?_append_right (by omega)] at hi
    have hz : i - rs.length = 0 := by
      have := (List.getElem?_eq_some_iff.mp hi).1
      rw [List.length_singleton] at this
      omega
    rw [hz] at hi
    have e : V.ref a = r := Option.some.inj hi
    refine ⟨a, s, n, e.symm, ?_, ht⟩
    rw [List.getElem?_append_right (by rw [← h.1]; omega), ← h.1, hz]
    rfl
def notNought (q : Str × Int) : Bool := !decide (q.2 = 0)
def spNot (K : PySem.W.Frag) : Sp := fun vs H Q _ => ∃ (p : Addr) (rs : List V) (ps : List (Str × Int)), vs = [.ref p] ∧ SqL K H p rs ∧ PartsAt H rs ps ∧ rs.length ≤ 10 ∧
  ∀ (r : Addr) (H' : Hp) (rs' : List V), Same H H' → H r = none → H' r = some (.lst rs') → PartsAt H' rs' (ps.filter notNought) → Q (.ref r) H'
def spInit (C : Addr) : Sp := fun vs H Q _ => ∃ (x dx : Addr) (n h l r : V), vs = [.ref x, n, h, l, r] ∧ H x = some (.ins C dx []) ∧ ∀ H' : Hp, Keep x H H' → H' x = some (.ins C dx (lockFs n h l r)) → Q .non H'
/-- a method that tells parts: of the lock at x with the fields fs, what ps says -/
def spPartsOf (C : Addr) (ok : List (Str × V) → V → List (Str × Int) → Prop) : Sp := fun vs H Q _ => ∃ (x dx : Addr) (fs : List (Str × V)) (b : V) (ps : List (Str × Int)), vs = [.ref x, b] ∧ H x = some (.ins C dx fs) ∧ ok fs b ps ∧
  ∀ (r : Addr) (H' : Hp) (rs : List V), Same H H' → H r = none → H' r = some (.lst rs) → PartsAt H' rs ps → Q (.ref r) H'
def spTells (C : Addr) (ok : List (Str × V) → V → Prop) : Sp := fun vs H Q _ => ∃ (x dx : Addr) (fs : List (Str × V)) (v : V), vs = [.ref x] ∧ H x = some (.ins C dx fs) ∧ ok fs v ∧ Q v H
def spNumber : Sp := fun vs H Q _ => ∃ c : Int, vs = [.int c] ∧ Q (.int (numberK c)) H
def spRoom : Sp := fun vs H Q _ => ∃ c : Int, vs = [.int c] ∧ Q (.int (roomK c)) H
def spName : Sp := fun vs H Q _ => ∃ c : Int, vs = [.int c] ∧ Q (.str (nameK c)) H
def spPartsEq : Sp := fun vs H Q _ => ∃ (f d : Addr) (rs₁ rs₂ : List V) (ps : List (Str × Int)), vs = [.ref f, .ref d] ∧ H f = some (.lst rs₁) ∧ H d = some (.lst rs₂) ∧ PartsAt H rs₁ ps ∧ PartsAt H rs₂ ps ∧ ps.length ≤ 10 ∧ Q (.bl true) H
theorem dec_eq_int {i j : Int} (h : decide (V.int i = V.int j) = true) : i = j := V.int.inj (of_decide_eq_true h)
theorem dec_ne_int {i j : Int} (h : ¬ decide (V.int i = V.int j) = true) : ¬ i = j := fun e => h (by rw [e]; exact decide_eq_true rfl)
theorem part_item {H : Hp} {rs : List V} {ps : List (Str × Int)} (h : PartsAt H rs ps) {k : Nat} (hk : k < ps.length) : ∃ a, atI rs (k : Int) = some (V.ref a) ∧ H a = some (.tup [.str (ps.getD k ("", 0)).1, .int (ps.getD k ("", 0)).2]) := by
  have hk' : k < rs.length := by rw [h.1]; exact hk
  obtain ⟨a, s, n, h1, h2, h3⟩ := h.2 k rs[k] (List.getElem?_eq_getElem hk')
  refine ⟨a, atI_nat (by rw [List.getElem?_eq_getElem hk', h1]), ?_⟩
  rw [List.getD_eq_getElem?_getD, h2]
  exact h3
/-- the cell ahead (the last one's for the first) -/
def prevC (cs : List Int) (k : Nat) : Int := cs.getD (if k = 0 then cs.length - 1 else k - 1) 0
theorem atI_prev {cs : List Int} {k : Nat} (h : k < cs.length) : atI (cs.map V.int) ((k : Int) - 1) = some (.int (prevC cs k)) := by
  unfold prevC
  by_cases hk : k = 0
  · subst hk
    rw [if_pos rfl]
    have e : ixN (cs.map V.int).length (((0 : Nat) : Int) - 1) = some (cs.length - 1) := by
      unfold ixN
      rw [if_neg (by omega), if_pos (by rw [List.length_map]; omega), List.length_map]
      congr 1
      omega
    unfold atI
    rw [e]
    show (cs.map V.int)[cs.length - 1]? = _
    rw [List.getElem?_map, List.getD_eq_getElem?_getD, List.getElem?_eq_getElem (by omega : cs.length - 1 < cs.length)]
    rfl
  · rw [if_neg hk]
    have e : (k : Int) - 1 = ((k - 1 : Nat) : Int) := by omega
    rw [e]
    exact atI_ints (by omega)

def plainhigh (fs : List (Str × V)) (_ : V) (ps : List (Str × Int)) : Prop := ∃ r : Int, fs.lookup ("room" : Str) = some (.int r) ∧ ps = ([("high", r)] : List (Str × Int)).filter notNought
def plainlow (fs : List (Str × V)) (_ : V) (ps : List (Str × Int)) : Prop := ∃ r : Int, fs.lookup ("room" : Str) = some (.int r) ∧ ps = ([("low", r)] : List (Str × Int)).filter notNought
theorem filt1 {s : Str} {r : Int} (h : 1 ≤ r) : [(s, r)].filter notNought = [(s, r)] := by
  rw [List.filter_cons, if_pos (show notNought (s, r) = true by unfold notNought; rw [decide_eq_false (show ¬ r = 0 by omega)]; rfl)]
  rfl

/-- the attributes of a lock below PlainLock: the fifth one is e (its name) -/
def subFs (e : Str) (n h l r v : V) : List (Str × V) := putF e v (lockFs n h l r)
theorem sub_own (e : Str) (n h l r v : V) : (subFs e n h l r v).lookup e = some v := by
  unfold subFs
  rw [lookup_putF, if_pos rfl]
theorem sub_old {e m : Str} (ne : ¬ m = e) (n h l r v : V) : (subFs e n h l r v).lookup m = (lockFs n h l r).lookup m := by
  unfold subFs
  rw [lookup_putF, if_neg ne]
def sideK (c room : Int) : Int := if c % 4 = 0 then room else if c % 4 = 1 then 1 else 1 + c / 4 % room
theorem sideK_le {c room : Int} (h : 1 ≤ room) : 1 ≤ sideK c room ∧ sideK c room ≤ room := by
  unfold sideK
  split
  · omega
  split
  · omega
  have h1 := Int.emod_nonneg (c / 4) (by omega : room ≠ 0)
  have h2 := Int.emod_lt_of_pos (c / 4) (by omega : 0 < room)
  omega
def spSide : Sp := fun vs H Q _ => ∃ c room : Int, vs = [.int c, .int room] ∧ 1 ≤ room ∧ Q (.int (sideK c room)) H
def spInitS (e : Str) (C : Addr) : Sp := fun vs H Q _ => ∃ (x dx : Addr) (n h l r v : V), vs = [.ref x, n, h, l, r, v] ∧ H x = some (.ins C dx []) ∧ ∀ H' : Hp, Keep x H H' → H' x = some (.ins C dx (subFs e n h l r v)) → Q .non H'
theorem lockFs_len (n h l r : V) : (lockFs n h l r).length < 1000 := by
  have h1 := length_putF "high" h (putF "name" n [])
  have h2 := length_putF "low" l (putF "high" h (putF "name" n []))
  have h3 := length_putF "room" r (putF "low" l (putF "high" h (putF "name" n [])))
  have h4 : (putF ("name" : Str) n []).length = 1 := rfl
  unfold lockFs
  omega

def LocksF (C : Addr) (H : Hp) (rs : List V) (F : Nat → List (Str × V)) : Prop := ∀ (j : Nat) (r : V), rs[j]? = some r → ∃ x dx : Addr, r = .ref x ∧ H x = some (.ins C dx (F j))
theorem LocksF.same {C : Addr} {H H' : Hp} {rs : List V} {F : Nat → List (Str × V)} (e : Same H H') (h : LocksF C H rs F) : LocksF C H' rs F := fun j r hj => by
  obtain ⟨x, dx, h1, h2⟩ := h j r hj
  exact ⟨x, dx, h1, e _ _ h2⟩
theorem LocksF.keep {C d : Addr} {H H' : Hp} {ys rs : List V} {F : Nat → List (Str × V)} (k : Keep d H H') (hd : H d = some (.lst ys)) (h : LocksF C H rs F) : LocksF C H' rs F := fun j r hj => by
  obtain ⟨x, dx, h1, h2⟩ := h j r hj
  exact ⟨x, dx, h1, k _ _ (ne_of h2 hd (fun z => nomatch z)) h2⟩
theorem LocksF.snoc {C x dx : Addr} {H : Hp} {rs : List V} {F : Nat → List (Str × V)} (h : LocksF C H rs F) (hx : H x = some (.ins C dx (F rs.length))) : LocksF C H (rs ++ [.ref x]) F := fun j r hj => by
  by_cases hl : j < rs.length
  · rw [List.getElem?_append_left hl] at hj
    exact h j r hj
  · rw [List.getElem?_append_right (by omega)] at hj
    have hz : j - rs.length = 0 := by
      have := (List.getElem?_eq_some_iff.mp hj).1
      rw [List.length_singleton] at this
      omega
    rw [hz] at hj
    have e : V.ref x = r := Option.some.inj hj
    have e2 : j = rs.length := by omega
    subst e2
    exact ⟨x, dx, e.symm, hx⟩
theorem pos7 (o : Int) : (0 : Int) < 1 + o % 7 := by
  have := Int.emod_nonneg o (by decide : (7 : Int) ≠ 0)
  omega

def wv (b : Bool) : V := if b then .str "up" else .str "down"
theorem ud_ne : ¬ (V.str "down" = V.str "up") := fun h => absurd (V.str.inj h) (by decide +kernel)

def kdC (cP cB cU : Addr) : Kd → Addr
  | .plain => cP
  | .basin => cB
  | .pump => cU
def lockFK (kd : Kd) (n h l r v : V) : List (Str × V) := match kd with
  | .plain => lockFs n h l r
  | .basin => subFs "side" n h l r v
  | .pump => subFs "lift" n h l r v
theorem fk_old (kd : Kd) (n h l r v : V) {m : Str} (h1 : ¬ m = "side") (h2 : ¬ m = "lift") : (lockFK kd n h l r v).lookup m = (lockFs n h l r).lookup m := by
  cases kd
  · rfl
  · exact sub_old h1 _ _ _ _ _
  · exact sub_old h2 _ _ _ _ _
theorem fk_name (kd : Kd) (n h l r v : V) : (lockFK kd n h l r v).lookup ("name" : Str) = some n := by rw [fk_old kd _ _ _ _ _ (by decide +kernel) (by decide +kernel)]; exact lk_name ..
theorem fk_high (kd : Kd) (n h l r v : V) : (lockFK kd n h l r v).lookup ("high" : Str) = some h := by rw [fk_old kd _ _ _ _ _ (by decide +kernel) (by decide +kernel)]; exact lk_high ..
theorem fk_low (kd : Kd) (n h l r v : V) : (lockFK kd n h l r v).lookup ("low" : Str) = some l := by rw [fk_old kd _ _ _ _ _ (by decide +kernel) (by decide +kernel)]; exact lk_low ..
theorem fk_room (kd : Kd) (n h l r v : V) : (lockFK kd n h l r v).lookup ("room" : Str) = some r := by rw [fk_old kd _ _ _ _ _ (by decide +kernel) (by decide +kernel)]; exact lk_room ..
theorem fk_fill (kd : Kd) (n h l r v : V) : (lockFK kd n h l r v).lookup ("fill_parts" : Str) = none := by rw [fk_old kd _ _ _ _ _ (by decide +kernel) (by decide +kernel)]; exact lk_no _ _ _ _ (by decide +kernel) (by decide +kernel) (by decide +kernel) (by decide +kernel)
theorem fk_let (kd : Kd) (n h l r v : V) : (lockFK kd n h l r v).lookup ("let_parts" : Str) = none := by rw [fk_old kd _ _ _ _ _ (by decide +kernel) (by decide +kernel)]; exact lk_no _ _ _ _ (by decide +kernel) (by decide +kernel) (by decide +kernel) (by decide +kernel)
theorem fk_kind (kd : Kd) (n h l r v : V) : (lockFK kd n h l r v).lookup ("kind" : Str) = none := by rw [fk_old kd _ _ _ _ _ (by decide +kernel) (by decide +kernel)]; exact lk_no _ _ _ _ (by decide +kernel) (by decide +kernel) (by decide +kernel) (by decide +kernel)
theorem fk_extra (kd : Kd) (n h l r v : V) : (lockFK kd n h l r v).lookup ("extra" : Str) = none := by rw [fk_old kd _ _ _ _ _ (by decide +kernel) (by decide +kernel)]; exact lk_no _ _ _ _ (by decide +kernel) (by decide +kernel) (by decide +kernel) (by decide +kernel)
/-- a lock of the kind kd stands at x -/
def LockAt (cs : Kd → Addr) (H : Hp) (x : Addr) (kd : Kd) (n h l : V) (room v : Int) : Prop := ∃ dx : Addr, H x = some (.ins (cs kd) dx (lockFK kd n h l (.int room) (.int v)))
theorem LockAt.same {cs : Kd → Addr} {H H' : Hp} {x : Addr} {kd : Kd} {n h l : V} {room v : Int} (e : Same H H') (a : LockAt cs H x kd n h l room v) : LockAt cs H' x kd n h l room v := by
  obtain ⟨dx, a⟩ := a
  exact ⟨dx, e _ _ a⟩
def fillK (kd : Kd) (room v b : Int) : List (Str × Int) := match kd with
  | .plain => ([("high", room)] : List (Str × Int)).filter notNought
  | .basin => ([("basin", b), ("high", room - b)] : List (Str × Int)).filter notNought
  | .pump => ([("low", v), ("high", room - v)] : List (Str × Int)).filter notNought
def letK (kd : Kd) (room v b : Int) : List (Str × Int) := match kd with
  | .basin => ([("basin", v - b), ("low", room - (v - b))] : List (Str × Int)).filter notNought
  | _ => ([("low", room)] : List (Str × Int)).filter notNought
theorem fillK_len (kd : Kd) (room v b : Int) : (fillK kd room v b).length ≤ 2 := by
  cases kd
  · exact Nat.le_trans (List.length_filter_le _ _) (by show 1 ≤ 2; decide)
  · exact Nat.le_trans (List.length_filter_le _ _) (by show 2 ≤ 2; decide)
  · exact Nat.le_trans (List.length_filter_le _ _) (by show 2 ≤ 2; decide)
theorem letK_len (kd : Kd) (room v b : Int) : (letK kd room v b).length ≤ 2 := by
  cases kd
  · exact Nat.le_trans (List.length_filter_le _ _) (by show 1 ≤ 2; decide)
  · exact Nat.le_trans (List.length_filter_le _ _) (by show 2 ≤ 2; decide)
  · exact Nat.le_trans (List.length_filter_le _ _) (by show 1 ≤ 2; decide)
def spParts3 (cs : Kd → Addr) (F : Kd → Int → Int → Int → List (Str × Int)) (kd : Kd) : Sp := fun vs H Q _ => ∃ (x : Addr) (n h l : V) (room v b : Int), vs = [.ref x, .int b] ∧ LockAt cs H x kd n h l room v ∧
  ∀ (r : Addr) (H' : Hp) (rs : List V), Same H H' → H r = none → H' r = some (.lst rs) → PartsAt H' rs (F kd room v b) → Q (.ref r) H'
def spLetPU (cs : Kd → Addr) : Sp := fun vs H Q _ => ∃ (kd : Kd) (x : Addr) (n h l : V) (room v b : Int), vs = [.ref x, .int b] ∧ LockAt cs H x kd n h l room v ∧
  ∀ (r : Addr) (H' : Hp) (rs : List V), Same H H' → H r = none → H' r = some (.lst rs) → PartsAt H' rs (([("low", room)] : List (Str × Int)).filter notNought) → Q (.ref r) H'
def spInit3 (cs : Kd → Addr) : Sp := fun vs H Q _ => ∃ (kd : Kd) (x dx : Addr) (n h l r : V), vs = [.ref x, n, h, l, r] ∧ H x = some (.ins (cs kd) dx []) ∧ ∀ H' : Hp, Keep x H H' → H' x = some (.ins (cs kd) dx (lockFs n h l r)) → Q .non H'
def spInit4 (cs : Kd → Addr) (kd : Kd) : Sp := fun vs H Q _ => ∃ (x dx : Addr) (n h l r v : V), vs = [.ref x, n, h, l, r, v] ∧ H x = some (.ins (cs kd) dx []) ∧ ∀ H' : Hp, Keep x H H' → H' x = some (.ins (cs kd) dx (lockFK kd n h l r v)) → Q .non H'
def kdN : Kd → Int
  | .plain => 0
  | .basin => 1
  | .pump => 2
def spTell3 (cs : Kd → Addr) (F : Kd → Int → V) (kd : Kd) : Sp := fun vs H Q _ => ∃ (x : Addr) (n h l : V) (room v : Int), vs = [.ref x] ∧ LockAt cs H x kd n h l room v ∧ Q (F kd v) H
/-- the list's items are pours (text, text, number) -/
def PoursS (H : Hp) (rs : List V) (ps : List (Str × Str × Int)) : Prop := rs.length = ps.length ∧ ∀ (i : Nat) (r : V), rs[i]? = some r → ∃ (a : Addr) (s t : Str) (n : Int), r = .ref a ∧ ps[i]? = some (s, t, n) ∧ H a = some (.tup [.str s, .str t, .int n])
theorem PoursS.nil {H : Hp} : PoursS H [] [] := ⟨rfl, fun i r hi => by cases hi⟩
theorem PoursS.same {H H' : Hp} {rs : List V} {ps : List (Str × Str × Int)} (e : Same H H') (h : PoursS H rs ps) : PoursS H' rs ps := by
  refine ⟨h.1, fun i r hi => ?_⟩
  obtain ⟨a, s, t, n, h1, h2, h3⟩ := h.2 i r hi
  exact ⟨a, s, t, n, h1, h2, e _ _ h3⟩
theorem PoursS.keep {H H' : Hp} {d : Addr} {ys rs : List V} {ps : List (Str × Str × Int)} (k : Keep d H H') (hd : H d = some (.lst ys)) (h : PoursS H rs ps) : PoursS H' rs ps := by
  refine ⟨h.1, fun i r hi => ?_⟩
  obtain ⟨a, s, t, n, h1, h2, h3⟩ := h.2 i r hi
  exact ⟨a, s, t, n, h1, h2, k _ _ (ne_of h3 hd (fun z => nomatch z)) h3⟩
theorem PoursS.append {H : Hp} {rs rs' : List V} {ps ps' : List (Str × Str × Int)} (h : PoursS H rs ps) (h' : PoursS H rs' ps') : PoursS H (rs ++ rs') (ps ++ ps') := by
  refine ⟨by rw [List.length_append, List.length_append, h.1, h'.1], fun i r hi => ?_⟩
  by_cases hl : i < rs.length
  · rw [List.getElem?_append_left hl] at hi
    obtain ⟨b, s', t', n', h1, h2, h3⟩ := h.2 i r hi
    exact ⟨b, s', t', n', h1, by rw [List.getElem?_append_left (by rw [← h.1]; exact hl)]; exact h2, h3⟩
  · rw [List.getElem?_append_right (by omega)] at hi
    obtain ⟨b, s', t', n', h1, h2, h3⟩ := h'.2 _ r hi
    exact ⟨b, s', t', n', h1, by rw [List.getElem?_append_right (by rw [← h.1]; omega), ← h.1]; exact h2, h3⟩
theorem PoursS.one {H : Hp} {s t : Str} {n : Int} {a : Addr} (ht : H a = some (.tup [.str s, .str t, .int n])) : PoursS H [.ref a] [(s, t, n)] := by
  refine ⟨rfl, fun i r hi => ?_⟩
  cases i with
  | zero => exact ⟨a, s, t, n, (Option.some.inj hi).symm, rfl, ht⟩
  | succ i => cases hi
def fillP (kd : Kd) (room v b : Int) : List (Str × Str × Int) := (fillK kd room v b).map fun p => (p.1, "chamber", p.2)
def letP (kd : Kd) (room v b : Int) : List (Str × Str × Int) := (letK kd room v b).map fun p => ("chamber", p.1, p.2)
theorem fillP_len (kd : Kd) (room v b : Int) : (fillP kd room v b).length ≤ 2 := by unfold fillP; rw [List.length_map]; exact fillK_len ..
theorem letP_len (kd : Kd) (room v b : Int) : (letP kd room v b).length ≤ 2 := by unfold letP; rw [List.length_map]; exact letK_len ..
def amtsS (p : Str × Str × Int → Bool) (qs : List (Str × Str × Int)) : List Int := (qs.filter p).map (·.2.2)
theorem amtsS_take (p : Str × Str × Int → Bool) (qs : List (Str × Str × Int)) (i : Nat) (q : Str × Str × Int) (h : qs[i]? = some q) : amtsS p (qs.take (i + 1)) = amtsS p (qs.take i) ++ (if p q = true then [q.2.2] else []) := by
  unfold amtsS
  rw [List.take_add_one, h]
  simp only [Option.toList, List.filter_append, List.map_append]
  by_cases c : p q = true
  · rw [if_pos c]; simp [c]
  · rw [if_neg c]; simp [c]
theorem amtsS_len (p : Str × Str × Int → Bool) (qs : List (Str × Str × Int)) (i : Nat) : (amtsS p (qs.take i)).length ≤ i := by
  unfold amtsS
  rw [List.length_map]
  exact Nat.le_trans (List.length_filter_le _ _) (List.length_take_le _ _)
def ofS (s : Str) (q : Str × Str × Int) : Bool := decide (q.1 = s)
def toS (s : Str) (q : Str × Str × Int) : Bool := decide (q.2.1 = s)
def givenP (s : Str) (qs : List (Str × Str × Int)) : Int := (amtsS (ofS s) qs).sum
def afterP (b : Int) (qs : List (Str × Str × Int)) : Int := b + (amtsS (toS "basin") qs).sum - givenP "basin" qs
theorem dec_strV (s t : Str) : decide (V.str s = V.str t) = decide (s = t) := decide_eq_decide.mpr ⟨V.str.inj, fun e => by rw [e]⟩
def spPours3 (cs : Kd → Addr) (F : Kd → Int → Int → Int → List (Str × Str × Int)) : Sp := fun vs H Q _ => ∃ (x : Addr) (kd : Kd) (n h l : V) (room v b : Int), vs = [.ref x, .int b] ∧ LockAt cs H x kd n h l room v ∧
  ∀ (r : Addr) (H' : Hp) (rs : List V), Same H H' → H r = none → H' r = some (.lst rs) → PoursS H' rs (F kd room v b) → Q (.ref r) H'
def spGiven : Sp := fun vs H Q _ => ∃ (s : Str) (p : Addr) (rs : List V) (qs : List (Str × Str × Int)), vs = [.str s, .ref p] ∧ H p = some (.lst rs) ∧ PoursS H rs qs ∧ rs.length ≤ 999 ∧ ∀ H', Same H H' → Q (.int (givenP s qs)) H'
def spAfter : Sp := fun vs H Q _ => ∃ (b : Int) (p : Addr) (rs : List V) (qs : List (Str × Str × Int)), vs = [.int b, .ref p] ∧ H p = some (.lst rs) ∧ PoursS H rs qs ∧ rs.length ≤ 999 ∧ ∀ H', Same H H' → Q (.int (afterP b qs)) H'
def passP (kd : Kd) (room v : Int) (f : Bool) (b : Int) (w : Bool) : List (Str × Str × Int) := match w, f with
  | true, true => letP kd room v b ++ fillP kd room v (afterP b (letP kd room v b))
  | true, false => fillP kd room v b
  | false, true => letP kd room v b
  | false, false => fillP kd room v b ++ letP kd room v (afterP b (fillP kd room v b))
theorem afterP_nil (b : Int) : afterP b [] = b := by show b + 0 - 0 = b; omega
theorem passP_len (kd : Kd) (room v : Int) (f : Bool) (b : Int) (w : Bool) : (passP kd room v f b w).length ≤ 4 := by
  have h1 := fun b => fillP_len kd room v b
  have h2 := fun b => letP_len kd room v b
  cases w <;> cases f
  · show (fillP kd room v b ++ letP kd room v (afterP b (fillP kd room v b))).length ≤ 4
    rw [List.length_append]; have := h1 b; have := h2 (afterP b (fillP kd room v b)); omega
  · exact Nat.le_trans (h2 b) (by decide)
  · exact Nat.le_trans (h1 b) (by decide)
  · show (letP kd room v b ++ fillP kd room v (afterP b (letP kd room v b))).length ≤ 4
    rw [List.length_append]; have := h2 b; have := h1 (afterP b (letP kd room v b)); omega
def spPassage (cs : Kd → Addr) : Sp := fun vs H Q _ => ∃ (x : Addr) (kd : Kd) (n h l : V) (room v b : Int) (f w : Bool), vs = [.ref x, .bl f, .int b, wv w] ∧ LockAt cs H x kd n h l room v ∧
  ∀ (r : Addr) (H' : Hp) (rs : List V), Same H H' → H r = none → H' r = some (.lst rs) → PoursS H' rs (passP kd room v f b w) → Q (.ref r) H'

theorem map_take_snoc {α β : Type} {f : α → β} {ps : List α} {i : Nat} {p : α} (h : ps[i]? = some p) : (ps.take (i + 1)).map f = (ps.take i).map f ++ [f p] := by
  rw [List.take_add_one, h, List.map_append]; rfl

inductive Er where
  | against | notNow | short | full | noBoat | unknown
def sideS (sd : Bool) : Str := if sd then "high" else "low"
def opS : Option Bool → Str
  | none => ""
  | some sd => sideS sd
def exOf (cA cN cS cF cO cK : Addr) : Er → Addr
  | .against => cA
  | .notNow => cN
  | .short => cS
  | .full => cF
  | .noBoat => cO
  | .unknown => cK
structure CSt where
  kd : Kd
  room : Int
  v : Int
  lh : Int
  ll : Int
  w : List Int
  op : Option Bool
  ins : Bool
theorem t_hl : ¬ ("high" : Str) = "low" := by decide +kernel
theorem t_lh : ¬ ("low" : Str) = "high" := by decide +kernel
theorem t_eh : ¬ ("" : Str) = "high" := by decide +kernel
theorem t_el : ¬ ("" : Str) = "low" := by decide +kernel
theorem side_inj {a b : Bool} (h : sideS a = sideS b) : a = b := by
  cases a <;> cases b
  · rfl
  · exact absurd h t_lh
  · exact absurd h t_hl
  · rfl
theorem dec_op (o : Option Bool) (sd : Bool) : decide (V.str (opS o) = V.str (sideS sd)) = decide (o = some sd) := by
  refine decide_eq_decide.mpr ⟨fun h => ?_, fun h => by rw [h]; rfl⟩
  have h := V.str.inj h
  cases o with
  | none => cases sd
            · exact absurd h t_el
            · exact absurd h t_eh
  | some b => rw [side_inj h]
theorem dec_op0 (o : Option Bool) : decide (V.str (opS o) = V.str "") = decide (o = none) := by
  refine decide_eq_decide.mpr ⟨fun h => ?_, fun h => by rw [h]; rfl⟩
  have h := V.str.inj h
  cases o with
  | none => rfl
  | some b => cases b
              · exact absurd h.symm t_el
              · exact absurd h.symm t_eh
theorem dec_side (sd : Bool) : decide (V.str (sideS sd) = V.str "high") = sd := by
  cases sd
  · exact decide_eq_false fun h => t_lh (V.str.inj h)
  · exact decide_eq_true rfl
/-- the attributes of a machine -/
def chFs (lk hd ls o i : V) : List (Str × V) := [("lock", lk), ("held", hd), ("least", ls), ("open_side", o), ("inside", i)]
theorem f1 : (("lock" : Str) = "held") = False := eq_false (by decide +kernel)
theorem f2 : (("lock" : Str) = "least") = False := eq_false (by decide +kernel)
theorem f3 : (("lock" : Str) = "open_side") = False := eq_false (by decide +kernel)
theorem f4 : (("lock" : Str) = "inside") = False := eq_false (by decide +kernel)
theorem f5 : (("held" : Str) = "least") = False := eq_false (by decide +kernel)
theorem f6 : (("held" : Str) = "open_side") = False := eq_false (by decide +kernel)
theorem f7 : (("held" : Str) = "inside") = False := eq_false (by decide +kernel)
theorem f8 : (("least" : Str) = "open_side") = False := eq_false (by decide +kernel)
theorem f9 : (("least" : Str) = "inside") = False := eq_false (by decide +kernel)
theorem f10 : (("open_side" : Str) = "inside") = False := eq_false (by decide +kernel)
theorem ch_made (lk hd ls o i : V) : putF "inside" i (putF "open_side" o (putF "least" ls (putF "held" hd (putF "lock" lk [])))) = chFs lk hd ls o i := by
  simp only [putF, f1, f2, f3, f4, f5, f6, f7, f8, f9, f10, if_false, chFs]
theorem ch_held (lk hd ls o i z : V) : putF "held" z (chFs lk hd ls o i) = chFs lk z ls o i := by simp only [chFs, putF, f1, if_false, if_true]
theorem ch_open (lk hd ls o i z : V) : putF "open_side" z (chFs lk hd ls o i) = chFs lk hd ls z i := by simp only [chFs, putF, f3, f6, f8, if_false, if_true]
theorem ch_ins (lk hd ls o i z : V) : putF "inside" z (chFs lk hd ls o i) = chFs lk hd ls o z := by simp only [chFs, putF, f4, f7, f9, f10, if_false, if_true]
theorem l_cons {g m : Str} {v : V} {r : List (Str × V)} (h : ¬ m = g) : ((g, v) :: r).lookup m = r.lookup m := by
  have hb : (m == g) = false := beq_eq_false_iff_ne.mpr h
  simp only [List.lookup, hb]
theorem l_here {m : Str} {v : V} {r : List (Str × V)} : ((m, v) :: r).lookup m = some v := by
  have hb : (m == m) = true := beq_iff_eq.mpr rfl
  simp only [List.lookup, hb]
theorem l_lock (lk hd ls o i : V) : (chFs lk hd ls o i).lookup ("lock" : Str) = some lk := l_here
theorem l_held (lk hd ls o i : V) : (chFs lk hd ls o i).lookup ("held" : Str) = some hd := by unfold chFs; rw [l_cons (by decide +kernel)]; exact l_here
theorem l_least (lk hd ls o i : V) : (chFs lk hd ls o i).lookup ("least" : Str) = some ls := by unfold chFs; rw [l_cons (by decide +kernel), l_cons (by decide +kernel)]; exact l_here
theorem l_open_side (lk hd ls o i : V) : (chFs lk hd ls o i).lookup ("open_side" : Str) = some o := by unfold chFs; rw [l_cons (by decide +kernel), l_cons (by decide +kernel), l_cons (by decide +kernel)]; exact l_here
theorem l_inside (lk hd ls o i : V) : (chFs lk hd ls o i).lookup ("inside" : Str) = some i := by unfold chFs; rw [l_cons (by decide +kernel), l_cons (by decide +kernel), l_cons (by decide +kernel), l_cons (by decide +kernel)]; exact l_here
theorem l_no (lk hd ls o i : V) {m : Str} (h1 : ¬ m = "lock") (h2 : ¬ m = "held") (h3 : ¬ m = "least") (h4 : ¬ m = "open_side") (h5 : ¬ m = "inside") : (chFs lk hd ls o i).lookup m = none := by
  unfold chFs
  rw [l_cons h1, l_cons h2, l_cons h3, l_cons h4, l_cons h5]
  rfl
theorem l_waters (lk hd ls o i : V) : (chFs lk hd ls o i).lookup ("waters" : Str) = none := l_no _ _ _ _ _ (by decide +kernel) (by decide +kernel) (by decide +kernel) (by decide +kernel) (by decide +kernel)
theorem l_gates (lk hd ls o i : V) : (chFs lk hd ls o i).lookup ("gates" : Str) = none := l_no _ _ _ _ _ (by decide +kernel) (by decide +kernel) (by decide +kernel) (by decide +kernel) (by decide +kernel)
theorem l_boat (lk hd ls o i : V) : (chFs lk hd ls o i).lookup ("boat" : Str) = none := l_no _ _ _ _ _ (by decide +kernel) (by decide +kernel) (by decide +kernel) (by decide +kernel) (by decide +kernel)
theorem l_do (lk hd ls o i : V) : (chFs lk hd ls o i).lookup ("do" : Str) = none := l_no _ _ _ _ _ (by decide +kernel) (by decide +kernel) (by decide +kernel) (by decide +kernel) (by decide +kernel)
theorem l_open_gate (lk hd ls o i : V) : (chFs lk hd ls o i).lookup ("open_gate" : Str) = none := l_no _ _ _ _ _ (by decide +kernel) (by decide +kernel) (by decide +kernel) (by decide +kernel) (by decide +kernel)
theorem l_shut_gate (lk hd ls o i : V) : (chFs lk hd ls o i).lookup ("shut_gate" : Str) = none := l_no _ _ _ _ _ (by decide +kernel) (by decide +kernel) (by decide +kernel) (by decide +kernel) (by decide +kernel)
theorem l_fill_chamber (lk hd ls o i : V) : (chFs lk hd ls o i).lookup ("fill_chamber" : Str) = none := l_no _ _ _ _ _ (by decide +kernel) (by decide +kernel) (by decide +kernel) (by decide +kernel) (by decide +kernel)
theorem l_let_chamber (lk hd ls o i : V) : (chFs lk hd ls o i).lookup ("let_chamber" : Str) = none := l_no _ _ _ _ _ (by decide +kernel) (by decide +kernel) (by decide +kernel) (by decide +kernel) (by decide +kernel)
theorem l_boat_in (lk hd ls o i : V) : (chFs lk hd ls o i).lookup ("boat_in" : Str) = none := l_no _ _ _ _ _ (by decide +kernel) (by decide +kernel) (by decide +kernel) (by decide +kernel) (by decide +kernel)
theorem l_boat_out (lk hd ls o i : V) : (chFs lk hd ls o i).lookup ("boat_out" : Str) = none := l_no _ _ _ _ _ (by decide +kernel) (by decide +kernel) (by decide +kernel) (by decide +kernel) (by decide +kernel)
theorem l_refuse_open_gate (lk hd ls o i : V) : (chFs lk hd ls o i).lookup ("refuse_open_gate" : Str) = none := l_no _ _ _ _ _ (by decide +kernel) (by decide +kernel) (by decide +kernel) (by decide +kernel) (by decide +kernel)
theorem l_refuse_shut_gate (lk hd ls o i : V) : (chFs lk hd ls o i).lookup ("refuse_shut_gate" : Str) = none := l_no _ _ _ _ _ (by decide +kernel) (by decide +kernel) (by decide +kernel) (by decide +kernel) (by decide +kernel)
theorem l_stands_at (lk hd ls o i : V) : (chFs lk hd ls o i).lookup ("stands_at" : Str) = none := l_no _ _ _ _ _ (by decide +kernel) (by decide +kernel) (by decide +kernel) (by decide +kernel) (by decide +kernel)
theorem l_after_pours (lk hd ls o i : V) : (chFs lk hd ls o i).lookup ("after_pours" : Str) = none := l_no _ _ _ _ _ (by decide +kernel) (by decide +kernel) (by decide +kernel) (by decide +kernel) (by decide +kernel)
/-- a machine in the state S stands at x, its lock at lk -/
def ChAt (cs : Kd → Addr) (cC : Addr) (H : Hp) (x lk : Addr) (S : CSt) : Prop := ∃ (dx hd ls : Addr) (n h l : V), H x = some (.ins cC dx (chFs (.ref lk) (.ref hd) (.ref ls) (.str (opS S.op)) (.bl S.ins))) ∧ H hd = some (.tup (S.w.map V.int)) ∧ H ls = some (.tup [.int S.lh, .int S.ll]) ∧ LockAt cs H lk S.kd n h l S.room S.v ∧ lk ≠ x ∧ S.w.length = 4
theorem ChAt.same {cs : Kd → Addr} {cC : Addr} {H H' : Hp} {x lk : Addr} {S : CSt} (e : Same H H') (a : ChAt cs cC H x lk S) : ChAt cs cC H' x lk S := by
  obtain ⟨dx, hd, ls, n, h, l, h1, h2, h3, h4, h5⟩ := a
  exact ⟨dx, hd, ls, n, h, l, e _ _ h1, e _ _ h2, e _ _ h3, h4.same e, h5⟩
theorem ChAt.keep {cs : Kd → Addr} {cC : Addr} {H H' : Hp} {x y lk : Addr} {S T : CSt} (k : Keep y H H') (hy : ChAt cs cC H y lk T) (ne : x ≠ y) (a : ChAt cs cC H x lk S) : ChAt cs cC H' x lk S := by
  obtain ⟨dx', hd', ls', n', h', l', y1, _, _, _, y5, _⟩ := hy
  obtain ⟨dx, hd, ls, n, h, l, h1, h2, h3, ⟨dl, h4⟩, h5⟩ := a
  exact ⟨dx, hd, ls, n, h, l, k _ _ ne h1, k _ _ (ne_of h2 y1 (fun z => nomatch z)) h2, k _ _ (ne_of h3 y1 (fun z => nomatch z)) h3, ⟨dl, k _ _ y5 h4⟩, h5⟩
def vIx (s : Str) : Nat := if s = "high" then 0 else if s = "low" then 1 else if s = "chamber" then 2 else 3
def named (s : Str) : Prop := s = "high" ∨ s = "low" ∨ s = "chamber" ∨ s = "basin"
theorem v_high : vIx "high" = 0 := if_pos rfl
theorem v_low : vIx "low" = 1 := by unfold vIx; rw [if_neg t_lh, if_pos rfl]
theorem v_chamber : vIx "chamber" = 2 := by unfold vIx; rw [if_neg (by decide +kernel), if_neg (by decide +kernel), if_pos rfl]
theorem v_basin : vIx "basin" = 3 := by unfold vIx; rw [if_neg (by decide +kernel), if_neg (by decide +kernel), if_neg (by decide +kernel)]
theorem v_at_of {K : PySem.W.Frag} {dV : Addr} {t0 t1 t2 t3 : Tok} (h0 : PySem.W.nsIn K dV "high" = some (some (.int 0 t0))) (h1 : PySem.W.nsIn K dV "low" = some (some (.int 1 t1))) (h2 : PySem.W.nsIn K dV "chamber" = some (some (.int 2 t2))) (h3 : PySem.W.nsIn K dV "basin" = some (some (.int 3 t3))) :
    ∀ z : Str, named z → ∃ tk, PySem.W.nsIn K dV z = some (some (.int (vIx z : Int) tk)) := by
  intro z hz
  rcases hz with rfl | rfl | rfl | rfl
  · rw [v_high]; exact ⟨_, h0⟩
  · rw [v_low]; exact ⟨_, h1⟩
  · rw [v_chamber]; exact ⟨_, h2⟩
  · rw [v_basin]; exact ⟨_, h3⟩
theorem vIx_lt (s : Str) : vIx s < 4 := by unfold vIx; repeat' split <;> try omega
def ixP (q : Str × Str × Int) : Nat × Nat × Int := (vIx q.1, vIx q.2.1, q.2.2)
theorem fill_named (kd : Kd) (room v b : Int) : ∀ q ∈ fillP kd room v b, (q.1 = "high" ∨ q.1 = "low" ∨ q.1 = "basin") ∧ q.2.1 = "chamber" := by
  intro q hq
  unfold fillP at hq
  obtain ⟨p, hp, rfl⟩ := List.mem_map.mp hq
  refine ⟨?_, rfl⟩
  unfold fillK at hp
  cases kd
  · cases List.mem_singleton.mp (List.mem_filter.mp hp).1
    exact .inl rfl
  · rcases List.mem_cons.mp (List.mem_filter.mp hp).1 with rfl | h
    · exact .inr (.inr rfl)
    · cases List.mem_singleton.mp h
      exact .inl rfl
  · rcases List.mem_cons.mp (List.mem_filter.mp hp).1 with rfl | h
    · exact .inr (.inl rfl)
    · cases List.mem_singleton.mp h
      exact .inl rfl
theorem let_named (kd : Kd) (room v b : Int) : ∀ q ∈ letP kd room v b, q.1 = "chamber" ∧ (q.2.1 = "low" ∨ q.2.1 = "basin") := by
  intro q hq
  unfold letP at hq
  obtain ⟨p, hp, rfl⟩ := List.mem_map.mp hq
  refine ⟨rfl, ?_⟩
  unfold letK at hp
  cases kd
  · cases List.mem_singleton.mp (List.mem_filter.mp hp).1
    exact .inl rfl
  · rcases List.mem_cons.mp (List.mem_filter.mp hp).1 with rfl | h
    · exact .inr rfl
    · cases List.mem_singleton.mp h
      exact .inl rfl
  · cases List.mem_singleton.mp (List.mem_filter.mp hp).1
    exact .inl rfl
def lev (S : CSt) (sd : Bool) : Int := if sd = true then S.room else 0
def filledW (S : CSt) : List Int := pourAll S.w ((fillP S.kd S.room S.v (S.w.getD 3 0)).map ixP)
def letW (S : CSt) : List Int := pourAll S.w ((letP S.kd S.room S.v (S.w.getD 3 0)).map ixP)
def shortQ (S : CSt) (q : Str × Str × Int) : Bool := decide (¬ q.1 = "basin") && decide ((filledW S).getD (vIx q.1) 0 < [S.lh, S.ll].getD (vIx q.1) 0)
def shortC (S : CSt) : Bool := (fillP S.kd S.room S.v (S.w.getD 3 0)).any (shortQ S)
inductive Wd where
  | opn (sd : Bool) | sht (sd : Bool) | fil | lt | bin (sd : Bool) | bout (sd : Bool) | odd (z : Str)
def stepC (S : CSt) : Wd → Sum Er CSt
  | .opn sd => if S.op = some sd then .inl .notNow else if ¬ S.op = none then .inl .against else if ¬ S.w.getD 2 0 = lev S sd then .inl .against else .inr { S with op := some sd }
  | .sht sd => if S.op = some sd then .inr { S with op := none } else .inl .notNow
  | .fil => if ¬ S.op = none then .inl .against else if S.w.getD 2 0 = S.room then .inl .notNow else if shortC S = true then .inl .short else .inr { S with w := filledW S }
  | .lt => if ¬ S.op = none then .inl .against else if S.w.getD 2 0 = 0 then .inl .notNow else .inr { S with w := letW S }
  | .bin sd => if S.op = some sd then (if S.ins = true then .inl .full else .inr { S with ins := true }) else .inl .notNow
  | .bout sd => if S.op = some sd then (if S.ins = true then .inr { S with ins := false } else .inl .noBoat) else .inl .notNow
  | .odd _ => .inl .unknown
def wdS : Wd → Str
  | .opn true => "open high"
  | .opn false => "open low"
  | .sht true => "shut high"
  | .sht false => "shut low"
  | .fil => "fill"
  | .lt => "let"
  | .bin true => "in high"
  | .bin false => "in low"
  | .bout true => "out high"
  | .bout false => "out low"
  | .odd z => z
def verbS : Wd → Str
  | .opn _ => "open"
  | .sht _ => "shut"
  | .fil => "fill"
  | .lt => "let"
  | .bin _ => "in"
  | .bout _ => "out"
  | .odd z => z
def wsdS : Wd → Str
  | .opn sd => sideS sd
  | .sht sd => sideS sd
  | .fil => ""
  | .lt => ""
  | .bin sd => sideS sd
  | .bout sd => sideS sd
  | .odd z => z
def OkW (K : PySem.W.Frag) (dW : Addr) : Wd → Prop
  | .odd z => PySem.W.nsIn K dW z = some none
  | _ => True
section
variable (cs : Kd → Addr) (cC : Addr) (ex : Er → Addr)
def spInitC : Sp := fun vs H Q _ => ∃ (x dx lk wa le : Addr) (ws : List Int) (kd : Kd) (n h l : V) (room v lh ll : Int), vs = [.ref x, .ref lk, .ref wa, .ref le] ∧ H x = some (.ins cC dx []) ∧ H wa = some (.tup (ws.map V.int)) ∧ ws.length = 4 ∧ H le = some (.tup [.int lh, .int ll]) ∧ LockAt cs H lk kd n h l room v ∧ lk ≠ x ∧
  ∀ H' : Hp, Keep x H H' → ChAt cs cC H' x lk ⟨kd, room, v, lh, ll, ws, none, false⟩ → Q .non H'
def spLook (F : CSt → V → Hp → Prop) : Sp := fun vs H Q _ => ∃ (x lk : Addr) (S : CSt), vs = [.ref x] ∧ ChAt cs cC H x lk S ∧ ∀ (v : V) (H' : Hp), Same H H' → F S v H' → Q v H'
def isWaters (S : CSt) (v : V) (H : Hp) : Prop := ∃ a, v = .ref a ∧ H a = some (.tup (S.w.map V.int))
def isGates (S : CSt) (v : V) (H : Hp) : Prop := ∃ a, v = .ref a ∧ H a = some (.tup [.bl (decide (S.op = some true)), .bl (decide (S.op = some false))])
def isBoat (S : CSt) (v : V) (_ : Hp) : Prop := v = .bl S.ins
def spStands : Sp := fun vs H Q _ => ∃ (x lk : Addr) (S : CSt) (sd : Bool), vs = [.ref x, .str (sideS sd)] ∧ ChAt cs cC H x lk S ∧ Q (.bl (decide (S.w.getD 2 0 = lev S sd))) H
def spAfterC (K : PySem.W.Frag) : Sp := fun vs H Q _ => ∃ (x lk p : Addr) (S : CSt) (rs : List V) (ps : List (Str × Str × Int)), vs = [.ref x, .ref p] ∧ ChAt cs cC H x lk S ∧ H p = some (.lst rs) ∧ PoursS H rs ps ∧ (∀ q ∈ ps, named q.1 ∧ named q.2.1) ∧ rs.length ≤ 100 ∧
  ∀ (r : Addr) (H' : Hp), Same H H' → H r = none → H' r = some (.tup ((pourAll S.w (ps.map ixP)).map V.int)) → Q (.ref r) H'
def spRefOpen : Sp := fun vs H Q E => ∃ (x lk : Addr) (S : CSt), vs = [.ref x] ∧ ChAt cs cC H x lk S ∧ (¬ S.op = none → E (.ref (ex .against)) none H) ∧ (S.op = none → Q .non H)
def spRefShut : Sp := fun vs H Q E => ∃ (x lk : Addr) (S : CSt) (sd : Bool), vs = [.ref x, .str (sideS sd)] ∧ ChAt cs cC H x lk S ∧ (¬ S.op = some sd → E (.ref (ex .notNow)) none H) ∧ (S.op = some sd → Q .non H)
/-- a word that is done or refused -/
def Does (W : Wd) (x lk : Addr) (S : CSt) (H : Hp) (Q : VK) (E : XK) : Prop := (∀ e, stepC S W = .inl e → ∀ H', Same H H' → E (.ref (ex e)) none H') ∧ ∀ S', stepC S W = .inr S' → ∀ H', Keep x H H' → ChAt cs cC H' x lk S' → Q .non H'
def spWSide (F : Bool → Wd) : Sp := fun vs H Q E => ∃ (x lk : Addr) (S : CSt) (sd : Bool), vs = [.ref x, .str (sideS sd)] ∧ ChAt cs cC H x lk S ∧ Does cs cC ex (F sd) x lk S H Q E
def spNoSide (W : Wd) : Sp := fun vs H Q E => ∃ (x lk : Addr) (S : CSt), vs = [.ref x] ∧ ChAt cs cC H x lk S ∧ Does cs cC ex W x lk S H Q E
def spDo (K : PySem.W.Frag) (dW : Addr) : Sp := fun vs H Q E => ∃ (x lk : Addr) (S : CSt) (W : Wd), vs = [.ref x, .str (wdS W)] ∧ ChAt cs cC H x lk S ∧ OkW K dW W ∧ Does cs cC ex W x lk S H Q E
/-- the words one by one -/
def spWork (K : PySem.W.Frag) (dW : Addr) (run : CSt → List Wd → Option Er × CSt) : Sp := fun vs H Q E => ∃ (x lk p : Addr) (S : CSt) (Ws : List Wd), vs = [.ref x, .ref p] ∧ ChAt cs cC H x lk S ∧ H p = some (.lst (Ws.map fun W => V.str (wdS W))) ∧ (∀ W ∈ Ws, OkW K dW W) ∧
  ∀ (o : Option Er) (S' : CSt), run S Ws = (o, S') → ∀ H', Keep x H H' → ChAt cs cC H' x lk S' → match o with | none => Q .non H' | some e => E (.ref (ex e)) none H'
def spWorkN (K : PySem.W.Frag) (dW : Addr) (run : CSt → List Wd → Option Er × CSt) : Sp := fun vs H Q _ => ∃ (x lk p : Addr) (S S' : CSt) (Ws : List Wd), vs = [.ref x, .ref p] ∧ ChAt cs cC H x lk S ∧ H p = some (.lst (Ws.map fun W => V.str (wdS W))) ∧ (∀ W ∈ Ws, OkW K dW W) ∧
  run S Ws = (none, S') ∧ ∀ H', Keep x H H' → ChAt cs cC H' x lk S' → Q .non H'
end
def runC (S : CSt) : List Wd → Option Er × CSt
  | [] => (none, S)
  | W :: r => match stepC S W with
    | .inl e => (some e, S)
    | .inr S' => runC S' r
theorem runC_ok {S S' : CSt} {W : Wd} {r : List Wd} (h : stepC S W = .inr S') : runC S (W :: r) = runC S' r := by
  show (match stepC S W with | .inl e => (some e, S) | .inr S' => runC S' r) = _
  rw [h]
theorem runC_err {S : CSt} {W : Wd} {r : List Wd} {e : Er} (h : stepC S W = .inl e) : runC S (W :: r) = (some e, S) := by
  show (match stepC S W with | .inl e => (some e, S) | .inr S' => runC S' r) = _
  rw [h]
theorem work_nox {cs : Kd → Addr} {cC : Addr} {ex : Er → Addr} {K : PySem.W.Frag} {dW : Addr} : ∀ vs H Q E, spWorkN cs cC K dW runC vs H Q E → spWork cs cC ex K dW runC vs H Q (fun _ _ _ => False) := by
  rintro vs H Q E ⟨x, lk, p, S, S', Ws, e, h1, h2, h3, h4, h5⟩
  refine ⟨x, lk, p, S, Ws, e, h1, h2, h3, fun o S2 ho H' kp hc => ?_⟩
  rw [h4] at ho
  cases ho
  exact h5 H' kp hc

def spHeld3 : Sp := fun vs H Q _ => ∃ c side : Int, vs = [.int c, .int side] ∧ 0 ≤ side ∧ ∀ h : Int, 0 ≤ h → h ≤ side → Q (.int h) H
def spLockMade (cs : Kd → Addr) : Sp := fun vs H Q _ => ∃ (kd : Kd) (room v : Int), vs = [.int (kdN kd), .int room, .int v] ∧ ∀ (x : Addr) (H' : Hp), Same H H' → H x = none → LockAt cs H' x kd (.str "a") (.int 2) (.int 0) room v → Q (.ref x) H'
theorem kd_of (z : Int) : ∃ kd, z % 3 = kdN kd := by
  have h1 := Int.emod_nonneg z (by decide : (3 : Int) ≠ 0)
  have h2 := Int.emod_lt_of_pos z (by decide : (0 : Int) < 3)
  by_cases e0 : z % 3 = 0
  · exact ⟨.plain, e0⟩
  by_cases e1 : z % 3 = 1
  · exact ⟨.basin, e1⟩
  exact ⟨.pump, by show z % 3 = 2; omega⟩
theorem set_self : ∀ (ws : List Int) (s : Nat), ws.set s (ws.getD s 0) = ws
  | [], _ => rfl
  | x :: r, 0 => rfl
  | x :: r, s + 1 => by
    show x :: r.set s (r.getD s 0) = x :: r
    rw [set_self r s]
theorem pour_zero (ws : List Int) (s t : Nat) : pour ws (s, t, 0) = ws := by
  unfold pour
  show (ws.set s (ws.getD s 0 - 0)).set t ((ws.set s (ws.getD s 0 - 0)).getD t 0 + 0) = ws
  rw [Int.sub_zero, Int.add_zero, set_self, set_self]
theorem pourAll_nought (f : Str × Int → Str × Str × Int) (hf : ∀ q, (f q).2.2 = q.2) : ∀ (ps : List (Str × Int)) (ws : List Int), pourAll ws (((ps.filter notNought).map f).map ixP) = pourAll ws ((ps.map f).map ixP)
  | [], _ => rfl
  | q :: r, ws => by
    rw [List.filter_cons]
    by_cases hz : q.2 = 0
    · rw [if_neg (by unfold notNought; rw [decide_eq_true hz]; decide), pourAll_nought f hf r ws]
      show _ = pourAll (pour ws (ixP (f q))) ((r.map f).map ixP)
      have e : ixP (f q) = (vIx (f q).1, vIx (f q).2.1, 0) := by unfold ixP; rw [hf, hz]
      rw [e, pour_zero]
    · rw [if_pos (by unfold notNought; rw [decide_eq_false hz]; rfl)]
      exact pourAll_nought f hf r (pour ws (ixP (f q)))
def filledN (kd : Kd) (room v h l c b : Int) : List Int := match kd with
  | .plain => [h - room, l, c + room, b]
  | .basin => [h - room + b, l, c + room, 0]
  | .pump => [h - room + v, l - v, c + room, b]
def letN (kd : Kd) (room v h l c b : Int) : List Int := match kd with
  | .basin => [h, l + (room - v + b), c - room, v]
  | _ => [h, l + room, c - room, b]
theorem l4 {a b c d a' b' c' d' : Int} (h1 : a = a') (h2 : b = b') (h3 : c = c') (h4 : d = d') : [a, b, c, d] = [a', b', c', d'] := by rw [h1, h2, h3, h4]
theorem filled_eq {S : CSt} {h l c b : Int} (hw : S.w = [h, l, c, b]) : filledW S = filledN S.kd S.room S.v h l c b := by
  unfold filledW
  rw [hw]
  show pourAll [h, l, c, b] ((fillP S.kd S.room S.v b).map ixP) = _
  unfold fillP fillK
  cases S.kd
  · rw [pourAll_nought _ (fun _ => rfl)]
    show pour [h, l, c, b] (vIx "high", vIx "chamber", S.room) = _
    rw [v_high, v_chamber]
    exact l4 rfl rfl rfl rfl
  · rw [pourAll_nought _ (fun _ => rfl)]
    show pour (pour [h, l, c, b] (vIx "basin", vIx "chamber", b)) (vIx "high", vIx "chamber", S.room - b) = _
    rw [v_high, v_chamber, v_basin]
    show [h - (S.room - b), l, c + b + (S.room - b), b - b] = [h - S.room + b, l, c + S.room, 0]
    exact l4 (by omega) rfl (by omega) (by omega)
  · rw [pourAll_nought _ (fun _ => rfl)]
    show pour (pour [h, l, c, b] (vIx "low", vIx "chamber", S.v)) (vIx "high", vIx "chamber", S.room - S.v) = _
    rw [v_high, v_chamber, v_low]
    show [h - (S.room - S.v), l - S.v, c + S.v + (S.room - S.v), b] = [h - S.room + S.v, l - S.v, c + S.room, b]
    exact l4 (by omega) rfl (by omega) rfl
theorem let_eq {S : CSt} {h l c b : Int} (hw : S.w = [h, l, c, b]) : letW S = letN S.kd S.room S.v h l c b := by
  unfold letW
  rw [hw]
  show pourAll [h, l, c, b] ((letP S.kd S.room S.v b).map ixP) = _
  unfold letP letK
  cases S.kd
  · rw [pourAll_nought _ (fun _ => rfl)]
    show pour [h, l, c, b] (vIx "chamber", vIx "low", S.room) = _
    rw [v_low, v_chamber]
    exact l4 rfl rfl rfl rfl
  · rw [pourAll_nought _ (fun _ => rfl)]
    show pour (pour [h, l, c, b] (vIx "chamber", vIx "basin", S.v - b)) (vIx "chamber", vIx "low", S.room - (S.v - b)) = _
    rw [v_low, v_chamber, v_basin]
    show [h, l + (S.room - (S.v - b)), c - (S.v - b) - (S.room - (S.v - b)), b + (S.v - b)] = [h, l + (S.room - S.v + b), c - S.room, S.v]
    exact l4 rfl (by omega) (by omega) (by omega)
  · rw [pourAll_nought _ (fun _ => rfl)]
    show pour [h, l, c, b] (vIx "chamber", vIx "low", S.room) = _
    rw [v_low, v_chamber]
    exact l4 rfl rfl rfl rfl
/-- what is known of the basin -/
def GoodB (kd : Kd) (room v b : Int) : Prop := 1 ≤ v ∧ v ≤ room ∧ 0 ≤ b ∧ b ≤ v ∧ (kd ≠ .basin → b = 0)
theorem short_no {S : CSt} {h l c b : Int} (hw : S.w = [h, l, c, b]) (g : GoodB S.kd S.room S.v b) (hh : S.lh + S.room ≤ h) (hl : S.ll + S.room ≤ l) : ¬ shortC S = true := by
  intro hz
  obtain ⟨q, hq, hz⟩ := List.any_eq_true.mp hz
  obtain ⟨g1, g2, g3, g4, g5⟩ := g
  obtain ⟨hn, _⟩ := fill_named _ _ _ _ q hq
  unfold shortQ at hz
  rw [Bool.and_eq_true] at hz
  have hb := of_decide_eq_true hz.1
  have hlt := of_decide_eq_true hz.2
  rw [filled_eq hw] at hlt
  rcases hn with e | e | e
  · rw [e, v_high] at hlt
    have hlt : (filledN S.kd S.room S.v h l c b).getD 0 0 < S.lh := hlt
    revert hlt
    cases S.kd
    · intro hlt; have : h - S.room < S.lh := hlt; omega
    · intro hlt; have : h - S.room + b < S.lh := hlt; omega
    · intro hlt; have : h - S.room + S.v < S.lh := hlt; omega
  · rw [e, v_low] at hlt
    have hlt : (filledN S.kd S.room S.v h l c b).getD 1 0 < S.ll := hlt
    revert hlt
    cases S.kd
    · intro hlt; have : l < S.ll := hlt; omega
    · intro hlt; have : l < S.ll := hlt; omega
    · intro hlt; have : l - S.v < S.ll := hlt; omega
  · exact hb e
def upW : List Wd := [.opn false, .bin false, .sht false, .fil, .opn true, .bout true, .sht true]
def downW : List Wd := [.opn true, .bin true, .sht true, .lt, .opn false, .bout false, .sht false]
def passW (f w : Bool) : List Wd := match w, f with
  | true, true => .lt :: upW
  | true, false => upW
  | false, true => downW
  | false, false => .fil :: downW
theorem run_up {S : CSt} (hop : S.op = none) (hins : S.ins = false) (hc : S.w.getD 2 0 = 0) (hr : ¬ S.room = 0) (hs : ¬ shortC S = true) (hf : (filledW S).getD 2 0 = S.room) : runC S upW = (none, { S with w := filledW S }) := by
  have s1 : stepC S (.opn false) = .inr { S with op := some false } := by
    show (if S.op = some false then _ else if ¬ S.op = none then _ else if ¬ S.w.getD 2 0 = lev S false then _ else _) = _
    rw [if_neg (by rw [hop]; intro z; cases z), if_neg (fun z => z hop), if_neg (fun z => z hc)]
  have s2 : stepC { S with op := some false } (.bin false) = .inr { S with op := some false, ins := true } := by
    show (if (some false : Option Bool) = some false then (if S.ins = true then (Sum.inl Er.full : Sum Er CSt) else Sum.inr { S with op := some false, ins := true }) else Sum.inl Er.notNow) = _
    rw [if_pos rfl, if_neg (by rw [hins]; decide)]
  have s3 : stepC { S with op := some false, ins := true } (.sht false) = .inr { S with op := none, ins := true } := by
    show (if (some false : Option Bool) = some false then (Sum.inr { S with op := none, ins := true } : Sum Er CSt) else Sum.inl Er.notNow) = _
    rw [if_pos rfl]
  have s4 : stepC { S with op := none, ins := true } .fil = .inr { S with op := none, ins := true, w := filledW S } := by
    show (if ¬ (none : Option Bool) = none then (Sum.inl Er.against : Sum Er CSt) else if S.w.getD 2 0 = S.room then Sum.inl Er.notNow else if shortC S = true then Sum.inl Er.short else Sum.inr { S with op := none, ins := true, w := filledW S }) = _
    rw [if_neg (fun z => z rfl), if_neg (by rw [hc]; exact fun z => hr z.symm), if_neg hs]
  have s5 : stepC { S with op := none, ins := true, w := filledW S } (.opn true) = .inr { S with op := some true, ins := true, w := filledW S } := by
    show (if (none : Option Bool) = some true then (Sum.inl Er.notNow : Sum Er CSt) else if ¬ (none : Option Bool) = none then Sum.inl Er.against else if ¬ (filledW S).getD 2 0 = S.room then Sum.inl Er.against else Sum.inr { S with op := some true, ins := true, w := filledW S }) = _
    rw [if_neg (fun z => nomatch z), if_neg (fun z => z rfl), if_neg (fun z => z hf)]
  have s6 : stepC { S with op := some true, ins := true, w := filledW S } (.bout true) = .inr { S with op := some true, ins := false, w := filledW S } := by
    show (if (some true : Option Bool) = some true then (if true = true then (Sum.inr { S with op := some true, ins := false, w := filledW S } : Sum Er CSt) else Sum.inl Er.noBoat) else Sum.inl Er.notNow) = _
    rw [if_pos rfl, if_pos rfl]
  have s7 : stepC { S with op := some true, ins := false, w := filledW S } (.sht true) = .inr { S with op := none, ins := false, w := filledW S } := by
    show (if (some true : Option Bool) = some true then (Sum.inr { S with op := none, ins := false, w := filledW S } : Sum Er CSt) else Sum.inl Er.notNow) = _
    rw [if_pos rfl]
  unfold upW
  rw [runC_ok s1, runC_ok s2, runC_ok s3, runC_ok s4, runC_ok s5, runC_ok s6, runC_ok s7]
  show (none, _) = (none, _)
  rw [← hop, ← hins]
theorem run_down {S : CSt} (hop : S.op = none) (hins : S.ins = false) (hc : S.w.getD 2 0 = S.room) (hr : ¬ S.room = 0) (hf : (letW S).getD 2 0 = 0) : runC S downW = (none, { S with w := letW S }) := by
  have s1 : stepC S (.opn true) = .inr { S with op := some true } := by
    show (if S.op = some true then _ else if ¬ S.op = none then _ else if ¬ S.w.getD 2 0 = lev S true then _ else _) = _
    rw [if_neg (by rw [hop]; intro z; cases z), if_neg (fun z => z hop), if_neg (fun z => z hc)]
  have s2 : stepC { S with op := some true } (.bin true) = .inr { S with op := some true, ins := true } := by
    show (if (some true : Option Bool) = some true then (if S.ins = true then (Sum.inl Er.full : Sum Er CSt) else Sum.inr { S with op := some true, ins := true }) else Sum.inl Er.notNow) = _
    rw [if_pos rfl, if_neg (by rw [hins]; decide)]
  have s3 : stepC { S with op := some true, ins := true } (.sht true) = .inr { S with op := none, ins := true } := by
    show (if (some true : Option Bool) = some true then (Sum.inr { S with op := none, ins := true } : Sum Er CSt) else Sum.inl Er.notNow) = _
    rw [if_pos rfl]
  have s4 : stepC { S with op := none, ins := true } .lt = .inr { S with op := none, ins := true, w := letW S } := by
    show (if ¬ (none : Option Bool) = none then (Sum.inl Er.against : Sum Er CSt) else if S.w.getD 2 0 = 0 then Sum.inl Er.notNow else Sum.inr { S with op := none, ins := true, w := letW S }) = _
    rw [if_neg (fun z => z rfl), if_neg (by rw [hc]; exact hr)]
  have s5 : stepC { S with op := none, ins := true, w := letW S } (.opn false) = .inr { S with op := some false, ins := true, w := letW S } := by
    show (if (none : Option Bool) = some false then (Sum.inl Er.notNow : Sum Er CSt) else if ¬ (none : Option Bool) = none then Sum.inl Er.against else if ¬ (letW S).getD 2 0 = 0 then Sum.inl Er.against else Sum.inr { S with op := some false, ins := true, w := letW S }) = _
    rw [if_neg (fun z => nomatch z), if_neg (fun z => z rfl), if_neg (fun z => z hf)]
  have s6 : stepC { S with op := some false, ins := true, w := letW S } (.bout false) = .inr { S with op := some false, ins := false, w := letW S } := by
    show (if (some false : Option Bool) = some false then (if true = true then (Sum.inr { S with op := some false, ins := false, w := letW S } : Sum Er CSt) else Sum.inl Er.noBoat) else Sum.inl Er.notNow) = _
    rw [if_pos rfl, if_pos rfl]
  have s7 : stepC { S with op := some false, ins := false, w := letW S } (.sht false) = .inr { S with op := none, ins := false, w := letW S } := by
    show (if (some false : Option Bool) = some false then (Sum.inr { S with op := none, ins := false, w := letW S } : Sum Er CSt) else Sum.inl Er.notNow) = _
    rw [if_pos rfl]
  unfold downW
  rw [runC_ok s1, runC_ok s2, runC_ok s3, runC_ok s4, runC_ok s5, runC_ok s6, runC_ok s7]
  show (none, _) = (none, _)
  rw [← hop, ← hins]
def lv (f : Bool) (room : Int) : Int := if f = true then room else 0
/-- the waters behind a passage -/
def passN (kd : Kd) (room v : Int) (f w : Bool) (h l b : Int) : List Int := match w, f with
  | true, true => filledN kd room v h ((letN kd room v h l room b).getD 1 0) 0 ((letN kd room v h l room b).getD 3 0)
  | true, false => filledN kd room v h l 0 b
  | false, true => letN kd room v h l room b
  | false, false => letN kd room v ((filledN kd room v h l 0 b).getD 0 0) ((filledN kd room v h l 0 b).getD 1 0) room ((filledN kd room v h l 0 b).getD 3 0)
theorem pass_run {S : CSt} {h l b : Int} {f : Bool} (w : Bool) (hop : S.op = none) (hins : S.ins = false) (hw : S.w = [h, l, lv f S.room, b]) (hr : 1 ≤ S.room) (g : GoodB S.kd S.room S.v b) (hh : S.lh + S.room ≤ h) (hl : S.ll + S.room ≤ l) :
    runC S (passW f w) = (none, { S with w := passN S.kd S.room S.v f w h l b }) := by
  have hr0 : ¬ S.room = 0 := by omega
  have g' := g
  obtain ⟨g1, g2, g3, g4, g5⟩ := g
  cases w <;> cases f
  · -- down from empty: fill, then down
    have hw0 : S.w = [h, l, 0, b] := hw
    have hsh := short_no hw0 g' hh hl
    have s1 : stepC S .fil = .inr { S with w := filledW S } := by
      show (if ¬ S.op = none then _ else if S.w.getD 2 0 = S.room then _ else if shortC S = true then _ else _) = _
      rw [if_neg (fun z => z hop), if_neg (by rw [hw0]; exact fun z => hr0 z.symm), if_neg hsh]
    show runC S (.fil :: downW) = _
    rw [runC_ok s1]
    have e1 := filled_eq hw0
    have e2 : ∃ h' l' b', filledW S = [h', l', S.room, b'] := by
      rw [e1]
      cases S.kd
      · exact ⟨h - S.room, l, b, l4 rfl rfl (Int.zero_add _) rfl⟩
      · exact ⟨h - S.room + b, l, 0, l4 rfl rfl (Int.zero_add _) rfl⟩
      · exact ⟨h - S.room + S.v, l - S.v, b, l4 rfl rfl (Int.zero_add _) rfl⟩
    obtain ⟨h', l', b', e2⟩ := e2
    have e3 : letW { S with w := filledW S } = letN S.kd S.room S.v h' l' S.room b' := let_eq (S := { S with w := filledW S }) e2
    rw [run_down (S := { S with w := filledW S }) hop hins (by show (filledW S).getD 2 0 = S.room; rw [e2]; rfl) hr0 (by rw [e3]; cases S.kd <;> exact Int.sub_self _)]
    show (none, { S with w := letW { S with w := filledW S } }) = (none, { S with w := letN S.kd S.room S.v ((filledN S.kd S.room S.v h l 0 b).getD 0 0) ((filledN S.kd S.room S.v h l 0 b).getD 1 0) S.room ((filledN S.kd S.room S.v h l 0 b).getD 3 0) })
    rw [e3, ← e1, e2]
    rfl
  · -- down from full
    have hw0 : S.w = [h, l, S.room, b] := hw
    have e1 := let_eq hw0
    show runC S downW = _
    rw [run_down hop hins (by rw [hw0]; rfl) hr0 (by rw [e1]; cases S.kd <;> exact Int.sub_self _), e1]
    rfl
  · -- up from empty
    have hw0 : S.w = [h, l, 0, b] := hw
    have e1 := filled_eq hw0
    show runC S upW = _
    rw [run_up hop hins (by rw [hw0]; rfl) hr0 (short_no hw0 g' hh hl) (by rw [e1]; cases S.kd <;> exact Int.zero_add _), e1]
    rfl
  · -- up from full: let, then up
    have hw0 : S.w = [h, l, S.room, b] := hw
    have s1 : stepC S .lt = .inr { S with w := letW S } := by
      show (if ¬ S.op = none then _ else if S.w.getD 2 0 = 0 then _ else _) = _
      rw [if_neg (fun z => z hop), if_neg (by rw [hw0]; exact hr0)]
    show runC S (.lt :: upW) = _
    rw [runC_ok s1]
    have e1 := let_eq hw0
    have e2 : ∃ l' b', letW S = [h, l', 0, b'] ∧ l ≤ l' ∧ GoodB S.kd S.room S.v b' := by
      rw [e1]
      revert g'
      cases S.kd
      · intro g'; exact ⟨l + S.room, b, l4 rfl rfl (Int.sub_self _) rfl, by omega, g'⟩
      · intro g'; exact ⟨l + (S.room - S.v + b), S.v, l4 rfl rfl (Int.sub_self _) rfl, by omega, ⟨g1, g2, by omega, Int.le_refl _, fun z => absurd rfl z⟩⟩
      · intro g'; exact ⟨l + S.room, b, l4 rfl rfl (Int.sub_self _) rfl, by omega, g'⟩
    obtain ⟨l', b', e2, hl2, gb⟩ := e2
    have e3 : filledW { S with w := letW S } = filledN S.kd S.room S.v h l' 0 b' := filled_eq (S := { S with w := letW S }) e2
    rw [run_up (S := { S with w := letW S }) hop hins (by show (letW S).getD 2 0 = 0; rw [e2]; rfl) hr0 (short_no (S := { S with w := letW S }) e2 gb hh (by show S.ll + S.room ≤ l'; omega)) (by rw [e3]; cases S.kd <;> exact Int.zero_add _)]
    show (none, { S with w := filledW { S with w := letW S } }) = (none, { S with w := filledN S.kd S.room S.v h ((letN S.kd S.room S.v h l S.room b).getD 1 0) 0 ((letN S.kd S.room S.v h l S.room b).getD 3 0) })
    rw [e3, ← e1, e2]
    rfl
theorem pass_facts {kd : Kd} {room v b : Int} (g : GoodB kd room v b) (f w : Bool) (h l : Int) : ∃ h' l' b', passN kd room v f w h l b = [h', l', lv w room, b'] ∧ h - room ≤ h' ∧ l - room ≤ l' ∧ GoodB kd room v b' := by
  obtain ⟨g1, g2, g3, g4, g5⟩ := g
  cases kd
  · have hb0 : b = 0 := g5 (fun z => nomatch z)
    cases w <;> cases f
    · exact ⟨h - room, l + room, b, l4 rfl rfl (Int.sub_self _) rfl, by omega, by omega, ⟨g1, g2, g3, g4, g5⟩⟩
    · exact ⟨h, l + room, b, l4 rfl rfl (Int.sub_self _) rfl, by omega, by omega, ⟨g1, g2, g3, g4, g5⟩⟩
    · exact ⟨h - room, l, b, l4 rfl rfl (Int.zero_add _) rfl, by omega, by omega, ⟨g1, g2, g3, g4, g5⟩⟩
    · exact ⟨h - room, l + room, b, l4 rfl rfl (Int.zero_add _) rfl, by omega, by omega, ⟨g1, g2, g3, g4, g5⟩⟩
  · cases w <;> cases f
    · exact ⟨h - room + b, l + (room - v + 0), v, l4 rfl rfl (Int.sub_self _) rfl, by omega, by omega, ⟨g1, g2, by omega, Int.le_refl _, fun z => absurd rfl z⟩⟩
    · exact ⟨h, l + (room - v + b), v, l4 rfl rfl (Int.sub_self _) rfl, by omega, by omega, ⟨g1, g2, by omega, Int.le_refl _, fun z => absurd rfl z⟩⟩
    · exact ⟨h - room + b, l, 0, l4 rfl rfl (Int.zero_add _) rfl, by omega, by omega, ⟨g1, g2, Int.le_refl _, by omega, fun z => absurd rfl z⟩⟩
    · exact ⟨h - room + v, l + (room - v + b), 0, l4 rfl rfl (Int.zero_add _) rfl, by omega, by omega, ⟨g1, g2, Int.le_refl _, by omega, fun z => absurd rfl z⟩⟩
  · have hb0 : b = 0 := g5 (fun z => nomatch z)
    cases w <;> cases f
    · exact ⟨h - room + v, l - v + room, b, l4 rfl rfl (Int.sub_self _) rfl, by omega, by omega, ⟨g1, g2, g3, g4, g5⟩⟩
    · exact ⟨h, l + room, b, l4 rfl rfl (Int.sub_self _) rfl, by omega, by omega, ⟨g1, g2, g3, g4, g5⟩⟩
    · exact ⟨h - room + v, l - v, b, l4 rfl rfl (Int.zero_add _) rfl, by omega, by omega, ⟨g1, g2, g3, g4, g5⟩⟩
    · exact ⟨h - room + v, l + room - v, b, l4 rfl rfl (Int.zero_add _) rfl, by omega, by omega, ⟨g1, g2, g3, g4, g5⟩⟩
theorem dec_up (b : Bool) : decide (wv b = V.str "up") = b := by
  cases b
  · exact decide_eq_false ud_ne
  · exact decide_eq_true rfl
theorem scal_wv (b : Bool) (s : Str) : scal (wv b) (.str s) = true := by cases b <;> rfl
theorem atI_way2 (z : Int) : atI [V.str "up", V.str "down"] (z % 2) = some (wv (decide (z % 2 = 0))) := by
  have h0 := Int.emod_nonneg z (by decide : (2 : Int) ≠ 0)
  have h1 := Int.emod_lt_of_pos z (by decide : (0 : Int) < 2)
  by_cases h : z % 2 = 0
  · rw [decide_eq_true h, h]
    rfl
  · have e2 : z % 2 = 1 := by omega
    rw [decide_eq_false h, e2]
    rfl
theorem Keep.sql' {K : PySem.W.Frag} {a : Addr} {H H' : Hp} {xs : List V} (e : Same H H') (h : SqL K H a xs) : SqL K H' a xs := e.seq h
theorem same_keep {x : Addr} {H H1 H2 : Hp} (hx : H x = none) (s : Same H H1) (k : Keep x H1 H2) : Same H H2 := fun b o e => k b o (ne_of_none e hx) (s b o e)
theorem margin {room lo h : Int} {n i : Nat} (hr : 1 ≤ room) (hi : i < n) (hm : lo + room * ((n + 1 - i : Nat) : Int) ≤ h) : lo + room ≤ h ∧ ∀ h' : Int, h - room ≤ h' → lo + room * ((n + 1 - (i + 1) : Nat) : Int) ≤ h' := by
  have e : ((n + 1 - i : Nat) : Int) = ((n + 1 - (i + 1) : Nat) : Int) + 1 := by omega
  rw [e, Int.mul_add, Int.mul_one] at hm
  have h0 : 0 ≤ room * ((n + 1 - (i + 1) : Nat) : Int) := Int.mul_nonneg (by omega) (by omega)
  exact ⟨by omega, fun h' hh => by omega⟩
theorem flat4 (ms : List Int) : (ms.map V.int).all flatR = true := by
  rw [List.all_eq_true]
  intro x hx
  obtain ⟨z, _, rfl⟩ := List.mem_map.mp hx
  rfl
theorem lv_mul (f : Bool) (room : Int) : room * (if f = true then 1 else 0) = lv f room := by unfold lv; cases f <;> simp
def wordsV (Ws : List Wd) : List V := Ws.map fun W => V.str (wdS W)
def spPassing : Sp := fun vs H Q _ => ∃ f w : Bool, vs = [.bl f, wv w] ∧ ∀ (l : Addr) (H' : Hp), Same H H' → H l = none → H' l = some (.lst (wordsV (passW f w))) → Q (.ref l) H'
theorem pass_ok {K : PySem.W.Frag} {dW : Addr} (f w : Bool) : ∀ W ∈ passW f w, OkW K dW W := by
  have hu : ∀ W ∈ upW, OkW K dW W := by
    intro W hW
    simp only [upW, List.mem_cons, List.mem_nil_iff, or_false] at hW
    rcases hW with rfl | rfl | rfl | rfl | rfl | rfl | rfl <;> trivial
  have hd : ∀ W ∈ downW, OkW K dW W := by
    intro W hW
    simp only [downW, List.mem_cons, List.mem_nil_iff, or_false] at hW
    rcases hW with rfl | rfl | rfl | rfl | rfl | rfl | rfl <;> trivial
  intro W hW
  cases w <;> cases f
  · rcases List.mem_cons.mp hW with rfl | hW
    · trivial
    · exact hd W hW
  · exact hd W hW
  · exact hu W hW
  · rcases List.mem_cons.mp hW with rfl | hW
    · trivial
    · exact hu W hW

def spFour : Sp := fun vs H Q _ => ∃ (t : Addr) (ms : List Int), vs = [.ref t] ∧ H t = some (.tup (ms.map V.int)) ∧ ms.length = 4 ∧ Q (.bl true) H

theorem iteC0 {d : Bool} {A B : Prop} (e : d = false) (h : B) : if d = true then A else B := by rw [e]; exact iteF h
def gts (o : Option Bool) : List V := [.bl (decide (o = some true)), .bl (decide (o = some false))]
/-- the law's own state: a list of two lists and a truth value -/
def StAt (H : Hp) (l : Addr) (S : CSt) : Prop := ∃ fa ga : Addr, H l = some (.lst [.ref fa, .ref ga, .bl S.ins]) ∧ H fa = some (.lst (S.w.map V.int)) ∧ H ga = some (.lst (gts S.op))
theorem StAt.same {H H' : Hp} {l : Addr} {S : CSt} (e : Same H H') (h : StAt H l S) : StAt H' l S := by
  obtain ⟨fa, ga, h1, h2, h3⟩ := h
  exact ⟨fa, ga, e _ _ h1, e _ _ h2, e _ _ h3⟩
theorem StAt.keep {cs : Kd → Addr} {cC : Addr} {x lk : Addr} {T S : CSt} {H H' : Hp} {l : Addr} (k : Keep x H H') (hx : ChAt cs cC H x lk T) (h : StAt H l S) : StAt H' l S := by
  obtain ⟨dx', hd', ls', n', h'', l'', hx', _⟩ := hx
  obtain ⟨fa, ga, h1, h2, h3⟩ := h
  exact ⟨fa, ga, k _ _ (ne_of h1 hx' (fun z => nomatch z)) h1, k _ _ (ne_of h2 hx' (fun z => nomatch z)) h2, k _ _ (ne_of h3 hx' (fun z => nomatch z)) h3⟩
def erS : Er → Str
  | .against => "Against"
  | .full => "Full"
  | .noBoat => "NoBoat"
  | .notNow => "NotNow"
  | .short => "Short"
  | .unknown => "Unknown"
def erN : Er → Nat
  | .against => 0
  | .full => 1
  | .noBoat => 2
  | .notNow => 3
  | .short => 4
  | .unknown => 5
def oS : Option Er → Str
  | none => ""
  | some e => erS e
theorem er_ne (e : Er) : ¬ erS e = "" := by cases e <;> decide +kernel
def nmS : List Str := ["Against", "Full", "NoBoat", "NotNow", "Short", "Unknown"]
def namesV : Option Er → List V
  | none => []
  | some e => [V.bl (decide (erN e = 0)), V.bl (decide (erN e = 1)), V.bl (decide (erN e = 2)), V.bl (decide (erN e = 3)), V.bl (decide (erN e = 4)), V.bl (decide (erN e = 5)), V.bl true]
theorem er_dec (e : Er) : ∀ j, j < 6 → decide (V.str (erS e) = V.str (nmS.getD j "")) = decide (erN e = j) := by
  intro j hj
  rcases j with _ | _ | _ | _ | _ | _ | j
  all_goals first | omega | skip
  all_goals (cases e <;> first | exact decide_eq_true rfl | exact (decide_eq_false (fun h => absurd (V.str.inj h) (by decide +kernel))).trans rfl)
theorem names_flat (o : Option Er) : (namesV o).all flatV = true := by cases o <;> rfl
def dueC (S : CSt) (W : Wd) : Option Er := match stepC S W with
  | .inl e => some e
  | .inr _ => none
theorem due_inl {S : CSt} {W : Wd} {e : Er} (h : stepC S W = .inl e) : oS (dueC S W) = erS e := by unfold dueC; rw [h]; rfl
theorem due_inr {S S' : CSt} {W : Wd} (h : stepC S W = .inr S') : oS (dueC S W) = "" := by unfold dueC; rw [h]; rfl
theorem dueC_inl {S : CSt} {W : Wd} {e : Er} (h : stepC S W = .inl e) : dueC S W = some e := by unfold dueC; rw [h]
theorem dueC_inr {S S' : CSt} {W : Wd} (h : stepC S W = .inr S') : dueC S W = none := by unfold dueC; rw [h]
def sn (sd : Bool) : Int := if sd = true then 0 else 1
theorem at_s (o : Option Bool) (sd : Bool) : atI (gts o) (sn sd) = some (.bl (decide (o = some sd))) := by cases sd <;> rfl
theorem at_o (o : Option Bool) (sd : Bool) : atI (gts o) (1 - sn sd) = some (.bl (decide (o = some (!sd)))) := by cases sd <;> rfl
theorem at_lev (S : CSt) (sd : Bool) : atI [V.int S.room, V.int 0] (sn sd) = some (.int (lev S sd)) := by cases sd <;> rfl
def gW : Nat → Bool → Wd
  | 0, sd => .opn sd
  | 1, sd => .sht sd
  | 2, sd => .bin sd
  | _, sd => .bout sd
def spGate : Sp := fun vs H Q _ => ∃ (l : Addr) (S : CSt) (n : Nat) (sd : Bool), vs = [.int (n : Int), .int (sn sd), .int S.room, .ref l] ∧ StAt H l S ∧ S.w.length = 4 ∧ n < 4 ∧ ∀ H', Same H H' → Q (.str (oS (dueC S (gW n sd)))) H'
def spNames : Sp := fun vs H Q _ => ∃ o : Option Er, vs = [.str (oS o)] ∧ ∀ (r : Addr) (H' : Hp), Same H H' → H r = none → H' r = some (.lst (namesV o)) → Q (.ref r) H'
/-- what a word that is done has found and done -/
theorem done_opn {S S' : CSt} {sd : Bool} (h : stepC S (.opn sd) = .inr S') : S.op = none ∧ S.w.getD 2 0 = lev S sd ∧ S' = { S with op := some sd } := by
  have h : (if S.op = some sd then (Sum.inl Er.notNow : Sum Er CSt) else if ¬ S.op = none then Sum.inl Er.against else if ¬ S.w.getD 2 0 = lev S sd then Sum.inl Er.against else Sum.inr { S with op := some sd }) = .inr S' := h
  by_cases h1 : S.op = some sd
  · rw [if_pos h1] at h; cases h
  rw [if_neg h1] at h
  by_cases h2 : S.op = none
  · rw [if_neg (fun z => z h2)] at h
    by_cases h3 : S.w.getD 2 0 = lev S sd
    · rw [if_neg (fun z => z h3)] at h; cases h; exact ⟨h2, h3, rfl⟩
    · rw [if_pos h3] at h; cases h
  · rw [if_pos h2] at h; cases h
theorem done_sht {S S' : CSt} {sd : Bool} (h : stepC S (.sht sd) = .inr S') : S.op = some sd ∧ S' = { S with op := none } := by
  have h : (if S.op = some sd then (Sum.inr { S with op := none } : Sum Er CSt) else Sum.inl Er.notNow) = .inr S' := h
  by_cases h1 : S.op = some sd
  · rw [if_pos h1] at h; cases h; exact ⟨h1, rfl⟩
  · rw [if_neg h1] at h; cases h
theorem done_fil {S S' : CSt} (h : stepC S .fil = .inr S') : S.op = none ∧ ¬ S.w.getD 2 0 = S.room ∧ ¬ shortC S = true ∧ S' = { S with w := filledW S } := by
  have h : (if ¬ S.op = none then (Sum.inl Er.against : Sum Er CSt) else if S.w.getD 2 0 = S.room then Sum.inl Er.notNow else if shortC S = true then Sum.inl Er.short else Sum.inr { S with w := filledW S }) = .inr S' := h
  by_cases h2 : S.op = none
  · rw [if_neg (fun z => z h2)] at h
    by_cases h3 : S.w.getD 2 0 = S.room
    · rw [if_pos h3] at h; cases h
    rw [if_neg h3] at h
    by_cases h4 : shortC S = true
    · rw [if_pos h4] at h; cases h
    · rw [if_neg h4] at h; cases h; exact ⟨h2, h3, h4, rfl⟩
  · rw [if_pos h2] at h; cases h
theorem done_lt {S S' : CSt} (h : stepC S .lt = .inr S') : S.op = none ∧ ¬ S.w.getD 2 0 = 0 ∧ S' = { S with w := letW S } := by
  have h : (if ¬ S.op = none then (Sum.inl Er.against : Sum Er CSt) else if S.w.getD 2 0 = 0 then Sum.inl Er.notNow else Sum.inr { S with w := letW S }) = .inr S' := h
  by_cases h2 : S.op = none
  · rw [if_neg (fun z => z h2)] at h
    by_cases h3 : S.w.getD 2 0 = 0
    · rw [if_pos h3] at h; cases h
    · rw [if_neg h3] at h; cases h; exact ⟨h2, h3, rfl⟩
  · rw [if_pos h2] at h; cases h
theorem done_bin {S S' : CSt} {sd : Bool} (h : stepC S (.bin sd) = .inr S') : S.op = some sd ∧ S.ins = false ∧ S' = { S with ins := true } := by
  have h : (if S.op = some sd then (if S.ins = true then (Sum.inl Er.full : Sum Er CSt) else Sum.inr { S with ins := true }) else Sum.inl Er.notNow) = .inr S' := h
  by_cases h1 : S.op = some sd
  · rw [if_pos h1] at h
    by_cases h2 : S.ins = true
    · rw [if_pos h2] at h; cases h
    · rw [if_neg h2] at h; cases h; exact ⟨h1, Bool.eq_false_iff.mpr h2, rfl⟩
  · rw [if_neg h1] at h; cases h
theorem done_bout {S S' : CSt} {sd : Bool} (h : stepC S (.bout sd) = .inr S') : S.op = some sd ∧ S.ins = true ∧ S' = { S with ins := false } := by
  have h : (if S.op = some sd then (if S.ins = true then (Sum.inr { S with ins := false } : Sum Er CSt) else Sum.inl Er.noBoat) else Sum.inl Er.notNow) = .inr S' := h
  by_cases h1 : S.op = some sd
  · rw [if_pos h1] at h
    by_cases h2 : S.ins = true
    · rw [if_pos h2] at h; cases h; exact ⟨h1, h2, rfl⟩
    · rw [if_neg h2] at h; cases h
  · rw [if_neg h1] at h; cases h
def gF (kd : Kd) (room v b : Int) : List Int := match kd with
  | .plain => [-room, 0, room, 0]
  | .basin => [b - room, 0, room, -b]
  | .pump => [v - room, -v, room, 0]
def gL (kd : Kd) (room v b : Int) : List Int := match kd with
  | .basin => [0, room - v + b, -room, v - b]
  | _ => [0, room, -room, 0]
def addG (ms g : List Int) : List Int := [ms.getD 0 0 + g.getD 0 0, ms.getD 1 0 + g.getD 1 0, ms.getD 2 0 + g.getD 2 0, ms.getD 3 0 + g.getD 3 0]
def behS (kd : Kd) (room v : Int) (ms : List Int) : Wd → List Int
  | .fil => addG ms (gF kd room v (ms.getD 3 0))
  | .lt => addG ms (gL kd room v (ms.getD 3 0))
  | _ => addG ms [0, 0, 0, 0]
theorem add_zero4 (h l c b : Int) : addG [h, l, c, b] [0, 0, 0, 0] = [h, l, c, b] := l4 (Int.add_zero _) (Int.add_zero _) (Int.add_zero _) (Int.add_zero _)
theorem beh_fil (kd : Kd) (room v h l c b : Int) (hb : kd ≠ .basin → b = 0) : behS kd room v [h, l, c, b] .fil = filledN kd room v h l c b := by
  cases kd
  · exact l4 (show h + -room = h - room by omega) (Int.add_zero _) rfl (Int.add_zero _)
  · exact l4 (show h + (b - room) = h - room + b by omega) (Int.add_zero _) rfl (show b + -b = 0 by omega)
  · exact l4 (show h + (v - room) = h - room + v by omega) (show l + -v = l - v by omega) rfl (Int.add_zero _)
theorem beh_lt (kd : Kd) (room v h l c b : Int) : behS kd room v [h, l, c, b] .lt = letN kd room v h l c b := by
  cases kd
  · exact l4 (Int.add_zero _) rfl (show c + -room = c - room by omega) (Int.add_zero _)
  · exact l4 (Int.add_zero _) rfl (show c + -room = c - room by omega) (show b + (v - b) = v by omega)
  · exact l4 (Int.add_zero _) rfl (show c + -room = c - room by omega) (Int.add_zero _)
theorem filledN_4 (kd : Kd) (room v h l c b : Int) : ∃ h' l' c' b', filledN kd room v h l c b = [h', l', c', b'] := by cases kd <;> exact ⟨_, _, _, _, rfl⟩
theorem letN_4 (kd : Kd) (room v h l c b : Int) : ∃ h' l' c' b', letN kd room v h l c b = [h', l', c', b'] := by cases kd <;> exact ⟨_, _, _, _, rfl⟩
def spGain (F : Kd → Int → Int → Int → List Int) : Sp := fun vs H Q _ => ∃ (kd : Kd) (room v b : Int), vs = [.int (kdN kd), .int room, .int v, .int b] ∧ ∀ (r : Addr) (H' : Hp), Same H H' → H r = none → H' r = some (.lst ((F kd room v b).map V.int)) → Q (.ref r) H'

def strayL : List Str := ["", "open", "high", "open  high", "openhigh", "open high ", " fill", "Fill", "lets", "in", "out middle", "shut both", "high open", "opens low", "in low high", "fill high", "let low", "OUT LOW", "shut lo"]
theorem stray_of {K : PySem.W.Frag} {dW : Addr} (h0 : PySem.W.nsIn K dW "" = some none) (h1 : PySem.W.nsIn K dW "open" = some none) (h2 : PySem.W.nsIn K dW "high" = some none) (h3 : PySem.W.nsIn K dW "open  high" = some none) (h4 : PySem.W.nsIn K dW "openhigh" = some none) (h5 : PySem.W.nsIn K dW "open high " = some none) (h6 : PySem.W.nsIn K dW " fill" = some none) (h7 : PySem.W.nsIn K dW "Fill" = some none) (h8 : PySem.W.nsIn K dW "lets" = some none) (h9 : PySem.W.nsIn K dW "in" = some none) (h10 : PySem.W.nsIn K dW "out middle" = some none) (h11 : PySem.W.nsIn K dW "shut both" = some none) (h12 : PySem.W.nsIn K dW "high open" = some none) (h13 : PySem.W.nsIn K dW "opens low" = some none) (h14 : PySem.W.nsIn K dW "in low high" = some none) (h15 : PySem.W.nsIn K dW "fill high" = some none) (h16 : PySem.W.nsIn K dW "let low" = some none) (h17 : PySem.W.nsIn K dW "OUT LOW" = some none) (h18 : PySem.W.nsIn K dW "shut lo" = some none) : ∀ s ∈ strayL, PySem.W.nsIn K dW s = some none := by
  intro s hs
  simp only [strayL, List.mem_cons, List.mem_nil_iff, or_false] at hs
  rcases hs with rfl | rfl | rfl | rfl | rfl | rfl | rfl | rfl | rfl | rfl | rfl | rfl | rfl | rfl | rfl | rfl | rfl | rfl | rfl
  · exact h0
  · exact h1
  · exact h2
  · exact h3
  · exact h4
  · exact h5
  · exact h6
  · exact h7
  · exact h8
  · exact h9
  · exact h10
  · exact h11
  · exact h12
  · exact h13
  · exact h14
  · exact h15
  · exact h16
  · exact h17
  · exact h18
theorem stray_at (n : Int) : ∃ s ∈ strayL, atI (strayL.map V.str) (n % 19) = some (.str s) := by
  have h1 := Int.emod_nonneg n (by decide : (19 : Int) ≠ 0)
  have h2 := Int.emod_lt_of_pos n (by decide : (0 : Int) < 19)
  obtain ⟨k, hk⟩ : ∃ k : Nat, n % 19 = (k : Int) := ⟨(n % 19).toNat, by omega⟩
  rw [hk]
  have hl : k < strayL.length := by show k < 19; omega
  refine ⟨strayL[k], List.getElem_mem hl, atI_nat ?_⟩
  rw [List.getElem?_map, List.getElem?_eq_getElem hl]
  rfl
def tenW : List Wd := [.opn true, .opn false, .sht true, .sht false, .bin true, .bin false, .bout true, .bout false, .fil, .lt]
/-- the machine between its words -/
def MInv (S : CSt) : Prop := ∃ h l c b : Int, S.w = [h, l, c, b] ∧ (c = 0 ∨ c = S.room) ∧ 1 ≤ S.room ∧ GoodB S.kd S.room S.v b
def SameL (S T : CSt) : Prop := S.kd = T.kd ∧ S.room = T.room ∧ S.v = T.v ∧ S.lh = T.lh ∧ S.ll = T.ll
theorem minv_fil {S : CSt} {h l b : Int} (hw : S.w = [h, l, 0, b]) (hr : 1 ≤ S.room) (g : GoodB S.kd S.room S.v b) : MInv { S with w := filledW S } ∧ filledW S = addG [h, l, 0, b] (gF S.kd S.room S.v b) := by
  obtain ⟨g1, g2, g3, g4, g5⟩ := g
  have e := filled_eq hw
  have e2 := beh_fil S.kd S.room S.v h l 0 b g5
  refine ⟨?_, by rw [e, ← e2]; rfl⟩
  have key : ∃ h' l' b', filledN S.kd S.room S.v h l 0 b = [h', l', S.room, b'] ∧ GoodB S.kd S.room S.v b' := by
    cases hk : S.kd
    · rw [hk] at g5
      exact ⟨_, _, _, l4 rfl rfl (Int.zero_add _) rfl, ⟨g1, g2, g3, g4, g5⟩⟩
    · exact ⟨_, _, _, l4 rfl rfl (Int.zero_add _) rfl, ⟨g1, g2, Int.le_refl _, by omega, fun _ => rfl⟩⟩
    · rw [hk] at g5
      exact ⟨_, _, _, l4 rfl rfl (Int.zero_add _) rfl, ⟨g1, g2, g3, g4, g5⟩⟩
  obtain ⟨h', l', b', k1, k2⟩ := key
  exact ⟨h', l', S.room, b', e.trans k1, .inr rfl, hr, k2⟩
theorem minv_lt {S : CSt} {h l b : Int} (hw : S.w = [h, l, S.room, b]) (hr : 1 ≤ S.room) (g : GoodB S.kd S.room S.v b) : MInv { S with w := letW S } ∧ letW S = addG [h, l, S.room, b] (gL S.kd S.room S.v b) := by
  obtain ⟨g1, g2, g3, g4, g5⟩ := g
  have e := let_eq hw
  have e2 := beh_lt S.kd S.room S.v h l S.room b
  refine ⟨?_, by rw [e, ← e2]; rfl⟩
  have key : ∃ h' l' b', letN S.kd S.room S.v h l S.room b = [h', l', 0, b'] ∧ GoodB S.kd S.room S.v b' := by
    cases hk : S.kd
    · rw [hk] at g5
      exact ⟨_, _, _, l4 rfl rfl (Int.sub_self _) rfl, ⟨g1, g2, g3, g4, g5⟩⟩
    · exact ⟨_, _, _, l4 rfl rfl (Int.sub_self _) rfl, ⟨g1, g2, by omega, Int.le_refl _, fun z => absurd rfl z⟩⟩
    · rw [hk] at g5
      exact ⟨_, _, _, l4 rfl rfl (Int.sub_self _) rfl, ⟨g1, g2, g3, g4, g5⟩⟩
  obtain ⟨h', l', b', k1, k2⟩ := key
  exact ⟨h', l', 0, b', e.trans k1, .inl rfl, hr, k2⟩
theorem step_m {S S' : CSt} {W : Wd} (i : MInv S) (h : stepC S W = .inr S') : MInv S' ∧ SameL S' S := by
  cases W with
  | opn sd => obtain ⟨_, _, rfl⟩ := done_opn h; exact ⟨i, rfl, rfl, rfl, rfl, rfl⟩
  | sht sd => obtain ⟨_, rfl⟩ := done_sht h; exact ⟨i, rfl, rfl, rfl, rfl, rfl⟩
  | fil =>
    obtain ⟨_, h2, _, rfl⟩ := done_fil h
    obtain ⟨a, b, c, d, hw, hc, hr, hg⟩ := i
    have hc0 : c = 0 := hc.resolve_right (fun z => h2 (by rw [hw]; exact z))
    subst hc0
    exact ⟨(minv_fil hw hr hg).1, rfl, rfl, rfl, rfl, rfl⟩
  | lt =>
    obtain ⟨_, h2, rfl⟩ := done_lt h
    obtain ⟨a, b, c, d, hw, hc, hr, hg⟩ := i
    have hc0 : c = S.room := hc.resolve_left (fun z => h2 (by rw [hw]; exact z))
    rw [hc0] at hw
    exact ⟨(minv_lt hw hr hg).1, rfl, rfl, rfl, rfl, rfl⟩
  | bin sd => obtain ⟨_, _, rfl⟩ := done_bin h; exact ⟨i, rfl, rfl, rfl, rfl, rfl⟩
  | bout sd => obtain ⟨_, _, rfl⟩ := done_bout h; exact ⟨i, rfl, rfl, rfl, rfl, rfl⟩
  | odd z => cases h
theorem sq_high (S : CSt) (n : Int) : shortQ S ("high", "chamber", n) = decide ((filledW S).getD 0 0 < S.lh) := by
  unfold shortQ
  rw [decide_eq_true (show ¬ ("high" : Str) = "basin" by decide +kernel), Bool.true_and]
  show decide (List.getD (filledW S) (vIx "high") 0 < List.getD [S.lh, S.ll] (vIx "high") 0) = _
  rw [v_high]; rfl
theorem sq_low (S : CSt) (n : Int) : shortQ S ("low", "chamber", n) = decide ((filledW S).getD 1 0 < S.ll) := by
  unfold shortQ
  rw [decide_eq_true (show ¬ ("low" : Str) = "basin" by decide +kernel), Bool.true_and]
  show decide (List.getD (filledW S) (vIx "low") 0 < List.getD [S.lh, S.ll] (vIx "low") 0) = _
  rw [v_low]; rfl
theorem sq_basin (S : CSt) (n : Int) : shortQ S ("basin", "chamber", n) = false := by
  unfold shortQ
  rw [decide_eq_false (fun z => z rfl), Bool.false_and]
theorem nn (s : Str) (n : Int) : notNought (s, n) = !decide (n = 0) := rfl
theorem any_fill (ps : List (Str × Int)) (f : Str × Int → Str × Str × Int) (p : Str × Str × Int → Bool) : ((ps.filter notNought).map f).any p = ps.any (fun q => notNought q && p (f q)) := by
  rw [List.any_map, List.any_filter]
  rfl
/-- a fill is short where a reach that gives comes below its least -/
def shortG (S : CSt) (k : Nat) : Prop := (gF S.kd S.room S.v (S.w.getD 3 0)).getD k 0 < 0 ∧ S.w.getD k 0 + (gF S.kd S.room S.v (S.w.getD 3 0)).getD k 0 < [S.lh, S.ll].getD k 0
theorem short_iff {S : CSt} {h l b : Int} (hw : S.w = [h, l, 0, b]) (hr : 1 ≤ S.room) (g : GoodB S.kd S.room S.v b) : shortC S = true ↔ shortG S 0 ∨ shortG S 1 := by
  obtain ⟨g1, g2, g3, g4, g5⟩ := g
  have e := filled_eq hw
  unfold shortC shortG
  rw [hw]
  show (fillP S.kd S.room S.v b).any (shortQ S) = true ↔ ((gF S.kd S.room S.v b).getD 0 0 < 0 ∧ h + (gF S.kd S.room S.v b).getD 0 0 < S.lh) ∨ ((gF S.kd S.room S.v b).getD 1 0 < 0 ∧ l + (gF S.kd S.room S.v b).getD 1 0 < S.ll)
  unfold fillP fillK
  cases hk : S.kd
  · rw [hk] at e
    rw [any_fill]
    show ((notNought ("high", S.room) && shortQ S ("high", "chamber", S.room)) || false) = true ↔ ((-S.room < 0 ∧ h + -S.room < S.lh) ∨ ((0 : Int) < 0 ∧ l + 0 < S.ll))
    rw [sq_high, e, nn]
    show ((!decide (S.room = 0) && decide (h - S.room < S.lh)) || false) = true ↔ _
    simp only [Bool.or_false, Bool.and_eq_true, Bool.not_eq_true', decide_eq_false_iff_not, decide_eq_true_eq]
    omega
  · rw [hk] at e
    rw [any_fill]
    show ((notNought ("basin", b) && shortQ S ("basin", "chamber", b)) || ((notNought ("high", S.room - b) && shortQ S ("high", "chamber", S.room - b)) || false)) = true ↔ ((b - S.room < 0 ∧ h + (b - S.room) < S.lh) ∨ ((0 : Int) < 0 ∧ l + 0 < S.ll))
    rw [sq_high, sq_basin, e, nn, nn]
    show ((!decide (b = 0) && false) || ((!decide (S.room - b = 0) && decide (h - S.room + b < S.lh)) || false)) = true ↔ _
    simp only [Bool.and_false, Bool.false_or, Bool.or_false, Bool.and_eq_true, Bool.not_eq_true', decide_eq_false_iff_not, decide_eq_true_eq]
    omega
  · rw [hk] at e
    rw [any_fill]
    show ((notNought ("low", S.v) && shortQ S ("low", "chamber", S.v)) || ((notNought ("high", S.room - S.v) && shortQ S ("high", "chamber", S.room - S.v)) || false)) = true ↔ ((S.v - S.room < 0 ∧ h + (S.v - S.room) < S.lh) ∨ (-S.v < 0 ∧ l + -S.v < S.ll))
    rw [sq_high, sq_low, e, nn, nn]
    show ((!decide (S.v = 0) && decide (l - S.v < S.ll)) || ((!decide (S.room - S.v = 0) && decide (h - S.room + S.v < S.lh)) || false)) = true ↔ _
    simp only [Bool.or_false, Bool.or_eq_true, Bool.and_eq_true, Bool.not_eq_true', decide_eq_false_iff_not, decide_eq_true_eq]
    omega
/-- there is always a word that can be done -/
theorem some_fit {S : CSt} (i : MInv S) : ∃ (j : Nat) (W : Wd), j < 10 ∧ tenW[j]? = some W ∧ dueC S W = none := by
  obtain ⟨h, l, c, b, hw, hc, hr, _⟩ := i
  rcases hop : S.op with _ | (_ | _)
  · rcases hc with hc | hc
    · refine ⟨1, .opn false, by decide, rfl, dueC_inr (S' := { S with op := some false }) ?_⟩
      show (if S.op = some false then _ else if ¬ S.op = none then _ else if ¬ S.w.getD 2 0 = lev S false then _ else _) = _
      rw [if_neg (by rw [hop]; exact fun z => nomatch z), if_neg (fun z => z hop), if_neg (fun z => z (by rw [hw]; exact hc))]
    · refine ⟨0, .opn true, by decide, rfl, dueC_inr (S' := { S with op := some true }) ?_⟩
      show (if S.op = some true then _ else if ¬ S.op = none then _ else if ¬ S.w.getD 2 0 = lev S true then _ else _) = _
      rw [if_neg (by rw [hop]; exact fun z => nomatch z), if_neg (fun z => z hop), if_neg (fun z => z (by rw [hw]; exact hc))]
  · refine ⟨3, .sht false, by decide, rfl, dueC_inr (S' := { S with op := none }) ?_⟩
    show (if S.op = some false then _ else _) = _
    rw [if_pos hop]
  · refine ⟨2, .sht true, by decide, rfl, dueC_inr (S' := { S with op := none }) ?_⟩
    show (if S.op = some true then _ else _) = _
    rw [if_pos hop]
theorem ten_word {j : Nat} {W : Wd} {s : Str} (hj : j < 10) (h : tenW[j]? = some W) : (tenW ++ [Wd.odd s])[j]? = some W := by
  rw [List.getElem?_append_left (by show j < 10; exact hj)]; exact h
def LockL (H : Hp) (lo le : Addr) (S : CSt) : Prop := H lo = some (.lst [.int (kdN S.kd), .int S.room, .int S.v]) ∧ H le = some (.lst [.int S.lh, .int S.ll])
theorem LockL.same {H H' : Hp} {lo le : Addr} {S : CSt} (e : Same H H') (h : LockL H lo le S) : LockL H' lo le S := ⟨e _ _ h.1, e _ _ h.2⟩
def spStray : Sp := fun vs H Q _ => ∃ n : Int, vs = [.int n] ∧ ∀ (s : Str) (H' : Hp), Same H H' → s ∈ strayL → Q (.str s) H'
def spTenW : Sp := fun vs H Q _ => vs = [] ∧ ∀ (l : Addr) (H' : Hp), Same H H' → H l = none → H' l = some (.lst (wordsV tenW)) → Q (.ref l) H'
def spPair : Sp := fun vs H Q _ => ∃ (t : Addr) (p r : Bool), vs = [.ref t] ∧ H t = some (.tup [.bl p, .bl r]) ∧ Q (.bl true) H
def spWater18 : Sp := fun vs H Q _ => ∃ c le room : Int, vs = [.int c, .int le, .int room] ∧ ∀ n : Int, Q (.int n) H
def spDue15 : Sp := fun vs H Q _ => ∃ (l lo le : Addr) (S : CSt) (j : Nat) (W : Wd) (s : Str), vs = [.int (j : Int), .ref lo, .ref le, .ref l] ∧ LockL H lo le S ∧ StAt H l S ∧ MInv S ∧ (tenW ++ [Wd.odd s])[j]? = some W ∧ ∀ H', Same H H' → Q (.str (oS (dueC S W))) H'
def spBehind15 : Sp := fun vs H Q _ => ∃ (l lo : Addr) (S S' : CSt) (j : Nat) (W : Wd) (s : Str), vs = [.int (j : Int), .ref lo, .ref l] ∧ H lo = some (.lst [.int (kdN S.kd), .int S.room, .int S.v]) ∧ StAt H l S ∧ MInv S ∧ (tenW ++ [Wd.odd s])[j]? = some W ∧ stepC S W = .inr S' ∧ ∀ (r : Addr) (H' : Hp), Same H H' → StAt H' r S' → Q (.ref r) H'
def spChoice : Sp := fun vs H Q _ => ∃ (c : Int) (l lo le : Addr) (S : CSt), vs = [.int c, .ref lo, .ref le, .ref l] ∧ LockL H lo le S ∧ StAt H l S ∧ MInv S ∧ ∀ (j : Nat) (H' : Hp), j ≤ 10 → Same H H' → Q (.int (j : Int)) H'
section
variable (cs : Kd → Addr) (cC : Addr)
def spTold15 (K : PySem.W.Frag) (dW : Addr) : Sp := fun vs H Q _ => ∃ (x lk : Addr) (S : CSt) (W : Wd), vs = [.ref x, .str (wdS W)] ∧ ChAt cs cC H x lk S ∧ OkW K dW W ∧
  ∀ (S' : CSt), (dueC S W = none → stepC S W = .inr S') → (∀ e, dueC S W = some e → S' = S) → ∀ (r nm : Addr) (H' : Hp), Keep x H H' → ChAt cs cC H' x lk S' → H' r = some (.lst [.ref nm, .bl true]) → H' nm = some (.lst (namesV (dueC S W))) → Q (.ref r) H'
def spLooks15 : Sp := fun vs H Q _ => ∃ (x lk l : Addr) (S : CSt) (t : Int), vs = [.ref x, .ref l, .int t] ∧ ChAt cs cC H x lk S ∧ StAt H l S ∧ ∀ H', Same H H' → Q (.bl true) H'
end
theorem flatw2 (o : Option Bool) : (gts o).all flatR = true := rfl
theorem told_deq {K : PySem.W.Frag} {H : Hp} {n m : Addr} {o : Option Er} (ne : n ≠ m) (h1 : H n = some (.lst (namesV o))) (h2 : H m = some (.lst (namesV o))) :
    ∀ j, j < ([V.ref n, V.bl true] : List V).length → DEq K H (([V.ref n, V.bl true] : List V).getD j .non) (([V.ref m, V.bl true] : List V).getD j .non) ([eqs (namesV o) (namesV o), true].getD j true) := by
  intro j hj
  rcases j with _ | _ | j
  · exact DEq.lst ne (SqL.of h1) (SqL.of h2) (names_flat o) (names_flat o)
  · exact DEq.flat (K := K) (H := H) (x := .bl true) (y := .bl true) rfl rfl
  · exact absurd hj (by show ¬ j + 2 < 2; omega)
/-- one list of two things is written anew: what else stands -/
theorem StAt.updl {H : Hp} {l t : Addr} {S : CSt} {u v : Addr} {o : HO} (ht : H t = some (.lst [.ref u, .ref v])) (hlen : S.w.length = 4) (h : StAt H l S) : StAt (upd H t o) l S := by
  obtain ⟨fa, ga, h1, h2, h3⟩ := h
  have n1 : l ≠ t := fun z => by rw [z, ht] at h1; cases h1
  have n2 : fa ≠ t := fun z => by
    rw [z, ht] at h2
    have := congrArg List.length (HO.lst.inj (Option.some.inj h2))
    rw [List.length_map, hlen] at this
    exact absurd this (by show ¬ (2 : Nat) = 4; decide)
  have n3 : ga ≠ t := fun z => by rw [z, ht] at h3; cases h3
  exact ⟨fa, ga, by rw [upd_ne n1]; exact h1, by rw [upd_ne n2]; exact h2, by rw [upd_ne n3]; exact h3⟩
theorem ChAt.updl {cs : Kd → Addr} {cC : Addr} {H : Hp} {x lk t : Addr} {S : CSt} {ys : List V} {o : HO} (ht : H t = some (.lst ys)) (h : ChAt cs cC H x lk S) : ChAt cs cC (upd H t o) x lk S := by
  obtain ⟨dx, hd, ls, n, h', l, h1, h2, h3, ⟨dl, h4⟩, h5⟩ := h
  have k : ∀ {b : Addr} {u : HO}, H b = some u → (∀ zs, u ≠ .lst zs) → upd H t o b = some u := fun {b u} hb hu => by
    rw [upd_ne (fun z => by rw [z, ht] at hb; cases hb; exact hu _ rfl)]; exact hb
  exact ⟨dx, hd, ls, n, h', l, k h1 (fun _ z => nomatch z), k h2 (fun _ z => nomatch z), k h3 (fun _ z => nomatch z), ⟨dl, k h4 (fun _ z => nomatch z)⟩, h5⟩
theorem ChAt.nel {cs : Kd → Addr} {cC : Addr} {H : Hp} {x lk p : Addr} {S : CSt} {ys : List V} (h : ChAt cs cC H x lk S) (hp : H p = some (.lst ys)) : p ≠ x := by
  obtain ⟨dx', hd', ls', n', h'', l'', hx', _⟩ := h
  exact ne_of hp hx' (fun z => nomatch z)

/-- the words that can be done among the first n -/
def FitAt (S : CSt) (n : Nat) (ys : List V) : Prop := ∃ zs : List Nat, ys = zs.map (fun j => V.int ((j : Nat) : Int)) ∧ (∀ j ∈ zs, j < 10) ∧ ∀ j W, j < n → tenW[j]? = some W → dueC S W = none → j ∈ zs
theorem fit_pick {S : CSt} {ys : List V} (i : MInv S) (h : FitAt S 10 ys) (z : Int) : 0 < ys.length ∧ ∃ j : Nat, j < 10 ∧ atI ys (z % (ys.length : Int)) = some (.int (j : Int)) := by
  obtain ⟨zs, rfl, h1, h2⟩ := h
  obtain ⟨j, W, hj, hW, hd⟩ := some_fit i
  have hm := h2 j W hj hW hd
  have hl : 0 < zs.length := List.length_pos_of_mem hm
  have hl' : 0 < (zs.map (fun j => V.int ((j : Nat) : Int))).length := by rw [List.length_map]; exact hl
  refine ⟨hl', ?_⟩
  have p0 := Int.emod_nonneg z (by omega : (((zs.map (fun j => V.int ((j : Nat) : Int))).length : Nat) : Int) ≠ 0)
  have p1 := Int.emod_lt_of_pos z (by omega : (0 : Int) < (((zs.map (fun j => V.int ((j : Nat) : Int))).length : Nat) : Int))
  obtain ⟨k, hk⟩ : ∃ k : Nat, z % (((zs.map (fun j => V.int ((j : Nat) : Int))).length : Nat) : Int) = (k : Int) := ⟨(z % (((zs.map (fun j => V.int ((j : Nat) : Int))).length : Nat) : Int)).toNat, by omega⟩
  rw [hk] at p1 ⊢
  rw [List.length_map] at p1
  have hkl : k < zs.length := by omega
  refine ⟨zs[k], h1 _ (List.getElem_mem hkl), atI_nat ?_⟩
  rw [List.getElem?_map, List.getElem?_eq_getElem hkl]
  rfl
theorem ten_of {j : Nat} (h : j < 10) : ∃ W, tenW[j]? = some W := by
  have hl : j < tenW.length := h
  exact ⟨tenW[j], List.getElem?_eq_getElem hl⟩

def bx (x0 x1 : Addr) (d : Bool) : Addr := if d = true then x1 else x0
def bn (d : Bool) : Int := if d = true then 1 else 0
def setF {α : Type} (f : Bool → α) (d : Bool) (v : α) : Bool → α := fun e => if e = d then v else f e
theorem setF_same {α : Type} (f : Bool → α) (d : Bool) : setF f d (f d) = f := by
  funext e
  unfold setF
  by_cases h : e = d
  · rw [if_pos h, h]
  · rw [if_neg h]
theorem setF_at {α : Type} (f : Bool → α) (d : Bool) (v : α) : setF f d v d = v := if_pos rfl
theorem bx_at (x0 x1 : Addr) (d : Bool) : atI [V.ref x0, V.ref x1] (bn d) = some (.ref (bx x0 x1 d)) := by cases d <;> rfl
theorem ss_at (ss : Bool → Addr) (d : Bool) : atI [V.ref (ss false), V.ref (ss true)] (bn d) = some (.ref (ss d)) := by cases d <;> rfl
theorem bn_of (z : Int) : ∃ d, z % 2 = bn d := by
  have h1 := Int.emod_nonneg z (by decide : (2 : Int) ≠ 0)
  have h2 := Int.emod_lt_of_pos z (by decide : (0 : Int) < 2)
  by_cases h : z % 2 = 0
  · exact ⟨false, h⟩
  · exact ⟨true, show z % 2 = 1 by omega⟩
theorem bx_ne {x0 x1 : Addr} (h : x0 ≠ x1) {e d : Bool} (ne : e ≠ d) : bx x0 x1 e ≠ bx x0 x1 d := by
  cases e <;> cases d
  · exact absurd rfl ne
  · exact h
  · exact fun z => h z.symm
  · exact absurd rfl ne
theorem LockL.sl {H : Hp} {lo le : Addr} {S T : CSt} (s : SameL S T) (h : LockL H lo le T) : LockL H lo le S := by
  obtain ⟨e1, e2, e3, e4, e5⟩ := s
  unfold LockL
  rw [e1, e2, e3, e4, e5]
  exact h
theorem SameL.trans {S T U : CSt} (s : SameL S T) (t : SameL T U) : SameL S U := ⟨s.1.trans t.1, s.2.1.trans t.2.1, s.2.2.1.trans t.2.2.1, s.2.2.2.1.trans t.2.2.2.1, s.2.2.2.2.trans t.2.2.2.2⟩
/-- two machines SM and the law's states SS of them -/
def G15 (cs : Kd → Addr) (cC : Addr) (x0 x1 lk sts cl p lo le : Addr) (zs : List Int) (S0 : CSt) (H : Hp) (SM SS : Bool → CSt) (ss : Bool → Addr) : Prop :=
  (∀ d, ChAt cs cC H (bx x0 x1 d) lk (SM d)) ∧ (∀ d, StAt H (ss d) (SS d)) ∧ (∀ d, MInv (SS d)) ∧ (∀ d, SameL (SS d) S0) ∧ H sts = some (.lst [.ref (ss false), .ref (ss true)]) ∧ H cl = some (.lst [.ref x0, .ref x1]) ∧ H p = some (.lst (zs.map V.int)) ∧ LockL H lo le S0
section
variable {cs : Kd → Addr} {cC x0 x1 lk sts cl p lo le : Addr} {zs : List Int} {S0 : CSt} {H H' : Hp} {SM SS : Bool → CSt} {ss : Bool → Addr}
theorem G15.same (e : Same H H') (g : G15 cs cC x0 x1 lk sts cl p lo le zs S0 H SM SS ss) : G15 cs cC x0 x1 lk sts cl p lo le zs S0 H' SM SS ss := by
  obtain ⟨h1, h2, h3, h4, h5, h6, h7, h8⟩ := g
  exact ⟨fun d => (h1 d).same e, fun d => (h2 d).same e, h3, h4, e _ _ h5, e _ _ h6, e _ _ h7, h8.same e⟩
theorem G15.keep {d : Bool} {S' : CSt} (hx : x0 ≠ x1) (g : G15 cs cC x0 x1 lk sts cl p lo le zs S0 H SS SS ss) (k : Keep (bx x0 x1 d) H H') (hc : ChAt cs cC H' (bx x0 x1 d) lk S') : G15 cs cC x0 x1 lk sts cl p lo le zs S0 H' (setF SS d S') SS ss := by
  obtain ⟨h1, h2, h3, h4, h5, h6, h7, h8⟩ := g
  have kl : ∀ {q : Addr} {ys : List V}, H q = some (.lst ys) → H' q = some (.lst ys) := fun hq => k _ _ ((h1 d).nel hq) hq
  refine ⟨fun e => ?_, fun e => StAt.keep k (h1 d) (h2 e), h3, h4, kl h5, kl h6, kl h7, kl h8.1, kl h8.2⟩
  by_cases he : e = d
  · subst he
    rw [setF_at]
    exact hc
  · rw [show setF SS d S' e = SS e from if_neg he]
    exact ChAt.keep k (h1 d) (bx_ne hx he) (h1 e)
theorem G15.put {d : Bool} {S' : CSt} {r : Addr} (hS0 : S0.w.length = 4 ∨ True) (g : G15 cs cC x0 x1 lk sts cl p lo le zs S0 H (setF SS d S') SS ss) (hr : StAt H r S') (hi : MInv S') (hs : SameL S' S0) :
    G15 cs cC x0 x1 lk sts cl p lo le zs S0 (upd H sts (.lst [.ref (setF ss d r false), .ref (setF ss d r true)])) (setF SS d S') (setF SS d S') (setF ss d r) := by
  obtain ⟨h1, h2, h3, h4, h5, h6, h7, h8⟩ := g
  have len : ∀ {S : CSt}, MInv S → S.w.length = 4 := fun i => by obtain ⟨_, _, _, _, hw, _⟩ := i; rw [hw]; rfl
  have hx0 := h1 false
  refine ⟨fun e => (h1 e).updl h5, fun e => ?_, fun e => ?_, fun e => ?_, upd_same, ?_, ?_, ?_, ?_⟩
  · by_cases he : e = d
    · subst he
      rw [setF_at, setF_at]
      exact hr.updl h5 (len hi)
    · rw [show setF SS d S' e = SS e from if_neg he, show setF ss d r e = ss e from if_neg he]
      exact (h2 e).updl h5 (len (h3 e))
  · by_cases he : e = d
    · subst he; rw [setF_at]; exact hi
    · rw [show setF SS d S' e = SS e from if_neg he]; exact h3 e
  · by_cases he : e = d
    · subst he; rw [setF_at]; exact hs
    · rw [show setF SS d S' e = SS e from if_neg he]; exact h4 e
  · rw [upd_ne (fun z => ?_)]
    · exact h6
    · rw [z, h5] at h6
      have e0 : ss false = x0 := by cases h6; rfl
      obtain ⟨fa, ga, q1, _⟩ := h2 false
      rw [e0] at q1
      exact hx0.nel q1 rfl
  · rw [upd_ne (fun z => ?_)]
    · exact h7
    · rw [z, h5] at h7
      cases zs with
      | nil => cases h7
      | cons a r => cases h7
  · rw [upd_ne (fun z => by have := h8.1; rw [z, h5] at this; cases this)]
    exact h8.1
  · rw [upd_ne (fun z => by have := h8.2; rw [z, h5] at this; cases this)]
    exact h8.2
end
theorem pick15 {K : PySem.W.Frag} {dW : Addr} (hn : ∀ s ∈ strayL, PySem.W.nsIn K dW s = some none) {j : Nat} (hj : j ≤ 10) : ∃ W0, (tenW ++ [Wd.odd ""])[j]? = some W0 ∧ ∀ s ∈ strayL, ∃ W, (tenW ++ [Wd.odd s])[j]? = some W ∧ (∀ S, dueC S W = dueC S W0) ∧ OkW K dW W ∧ atI (wordsV tenW ++ [V.str s]) (j : Int) = some (.str (wdS W)) := by
  by_cases h : j < 10
  · obtain ⟨W, hW⟩ := ten_of h
    refine ⟨W, ten_word h hW, fun s hs => ⟨W, ten_word h hW, fun _ => rfl, ?_, ?_⟩⟩
    · have hm := List.mem_of_getElem? hW
      simp only [tenW, List.mem_cons, List.mem_nil_iff, or_false] at hm
      rcases hm with rfl | rfl | rfl | rfl | rfl | rfl | rfl | rfl | rfl | rfl <;> trivial
    · refine atI_nat ?_
      rw [List.getElem?_append_left (by unfold wordsV; rw [List.length_map]; exact h)]
      unfold wordsV
      rw [List.getElem?_map, hW]
      rfl
  · have hj : j = 10 := by omega
    subst hj
    exact ⟨.odd "", rfl, fun s hs => ⟨.odd s, rfl, fun _ => rfl, hn s hs, atI_nat (j := 10) rfl⟩⟩

structure Txt (K : PySem.W.Frag) (mg : Str → Option Value) (w : World) (cP cB cU cC dV dW : Addr) (cA cN cS cF cO cK : Addr) (cZ : Addr) : Prop where
  z_list : mg "list" = none
  z_tuple : mg "tuple" = none
  z_isinstance : mg "isinstance" = none
  z_bool : mg "bool" = none
  z_int : mg "int" = none
  z_len : mg "len" = none
  z_max : mg "max" = none
  z_range : mg "range" = none
  z_ValueError : mg "ValueError" = none
  cl : ∀ kd, Cls K ((kdC cP cB cU) kd)
  n_name : ∀ kd, NoAttr K ((kdC cP cB cU) kd) "name"
  n_high : ∀ kd, NoAttr K ((kdC cP cB cU) kd) "high"
  n_low : ∀ kd, NoAttr K ((kdC cP cB cU) kd) "low"
  n_room : ∀ kd, NoAttr K ((kdC cP cB cU) kd) "room"
  n_side : NoAttr K cB "side"
  n_lift : NoAttr K cU "lift"
  c_PlainLock : mg "PlainLock" = some (.ref cP)
  c_BasinLock : mg "BasinLock" = some (.ref cB)
  c_PumpLock : mg "PumpLock" = some (.ref cU)
  clC : Cls K cC
  nC_lock : NoAttr K cC "lock"
  nC_held : NoAttr K cC "held"
  nC_least : NoAttr K cC "least"
  nC_open_side : NoAttr K cC "open_side"
  nC_inside : NoAttr K cC "inside"
  c_Chamber : mg "Chamber" = some (.ref cC)
  g_VESSELS : mg "VESSELS" = some (.ref dV)
  g_WORDS : mg "WORDS" = some (.ref dW)
  topV : TopD w K dV
  topW : TopD w K dW
  v_at : ∀ z : Str, named z → ∃ tk, PySem.W.nsIn K dV z = some (some (.int (vIx z : Int) tk))
  w_at : ∀ W : Wd, (∀ z, W ≠ .odd z) → ∃ tw : Addr, PySem.W.nsIn K dW (wdS W) = some (some (.ref tw)) ∧ ∀ H : Hp, SqT K H tw [.str (verbS W), .str (wsdS W)]
  c_Against : mg "Against" = some (.ref cA)
  c_NotNow : mg "NotNow" = some (.ref cN)
  c_Short : mg "Short" = some (.ref cS)
  c_Full : mg "Full" = some (.ref cF)
  c_NoBoat : mg "NoBoat" = some (.ref cO)
  c_Unknown : mg "Unknown" = some (.ref cK)
  x_Against : ExcC K cA
  x_NotNow : ExcC K cN
  x_Short : ExcC K cS
  x_Full : ExcC K cF
  x_NoBoat : ExcC K cO
  x_Unknown : ExcC K cK
  v_high : ∃ tk, PySem.W.nsIn K dV "high" = some (some (.int 0 tk))
  v_low : ∃ tk, PySem.W.nsIn K dV "low" = some (some (.int 1 tk))
  v_chamber : ∃ tk, PySem.W.nsIn K dV "chamber" = some (some (.int 2 tk))
  v_basin : ∃ tk, PySem.W.nsIn K dV "basin" = some (some (.int 3 tk))
  c_CanalError : mg "CanalError" = some (.ref cZ)
  exm : ∀ e : Er, PySem.W.exmOne K (.ref ((exOf cA cN cS cF cO cK) e)) (.ref cZ) = some true
  eat : ∀ e : Er, ExcAttr K ((exOf cA cN cS cF cO cK) e)
  ecl : ∀ e : Er, (PySem.W.clsIn K ((exOf cA cN cS cF cO cK) e)).isSome = true
  kV : ∀ e : Er, PySem.W.kitOne K (.ref ((exOf cA cN cS cF cO cK) e)) (.type "ValueError") = some true
  k_Against : ∀ e : Er, PySem.W.kitOne K (.ref ((exOf cA cN cS cF cO cK) e)) (.ref cA) = some (decide (erN e = 0))
  k_Full : ∀ e : Er, PySem.W.kitOne K (.ref ((exOf cA cN cS cF cO cK) e)) (.ref cF) = some (decide (erN e = 1))
  k_NoBoat : ∀ e : Er, PySem.W.kitOne K (.ref ((exOf cA cN cS cF cO cK) e)) (.ref cO) = some (decide (erN e = 2))
  k_NotNow : ∀ e : Er, PySem.W.kitOne K (.ref ((exOf cA cN cS cF cO cK) e)) (.ref cN) = some (decide (erN e = 3))
  k_Short : ∀ e : Er, PySem.W.kitOne K (.ref ((exOf cA cN cS cF cO cK) e)) (.ref cS) = some (decide (erN e = 4))
  k_Unknown : ∀ e : Er, PySem.W.kitOne K (.ref ((exOf cA cN cS cF cO cK) e)) (.ref cK) = some (decide (erN e = 5))
  nostray : ∀ s ∈ strayL, PySem.W.nsIn K dW s = some none
set_option maxHeartbeats 4000000
section
variable {P : Program} {w : World} {K : PySem.W.Frag} {mg : Str → Option Value} {base : Heap} {cP cB cU cC dV dW : Addr} {cA cN cS cF cO cK : Addr} {cZ : Addr}
theorem sc_poured_all : FnScope ["waters", "pours", "held", "source", "target", "amount"] ["waters", "pours"] (defScope s_poured_all) := ⟨rfl, rfl, rfl, by decide +kernel, rfl, by decide +kernel, by decide +kernel⟩
theorem ok_s_poured_all {f : Addr} {fd : FuncData} (F : Fun K "poured_all" "poured_all" s_poured_all f fd) (T : Txt K mg w cP cB cU cC dV dW cA cN cS cF cO cK cZ)  : FnOk P w K mg base CX0 1 f fd ["waters", "pours"] (spAll K) := by
  refine F.ok sc_poured_all (fun vs H Q E h => ?_) (fun cdv A outer s H vs Q E hr h => ?_)
  · obtain ⟨w, p, ws, rs, qs, rfl, hW, hP, hA, hn, q⟩ := h
    rfl
  obtain ⟨w, p, ws, rs, qs, rfl, hW, hP, hA, hn, q⟩ := h
  have hu : _ < cLine := hr.units0
  have hu1 := hu_of hr
  refine ⟨_, (pss_cons (ps_set (i := 2) sc_poured_all.nd rfl (by first | exact Or.inl rfl | exact Or.inr rfl) (pe_callTy call_list_of (by rfl) T.z_list PyProof.Rows.boot_list (pa_cons (pv 0) pa_nil)))
      (pss_cons (ps_for PassesOwn.never rfl (pi_list (pv 1)) (pg_tup rfl (pgs_cons (pg_name (i := 3) sc_poured_all.nd rfl (by first | exact Or.inl rfl | exact Or.inr rfl)) (pgs_cons (pg_name (i := 4) sc_poured_all.nd rfl (by first | exact Or.inl rfl | exact Or.inr rfl)) (pgs_cons (pg_name (i := 5) sc_poured_all.nd rfl (by first | exact Or.inl rfl | exact Or.inr rfl)) pgs_nil))))
        (pss_cons (ps_augS (pv 2) (pv 3) get_list (pv 5) ip_sub set_list)
      (pss_one (ps_augS (pv 2) (pv 4) get_list (pv 5) ip_add set_list))))
      (pss_one (ps_ret (pe_callTy call_tuple_of (by rfl) T.z_tuple PyProof.Rows.boot_tuple (pa_cons (pv 2) pa_nil)))))), ?_⟩
  refine ⟨_, rfl, w, _, rfl, hW, fun l hl => ?_⟩
  have s0 : Same H (upd H l (.lst (ws.map V.int))) := same_new hl _
  refine ⟨_, rfl, p, rfl, ⟨rs, s0.seq hP⟩, for_list (K := K) (a := p) (xs := rs) (fun i σ Hi => ∃ c3 c4 c5, σ = [some (.ref w), some (.ref p), some (.ref l), c3, c4, c5] ∧ Hi l = some (.lst ((pourAll ws (qs.take i)).map V.int)) ∧ Same H Hi)
    ⟨none, none, none, rfl, upd_same, s0⟩ (fun i σ Hi _ ⟨_, _, _, _, _, s⟩ => s.seq hP) ?_ ?_⟩
  · rintro i x σ Hi hx ⟨c3, c4, c5, rfl, hH, sm⟩
    obtain ⟨a, s, t, m, rfl, hq, hT, hs, ht⟩ := hA.2 i x hx
    have e0 : (pourAll ws (qs.take i)).length = ws.length := pourAll_length _ _
    refine ⟨a, _, rfl, sameT sm hT, rfl, _, _, rfl, _, _, rfl, _, _, rfl, rfl, ?_⟩
    refine ⟨_, rfl, _, rfl, _, _, _, _, rfl, rfl, SqL.of hH, atI_ints (by rw [e0]; exact hs), _, rfl, _, _, rfl, rfl, _, _, _, _, rfl, rfl, hH, ixN_nat (by rw [List.length_map, e0]; exact hs), ?_⟩
    try dsimp only
    rw [map_set_int]
    refine ⟨_, rfl, _, rfl, _, _, _, _, rfl, rfl, SqL.of upd_same, atI_ints (by rw [List.length_set, e0]; exact ht), _, rfl, _, _, rfl, rfl, _, _, _, _, rfl, rfl, upd_same, ixN_nat (by rw [List.length_map, List.length_set, e0]; exact ht), ?_⟩
    try dsimp only
    rw [map_set_int]
    refine ⟨_, _, _, rfl, ?_, same_upd hl (same_upd hl sm)⟩
    rw [upd_same, pourAll_take ws qs i _ hq]
    rfl
  · rintro σ Hi ⟨c3, c4, c5, rfl, hH, sm⟩
    refine ⟨_, rfl, _, _, rfl, .inl ⟨SqL.of hH, fun r hr => ?_⟩⟩
    refine q r _ (same_upd (sm.free hr) sm) (sm.free hr) ?_
    rw [upd_same, hA.1, List.take_length]
theorem sc_parts_not_nought : FnScope ["parts"] ["parts"] (defScope s_parts_not_nought) := ⟨rfl, rfl, rfl, by decide +kernel, rfl, by decide +kernel, by decide +kernel⟩
theorem ok_s_parts_not_nought {f : Addr} {fd : FuncData} (F : Fun K "parts_not_nought" "parts_not_nought" s_parts_not_nought f fd) (T : Txt K mg w cP cB cU cC dV dW cA cN cS cF cO cK cZ)  : FnOk P w K mg base CX0 1 f fd ["parts"] (spNot K) := by
  refine F.ok sc_parts_not_nought (fun vs H Q E h => ?_) (fun cdv A outer s H vs Q E hr h => ?_)
  · obtain ⟨p, rs, ps, rfl, hP, hA, hn, q⟩ := h
    rfl
  obtain ⟨p, rs, ps, rfl, hP, hA, hn, q⟩ := h
  have hu : _ < cLine := hr.units0
  have hu1 := hu_of hr
  refine ⟨_, (pss_one (ps_ret (pe_comp ["part"] (capF 1 []) rfl (compScope (defScope s_parts_not_nought) rfl rfl (by decide +kernel) (by decide +kernel) (by decide +kernel)) (caps_of 1 [] rfl rfl (by decide +kernel)) (pi_list (pv 0)) (fun _ _ _ _ _ => (pg_name (i := 0) (show List.Nodup (["part"] : List Str) from by decide +kernel) rfl (by first | exact Or.inl rfl | exact Or.inr rfl))) (fun _ _ _ _ _ => (pts_one (pt_cmpR op_ne (pe_ix (ix_tupK K) (pv 0) pe_int (fun _ _ => rfl)) pe_int (nomark _)))) (fun _ _ _ _ _ => (pv 0))))), ?_⟩
  refine ⟨_, rfl, p, rfl, ⟨rs, hP⟩, fun l hl => ?_⟩
  refine comp_listR (K := K) (a := p) (xs := rs) (caps := []) (fun i ys Hi => PartsAt Hi ys ((ps.take i).filter notNought)) hl hP PartsAt.nil ?_ ?_
  · rintro i x ys Hi hx hi hle sm hY hR
    obtain ⟨t, sN, nN, rfl, hps, hT⟩ := hA.2 i x hx
    have et : (ps.take (i + 1)).filter notNought = (ps.take i).filter notNought ++ [(sN, nN)].filter notNought := by
      rw [List.take_add_one, hps, List.filter_append]
      rfl
    refine ⟨_, rfl, t, _, _, _, rfl, rfl, SqT.of (sm _ _ hT), rfl, rfl, _, rfl, ?_⟩
    by_cases hz : nN = 0
    · refine iteNS (by rw [hz]) ?_
      refine comp_skip sm hY hle (Same.refl _) ?_
      have e2 : [(sN, nN)].filter notNought = [] := by rw [hz]; rfl
      rw [et, e2, List.append_nil]
      exact hR
    · refine iteNT (fun e => hz (V.int.inj e)) ?_
      refine ⟨_, rfl, comp_put hl sm hY hle (by omega) (Same.refl _) ?_⟩
      have e2 : [(sN, nN)].filter notNought = [(sN, nN)] := by
        rw [List.filter_cons, if_pos (show notNought (sN, nN) = true by unfold notNought; rw [decide_eq_false hz]; rfl)]
        rfl
      rw [et, e2]
      exact (hR.snoc (sm _ _ hT)).keep ((Keep.refl l Hi).upd _) hY
  · intro ys Hf sm hY hle hR
    rw [hA.1, List.take_length] at hR
    exact q l Hf ys sm hl hY hR
theorem sc_PlainLock___init__ : FnScope ["self", "name", "high", "low", "room"] ["self", "name", "high", "low", "room"] (defScope s_PlainLock___init__) := ⟨rfl, rfl, rfl, by decide +kernel, rfl, by decide +kernel, by decide +kernel⟩
theorem ok_s_PlainLock___init__ {f : Addr} {fd : FuncData} (F : Fun K "__init__" "PlainLock.__init__" s_PlainLock___init__ f fd) (T : Txt K mg w cP cB cU cC dV dW cA cN cS cF cO cK cZ)  : FnOk P w K mg base CX0 1 f fd ["self", "name", "high", "low", "room"] (spInit3 (kdC cP cB cU)) := by
  refine F.ok sc_PlainLock___init__ (fun vs H Q E h => ?_) (fun cdv A outer s H vs Q E hr h => ?_)
  · obtain ⟨kd, x, dx, n, h₁, l, r, rfl, hx, q⟩ := h
    rfl
  obtain ⟨kd, x, dx, n, h₁, l, r, rfl, hx, q⟩ := h
  have hu : _ < cLine := hr.units0
  have hu1 := hu_of hr
  refine ⟨_, (pss_cons (ps_fld (pv 0) (pv 1) rfl)
      (pss_cons (ps_fld (pv 0) (pv 2) rfl)
      (pss_cons (ps_fld (pv 0) (pv 3) rfl)
      (pss_one (ps_fld (pv 0) (pv 4) rfl))))), ?_⟩
  refine ⟨_, rfl, _, rfl, x, _, dx, _, rfl, hx, T.cl kd, T.n_name kd, (by show 0 < 1000; decide), ?_⟩
  refine ⟨_, rfl, _, rfl, x, _, dx, _, rfl, upd_same, T.cl kd, T.n_high kd, (by show 1 < 1000; decide), ?_⟩
  refine ⟨_, rfl, _, rfl, x, _, dx, _, rfl, upd_same, T.cl kd, T.n_low kd, ?_, ?_⟩
  · have := length_putF "high" h₁ (putF "name" n [])
    have h2 : (putF ("name" : Str) n []).length = 1 := rfl
    omega
  refine ⟨_, rfl, _, rfl, x, _, dx, _, rfl, upd_same, T.cl kd, T.n_room kd, ?_, ?_⟩
  · have := length_putF "low" l (putF "high" h₁ (putF "name" n []))
    have h1 := length_putF "high" h₁ (putF "name" n [])
    have h2 : (putF ("name" : Str) n []).length = 1 := rfl
    omega
  exact q _ (((((Keep.refl x H).upd _).upd _).upd _).upd _) upd_same
theorem sc_BasinLock___init__ : FnScope ["self", "name", "high", "low", "room", "side"] ["self", "name", "high", "low", "room", "side"] (defScope s_BasinLock___init__) := ⟨rfl, rfl, rfl, by decide +kernel, rfl, by decide +kernel, by decide +kernel⟩
theorem ok_s_BasinLock___init__ {f : Addr} {fd : FuncData} (F : Fun K "__init__" "BasinLock.__init__" s_BasinLock___init__ f fd) (T : Txt K mg w cP cB cU cC dV dW cA cN cS cF cO cK cZ) (CM_PlainLock___init__ : CmD P w K mg base 1 "PlainLock" cP "__init__" ["self", "name", "high", "low", "room"] (spInit3 (kdC cP cB cU))) : FnOk P w K mg base CX0 2 f fd ["self", "name", "high", "low", "room", "side"] (spInit4 (kdC cP cB cU) .basin) := by
  refine F.ok sc_BasinLock___init__ (fun vs H Q E h => ?_) (fun cdv A outer s H vs Q E hr h => ?_)
  · obtain ⟨x, dx, n, h₁, l, r, v, rfl, hx, q⟩ := h
    rfl
  obtain ⟨x, dx, n, h₁, l, r, v, rfl, hx, q⟩ := h
  have hu : _ < cLine := hr.units0
  have hu1 := hu_of hr
  refine ⟨_, (pss_cons (ps_expr (pe_clsm CM_PlainLock___init__ hr rfl (pa_cons (pv 0) (pa_cons (pv 1) (pa_cons (pv 2) (pa_cons (pv 3) (pa_cons (pv 4) pa_nil)))))))
      (pss_one (ps_fld (pv 0) (pv 5) rfl))), ?_⟩
  refine ⟨_, rfl, _, rfl, _, rfl, _, rfl, _, rfl, .basin, x, dx, n, h₁, l, r, rfl, hx, fun H' kp hx' => ?_⟩
  refine ⟨_, rfl, _, rfl, x, _, dx, _, rfl, hx', T.cl .basin, T.n_side, lockFs_len _ _ _ _, ?_⟩
  exact q _ (kp.upd _) upd_same
theorem sc_PumpLock___init__ : FnScope ["self", "name", "high", "low", "room", "lift"] ["self", "name", "high", "low", "room", "lift"] (defScope s_PumpLock___init__) := ⟨rfl, rfl, rfl, by decide +kernel, rfl, by decide +kernel, by decide +kernel⟩
theorem ok_s_PumpLock___init__ {f : Addr} {fd : FuncData} (F : Fun K "__init__" "PumpLock.__init__" s_PumpLock___init__ f fd) (T : Txt K mg w cP cB cU cC dV dW cA cN cS cF cO cK cZ) (CM_PlainLock___init__ : CmD P w K mg base 1 "PlainLock" cP "__init__" ["self", "name", "high", "low", "room"] (spInit3 (kdC cP cB cU))) : FnOk P w K mg base CX0 2 f fd ["self", "name", "high", "low", "room", "lift"] (spInit4 (kdC cP cB cU) .pump) := by
  refine F.ok sc_PumpLock___init__ (fun vs H Q E h => ?_) (fun cdv A outer s H vs Q E hr h => ?_)
  · obtain ⟨x, dx, n, h₁, l, r, v, rfl, hx, q⟩ := h
    rfl
  obtain ⟨x, dx, n, h₁, l, r, v, rfl, hx, q⟩ := h
  have hu : _ < cLine := hr.units0
  have hu1 := hu_of hr
  refine ⟨_, (pss_cons (ps_expr (pe_clsm CM_PlainLock___init__ hr rfl (pa_cons (pv 0) (pa_cons (pv 1) (pa_cons (pv 2) (pa_cons (pv 3) (pa_cons (pv 4) pa_nil)))))))
      (pss_one (ps_fld (pv 0) (pv 5) rfl))), ?_⟩
  refine ⟨_, rfl, _, rfl, _, rfl, _, rfl, _, rfl, .pump, x, dx, n, h₁, l, r, rfl, hx, fun H' kp hx' => ?_⟩
  refine ⟨_, rfl, _, rfl, x, _, dx, _, rfl, hx', T.cl .pump, T.n_lift, lockFs_len _ _ _ _, ?_⟩
  exact q _ (kp.upd _) upd_same
theorem sc_PlainLock_fill_parts : FnScope ["self", "basin"] ["self", "basin"] (defScope s_PlainLock_fill_parts) := ⟨rfl, rfl, rfl, by decide +kernel, rfl, by decide +kernel, by decide +kernel⟩
theorem ok_s_PlainLock_fill_parts {f : Addr} {fd : FuncData} (F : Fun K "fill_parts" "PlainLock.fill_parts" s_PlainLock_fill_parts f fd) (T : Txt K mg w cP cB cU cC dV dW cA cN cS cF cO cK cZ) (D_parts_not_nought : Def P w K mg base 1 "parts_not_nought" ["parts"] [] (spNot K)) : FnOk P w K mg base CX0 2 f fd ["self", "basin"] (spParts3 (kdC cP cB cU) fillK .plain) := by
  refine F.ok sc_PlainLock_fill_parts (fun vs H Q E h => ?_) (fun cdv A outer s H vs Q E hr h => ?_)
  · obtain ⟨x, n, h₁, l, room, v, b, rfl, ⟨dx, hx⟩, q⟩ := h
    rfl
  obtain ⟨x, n, h₁, l, room, v, b, rfl, ⟨dx, hx⟩, q⟩ := h
  have hu : _ < cLine := hr.units0
  have hu1 := hu_of hr
  refine ⟨_, (pss_one (ps_ret (pe_def D_parts_not_nought hr rfl (pa_cons (pe_lst (pa_cons (pe_tup (pa_cons pe_str (pa_cons (pe_fld (pv 0) rfl) pa_nil))) pa_nil)) pa_nil)))), ?_⟩
  refine ⟨_, rfl, x, _, dx, _, _, rfl, hx, T.cl .plain, T.n_room .plain, fk_room .plain _ _ _ _ _, (by show 2 ≤ sizeLine; decide), fun tp htp => ⟨(by show 1 ≤ sizeLine; decide), fun lp hlp => ?_⟩⟩
  have s1 := same_new htp (.tup [.str "high", .int room])
  have s2 := same_new hlp (.lst [V.ref tp])
  refine ⟨lp, [.ref tp], [("high", room)], rfl, SqL.of upd_same, PartsAt.nil.snoc (s2 _ _ upd_same), (by show 1 ≤ 10; decide), fun rr H' rs' sm hrr0 hrr hP => ?_⟩
  exact q rr H' rs' ((s1.trans s2).trans sm) ((s1.trans s2).free hrr0) hrr hP
theorem sc_BasinLock_fill_parts : FnScope ["self", "basin"] ["self", "basin"] (defScope s_BasinLock_fill_parts) := ⟨rfl, rfl, rfl, by decide +kernel, rfl, by decide +kernel, by decide +kernel⟩
theorem ok_s_BasinLock_fill_parts {f : Addr} {fd : FuncData} (F : Fun K "fill_parts" "BasinLock.fill_parts" s_BasinLock_fill_parts f fd) (T : Txt K mg w cP cB cU cC dV dW cA cN cS cF cO cK cZ) (D_parts_not_nought : Def P w K mg base 1 "parts_not_nought" ["parts"] [] (spNot K)) : FnOk P w K mg base CX0 2 f fd ["self", "basin"] (spParts3 (kdC cP cB cU) fillK .basin) := by
  refine F.ok sc_BasinLock_fill_parts (fun vs H Q E h => ?_) (fun cdv A outer s H vs Q E hr h => ?_)
  · obtain ⟨x, n, h₁, l, room, v, b, rfl, ⟨dx, hx0⟩, q⟩ := h
    rfl
  obtain ⟨x, n, h₁, l, room, v, b, rfl, ⟨dx, hx0⟩, q⟩ := h
  have hu : _ < cLine := hr.units0
  have hu1 := hu_of hr
  refine ⟨_, (pss_one (ps_ret (pe_def D_parts_not_nought hr rfl (pa_cons (pe_lst (pa_cons (pe_tup (pa_cons pe_str (pa_cons (pv 1) pa_nil))) (pa_cons (pe_tup (pa_cons pe_str (pa_cons (pe_op op_sub (pe_fld (pv 0) rfl) (pv 1)) pa_nil))) pa_nil))) pa_nil)))), ?_⟩
  refine ⟨_, rfl, (by show 2 ≤ sizeLine; decide), fun tp htp => ?_⟩
  have s1 := same_new htp (.tup [.str "basin", .int b])
  have hx := s1 _ _ hx0
  refine ⟨_, rfl, x, _, dx, _, _, rfl, hx, T.cl .basin, T.n_room .basin, fk_room .basin _ _ _ _ _, _, rfl, _, _, rfl, rfl, (by show 2 ≤ sizeLine; decide), fun tq htq => ⟨(by show 2 ≤ sizeLine; decide), fun lp hlp => ?_⟩⟩
  have s2 := same_new htq (.tup [.str "high", .int (room - b)])
  have s3 := same_new hlp (.lst [V.ref tp, V.ref tq])
  refine ⟨lp, [.ref tp, .ref tq], [("basin", b), ("high", room - b)], rfl, SqL.of upd_same, (PartsAt.nil.snoc (s3 _ _ (s2 _ _ upd_same))).snoc (s3 _ _ upd_same), (by show 2 ≤ 10; decide), fun rr H' rs' sm hrr0 hrr hP => ?_⟩
  exact q rr H' rs' (((s1.trans s2).trans s3).trans sm) (((s1.trans s2).trans s3).free hrr0) hrr hP
theorem sc_PumpLock_fill_parts : FnScope ["self", "basin"] ["self", "basin"] (defScope s_PumpLock_fill_parts) := ⟨rfl, rfl, rfl, by decide +kernel, rfl, by decide +kernel, by decide +kernel⟩
theorem ok_s_PumpLock_fill_parts {f : Addr} {fd : FuncData} (F : Fun K "fill_parts" "PumpLock.fill_parts" s_PumpLock_fill_parts f fd) (T : Txt K mg w cP cB cU cC dV dW cA cN cS cF cO cK cZ) (D_parts_not_nought : Def P w K mg base 1 "parts_not_nought" ["parts"] [] (spNot K)) : FnOk P w K mg base CX0 2 f fd ["self", "basin"] (spParts3 (kdC cP cB cU) fillK .pump) := by
  refine F.ok sc_PumpLock_fill_parts (fun vs H Q E h => ?_) (fun cdv A outer s H vs Q E hr h => ?_)
  · obtain ⟨x, n, h₁, l, room, v, b, rfl, ⟨dx, hx0⟩, q⟩ := h
    rfl
  obtain ⟨x, n, h₁, l, room, v, b, rfl, ⟨dx, hx0⟩, q⟩ := h
  have hu : _ < cLine := hr.units0
  have hu1 := hu_of hr
  refine ⟨_, (pss_one (ps_ret (pe_def D_parts_not_nought hr rfl (pa_cons (pe_lst (pa_cons (pe_tup (pa_cons pe_str (pa_cons (pe_fld (pv 0) rfl) pa_nil))) (pa_cons (pe_tup (pa_cons pe_str (pa_cons (pe_op op_sub (pe_fld (pv 0) rfl) (pe_fld (pv 0) rfl)) pa_nil))) pa_nil))) pa_nil)))), ?_⟩
  refine ⟨_, rfl, x, cU, dx, _, _, rfl, hx0, T.cl .pump, T.n_lift, sub_own _ _ _ _ _ _, (by show 2 ≤ sizeLine; decide), fun tp htp => ?_⟩
  have s1 := same_new htp (.tup [.str "low", .int v])
  have hx := s1 _ _ hx0
  refine ⟨_, rfl, x, _, dx, _, _, rfl, hx, T.cl .pump, T.n_room .pump, fk_room .pump _ _ _ _ _, _, rfl, x, cU, dx, _, _, rfl, hx, T.cl .pump, T.n_lift, sub_own _ _ _ _ _ _, _, _, rfl, rfl, (by show 2 ≤ sizeLine; decide), fun tq htq => ⟨(by show 2 ≤ sizeLine; decide), fun lp hlp => ?_⟩⟩
  have s2 := same_new htq (.tup [.str "high", .int (room - v)])
  have s3 := same_new hlp (.lst [V.ref tp, V.ref tq])
  refine ⟨lp, [.ref tp, .ref tq], [("low", v), ("high", room - v)], rfl, SqL.of upd_same, (PartsAt.nil.snoc (s3 _ _ (s2 _ _ upd_same))).snoc (s3 _ _ upd_same), (by show 2 ≤ 10; decide), fun rr H' rs' sm hrr0 hrr hP => ?_⟩
  exact q rr H' rs' (((s1.trans s2).trans s3).trans sm) (((s1.trans s2).trans s3).free hrr0) hrr hP
theorem sc_PlainLock_let_parts : FnScope ["self", "basin"] ["self", "basin"] (defScope s_PlainLock_let_parts) := ⟨rfl, rfl, rfl, by decide +kernel, rfl, by decide +kernel, by decide +kernel⟩
theorem ok_s_PlainLock_let_parts {f : Addr} {fd : FuncData} (F : Fun K "let_parts" "PlainLock.let_parts" s_PlainLock_let_parts f fd) (T : Txt K mg w cP cB cU cC dV dW cA cN cS cF cO cK cZ) (D_parts_not_nought : Def P w K mg base 1 "parts_not_nought" ["parts"] [] (spNot K)) : FnOk P w K mg base CX0 2 f fd ["self", "basin"] (spLetPU (kdC cP cB cU)) := by
  refine F.ok sc_PlainLock_let_parts (fun vs H Q E h => ?_) (fun cdv A outer s H vs Q E hr h => ?_)
  · obtain ⟨kd, x, n, h₁, l, room, v, b, rfl, ⟨dx, hx⟩, q⟩ := h
    rfl
  obtain ⟨kd, x, n, h₁, l, room, v, b, rfl, ⟨dx, hx⟩, q⟩ := h
  have hu : _ < cLine := hr.units0
  have hu1 := hu_of hr
  refine ⟨_, (pss_one (ps_ret (pe_def D_parts_not_nought hr rfl (pa_cons (pe_lst (pa_cons (pe_tup (pa_cons pe_str (pa_cons (pe_fld (pv 0) rfl) pa_nil))) pa_nil)) pa_nil)))), ?_⟩
  refine ⟨_, rfl, x, _, dx, _, _, rfl, hx, T.cl kd, T.n_room kd, fk_room kd _ _ _ _ _, (by show 2 ≤ sizeLine; decide), fun tp htp => ⟨(by show 1 ≤ sizeLine; decide), fun lp hlp => ?_⟩⟩
  have s1 := same_new htp (.tup [.str "low", .int room])
  have s2 := same_new hlp (.lst [V.ref tp])
  refine ⟨lp, [.ref tp], [("low", room)], rfl, SqL.of upd_same, PartsAt.nil.snoc (s2 _ _ upd_same), (by show 1 ≤ 10; decide), fun rr H' rs' sm hrr0 hrr hP => ?_⟩
  exact q rr H' rs' ((s1.trans s2).trans sm) ((s1.trans s2).free hrr0) hrr hP
theorem sc_BasinLock_let_parts : FnScope ["self", "basin", "saved"] ["self", "basin"] (defScope s_BasinLock_let_parts) := ⟨rfl, rfl, rfl, by decide +kernel, rfl, by decide +kernel, by decide +kernel⟩
theorem ok_s_BasinLock_let_parts {f : Addr} {fd : FuncData} (F : Fun K "let_parts" "BasinLock.let_parts" s_BasinLock_let_parts f fd) (T : Txt K mg w cP cB cU cC dV dW cA cN cS cF cO cK cZ) (D_parts_not_nought : Def P w K mg base 1 "parts_not_nought" ["parts"] [] (spNot K)) : FnOk P w K mg base CX0 2 f fd ["self", "basin"] (spParts3 (kdC cP cB cU) letK .basin) := by
  refine F.ok sc_BasinLock_let_parts (fun vs H Q E h => ?_) (fun cdv A outer s H vs Q E hr h => ?_)
  · obtain ⟨x, n, h₁, l, room, v, b, rfl, ⟨dx, hx0⟩, q⟩ := h
    rfl
  obtain ⟨x, n, h₁, l, room, v, b, rfl, ⟨dx, hx0⟩, q⟩ := h
  have hu : _ < cLine := hr.units0
  have hu1 := hu_of hr
  refine ⟨_, (pss_cons (ps_set (i := 2) sc_BasinLock_let_parts.nd rfl (by first | exact Or.inl rfl | exact Or.inr rfl) (pe_op op_sub (pe_fld (pv 0) rfl) (pv 1)))
      (pss_one (ps_ret (pe_def D_parts_not_nought hr rfl (pa_cons (pe_lst (pa_cons (pe_tup (pa_cons pe_str (pa_cons (pv 2) pa_nil))) (pa_cons (pe_tup (pa_cons pe_str (pa_cons (pe_op op_sub (pe_fld (pv 0) rfl) (pv 2)) pa_nil))) pa_nil))) pa_nil))))), ?_⟩
  have hx := hx0
  refine ⟨_, rfl, x, cB, dx, _, _, rfl, hx, T.cl .basin, T.n_side, sub_own _ _ _ _ _ _, _, rfl, _, _, rfl, rfl, ?_⟩
  refine ⟨_, rfl, (by show 2 ≤ sizeLine; decide), fun tp htp => ?_⟩
  have s1 := same_new htp (.tup [.str "basin", .int (v - b)])
  have hx := s1 _ _ hx0
  refine ⟨_, rfl, x, _, dx, _, _, rfl, hx, T.cl .basin, T.n_room .basin, fk_room .basin _ _ _ _ _, _, rfl, _, _, rfl, rfl, (by show 2 ≤ sizeLine; decide), fun tq htq => ⟨(by show 2 ≤ sizeLine; decide), fun lp hlp => ?_⟩⟩
  have s2 := same_new htq (.tup [.str "low", .int (room - (v - b))])
  have s3 := same_new hlp (.lst [V.ref tp, V.ref tq])
  refine ⟨lp, [.ref tp, .ref tq], [("basin", v - b), ("low", room - (v - b))], rfl, SqL.of upd_same, (PartsAt.nil.snoc (s3 _ _ (s2 _ _ upd_same))).snoc (s3 _ _ upd_same), (by show 2 ≤ 10; decide), fun rr H' rs' sm hrr0 hrr hP => ?_⟩
  exact q rr H' rs' (((s1.trans s2).trans s3).trans sm) (((s1.trans s2).trans s3).free hrr0) hrr hP
theorem sc_filling : FnScope ["lock", "basin"] ["lock", "basin"] (defScope s_filling) := ⟨rfl, rfl, rfl, by decide +kernel, rfl, by decide +kernel, by decide +kernel⟩
theorem ok_s_filling {f : Addr} {fd : FuncData} (F : Fun K "filling" "filling" s_filling f fd) (T : Txt K mg w cP cB cU cC dV dW cA cN cS cF cO cK cZ) (MP_fill_parts : MeK P w K mg base 2 (kdC cP cB cU) "fill_parts" ["self", "basin"] (spParts3 (kdC cP cB cU) fillK)) : FnOk P w K mg base CX0 3 f fd ["lock", "basin"] (spPours3 (kdC cP cB cU) fillP) := by
  refine F.ok sc_filling (fun vs H Q E h => ?_) (fun cdv A outer s H vs Q E hr h => ?_)
  · obtain ⟨x, kd, n, h₁, l, room, v, b, rfl, ⟨dx, hx⟩, q⟩ := h
    rfl
  obtain ⟨x, kd, n, h₁, l, room, v, b, rfl, ⟨dx, hx⟩, q⟩ := h
  have hu : _ < cLine := hr.units0
  have hu1 := hu_of hr
  refine ⟨_, (pss_one (ps_ret (pe_comp ["giver", "amount"] (capF 2 []) rfl (compScope (defScope s_filling) rfl rfl (by decide +kernel) (by decide +kernel) (by decide +kernel)) (caps_of 2 [] rfl rfl (by decide +kernel)) (pi_list (pe_mK MP_fill_parts hr (pv 0) (pa_cons (pv 1) pa_nil))) (fun _ _ _ _ _ => (pg_tupK (n := 2) K rfl (pgs_cons (pg_name (i := 0) (show List.Nodup (["giver", "amount"] : List Str) from by decide +kernel) rfl (by first | exact Or.inl rfl | exact Or.inr rfl)) (pgs_cons (pg_name (i := 1) (show List.Nodup (["giver", "amount"] : List Str) from by decide +kernel) rfl (by first | exact Or.inl rfl | exact Or.inr rfl)) pgs_nil)))) (fun _ _ _ _ _ => pts_nil) (fun _ _ _ _ _ => (pe_tup (pa_cons (pv 0) (pa_cons pe_str (pa_cons (pv 1) pa_nil)))))))), ?_⟩
  refine ⟨_, rfl, kd, x, dx, _, rfl, hx, fk_fill kd _ _ _ _ _, _, rfl, x, n, h₁, l, room, v, b, rfl, ⟨dx, hx⟩, fun pl H1 rs s1 hpl0 hpl hP => ?_⟩
  have hplen := fillK_len kd room v b
  refine ⟨pl, rfl, ⟨_, SqL.of hpl⟩, fun D hD => ?_⟩
  have u0 := same_new hD (.lst [])
  refine turns_list (K := K) (a := pl) (xs := rs) (fun i σ Hi => ∃ (c1 c2 : Option V) (ys : List V), σ = [c1, c2] ∧ Hi D = some (.lst ys) ∧ PoursS Hi ys ((fillK kd room v b).take i |>.map (fun p => (p.1, "chamber", p.2))) ∧ Same H1 Hi)
    ⟨none, none, [], rfl, upd_same, PoursS.nil, u0⟩ (fun i σ Hi _ ⟨_, _, _, _, _, _, s⟩ => SqL.of (s _ _ hpl)) ?_ ?_
  · rintro i y σ Hi hy ⟨c1, c2, ys, rfl, hY, hA, sm⟩
    have hi : i < rs.length := (List.getElem?_eq_some_iff.mp hy).1
    obtain ⟨t, sN, nN, rfl, hps, hT⟩ := hP.2 i y hy
    have hl : ys.length ≤ i := by rw [hA.1, List.length_map]; exact List.length_take_le _ _
    refine ⟨t, _, rfl, SqT.of (sm _ _ hT), rfl, _, _, rfl, _, _, rfl, rfl, ?_⟩
    refine rd_yes (iteT ?_)
    refine ⟨_, rfl, _, rfl, (by show 3 ≤ sizeLine; decide), fun tp htp => ?_⟩
    have v1 : ∀ o, Same Hi (upd Hi tp o) := fun o => same_new htp o
    refine ⟨ys, v1 _ _ _ hY, small1000 (by rw [hP.1] at hi; omega), _, _, ys ++ [.ref tp], rfl, upd_same, ?_, same_upd hD (sm.trans (v1 _))⟩
    rw [map_take_snoc hps]
    exact PoursS.keep ((Keep.refl D _).upd _) (v1 _ _ _ hY) ((hA.same (v1 _)).append (PoursS.one upd_same))
  · rintro σ Hi ⟨c1, c2, ys, rfl, hY, hA, sm⟩
    rw [hP.1, List.take_length] at hA
    exact q D Hi ys (s1.trans sm) (s1.free hD) hY hA
theorem sc_letting : FnScope ["lock", "basin"] ["lock", "basin"] (defScope s_letting) := ⟨rfl, rfl, rfl, by decide +kernel, rfl, by decide +kernel, by decide +kernel⟩
theorem ok_s_letting {f : Addr} {fd : FuncData} (F : Fun K "letting" "letting" s_letting f fd) (T : Txt K mg w cP cB cU cC dV dW cA cN cS cF cO cK cZ) (MP_let_parts : MeK P w K mg base 2 (kdC cP cB cU) "let_parts" ["self", "basin"] (spParts3 (kdC cP cB cU) letK)) : FnOk P w K mg base CX0 3 f fd ["lock", "basin"] (spPours3 (kdC cP cB cU) letP) := by
  refine F.ok sc_letting (fun vs H Q E h => ?_) (fun cdv A outer s H vs Q E hr h => ?_)
  · obtain ⟨x, kd, n, h₁, l, room, v, b, rfl, ⟨dx, hx⟩, q⟩ := h
    rfl
  obtain ⟨x, kd, n, h₁, l, room, v, b, rfl, ⟨dx, hx⟩, q⟩ := h
  have hu : _ < cLine := hr.units0
  have hu1 := hu_of hr
  refine ⟨_, (pss_one (ps_ret (pe_comp ["taker", "amount"] (capF 2 []) rfl (compScope (defScope s_letting) rfl rfl (by decide +kernel) (by decide +kernel) (by decide +kernel)) (caps_of 2 [] rfl rfl (by decide +kernel)) (pi_list (pe_mK MP_let_parts hr (pv 0) (pa_cons (pv 1) pa_nil))) (fun _ _ _ _ _ => (pg_tupK (n := 2) K rfl (pgs_cons (pg_name (i := 0) (show List.Nodup (["taker", "amount"] : List Str) from by decide +kernel) rfl (by first | exact Or.inl rfl | exact Or.inr rfl)) (pgs_cons (pg_name (i := 1) (show List.Nodup (["taker", "amount"] : List Str) from by decide +kernel) rfl (by first | exact Or.inl rfl | exact Or.inr rfl)) pgs_nil)))) (fun _ _ _ _ _ => pts_nil) (fun _ _ _ _ _ => (pe_tup (pa_cons pe_str (pa_cons (pv 0) (pa_cons (pv 1) pa_nil)))))))), ?_⟩
  refine ⟨_, rfl, kd, x, dx, _, rfl, hx, fk_let kd _ _ _ _ _, _, rfl, x, n, h₁, l, room, v, b, rfl, ⟨dx, hx⟩, fun pl H1 rs s1 hpl0 hpl hP => ?_⟩
  have hplen := letK_len kd room v b
  refine ⟨pl, rfl, ⟨_, SqL.of hpl⟩, fun D hD => ?_⟩
  have u0 := same_new hD (.lst [])
  refine turns_list (K := K) (a := pl) (xs := rs) (fun i σ Hi => ∃ (c1 c2 : Option V) (ys : List V), σ = [c1, c2] ∧ Hi D = some (.lst ys) ∧ PoursS Hi ys ((letK kd room v b).take i |>.map (fun p => ("chamber", p.1, p.2))) ∧ Same H1 Hi)
    ⟨none, none, [], rfl, upd_same, PoursS.nil, u0⟩ (fun i σ Hi _ ⟨_, _, _, _, _, _, s⟩ => SqL.of (s _ _ hpl)) ?_ ?_
  · rintro i y σ Hi hy ⟨c1, c2, ys, rfl, hY, hA, sm⟩
    have hi : i < rs.length := (List.getElem?_eq_some_iff.mp hy).1
    obtain ⟨t, sN, nN, rfl, hps, hT⟩ := hP.2 i y hy
    have hl : ys.length ≤ i := by rw [hA.1, List.length_map]; exact List.length_take_le _ _
    refine ⟨t, _, rfl, SqT.of (sm _ _ hT), rfl, _, _, rfl, _, _, rfl, rfl, ?_⟩
    refine rd_yes (iteT ?_)
    refine ⟨_, rfl, _, rfl, (by show 3 ≤ sizeLine; decide), fun tp htp => ?_⟩
    have v1 : ∀ o, Same Hi (upd Hi tp o) := fun o => same_new htp o
    refine ⟨ys, v1 _ _ _ hY, small1000 (by rw [hP.1] at hi; omega), _, _, ys ++ [.ref tp], rfl, upd_same, ?_, same_upd hD (sm.trans (v1 _))⟩
    rw [map_take_snoc hps]
    exact PoursS.keep ((Keep.refl D _).upd _) (v1 _ _ _ hY) ((hA.same (v1 _)).append (PoursS.one upd_same))
  · rintro σ Hi ⟨c1, c2, ys, rfl, hY, hA, sm⟩
    rw [hP.1, List.take_length] at hA
    exact q D Hi ys (s1.trans sm) (s1.free hD) hY hA
theorem sc_Chamber___init__ : FnScope ["self", "lock", "waters", "least"] ["self", "lock", "waters", "least"] (defScope s_Chamber___init__) := ⟨rfl, rfl, rfl, by decide +kernel, rfl, by decide +kernel, by decide +kernel⟩
theorem ok_s_Chamber___init__ {f : Addr} {fd : FuncData} (F : Fun K "__init__" "Chamber.__init__" s_Chamber___init__ f fd) (T : Txt K mg w cP cB cU cC dV dW cA cN cS cF cO cK cZ)  : FnOk P w K mg base CX0 1 f fd ["self", "lock", "waters", "least"] (spInitC (kdC cP cB cU) cC) := by
  refine F.ok sc_Chamber___init__ (fun vs H Q E h => ?_) (fun cdv A outer s H vs Q E hr h => ?_)
  · obtain ⟨x, dx, lk, wa, le, ws, kd, n, h₁, l, room, v, lh, ll, rfl, hx, hwa, hws, hle, hlk, hne, q⟩ := h
    rfl
  obtain ⟨x, dx, lk, wa, le, ws, kd, n, h₁, l, room, v, lh, ll, rfl, hx, hwa, hws, hle, hlk, hne, q⟩ := h
  have hu : _ < cLine := hr.units0
  have hu1 := hu_of hr
  refine ⟨_, (pss_cons (ps_fld (pv 0) (pv 1) rfl)
      (pss_cons (ps_fld (pv 0) (pe_callTy call_tuple_of (by rfl) T.z_tuple PyProof.Rows.boot_tuple (pa_cons (pv 2) pa_nil)) rfl)
      (pss_cons (ps_fld (pv 0) (pe_callTy call_tuple_of (by rfl) T.z_tuple PyProof.Rows.boot_tuple (pa_cons (pv 3) pa_nil)) rfl)
      (pss_cons (ps_fld (pv 0) pe_str rfl)
      (pss_one (ps_fld (pv 0) pe_bl rfl)))))), ?_⟩
  refine ⟨_, rfl, _, rfl, x, cC, dx, _, rfl, hx, T.clC, T.nC_lock, (by show 0 < 1000; decide), ?_⟩
  have k1 : Keep x H (upd H x (.ins cC dx (putF "lock" (.ref lk) []))) := (Keep.refl x H).upd _
  have nwa : wa ≠ x := ne_of hwa hx (fun z => nomatch z)
  have nle : le ≠ x := ne_of hle hx (fun z => nomatch z)
  refine ⟨_, rfl, wa, _, rfl, .inr ⟨SqT.of (k1 _ _ nwa hwa), ?_⟩⟩
  refine ⟨_, rfl, x, cC, dx, _, rfl, upd_same, T.clC, T.nC_held, (by show 1 < 1000; decide), ?_⟩
  have k2 := k1.upd (.ins cC dx (putF "held" (.ref wa) (putF "lock" (.ref lk) [])))
  have ln : ∀ (f : Str) (z : V) (fs : List (Str × V)) (m : Nat), fs.length ≤ m → (putF f z fs).length ≤ m + 1 := fun f z fs m h => Nat.le_trans (length_putF f z fs) (by omega)
  have l2 := ln "held" (.ref wa) (putF "lock" (.ref lk) []) 1 (Nat.le_refl _)
  refine ⟨_, rfl, le, _, rfl, .inr ⟨SqT.of (k2 _ _ nle hle), ?_⟩⟩
  refine ⟨_, rfl, x, cC, dx, _, rfl, upd_same, T.clC, T.nC_least, by omega, ?_⟩
  have l3 := ln "least" (.ref le) _ _ l2
  refine ⟨_, rfl, x, cC, dx, _, rfl, upd_same, T.clC, T.nC_open_side, by omega, ?_⟩
  have l4 := ln "open_side" (.str "") _ _ l3
  refine ⟨_, rfl, x, cC, dx, _, rfl, upd_same, T.clC, T.nC_inside, by omega, ?_⟩
  have kf := ((((k1.upd (.ins cC dx (putF "held" (.ref wa) (putF "lock" (.ref lk) [])))).upd (.ins cC dx (putF "least" (.ref le) (putF "held" (.ref wa) (putF "lock" (.ref lk) []))))).upd (.ins cC dx (putF "open_side" (.str "") (putF "least" (.ref le) (putF "held" (.ref wa) (putF "lock" (.ref lk) [])))))).upd (.ins cC dx (putF "inside" (.bl false) (putF "open_side" (.str "") (putF "least" (.ref le) (putF "held" (.ref wa) (putF "lock" (.ref lk) [])))))))
  obtain ⟨dl, hl⟩ := hlk
  refine q _ kf ⟨dx, wa, le, n, h₁, l, ?_, kf _ _ nwa hwa, kf _ _ nle hle, ⟨dl, kf _ _ hne hl⟩, hne, hws⟩
  rw [upd_same, ch_made]
  rfl
theorem sc_Chamber_waters : FnScope ["self"] ["self"] (defScope s_Chamber_waters) := ⟨rfl, rfl, rfl, by decide +kernel, rfl, by decide +kernel, by decide +kernel⟩
theorem ok_s_Chamber_waters {f : Addr} {fd : FuncData} (F : Fun K "waters" "Chamber.waters" s_Chamber_waters f fd) (T : Txt K mg w cP cB cU cC dV dW cA cN cS cF cO cK cZ)  : FnOk P w K mg base CX0 1 f fd ["self"] (spLook (kdC cP cB cU) cC isWaters) := by
  refine F.ok sc_Chamber_waters (fun vs H Q E h => ?_) (fun cdv A outer s H vs Q E hr h => ?_)
  · obtain ⟨x, lk, S, rfl, ⟨dx, hd, ls, n, h₁, l, hx, hhd, hls, hlk, hne, hlen⟩, q⟩ := h
    rfl
  obtain ⟨x, lk, S, rfl, ⟨dx, hd, ls, n, h₁, l, hx, hhd, hls, hlk, hne, hlen⟩, q⟩ := h
  have hu : _ < cLine := hr.units0
  have hu1 := hu_of hr
  refine ⟨_, (pss_one (ps_ret (pe_fld (pv 0) rfl))), ?_⟩
  exact ⟨_, rfl, x, cC, dx, _, _, rfl, hx, T.clC, T.nC_held, l_held _ _ _ _ _, q _ H (Same.refl _) ⟨hd, rfl, hhd⟩⟩
theorem sc_Chamber_gates : FnScope ["self"] ["self"] (defScope s_Chamber_gates) := ⟨rfl, rfl, rfl, by decide +kernel, rfl, by decide +kernel, by decide +kernel⟩
theorem ok_s_Chamber_gates {f : Addr} {fd : FuncData} (F : Fun K "gates" "Chamber.gates" s_Chamber_gates f fd) (T : Txt K mg w cP cB cU cC dV dW cA cN cS cF cO cK cZ)  : FnOk P w K mg base CX0 1 f fd ["self"] (spLook (kdC cP cB cU) cC isGates) := by
  refine F.ok sc_Chamber_gates (fun vs H Q E h => ?_) (fun cdv A outer s H vs Q E hr h => ?_)
  · obtain ⟨x, lk, S, rfl, ⟨dx, hd, ls, n, h₁, l, hx, hhd, hls, hlk, hne, hlen⟩, q⟩ := h
    rfl
  obtain ⟨x, lk, S, rfl, ⟨dx, hd, ls, n, h₁, l, hx, hhd, hls, hlk, hne, hlen⟩, q⟩ := h
  have hu : _ < cLine := hr.units0
  have hu1 := hu_of hr
  refine ⟨_, (pss_one (ps_ret (pe_tup (pa_cons (pe_cmpR op_eq (pe_fld (pv 0) rfl) pe_str (nomark _)) (pa_cons (pe_cmpR op_eq (pe_fld (pv 0) rfl) pe_str (nomark _)) pa_nil))))), ?_⟩
  refine ⟨_, rfl, x, cC, dx, _, _, rfl, hx, T.clC, T.nC_open_side, l_open_side _ _ _ _ _, rfl, ?_⟩
  rw [show decide (V.str (opS S.op) = V.str "high") = decide (S.op = some true) from dec_op S.op true]
  refine ⟨_, rfl, x, cC, dx, _, _, rfl, hx, T.clC, T.nC_open_side, l_open_side _ _ _ _ _, rfl, ?_⟩
  rw [show decide (V.str (opS S.op) = V.str "low") = decide (S.op = some false) from dec_op S.op false]
  exact ⟨(by show 2 ≤ sizeLine; decide), fun t ht => q _ _ (same_new ht _) ⟨t, rfl, upd_same⟩⟩
theorem sc_Chamber_boat : FnScope ["self"] ["self"] (defScope s_Chamber_boat) := ⟨rfl, rfl, rfl, by decide +kernel, rfl, by decide +kernel, by decide +kernel⟩
theorem ok_s_Chamber_boat {f : Addr} {fd : FuncData} (F : Fun K "boat" "Chamber.boat" s_Chamber_boat f fd) (T : Txt K mg w cP cB cU cC dV dW cA cN cS cF cO cK cZ)  : FnOk P w K mg base CX0 1 f fd ["self"] (spLook (kdC cP cB cU) cC isBoat) := by
  refine F.ok sc_Chamber_boat (fun vs H Q E h => ?_) (fun cdv A outer s H vs Q E hr h => ?_)
  · obtain ⟨x, lk, S, rfl, ⟨dx, hd, ls, n, h₁, l, hx, hhd, hls, hlk, hne, hlen⟩, q⟩ := h
    rfl
  obtain ⟨x, lk, S, rfl, ⟨dx, hd, ls, n, h₁, l, hx, hhd, hls, hlk, hne, hlen⟩, q⟩ := h
  have hu : _ < cLine := hr.units0
  have hu1 := hu_of hr
  refine ⟨_, (pss_one (ps_ret (pe_fld (pv 0) rfl))), ?_⟩
  exact ⟨_, rfl, x, cC, dx, _, _, rfl, hx, T.clC, T.nC_inside, l_inside _ _ _ _ _, q _ H (Same.refl _) rfl⟩
theorem sc_Chamber_stands_at : FnScope ["self", "side", "level"] ["self", "side"] (defScope s_Chamber_stands_at) := ⟨rfl, rfl, rfl, by decide +kernel, rfl, by decide +kernel, by decide +kernel⟩
theorem ok_s_Chamber_stands_at {f : Addr} {fd : FuncData} (F : Fun K "stands_at" "Chamber.stands_at" s_Chamber_stands_at f fd) (T : Txt K mg w cP cB cU cC dV dW cA cN cS cF cO cK cZ)  : FnOk P w K mg base CX0 1 f fd ["self", "side"] (spStands (kdC cP cB cU) cC) := by
  refine F.ok sc_Chamber_stands_at (fun vs H Q E h => ?_) (fun cdv A outer s H vs Q E hr h => ?_)
  · obtain ⟨x, lk, S, sd, rfl, ⟨dx, hd, ls, n, h₁, l, hx, hhd, hls, hlk, hne, hlen⟩, q⟩ := h
    rfl
  obtain ⟨x, lk, S, sd, rfl, ⟨dx, hd, ls, n, h₁, l, hx, hhd, hls, hlk, hne, hlen⟩, q⟩ := h
  have hu : _ < cLine := hr.units0
  have hu1 := hu_of hr
  refine ⟨_, (pss_cons (ps_set (i := 2) sc_Chamber_stands_at.nd rfl (by first | exact Or.inl rfl | exact Or.inr rfl) (pe_ifExp (pt_cmpR op_eq (pv 1) pe_str (nomark _)) (pe_fld (pe_fld (pv 0) rfl) rfl) pe_int))
      (pss_one (ps_ret (pe_cmpR op_eq (pe_ix ix_tup (pe_fld (pv 0) rfl) (pe_dtop (pe_glob (v := .ref dV) rfl T.g_VESSELS rfl) pe_str (fun _ _ => rfl) (K := K) (w := w)) (fun _ _ => rfl)) (pv 2) (nomark _))))), ?_⟩
  obtain ⟨dl, hl⟩ := hlk
  obtain ⟨tk2, tv_chamber⟩ := T.v_chamber
  have at2 : atI (S.w.map V.int) (2 : Int) = some (.int (S.w.getD 2 0)) := atI_ints (s := 2) (by omega)
  have e : ∀ a b : Int, decide (V.int a = V.int b) = decide (a = b) := fun a b => decide_eq_decide.mpr ⟨V.int.inj, fun h => by rw [h]⟩
  refine ⟨_, rfl, rfl, _, rfl, ?_⟩
  rw [dec_side]
  cases sd with
  | true =>
    refine iteT ⟨_, rfl, x, cC, dx, _, _, rfl, hx, T.clC, T.nC_lock, l_lock _ _ _ _ _, lk, _, dl, _, _, rfl, hl, T.cl S.kd, T.n_room S.kd, fk_room S.kd _ _ _ _ _, ?_⟩
    refine ⟨_, rfl, x, cC, dx, _, _, rfl, hx, T.clC, T.nC_held, l_held _ _ _ _ _, dV, "chamber", _, .int 2, rfl, T.topV, rfl, tv_chamber, ⟨_, rfl⟩, hd, _, _, _, rfl, rfl, SqT.of hhd, at2, _, rfl, rfl, ?_⟩
    rw [e]
    exact q
  | false =>
    refine iteF ?_
    refine ⟨_, rfl, x, cC, dx, _, _, rfl, hx, T.clC, T.nC_held, l_held _ _ _ _ _, dV, "chamber", _, .int 2, rfl, T.topV, rfl, tv_chamber, ⟨_, rfl⟩, hd, _, _, _, rfl, rfl, SqT.of hhd, at2, _, rfl, rfl, ?_⟩
    rw [e]
    exact q
theorem sc_Chamber_after_pours : FnScope ["self", "pours", "numbered"] ["self", "pours"] (defScope s_Chamber_after_pours) := ⟨rfl, rfl, rfl, by decide +kernel, rfl, by decide +kernel, by decide +kernel⟩
theorem ok_s_Chamber_after_pours {f : Addr} {fd : FuncData} (F : Fun K "after_pours" "Chamber.after_pours" s_Chamber_after_pours f fd) (T : Txt K mg w cP cB cU cC dV dW cA cN cS cF cO cK cZ) (D_poured_all : Def P w K mg base 1 "poured_all" ["waters", "pours"] [] (spAll K)) : FnOk P w K mg base CX0 2 f fd ["self", "pours"] (spAfterC (kdC cP cB cU) cC K) := by
  refine F.ok sc_Chamber_after_pours (fun vs H Q E h => ?_) (fun cdv A outer s H vs Q E hr h => ?_)
  · obtain ⟨x, lk, p, S, rs, ps, rfl, ⟨dx, hd, ls, n, h₁, l, hx, hhd, hls, hlk, hne, hlen⟩, hp, hA, hnm, hrl, q⟩ := h
    rfl
  obtain ⟨x, lk, p, S, rs, ps, rfl, ⟨dx, hd, ls, n, h₁, l, hx, hhd, hls, hlk, hne, hlen⟩, hp, hA, hnm, hrl, q⟩ := h
  have hu : _ < cLine := hr.units0
  have hu1 := hu_of hr
  refine ⟨_, (pss_cons (ps_setComp (i := 2) ["source", "target", "amount"] (capF 3 []) sc_Chamber_after_pours.nd rfl (by first | exact Or.inl rfl | exact Or.inr rfl) rfl (compScope (defScope s_Chamber_after_pours) rfl rfl (by decide +kernel) (by decide +kernel) (by decide +kernel)) (caps_of 3 [] rfl rfl (by decide +kernel)) (pi_list (pv 1)) (fun _ _ _ _ _ => (pg_tupK (n := 3) K rfl (pgs_cons (pg_name (i := 0) (show List.Nodup (["source", "target", "amount"] : List Str) from by decide +kernel) rfl (by first | exact Or.inl rfl | exact Or.inr rfl)) (pgs_cons (pg_name (i := 1) (show List.Nodup (["source", "target", "amount"] : List Str) from by decide +kernel) rfl (by first | exact Or.inl rfl | exact Or.inr rfl)) (pgs_cons (pg_name (i := 2) (show List.Nodup (["source", "target", "amount"] : List Str) from by decide +kernel) rfl (by first | exact Or.inl rfl | exact Or.inr rfl)) pgs_nil))))) (fun _ _ _ _ _ => pts_nil) (fun _ _ _ _ _ => (pe_tup (pa_cons (pe_dtop (pe_glob (v := .ref dV) rfl T.g_VESSELS rfl) (pv 0) (fun _ _ => rfl) (K := K) (w := w)) (pa_cons (pe_dtop (pe_glob (v := .ref dV) rfl T.g_VESSELS rfl) (pv 1) (fun _ _ => rfl) (K := K) (w := w)) (pa_cons (pv 2) pa_nil))))))
      (pss_one (ps_ret (pe_def D_poured_all hr rfl (pa_cons (pe_fld (pv 0) rfl) (pa_cons (pv 2) pa_nil)))))), ?_⟩
  refine ⟨_, rfl, p, rfl, ⟨_, SqL.of hp⟩, fun D hD => ?_⟩
  have u0 := same_new hD (.lst [])
  refine turns_list (K := K) (a := p) (xs := rs) (fun i σ Hi => ∃ (c1 c2 c3 : Option V) (ys : List V), σ = [c1, c2, c3] ∧ Hi D = some (.lst ys) ∧ PoursAt K Hi ys ((ps.take i).map ixP) 4 ∧ Same H Hi)
    ⟨none, none, none, [], rfl, upd_same, ⟨rfl, fun i r hi => by cases hi⟩, u0⟩ (fun i σ Hi _ ⟨_, _, _, _, _, _, _, s⟩ => SqL.of (s _ _ hp)) ?_ ?_
  · rintro i y σ Hi hy ⟨c1, c2, c3, ys, rfl, hY, hB, sm⟩
    have hi : i < rs.length := (List.getElem?_eq_some_iff.mp hy).1
    obtain ⟨t, sS, sT, nN, rfl, hps, hT⟩ := hA.2 i y hy
    obtain ⟨hn1, hn2⟩ := hnm _ (List.mem_of_getElem? hps)
    obtain ⟨tkS, eS⟩ := T.v_at sS hn1
    obtain ⟨tkT, eT⟩ := T.v_at sT hn2
    have hl : ys.length ≤ i := by rw [hB.1, List.length_map]; exact List.length_take_le _ _
    refine ⟨t, _, rfl, SqT.of (sm _ _ hT), rfl, _, _, rfl, _, _, rfl, _, _, rfl, rfl, ?_⟩
    refine rd_yes (iteT ?_)
    refine ⟨_, rfl, dV, sS, _, .int (vIx sS : Int), rfl, T.topV, rfl, eS, ⟨_, rfl⟩, _, rfl, dV, sT, _, .int (vIx sT : Int), rfl, T.topV, rfl, eT, ⟨_, rfl⟩, _, rfl, (by show 3 ≤ sizeLine; decide), fun tp htp => ?_⟩
    have v1 : ∀ o, Same Hi (upd Hi tp o) := fun o => same_new htp o
    refine ⟨ys, v1 _ _ _ hY, small1000 (by omega), _, _, _, ys ++ [.ref tp], rfl, upd_same, ?_, same_upd hD (sm.trans (v1 _))⟩
    rw [map_take_snoc hps]
    exact Keep.pours ((Keep.refl D _).upd _) (v1 _ _ _ hY) ((hB.same (v1 _)).snoc (SqT.of upd_same) (vIx_lt sS) (vIx_lt sT))
  · rintro σ Hi ⟨c1, c2, c3, ys, rfl, hY, hB, sm⟩
    rw [hA.1, List.take_length] at hB
    refine ⟨_, rfl, x, cC, dx, _, _, rfl, (sm _ _ hx), T.clC, T.nC_held, l_held _ _ _ _ _, _, rfl, hd, D, S.w, ys, _, rfl, .inr (SqT.of (sm _ _ hhd)), SqL.of hY, by rw [hlen]; exact hB, by omega, fun r H' s' hr0 hr => ?_⟩
    exact q r H' (sm.trans s') (sm.free hr0) hr
theorem sc_Chamber_refuse_open_gate : FnScope ["self"] ["self"] (defScope s_Chamber_refuse_open_gate) := ⟨rfl, rfl, rfl, by decide +kernel, rfl, by decide +kernel, by decide +kernel⟩
theorem ok_s_Chamber_refuse_open_gate {f : Addr} {fd : FuncData} (F : Fun K "refuse_open_gate" "Chamber.refuse_open_gate" s_Chamber_refuse_open_gate f fd) (T : Txt K mg w cP cB cU cC dV dW cA cN cS cF cO cK cZ)  : FnOk P w K mg base (CXE P w) 1 f fd ["self"] (spRefOpen (kdC cP cB cU) cC (exOf cA cN cS cF cO cK)) := by
  refine F.okX sc_Chamber_refuse_open_gate (fun vs H Q E h => ?_) (fun cdv A outer s H vs Q E hr h => ?_)
  · obtain ⟨x, lk, S, rfl, ⟨dx, hd, ls, n, h₁, l, hx, hhd, hls, hlk, hne, hlen⟩, qe, q⟩ := h
    rfl
  obtain ⟨x, lk, S, rfl, ⟨dx, hd, ls, n, h₁, l, hx, hhd, hls, hlk, hne, hlen⟩, qe, q⟩ := h
  have hu : _ < cLine := hr.units0
  have hu1 := hu_of hr
  refine ⟨_, (pss_one (ps_if (pt_cmpR op_ne (pe_fld (pv 0) rfl) pe_str (nomark _)) (pss_one (ps_raise throws_cx rfl rfl T.c_Against T.x_Against (pa_cons pe_str pa_nil))) pss_nil)), ?_⟩
  refine ⟨_, rfl, x, cC, dx, _, _, rfl, hx, T.clC, T.nC_open_side, l_open_side _ _ _ _ _, rfl, _, rfl, ?_⟩
  rw [dec_op0]
  by_cases hop : S.op = none
  · exact iteNS hop (q hop)
  · exact iteNT hop ⟨by show 1 ≤ sizeLine; decide, qe hop⟩
theorem sc_Chamber_refuse_shut_gate : FnScope ["self", "side"] ["self", "side"] (defScope s_Chamber_refuse_shut_gate) := ⟨rfl, rfl, rfl, by decide +kernel, rfl, by decide +kernel, by decide +kernel⟩
theorem ok_s_Chamber_refuse_shut_gate {f : Addr} {fd : FuncData} (F : Fun K "refuse_shut_gate" "Chamber.refuse_shut_gate" s_Chamber_refuse_shut_gate f fd) (T : Txt K mg w cP cB cU cC dV dW cA cN cS cF cO cK cZ)  : FnOk P w K mg base (CXE P w) 1 f fd ["self", "side"] (spRefShut (kdC cP cB cU) cC (exOf cA cN cS cF cO cK)) := by
  refine F.okX sc_Chamber_refuse_shut_gate (fun vs H Q E h => ?_) (fun cdv A outer s H vs Q E hr h => ?_)
  · obtain ⟨x, lk, S, sd, rfl, ⟨dx, hd, ls, n, h₁, l, hx, hhd, hls, hlk, hne, hlen⟩, qe, q⟩ := h
    rfl
  obtain ⟨x, lk, S, sd, rfl, ⟨dx, hd, ls, n, h₁, l, hx, hhd, hls, hlk, hne, hlen⟩, qe, q⟩ := h
  have hu : _ < cLine := hr.units0
  have hu1 := hu_of hr
  refine ⟨_, (pss_one (ps_if (pt_cmpR op_ne (pe_fld (pv 0) rfl) (pv 1) (nomark _)) (pss_one (ps_raise throws_cx rfl rfl T.c_NotNow T.x_NotNow (pa_cons pe_str pa_nil))) pss_nil)), ?_⟩
  refine ⟨_, rfl, x, cC, dx, _, _, rfl, hx, T.clC, T.nC_open_side, l_open_side _ _ _ _ _, _, rfl, rfl, _, rfl, ?_⟩
  rw [dec_op]
  by_cases hop : S.op = some sd
  · exact iteNS hop (q hop)
  · exact iteNT hop ⟨by show 1 ≤ sizeLine; decide, qe hop⟩
theorem sc_Chamber_open_gate : FnScope ["self", "side"] ["self", "side"] (defScope s_Chamber_open_gate) := ⟨rfl, rfl, rfl, by decide +kernel, rfl, by decide +kernel, by decide +kernel⟩
theorem ok_s_Chamber_open_gate {f : Addr} {fd : FuncData} (F : Fun K "open_gate" "Chamber.open_gate" s_Chamber_open_gate f fd) (T : Txt K mg w cP cB cU cC dV dW cA cN cS cF cO cK cZ) (MX_Chamber_refuse_open_gate : MeX P w K mg base 1 cC "refuse_open_gate" ["self"] (spRefOpen (kdC cP cB cU) cC (exOf cA cN cS cF cO cK))) (MM_Chamber_stands_at : MeD P w K mg base 1 cC "stands_at" ["self", "side"] (spStands (kdC cP cB cU) cC)) : FnOk P w K mg base (CXE P w) 2 f fd ["self", "side"] (spWSide (kdC cP cB cU) cC (exOf cA cN cS cF cO cK) Wd.opn) := by
  refine F.okX sc_Chamber_open_gate (fun vs H Q E h => ?_) (fun cdv A outer s H vs Q E hr h => ?_)
  · obtain ⟨x, lk, S, sd, rfl, hch, qe, q⟩ := h
    rfl
  obtain ⟨x, lk, S, sd, rfl, hch, qe, q⟩ := h
  have hu : _ < cLine := hr.units0
  have hu1 := hu_of hr
  refine ⟨_, (pss_cons (ps_if (pt_cmpR op_eq (pe_fld (pv 0) rfl) (pv 1) (nomark _)) (pss_one (ps_raise throws_cx rfl rfl T.c_NotNow T.x_NotNow (pa_cons pe_str pa_nil))) pss_nil)
      (pss_cons (ps_expr (pe_mX0 MX_Chamber_refuse_open_gate hears_cx hr (pv 0)))
      (pss_cons (ps_if (pt_not (pt_val (pe_m MM_Chamber_stands_at hr (pv 0) (pa_cons (pv 1) pa_nil)))) (pss_one (ps_raise throws_cx rfl rfl T.c_Against T.x_Against (pa_cons pe_str pa_nil))) pss_nil)
      (pss_one (ps_fld (pv 0) (pv 1) rfl))))), ?_⟩
  have hch0 := hch
  obtain ⟨dx, hd, ls, n, h₁, l, hx, hhd, hls, hlk, hne, hlen⟩ := hch
  refine ⟨_, rfl, x, cC, dx, _, _, rfl, hx, T.clC, T.nC_open_side, l_open_side _ _ _ _ _, _, rfl, rfl, _, rfl, ?_⟩
  rw [dec_op]
  by_cases hop : S.op = some sd
  · exact iteDT hop ⟨by show 1 ≤ sizeLine; decide, qe .notNow (by show (if S.op = some sd then _ else _) = _; rw [if_pos hop]) H (Same.refl _)⟩
  refine iteDF hop ⟨_, rfl, x, dx, _, rfl, hx, l_refuse_open_gate _ _ _ _ _, x, lk, S, rfl, hch0, fun h0 => qe .against (by show (if S.op = some sd then _ else if ¬ S.op = none then _ else _) = _; rw [if_neg hop, if_pos h0]) H (Same.refl _), fun h0 => ?_⟩
  refine ⟨_, rfl, x, dx, _, rfl, hx, l_stands_at _ _ _ _ _, _, rfl, x, lk, S, sd, rfl, hch0, _, rfl, ?_⟩
  have e0 : ∀ c, stepC S (.opn sd) = c ↔ (if ¬ S.w.getD 2 0 = lev S sd then (.inl .against : Sum Er CSt) else .inr { S with op := some sd }) = c := fun c => by
    show (if S.op = some sd then _ else if ¬ S.op = none then _ else _) = c ↔ _
    rw [if_neg hop, if_neg (fun z => z h0)]
  by_cases hs : S.w.getD 2 0 = lev S sd
  · refine iteNS hs ?_
    refine ⟨_, rfl, _, rfl, x, cC, dx, _, rfl, hx, T.clC, T.nC_open_side, (by show 5 < 1000; decide), ?_⟩
    have kp := (Keep.refl x H).upd (.ins cC dx (putF "open_side" (.str (sideS sd)) (chFs (.ref lk) (.ref hd) (.ref ls) (.str (opS S.op)) (.bl S.ins))))
    refine q _ ((e0 _).mpr (if_neg (fun z => z hs))) _ kp ⟨dx, hd, ls, n, h₁, l, by rw [upd_same, ch_open]; rfl, kp _ _ (ne_of hhd hx (fun z => nomatch z)) hhd, kp _ _ (ne_of hls hx (fun z => nomatch z)) hls, ?_, hne, hlen⟩
    obtain ⟨dl, hl⟩ := hlk
    exact ⟨dl, kp _ _ hne hl⟩
  · exact iteNT hs ⟨by show 1 ≤ sizeLine; decide, qe .against ((e0 _).mpr (if_pos hs)) H (Same.refl _)⟩
theorem sc_Chamber_shut_gate : FnScope ["self", "side"] ["self", "side"] (defScope s_Chamber_shut_gate) := ⟨rfl, rfl, rfl, by decide +kernel, rfl, by decide +kernel, by decide +kernel⟩
theorem ok_s_Chamber_shut_gate {f : Addr} {fd : FuncData} (F : Fun K "shut_gate" "Chamber.shut_gate" s_Chamber_shut_gate f fd) (T : Txt K mg w cP cB cU cC dV dW cA cN cS cF cO cK cZ) (MX_Chamber_refuse_shut_gate : MeX P w K mg base 1 cC "refuse_shut_gate" ["self", "side"] (spRefShut (kdC cP cB cU) cC (exOf cA cN cS cF cO cK))) : FnOk P w K mg base (CXE P w) 2 f fd ["self", "side"] (spWSide (kdC cP cB cU) cC (exOf cA cN cS cF cO cK) Wd.sht) := by
  refine F.okX sc_Chamber_shut_gate (fun vs H Q E h => ?_) (fun cdv A outer s H vs Q E hr h => ?_)
  · obtain ⟨x, lk, S, sd, rfl, hch, qe, q⟩ := h
    rfl
  obtain ⟨x, lk, S, sd, rfl, hch, qe, q⟩ := h
  have hu : _ < cLine := hr.units0
  have hu1 := hu_of hr
  refine ⟨_, (pss_cons (ps_expr (pe_mX MX_Chamber_refuse_shut_gate hears_cx hr (pv 0) (pa_cons (pv 1) pa_nil)))
      (pss_one (ps_fld (pv 0) pe_str rfl))), ?_⟩
  have hch0 := hch
  obtain ⟨dx, hd, ls, n, h₁, l, hx, hhd, hls, hlk, hne, hlen⟩ := hch
  refine ⟨_, rfl, x, dx, _, rfl, hx, l_refuse_shut_gate _ _ _ _ _, _, rfl, x, lk, S, sd, rfl, hch0, fun h0 => qe .notNow (by show (if S.op = some sd then _ else _) = _; rw [if_neg h0]) H (Same.refl _), fun h0 => ?_⟩

  · refine ⟨_, rfl, x, cC, dx, _, rfl, hx, T.clC, T.nC_open_side, (by show 5 < 1000; decide), ?_⟩
    have kp := (Keep.refl x H).upd (.ins cC dx (putF "open_side" (.str "") (chFs (.ref lk) (.ref hd) (.ref ls) (.str (opS S.op)) (.bl S.ins))))
    refine q { S with op := none } (by show (if S.op = some sd then _ else _) = _; rw [if_pos h0]) _ kp ⟨dx, hd, ls, n, h₁, l, by rw [upd_same, ch_open]; rfl, kp _ _ (ne_of hhd hx (fun z => nomatch z)) hhd, kp _ _ (ne_of hls hx (fun z => nomatch z)) hls, ?_, hne, hlen⟩
    obtain ⟨dl, hl⟩ := hlk
    exact ⟨dl, kp _ _ hne hl⟩
theorem sc_Chamber_fill_chamber : FnScope ["self", "pours", "behind", "source", "target", "amount"] ["self"] (defScope s_Chamber_fill_chamber) := ⟨rfl, rfl, rfl, by decide +kernel, rfl, by decide +kernel, by decide +kernel⟩
theorem ok_s_Chamber_fill_chamber {f : Addr} {fd : FuncData} (F : Fun K "fill_chamber" "Chamber.fill_chamber" s_Chamber_fill_chamber f fd) (T : Txt K mg w cP cB cU cC dV dW cA cN cS cF cO cK cZ) (MX_Chamber_refuse_open_gate : MeX P w K mg base 1 cC "refuse_open_gate" ["self"] (spRefOpen (kdC cP cB cU) cC (exOf cA cN cS cF cO cK))) (MM_Chamber_stands_at : MeD P w K mg base 1 cC "stands_at" ["self", "side"] (spStands (kdC cP cB cU) cC)) (D_filling : Def P w K mg base 3 "filling" ["lock", "basin"] [] (spPours3 (kdC cP cB cU) fillP)) (MM_Chamber_after_pours : MeD P w K mg base 2 cC "after_pours" ["self", "pours"] (spAfterC (kdC cP cB cU) cC K)) : FnOk P w K mg base (CXE P w) 5 f fd ["self"] (spNoSide (kdC cP cB cU) cC (exOf cA cN cS cF cO cK) Wd.fil) := by
  refine F.okX sc_Chamber_fill_chamber (fun vs H Q E h => ?_) (fun cdv A outer s H vs Q E hr h => ?_)
  · obtain ⟨x, lk, S, rfl, hch, qe, q⟩ := h
    rfl
  obtain ⟨x, lk, S, rfl, hch, qe, q⟩ := h
  have hu : _ < cLine := hr.units0
  have hu1 := hu_of hr
  refine ⟨_, (pss_cons (ps_expr (pe_mX0 MX_Chamber_refuse_open_gate hears_cx hr (pv 0)))
      (pss_cons (ps_if (pt_val (pe_m MM_Chamber_stands_at hr (pv 0) (pa_cons pe_str pa_nil))) (pss_one (ps_raise throws_cx rfl rfl T.c_NotNow T.x_NotNow (pa_cons pe_str pa_nil))) pss_nil)
      (pss_cons (ps_set (i := 1) sc_Chamber_fill_chamber.nd rfl (by first | exact Or.inl rfl | exact Or.inr rfl) (pe_def D_filling hr rfl (pa_cons (pe_fld (pv 0) rfl) (pa_cons (pe_ix ix_tup (pe_fld (pv 0) rfl) (pe_dtop (pe_glob (v := .ref dV) rfl T.g_VESSELS rfl) pe_str (fun _ _ => rfl) (K := K) (w := w)) (fun _ _ => rfl)) pa_nil))))
      (pss_cons (ps_set (i := 2) sc_Chamber_fill_chamber.nd rfl (by first | exact Or.inl rfl | exact Or.inr rfl) (pe_m MM_Chamber_after_pours hr (pv 0) (pa_cons (pv 1) pa_nil)))
      (pss_cons (ps_for own_cx rfl (pi_list (pv 1)) (pg_tup rfl (pgs_cons (pg_name (i := 3) sc_Chamber_fill_chamber.nd rfl (by first | exact Or.inl rfl | exact Or.inr rfl)) (pgs_cons (pg_name (i := 4) sc_Chamber_fill_chamber.nd rfl (by first | exact Or.inl rfl | exact Or.inr rfl)) (pgs_cons (pg_name (i := 5) sc_Chamber_fill_chamber.nd rfl (by first | exact Or.inl rfl | exact Or.inr rfl)) pgs_nil))))
        (pss_one (ps_if (PW.pt (pw_and (pt_cmpR op_ne (pv 3) pe_str (nomark _)) (pw_and1 (pt_cmpR op_lt (pe_ix ix_tup (pv 2) (pe_dtop (pe_glob (v := .ref dV) rfl T.g_VESSELS rfl) (pv 3) (fun _ _ => rfl) (K := K) (w := w)) (fun _ _ => rfl)) (pe_ix ix_tup (pe_fld (pv 0) rfl) (pe_dtop (pe_glob (v := .ref dV) rfl T.g_VESSELS rfl) (pv 3) (fun _ _ => rfl) (K := K) (w := w)) (fun _ _ => rfl)) (nomark _))))) (pss_one (ps_raise throws_cx rfl rfl T.c_Short T.x_Short (pa_cons pe_str pa_nil))) pss_nil)))
      (pss_one (ps_fld (pv 0) (pv 2) rfl))))))), ?_⟩
  have hch0 := hch
  obtain ⟨dx, hd, ls, n, h₁, l, hx, hhd, hls, hlk, hne, hlen⟩ := hch
  refine ⟨_, rfl, x, dx, _, rfl, hx, l_refuse_open_gate _ _ _ _ _, x, lk, S, rfl, hch0, fun h0 => qe .against (by show (if ¬ S.op = none then _ else _) = _; rw [if_pos h0]) H (Same.refl _), fun h0 => ?_⟩
  obtain ⟨tk3, tv_basin⟩ := T.v_basin
  have at3 : atI (S.w.map V.int) (3 : Int) = some (.int (S.w.getD 3 0)) := atI_ints (s := 3) (by omega)
  refine ⟨_, rfl, x, dx, _, rfl, hx, l_stands_at _ _ _ _ _, x, lk, S, true, rfl, hch0, _, rfl, ?_⟩
  by_cases hs : S.w.getD 2 0 = S.room
  · refine iteDT hs ⟨by show 1 ≤ sizeLine; decide, qe .notNow (by show (if ¬ S.op = none then _ else if S.w.getD 2 0 = S.room then _ else _) = _; rw [if_neg (fun z => z h0), if_pos hs]) H (Same.refl _)⟩
  refine iteDF hs ?_

  have e0 : stepC S .fil = if shortC S = true then .inl .short else .inr { S with w := filledW S } := by show (if ¬ S.op = none then _ else if S.w.getD 2 0 = S.room then _ else _) = _; rw [if_neg (fun z => z h0), if_neg hs]
  have hnm := fill_named S.kd S.room S.v (S.w.getD 3 0)
  have hpl2 := fillP_len S.kd S.room S.v (S.w.getD 3 0)
  refine ⟨_, rfl, x, cC, dx, _, _, rfl, hx, T.clC, T.nC_lock, l_lock _ _ _ _ _, _, rfl, x, cC, dx, _, _, rfl, hx, T.clC, T.nC_held, l_held _ _ _ _ _, dV, "basin", _, .int 3, rfl, T.topV, rfl, tv_basin, ⟨_, rfl⟩, hd, _, _, _, rfl, rfl, SqT.of hhd, at3, lk, S.kd, n, h₁, l, S.room, S.v, S.w.getD 3 0, rfl, hlk, fun pl H1 rs s1 hpl0 hpl hA => ?_⟩
  refine ⟨_, rfl, x, dx, _, rfl, (s1 _ _ hx), l_after_pours _ _ _ _ _, _, rfl, x, lk, pl, S, rs, _, rfl, hch0.same s1, hpl, hA, fun q hq => ⟨by rcases (hnm q hq).1 with h | h | h; exact .inl h; exact .inr (.inl h); exact .inr (.inr (.inr h)), .inr (.inr (.inl (hnm q hq).2))⟩, by rw [hA.1]; omega, fun bh H2 s2 hbh0 hbh => ?_⟩
  have s12 := s1.trans s2
  have hfl : (filledW S).length = 4 := by unfold filledW; rw [pourAll_length]; exact hlen
  refine ⟨_, rfl, pl, rfl, ⟨_, SqL.of (s2 _ _ hpl)⟩, for_list (K := K) (a := pl) (xs := rs) (fun i σ Hi => ∃ c3 c4 c5 : Option V, σ = [some (.ref x), some (.ref pl), some (.ref bh), c3, c4, c5] ∧ (∀ q ∈ (fillP S.kd S.room S.v (S.w.getD 3 0)).take i, shortQ S q = false) ∧ H2 = Hi)
    ⟨none, none, none, rfl, (fun q hq => by cases hq), rfl⟩ (fun i σ Hi _ ⟨_, _, _, _, _, e⟩ => by rw [← e]; exact SqL.of (s2 _ _ hpl)) ?_ ?_⟩
  · rintro i y σ Hi hy ⟨c3, c4, c5, rfl, hno, rfl⟩
    obtain ⟨t, sS, sT, nN, rfl, hps, hT⟩ := hA.2 i y hy
    obtain ⟨hn1, hn2⟩ := hnm _ (List.mem_of_getElem? hps)
    have hmem : (sS, sT, nN) ∈ fillP S.kd S.room S.v (S.w.getD 3 0) := List.mem_of_getElem? hps
    have hsnoc : shortQ S (sS, sT, nN) = false → ∀ q ∈ (fillP S.kd S.room S.v (S.w.getD 3 0)).take (i + 1), shortQ S q = false := fun hz q hq => by
      rw [List.take_add_one, hps] at hq
      rcases List.mem_append.mp hq with hq | hq
      · exact hno q hq
      · cases List.mem_singleton.mp hq
        exact hz
    refine ⟨t, _, rfl, SqT.of (s2 _ _ hT), rfl, _, _, rfl, _, _, rfl, _, _, rfl, rfl, ?_⟩
    refine ⟨_, rfl, rfl, _, rfl, ?_⟩
    rw [dec_strV]
    by_cases hb : sS = "basin"
    · exact iteNS hb (iteF ⟨_, _, _, rfl, hsnoc (by unfold shortQ; rw [decide_eq_false (fun z => z hb)]; rfl), rfl⟩)
    have hn3 : sS = "high" ∨ sS = "low" := by rcases hn1 with h | h | h; exact .inl h; exact .inr h; exact absurd h hb
    have hv : vIx sS < 2 := by rcases hn3 with h | h; rw [h, v_high]; decide; rw [h, v_low]; decide
    obtain ⟨tkS, eS⟩ := T.v_at sS (by rcases hn3 with h | h; exact .inl h; exact .inr (.inl h))
    have ha1 : atI ((filledW S).map V.int) (vIx sS : Int) = some (.int ((filledW S).getD (vIx sS) 0)) := atI_ints (by omega)
    have ha2 : atI [V.int S.lh, V.int S.ll] (vIx sS : Int) = some (.int ([S.lh, S.ll].getD (vIx sS) 0)) := atI_ints (ws := [S.lh, S.ll]) hv
    refine iteNT hb ⟨_, rfl, _, rfl, dV, sS, _, .int (vIx sS : Int), rfl, T.topV, rfl, eS, ⟨_, rfl⟩, bh, _, _, _, rfl, rfl, SqT.of hbh, ha1, _, rfl, x, cC, dx, _, _, rfl, (s12 _ _ hx), T.clC, T.nC_least, l_least _ _ _ _ _, _, rfl, dV, sS, _, .int (vIx sS : Int), rfl, T.topV, rfl, eS, ⟨_, rfl⟩, ls, _, _, _, rfl, rfl, SqT.of (s12 _ _ hls), ha2, _, _, rfl, rfl, _, rfl, ?_⟩
    by_cases hlt : (filledW S).getD (vIx sS) 0 < [S.lh, S.ll].getD (vIx sS) 0
    · have hsh : shortC S = true := List.any_eq_true.mpr ⟨_, hmem, by unfold shortQ; rw [decide_eq_true hb, decide_eq_true hlt]; rfl⟩
      rw [if_pos hsh] at e0
      exact iteDT hlt ⟨by show 1 ≤ sizeLine; decide, qe .short e0 H2 s12⟩
    · exact iteDF hlt ⟨_, _, _, rfl, hsnoc (by unfold shortQ; rw [decide_eq_false hlt, Bool.and_false]), rfl⟩
  · rintro σ Hi ⟨c3, c4, c5, rfl, hno, rfl⟩
    rw [hA.1, List.take_length] at hno
    have hsh : ¬ shortC S = true := fun hz => by
      obtain ⟨q', hq', hz'⟩ := List.any_eq_true.mp hz
      rw [hno q' hq'] at hz'
      cases hz'
    rw [if_neg hsh] at e0
    have hx2 := s12 _ _ hx
    refine ⟨_, rfl, _, rfl, x, cC, dx, _, rfl, hx2, T.clC, T.nC_held, (by show 5 < 1000; decide), ?_⟩
    have kp := (Keep.of s12 : Keep x H H2).upd (.ins cC dx (putF "held" (.ref bh) (chFs (.ref lk) (.ref hd) (.ref ls) (.str (opS S.op)) (.bl S.ins))))
    have nbh : bh ≠ x := (ne_of_none (s1 _ _ hx) hbh0).symm
    refine q _ e0 _ kp ⟨dx, bh, ls, n, h₁, l, by rw [upd_same, ch_held], by rw [upd_ne nbh]; exact hbh, kp _ _ (ne_of hls hx (fun z => nomatch z)) hls, ?_, hne, hfl⟩
    obtain ⟨dl, hl⟩ := hlk
    exact ⟨dl, kp _ _ hne hl⟩
theorem sc_Chamber_let_chamber : FnScope ["self"] ["self"] (defScope s_Chamber_let_chamber) := ⟨rfl, rfl, rfl, by decide +kernel, rfl, by decide +kernel, by decide +kernel⟩
theorem ok_s_Chamber_let_chamber {f : Addr} {fd : FuncData} (F : Fun K "let_chamber" "Chamber.let_chamber" s_Chamber_let_chamber f fd) (T : Txt K mg w cP cB cU cC dV dW cA cN cS cF cO cK cZ) (MX_Chamber_refuse_open_gate : MeX P w K mg base 1 cC "refuse_open_gate" ["self"] (spRefOpen (kdC cP cB cU) cC (exOf cA cN cS cF cO cK))) (MM_Chamber_stands_at : MeD P w K mg base 1 cC "stands_at" ["self", "side"] (spStands (kdC cP cB cU) cC)) (MM_Chamber_after_pours : MeD P w K mg base 2 cC "after_pours" ["self", "pours"] (spAfterC (kdC cP cB cU) cC K)) (D_letting : Def P w K mg base 3 "letting" ["lock", "basin"] [] (spPours3 (kdC cP cB cU) letP)) : FnOk P w K mg base (CXE P w) 5 f fd ["self"] (spNoSide (kdC cP cB cU) cC (exOf cA cN cS cF cO cK) Wd.lt) := by
  refine F.okX sc_Chamber_let_chamber (fun vs H Q E h => ?_) (fun cdv A outer s H vs Q E hr h => ?_)
  · obtain ⟨x, lk, S, rfl, hch, qe, q⟩ := h
    rfl
  obtain ⟨x, lk, S, rfl, hch, qe, q⟩ := h
  have hu : _ < cLine := hr.units0
  have hu1 := hu_of hr
  refine ⟨_, (pss_cons (ps_expr (pe_mX0 MX_Chamber_refuse_open_gate hears_cx hr (pv 0)))
      (pss_cons (ps_if (pt_val (pe_m MM_Chamber_stands_at hr (pv 0) (pa_cons pe_str pa_nil))) (pss_one (ps_raise throws_cx rfl rfl T.c_NotNow T.x_NotNow (pa_cons pe_str pa_nil))) pss_nil)
      (pss_one (ps_fld (pv 0) (pe_m MM_Chamber_after_pours hr (pv 0) (pa_cons (pe_def D_letting hr rfl (pa_cons (pe_fld (pv 0) rfl) (pa_cons (pe_ix ix_tup (pe_fld (pv 0) rfl) (pe_dtop (pe_glob (v := .ref dV) rfl T.g_VESSELS rfl) pe_str (fun _ _ => rfl) (K := K) (w := w)) (fun _ _ => rfl)) pa_nil))) pa_nil)) rfl)))), ?_⟩
  have hch0 := hch
  obtain ⟨dx, hd, ls, n, h₁, l, hx, hhd, hls, hlk, hne, hlen⟩ := hch
  refine ⟨_, rfl, x, dx, _, rfl, hx, l_refuse_open_gate _ _ _ _ _, x, lk, S, rfl, hch0, fun h0 => qe .against (by show (if ¬ S.op = none then _ else _) = _; rw [if_pos h0]) H (Same.refl _), fun h0 => ?_⟩
  obtain ⟨tk3, tv_basin⟩ := T.v_basin
  have at3 : atI (S.w.map V.int) (3 : Int) = some (.int (S.w.getD 3 0)) := atI_ints (s := 3) (by omega)
  refine ⟨_, rfl, x, dx, _, rfl, hx, l_stands_at _ _ _ _ _, x, lk, S, false, rfl, hch0, _, rfl, ?_⟩
  by_cases hs : S.w.getD 2 0 = 0
  · refine iteDT hs ⟨by show 1 ≤ sizeLine; decide, qe .notNow (by show (if ¬ S.op = none then _ else if S.w.getD 2 0 = 0 then _ else _) = _; rw [if_neg (fun z => z h0), if_pos hs]) H (Same.refl _)⟩
  refine iteDF hs ?_

  have e0 : stepC S .lt = .inr { S with w := letW S } := by show (if ¬ S.op = none then _ else if S.w.getD 2 0 = 0 then _ else _) = _; rw [if_neg (fun z => z h0), if_neg hs]
  have hnm := let_named S.kd S.room S.v (S.w.getD 3 0)
  have hpl2 := letP_len S.kd S.room S.v (S.w.getD 3 0)
  have hfl : (letW S).length = 4 := by unfold letW; rw [pourAll_length]; exact hlen
  refine ⟨_, rfl, x, dx, _, rfl, hx, l_after_pours _ _ _ _ _, _, rfl, x, cC, dx, _, _, rfl, hx, T.clC, T.nC_lock, l_lock _ _ _ _ _, _, rfl, x, cC, dx, _, _, rfl, hx, T.clC, T.nC_held, l_held _ _ _ _ _, dV, "basin", _, .int 3, rfl, T.topV, rfl, tv_basin, ⟨_, rfl⟩, hd, _, _, _, rfl, rfl, SqT.of hhd, at3, lk, S.kd, n, h₁, l, S.room, S.v, S.w.getD 3 0, rfl, hlk, fun pl H1 rs s1 hpl0 hpl hA => ?_⟩
  refine ⟨x, lk, pl, S, rs, _, rfl, hch0.same s1, hpl, hA, fun q hq => ⟨.inr (.inr (.inl (hnm q hq).1)), by rcases (hnm q hq).2 with h | h; exact .inr (.inl h); exact .inr (.inr (.inr h))⟩, by rw [hA.1]; omega, fun bh H2 s2 hbh0 hbh => ?_⟩
  have s12 := s1.trans s2
  have hx2 := s12 _ _ hx
  refine ⟨_, rfl, x, cC, dx, _, rfl, hx2, T.clC, T.nC_held, (by show 5 < 1000; decide), ?_⟩
  have kp := (Keep.of s12 : Keep x H H2).upd (.ins cC dx (putF "held" (.ref bh) (chFs (.ref lk) (.ref hd) (.ref ls) (.str (opS S.op)) (.bl S.ins))))
  have nbh : bh ≠ x := (ne_of_none (s1 _ _ hx) hbh0).symm
  refine q _ e0 _ kp ⟨dx, bh, ls, n, h₁, l, by rw [upd_same, ch_held], by rw [upd_ne nbh]; exact hbh, kp _ _ (ne_of hls hx (fun z => nomatch z)) hls, ?_, hne, hfl⟩
  obtain ⟨dl, hl⟩ := hlk
  exact ⟨dl, kp _ _ hne hl⟩
theorem sc_Chamber_boat_in : FnScope ["self", "side"] ["self", "side"] (defScope s_Chamber_boat_in) := ⟨rfl, rfl, rfl, by decide +kernel, rfl, by decide +kernel, by decide +kernel⟩
theorem ok_s_Chamber_boat_in {f : Addr} {fd : FuncData} (F : Fun K "boat_in" "Chamber.boat_in" s_Chamber_boat_in f fd) (T : Txt K mg w cP cB cU cC dV dW cA cN cS cF cO cK cZ) (MX_Chamber_refuse_shut_gate : MeX P w K mg base 1 cC "refuse_shut_gate" ["self", "side"] (spRefShut (kdC cP cB cU) cC (exOf cA cN cS cF cO cK))) : FnOk P w K mg base (CXE P w) 2 f fd ["self", "side"] (spWSide (kdC cP cB cU) cC (exOf cA cN cS cF cO cK) Wd.bin) := by
  refine F.okX sc_Chamber_boat_in (fun vs H Q E h => ?_) (fun cdv A outer s H vs Q E hr h => ?_)
  · obtain ⟨x, lk, S, sd, rfl, hch, qe, q⟩ := h
    rfl
  obtain ⟨x, lk, S, sd, rfl, hch, qe, q⟩ := h
  have hu : _ < cLine := hr.units0
  have hu1 := hu_of hr
  refine ⟨_, (pss_cons (ps_expr (pe_mX MX_Chamber_refuse_shut_gate hears_cx hr (pv 0) (pa_cons (pv 1) pa_nil)))
      (pss_cons (ps_if (pt_val (pe_fld (pv 0) rfl)) (pss_one (ps_raise throws_cx rfl rfl T.c_Full T.x_Full (pa_cons pe_str pa_nil))) pss_nil)
      (pss_one (ps_fld (pv 0) pe_bl rfl)))), ?_⟩
  have hch0 := hch
  obtain ⟨dx, hd, ls, n, h₁, l, hx, hhd, hls, hlk, hne, hlen⟩ := hch
  refine ⟨_, rfl, x, dx, _, rfl, hx, l_refuse_shut_gate _ _ _ _ _, _, rfl, x, lk, S, sd, rfl, hch0, fun h0 => qe .notNow (by show (if S.op = some sd then _ else _) = _; rw [if_neg h0]) H (Same.refl _), fun h0 => ?_⟩

  refine ⟨_, rfl, x, cC, dx, _, _, rfl, hx, T.clC, T.nC_inside, l_inside _ _ _ _ _, _, rfl, ?_⟩
  have e0 : stepC S (.bin sd) = if S.ins = true then .inl .full else .inr { S with ins := true } := by show (if S.op = some sd then _ else _) = _; rw [if_pos h0]
  by_cases hi : S.ins = true
  · rw [if_pos hi] at e0
    rw [hi]
    exact iteT ⟨by show 1 ≤ sizeLine; decide, qe .full e0 H (Same.refl _)⟩
  · rw [if_neg hi] at e0
    rw [Bool.eq_false_iff.mpr hi]
    refine iteF ?_
    refine ⟨_, rfl, x, cC, dx, _, rfl, hx, T.clC, T.nC_inside, (by show 5 < 1000; decide), ?_⟩
    have kp := (Keep.refl x H).upd (.ins cC dx (putF "inside" (.bl true) (chFs (.ref lk) (.ref hd) (.ref ls) (.str (opS S.op)) (.bl S.ins))))
    refine q { S with ins := true } e0 _ kp ⟨dx, hd, ls, n, h₁, l, by rw [upd_same, ch_ins], kp _ _ (ne_of hhd hx (fun z => nomatch z)) hhd, kp _ _ (ne_of hls hx (fun z => nomatch z)) hls, ?_, hne, hlen⟩
    obtain ⟨dl, hl⟩ := hlk
    exact ⟨dl, kp _ _ hne hl⟩
theorem sc_Chamber_boat_out : FnScope ["self", "side"] ["self", "side"] (defScope s_Chamber_boat_out) := ⟨rfl, rfl, rfl, by decide +kernel, rfl, by decide +kernel, by decide +kernel⟩
theorem ok_s_Chamber_boat_out {f : Addr} {fd : FuncData} (F : Fun K "boat_out" "Chamber.boat_out" s_Chamber_boat_out f fd) (T : Txt K mg w cP cB cU cC dV dW cA cN cS cF cO cK cZ) (MX_Chamber_refuse_shut_gate : MeX P w K mg base 1 cC "refuse_shut_gate" ["self", "side"] (spRefShut (kdC cP cB cU) cC (exOf cA cN cS cF cO cK))) : FnOk P w K mg base (CXE P w) 2 f fd ["self", "side"] (spWSide (kdC cP cB cU) cC (exOf cA cN cS cF cO cK) Wd.bout) := by
  refine F.okX sc_Chamber_boat_out (fun vs H Q E h => ?_) (fun cdv A outer s H vs Q E hr h => ?_)
  · obtain ⟨x, lk, S, sd, rfl, hch, qe, q⟩ := h
    rfl
  obtain ⟨x, lk, S, sd, rfl, hch, qe, q⟩ := h
  have hu : _ < cLine := hr.units0
  have hu1 := hu_of hr
  refine ⟨_, (pss_cons (ps_expr (pe_mX MX_Chamber_refuse_shut_gate hears_cx hr (pv 0) (pa_cons (pv 1) pa_nil)))
      (pss_cons (ps_if (pt_not (pt_val (pe_fld (pv 0) rfl))) (pss_one (ps_raise throws_cx rfl rfl T.c_NoBoat T.x_NoBoat (pa_cons pe_str pa_nil))) pss_nil)
      (pss_one (ps_fld (pv 0) pe_bl rfl)))), ?_⟩
  have hch0 := hch
  obtain ⟨dx, hd, ls, n, h₁, l, hx, hhd, hls, hlk, hne, hlen⟩ := hch
  refine ⟨_, rfl, x, dx, _, rfl, hx, l_refuse_shut_gate _ _ _ _ _, _, rfl, x, lk, S, sd, rfl, hch0, fun h0 => qe .notNow (by show (if S.op = some sd then _ else _) = _; rw [if_neg h0]) H (Same.refl _), fun h0 => ?_⟩

  refine ⟨_, rfl, x, cC, dx, _, _, rfl, hx, T.clC, T.nC_inside, l_inside _ _ _ _ _, _, rfl, ?_⟩
  have e0 : stepC S (.bout sd) = if S.ins = true then .inr { S with ins := false } else .inl .noBoat := by show (if S.op = some sd then _ else _) = _; rw [if_pos h0]
  by_cases hi : S.ins = true
  · rw [if_pos hi] at e0
    rw [hi]
    refine iteF ?_
    refine ⟨_, rfl, x, cC, dx, _, rfl, hx, T.clC, T.nC_inside, (by show 5 < 1000; decide), ?_⟩
    have kp := (Keep.refl x H).upd (.ins cC dx (putF "inside" (.bl false) (chFs (.ref lk) (.ref hd) (.ref ls) (.str (opS S.op)) (.bl S.ins))))
    refine q { S with ins := false } e0 _ kp ⟨dx, hd, ls, n, h₁, l, by rw [upd_same, ch_ins], kp _ _ (ne_of hhd hx (fun z => nomatch z)) hhd, kp _ _ (ne_of hls hx (fun z => nomatch z)) hls, ?_, hne, hlen⟩
    obtain ⟨dl, hl⟩ := hlk
    exact ⟨dl, kp _ _ hne hl⟩
  · rw [if_neg hi] at e0
    rw [Bool.eq_false_iff.mpr hi]
    exact iteT ⟨by show 1 ≤ sizeLine; decide, qe .noBoat e0 H (Same.refl _)⟩
theorem sc_Chamber_do : FnScope ["self", "word", "verb", "side"] ["self", "word"] (defScope s_Chamber_do) := ⟨rfl, rfl, rfl, by decide +kernel, rfl, by decide +kernel, by decide +kernel⟩
theorem ok_s_Chamber_do {f : Addr} {fd : FuncData} (F : Fun K "do" "Chamber.do" s_Chamber_do f fd) (T : Txt K mg w cP cB cU cC dV dW cA cN cS cF cO cK cZ) (MX_Chamber_open_gate : MeX P w K mg base 2 cC "open_gate" ["self", "side"] (spWSide (kdC cP cB cU) cC (exOf cA cN cS cF cO cK) Wd.opn)) (MX_Chamber_shut_gate : MeX P w K mg base 2 cC "shut_gate" ["self", "side"] (spWSide (kdC cP cB cU) cC (exOf cA cN cS cF cO cK) Wd.sht)) (MX_Chamber_fill_chamber : MeX P w K mg base 5 cC "fill_chamber" ["self"] (spNoSide (kdC cP cB cU) cC (exOf cA cN cS cF cO cK) Wd.fil)) (MX_Chamber_let_chamber : MeX P w K mg base 5 cC "let_chamber" ["self"] (spNoSide (kdC cP cB cU) cC (exOf cA cN cS cF cO cK) Wd.lt)) (MX_Chamber_boat_in : MeX P w K mg base 2 cC "boat_in" ["self", "side"] (spWSide (kdC cP cB cU) cC (exOf cA cN cS cF cO cK) Wd.bin)) (MX_Chamber_boat_out : MeX P w K mg base 2 cC "boat_out" ["self", "side"] (spWSide (kdC cP cB cU) cC (exOf cA cN cS cF cO cK) Wd.bout)) : FnOk P w K mg base (CXE P w) 6 f fd ["self", "word"] (spDo (kdC cP cB cU) cC (exOf cA cN cS cF cO cK) K dW) := by
  refine F.okX sc_Chamber_do (fun vs H Q E h => ?_) (fun cdv A outer s H vs Q E hr h => ?_)
  · obtain ⟨x, lk, S, W, rfl, hch, hw, qe, qq⟩ := h
    rfl
  obtain ⟨x, lk, S, W, rfl, hch, hw, qe, qq⟩ := h
  have hu : _ < cLine := hr.units0
  have hu1 := hu_of hr
  refine ⟨_, (pss_cons (ps_if (pt_cmp (pc_dtopnot (pv 1) (pe_glob (v := .ref dW) rfl T.g_WORDS rfl) (K := K) (w := w))) (pss_one (ps_raise throws_cx rfl rfl T.c_Unknown T.x_Unknown (pa_cons pe_str pa_nil))) pss_nil)
      (pss_cons (ps_set (i := 2) sc_Chamber_do.nd rfl (by first | exact Or.inl rfl | exact Or.inr rfl) (pe_ix ix_tup (pe_dtop (pe_glob (v := .ref dW) rfl T.g_WORDS rfl) (pv 1) (fun _ _ => rfl) (K := K) (w := w)) pe_int (fun _ _ => rfl)))
      (pss_cons (ps_set (i := 3) sc_Chamber_do.nd rfl (by first | exact Or.inl rfl | exact Or.inr rfl) (pe_ix ix_tup (pe_dtop (pe_glob (v := .ref dW) rfl T.g_WORDS rfl) (pv 1) (fun _ _ => rfl) (K := K) (w := w)) pe_int (fun _ _ => rfl)))
      (pss_one (ps_if (pt_cmpR op_eq (pv 2) pe_str (nomark _)) (pss_one (ps_expr (pe_mX MX_Chamber_open_gate hears_cx hr (pv 0) (pa_cons (pv 3) pa_nil)))) (pss_one (ps_if (pt_cmpR op_eq (pv 2) pe_str (nomark _)) (pss_one (ps_expr (pe_mX MX_Chamber_shut_gate hears_cx hr (pv 0) (pa_cons (pv 3) pa_nil)))) (pss_one (ps_if (pt_cmpR op_eq (pv 2) pe_str (nomark _)) (pss_one (ps_expr (pe_mX0 MX_Chamber_fill_chamber hears_cx hr (pv 0)))) (pss_one (ps_if (pt_cmpR op_eq (pv 2) pe_str (nomark _)) (pss_one (ps_expr (pe_mX0 MX_Chamber_let_chamber hears_cx hr (pv 0)))) (pss_one (ps_if (pt_cmpR op_eq (pv 2) pe_str (nomark _)) (pss_one (ps_expr (pe_mX MX_Chamber_boat_in hears_cx hr (pv 0) (pa_cons (pv 3) pa_nil)))) (pss_one (ps_expr (pe_mX MX_Chamber_boat_out hears_cx hr (pv 0) (pa_cons (pv 3) pa_nil))))))))))))))))), ?_⟩
  have hch0 := hch
  obtain ⟨dx, hd, ls, n, h₁, l, hx, hhd, hls, hlk, hne, hlen⟩ := hch
  cases W with
  | opn sd =>
    obtain ⟨tw, hns, htw⟩ := T.w_at (.opn sd) (fun z h => nomatch h)
    refine ⟨_, rfl, dW, _, _, rfl, T.topW, rfl, hns, _, rfl, iteF ?_⟩
    refine ⟨_, rfl, dW, _, _, .ref tw, rfl, T.topW, rfl, hns, rfl, tw, _, _, _, rfl, rfl, htw _, rfl, ?_⟩
    refine ⟨_, rfl, dW, _, _, .ref tw, rfl, T.topW, rfl, hns, rfl, tw, _, _, _, rfl, rfl, htw _, rfl, ?_⟩
    exact ⟨_, rfl, rfl, _, rfl, iteDT rfl ⟨_, rfl, x, dx, _, rfl, hx, l_open_gate _ _ _ _ _, _, rfl, x, lk, S, sd, rfl, hch0, qe, fun S' e H' kp hc => qq S' e H' kp hc⟩⟩
  | sht sd =>
    obtain ⟨tw, hns, htw⟩ := T.w_at (.sht sd) (fun z h => nomatch h)
    refine ⟨_, rfl, dW, _, _, rfl, T.topW, rfl, hns, _, rfl, iteF ?_⟩
    refine ⟨_, rfl, dW, _, _, .ref tw, rfl, T.topW, rfl, hns, rfl, tw, _, _, _, rfl, rfl, htw _, rfl, ?_⟩
    refine ⟨_, rfl, dW, _, _, .ref tw, rfl, T.topW, rfl, hns, rfl, tw, _, _, _, rfl, rfl, htw _, rfl, ?_⟩
    exact ⟨_, rfl, rfl, _, rfl, iteDF (fun e => absurd (show ("shut" : Str) = "open" from V.str.inj e) (by decide +kernel)) ⟨_, rfl, rfl, _, rfl, iteDT rfl ⟨_, rfl, x, dx, _, rfl, hx, l_shut_gate _ _ _ _ _, _, rfl, x, lk, S, sd, rfl, hch0, qe, fun S' e H' kp hc => qq S' e H' kp hc⟩⟩⟩
  | fil =>
    obtain ⟨tw, hns, htw⟩ := T.w_at (.fil) (fun z h => nomatch h)
    refine ⟨_, rfl, dW, _, _, rfl, T.topW, rfl, hns, _, rfl, iteF ?_⟩
    refine ⟨_, rfl, dW, _, _, .ref tw, rfl, T.topW, rfl, hns, rfl, tw, _, _, _, rfl, rfl, htw _, rfl, ?_⟩
    refine ⟨_, rfl, dW, _, _, .ref tw, rfl, T.topW, rfl, hns, rfl, tw, _, _, _, rfl, rfl, htw _, rfl, ?_⟩
    exact ⟨_, rfl, rfl, _, rfl, iteDF (fun e => absurd (show ("fill" : Str) = "open" from V.str.inj e) (by decide +kernel)) ⟨_, rfl, rfl, _, rfl, iteDF (fun e => absurd (show ("fill" : Str) = "shut" from V.str.inj e) (by decide +kernel)) ⟨_, rfl, rfl, _, rfl, iteDT rfl ⟨_, rfl, x, dx, _, rfl, hx, l_fill_chamber _ _ _ _ _, x, lk, S, rfl, hch0, qe, fun S' e H' kp hc => qq S' e H' kp hc⟩⟩⟩⟩
  | lt =>
    obtain ⟨tw, hns, htw⟩ := T.w_at (.lt) (fun z h => nomatch h)
    refine ⟨_, rfl, dW, _, _, rfl, T.topW, rfl, hns, _, rfl, iteF ?_⟩
    refine ⟨_, rfl, dW, _, _, .ref tw, rfl, T.topW, rfl, hns, rfl, tw, _, _, _, rfl, rfl, htw _, rfl, ?_⟩
    refine ⟨_, rfl, dW, _, _, .ref tw, rfl, T.topW, rfl, hns, rfl, tw, _, _, _, rfl, rfl, htw _, rfl, ?_⟩
    exact ⟨_, rfl, rfl, _, rfl, iteDF (fun e => absurd (show ("let" : Str) = "open" from V.str.inj e) (by decide +kernel)) ⟨_, rfl, rfl, _, rfl, iteDF (fun e => absurd (show ("let" : Str) = "shut" from V.str.inj e) (by decide +kernel)) ⟨_, rfl, rfl, _, rfl, iteDF (fun e => absurd (show ("let" : Str) = "fill" from V.str.inj e) (by decide +kernel)) ⟨_, rfl, rfl, _, rfl, iteDT rfl ⟨_, rfl, x, dx, _, rfl, hx, l_let_chamber _ _ _ _ _, x, lk, S, rfl, hch0, qe, fun S' e H' kp hc => qq S' e H' kp hc⟩⟩⟩⟩⟩
  | bin sd =>
    obtain ⟨tw, hns, htw⟩ := T.w_at (.bin sd) (fun z h => nomatch h)
    refine ⟨_, rfl, dW, _, _, rfl, T.topW, rfl, hns, _, rfl, iteF ?_⟩
    refine ⟨_, rfl, dW, _, _, .ref tw, rfl, T.topW, rfl, hns, rfl, tw, _, _, _, rfl, rfl, htw _, rfl, ?_⟩
    refine ⟨_, rfl, dW, _, _, .ref tw, rfl, T.topW, rfl, hns, rfl, tw, _, _, _, rfl, rfl, htw _, rfl, ?_⟩
    exact ⟨_, rfl, rfl, _, rfl, iteDF (fun e => absurd (show ("in" : Str) = "open" from V.str.inj e) (by decide +kernel)) ⟨_, rfl, rfl, _, rfl, iteDF (fun e => absurd (show ("in" : Str) = "shut" from V.str.inj e) (by decide +kernel)) ⟨_, rfl, rfl, _, rfl, iteDF (fun e => absurd (show ("in" : Str) = "fill" from V.str.inj e) (by decide +kernel)) ⟨_, rfl, rfl, _, rfl, iteDF (fun e => absurd (show ("in" : Str) = "let" from V.str.inj e) (by decide +kernel)) ⟨_, rfl, rfl, _, rfl, iteDT rfl ⟨_, rfl, x, dx, _, rfl, hx, l_boat_in _ _ _ _ _, _, rfl, x, lk, S, sd, rfl, hch0, qe, fun S' e H' kp hc => qq S' e H' kp hc⟩⟩⟩⟩⟩⟩
  | bout sd =>
    obtain ⟨tw, hns, htw⟩ := T.w_at (.bout sd) (fun z h => nomatch h)
    refine ⟨_, rfl, dW, _, _, rfl, T.topW, rfl, hns, _, rfl, iteF ?_⟩
    refine ⟨_, rfl, dW, _, _, .ref tw, rfl, T.topW, rfl, hns, rfl, tw, _, _, _, rfl, rfl, htw _, rfl, ?_⟩
    refine ⟨_, rfl, dW, _, _, .ref tw, rfl, T.topW, rfl, hns, rfl, tw, _, _, _, rfl, rfl, htw _, rfl, ?_⟩
    exact ⟨_, rfl, rfl, _, rfl, iteDF (fun e => absurd (show ("out" : Str) = "open" from V.str.inj e) (by decide +kernel)) ⟨_, rfl, rfl, _, rfl, iteDF (fun e => absurd (show ("out" : Str) = "shut" from V.str.inj e) (by decide +kernel)) ⟨_, rfl, rfl, _, rfl, iteDF (fun e => absurd (show ("out" : Str) = "fill" from V.str.inj e) (by decide +kernel)) ⟨_, rfl, rfl, _, rfl, iteDF (fun e => absurd (show ("out" : Str) = "let" from V.str.inj e) (by decide +kernel)) ⟨_, rfl, rfl, _, rfl, iteDF (fun e => absurd (show ("out" : Str) = "in" from V.str.inj e) (by decide +kernel)) ⟨_, rfl, x, dx, _, rfl, hx, l_boat_out _ _ _ _ _, _, rfl, x, lk, S, sd, rfl, hch0, qe, fun S' e H' kp hc => qq S' e H' kp hc⟩⟩⟩⟩⟩⟩
  | odd z => exact ⟨_, rfl, dW, _, _, rfl, T.topW, rfl, hw, _, rfl, iteT ⟨by show 1 ≤ sizeLine; decide, qe .unknown rfl H (Same.refl _)⟩⟩
theorem sc__law_whole : FnScope ["found"] ["found"] (defScope s__law_whole) := ⟨rfl, rfl, rfl, by decide +kernel, rfl, by decide +kernel, by decide +kernel⟩
theorem ok_s__law_whole {f : Addr} {fd : FuncData} (F : Fun K "_law_whole" "_law_whole" s__law_whole f fd) (T : Txt K mg w cP cB cU cC dV dW cA cN cS cF cO cK cZ)  : FnOk P w K mg base CX0 1 f fd ["found"] (spWhole) := by
  refine F.ok sc__law_whole (fun vs H Q E h => ?_) (fun cdv A outer s H vs Q E hr h => ?_)
  · obtain ⟨i, rfl, q⟩ := h
    rfl
  obtain ⟨i, rfl, q⟩ := h
  have hu : _ < cLine := hr.units0
  have hu1 := hu_of hr
  refine ⟨_, (pss_one (ps_ret (pe_and (pe_callB call_isi (by rfl) T.z_isinstance PyProof.Rows.boot_isinstance (pa_cons (pv 0) (pa_cons (pe_bltn (v := .ty "int") rfl T.z_int PyProof.Rows.boot_int rfl) pa_nil))) (pe_one (pe_not (pe_callB call_isi (by rfl) T.z_isinstance PyProof.Rows.boot_isinstance (pa_cons (pv 0) (pa_cons (pe_bltn (v := .ty "bool") rfl T.z_bool PyProof.Rows.boot_bool rfl) pa_nil)))))))), ?_⟩
  refine ⟨_, rfl, _, _, _, _, _, rfl, rfl, TyOf.int i, kit_same "int", true, rfl, iteT ?_⟩
  exact ⟨_, rfl, _, _, _, _, _, rfl, rfl, TyOf.int i, kit_int_bool, false, rfl, q⟩
theorem sc__law_cell_at : FnScope ["script", "k"] ["script", "k"] (defScope s__law_cell_at) := ⟨rfl, rfl, rfl, by decide +kernel, rfl, by decide +kernel, by decide +kernel⟩
theorem ok_s__law_cell_at {f : Addr} {fd : FuncData} (F : Fun K "_law_cell_at" "_law_cell_at" s__law_cell_at f fd) (T : Txt K mg w cP cB cU cC dV dW cA cN cS cF cO cK cZ)  : FnOk P w K mg base CX0 1 f fd ["script", "k"] (spCell K) := by
  refine F.ok sc__law_cell_at (fun vs H Q E h => ?_) (fun cdv A outer s H vs Q E hr h => ?_)
  · obtain ⟨a, ns, k, rfl, hS, q⟩ := h
    rfl
  obtain ⟨a, ns, k, rfl, hS, q⟩ := h
  have hu : _ < cLine := hr.units0
  have hu1 := hu_of hr
  refine ⟨_, (pss_cons (ps_if (pt_cmpR op_lt (pv 1) (pe_callB call_len_seq (by rfl) T.z_len PySem.boot_len (pa_cons (pv 0) pa_nil)) (nomark _)) (pss_one (ps_ret (pe_ix ix_list (pv 0) (pv 1) (fun _ _ => rfl)))) pss_nil)
      (pss_one (ps_ret pe_int))), ?_⟩
  refine ⟨_, rfl, _, rfl, a, _, rfl, .inl hS, _, _, rfl, rfl, _, rfl, ?_⟩
  refine ite2 (fun c => ?_) (fun c => ?_)
  · have c' : (k : Int) < (((ns.map V.int).length : Nat) : Int) := of_decide_eq_true c
    rw [List.length_map] at c'
    exact ⟨_, rfl, _, rfl, a, _, _, _, rfl, rfl, hS, atI_ints (by omega), q⟩
  · have c' : ¬ (k : Int) < (((ns.map V.int).length : Nat) : Int) := of_decide_eq_false (Bool.eq_false_iff.mpr c)
    rw [List.length_map] at c'
    have e : ns.getD k 0 = 0 := by rw [List.getD_eq_getElem?_getD, List.getElem?_eq_none (by omega)]; rfl
    rw [e] at q
    exact q
theorem sc__law_number : FnScope ["cell", "way"] ["cell"] (defScope s__law_number) := ⟨rfl, rfl, rfl, by decide +kernel, rfl, by decide +kernel, by decide +kernel⟩
theorem ok_s__law_number {f : Addr} {fd : FuncData} (F : Fun K "_law_number" "_law_number" s__law_number f fd) (T : Txt K mg w cP cB cU cC dV dW cA cN cS cF cO cK cZ)  : FnOk P w K mg base CX0 1 f fd ["cell"] (spNumber) := by
  refine F.ok sc__law_number (fun vs H Q E h => ?_) (fun cdv A outer s H vs Q E hr h => ?_)
  · obtain ⟨c, rfl, q⟩ := h
    rfl
  obtain ⟨c, rfl, q⟩ := h
  have hu : _ < cLine := hr.units0
  have hu1 := hu_of hr
  refine ⟨_, (pss_cons (ps_set (i := 1) sc__law_number.nd rfl (by first | exact Or.inl rfl | exact Or.inr rfl) (pe_op op_mod (pv 0) pe_int))
      (pss_cons (ps_if (pt_cmpR op_eq (pv 1) pe_int (nomark _)) (pss_one (ps_ret (pe_op op_mod (pe_op op_fdiv (pv 0) pe_int) pe_int))) pss_nil)
      (pss_cons (ps_if (pt_cmpR op_eq (pv 1) pe_int (nomark _)) (pss_one (ps_ret (pe_op op_sub pe_int (pe_op op_mod (pe_op op_fdiv (pv 0) pe_int) pe_int)))) pss_nil)
      (pss_one (ps_ret (pe_op op_mod (pe_op op_fdiv (pv 0) pe_int) pe_int)))))), ?_⟩
  refine ⟨_, rfl, _, _, rfl, rfl, (by show (0 : Int) < 5; decide), ?_⟩
  refine ⟨_, rfl, rfl, _, rfl, ?_⟩
  refine ite2 (fun c1 => ?_) (fun c1 => ?_)
  · have e : numberK c = c / 5 % 4 := by unfold numberK; rw [if_pos (dec_eq_int c1)]
    rw [e] at q
    exact ⟨_, rfl, _, _, rfl, rfl, ⟨by decide, by decide⟩, _, _, rfl, rfl, (by show (0 : Int) < 4; decide), q⟩
  refine ⟨_, rfl, rfl, _, rfl, ?_⟩
  refine ite2 (fun c2 => ?_) (fun c2 => ?_)
  · have e : numberK c = 999999999999 - c / 5 % 3 := by unfold numberK; rw [if_neg (dec_ne_int c1), if_pos (dec_eq_int c2)]
    rw [e] at q
    exact ⟨_, rfl, _, _, rfl, rfl, ⟨by decide, by decide⟩, _, _, rfl, rfl, (by show (0 : Int) < 3; decide), _, _, rfl, rfl, q⟩
  have e : numberK c = c / 5 % 1000000000000 := by unfold numberK; rw [if_neg (dec_ne_int c1), if_neg (dec_ne_int c2)]
  rw [e] at q
  exact ⟨_, rfl, _, _, rfl, rfl, ⟨by decide, by decide⟩, _, _, rfl, rfl, (by show (0 : Int) < 1000000000000; decide), q⟩
theorem sc__law_side : FnScope ["cell", "room"] ["cell", "room"] (defScope s__law_side) := ⟨rfl, rfl, rfl, by decide +kernel, rfl, by decide +kernel, by decide +kernel⟩
theorem ok_s__law_side {f : Addr} {fd : FuncData} (F : Fun K "_law_side" "_law_side" s__law_side f fd) (T : Txt K mg w cP cB cU cC dV dW cA cN cS cF cO cK cZ)  : FnOk P w K mg base CX0 1 f fd ["cell", "room"] (spSide) := by
  refine F.ok sc__law_side (fun vs H Q E h => ?_) (fun cdv A outer s H vs Q E hr h => ?_)
  · obtain ⟨c, room, rfl, hr1, q⟩ := h
    rfl
  obtain ⟨c, room, rfl, hr1, q⟩ := h
  have hu : _ < cLine := hr.units0
  have hu1 := hu_of hr
  refine ⟨_, (pss_cons (ps_if (pt_cmpR op_eq (pe_op op_mod (pv 0) pe_int) pe_int (nomark _)) (pss_one (ps_ret (pv 1))) pss_nil)
      (pss_cons (ps_if (pt_cmpR op_eq (pe_op op_mod (pv 0) pe_int) pe_int (nomark _)) (pss_one (ps_ret pe_int)) pss_nil)
      (pss_one (ps_ret (pe_op op_add pe_int (pe_op op_mod (pe_op op_fdiv (pv 0) pe_int) (pv 1))))))), ?_⟩
  refine ⟨_, rfl, _, _, rfl, rfl, (by show (0 : Int) < 4; decide), rfl, _, rfl, ?_⟩
  refine ite2 (fun c1 => ?_) (fun c1 => ?_)
  · have e : sideK c room = room := by unfold sideK; rw [if_pos (dec_eq_int c1)]
    rw [e] at q
    exact ⟨_, rfl, q⟩
  refine ⟨_, rfl, _, _, rfl, rfl, (by show (0 : Int) < 4; decide), rfl, _, rfl, ?_⟩
  refine ite2 (fun c2 => ?_) (fun c2 => ?_)
  · have e : sideK c room = 1 := by unfold sideK; rw [if_neg (dec_ne_int c1), if_pos (dec_eq_int c2)]
    rw [e] at q
    exact q
  have e : sideK c room = 1 + c / 4 % room := by unfold sideK; rw [if_neg (dec_ne_int c1), if_neg (dec_ne_int c2)]
  rw [e] at q
  exact ⟨_, rfl, _, _, rfl, rfl, ⟨by decide, by decide⟩, _, rfl, _, _, rfl, rfl, (by show (0 : Int) < room; omega), _, _, rfl, rfl, q⟩
theorem sc__law_held : FnScope ["cell", "side"] ["cell", "side"] (defScope s__law_held) := ⟨rfl, rfl, rfl, by decide +kernel, rfl, by decide +kernel, by decide +kernel⟩
theorem ok_s__law_held {f : Addr} {fd : FuncData} (F : Fun K "_law_held" "_law_held" s__law_held f fd) (T : Txt K mg w cP cB cU cC dV dW cA cN cS cF cO cK cZ)  : FnOk P w K mg base CX0 1 f fd ["cell", "side"] (spHeld3) := by
  refine F.ok sc__law_held (fun vs H Q E h => ?_) (fun cdv A outer s H vs Q E hr h => ?_)
  · obtain ⟨c, side, rfl, hs, q⟩ := h
    rfl
  obtain ⟨c, side, rfl, hs, q⟩ := h
  have hu : _ < cLine := hr.units0
  have hu1 := hu_of hr
  refine ⟨_, (pss_cons (ps_if (pt_cmpR op_eq (pe_op op_mod (pv 0) pe_int) pe_int (nomark _)) (pss_one (ps_ret pe_int)) pss_nil)
      (pss_cons (ps_if (pt_cmpR op_eq (pe_op op_mod (pv 0) pe_int) pe_int (nomark _)) (pss_one (ps_ret (pv 1))) pss_nil)
      (pss_one (ps_ret (pe_op op_mod (pe_op op_fdiv (pv 0) pe_int) (pe_op op_add (pv 1) pe_int)))))), ?_⟩
  refine ⟨_, rfl, _, _, rfl, rfl, (by show (0 : Int) < 3; decide), rfl, _, rfl, ?_⟩
  refine ite2 (fun c1 => ?_) (fun c1 => ?_)
  · exact q 0 (Int.le_refl _) hs
  refine ⟨_, rfl, _, _, rfl, rfl, (by show (0 : Int) < 3; decide), rfl, _, rfl, ?_⟩
  refine ite2 (fun c2 => ?_) (fun c2 => ?_)
  · exact ⟨_, rfl, q side hs (Int.le_refl _)⟩
  have p0 : (0 : Int) < side + 1 := by omega
  have h1 := Int.emod_nonneg (c / 3) (by omega : side + 1 ≠ 0)
  have h2 := Int.emod_lt_of_pos (c / 3) p0
  exact ⟨_, rfl, _, _, rfl, rfl, ⟨by decide, by decide⟩, _, rfl, _, _, rfl, rfl, _, _, rfl, rfl, p0, q _ h1 (by omega)⟩
theorem sc__law_lock : FnScope ["kind", "room", "extra"] ["kind", "room", "extra"] (defScope s__law_lock) := ⟨rfl, rfl, rfl, by decide +kernel, rfl, by decide +kernel, by decide +kernel⟩
theorem ok_s__law_lock {f : Addr} {fd : FuncData} (F : Fun K "_law_lock" "_law_lock" s__law_lock f fd) (T : Txt K mg w cP cB cU cC dV dW cA cN cS cF cO cK cZ) (M_BasinLock : MkD P w K mg base 2 "BasinLock" cB ["self", "name", "high", "low", "room", "side"] (spInit4 (kdC cP cB cU) .basin)) (M_PumpLock : MkD P w K mg base 2 "PumpLock" cU ["self", "name", "high", "low", "room", "lift"] (spInit4 (kdC cP cB cU) .pump)) (M_PlainLock : MkD P w K mg base 1 "PlainLock" cP ["self", "name", "high", "low", "room"] (spInit3 (kdC cP cB cU))) : FnOk P w K mg base CX0 4 f fd ["kind", "room", "extra"] (spLockMade (kdC cP cB cU)) := by
  refine F.ok sc__law_lock (fun vs H Q E h => ?_) (fun cdv A outer s H vs Q E hr h => ?_)
  · obtain ⟨kd, room, v, rfl, q⟩ := h
    rfl
  obtain ⟨kd, room, v, rfl, q⟩ := h
  have hu : _ < cLine := hr.units0
  have hu1 := hu_of hr
  refine ⟨_, (pss_cons (ps_if (pt_cmpR op_eq (pv 0) pe_int (nomark _)) (pss_one (ps_ret (pe_mk M_BasinLock hr rfl (pa_cons pe_str (pa_cons pe_int (pa_cons pe_int (pa_cons (pv 1) (pa_cons (pv 2) pa_nil)))))))) pss_nil)
      (pss_cons (ps_if (pt_cmpR op_eq (pv 0) pe_int (nomark _)) (pss_one (ps_ret (pe_mk M_PumpLock hr rfl (pa_cons pe_str (pa_cons pe_int (pa_cons pe_int (pa_cons (pv 1) (pa_cons (pv 2) pa_nil)))))))) pss_nil)
      (pss_one (ps_ret (pe_mk M_PlainLock hr rfl (pa_cons pe_str (pa_cons pe_int (pa_cons pe_int (pa_cons (pv 1) pa_nil))))))))), ?_⟩
  cases kd with
  | plain =>
    refine ⟨_, rfl, rfl, _, rfl, iteDF (fun e => absurd (V.int.inj e) (by decide)) ⟨_, rfl, rfl, _, rfl, iteDF (fun e => absurd (V.int.inj e) (by decide)) ⟨_, rfl, ?_⟩⟩⟩
    intro x dx nx ndx nex
    refine ⟨.plain, x, dx, _, _, _, _, rfl, upd_same, fun H' kp hx => ⟨rfl, ?_⟩⟩
    refine q x H' (fun b o e => ?_) nx ⟨dx, hx⟩
    refine kp b o (ne_of_none e nx) ?_
    rw [upd_ne (ne_of_none e nx), upd_ne (ne_of_none e ndx)]
    exact e
  | basin =>
    refine ⟨_, rfl, rfl, _, rfl, iteDT rfl ⟨_, rfl, _, rfl, ?_⟩⟩
    intro x dx nx ndx nex
    refine ⟨x, dx, _, _, _, _, _, rfl, upd_same, fun H' kp hx => ⟨rfl, ?_⟩⟩
    refine q x H' (fun b o e => ?_) nx ⟨dx, hx⟩
    refine kp b o (ne_of_none e nx) ?_
    rw [upd_ne (ne_of_none e nx), upd_ne (ne_of_none e ndx)]
    exact e
  | pump =>
    refine ⟨_, rfl, rfl, _, rfl, iteDF (fun e => absurd (V.int.inj e) (by decide)) ⟨_, rfl, rfl, _, rfl, iteDT rfl ⟨_, rfl, _, rfl, ?_⟩⟩⟩
    intro x dx nx ndx nex
    refine ⟨x, dx, _, _, _, _, _, rfl, upd_same, fun H' kp hx => ⟨rfl, ?_⟩⟩
    refine q x H' (fun b o e => ?_) nx ⟨dx, hx⟩
    refine kp b o (ne_of_none e nx) ?_
    rw [upd_ne (ne_of_none e nx), upd_ne (ne_of_none e ndx)]
    exact e
theorem sc__law_fill_gains : FnScope ["kind", "room", "extra", "held"] ["kind", "room", "extra", "held"] (defScope s__law_fill_gains) := ⟨rfl, rfl, rfl, by decide +kernel, rfl, by decide +kernel, by decide +kernel⟩
theorem ok_s__law_fill_gains {f : Addr} {fd : FuncData} (F : Fun K "_law_fill_gains" "_law_fill_gains" s__law_fill_gains f fd) (T : Txt K mg w cP cB cU cC dV dW cA cN cS cF cO cK cZ)  : FnOk P w K mg base CX0 1 f fd ["kind", "room", "extra", "held"] (spGain gF) := by
  refine F.ok sc__law_fill_gains (fun vs H Q E h => ?_) (fun cdv A outer s H vs Q E hr h => ?_)
  · obtain ⟨kd, room, v, b, rfl, q⟩ := h
    rfl
  obtain ⟨kd, room, v, b, rfl, q⟩ := h
  have hu : _ < cLine := hr.units0
  have hu1 := hu_of hr
  refine ⟨_, (pss_cons (ps_if (pt_cmpR op_eq (pv 0) pe_int (nomark _)) (pss_one (ps_ret (pe_lst (pa_cons (pe_op op_sub (pv 3) (pv 1)) (pa_cons pe_int (pa_cons (pv 1) (pa_cons (pe_un un_neg (pv 3)) pa_nil))))))) pss_nil)
      (pss_cons (ps_if (pt_cmpR op_eq (pv 0) pe_int (nomark _)) (pss_one (ps_ret (pe_lst (pa_cons (pe_op op_sub (pv 2) (pv 1)) (pa_cons (pe_un un_neg (pv 2)) (pa_cons (pv 1) (pa_cons pe_int pa_nil))))))) pss_nil)
      (pss_one (ps_ret (pe_lst (pa_cons (pe_un un_neg (pv 1)) (pa_cons pe_int (pa_cons (pv 1) (pa_cons pe_int pa_nil))))))))), ?_⟩
  cases kd with
  | plain => exact ⟨_, rfl, rfl, _, rfl, iteDF (fun e => absurd (V.int.inj e) (by decide)) ⟨_, rfl, rfl, _, rfl, iteDF (fun e => absurd (V.int.inj e) (by decide)) ⟨_, rfl, _, rfl, _, rfl, (by show 4 ≤ sizeLine; decide), fun r hr => q r _ (same_new hr _) hr upd_same⟩⟩⟩
  | basin => exact ⟨_, rfl, rfl, _, rfl, iteDT rfl ⟨_, rfl, _, rfl, _, _, rfl, rfl, _, rfl, _, rfl, _, rfl, (by show 4 ≤ sizeLine; decide), fun r hr => q r _ (same_new hr _) hr upd_same⟩⟩
  | pump => exact ⟨_, rfl, rfl, _, rfl, iteDF (fun e => absurd (V.int.inj e) (by decide)) ⟨_, rfl, rfl, _, rfl, iteDT rfl ⟨_, rfl, _, rfl, _, _, rfl, rfl, _, rfl, _, rfl, _, rfl, (by show 4 ≤ sizeLine; decide), fun r hr => q r _ (same_new hr _) hr upd_same⟩⟩⟩
theorem sc__law_let_gains : FnScope ["kind", "room", "extra", "held"] ["kind", "room", "extra", "held"] (defScope s__law_let_gains) := ⟨rfl, rfl, rfl, by decide +kernel, rfl, by decide +kernel, by decide +kernel⟩
theorem ok_s__law_let_gains {f : Addr} {fd : FuncData} (F : Fun K "_law_let_gains" "_law_let_gains" s__law_let_gains f fd) (T : Txt K mg w cP cB cU cC dV dW cA cN cS cF cO cK cZ)  : FnOk P w K mg base CX0 1 f fd ["kind", "room", "extra", "held"] (spGain gL) := by
  refine F.ok sc__law_let_gains (fun vs H Q E h => ?_) (fun cdv A outer s H vs Q E hr h => ?_)
  · obtain ⟨kd, room, v, b, rfl, q⟩ := h
    rfl
  obtain ⟨kd, room, v, b, rfl, q⟩ := h
  have hu : _ < cLine := hr.units0
  have hu1 := hu_of hr
  refine ⟨_, (pss_cons (ps_if (pt_cmpR op_eq (pv 0) pe_int (nomark _)) (pss_one (ps_ret (pe_lst (pa_cons pe_int (pa_cons (pe_op op_add (pe_op op_sub (pv 1) (pv 2)) (pv 3)) (pa_cons (pe_un un_neg (pv 1)) (pa_cons (pe_op op_sub (pv 2) (pv 3)) pa_nil))))))) pss_nil)
      (pss_one (ps_ret (pe_lst (pa_cons pe_int (pa_cons (pv 1) (pa_cons (pe_un un_neg (pv 1)) (pa_cons pe_int pa_nil)))))))), ?_⟩
  cases kd with
  | plain => exact ⟨_, rfl, rfl, _, rfl, iteDF (fun e => absurd (V.int.inj e) (by decide)) ⟨_, rfl, _, rfl, _, rfl, (by show 4 ≤ sizeLine; decide), fun r hr => q r _ (same_new hr _) hr upd_same⟩⟩
  | basin => exact ⟨_, rfl, rfl, _, rfl, iteDT rfl ⟨_, rfl, _, rfl, _, _, rfl, rfl, _, rfl, _, _, rfl, rfl, _, rfl, _, rfl, _, rfl, _, rfl, _, _, rfl, rfl, (by show 4 ≤ sizeLine; decide), fun r hr => q r _ (same_new hr _) hr upd_same⟩⟩
  | pump => exact ⟨_, rfl, rfl, _, rfl, iteDF (fun e => absurd (V.int.inj e) (by decide)) ⟨_, rfl, _, rfl, _, rfl, (by show 4 ≤ sizeLine; decide), fun r hr => q r _ (same_new hr _) hr upd_same⟩⟩
theorem sc__law_water : FnScope ["cell", "least", "room", "way"] ["cell", "least", "room"] (defScope s__law_water) := ⟨rfl, rfl, rfl, by decide +kernel, rfl, by decide +kernel, by decide +kernel⟩
theorem ok_s__law_water {f : Addr} {fd : FuncData} (F : Fun K "_law_water" "_law_water" s__law_water f fd) (T : Txt K mg w cP cB cU cC dV dW cA cN cS cF cO cK cZ)  : FnOk P w K mg base CX0 1 f fd ["cell", "least", "room"] (spWater18) := by
  refine F.ok sc__law_water (fun vs H Q E h => ?_) (fun cdv A outer s H vs Q E hr h => ?_)
  · obtain ⟨c, le, room, rfl, q⟩ := h
    rfl
  obtain ⟨c, le, room, rfl, q⟩ := h
  have hu : _ < cLine := hr.units0
  have hu1 := hu_of hr
  refine ⟨_, (pss_cons (ps_set (i := 3) sc__law_water.nd rfl (by first | exact Or.inl rfl | exact Or.inr rfl) (pe_op op_mod (pv 0) pe_int))
      (pss_cons (ps_if (pt_cmpR op_eq (pv 3) pe_int (nomark _)) (pss_one (ps_ret (pe_op op_add (pe_op op_sub (pe_op op_add (pv 1) (pv 2)) pe_int) (pe_op op_mod (pe_op op_fdiv (pv 0) pe_int) pe_int)))) pss_nil)
      (pss_cons (ps_if (pt_cmpR op_eq (pv 3) pe_int (nomark _)) (pss_one (ps_ret (pe_op op_add (pv 1) (pe_op op_mul (pv 2) (pe_op op_mod (pe_op op_fdiv (pv 0) pe_int) pe_int))))) pss_nil)
      (pss_cons (ps_if (pt_cmpR op_eq (pv 3) pe_int (nomark _)) (pss_one (ps_ret (pe_op op_mod (pe_op op_fdiv (pv 0) pe_int) (pe_op op_pow pe_int pe_int)))) pss_nil)
      (pss_one (ps_ret (pe_callB (call_max2 rfl) (by rfl) T.z_max PyProof.Rows.boot_max (pa_cons pe_int (pa_cons (pe_op op_sub (pv 1) (pe_op op_mod (pe_op op_fdiv (pv 0) pe_int) pe_int)) pa_nil))))))))), ?_⟩
  have m0 := Int.emod_nonneg (c / 4) (by decide : (40 : Int) ≠ 0)
  have m1 := Int.emod_lt_of_pos (c / 4) (by decide : (0 : Int) < 40)
  refine ⟨_, rfl, _, _, rfl, rfl, (by show (0 : Int) < 4; decide), ?_⟩
  refine ⟨_, rfl, rfl, _, rfl, ite2 (fun _ => ?_) (fun _ => ?_)⟩
  · exact ⟨_, rfl, _, rfl, _, _, rfl, rfl, _, _, rfl, rfl, _, rfl, _, _, rfl, rfl, ⟨by decide, by decide⟩, _, _, rfl, rfl, (by show (0 : Int) < 3; decide), _, _, rfl, rfl, q _⟩
  refine ⟨_, rfl, rfl, _, rfl, ite2 (fun _ => ?_) (fun _ => ?_)⟩
  · exact ⟨_, rfl, _, rfl, _, rfl, _, _, rfl, rfl, ⟨by decide, by decide⟩, _, _, rfl, rfl, (by show (0 : Int) < 40; decide), _, _, rfl, rfl, .inr ⟨by omega, by omega⟩, _, _, rfl, rfl, q _⟩
  refine ⟨_, rfl, rfl, _, rfl, ite2 (fun _ => ?_) (fun _ => ?_)⟩
  · exact ⟨_, rfl, _, _, rfl, rfl, ⟨by decide, by decide⟩, _, _, rfl, rfl, ⟨by decide, by decide, by decide⟩, _, _, rfl, rfl, (show (0 : Int) < 10 ^ Int.toNat 15 from by decide +kernel), q _⟩
  exact ⟨_, rfl, _, rfl, _, _, rfl, rfl, ⟨by decide, by decide⟩, _, _, rfl, rfl, (by show (0 : Int) < 3; decide), _, _, rfl, rfl, _, _, rfl, q _⟩
theorem sc__law_four : FnScope ["told", "number"] ["told"] (defScope s__law_four) := ⟨rfl, rfl, rfl, by decide +kernel, rfl, by decide +kernel, by decide +kernel⟩
theorem ok_s__law_four {f : Addr} {fd : FuncData} (F : Fun K "_law_four" "_law_four" s__law_four f fd) (T : Txt K mg w cP cB cU cC dV dW cA cN cS cF cO cK cZ) (D__law_whole : Def P w K mg base 1 "_law_whole" ["found"] [] (spWhole)) : FnOk P w K mg base CX0 2 f fd ["told"] (spFour) := by
  refine F.ok sc__law_four (fun vs H Q E h => ?_) (fun cdv A outer s H vs Q E hr h => ?_)
  · obtain ⟨t, ms, rfl, ht, h4, q⟩ := h
    rfl
  obtain ⟨t, ms, rfl, ht, h4, q⟩ := h
  have hu : _ < cLine := hr.units0
  have hu1 := hu_of hr
  refine ⟨_, (pss_cons (ps_if (PW.pt (pw_or (pt_not (pt_val (pe_callB call_isi (by rfl) T.z_isinstance PyProof.Rows.boot_isinstance (pa_cons (pv 0) (pa_cons (pe_bltn (v := .ty "tuple") rfl T.z_tuple PyProof.Rows.boot_tuple rfl) pa_nil))))) (pw_or1 (pt_cmpR op_ne (pe_callB call_len_seq (by rfl) T.z_len PySem.boot_len (pa_cons (pv 0) pa_nil)) pe_int (nomark _))))) (pss_one (ps_ret pe_bl)) pss_nil)
      (pss_cons (ps_for PassesOwn.never rfl (pi_tup (pv 0)) (pg_name (i := 1) sc__law_four.nd rfl (by first | exact Or.inl rfl | exact Or.inr rfl))
        (pss_one (ps_if (pt_not (pt_val (pe_def D__law_whole hr rfl (pa_cons (pv 1) pa_nil)))) (pss_one (ps_ret pe_bl)) pss_nil)))
      (pss_one (ps_ret pe_bl)))), ?_⟩
  refine ⟨_, rfl, _, _, _, _, _, rfl, rfl, TyOf.tup ht, kit_same "tuple", _, rfl, iteF ⟨_, rfl, t, _, rfl, .inr (SqT.of ht), rfl, _, rfl, iteNS (by rw [List.length_map, h4]; rfl) ?_⟩⟩
  refine ⟨_, rfl, t, rfl, ⟨_, SqT.of ht⟩, for_tup (K := K) (a := t) (xs := ms.map V.int) (fun i σ Hi => ∃ c, σ = [some (.ref t), c] ∧ H = Hi) ⟨none, rfl, rfl⟩ (fun i σ Hi _ ⟨_, _, e⟩ => by rw [← e]; exact SqT.of ht) ?_ ?_⟩
  · rintro i x σ Hi hx ⟨c, rfl, rfl⟩
    obtain ⟨z, rfl, hz⟩ := get_ints hx
    exact ⟨_, rfl, _, rfl, _, rfl, iteF ⟨_, rfl, rfl⟩⟩
  · rintro σ Hi ⟨c, rfl, rfl⟩
    exact q
theorem sc__law_pair : FnScope ["told"] ["told"] (defScope s__law_pair) := ⟨rfl, rfl, rfl, by decide +kernel, rfl, by decide +kernel, by decide +kernel⟩
theorem ok_s__law_pair {f : Addr} {fd : FuncData} (F : Fun K "_law_pair" "_law_pair" s__law_pair f fd) (T : Txt K mg w cP cB cU cC dV dW cA cN cS cF cO cK cZ)  : FnOk P w K mg base CX0 1 f fd ["told"] (spPair) := by
  refine F.ok sc__law_pair (fun vs H Q E h => ?_) (fun cdv A outer s H vs Q E hr h => ?_)
  · obtain ⟨t, p, r, rfl, ht, q⟩ := h
    rfl
  obtain ⟨t, p, r, rfl, ht, q⟩ := h
  have hu : _ < cLine := hr.units0
  have hu1 := hu_of hr
  refine ⟨_, (pss_one (ps_ret (pe_and (pe_callB call_isi (by rfl) T.z_isinstance PyProof.Rows.boot_isinstance (pa_cons (pv 0) (pa_cons (pe_bltn (v := .ty "tuple") rfl T.z_tuple PyProof.Rows.boot_tuple rfl) pa_nil))) (pe_and (pe_cmpR op_eq (pe_callB call_len_seq (by rfl) T.z_len PySem.boot_len (pa_cons (pv 0) pa_nil)) pe_int (nomark _)) (pe_and (pe_callB call_isi (by rfl) T.z_isinstance PyProof.Rows.boot_isinstance (pa_cons (pe_ix ix_tup (pv 0) pe_int (fun _ _ => rfl)) (pa_cons (pe_bltn (v := .ty "bool") rfl T.z_bool PyProof.Rows.boot_bool rfl) pa_nil))) (pe_one (pe_callB call_isi (by rfl) T.z_isinstance PyProof.Rows.boot_isinstance (pa_cons (pe_ix ix_tup (pv 0) pe_int (fun _ _ => rfl)) (pa_cons (pe_bltn (v := .ty "bool") rfl T.z_bool PyProof.Rows.boot_bool rfl) pa_nil))))))))), ?_⟩
  exact ⟨_, rfl, _, _, _, _, _, rfl, rfl, TyOf.tup ht, kit_same "tuple", _, rfl, iteT ⟨_, rfl, t, _, rfl, .inr (SqT.of ht), rfl, _, rfl, iteDT rfl ⟨_, rfl, t, _, _, _, rfl, rfl, SqT.of ht, rfl, _, _, _, _, _, rfl, rfl, TyOf.bl _, kit_same "bool", _, rfl, iteT ⟨_, rfl, t, _, _, _, rfl, rfl, SqT.of ht, rfl, _, _, _, _, _, rfl, rfl, TyOf.bl _, kit_same "bool", q⟩⟩⟩⟩
theorem sc__law_words : FnScope ["words"] [] (defScope s__law_words) := ⟨rfl, rfl, rfl, by decide +kernel, rfl, by decide +kernel, by decide +kernel⟩
theorem ok_s__law_words {f : Addr} {fd : FuncData} (F : Fun K "_law_words" "_law_words" s__law_words f fd) (T : Txt K mg w cP cB cU cC dV dW cA cN cS cF cO cK cZ)  : FnOk P w K mg base CX0 1 f fd [] (spTenW) := by
  refine F.ok sc__law_words (fun vs H Q E h => ?_) (fun cdv A outer s H vs Q E hr h => ?_)
  · obtain ⟨rfl, q⟩ := h
    rfl
  obtain ⟨rfl, q⟩ := h
  have hu : _ < cLine := hr.units0
  have hu1 := hu_of hr
  refine ⟨_, (@pss_cons _ _ _ _ _ (@ps_set _ _ 0 _ _ _ _ sc__law_words.nd rfl (by first | exact Or.inl rfl | exact Or.inr rfl) (pe_lst (pa_cons pe_str (pa_cons pe_str (pa_cons pe_str (pa_cons pe_str (pa_cons pe_str (pa_cons pe_str (pa_cons pe_str (pa_cons pe_str pa_nil))))))))) (by rfl) (by first | exact .inl rfl | exact .inr rfl | assumption))
      (pss_one (ps_ret (pe_op op_cat (pv 0) (pe_lst (pa_cons pe_str (pa_cons pe_str pa_nil))))))), ?_⟩
  refine ⟨(by show 8 ≤ sizeLine; decide), fun l1 h1 => ?_⟩
  have s1 := same_new h1 (.lst [V.str "open high", V.str "open low", V.str "shut high", V.str "shut low", V.str "in high", V.str "in low", V.str "out high", V.str "out low"])
  refine ⟨_, rfl, (by show 2 ≤ sizeLine; decide), fun l2 h2 => ?_⟩
  have s2 := same_new h2 (.lst [V.str "fill", V.str "let"])
  refine ⟨l1, l2, _, _, rfl, rfl, s2 _ _ upd_same, upd_same, (by show 10 ≤ sizeLine; decide), fun l3 h3 => ?_⟩
  exact q l3 _ ((s1.trans s2).trans (same_new h3 _)) ((s1.trans s2).free h3) upd_same
theorem sc__law_stray : FnScope ["cell", "words"] ["cell"] (defScope s__law_stray) := ⟨rfl, rfl, rfl, by decide +kernel, rfl, by decide +kernel, by decide +kernel⟩
theorem ok_s__law_stray {f : Addr} {fd : FuncData} (F : Fun K "_law_stray" "_law_stray" s__law_stray f fd) (T : Txt K mg w cP cB cU cC dV dW cA cN cS cF cO cK cZ)  : FnOk P w K mg base CX0 1 f fd ["cell"] (spStray) := by
  refine F.ok sc__law_stray (fun vs H Q E h => ?_) (fun cdv A outer s H vs Q E hr h => ?_)
  · obtain ⟨n, rfl, q⟩ := h
    rfl
  obtain ⟨n, rfl, q⟩ := h
  have hu : _ < cLine := hr.units0
  have hu1 := hu_of hr
  refine ⟨_, (@pss_cons _ _ _ _ _ (@ps_set _ _ 1 _ _ _ _ sc__law_stray.nd rfl (by first | exact Or.inl rfl | exact Or.inr rfl) (@pe_strs _ _ _ (by rfl)) (by rfl) (by first | exact .inl rfl | exact .inr rfl | assumption))
      (@pss_cons _ _ _ _ _ (@ps_set _ _ 1 _ _ _ _ sc__law_stray.nd rfl (by first | exact Or.inl rfl | exact Or.inr rfl) (@pe_op _ _ _ _ _ _ _ _ op_cat (pv 1) (pe_lst (pa_cons pe_str (pa_cons pe_str (pa_cons pe_str (pa_cons pe_str (pa_cons pe_str (pa_cons pe_str (pa_cons pe_str (pa_cons pe_str pa_nil)))))))))) (by rfl) (by first | exact .inl rfl | exact .inr rfl | assumption))
      (pss_one (ps_ret (pe_ix ix_list (pv 1) (pe_op op_mod (pv 0) pe_int) (fun _ _ => rfl)))))), ?_⟩
  obtain ⟨s₁, hs, hat⟩ := stray_at n
  refine ⟨(by show 11 ≤ sizeLine; decide), fun l1 h1 => ?_⟩
  have s1 := same_new h1 (.lst [V.str "", V.str "open", V.str "high", V.str "open  high", V.str "openhigh", V.str "open high ", V.str " fill", V.str "Fill", V.str "lets", V.str "in", V.str "out middle"])
  refine ⟨_, rfl, (by show 8 ≤ sizeLine; decide), fun l2 h2 => ?_⟩
  have s2 := same_new h2 (.lst [V.str "shut both", V.str "high open", V.str "opens low", V.str "in low high", V.str "fill high", V.str "let low", V.str "OUT LOW", V.str "shut lo"])
  refine ⟨l1, l2, _, _, rfl, rfl, s2 _ _ upd_same, upd_same, (by show 19 ≤ sizeLine; decide), fun l3 h3 => ?_⟩
  exact ⟨_, rfl, _, rfl, _, _, rfl, rfl, (by show (0 : Int) < 19; decide), l3, strayL.map V.str, _, _, rfl, rfl, SqL.of upd_same, hat, q s₁ _ ((s1.trans s2).trans (same_new h3 _)) hs⟩
theorem sc__law_due_gate : FnScope ["verb", "side", "room", "state"] ["verb", "side", "room", "state"] (defScope s__law_due_gate) := ⟨rfl, rfl, rfl, by decide +kernel, rfl, by decide +kernel, by decide +kernel⟩
theorem ok_s__law_due_gate {f : Addr} {fd : FuncData} (F : Fun K "_law_due_gate" "_law_due_gate" s__law_due_gate f fd) (T : Txt K mg w cP cB cU cC dV dW cA cN cS cF cO cK cZ)  : FnOk P w K mg base CX0 1 f fd ["verb", "side", "room", "state"] (spGate) := by
  refine F.ok sc__law_due_gate (fun vs H Q E h => ?_) (fun cdv A outer s H vs Q E hr h => ?_)
  · obtain ⟨l, S, n, sd, rfl, ⟨fa, ga, hl, hfa, hga⟩, hlen, hn, q⟩ := h
    rfl
  obtain ⟨l, S, n, sd, rfl, ⟨fa, ga, hl, hfa, hga⟩, hlen, hn, q⟩ := h
  have hu : _ < cLine := hr.units0
  have hu1 := hu_of hr
  refine ⟨_, (pss_cons (ps_if (pt_cmpR op_eq (pv 0) pe_int (nomark _)) (pss_cons (ps_if (pt_val (pe_ix ix_list (pe_ix ix_list (pv 3) pe_int (fun _ _ => rfl)) (pv 1) (fun _ _ => rfl))) (pss_one (ps_ret pe_str)) pss_nil)
      (pss_cons (ps_if (PW.pt (pw_or (pt_val (pe_ix ix_list (pe_ix ix_list (pv 3) pe_int (fun _ _ => rfl)) (pe_op op_sub pe_int (pv 1)) (fun _ _ => rfl))) (pw_or1 (pt_cmpR op_ne (pe_ix ix_list (pe_ix ix_list (pv 3) pe_int (fun _ _ => rfl)) pe_int (fun _ _ => rfl)) (pe_ix ix_list (pe_lst (pa_cons (pv 2) (pa_cons pe_int pa_nil))) (pv 1) (fun _ _ => rfl)) (nomark _))))) (pss_one (ps_ret pe_str)) pss_nil)
      (pss_one (ps_ret pe_str)))) pss_nil)
      (pss_cons (ps_if (pt_not (pt_val (pe_ix ix_list (pe_ix ix_list (pv 3) pe_int (fun _ _ => rfl)) (pv 1) (fun _ _ => rfl)))) (pss_one (ps_ret pe_str)) pss_nil)
      (pss_cons (ps_if (PW.pt (pw_and (pt_cmpR op_eq (pv 0) pe_int (nomark _)) (pw_and1 (pt_val (pe_ix ix_list (pv 3) pe_int (fun _ _ => rfl)))))) (pss_one (ps_ret pe_str)) pss_nil)
      (pss_cons (ps_if (PW.pt (pw_and (pt_cmpR op_eq (pv 0) pe_int (nomark _)) (pw_and1 (pt_not (pt_val (pe_ix ix_list (pv 3) pe_int (fun _ _ => rfl))))))) (pss_one (ps_ret pe_str)) pss_nil)
      (pss_one (ps_ret pe_str)))))), ?_⟩
  have at2 : atI (S.w.map V.int) (2 : Int) = some (.int (S.w.getD 2 0)) := atI_ints (s := 2) (by omega)
  rcases n with _ | _ | _ | _ | n
  · refine ⟨_, rfl, rfl, _, rfl, iteDT rfl ?_⟩
    refine ⟨_, rfl, l, _, _, _, rfl, rfl, SqL.of hl, rfl, _, rfl, ga, _, _, _, rfl, rfl, SqL.of hga, at_s _ _, _, rfl, ?_⟩
    by_cases h1 : S.op = some sd
    · have e : oS (dueC S (gW 0 sd)) = "NotNow" := due_inl (e := .notNow) (by show (if S.op = some sd then _ else _) = _; rw [if_pos h1])
      rw [e] at q
      exact iteDT h1 (q H (Same.refl _))
    refine iteDF h1 ?_
    refine ⟨_, rfl, l, _, _, _, rfl, rfl, SqL.of hl, rfl, _, rfl, _, _, rfl, rfl, ga, _, _, _, rfl, rfl, SqL.of hga, at_o _ _, _, rfl, ?_⟩
    by_cases h2 : S.op = some (!sd)
    · have e : oS (dueC S (gW 0 sd)) = "Against" := due_inl (e := .against) (by show (if S.op = some sd then _ else if ¬ S.op = none then _ else _) = _; rw [if_neg h1, if_pos (by rw [h2]; exact fun z => nomatch z)])
      rw [e] at q
      exact iteDT h2 (q H (Same.refl _))
    have h0 : S.op = none := by
      cases ho : S.op with
      | none => rfl
      | some b =>
        rw [ho] at h1 h2
        cases b <;> cases sd <;> first | exact absurd rfl h1 | exact absurd rfl h2
    refine iteDF h2 ?_
    refine ⟨_, rfl, l, _, _, _, rfl, rfl, SqL.of hl, rfl, fa, _, _, _, rfl, rfl, SqL.of hfa, at2, _, rfl, (by show 2 ≤ sizeLine; decide), fun p hp => ?_⟩
    have s1 := same_new hp (.lst [V.int S.room, V.int 0])
    refine ⟨_, rfl, p, _, _, _, rfl, rfl, SqL.of upd_same, at_lev S sd, rfl, _, rfl, ?_⟩
    by_cases h3 : S.w.getD 2 0 = lev S sd
    · have e : oS (dueC S (gW 0 sd)) = "" := due_inr (S' := { S with op := some sd }) (by show (if S.op = some sd then _ else if ¬ S.op = none then _ else if ¬ S.w.getD 2 0 = lev S sd then _ else _) = _; rw [if_neg h1, if_neg (fun z => z h0), if_neg (fun z => z h3)])
      rw [e] at q
      exact iteNS (congrArg V.int h3) (q _ s1)
    · have e : oS (dueC S (gW 0 sd)) = "Against" := due_inl (e := .against) (by show (if S.op = some sd then _ else if ¬ S.op = none then _ else if ¬ S.w.getD 2 0 = lev S sd then _ else _) = _; rw [if_neg h1, if_neg (fun z => z h0), if_pos h3])
      rw [e] at q
      exact iteNT (fun z => h3 (V.int.inj z)) (q _ s1)
  · refine ⟨_, rfl, rfl, _, rfl, iteDF (fun e => absurd (V.int.inj e) (by decide)) ?_⟩
    refine ⟨_, rfl, l, _, _, _, rfl, rfl, SqL.of hl, rfl, _, rfl, ga, _, _, _, rfl, rfl, SqL.of hga, at_s _ _, _, rfl, ?_⟩
    by_cases h1 : S.op = some sd
    · have e : oS (dueC S (gW 1 sd)) = "" := due_inr (S' := { S with op := none }) (by show (if S.op = some sd then _ else _) = _; rw [if_pos h1])
      rw [e] at q
      exact iteNS h1 ⟨_, rfl, rfl, _, rfl, iteDF (fun e => absurd (V.int.inj e) (by decide)) ⟨_, rfl, rfl, _, rfl, iteDF (fun e => absurd (V.int.inj e) (by decide)) (q H (Same.refl _))⟩⟩
    · have e : oS (dueC S (gW 1 sd)) = "NotNow" := due_inl (e := .notNow) (by show (if S.op = some sd then _ else _) = _; rw [if_neg h1])
      rw [e] at q
      exact iteNT h1 (q H (Same.refl _))
  · refine ⟨_, rfl, rfl, _, rfl, iteDF (fun e => absurd (V.int.inj e) (by decide)) ?_⟩
    refine ⟨_, rfl, l, _, _, _, rfl, rfl, SqL.of hl, rfl, _, rfl, ga, _, _, _, rfl, rfl, SqL.of hga, at_s _ _, _, rfl, ?_⟩
    by_cases h1 : S.op = some sd
    · refine iteNS h1 ⟨_, rfl, rfl, _, rfl, iteDT rfl ⟨_, rfl, l, _, _, _, rfl, rfl, SqL.of hl, rfl, _, rfl, ?_⟩⟩
      cases hi : S.ins with
      | true =>
        have e : oS (dueC S (gW 2 sd)) = "Full" := due_inl (e := .full) (by show (if S.op = some sd then (if S.ins = true then _ else _) else _) = _; rw [if_pos h1, if_pos hi])
        rw [e] at q
        exact iteT (q H (Same.refl _))
      | false =>
        have e : oS (dueC S (gW 2 sd)) = "" := due_inr (S' := { S with ins := true }) (by show (if S.op = some sd then (if S.ins = true then _ else _) else _) = _; rw [if_pos h1, if_neg (by rw [hi]; decide)])
        rw [e] at q
        exact iteF ⟨_, rfl, rfl, _, rfl, iteDF (fun e => absurd (V.int.inj e) (by decide)) (q H (Same.refl _))⟩
    · have e : oS (dueC S (gW 2 sd)) = "NotNow" := due_inl (e := .notNow) (by show (if S.op = some sd then _ else _) = _; rw [if_neg h1])
      rw [e] at q
      exact iteNT h1 (q H (Same.refl _))
  · refine ⟨_, rfl, rfl, _, rfl, iteDF (fun e => absurd (V.int.inj e) (by decide)) ?_⟩
    refine ⟨_, rfl, l, _, _, _, rfl, rfl, SqL.of hl, rfl, _, rfl, ga, _, _, _, rfl, rfl, SqL.of hga, at_s _ _, _, rfl, ?_⟩
    by_cases h1 : S.op = some sd
    · refine iteNS h1 ⟨_, rfl, rfl, _, rfl, iteDF (fun e => absurd (V.int.inj e) (by decide)) ⟨_, rfl, rfl, _, rfl, iteDT rfl ⟨_, rfl, l, _, _, _, rfl, rfl, SqL.of hl, rfl, _, rfl, ?_⟩⟩⟩
      cases hi : S.ins with
      | true =>
        have e : oS (dueC S (gW 3 sd)) = "" := due_inr (S' := { S with ins := false }) (by show (if S.op = some sd then (if S.ins = true then _ else _) else _) = _; rw [if_pos h1, if_pos hi])
        rw [e] at q
        exact iteF (q H (Same.refl _))
      | false =>
        have e : oS (dueC S (gW 3 sd)) = "NoBoat" := due_inl (e := .noBoat) (by show (if S.op = some sd then (if S.ins = true then _ else _) else _) = _; rw [if_pos h1, if_neg (by rw [hi]; decide)])
        rw [e] at q
        exact iteT (q H (Same.refl _))
    · have e : oS (dueC S (gW 3 sd)) = "NotNow" := due_inl (e := .notNow) (by show (if S.op = some sd then _ else _) = _; rw [if_neg h1])
      rw [e] at q
      exact iteNT h1 (q H (Same.refl _))
  · omega
theorem sc__law_due : FnScope ["at", "lock", "least", "state", "gain", "side"] ["at", "lock", "least", "state"] (defScope s__law_due) := ⟨rfl, rfl, rfl, by decide +kernel, rfl, by decide +kernel, by decide +kernel⟩
theorem ok_s__law_due {f : Addr} {fd : FuncData} (F : Fun K "_law_due" "_law_due" s__law_due f fd) (T : Txt K mg w cP cB cU cC dV dW cA cN cS cF cO cK cZ) (D__law_due_gate : Def P w K mg base 1 "_law_due_gate" ["verb", "side", "room", "state"] [] (spGate)) (D__law_fill_gains : Def P w K mg base 1 "_law_fill_gains" ["kind", "room", "extra", "held"] [] (spGain gF)) : FnOk P w K mg base CX0 2 f fd ["at", "lock", "least", "state"] (spDue15) := by
  refine F.ok sc__law_due (fun vs H Q E h => ?_) (fun cdv A outer s H vs Q E hr h => ?_)
  · obtain ⟨l, lo, le, S, j, W, s₀, rfl, ⟨hlo, hle⟩, ⟨fa, ga, hl, hfa0, hga⟩, ⟨h, lw, c, b, hw, hc, hr₀, hg⟩, hj, q⟩ := h
    rfl
  obtain ⟨l, lo, le, S, j, W, s₀, rfl, ⟨hlo, hle⟩, ⟨fa, ga, hl, hfa0, hga⟩, ⟨h, lw, c, b, hw, hc, hr₀, hg⟩, hj, q⟩ := h
  have hu : _ < cLine := hr.units0
  have hu1 := hu_of hr
  refine ⟨_, (pss_cons (ps_if (pt_cmpR op_lt (pv 0) pe_int (nomark _)) (pss_one (ps_ret (pe_def D__law_due_gate hr rfl (pa_cons (pe_op op_fdiv (pv 0) pe_int) (pa_cons (pe_op op_mod (pv 0) pe_int) (pa_cons (pe_ix ix_list (pv 1) pe_int (fun _ _ => rfl)) (pa_cons (pv 3) pa_nil))))))) pss_nil)
      (pss_cons (ps_if (pt_cmpR op_gt (pv 0) pe_int (nomark _)) (pss_one (ps_ret pe_str)) pss_nil)
      (pss_cons (ps_if (PW.pt (pw_or (pt_val (pe_ix ix_list (pe_ix ix_list (pv 3) pe_int (fun _ _ => rfl)) pe_int (fun _ _ => rfl))) (pw_or1 (pt_val (pe_ix ix_list (pe_ix ix_list (pv 3) pe_int (fun _ _ => rfl)) pe_int (fun _ _ => rfl)))))) (pss_one (ps_ret pe_str)) pss_nil)
      (pss_cons (ps_if (pt_cmpR op_eq (pe_cmpR op_gt (pe_ix ix_list (pe_ix ix_list (pv 3) pe_int (fun _ _ => rfl)) pe_int (fun _ _ => rfl)) pe_int (nomark _)) (pe_cmpR op_eq (pv 0) pe_int (nomark _)) (nomark _)) (pss_one (ps_ret pe_str)) pss_nil)
      (pss_cons (ps_if (pt_cmpR op_eq (pv 0) pe_int (nomark _)) (pss_cons (ps_set (i := 4) sc__law_due.nd rfl (by first | exact Or.inl rfl | exact Or.inr rfl) (pe_def D__law_fill_gains hr rfl (pa_cons (pe_ix ix_list (pv 1) pe_int (fun _ _ => rfl)) (pa_cons (pe_ix ix_list (pv 1) pe_int (fun _ _ => rfl)) (pa_cons (pe_ix ix_list (pv 1) pe_int (fun _ _ => rfl)) (pa_cons (pe_ix ix_list (pe_ix ix_list (pv 3) pe_int (fun _ _ => rfl)) pe_int (fun _ _ => rfl)) pa_nil))))))
      (pss_one (ps_for PassesOwn.never rfl (pi_range1 (by rfl) T.z_range (pa_cons pe_int pa_nil)) (pg_name (i := 5) sc__law_due.nd rfl (by first | exact Or.inl rfl | exact Or.inr rfl))
        (pss_one (ps_if (PW.pt (pw_and (pt_cmpR op_lt (pe_ix ix_list (pv 4) (pv 5) (fun _ _ => rfl)) pe_int (nomark _)) (pw_and1 (pt_cmpR op_lt (pe_op op_add (pe_ix ix_list (pe_ix ix_list (pv 3) pe_int (fun _ _ => rfl)) (pv 5) (fun _ _ => rfl)) (pe_ix ix_list (pv 4) (pv 5) (fun _ _ => rfl))) (pe_ix ix_list (pv 2) (pv 5) (fun _ _ => rfl)) (nomark _))))) (pss_one (ps_ret pe_str)) pss_nil))))) pss_nil)
      (pss_one (ps_ret pe_str))))))), ?_⟩
  have hfa := hfa0
  rw [hw] at hfa
  rcases j with _ | _ | _ | _ | _ | _ | _ | _ | _ | _ | _ | j
  · cases hj
    exact ⟨_, rfl, _, _, rfl, rfl, _, rfl, iteDT (by decide) ⟨_, rfl, _, _, rfl, rfl, ⟨by decide, by decide⟩, _, rfl, _, _, rfl, rfl, (by show (0 : Int) < 2; decide), _, rfl, lo, _, _, _, rfl, rfl, SqL.of hlo, rfl, _, rfl, l, S, 0, true, rfl, ⟨fa, ga, hl, hfa0, hga⟩, by rw [hw]; rfl, by decide, q⟩⟩
  · cases hj
    exact ⟨_, rfl, _, _, rfl, rfl, _, rfl, iteDT (by decide) ⟨_, rfl, _, _, rfl, rfl, ⟨by decide, by decide⟩, _, rfl, _, _, rfl, rfl, (by show (0 : Int) < 2; decide), _, rfl, lo, _, _, _, rfl, rfl, SqL.of hlo, rfl, _, rfl, l, S, 0, false, rfl, ⟨fa, ga, hl, hfa0, hga⟩, by rw [hw]; rfl, by decide, q⟩⟩
  · cases hj
    exact ⟨_, rfl, _, _, rfl, rfl, _, rfl, iteDT (by decide) ⟨_, rfl, _, _, rfl, rfl, ⟨by decide, by decide⟩, _, rfl, _, _, rfl, rfl, (by show (0 : Int) < 2; decide), _, rfl, lo, _, _, _, rfl, rfl, SqL.of hlo, rfl, _, rfl, l, S, 1, true, rfl, ⟨fa, ga, hl, hfa0, hga⟩, by rw [hw]; rfl, by decide, q⟩⟩
  · cases hj
    exact ⟨_, rfl, _, _, rfl, rfl, _, rfl, iteDT (by decide) ⟨_, rfl, _, _, rfl, rfl, ⟨by decide, by decide⟩, _, rfl, _, _, rfl, rfl, (by show (0 : Int) < 2; decide), _, rfl, lo, _, _, _, rfl, rfl, SqL.of hlo, rfl, _, rfl, l, S, 1, false, rfl, ⟨fa, ga, hl, hfa0, hga⟩, by rw [hw]; rfl, by decide, q⟩⟩
  · cases hj
    exact ⟨_, rfl, _, _, rfl, rfl, _, rfl, iteDT (by decide) ⟨_, rfl, _, _, rfl, rfl, ⟨by decide, by decide⟩, _, rfl, _, _, rfl, rfl, (by show (0 : Int) < 2; decide), _, rfl, lo, _, _, _, rfl, rfl, SqL.of hlo, rfl, _, rfl, l, S, 2, true, rfl, ⟨fa, ga, hl, hfa0, hga⟩, by rw [hw]; rfl, by decide, q⟩⟩
  · cases hj
    exact ⟨_, rfl, _, _, rfl, rfl, _, rfl, iteDT (by decide) ⟨_, rfl, _, _, rfl, rfl, ⟨by decide, by decide⟩, _, rfl, _, _, rfl, rfl, (by show (0 : Int) < 2; decide), _, rfl, lo, _, _, _, rfl, rfl, SqL.of hlo, rfl, _, rfl, l, S, 2, false, rfl, ⟨fa, ga, hl, hfa0, hga⟩, by rw [hw]; rfl, by decide, q⟩⟩
  · cases hj
    exact ⟨_, rfl, _, _, rfl, rfl, _, rfl, iteDT (by decide) ⟨_, rfl, _, _, rfl, rfl, ⟨by decide, by decide⟩, _, rfl, _, _, rfl, rfl, (by show (0 : Int) < 2; decide), _, rfl, lo, _, _, _, rfl, rfl, SqL.of hlo, rfl, _, rfl, l, S, 3, true, rfl, ⟨fa, ga, hl, hfa0, hga⟩, by rw [hw]; rfl, by decide, q⟩⟩
  · cases hj
    exact ⟨_, rfl, _, _, rfl, rfl, _, rfl, iteDT (by decide) ⟨_, rfl, _, _, rfl, rfl, ⟨by decide, by decide⟩, _, rfl, _, _, rfl, rfl, (by show (0 : Int) < 2; decide), _, rfl, lo, _, _, _, rfl, rfl, SqL.of hlo, rfl, _, rfl, l, S, 3, false, rfl, ⟨fa, ga, hl, hfa0, hga⟩, by rw [hw]; rfl, by decide, q⟩⟩
  · cases hj
    refine ⟨_, rfl, _, _, rfl, rfl, _, rfl, iteDF (by decide) ⟨_, rfl, _, _, rfl, rfl, _, rfl, iteDF (by decide) ?_⟩⟩
    rcases hop : S.op with _ | (_ | _)
    · rw [hop] at hga
      refine ⟨_, rfl, l, _, _, _, rfl, rfl, SqL.of hl, rfl, ga, _, _, _, rfl, rfl, SqL.of hga, rfl, _, rfl, iteDF (fun z => nomatch z) ⟨_, rfl, l, _, _, _, rfl, rfl, SqL.of hl, rfl, ga, _, _, _, rfl, rfl, SqL.of hga, rfl, _, rfl, iteDF (fun z => nomatch z) ?_⟩⟩
      rcases hc with hc | hc
      · refine ⟨_, rfl, l, _, _, _, rfl, rfl, SqL.of hl, rfl, fa, _, _, _, rfl, rfl, SqL.of hfa, rfl, _, _, rfl, rfl, _, rfl, rfl, rfl, _, rfl, iteDF (fun z => absurd (V.bl.inj z) (by rw [hc]; show ¬ decide ((0 : Int) < 0) = decide (V.int 8 = V.int 8); rw [decide_eq_true (rfl : V.int 8 = V.int 8)]; decide)) ?_⟩
        subst hc
        have hsh := short_iff hw hr₀ hg
        have e0 : stepC S .fil = if shortC S = true then .inl .short else .inr { S with w := filledW S } := by show (if ¬ S.op = none then _ else if S.w.getD 2 0 = S.room then _ else _) = _; rw [if_neg (fun z => z hop), if_neg (by rw [hw]; show ¬ (0 : Int) = S.room; omega)]
        unfold shortG at hsh
        rw [hw] at hsh
        have hsh : shortC S = true ↔ ((gF S.kd S.room S.v b).getD 0 0 < 0 ∧ [h, lw, 0, b].getD 0 0 + (gF S.kd S.room S.v b).getD 0 0 < [S.lh, S.ll].getD 0 0) ∨ ((gF S.kd S.room S.v b).getD 1 0 < 0 ∧ [h, lw, 0, b].getD 1 0 + (gF S.kd S.room S.v b).getD 1 0 < [S.lh, S.ll].getD 1 0) := hsh
        refine ⟨_, rfl, rfl, _, rfl, iteDT rfl ⟨_, rfl, lo, _, _, _, rfl, rfl, SqL.of hlo, rfl, _, rfl, lo, _, _, _, rfl, rfl, SqL.of hlo, rfl, _, rfl, lo, _, _, _, rfl, rfl, SqL.of hlo, rfl, _, rfl, l, _, _, _, rfl, rfl, SqL.of hl, rfl, fa, _, _, _, rfl, rfl, SqL.of hfa, rfl, S.kd, S.room, S.v, b, rfl, fun gn H1 s1 hgn0 hgn => ?_⟩⟩
        have hgl : (gF S.kd S.room S.v b).length = 4 := by cases S.kd <;> rfl
        generalize (gF S.kd S.room S.v b) = gs at hsh hgn hgl
        refine ⟨_, rfl, by decide, by decide, for_range (n := Int.toNat 2) (fun i σ Hi => ∃ c : Option V, σ = [some (.int 8), some (.ref lo), some (.ref le), some (.ref l), some (.ref gn), c] ∧ (∀ k, k < i → ¬ (gs.getD k 0 < 0 ∧ [h, lw, 0, b].getD k 0 + gs.getD k 0 < [S.lh, S.ll].getD k 0)) ∧ H1 = Hi) ⟨none, rfl, (fun k hk => by omega), rfl⟩ ?_ ?_⟩
        · rintro i σ Hi hi ⟨c, rfl, hno, rfl⟩
          have hi2 : i < 2 := hi
          rw [Int.zero_add]
          have a1 : atI (gs.map V.int) (i : Int) = some (.int (gs.getD i 0)) := atI_ints (by omega)
          have a2 : atI ([h, lw, 0, b].map V.int) (i : Int) = some (.int ([h, lw, 0, b].getD i 0)) := atI_ints (by show i < 4; omega)
          have a3 : atI ([S.lh, S.ll].map V.int) (i : Int) = some (.int ([S.lh, S.ll].getD i 0)) := atI_ints (by show i < 2; omega)
          have next : ¬ (gs.getD i 0 < 0 ∧ [h, lw, 0, b].getD i 0 + gs.getD i 0 < [S.lh, S.ll].getD i 0) → ∀ k, k < i + 1 → ¬ (gs.getD k 0 < 0 ∧ [h, lw, 0, b].getD k 0 + gs.getD k 0 < [S.lh, S.ll].getD k 0) := fun hz k hk => by
            by_cases hki : k < i
            · exact hno k hki
            · rw [show k = i by omega]; exact hz
          refine ⟨_, rfl, _, rfl, gn, _, _, _, rfl, rfl, SqL.of hgn, a1, _, _, rfl, rfl, _, rfl, ?_⟩
          by_cases p1 : gs.getD i 0 < 0
          · refine iteDT p1 ⟨_, rfl, l, _, _, _, rfl, rfl, SqL.of (s1 _ _ hl), rfl, _, rfl, fa, _, _, _, rfl, rfl, SqL.of (s1 _ _ hfa), a2, _, rfl, _, rfl, gn, _, _, _, rfl, rfl, SqL.of hgn, a1, _, _, rfl, rfl, _, rfl, _, rfl, le, _, _, _, rfl, rfl, SqL.of (s1 _ _ hle), a3, _, _, rfl, rfl, _, rfl, ?_⟩
            by_cases p2 : [h, lw, 0, b].getD i 0 + gs.getD i 0 < [S.lh, S.ll].getD i 0
            · have hz : shortC S = true := hsh.mpr (by
                rcases i with _ | _ | i
                · exact .inl ⟨p1, p2⟩
                · exact .inr ⟨p1, p2⟩
                · omega)
              rw [if_pos hz] at e0
              have e : oS (dueC S .fil) = "Short" := due_inl e0
              rw [e] at q
              exact iteDT p2 (q _ s1)
            · exact iteDF p2 ⟨_, rfl, next (fun z => p2 z.2), rfl⟩
          · exact iteDF p1 ⟨_, rfl, next (fun z => p1 z.1), rfl⟩
        · rintro σ Hi ⟨c, rfl, hno, rfl⟩
          have hz : ¬ shortC S = true := fun z => by
            rcases hsh.mp z with z | z
            · exact hno 0 (by decide) z
            · exact hno 1 (by decide) z
          rw [if_neg hz] at e0
          have e : oS (dueC S .fil) = "" := due_inr e0
          rw [e] at q
          exact q _ s1
      · have e : oS (dueC S .fil) = "NotNow" := due_inl (e := .notNow) (by show (if ¬ S.op = none then _ else if S.w.getD 2 0 = S.room then _ else _) = _; rw [if_neg (fun z => z hop), if_pos (by rw [hw]; exact hc)])
        rw [e] at q
        exact ⟨_, rfl, l, _, _, _, rfl, rfl, SqL.of hl, rfl, fa, _, _, _, rfl, rfl, SqL.of hfa, rfl, _, _, rfl, rfl, _, rfl, rfl, rfl, _, rfl, iteDT (congrArg V.bl ((decide_eq_true (show c > 0 by omega)).trans (decide_eq_true (rfl : V.int 8 = V.int 8)).symm)) (q H (Same.refl _))⟩
    · have e : oS (dueC S .fil) = "Against" := due_inl (e := .against) (by show (if ¬ S.op = none then _ else _) = _; rw [if_pos (by rw [hop]; exact fun z => nomatch z)])
      rw [e] at q
      rw [hop] at hga
      exact ⟨_, rfl, l, _, _, _, rfl, rfl, SqL.of hl, rfl, ga, _, _, _, rfl, rfl, SqL.of hga, rfl, _, rfl, iteDF (fun z => nomatch z) ⟨_, rfl, l, _, _, _, rfl, rfl, SqL.of hl, rfl, ga, _, _, _, rfl, rfl, SqL.of hga, rfl, _, rfl, iteDT rfl (q H (Same.refl _))⟩⟩
    · have e : oS (dueC S .fil) = "Against" := due_inl (e := .against) (by show (if ¬ S.op = none then _ else _) = _; rw [if_pos (by rw [hop]; exact fun z => nomatch z)])
      rw [e] at q
      rw [hop] at hga
      exact ⟨_, rfl, l, _, _, _, rfl, rfl, SqL.of hl, rfl, ga, _, _, _, rfl, rfl, SqL.of hga, rfl, _, rfl, iteDT rfl (q H (Same.refl _))⟩
  · cases hj
    refine ⟨_, rfl, _, _, rfl, rfl, _, rfl, iteDF (by decide) ⟨_, rfl, _, _, rfl, rfl, _, rfl, iteDF (by decide) ?_⟩⟩
    rcases hop : S.op with _ | (_ | _)
    · rw [hop] at hga
      refine ⟨_, rfl, l, _, _, _, rfl, rfl, SqL.of hl, rfl, ga, _, _, _, rfl, rfl, SqL.of hga, rfl, _, rfl, iteDF (fun z => nomatch z) ⟨_, rfl, l, _, _, _, rfl, rfl, SqL.of hl, rfl, ga, _, _, _, rfl, rfl, SqL.of hga, rfl, _, rfl, iteDF (fun z => nomatch z) ?_⟩⟩
      rcases hc with hc | hc
      · have e : oS (dueC S .lt) = "NotNow" := due_inl (e := .notNow) (by show (if ¬ S.op = none then _ else if S.w.getD 2 0 = 0 then _ else _) = _; rw [if_neg (fun z => z hop), if_pos (by rw [hw]; exact hc)])
        rw [e] at q
        exact ⟨_, rfl, l, _, _, _, rfl, rfl, SqL.of hl, rfl, fa, _, _, _, rfl, rfl, SqL.of hfa, rfl, _, _, rfl, rfl, _, rfl, rfl, rfl, _, rfl, iteDT (congrArg V.bl ((decide_eq_false (show ¬ c > 0 by omega)).trans (decide_eq_false (show ¬ V.int 9 = V.int 8 from (fun e => absurd (V.int.inj e) (by decide)))).symm)) (q H (Same.refl _))⟩
      · have e : oS (dueC S .lt) = "" := due_inr (S' := { S with w := letW S }) (by show (if ¬ S.op = none then _ else if S.w.getD 2 0 = 0 then _ else _) = _; rw [if_neg (fun z => z hop), if_neg (by rw [hw]; show ¬ c = 0; omega)])
        rw [e] at q
        refine ⟨_, rfl, l, _, _, _, rfl, rfl, SqL.of hl, rfl, fa, _, _, _, rfl, rfl, SqL.of hfa, rfl, _, _, rfl, rfl, _, rfl, rfl, rfl, _, rfl, iteDF (fun z => absurd (V.bl.inj z) (by rw [decide_eq_true (show c > 0 by omega)]; show ¬ true = decide (V.int 9 = V.int 8); rw [decide_eq_false (show ¬ V.int 9 = V.int 8 from (fun e => absurd (V.int.inj e) (by decide)))]; decide)) ?_⟩
        exact ⟨_, rfl, rfl, _, rfl, iteDF (fun e => absurd (V.int.inj e) (by decide)) (q H (Same.refl _))⟩
    · have e : oS (dueC S .lt) = "Against" := due_inl (e := .against) (by show (if ¬ S.op = none then _ else _) = _; rw [if_pos (by rw [hop]; exact fun z => nomatch z)])
      rw [e] at q
      rw [hop] at hga
      exact ⟨_, rfl, l, _, _, _, rfl, rfl, SqL.of hl, rfl, ga, _, _, _, rfl, rfl, SqL.of hga, rfl, _, rfl, iteDF (fun z => nomatch z) ⟨_, rfl, l, _, _, _, rfl, rfl, SqL.of hl, rfl, ga, _, _, _, rfl, rfl, SqL.of hga, rfl, _, rfl, iteDT rfl (q H (Same.refl _))⟩⟩
    · have e : oS (dueC S .lt) = "Against" := due_inl (e := .against) (by show (if ¬ S.op = none then _ else _) = _; rw [if_pos (by rw [hop]; exact fun z => nomatch z)])
      rw [e] at q
      rw [hop] at hga
      exact ⟨_, rfl, l, _, _, _, rfl, rfl, SqL.of hl, rfl, ga, _, _, _, rfl, rfl, SqL.of hga, rfl, _, rfl, iteDT rfl (q H (Same.refl _))⟩
  · cases hj
    exact ⟨_, rfl, _, _, rfl, rfl, _, rfl, iteDF (by decide) ⟨_, rfl, _, _, rfl, rfl, _, rfl, iteDT (by decide) (q H (Same.refl _))⟩⟩
  · have : (tenW ++ [Wd.odd s₀]).length ≤ j + 11 := by show 11 ≤ j + 11; omega
    rw [List.getElem?_eq_none this] at hj
    cases hj
theorem sc__law_behind : FnScope ["at", "lock", "state", "gates", "gain"] ["at", "lock", "state"] (defScope s__law_behind) := ⟨rfl, rfl, rfl, by decide +kernel, rfl, by decide +kernel, by decide +kernel⟩
theorem ok_s__law_behind {f : Addr} {fd : FuncData} (F : Fun K "_law_behind" "_law_behind" s__law_behind f fd) (T : Txt K mg w cP cB cU cC dV dW cA cN cS cF cO cK cZ) (D__law_fill_gains : Def P w K mg base 1 "_law_fill_gains" ["kind", "room", "extra", "held"] [] (spGain gF)) (D__law_let_gains : Def P w K mg base 1 "_law_let_gains" ["kind", "room", "extra", "held"] [] (spGain gL)) : FnOk P w K mg base CX0 2 f fd ["at", "lock", "state"] (spBehind15) := by
  refine F.ok sc__law_behind (fun vs H Q E h => ?_) (fun cdv A outer s H vs Q E hr h => ?_)
  · obtain ⟨l, lo, S, S₁, j, W, s₀, rfl, hlo, ⟨fa, ga, hl, hfa0, hga⟩, ⟨h, lw, c, b, hw, hc, hr₀, hgd⟩, hj, hst, q⟩ := h
    rfl
  obtain ⟨l, lo, S, S₁, j, W, s₀, rfl, hlo, ⟨fa, ga, hl, hfa0, hga⟩, ⟨h, lw, c, b, hw, hc, hr₀, hgd⟩, hj, hst, q⟩ := h
  have hu : _ < cLine := hr.units0
  have hu1 := hu_of hr
  refine ⟨_, (pss_cons (ps_set (i := 3) sc__law_behind.nd rfl (by first | exact Or.inl rfl | exact Or.inr rfl) (pe_callTy call_list_of (by rfl) T.z_list PyProof.Rows.boot_list (pa_cons (pe_ix ix_list (pv 2) pe_int (fun _ _ => rfl)) pa_nil)))
      (pss_cons (ps_if (pt_cmpR op_ge (pv 0) pe_int (nomark _)) (pss_cons (ps_set (i := 4) sc__law_behind.nd rfl (by first | exact Or.inl rfl | exact Or.inr rfl) (pe_def D__law_fill_gains hr rfl (pa_cons (pe_ix ix_list (pv 1) pe_int (fun _ _ => rfl)) (pa_cons (pe_ix ix_list (pv 1) pe_int (fun _ _ => rfl)) (pa_cons (pe_ix ix_list (pv 1) pe_int (fun _ _ => rfl)) (pa_cons (pe_ix ix_list (pe_ix ix_list (pv 2) pe_int (fun _ _ => rfl)) pe_int (fun _ _ => rfl)) pa_nil))))))
      (pss_cons (ps_if (pt_cmpR op_eq (pv 0) pe_int (nomark _)) (pss_one (ps_set (i := 4) sc__law_behind.nd rfl (by first | exact Or.inl rfl | exact Or.inr rfl) (pe_def D__law_let_gains hr rfl (pa_cons (pe_ix ix_list (pv 1) pe_int (fun _ _ => rfl)) (pa_cons (pe_ix ix_list (pv 1) pe_int (fun _ _ => rfl)) (pa_cons (pe_ix ix_list (pv 1) pe_int (fun _ _ => rfl)) (pa_cons (pe_ix ix_list (pe_ix ix_list (pv 2) pe_int (fun _ _ => rfl)) pe_int (fun _ _ => rfl)) pa_nil))))))) pss_nil)
      (pss_one (ps_ret (pe_lst (pa_cons (pe_comp ["k", "gain", "state"] (capF 1 [4, 2]) rfl (compScope (defScope s__law_behind) rfl rfl (by decide +kernel) (by decide +kernel) (by decide +kernel)) (caps_of 1 [4, 2] rfl rfl (by decide +kernel)) (pi_range1 (by rfl) T.z_range (pa_cons pe_int pa_nil)) (fun _ _ _ _ _ => (pg_name (i := 0) (show List.Nodup (["k", "gain", "state"] : List Str) from by decide +kernel) rfl (by first | exact Or.inl rfl | exact Or.inr rfl))) (fun _ _ _ _ _ => pts_nil) (fun _ _ _ _ _ => (pe_op op_add (pe_ix (ix_listK K) (pe_ix (ix_listK K) (pv 2) pe_int (fun _ _ => rfl)) (pv 0) (fun _ _ => rfl)) (pe_ix (ix_listK K) (pv 1) (pv 0) (fun _ _ => rfl))))) (pa_cons (pv 3) (pa_cons (pe_ix ix_list (pv 2) pe_int (fun _ _ => rfl)) pa_nil)))))))) pss_nil)
      (pss_cons (ps_if (pt_cmpR op_lt (pv 0) pe_int (nomark _)) (pss_cons (ps_asg (pe_cmpR op_lt (pv 0) pe_int (nomark _)) (pg_sub (pv 3) (pe_op op_mod (pv 0) pe_int) set_list))
      (pss_one (ps_ret (pe_lst (pa_cons (pe_ix ix_list (pv 2) pe_int (fun _ _ => rfl)) (pa_cons (pv 3) (pa_cons (pe_ix ix_list (pv 2) pe_int (fun _ _ => rfl)) pa_nil))))))) pss_nil)
      (pss_one (ps_ret (pe_lst (pa_cons (pe_ix ix_list (pv 2) pe_int (fun _ _ => rfl)) (pa_cons (pv 3) (pa_cons (pe_cmpR op_lt (pv 0) pe_int (nomark _)) pa_nil))))))))), ?_⟩
  have hfa := hfa0
  rw [hw] at hfa
  refine ⟨_, rfl, l, _, _, _, rfl, rfl, SqL.of hl, rfl, ga, _, rfl, .inl (SqL.of hga), fun g2 hg0 => ?_⟩
  have s2 := same_new hg0 (.lst (gts S.op))
  have hg2 : upd H g2 (.lst (gts S.op)) g2 = some (.lst (gts S.op)) := upd_same
  generalize upd H g2 (.lst (gts S.op)) = H2 at s2 hg2 ⊢
  rcases j with _ | _ | _ | _ | _ | _ | _ | _ | _ | _ | _ | j
  · cases hj
    obtain ⟨hop, _, rfl⟩ := done_opn hst
    rw [hop] at hg2
    refine ⟨_, rfl, _, _, rfl, rfl, _, rfl, iteDF (by decide) ⟨_, rfl, _, _, rfl, rfl, _, rfl, iteDT (by decide) ⟨_, rfl, _, _, rfl, rfl, _, rfl, _, rfl, _, _, rfl, rfl, (by show (0 : Int) < 2; decide), g2, _, _, _, rfl, rfl, hg2, rfl, ?_⟩⟩⟩
    have u1 : Same H (upd H2 g2 (.lst [V.bl true, V.bl false])) := same_upd hg0 s2
    refine ⟨_, rfl, l, _, _, _, rfl, rfl, SqL.of (u1 _ _ hl), rfl, _, rfl, _, rfl, l, _, _, _, rfl, rfl, SqL.of (u1 _ _ hl), rfl, (by show 3 ≤ sizeLine; decide), fun r hr => ?_⟩
    have u2 := same_new hr (.lst [V.ref fa, V.ref g2, V.bl S.ins])
    exact q r _ (u1.trans u2) ⟨fa, g2, upd_same, u2 _ _ (u1 _ _ hfa0), u2 _ _ upd_same⟩
  · cases hj
    obtain ⟨hop, _, rfl⟩ := done_opn hst
    rw [hop] at hg2
    refine ⟨_, rfl, _, _, rfl, rfl, _, rfl, iteDF (by decide) ⟨_, rfl, _, _, rfl, rfl, _, rfl, iteDT (by decide) ⟨_, rfl, _, _, rfl, rfl, _, rfl, _, rfl, _, _, rfl, rfl, (by show (0 : Int) < 2; decide), g2, _, _, _, rfl, rfl, hg2, rfl, ?_⟩⟩⟩
    have u1 : Same H (upd H2 g2 (.lst [V.bl false, V.bl true])) := same_upd hg0 s2
    refine ⟨_, rfl, l, _, _, _, rfl, rfl, SqL.of (u1 _ _ hl), rfl, _, rfl, _, rfl, l, _, _, _, rfl, rfl, SqL.of (u1 _ _ hl), rfl, (by show 3 ≤ sizeLine; decide), fun r hr => ?_⟩
    have u2 := same_new hr (.lst [V.ref fa, V.ref g2, V.bl S.ins])
    exact q r _ (u1.trans u2) ⟨fa, g2, upd_same, u2 _ _ (u1 _ _ hfa0), u2 _ _ upd_same⟩
  · cases hj
    obtain ⟨hop, rfl⟩ := done_sht hst
    rw [hop] at hg2
    refine ⟨_, rfl, _, _, rfl, rfl, _, rfl, iteDF (by decide) ⟨_, rfl, _, _, rfl, rfl, _, rfl, iteDT (by decide) ⟨_, rfl, _, _, rfl, rfl, _, rfl, _, rfl, _, _, rfl, rfl, (by show (0 : Int) < 2; decide), g2, _, _, _, rfl, rfl, hg2, rfl, ?_⟩⟩⟩
    have u1 : Same H (upd H2 g2 (.lst [V.bl false, V.bl false])) := same_upd hg0 s2
    refine ⟨_, rfl, l, _, _, _, rfl, rfl, SqL.of (u1 _ _ hl), rfl, _, rfl, _, rfl, l, _, _, _, rfl, rfl, SqL.of (u1 _ _ hl), rfl, (by show 3 ≤ sizeLine; decide), fun r hr => ?_⟩
    have u2 := same_new hr (.lst [V.ref fa, V.ref g2, V.bl S.ins])
    exact q r _ (u1.trans u2) ⟨fa, g2, upd_same, u2 _ _ (u1 _ _ hfa0), u2 _ _ upd_same⟩
  · cases hj
    obtain ⟨hop, rfl⟩ := done_sht hst
    rw [hop] at hg2
    refine ⟨_, rfl, _, _, rfl, rfl, _, rfl, iteDF (by decide) ⟨_, rfl, _, _, rfl, rfl, _, rfl, iteDT (by decide) ⟨_, rfl, _, _, rfl, rfl, _, rfl, _, rfl, _, _, rfl, rfl, (by show (0 : Int) < 2; decide), g2, _, _, _, rfl, rfl, hg2, rfl, ?_⟩⟩⟩
    have u1 : Same H (upd H2 g2 (.lst [V.bl false, V.bl false])) := same_upd hg0 s2
    refine ⟨_, rfl, l, _, _, _, rfl, rfl, SqL.of (u1 _ _ hl), rfl, _, rfl, _, rfl, l, _, _, _, rfl, rfl, SqL.of (u1 _ _ hl), rfl, (by show 3 ≤ sizeLine; decide), fun r hr => ?_⟩
    have u2 := same_new hr (.lst [V.ref fa, V.ref g2, V.bl S.ins])
    exact q r _ (u1.trans u2) ⟨fa, g2, upd_same, u2 _ _ (u1 _ _ hfa0), u2 _ _ upd_same⟩
  · cases hj
    obtain ⟨_, _, rfl⟩ := done_bin hst
    refine ⟨_, rfl, _, _, rfl, rfl, _, rfl, iteDF (by decide) ⟨_, rfl, _, _, rfl, rfl, _, rfl, iteDF (by decide) ⟨_, rfl, l, _, _, _, rfl, rfl, SqL.of (s2 _ _ hl), rfl, _, rfl, _, rfl, _, _, rfl, rfl, (by show 3 ≤ sizeLine; decide), fun r hr => ?_⟩⟩⟩
    have u2 := same_new hr (.lst [V.ref fa, V.ref g2, V.bl true])
    exact q r _ (s2.trans u2) ⟨fa, g2, upd_same, u2 _ _ (s2 _ _ hfa0), u2 _ _ hg2⟩
  · cases hj
    obtain ⟨_, _, rfl⟩ := done_bin hst
    refine ⟨_, rfl, _, _, rfl, rfl, _, rfl, iteDF (by decide) ⟨_, rfl, _, _, rfl, rfl, _, rfl, iteDF (by decide) ⟨_, rfl, l, _, _, _, rfl, rfl, SqL.of (s2 _ _ hl), rfl, _, rfl, _, rfl, _, _, rfl, rfl, (by show 3 ≤ sizeLine; decide), fun r hr => ?_⟩⟩⟩
    have u2 := same_new hr (.lst [V.ref fa, V.ref g2, V.bl true])
    exact q r _ (s2.trans u2) ⟨fa, g2, upd_same, u2 _ _ (s2 _ _ hfa0), u2 _ _ hg2⟩
  · cases hj
    obtain ⟨_, _, rfl⟩ := done_bout hst
    refine ⟨_, rfl, _, _, rfl, rfl, _, rfl, iteDF (by decide) ⟨_, rfl, _, _, rfl, rfl, _, rfl, iteDF (by decide) ⟨_, rfl, l, _, _, _, rfl, rfl, SqL.of (s2 _ _ hl), rfl, _, rfl, _, rfl, _, _, rfl, rfl, (by show 3 ≤ sizeLine; decide), fun r hr => ?_⟩⟩⟩
    have u2 := same_new hr (.lst [V.ref fa, V.ref g2, V.bl false])
    exact q r _ (s2.trans u2) ⟨fa, g2, upd_same, u2 _ _ (s2 _ _ hfa0), u2 _ _ hg2⟩
  · cases hj
    obtain ⟨_, _, rfl⟩ := done_bout hst
    refine ⟨_, rfl, _, _, rfl, rfl, _, rfl, iteDF (by decide) ⟨_, rfl, _, _, rfl, rfl, _, rfl, iteDF (by decide) ⟨_, rfl, l, _, _, _, rfl, rfl, SqL.of (s2 _ _ hl), rfl, _, rfl, _, rfl, _, _, rfl, rfl, (by show 3 ≤ sizeLine; decide), fun r hr => ?_⟩⟩⟩
    have u2 := same_new hr (.lst [V.ref fa, V.ref g2, V.bl false])
    exact q r _ (s2.trans u2) ⟨fa, g2, upd_same, u2 _ _ (s2 _ _ hfa0), u2 _ _ hg2⟩
  · cases hj
    obtain ⟨_, h2, _, rfl⟩ := done_fil hst
    have hc0 : c = 0 := hc.resolve_right (fun z => h2 (by rw [hw]; exact z))
    have ew : filledW S = addG [h, lw, c, b] (gF S.kd S.room S.v b) := by subst hc0; exact (minv_fil hw hr₀ hgd).2
    refine ⟨_, rfl, _, _, rfl, rfl, _, rfl, iteDT (by decide) ⟨_, rfl, lo, _, _, _, rfl, rfl, SqL.of (s2 _ _ hlo), rfl, _, rfl, lo, _, _, _, rfl, rfl, SqL.of (s2 _ _ hlo), rfl, _, rfl, lo, _, _, _, rfl, rfl, SqL.of (s2 _ _ hlo), rfl, _, rfl, l, _, _, _, rfl, rfl, SqL.of (s2 _ _ hl), rfl, fa, _, _, _, rfl, rfl, SqL.of (s2 _ _ hfa), rfl, S.kd, S.room, S.v, b, rfl, fun gn H3 s3 hgn0 hgn => ⟨_, rfl, rfl, _, rfl, iteDF (fun e => absurd (V.int.inj e) (by decide)) ?_⟩⟩⟩
    have s23 := s2.trans s3
    have hgl : (gF S.kd S.room S.v b).length = 4 := by cases S.kd <;> rfl
    obtain ⟨gs, hgs⟩ : ∃ gs, (gF S.kd S.room S.v b) = gs := ⟨_, rfl⟩
    rw [hgs] at hgl hgn
    refine ⟨_, rfl, by decide, by decide, fun D hD => ?_⟩
    refine comp_rangeR (n := 4) (caps := [some (.ref gn), some (.ref l)]) (fun j ys Hj => ys = ((addG [h, lw, c, b] gs).take j).map V.int) hD rfl ?_ ?_
    · rintro j ys Hj hj hle sm3 hY rfl
      rw [Int.zero_add]
      have e1 : atI ([h, lw, c, b].map V.int) (j : Int) = some (.int ([h, lw, c, b].getD j 0)) := atI_ints (by show j < 4; omega)
      have e2 : atI (gs.map V.int) (j : Int) = some (.int (gs.getD j 0)) := atI_ints (by omega)
      refine rd_yes (iteT ?_)
      refine ⟨_, rfl, l, _, _, _, rfl, rfl, SqL.of ((s23.trans sm3) _ _ hl), rfl, _, rfl, fa, _, _, _, rfl, rfl, SqL.of ((s23.trans sm3) _ _ hfa), e1, _, rfl, _, rfl, gn, _, _, _, rfl, rfl, SqL.of (sm3 _ _ hgn), e2, _, _, rfl, rfl, ?_⟩
      refine comp_put hD sm3 hY hle (by omega) (Same.refl _) ?_
      have e3 : (addG [h, lw, c, b] gs)[j]? = some ([h, lw, c, b].getD j 0 + gs.getD j 0) := by
        rcases j with _ | _ | _ | _ | j
        · rfl
        · rfl
        · rfl
        · rfl
        · omega
      rw [List.take_add_one, e3, List.map_append]
      rfl
    · rintro ys Hj sm3 hY hle rfl
      have e4 : (addG [h, lw, c, b] gs).take 4 = addG [h, lw, c, b] gs := rfl
      rw [e4] at hY
      have sJ := s23.trans sm3
      refine ⟨_, rfl, _, rfl, l, _, _, _, rfl, rfl, SqL.of (sJ _ _ hl), rfl, (by show 3 ≤ sizeLine; decide), fun r hr => ?_⟩
      have u2 := same_new hr (.lst [V.ref D, V.ref g2, V.bl S.ins])
      refine q r _ (sJ.trans u2) ⟨D, g2, upd_same, u2 _ _ ?_, u2 _ _ (sm3 _ _ (s3 _ _ hg2))⟩
      rw [show ({ S with w := filledW S } : CSt).w = addG [h, lw, c, b] gs from ew.trans (by rw [hgs])]
      exact hY
  · cases hj
    obtain ⟨_, h2, rfl⟩ := done_lt hst
    have hc0 : c = S.room := hc.resolve_left (fun z => h2 (by rw [hw]; exact z))
    have ew : letW S = addG [h, lw, c, b] (gL S.kd S.room S.v b) := by rw [hc0] at hw ⊢; exact (minv_lt hw hr₀ hgd).2
    refine ⟨_, rfl, _, _, rfl, rfl, _, rfl, iteDT (by decide) ⟨_, rfl, lo, _, _, _, rfl, rfl, SqL.of (s2 _ _ hlo), rfl, _, rfl, lo, _, _, _, rfl, rfl, SqL.of (s2 _ _ hlo), rfl, _, rfl, lo, _, _, _, rfl, rfl, SqL.of (s2 _ _ hlo), rfl, _, rfl, l, _, _, _, rfl, rfl, SqL.of (s2 _ _ hl), rfl, fa, _, _, _, rfl, rfl, SqL.of (s2 _ _ hfa), rfl, S.kd, S.room, S.v, b, rfl, fun gn0 H3 s3 hgn0 hgn1 => ⟨_, rfl, rfl, _, rfl, iteDT rfl ?_⟩⟩⟩
    have s23 := s2.trans s3
    refine ⟨_, rfl, lo, _, _, _, rfl, rfl, SqL.of (s23 _ _ hlo), rfl, _, rfl, lo, _, _, _, rfl, rfl, SqL.of (s23 _ _ hlo), rfl, _, rfl, lo, _, _, _, rfl, rfl, SqL.of (s23 _ _ hlo), rfl, _, rfl, l, _, _, _, rfl, rfl, SqL.of (s23 _ _ hl), rfl, fa, _, _, _, rfl, rfl, SqL.of (s23 _ _ hfa), rfl, S.kd, S.room, S.v, b, rfl, fun gn H4 s4 hgn2 hgn => ?_⟩
    have s24 := s23.trans s4
    have s34 := s3.trans s4
    have hgl : (gL S.kd S.room S.v b).length = 4 := by cases S.kd <;> rfl
    obtain ⟨gs, hgs⟩ : ∃ gs, (gL S.kd S.room S.v b) = gs := ⟨_, rfl⟩
    rw [hgs] at hgl hgn
    refine ⟨_, rfl, by decide, by decide, fun D hD => ?_⟩
    refine comp_rangeR (n := 4) (caps := [some (.ref gn), some (.ref l)]) (fun j ys Hj => ys = ((addG [h, lw, c, b] gs).take j).map V.int) hD rfl ?_ ?_
    · rintro j ys Hj hj hle sm3 hY rfl
      rw [Int.zero_add]
      have e1 : atI ([h, lw, c, b].map V.int) (j : Int) = some (.int ([h, lw, c, b].getD j 0)) := atI_ints (by show j < 4; omega)
      have e2 : atI (gs.map V.int) (j : Int) = some (.int (gs.getD j 0)) := atI_ints (by omega)
      refine rd_yes (iteT ?_)
      refine ⟨_, rfl, l, _, _, _, rfl, rfl, SqL.of ((s24.trans sm3) _ _ hl), rfl, _, rfl, fa, _, _, _, rfl, rfl, SqL.of ((s24.trans sm3) _ _ hfa), e1, _, rfl, _, rfl, gn, _, _, _, rfl, rfl, SqL.of (sm3 _ _ hgn), e2, _, _, rfl, rfl, ?_⟩
      refine comp_put hD sm3 hY hle (by omega) (Same.refl _) ?_
      have e3 : (addG [h, lw, c, b] gs)[j]? = some ([h, lw, c, b].getD j 0 + gs.getD j 0) := by
        rcases j with _ | _ | _ | _ | j
        · rfl
        · rfl
        · rfl
        · rfl
        · omega
      rw [List.take_add_one, e3, List.map_append]
      rfl
    · rintro ys Hj sm3 hY hle rfl
      have e4 : (addG [h, lw, c, b] gs).take 4 = addG [h, lw, c, b] gs := rfl
      rw [e4] at hY
      have sJ := s24.trans sm3
      refine ⟨_, rfl, _, rfl, l, _, _, _, rfl, rfl, SqL.of (sJ _ _ hl), rfl, (by show 3 ≤ sizeLine; decide), fun r hr => ?_⟩
      have u2 := same_new hr (.lst [V.ref D, V.ref g2, V.bl S.ins])
      refine q r _ (sJ.trans u2) ⟨D, g2, upd_same, u2 _ _ ?_, u2 _ _ (sm3 _ _ (s34 _ _ hg2))⟩
      rw [show ({ S with w := letW S } : CSt).w = addG [h, lw, c, b] gs from ew.trans (by rw [hgs])]
      exact hY
  · cases hj
    cases hst
  · have : (tenW ++ [Wd.odd s₀]).length ≤ j + 11 := by show 11 ≤ j + 11; omega
    rw [List.getElem?_eq_none this] at hj
    cases hj
theorem sc__law_choice : FnScope ["cell", "lock", "least", "state", "way", "fit"] ["cell", "lock", "least", "state"] (defScope s__law_choice) := ⟨rfl, rfl, rfl, by decide +kernel, rfl, by decide +kernel, by decide +kernel⟩
theorem ok_s__law_choice {f : Addr} {fd : FuncData} (F : Fun K "_law_choice" "_law_choice" s__law_choice f fd) (T : Txt K mg w cP cB cU cC dV dW cA cN cS cF cO cK cZ) (D__law_due : Def P w K mg base 2 "_law_due" ["at", "lock", "least", "state"] [] (spDue15)) : FnOk P w K mg base CX0 3 f fd ["cell", "lock", "least", "state"] (spChoice) := by
  refine F.ok sc__law_choice (fun vs H Q E h => ?_) (fun cdv A outer s H vs Q E hr h => ?_)
  · obtain ⟨c, l, lo, le, S, rfl, hlk, hst, hinv, q⟩ := h
    rfl
  obtain ⟨c, l, lo, le, S, rfl, hlk, hst, hinv, q⟩ := h
  have hu : _ < cLine := hr.units0
  have hu1 := hu_of hr
  refine ⟨_, (pss_cons (ps_set (i := 4) sc__law_choice.nd rfl (by first | exact Or.inl rfl | exact Or.inr rfl) (pe_op op_mod (pv 0) pe_int))
      (pss_cons (ps_if (pt_cmpR op_eq (pv 4) pe_int (nomark _)) (pss_one (ps_ret pe_int)) pss_nil)
      (pss_cons (ps_if (pt_cmpR op_eq (pv 4) pe_int (nomark _)) (pss_one (ps_ret pe_int)) pss_nil)
      (pss_cons (ps_if (pt_cmpR op_lt (pv 4) pe_int (nomark _)) (pss_one (ps_ret (pe_op op_mod (pe_op op_fdiv (pv 0) pe_int) pe_int))) pss_nil)
      (pss_cons (ps_setComp (i := 5) ["at", "lock", "least", "state"] (capF 1 [1, 2, 3]) sc__law_choice.nd rfl (by first | exact Or.inl rfl | exact Or.inr rfl) rfl (compScope (defScope s__law_choice) rfl rfl (by decide +kernel) (by decide +kernel) (by decide +kernel)) (caps_of 1 [1, 2, 3] rfl rfl (by decide +kernel)) (pi_range1 (by rfl) T.z_range (pa_cons pe_int pa_nil)) (fun _ _ _ _ _ => (pg_name (i := 0) (show List.Nodup (["at", "lock", "least", "state"] : List Str) from by decide +kernel) rfl (by first | exact Or.inl rfl | exact Or.inr rfl))) (fun _ _ _ _ _ => (pts_one (pt_cmpR op_eq (pe_def D__law_due hr rfl (pa_cons (pv 0) (pa_cons (pv 1) (pa_cons (pv 2) (pa_cons (pv 3) pa_nil))))) pe_str (nomark _)))) (fun _ _ _ _ _ => (pv 0)))
      (pss_one (ps_ret (pe_ix ix_list (pv 5) (pe_op op_mod (pe_op op_fdiv (pv 0) pe_int) (pe_callB call_len_seq (by rfl) T.z_len PySem.boot_len (pa_cons (pv 5) pa_nil))) (fun _ _ => rfl))))))))), ?_⟩
  refine ⟨_, rfl, _, _, rfl, rfl, (by show (0 : Int) < 8; decide), ?_⟩
  refine ⟨_, rfl, rfl, _, rfl, ite2 (fun _ => q 10 H (by decide) (Same.refl _)) (fun _ => ?_)⟩
  refine ⟨_, rfl, rfl, _, rfl, ite2 (fun _ => q 8 H (by decide) (Same.refl _)) (fun _ => ?_)⟩
  refine ⟨_, rfl, _, _, rfl, rfl, _, rfl, ite2 (fun _ => ?_) (fun _ => ?_)⟩
  · have h1 := Int.emod_nonneg (c / 8) (by decide : (10 : Int) ≠ 0)
    have h2 := Int.emod_lt_of_pos (c / 8) (by decide : (0 : Int) < 10)
    refine ⟨_, rfl, _, _, rfl, rfl, ⟨by decide, by decide⟩, _, _, rfl, rfl, (by show (0 : Int) < 10; decide), ?_⟩
    have := q (c / 8 % 10).toNat H (by omega) (Same.refl _)
    rw [show (((c / 8 % 10).toNat : Nat) : Int) = c / 8 % 10 by omega] at this
    exact this
  refine ⟨_, rfl, by decide, by decide, fun D hD => ?_⟩
  refine comp_rangeR (n := 10) (caps := [some (.ref lo), some (.ref le), some (.ref l)]) (fun n ys _ => FitAt S n ys) hD ⟨[], rfl, (fun j h => by cases h), (fun j W h => by omega)⟩ ?_ ?_
  · rintro n ys Hi hn hle sm hY ⟨zs, rfl, hz1, hz2⟩
    have hn10 : n < 10 := hn
    rw [Int.zero_add]
    obtain ⟨W, hW⟩ := ten_of hn10
    refine ⟨_, rfl, _, rfl, _, rfl, _, rfl, l, lo, le, S, n, W, "", rfl, hlk.same sm, hst.same sm, hinv, ten_word hn10 hW, fun H4 s4 => ⟨rfl, _, rfl, ?_⟩⟩
    cases hd : dueC S W with
    | none =>
      refine iteDT rfl ⟨_, rfl, ?_⟩
      refine comp_put hD sm hY hle (by omega) s4 ⟨zs ++ [n], by rw [List.map_append]; rfl, ?_, ?_⟩
      · intro j hj
        rcases List.mem_append.mp hj with h | h
        · exact hz1 j h
        · cases List.mem_singleton.mp h; exact hn10
      · intro j W' hj hW' hd'
        by_cases hjn : j < n
        · exact List.mem_append_left _ (hz2 j W' hjn hW' hd')
        · rw [show j = n by omega]; exact List.mem_append_right _ (List.mem_singleton.mpr rfl)
    | some e =>
      refine iteDF (fun z => er_ne e (V.str.inj z)) (comp_skip sm hY hle s4 ⟨zs, rfl, hz1, ?_⟩)
      intro j W' hj hW' hd'
      by_cases hjn : j < n
      · exact hz2 j W' hjn hW' hd'
      · have hjn : j = n := by omega
        subst hjn
        rw [hW] at hW'
        cases hW'
        rw [hd] at hd'
        cases hd'
  rintro ys Hf sm hY hle hfit
  obtain ⟨hpos, j, hj, hat⟩ := fit_pick hinv hfit (c / 8)
  refine ⟨_, rfl, _, rfl, _, _, rfl, rfl, ⟨by decide, by decide⟩, _, rfl, D, _, rfl, .inl (SqL.of hY), _, _, rfl, rfl, (by omega), D, _, _, _, rfl, rfl, SqL.of hY, hat, q j Hf (by omega) sm⟩
theorem sc__law_told : FnScope ["chamber", "word", "names", "found", "e"] ["chamber", "word"] (defScope s__law_told) := ⟨rfl, rfl, rfl, by decide +kernel, rfl, by decide +kernel, by decide +kernel⟩
theorem ok_s__law_told {f : Addr} {fd : FuncData} (F : Fun K "_law_told" "_law_told" s__law_told f fd) (T : Txt K mg w cP cB cU cC dV dW cA cN cS cF cO cK cZ) (MX_Chamber_do : MeX P w K mg base 6 cC "do" ["self", "word"] (spDo (kdC cP cB cU) cC (exOf cA cN cS cF cO cK) K dW)) : FnOk P w K mg base CX0 7 f fd ["chamber", "word"] (spTold15 (kdC cP cB cU) cC K dW) := by
  refine F.ok sc__law_told (fun vs H Q E h => ?_) (fun cdv A outer s H vs Q E hr h => ?_)
  · obtain ⟨x, lk, S, W, rfl, hch, hok, q⟩ := h
    rfl
  obtain ⟨x, lk, S, W, rfl, hch, hok, q⟩ := h
  have hu : _ < cLine := hr.units0
  have hu1 := hu_of hr
  refine ⟨_, (pss_cons (ps_set (i := 2) sc__law_told.nd rfl (by first | exact Or.inl rfl | exact Or.inr rfl) (pe_lst pa_nil))
      (pss_cons (ps_set (i := 3) sc__law_told.nd rfl (by first | exact Or.inl rfl | exact Or.inr rfl) pe_non)
      (pss_cons (ps_tryAs (i := 4) rfl rfl rfl sc__law_told.nd rfl rfl rfl T.c_CanalError (fun _ _ hx => (pss_one (ps_set (i := 3) sc__law_told.nd rfl (by first | exact Or.inl rfl | exact Or.inr rfl) (pe_mX MX_Chamber_do hx hr (pv 0) (pa_cons (pv 1) pa_nil))))) (fun _ => (pss_cons (ps_set (i := 2) sc__law_told.nd rfl (by first | exact Or.inl rfl | exact Or.inr rfl) (pe_lst (pa_cons (pe_callB (call_isE (K := K)) (by rfl) T.z_isinstance PyProof.Rows.boot_isinstance (pa_cons (pv 4) (pa_cons (pe_glob (v := .ref cA) rfl T.c_Against rfl) pa_nil))) (pa_cons (pe_callB (call_isE (K := K)) (by rfl) T.z_isinstance PyProof.Rows.boot_isinstance (pa_cons (pv 4) (pa_cons (pe_glob (v := .ref cF) rfl T.c_Full rfl) pa_nil))) (pa_cons (pe_callB (call_isE (K := K)) (by rfl) T.z_isinstance PyProof.Rows.boot_isinstance (pa_cons (pv 4) (pa_cons (pe_glob (v := .ref cO) rfl T.c_NoBoat rfl) pa_nil))) (pa_cons (pe_callB (call_isE (K := K)) (by rfl) T.z_isinstance PyProof.Rows.boot_isinstance (pa_cons (pv 4) (pa_cons (pe_glob (v := .ref cN) rfl T.c_NotNow rfl) pa_nil))) pa_nil))))))
      (pss_one (ps_set (i := 2) sc__law_told.nd rfl (by first | exact Or.inl rfl | exact Or.inr rfl) (pe_op op_cat (pv 2) (pe_lst (pa_cons (pe_callB (call_isE (K := K)) (by rfl) T.z_isinstance PyProof.Rows.boot_isinstance (pa_cons (pv 4) (pa_cons (pe_glob (v := .ref cS) rfl T.c_Short rfl) pa_nil))) (pa_cons (pe_callB (call_isE (K := K)) (by rfl) T.z_isinstance PyProof.Rows.boot_isinstance (pa_cons (pv 4) (pa_cons (pe_glob (v := .ref cK) rfl T.c_Unknown rfl) pa_nil))) (pa_cons (pe_callB (call_isE (K := K)) (by rfl) T.z_isinstance PyProof.Rows.boot_isinstance (pa_cons (pv 4) (pa_cons (pe_bltn (v := .ty "ValueError") rfl T.z_ValueError PyProof.Rows.Boot.«ValueError» rfl) pa_nil))) pa_nil))))))))))
      (pss_one (ps_ret (pe_lst (pa_cons (pv 2) (pa_cons (pe_cmpR op_isN (pv 3) pe_non (nomark _)) pa_nil)))))))), ?_⟩
  refine ⟨(by show 0 ≤ sizeLine; decide), fun nm hnm0 => ?_⟩
  have s1 := same_new hnm0 (.lst [])
  have hnm : upd H nm (.lst []) nm = some (.lst []) := upd_same
  generalize upd H nm (.lst []) = H1 at s1 hnm ⊢
  have hch1 := hch.same s1
  have nnm : nm ≠ x := hch1.nel hnm
  have hch2 := hch1
  obtain ⟨dx, hd, ls, n, h₁, l, hx, hhd, hls, hlk, hne, hlen⟩ := hch2
  refine ⟨fun σ' c H' => ∃ e : Er, c = .ref ((exOf cA cN cS cF cO cK) e) ∧ stepC S W = .inl e ∧ σ' = [some (.ref x), some (.str (wdS W)), some (.ref nm), some .non, none] ∧ Same H H', ?_, ?_⟩
  · refine ⟨_, rfl, x, dx, _, rfl, hx, l_do _ _ _ _ _, _, rfl, x, lk, S, W, rfl, hch1, hok, fun e he H' sm => ⟨e, rfl, he, rfl, s1.trans sm⟩, fun S' he H2 kp hc => ?_⟩
    have hd := dueC_inr he
    refine ⟨_, rfl, _, rfl, rfl, ?_⟩
    rw [decide_eq_true (rfl : V.non = V.non)]
    refine ⟨(by show 2 ≤ sizeLine; decide), fun r hr => ?_⟩
    have u := same_new hr (.lst [V.ref nm, V.bl true])
    exact q S' (fun _ => he) (fun e z => by rw [hd] at z; cases z) r nm _ (((Keep.of s1).trans kp).trans (Keep.of u)) (hc.same u) upd_same (by rw [hd]; exact u _ _ (kp _ _ nnm hnm))
  · rintro σ' c H' ⟨e, rfl, he, rfl, sm⟩
    have hd := dueC_inl he
    refine ⟨_, rfl, T.exm e, fun ex hex => ?_⟩
    have v0 := same_new hex (ExcO ex ((exOf cA cN cS cF cO cK) e))
    have hx : upd H' ex (ExcO ex ((exOf cA cN cS cF cO cK) e)) ex = some (ExcO ex ((exOf cA cN cS cF cO cK) e)) := upd_same
    generalize upd H' ex (ExcO ex ((exOf cA cN cS cF cO cK) e)) = H3 at v0 hx ⊢
    refine ⟨_, rfl, ex, _, .ref cA, decide (erN e = 0), rfl, hx, T.eat e, T.ecl e, .inl ⟨_, rfl, T.k_Against e⟩, _, rfl, ex, _, .ref cF, decide (erN e = 1), rfl, hx, T.eat e, T.ecl e, .inl ⟨_, rfl, T.k_Full e⟩, _, rfl, ex, _, .ref cO, decide (erN e = 2), rfl, hx, T.eat e, T.ecl e, .inl ⟨_, rfl, T.k_NoBoat e⟩, _, rfl, ex, _, .ref cN, decide (erN e = 3), rfl, hx, T.eat e, T.ecl e, .inl ⟨_, rfl, T.k_NotNow e⟩, (by show 4 ≤ sizeLine; decide), fun l1 g1 => ?_⟩
    have t1 := same_new g1 (.lst [V.bl (decide (erN e = 0)), V.bl (decide (erN e = 1)), V.bl (decide (erN e = 2)), V.bl (decide (erN e = 3))])
    refine ⟨_, rfl, _, rfl, ex, _, .ref cS, decide (erN e = 4), rfl, (t1 _ _ hx), T.eat e, T.ecl e, .inl ⟨_, rfl, T.k_Short e⟩, _, rfl, ex, _, .ref cK, decide (erN e = 5), rfl, (t1 _ _ hx), T.eat e, T.ecl e, .inl ⟨_, rfl, T.k_Unknown e⟩, _, rfl, ex, _, .ty "ValueError", true, rfl, t1 _ _ hx, T.eat e, T.ecl e, .inl ⟨_, rfl, T.kV e⟩, (by show 3 ≤ sizeLine; decide), fun l2 g2 => ?_⟩
    have t2 := same_new g2 (.lst [V.bl (decide (erN e = 4)), V.bl (decide (erN e = 5)), V.bl true])
    refine ⟨l1, l2, _, _, rfl, rfl, t2 _ _ upd_same, upd_same, (by show 7 ≤ sizeLine; decide), fun l3 g3 => ?_⟩
    have t3 := same_new g3 (.lst ([V.bl (decide (erN e = 0)), V.bl (decide (erN e = 1)), V.bl (decide (erN e = 2)), V.bl (decide (erN e = 3))] ++ [V.bl (decide (erN e = 4)), V.bl (decide (erN e = 5)), V.bl true]))
    refine ⟨_, rfl, _, rfl, rfl, ?_⟩
    rw [decide_eq_true (rfl : V.non = V.non)]
    refine ⟨(by show 2 ≤ sizeLine; decide), fun r hr => ?_⟩
    have u := same_new hr (.lst [V.ref l3, V.bl true])
    have w := sm.trans (v0.trans (t1.trans (t2.trans (t3.trans u))))
    exact q S (fun z => by rw [hd] at z; cases z) (fun _ _ => rfl) r l3 _ (Keep.of w) (hch.same w) upd_same (by rw [hd]; exact u _ _ upd_same)
theorem sc__law_names : FnScope ["due"] ["due"] (defScope s__law_names) := ⟨rfl, rfl, rfl, by decide +kernel, rfl, by decide +kernel, by decide +kernel⟩
theorem ok_s__law_names {f : Addr} {fd : FuncData} (F : Fun K "_law_names" "_law_names" s__law_names f fd) (T : Txt K mg w cP cB cU cC dV dW cA cN cS cF cO cK cZ)  : FnOk P w K mg base CX0 1 f fd ["due"] (spNames) := by
  refine F.ok sc__law_names (fun vs H Q E h => ?_) (fun cdv A outer s H vs Q E hr h => ?_)
  · obtain ⟨o, rfl, q⟩ := h
    rfl
  obtain ⟨o, rfl, q⟩ := h
  have hu : _ < cLine := hr.units0
  have hu1 := hu_of hr
  refine ⟨_, (pss_cons (ps_if (pt_cmpR op_eq (pv 0) pe_str (nomark _)) (pss_one (ps_ret (pe_lst pa_nil))) pss_nil)
      (pss_one (ps_ret (pe_comp ["name", "due"] (capF 1 [0]) rfl (compScope (defScope s__law_names) rfl rfl (by decide +kernel) (by decide +kernel) (by decide +kernel)) (caps_of 1 [0] rfl rfl (by decide +kernel)) (pi_list (pe_lst (pa_cons pe_str (pa_cons pe_str (pa_cons pe_str (pa_cons pe_str (pa_cons pe_str (pa_cons pe_str (pa_cons (pv 0) pa_nil))))))))) (fun _ _ _ _ _ => (pg_name (i := 0) (show List.Nodup (["name", "due"] : List Str) from by decide +kernel) rfl (by first | exact Or.inl rfl | exact Or.inr rfl))) (fun _ _ _ _ _ => pts_nil) (fun _ _ _ _ _ => (pe_cmpR op_eq (pv 1) (pv 0) (nomark _))))))), ?_⟩
  cases o with
  | none => exact ⟨_, rfl, rfl, _, rfl, iteDT rfl ⟨(by show 0 ≤ sizeLine; decide), fun r hr => q r _ (same_new hr _) hr upd_same⟩⟩
  | some e =>
    refine ⟨_, rfl, rfl, _, rfl, iteDF (fun z => er_ne e (V.str.inj z)) ?_⟩
    refine ⟨_, rfl, (by show 7 ≤ sizeLine; decide), fun il hil => ?_⟩
    have s1 := same_new hil (.lst [V.str "Against", V.str "Full", V.str "NoBoat", V.str "NotNow", V.str "Short", V.str "Unknown", V.str (oS (some e))])
    have h1 : upd H il (.lst [V.str "Against", V.str "Full", V.str "NoBoat", V.str "NotNow", V.str "Short", V.str "Unknown", V.str (oS (some e))]) il = some (.lst [V.str "Against", V.str "Full", V.str "NoBoat", V.str "NotNow", V.str "Short", V.str "Unknown", V.str (oS (some e))]) := upd_same
    generalize upd H il (.lst [V.str "Against", V.str "Full", V.str "NoBoat", V.str "NotNow", V.str "Short", V.str "Unknown", V.str (oS (some e))]) = H1 at s1 h1 ⊢
    refine ⟨il, rfl, ⟨_, SqL.of h1⟩, fun D hD => ?_⟩
    refine comp_listR (K := K) (a := il) (caps := [some (.str (oS (some e)))]) (fun i ys Hi => ys = (namesV (some e)).take i) hD (SqL.of h1) rfl ?_ ?_
    · rintro i y ys Hi hy hi hle sm hY rfl
      have hi7 : i < 7 := hi
      refine rd_yes (iteT ?_)
      have key : ∃ s, y = V.str s ∧ (namesV (some e))[i]? = some (V.bl (decide (V.str (erS e) = V.str s))) := by
        rcases i with _ | _ | _ | _ | _ | _ | _ | i
        · cases hy; exact ⟨_, rfl, congrArg (fun b => some (V.bl b)) (er_dec e 0 (by decide)).symm⟩
        · cases hy; exact ⟨_, rfl, congrArg (fun b => some (V.bl b)) (er_dec e 1 (by decide)).symm⟩
        · cases hy; exact ⟨_, rfl, congrArg (fun b => some (V.bl b)) (er_dec e 2 (by decide)).symm⟩
        · cases hy; exact ⟨_, rfl, congrArg (fun b => some (V.bl b)) (er_dec e 3 (by decide)).symm⟩
        · cases hy; exact ⟨_, rfl, congrArg (fun b => some (V.bl b)) (er_dec e 4 (by decide)).symm⟩
        · cases hy; exact ⟨_, rfl, congrArg (fun b => some (V.bl b)) (er_dec e 5 (by decide)).symm⟩
        · cases hy; exact ⟨_, rfl, congrArg (fun b => some (V.bl b)) (decide_eq_true rfl).symm⟩
        · omega
      obtain ⟨s, rfl, hk⟩ := key
      refine ⟨_, rfl, _, rfl, rfl, ?_⟩
      refine comp_put hD sm hY hle (by omega) (Same.refl _) ?_
      rw [List.take_add_one, hk]
      rfl
    · rintro ys Hf sm hY hle rfl
      exact q D Hf (s1.trans sm) (s1.free hD) hY
theorem sc__law_looks : FnScope ["chamber", "state", "turn", "told", "gates", "inside"] ["chamber", "state", "turn"] (defScope s__law_looks) := ⟨rfl, rfl, rfl, by decide +kernel, rfl, by decide +kernel, by decide +kernel⟩
theorem ok_s__law_looks {f : Addr} {fd : FuncData} (F : Fun K "_law_looks" "_law_looks" s__law_looks f fd) (T : Txt K mg w cP cB cU cC dV dW cA cN cS cF cO cK cZ) (MM_Chamber_waters : MeD P w K mg base 1 cC "waters" ["self"] (spLook (kdC cP cB cU) cC isWaters)) (MM_Chamber_gates : MeD P w K mg base 1 cC "gates" ["self"] (spLook (kdC cP cB cU) cC isGates)) (MM_Chamber_boat : MeD P w K mg base 1 cC "boat" ["self"] (spLook (kdC cP cB cU) cC isBoat)) (D__law_pair : Def P w K mg base 1 "_law_pair" ["told"] [] (spPair)) (D__law_four : Def P w K mg base 2 "_law_four" ["told"] [] (spFour)) : FnOk P w K mg base CX0 3 f fd ["chamber", "state", "turn"] (spLooks15 (kdC cP cB cU) cC) := by
  refine F.ok sc__law_looks (fun vs H Q E h => ?_) (fun cdv A outer s H vs Q E hr h => ?_)
  · obtain ⟨x, lk, l, S, t, rfl, hch, ⟨fa, ga, hl, hfa, hga⟩, q⟩ := h
    rfl
  obtain ⟨x, lk, l, S, t, rfl, hch, ⟨fa, ga, hl, hfa, hga⟩, q⟩ := h
  have hu : _ < cLine := hr.units0
  have hu1 := hu_of hr
  refine ⟨_, (pss_cons (ps_set (i := 3) sc__law_looks.nd rfl (by first | exact Or.inl rfl | exact Or.inr rfl) (pe_m0 MM_Chamber_waters hr (pv 0)))
      (pss_cons (ps_set (i := 4) sc__law_looks.nd rfl (by first | exact Or.inl rfl | exact Or.inr rfl) (pe_m0 MM_Chamber_gates hr (pv 0)))
      (pss_cons (ps_set (i := 5) sc__law_looks.nd rfl (by first | exact Or.inl rfl | exact Or.inr rfl) (pe_m0 MM_Chamber_boat hr (pv 0)))
      (pss_cut (ps_if (pt_cmpR op_eq (pe_op op_mod (pv 2) pe_int) pe_int (nomark _)) (pss_cons (ps_set (i := 4) sc__law_looks.nd rfl (by first | exact Or.inl rfl | exact Or.inr rfl) (pe_m0 MM_Chamber_gates hr (pv 0)))
      (pss_cons (ps_set (i := 5) sc__law_looks.nd rfl (by first | exact Or.inl rfl | exact Or.inr rfl) (pe_m0 MM_Chamber_boat hr (pv 0)))
      (pss_one (ps_set (i := 3) sc__law_looks.nd rfl (by first | exact Or.inl rfl | exact Or.inr rfl) (pe_m0 MM_Chamber_waters hr (pv 0)))))) pss_nil)
      (pss_cons (ps_if (PW.pt (pw_or (pt_not (pt_val (pe_def D__law_four hr rfl (pa_cons (pv 3) pa_nil)))) (pw_or (pt_not (pt_val (pe_def D__law_pair hr rfl (pa_cons (pv 4) pa_nil)))) (pw_or1 (pt_not (pt_val (pe_callB call_isi (by rfl) T.z_isinstance PyProof.Rows.boot_isinstance (pa_cons (pv 5) (pa_cons (pe_bltn (v := .ty "bool") rfl T.z_bool PyProof.Rows.boot_bool rfl) pa_nil))))))))) (pss_one (ps_ret pe_bl)) pss_nil)
      (pss_one (ps_ret (pe_and (pe_cmpR (op_eqL hu) (pe_callTy call_list_of (by rfl) T.z_list PyProof.Rows.boot_list (pa_cons (pv 3) pa_nil)) (pe_ix ix_list (pv 1) pe_int (fun _ _ => rfl)) (nomark _)) (pe_and (pe_cmpR (op_eqL hu) (pe_callTy call_list_of (by rfl) T.z_list PyProof.Rows.boot_list (pa_cons (pv 4) pa_nil)) (pe_ix ix_list (pv 1) pe_int (fun _ _ => rfl)) (nomark _)) (pe_one (pe_cmpR op_eq (pv 5) (pe_ix ix_list (pv 1) pe_int (fun _ _ => rfl)) (nomark _)))))))))))), ?_⟩
  have hch0 := hch
  obtain ⟨dx, hd, ls, n, h₁, l₁, hx, hhd, hls, hlk, hne, hlen⟩ := hch
  refine ⟨_, rfl, x, dx, _, rfl, hx, l_waters _ _ _ _ _, x, lk, S, rfl, hch0, fun wv0 H1 s1 hw => ?_⟩
  obtain ⟨wa, rfl, hwa⟩ := hw
  refine ⟨_, rfl, x, dx, _, rfl, (s1 _ _ hx), l_gates _ _ _ _ _, x, lk, S, rfl, hch0.same s1, fun gv0 H2 s2 hg => ?_⟩
  obtain ⟨gv, rfl, hgv⟩ := hg
  have s12 := s1.trans s2
  refine ⟨_, rfl, x, dx, _, rfl, (s12 _ _ hx), l_boat _ _ _ _ _, x, lk, S, rfl, hch0.same s12, fun bv H3 s3 hb => ?_⟩
  have hb : bv = .bl S.ins := hb
  subst hb
  have s13 := s12.trans s3
  have hwa3 := s3 _ _ (s2 _ _ hwa)
  have hgv3 := s3 _ _ hgv
  refine ⟨fun σ' H' => ∃ wa gv : Addr, σ' = [some (.ref x), some (.ref l), some (.int t), some (.ref wa), some (.ref gv), some (.bl S.ins)] ∧ H' wa = some (.tup (S.w.map V.int)) ∧ H' gv = some (.tup (gts S.op)) ∧ Same H H', ?_, ?_⟩
  · refine ⟨_, rfl, _, _, rfl, rfl, (by show (0 : Int) < 2; decide), rfl, _, rfl, ite2 (fun _ => ?_) (fun _ => ⟨wa, gv, rfl, hwa3, hgv3, s13⟩)⟩
    refine ⟨_, rfl, x, dx, _, rfl, (s13 _ _ hx), l_gates _ _ _ _ _, x, lk, S, rfl, hch0.same s13, fun gv0 H4 s4 hg => ?_⟩
    obtain ⟨gv, rfl, hgv⟩ := hg
    have s14 := s13.trans s4
    refine ⟨_, rfl, x, dx, _, rfl, (s14 _ _ hx), l_boat _ _ _ _ _, x, lk, S, rfl, hch0.same s14, fun bv H5 s5 hb => ?_⟩
    have hb : bv = .bl S.ins := hb
    subst hb
    have s15 := s14.trans s5
    refine ⟨_, rfl, x, dx, _, rfl, (s15 _ _ hx), l_waters _ _ _ _ _, x, lk, S, rfl, hch0.same s15, fun wv0 H6 s6 hw => ?_⟩
    obtain ⟨wa, rfl, hwa⟩ := hw
    exact ⟨wa, gv, rfl, hwa, s6 _ _ (s5 _ _ hgv), s15.trans s6⟩
  clear hwa hgv hwa3 hgv3
  rintro σ' HF ⟨wa, gv, rfl, hwaF, hgaF, sF⟩
  refine ⟨_, rfl, wa, S.w, rfl, hwaF, hlen, _, rfl, iteF ⟨_, rfl, gv, _, _, rfl, hgaF, _, rfl, iteF ⟨_, rfl, _, _, _, _, _, rfl, rfl, TyOf.bl _, kit_same "bool", _, rfl, iteF ?_⟩⟩⟩
  refine ⟨_, rfl, wa, _, rfl, .inr (SqT.of hwaF), fun lc hlc => ?_⟩
  have u1 := same_new hlc (.lst (S.w.map V.int))
  have sF1 := sF.trans u1
  refine ⟨_, rfl, l, _, _, _, rfl, rfl, SqL.of (sF1 _ _ hl), rfl, lc, fa, _, rfl, rfl, SqL.of upd_same, SqL.of (sF1 _ _ hfa), flat4 _, _, rfl, iteT ?_⟩
  refine ⟨_, rfl, gv, _, rfl, .inr (SqT.of (u1 _ _ hgaF)), fun lg hlg => ?_⟩
  have u2 := same_new hlg (.lst (gts S.op))
  have sF2 := sF1.trans u2
  refine ⟨_, rfl, l, _, _, _, rfl, rfl, SqL.of (sF2 _ _ hl), rfl, lg, ga, _, rfl, rfl, SqL.of upd_same, SqL.of (sF2 _ _ hga), flatw2 _, _, rfl, iteT ?_⟩
  refine ⟨_, rfl, _, rfl, l, _, _, _, rfl, rfl, SqL.of (sF2 _ _ hl), rfl, rfl, ?_⟩
  rw [decide_eq_true rfl]
  exact q _ sF2
theorem sc_law : FnScope ["script", "kind", "room", "lock", "held", "least", "high", "low", "states", "made", "chambers", "cell", "which", "at", "due", "word", "k"] ["script"] (defScope s_law) := ⟨rfl, rfl, rfl, by decide +kernel, rfl, by decide +kernel, by decide +kernel⟩
theorem ok_s_law {f : Addr} {fd : FuncData} (F : Fun K "law" "law" s_law f fd) (T : Txt K mg w cP cB cU cC dV dW cA cN cS cF cO cK cZ) (D__law_cell_at : Def P w K mg base 1 "_law_cell_at" ["script", "k"] [] (spCell K)) (D__law_number : Def P w K mg base 1 "_law_number" ["cell"] [] (spNumber)) (D__law_side : Def P w K mg base 1 "_law_side" ["cell", "room"] [] (spSide)) (D__law_held : Def P w K mg base 1 "_law_held" ["cell", "side"] [] (spHeld3)) (D__law_water : Def P w K mg base 1 "_law_water" ["cell", "least", "room"] [] (spWater18)) (D__law_lock : Def P w K mg base 4 "_law_lock" ["kind", "room", "extra"] [] (spLockMade (kdC cP cB cU))) (M_Chamber : MkD P w K mg base 1 "Chamber" cC ["self", "lock", "waters", "least"] (spInitC (kdC cP cB cU) cC)) (D__law_choice : Def P w K mg base 3 "_law_choice" ["cell", "lock", "least", "state"] [] (spChoice)) (D__law_due : Def P w K mg base 2 "_law_due" ["at", "lock", "least", "state"] [] (spDue15)) (D__law_words : Def P w K mg base 1 "_law_words" [] [] (spTenW)) (D__law_stray : Def P w K mg base 1 "_law_stray" ["cell"] [] (spStray)) (D__law_told : Def P w K mg base 7 "_law_told" ["chamber", "word"] [] (spTold15 (kdC cP cB cU) cC K dW)) (D__law_names : Def P w K mg base 1 "_law_names" ["due"] [] (spNames)) (D__law_behind : Def P w K mg base 2 "_law_behind" ["at", "lock", "state"] [] (spBehind15)) (D__law_looks : Def P w K mg base 3 "_law_looks" ["chamber", "state", "turn"] [] (spLooks15 (kdC cP cB cU) cC)) : FnOk P w K mg base CX0 9 f fd ["script"] (spLaw K) := by
  refine F.ok sc_law (fun vs H Q E h => ?_) (fun cdv A outer s H vs Q E hr h => ?_)
  · obtain ⟨a, ns, rfl, hS, h63, q⟩ := h
    rfl
  obtain ⟨a, ns, rfl, hS, h63, q⟩ := h
  have hu : _ < cLine := hr.units0
  have hu1 := hu_of hr
  refine ⟨_, (pss_cons (ps_set (i := 1) sc_law.nd rfl (by first | exact Or.inl rfl | exact Or.inr rfl) (pe_op op_mod (pe_def D__law_cell_at hr rfl (pa_cons (pv 0) (pa_cons pe_int pa_nil))) pe_int))
      (pss_cons (ps_set (i := 2) sc_law.nd rfl (by first | exact Or.inl rfl | exact Or.inr rfl) (pe_op op_add pe_int (pe_op op_mod (pe_def D__law_number hr rfl (pa_cons (pe_def D__law_cell_at hr rfl (pa_cons (pv 0) (pa_cons pe_int pa_nil))) pa_nil)) pe_int)))
      (pss_cons (ps_set (i := 3) sc_law.nd rfl (by first | exact Or.inl rfl | exact Or.inr rfl) (pe_lst (pa_cons (pv 1) (pa_cons (pv 2) (pa_cons (pe_def D__law_side hr rfl (pa_cons (pe_def D__law_cell_at hr rfl (pa_cons (pv 0) (pa_cons pe_int pa_nil))) (pa_cons (pv 2) pa_nil))) pa_nil)))))
      (pss_cons (ps_set (i := 4) sc_law.nd rfl (by first | exact Or.inl rfl | exact Or.inr rfl) pe_int)
      (pss_cut (ps_if (pt_cmpR op_eq (pv 1) pe_int (nomark _)) (pss_one (ps_set (i := 4) sc_law.nd rfl (by first | exact Or.inl rfl | exact Or.inr rfl) (pe_def D__law_held hr rfl (pa_cons (pe_def D__law_cell_at hr rfl (pa_cons (pv 0) (pa_cons pe_int pa_nil))) (pa_cons (pe_ix ix_list (pv 3) pe_int (fun _ _ => rfl)) pa_nil))))) pss_nil)
      (pss_cons (ps_set (i := 5) sc_law.nd rfl (by first | exact Or.inl rfl | exact Or.inr rfl) (pe_lst (pa_cons (pe_def D__law_number hr rfl (pa_cons (pe_def D__law_cell_at hr rfl (pa_cons (pv 0) (pa_cons pe_int pa_nil))) pa_nil)) (pa_cons (pe_def D__law_number hr rfl (pa_cons (pe_def D__law_cell_at hr rfl (pa_cons (pv 0) (pa_cons pe_int pa_nil))) pa_nil)) pa_nil))))
      (pss_cons (ps_set (i := 6) sc_law.nd rfl (by first | exact Or.inl rfl | exact Or.inr rfl) (pe_def D__law_water hr rfl (pa_cons (pe_def D__law_cell_at hr rfl (pa_cons (pv 0) (pa_cons pe_int pa_nil))) (pa_cons (pe_ix ix_list (pv 5) pe_int (fun _ _ => rfl)) (pa_cons (pv 2) pa_nil)))))
      (pss_cons (ps_set (i := 7) sc_law.nd rfl (by first | exact Or.inl rfl | exact Or.inr rfl) (pe_def D__law_water hr rfl (pa_cons (pe_def D__law_cell_at hr rfl (pa_cons (pv 0) (pa_cons pe_int pa_nil))) (pa_cons (pe_ix ix_list (pv 5) pe_int (fun _ _ => rfl)) (pa_cons (pv 2) pa_nil)))))
      (pss_cons (ps_set (i := 8) sc_law.nd rfl (by first | exact Or.inl rfl | exact Or.inr rfl) (pe_lst (pa_cons (pe_lst (pa_cons (pe_lst (pa_cons (pv 6) (pa_cons (pv 7) (pa_cons pe_int (pa_cons (pv 4) pa_nil))))) (pa_cons (pe_lst (pa_cons pe_bl (pa_cons pe_bl pa_nil))) (pa_cons pe_bl pa_nil)))) (pa_cons (pe_lst (pa_cons (pe_lst (pa_cons (pv 6) (pa_cons (pv 7) (pa_cons (pv 2) (pa_cons (pv 4) pa_nil))))) (pa_cons (pe_lst (pa_cons pe_bl (pa_cons pe_bl pa_nil))) (pa_cons pe_bl pa_nil)))) pa_nil))))
      (pss_cons (ps_set (i := 9) sc_law.nd rfl (by first | exact Or.inl rfl | exact Or.inr rfl) (pe_def D__law_lock hr rfl (pa_cons (pv 1) (pa_cons (pv 2) (pa_cons (pe_ix ix_list (pv 3) pe_int (fun _ _ => rfl)) pa_nil)))))
      (pss_cons (ps_setComp (i := 10) ["state", "made", "least"] (capF 1 [9, 5]) sc_law.nd rfl (by first | exact Or.inl rfl | exact Or.inr rfl) rfl (compScope (defScope s_law) rfl rfl (by decide +kernel) (by decide +kernel) (by decide +kernel)) (caps_of 1 [9, 5] rfl rfl (by decide +kernel)) (pi_list (pv 8)) (fun _ _ _ _ _ => (pg_name (i := 0) (show List.Nodup (["state", "made", "least"] : List Str) from by decide +kernel) rfl (by first | exact Or.inl rfl | exact Or.inr rfl))) (fun _ _ _ _ _ => pts_nil) (fun _ _ _ _ _ => (pe_mk M_Chamber hr rfl (pa_cons (pv 1) (pa_cons (pe_callTy (call_tuple_ofK K) (by rfl) T.z_tuple PyProof.Rows.boot_tuple (pa_cons (pe_ix (ix_listK K) (pv 0) pe_int (fun _ _ => rfl)) pa_nil)) (pa_cons (pe_tup (pa_cons (pe_ix (ix_listK K) (pv 2) pe_int (fun _ _ => rfl)) (pa_cons (pe_ix (ix_listK K) (pv 2) pe_int (fun _ _ => rfl)) pa_nil))) pa_nil))))))
      (pss_cons (ps_for PassesOwn.never rfl (pi_list (pe_slice sl_list (pv 0) (po_some pe_int) po_none)) (pg_name (i := 11) sc_law.nd rfl (by first | exact Or.inl rfl | exact Or.inr rfl))
        (pss_cons (ps_set (i := 12) sc_law.nd rfl (by first | exact Or.inl rfl | exact Or.inr rfl) (pe_op op_mod (pv 11) pe_int))
      (pss_cons (ps_set (i := 13) sc_law.nd rfl (by first | exact Or.inl rfl | exact Or.inr rfl) (pe_def D__law_choice hr rfl (pa_cons (pe_op op_fdiv (pv 11) pe_int) (pa_cons (pv 3) (pa_cons (pv 5) (pa_cons (pe_ix ix_list (pv 8) (pv 12) (fun _ _ => rfl)) pa_nil))))))
      (pss_cons (ps_set (i := 14) sc_law.nd rfl (by first | exact Or.inl rfl | exact Or.inr rfl) (pe_def D__law_due hr rfl (pa_cons (pv 13) (pa_cons (pv 3) (pa_cons (pv 5) (pa_cons (pe_ix ix_list (pv 8) (pv 12) (fun _ _ => rfl)) pa_nil))))))
      (pss_cons (ps_set (i := 15) sc_law.nd rfl (by first | exact Or.inl rfl | exact Or.inr rfl) (pe_ix ix_list (pe_op op_cat (pe_def0 D__law_words hr rfl) (pe_lst (pa_cons (pe_def D__law_stray hr rfl (pa_cons (pe_op op_fdiv (pv 11) pe_int) pa_nil)) pa_nil))) (pv 13) (fun _ _ => rfl)))
      (pss_cons (ps_if (pt_cmpR (op_neD hu1) (pe_def D__law_told hr rfl (pa_cons (pe_ix ix_list (pv 10) (pv 12) (fun _ _ => rfl)) (pa_cons (pv 15) pa_nil))) (pe_lst (pa_cons (pe_def D__law_names hr rfl (pa_cons (pv 14) pa_nil)) (pa_cons pe_bl pa_nil))) (nomark _)) (pss_one (ps_ret pe_bl)) pss_nil)
      (pss_cut (ps_if (pt_cmpR op_eq (pv 14) pe_str (nomark _)) (pss_one (ps_asg (pe_def D__law_behind hr rfl (pa_cons (pv 13) (pa_cons (pv 3) (pa_cons (pe_ix ix_list (pv 8) (pv 12) (fun _ _ => rfl)) pa_nil)))) (pg_sub (pv 8) (pv 12) set_list))) pss_nil)
      (pss_one (ps_for PassesOwn.never rfl (pi_range1 (by rfl) T.z_range (pa_cons pe_int pa_nil)) (pg_name (i := 16) sc_law.nd rfl (by first | exact Or.inl rfl | exact Or.inr rfl))
        (pss_one (ps_if (pt_not (pt_val (pe_def D__law_looks hr rfl (pa_cons (pe_ix ix_list (pv 10) (pe_op op_mod (pe_op op_add (pv 12) (pv 16)) pe_int) (fun _ _ => rfl)) (pa_cons (pe_ix ix_list (pv 8) (pe_op op_mod (pe_op op_add (pv 12) (pv 16)) pe_int) (fun _ _ => rfl)) (pa_cons (pe_op op_fdiv (pv 11) pe_int) pa_nil)))))) (pss_one (ps_ret pe_bl)) pss_nil)))))))))))
      (pss_one (ps_ret pe_bl)))))))))))))), ?_⟩
  refine ⟨_, rfl, a, ns, 0, rfl, hS, _, _, rfl, rfl, (by show (0 : Int) < 3; decide), ?_⟩
  obtain ⟨kd, hkd⟩ := kd_of (ns.getD 0 0)
  try dsimp only
  rw [hkd]
  refine ⟨_, rfl, a, ns, 1, rfl, hS, _, rfl, _, _, rfl, rfl, (by show (0 : Int) < 999999999999; decide), _, _, rfl, rfl, ?_⟩
  have hroom : (1 : Int) ≤ 1 + numberK (ns.getD 1 0) % 999999999999 := by
    have := Int.emod_nonneg (numberK (ns.getD 1 0)) (by decide : (999999999999 : Int) ≠ 0)
    omega
  have hroom2 : 1 + numberK (ns.getD 1 0) % 999999999999 ≤ 999999999999 := by
    have := Int.emod_lt_of_pos (numberK (ns.getD 1 0)) (by decide : (0 : Int) < 999999999999)
    omega
  try dsimp only
  generalize 1 + numberK (ns.getD 1 0) % 999999999999 = room at hroom hroom2 ⊢

  refine ⟨_, rfl, _, rfl, _, rfl, a, ns, 2, rfl, hS, _, rfl, _, _, rfl, hroom, ?_⟩
  obtain ⟨hv1, hv2⟩ := sideK_le (c := ns.getD 2 0) hroom
  generalize sideK (ns.getD 2 0) room = v at hv1 hv2 ⊢
  refine ⟨(by show 3 ≤ sizeLine; decide), fun lo hlo0 => ?_⟩
  have t1 := same_new hlo0 (.lst [V.int (kdN kd), V.int room, V.int v])
  have hlo : upd H lo (.lst [V.int (kdN kd), V.int room, V.int v]) lo = some (.lst [V.int (kdN kd), V.int room, V.int v]) := upd_same
  generalize upd H lo (.lst [V.int (kdN kd), V.int room, V.int v]) = H1 at t1 hlo ⊢
  refine ⟨fun σ' H' => ∃ b : Int, σ' = [some (.ref a), some (.int (kdN kd)), some (.int room), some (.ref lo), some (.int b), none, none, none, none, none, none, none, none, none, none, none, none] ∧ GoodB kd room v b ∧ H1 = H', ?_, ?_⟩
  · cases kd with
    | plain => exact ⟨_, rfl, rfl, _, rfl, iteDF (fun e => absurd (V.int.inj e) (by decide)) ⟨0, rfl, ⟨hv1, hv2, Int.le_refl _, by omega, fun _ => rfl⟩, rfl⟩⟩
    | basin => exact ⟨_, rfl, rfl, _, rfl, iteDT rfl ⟨_, rfl, a, ns, 3, rfl, t1.seq hS, _, rfl, lo, _, _, _, rfl, rfl, SqL.of hlo, rfl, _, _, rfl, by omega, fun b h1 h2 => ⟨b, rfl, ⟨hv1, hv2, h1, h2, fun z => absurd rfl z⟩, rfl⟩⟩⟩
    | pump => exact ⟨_, rfl, rfl, _, rfl, iteDF (fun e => absurd (V.int.inj e) (by decide)) ⟨0, rfl, ⟨hv1, hv2, Int.le_refl _, by omega, fun _ => rfl⟩, rfl⟩⟩
  rintro σ' H' ⟨b, rfl, hg, rfl⟩
  refine ⟨_, rfl, a, ns, 4, rfl, t1.seq hS, _, rfl, _, rfl, a, ns, 5, rfl, t1.seq hS, _, rfl, ?_⟩
  generalize numberK (ns.getD 4 0) = lh
  generalize numberK (ns.getD 5 0) = ll
  refine ⟨(by show 2 ≤ sizeLine; decide), fun le hle0 => ?_⟩
  have t2 := t1.trans (same_new hle0 (.lst [V.int lh, V.int ll]))
  have hle : upd H1 le (.lst [V.int lh, V.int ll]) le = some (.lst [V.int lh, V.int ll]) := upd_same
  have hlo2 := (same_new hle0 (.lst [V.int lh, V.int ll])) _ _ hlo
  generalize upd H1 le (.lst [V.int lh, V.int ll]) = H2 at t2 hle hlo2 ⊢
  refine ⟨_, rfl, a, ns, 6, rfl, t2.seq hS, _, rfl, le, _, _, _, rfl, rfl, SqL.of hle, rfl, _, rfl, _, _, _, rfl, fun high => ?_⟩
  refine ⟨_, rfl, a, ns, 7, rfl, t2.seq hS, _, rfl, le, _, _, _, rfl, rfl, SqL.of hle, rfl, _, rfl, _, _, _, rfl, fun low => ?_⟩
  refine ⟨_, rfl, _, rfl, _, rfl, (by show 4 ≤ sizeLine; decide), fun f0 hf0 => ⟨(by show 2 ≤ sizeLine; decide), fun g0 hg0 => ⟨(by show 3 ≤ sizeLine; decide), fun s0 hs0 => ?_⟩⟩⟩
  have u1 := same_new hf0 (.lst [V.int high, V.int low, V.int 0, V.int b])
  have u2 := same_new hg0 (.lst [V.bl false, V.bl false])
  have u3 := same_new hs0 (.lst [V.ref f0, V.ref g0, V.bl false])
  have w3 := (u1.trans u2).trans u3
  have hst0 : StAt (upd (upd (upd H2 f0 (.lst [V.int high, V.int low, V.int 0, V.int b])) g0 (.lst [V.bl false, V.bl false])) s0 (.lst [V.ref f0, V.ref g0, V.bl false])) s0 (⟨kd, room, v, lh, ll, [high, low, 0, b], none, false⟩ : CSt) := ⟨f0, g0, upd_same, u3 _ _ (u2 _ _ upd_same), u3 _ _ upd_same⟩
  generalize upd (upd (upd H2 f0 (.lst [V.int high, V.int low, V.int 0, V.int b])) g0 (.lst [V.bl false, V.bl false])) s0 (.lst [V.ref f0, V.ref g0, V.bl false]) = H3 at w3 hst0 ⊢
  refine ⟨_, rfl, _, rfl, _, rfl, _, rfl, (by show 4 ≤ sizeLine; decide), fun f1 hf1 => ⟨(by show 2 ≤ sizeLine; decide), fun g1 hg1 => ⟨(by show 3 ≤ sizeLine; decide), fun s1 hs1 => ?_⟩⟩⟩
  have u4 := same_new hf1 (.lst [V.int high, V.int low, V.int room, V.int b])
  have u5 := same_new hg1 (.lst [V.bl false, V.bl false])
  have u6 := same_new hs1 (.lst [V.ref f1, V.ref g1, V.bl false])
  have w6 := (u4.trans u5).trans u6
  have hst1 : StAt (upd (upd (upd H3 f1 (.lst [V.int high, V.int low, V.int room, V.int b])) g1 (.lst [V.bl false, V.bl false])) s1 (.lst [V.ref f1, V.ref g1, V.bl false])) s1 (⟨kd, room, v, lh, ll, [high, low, room, b], none, false⟩ : CSt) := ⟨f1, g1, upd_same, u6 _ _ (u5 _ _ upd_same), u6 _ _ upd_same⟩
  generalize upd (upd (upd H3 f1 (.lst [V.int high, V.int low, V.int room, V.int b])) g1 (.lst [V.bl false, V.bl false])) s1 (.lst [V.ref f1, V.ref g1, V.bl false]) = H4 at w6 hst1 ⊢
  refine ⟨(by show 2 ≤ sizeLine; decide), fun sts hsts0 => ?_⟩
  have u7 := same_new hsts0 (.lst [V.ref s0, V.ref s1])
  have hsts : upd H4 sts (.lst [V.ref s0, V.ref s1]) sts = some (.lst [V.ref s0, V.ref s1]) := upd_same
  have w7 := (w3.trans w6).trans u7
  have hst0 := hst0.same (w6.trans u7)
  have hst1 := hst1.same u7
  generalize upd H4 sts (.lst [V.ref s0, V.ref s1]) = H5 at u7 hsts w7 hst0 hst1 ⊢
  refine ⟨_, rfl, _, rfl, _, rfl, lo, _, _, _, rfl, rfl, SqL.of (w7 _ _ hlo2), rfl, kd, room, v, rfl, fun lk H6 w8 hlk0 hlk => ?_⟩
  have w9 := w7.trans w8
  have hst0 := hst0.same w8
  have hst1 := hst1.same w8
  have hsts := w8 _ _ hsts
  have hle6 := w9 _ _ hle
  have hlo6 := w9 _ _ hlo2
  refine ⟨_, rfl, sts, rfl, ⟨_, SqL.of hsts⟩, fun cl hcl0 => ?_⟩
  refine comp_listR (K := K) (a := sts) (xs := [V.ref s0, V.ref s1]) (caps := [some (.ref lk), some (.ref le)]) (fun i ys Hi => ∃ zs : List Addr, ys = zs.map V.ref ∧ zs.length = i ∧ zs.Nodup ∧ ∀ j x, zs[j]? = some x → ChAt (kdC cP cB cU) cC Hi x lk (if j = 0 then (⟨kd, room, v, lh, ll, [high, low, 0, b], none, false⟩ : CSt) else (⟨kd, room, v, lh, ll, [high, low, room, b], none, false⟩ : CSt))) hcl0 (SqL.of hsts) ⟨[], rfl, rfl, List.nodup_nil, fun j x h => by cases h⟩ ?_ ?_
  · rintro i y ys Hi hy hi hln sm hY ⟨zs, rfl, hzl, hnd, hz⟩
    obtain ⟨s', rfl, fa, ga, hl, hfa, hga⟩ : ∃ s', y = V.ref s' ∧ StAt H6 s' (if i = 0 then (⟨kd, room, v, lh, ll, [high, low, 0, b], none, false⟩ : CSt) else (⟨kd, room, v, lh, ll, [high, low, room, b], none, false⟩ : CSt)) := by
      have hi2 : i < 2 := hi
      rcases i with _ | _ | i
      · cases hy; exact ⟨s0, rfl, hst0⟩
      · cases hy; exact ⟨s1, rfl, hst1⟩
      · omega
    obtain ⟨c, hcw⟩ : ∃ c : Int, (if i = 0 then (⟨kd, room, v, lh, ll, [high, low, 0, b], none, false⟩ : CSt) else (⟨kd, room, v, lh, ll, [high, low, room, b], none, false⟩ : CSt)) = (⟨kd, room, v, lh, ll, [high, low, c, b], none, false⟩ : CSt) := by
      by_cases h : i = 0
      · rw [if_pos h]; exact ⟨0, rfl⟩
      · rw [if_neg h]; exact ⟨room, rfl⟩
    have hfa : H6 fa = some (.lst [V.int high, V.int low, V.int c, V.int b]) := by rw [hcw] at hfa; exact hfa
    refine rd_yes (iteT ?_)
    refine ⟨_, rfl, _, rfl, s', _, _, _, rfl, rfl, SqL.of (sm _ _ hl), rfl, fa, _, rfl, .inl ⟨SqL.of (sm _ _ hfa), fun wt hwt0 => ?_⟩⟩
    have v1 := same_new hwt0 (.tup [V.int high, V.int low, V.int c, V.int b])
    have hwt : upd Hi wt (.tup [V.int high, V.int low, V.int c, V.int b]) wt = some (.tup ([high, low, c, b].map V.int)) := upd_same
    have smv := sm.trans v1
    generalize upd Hi wt (.tup [V.int high, V.int low, V.int c, V.int b]) = Hj at v1 hwt smv ⊢
    refine ⟨_, rfl, le, _, _, _, rfl, rfl, SqL.of (smv _ _ hle6), rfl, _, rfl, le, _, _, _, rfl, rfl, SqL.of (smv _ _ hle6), rfl, (by show 2 ≤ sizeLine; decide), fun lt hlt0 => ?_⟩
    have v2 := same_new hlt0 (.tup [V.int lh, V.int ll])
    have hlt : upd Hj lt (.tup [V.int lh, V.int ll]) lt = some (.tup [V.int lh, V.int ll]) := upd_same
    have hwt := v2 _ _ hwt
    have smw := smv.trans v2
    have v12 := v1.trans v2
    have hlkj := hlk.same smw
    generalize upd Hj lt (.tup [V.int lh, V.int ll]) = Hk at v2 hlt hwt smw v12 hlkj ⊢
    intro x dx nx ndx nex
    have uu : Same Hk (upd (upd Hk dx (.own x)) x (.ins cC dx [])) := fun b' o e => by rw [upd_ne (ne_of_none e nx), upd_ne (ne_of_none e ndx)]; exact e
    refine ⟨x, dx, lk, wt, lt, [high, low, c, b], kd, _, _, _, room, v, lh, ll, rfl, upd_same, uu _ _ hwt, rfl, uu _ _ hlt, hlkj.same uu, (by obtain ⟨dl, hl⟩ := hlkj; exact ne_of_none hl nx), fun Hl kp hch => ⟨rfl, ?_⟩⟩
    have sx : Same Hk Hl := fun b' o e => kp b' o (ne_of_none e nx) (uu _ _ e)
    have sil := v12.trans sx
    refine comp_put hcl0 sm hY hln (by have : i < 2 := hi; omega) sil ⟨zs ++ [x], by rw [List.map_append]; rfl, by rw [List.length_append]; show zs.length + 1 = i + 1; omega, ?_, ?_⟩
    · rw [List.nodup_append]
      refine ⟨hnd, by simp, fun y1 h1 y2 h2 => ?_⟩
      cases List.mem_singleton.mp h2
      obtain ⟨j, hj, he⟩ := List.mem_iff_getElem.mp h1
      obtain ⟨dx', hd', ls', n', h'', l'', hx', _⟩ := hz j y1 (by rw [List.getElem?_eq_getElem hj, he])
      exact ne_of_none (v12 _ _ hx') nx
    · intro j x' hx'
      by_cases hj : j < zs.length
      · rw [List.getElem?_append_left hj] at hx'
        exact ((hz j x' hx').same sil).updl (sil _ _ hY)
      · rw [List.getElem?_append_right (by omega)] at hx'
        have hj0 : j = zs.length := by
          by_cases h : j - zs.length = 0
          · omega
          · rw [List.getElem?_eq_none (by show 1 ≤ j - zs.length; omega)] at hx'; cases hx'
        rw [hj0, Nat.sub_self] at hx'
        cases hx'
        rw [hj0, hzl, hcw]
        exact hch.updl (sil _ _ hY)
  rintro ys Hf sm hY hln ⟨zs, rfl, hzl, hnd, hz⟩
  obtain ⟨x0, x1, rfl⟩ : ∃ x0 x1, zs = [x0, x1] := by
    match zs, hzl with
    | [x0, x1], _ => exact ⟨x0, x1, rfl⟩
  have hx01 : x0 ≠ x1 := by
    intro e
    rw [e] at hnd
    exact absurd hnd (by simp)
  have hz0 : ChAt (kdC cP cB cU) cC Hf x0 lk (⟨kd, room, v, lh, ll, [high, low, 0, b], none, false⟩ : CSt) := hz 0 x0 rfl
  have hz1 : ChAt (kdC cP cB cU) cC Hf x1 lk (⟨kd, room, v, lh, ll, [high, low, room, b], none, false⟩ : CSt) := hz 1 x1 rfl
  obtain ⟨cs, hcs, hlc⟩ := cutV_ints ns (some 8) none
  have w10 := (t2.trans w9).trans sm
  refine ⟨_, rfl, _, rfl, a, _, rfl, w10.seq hS, fun p hp => ?_⟩
  have u9 := same_new hp (.lst (cutV (ns.map V.int) (some 8) none))
  have hpl : upd Hf p (.lst (cutV (ns.map V.int) (some 8) none)) p = some (.lst (cs.map V.int)) := by rw [← hcs]; exact upd_same
  have sm9 := sm.trans u9
  have hcl : upd Hf p (.lst (cutV (ns.map V.int) (some 8) none)) cl = some (.lst [V.ref x0, V.ref x1]) := u9 _ _ hY
  have hz0 := hz0.same u9
  have hz1 := hz1.same u9
  generalize upd Hf p (.lst (cutV (ns.map V.int) (some 8) none)) = HB at u9 hpl sm9 hcl hz0 hz1 ⊢
  have hm0 : MInv (⟨kd, room, v, lh, ll, [high, low, 0, b], none, false⟩ : CSt) := ⟨high, low, 0, b, rfl, .inl rfl, hroom, hg⟩
  have hm1 : MInv (⟨kd, room, v, lh, ll, [high, low, room, b], none, false⟩ : CSt) := ⟨high, low, room, b, rfl, .inr rfl, hroom, hg⟩
  clear hz
  refine ⟨p, rfl, ⟨_, SqL.of hpl⟩, for_list (K := K) (a := p) (xs := cs.map V.int) (fun i σ Hi => ∃ (SS : Bool → CSt) (ss : Bool → Addr) (c11 c12 c13 c14 c15 c16 : Option V), σ = [some (.ref a), some (.int (kdN kd)), some (.int room), some (.ref lo), some (.int b), some (.ref le), some (.int high), some (.int low), some (.ref sts), some (.ref lk), some (.ref cl), c11, c12, c13, c14, c15, c16] ∧ G15 (kdC cP cB cU) cC x0 x1 lk sts cl p lo le cs (⟨kd, room, v, lh, ll, [high, low, 0, b], none, false⟩ : CSt) Hi SS SS ss)
    ⟨fun d => if d = true then (⟨kd, room, v, lh, ll, [high, low, room, b], none, false⟩ : CSt) else (⟨kd, room, v, lh, ll, [high, low, 0, b], none, false⟩ : CSt), fun d => if d = true then s1 else s0, none, none, none, none, none, none, rfl, (fun d => by cases d; exact hz0; exact hz1), (fun d => by cases d; exact hst0.same sm9; exact hst1.same sm9), (fun d => by cases d; exact hm0; exact hm1), (fun d => by cases d <;> exact ⟨rfl, rfl, rfl, rfl, rfl⟩), sm9 _ _ hsts, hcl, hpl, sm9 _ _ hlo6, sm9 _ _ hle6⟩ (fun i σ Hi _ ⟨_, _, _, _, _, _, _, _, _, g⟩ => SqL.of g.2.2.2.2.2.2.1) ?_ ?_⟩
  · rintro i y σ Hi hy ⟨SS, ss, c11, c12, c13, c14, c15, c16, rfl, g⟩
    obtain ⟨z, rfl, hz⟩ := get_ints hy
    obtain ⟨d, hd⟩ := bn_of z
    refine ⟨_, rfl, _, _, rfl, rfl, (by show (0 : Int) < 2; decide), ?_⟩
    try dsimp only
    rw [hd]
    have g0 := g
    obtain ⟨SSO, hSSO⟩ : ∃ SSO, SSO = SS := ⟨_, rfl⟩
    obtain ⟨g1, g2, g3, g4, g5, g6, g7, g8⟩ := g0
    have hlkd := g8.sl (g4 d)
    refine ⟨_, rfl, _, _, rfl, rfl, ⟨by decide, by decide⟩, _, rfl, _, rfl, _, rfl, _, rfl, sts, _, _, _, rfl, rfl, SqL.of g5, ss_at ss d, _, ss d, lo, le, SS d, rfl, hlkd, g2 d, g3 d, fun j Ha hj sa => ?_⟩
    obtain ⟨W0, hW0, hpick⟩ := pick15 T.nostray hj
    refine ⟨_, rfl, _, rfl, _, rfl, _, rfl, _, rfl, sts, _, _, _, rfl, rfl, SqL.of (sa _ _ g5), ss_at ss d, ss d, lo, le, SS d, j, W0, "", rfl, hlkd.same sa, (g2 d).same sa, g3 d, hW0, fun Hb sb => ?_⟩
    have sab := sa.trans sb
    refine ⟨rfl, fun tl Hc sc htl0 htl => ⟨_, rfl, _, _, rfl, rfl, ⟨by decide, by decide⟩, _, rfl, fun s Hd sd hs => ⟨(by show 1 ≤ sizeLine; decide), fun ol hol => ?_⟩⟩⟩
    obtain ⟨W, hW, hdue, hok, hat⟩ := hpick s hs
    have v1 := same_new hol (.lst [V.str s])
    refine ⟨tl, ol, _, _, rfl, rfl, v1 _ _ (sd _ _ htl), upd_same, (by show 11 ≤ sizeLine; decide), fun wl hwl => ⟨_, rfl, wl, _, _, _, rfl, rfl, SqL.of upd_same, hat, ?_⟩⟩
    have v2 := same_new hwl (.lst (wordsV tenW ++ [V.str s]))
    have s5 := (((sab.trans sc).trans sd).trans v1).trans v2
    have gE := g.same s5
    generalize upd (upd Hd ol (.lst [V.str s])) wl (.lst (wordsV tenW ++ [V.str s])) = HE at gE ⊢
    obtain ⟨e1, e2, e3, e4, e5, e6, e7, e8⟩ := gE
    have gE : G15 (kdC cP cB cU) cC x0 x1 lk sts cl p lo le cs (⟨kd, room, v, lh, ll, [high, low, 0, b], none, false⟩ : CSt) HE SS SS ss := ⟨e1, e2, e3, e4, e5, e6, e7, e8⟩
    refine ⟨_, rfl, _, rfl, cl, _, _, _, rfl, rfl, SqL.of e6, bx_at x0 x1 d, _, rfl, bx x0 x1 d, lk, SS d, W, rfl, e1 d, hok, fun S' hS1 hS2 tr nm HF kF hcF htr hnm => ?_⟩
    rw [hdue] at hS1 hS2 hnm
    have gF' := gE.keep hx01 kF hcF
    refine ⟨_, rfl, dueC (SS d) W0, rfl, fun r2 HG sG hr20 hr2 => ⟨(by show 2 ≤ sizeLine; decide), fun pl hpl' => ?_⟩⟩
    have u := same_new hpl' (.lst [V.ref r2, V.bl true])
    have sGu := sG.trans u
    refine ⟨tr, pl, _, _, [eqs (namesV (dueC (SS d) W0)) (namesV (dueC (SS d) W0)), true], rfl, rfl, SqL.of (sGu _ _ htr), SqL.of upd_same, rfl, rfl, told_deq (ne_of_none hnm hr20) (sGu _ _ hnm) (u _ _ hr2), _, rfl, iteC0 (by show (!(eqs _ _ && (true && true))) = false; rw [eqs_refl (names_flat _)]; rfl) ?_⟩
    have gH := gF'.same sGu
    generalize upd HG pl (.lst [V.ref r2, V.bl true]) = HH at gH ⊢
    refine ⟨fun σ' H' => ∃ (SS : Bool → CSt) (ss : Bool → Addr), σ' = [some (.ref a), some (.int (kdN kd)), some (.int room), some (.ref lo), some (.int b), some (.ref le), some (.int high), some (.int low), some (.ref sts), some (.ref lk), some (.ref cl), some (.int z), some (.int (bn d)), some (.int (j : Int)), some (.str (oS (dueC (SSO d) W0))), some (.str (wdS W)), c16] ∧ G15 (kdC cP cB cU) cC x0 x1 lk sts cl p lo le cs (⟨kd, room, v, lh, ll, [high, low, 0, b], none, false⟩ : CSt) H' SS SS ss, ?_, ?_⟩
    · refine ⟨_, rfl, rfl, _, rfl, ?_⟩
      cases hdc : dueC (SS d) W0 with
      | some e =>
        have := hS2 e hdc
        subst this
        rw [setF_same] at gH
        exact iteDF (fun z => er_ne e (V.str.inj z)) ⟨SS, ss, by rw [hSSO, hdc]; rfl, gH⟩
      | none =>
        have hstep := hS1 hdc
        obtain ⟨m1, m2⟩ := step_m (g3 d) hstep
        obtain ⟨h1, h2, h3, h4, h5, h6, h7, h8⟩ := gH
        have gH : G15 (kdC cP cB cU) cC x0 x1 lk sts cl p lo le cs (⟨kd, room, v, lh, ll, [high, low, 0, b], none, false⟩ : CSt) HH (setF SS d S') SS ss := ⟨h1, h2, h3, h4, h5, h6, h7, h8⟩
        refine iteDT rfl ⟨_, rfl, _, rfl, _, rfl, _, rfl, sts, _, _, _, rfl, rfl, SqL.of h5, ss_at ss d, ss d, lo, SS d, S', j, W, s, rfl, (h8.sl (g4 d)).1, h2 d, g3 d, hW, hstep, fun r HI sI hr => ?_⟩
        have gI := (gH.same sI).put (.inr trivial) hr m1 (m2.trans (g4 d))
        have hset : ([V.ref (ss false), V.ref (ss true)] : List V).set (bn d).toNat (V.ref r) = [V.ref (setF ss d r false), V.ref (setF ss d r true)] := by cases d <;> rfl
        have hix : ixN 2 (bn d) = some (bn d).toNat := by cases d <;> rfl
        refine ⟨_, rfl, _, rfl, sts, _, _, _, rfl, rfl, sI _ _ h5, hix, ?_⟩
        rw [hset]
        exact ⟨_, _, by rw [hSSO, hdc]; rfl, gI⟩
    rintro σ' HK ⟨SS, ss, rfl, g⟩
    refine ⟨_, rfl, by decide, by decide, for_range (n := Int.toNat 2) (fun i σ Hz => ∃ c : Option V, σ = [some (.ref a), some (.int (kdN kd)), some (.int room), some (.ref lo), some (.int b), some (.ref le), some (.int high), some (.int low), some (.ref sts), some (.ref lk), some (.ref cl), some (.int z), some (.int (bn d)), some (.int (j : Int)), some (.str (oS (dueC (SSO d) W0))), some (.str (wdS W)), c] ∧ G15 (kdC cP cB cU) cC x0 x1 lk sts cl p lo le cs (⟨kd, room, v, lh, ll, [high, low, 0, b], none, false⟩ : CSt) Hz SS SS ss) ⟨_, rfl, g⟩ ?_ ?_⟩
    · rintro i σ Hz hi ⟨c, rfl, g⟩
      rw [Int.zero_add]
      obtain ⟨d', hd'⟩ := bn_of (bn d + (i : Int))
      have g0 := g
      obtain ⟨g1, g2, g3, g4, g5, g6, g7, g8⟩ := g0
      refine ⟨_, rfl, _, rfl, _, rfl, _, _, rfl, rfl, _, _, rfl, rfl, (by show (0 : Int) < 2; decide), cl, _, _, _, rfl, rfl, SqL.of g6, (by rw [hd']; exact bx_at x0 x1 d'), _, rfl, _, rfl, _, rfl, _, _, rfl, rfl, _, _, rfl, rfl, (by show (0 : Int) < 2; decide), sts, _, _, _, rfl, rfl, SqL.of g5, (by rw [hd']; exact ss_at ss d'), _, rfl, _, _, rfl, rfl, ⟨by decide, by decide⟩, bx x0 x1 d', lk, ss d', SS d', _, rfl, g1 d', g2 d', fun H' s' => ⟨_, rfl, iteF ⟨_, rfl, g.same s'⟩⟩⟩
    · rintro σ Hz ⟨c, rfl, g⟩
      exact ⟨SS, ss, _, _, _, _, _, _, rfl, g⟩
  · rintro σ Hi ⟨SS, ss, c11, c12, c13, c14, c15, c16, rfl, _⟩
    exact q _
end
theorem all_mk {l : PySem.W.OpenLaw} {w : World} {K : PySem.W.Frag} {h : Heap} {mg : Str → Option Value} {fa f0 f1 f2 f3 f4 f5 f6 f7 f8 f9 f10 f11 f12 f13 f14 f15 f16 f17 f18 f19 f20 f21 f22 f23 f24 f25 f26 f27 f28 f29 f30 f31 f32 f33 f34 f35 f36 f37 f38 f39 f40 f41 f42 f43 f44 f45 f46 f47 : Addr} {cP cB cU cC dV dW : Addr} {cA cN cS cF cO cK : Addr} {esV esW : Array DictEntry} {nV nW : Nat} {tv0 tv1 tv2 tv3 : Tok} {tw0 tw1 tw2 tw3 tw4 tw5 tw6 tw7 tw8 tw9 : Addr} {ow0 ow1 ow2 ow3 ow4 ow5 ow6 ow7 ow8 ow9 : Obj} {ta0 tb0 ta1 tb1 ta2 tb2 ta3 tb3 ta4 tb4 ta5 tb5 ta6 tb6 ta7 tb7 ta8 tb8 ta9 tb9 : Tok} {nw0 nw1 nw2 nw3 nw4 nw5 nw6 nw7 nw8 nw9 : Nat} {cZ : Addr} {zd_cA zd_cN zd_cS zd_cF zd_cO zd_cK : ClassData} (X : K.In h) (G : h.Ns mainGlobals mg) (hfa : mg "law" = some (.ref fa))
    {od0 an0 : Option Addr} {sl0 : Array (Option Value)} {oc0 kV0 dc0 pm0 cd0 ct0 : Value}
    {od1 an1 : Option Addr} {sl1 : Array (Option Value)} {oc1 kV1 dc1 pm1 cd1 ct1 : Value}
    {od2 an2 : Option Addr} {sl2 : Array (Option Value)} {oc2 kV2 dc2 pm2 cd2 ct2 : Value}
    {od3 an3 : Option Addr} {sl3 : Array (Option Value)} {oc3 kV3 dc3 pm3 cd3 ct3 : Value}
    {od4 an4 : Option Addr} {sl4 : Array (Option Value)} {oc4 kV4 dc4 pm4 cd4 ct4 : Value}
    {od5 an5 : Option Addr} {sl5 : Array (Option Value)} {oc5 kV5 dc5 pm5 cd5 ct5 : Value}
    {od6 an6 : Option Addr} {sl6 : Array (Option Value)} {oc6 kV6 dc6 pm6 cd6 ct6 : Value}
    {od7 an7 : Option Addr} {sl7 : Array (Option Value)} {oc7 kV7 dc7 pm7 cd7 ct7 : Value}
    {od8 an8 : Option Addr} {sl8 : Array (Option Value)} {oc8 kV8 dc8 pm8 cd8 ct8 : Value}
    {od9 an9 : Option Addr} {sl9 : Array (Option Value)} {oc9 kV9 dc9 pm9 cd9 ct9 : Value}
    {od10 an10 : Option Addr} {sl10 : Array (Option Value)} {oc10 kV10 dc10 pm10 cd10 ct10 : Value}
    {od11 an11 : Option Addr} {sl11 : Array (Option Value)} {oc11 kV11 dc11 pm11 cd11 ct11 : Value}
    {od12 an12 : Option Addr} {sl12 : Array (Option Value)} {oc12 kV12 dc12 pm12 cd12 ct12 : Value}
    {od13 an13 : Option Addr} {sl13 : Array (Option Value)} {oc13 kV13 dc13 pm13 cd13 ct13 : Value}
    {od14 an14 : Option Addr} {sl14 : Array (Option Value)} {oc14 kV14 dc14 pm14 cd14 ct14 : Value}
    {od15 an15 : Option Addr} {sl15 : Array (Option Value)} {oc15 kV15 dc15 pm15 cd15 ct15 : Value}
    {od16 an16 : Option Addr} {sl16 : Array (Option Value)} {oc16 kV16 dc16 pm16 cd16 ct16 : Value}
    {od17 an17 : Option Addr} {sl17 : Array (Option Value)} {oc17 kV17 dc17 pm17 cd17 ct17 : Value}
    {od18 an18 : Option Addr} {sl18 : Array (Option Value)} {oc18 kV18 dc18 pm18 cd18 ct18 : Value}
    {od19 an19 : Option Addr} {sl19 : Array (Option Value)} {oc19 kV19 dc19 pm19 cd19 ct19 : Value}
    {od20 an20 : Option Addr} {sl20 : Array (Option Value)} {oc20 kV20 dc20 pm20 cd20 ct20 : Value}
    {od21 an21 : Option Addr} {sl21 : Array (Option Value)} {oc21 kV21 dc21 pm21 cd21 ct21 : Value}
    {od22 an22 : Option Addr} {sl22 : Array (Option Value)} {oc22 kV22 dc22 pm22 cd22 ct22 : Value}
    {od23 an23 : Option Addr} {sl23 : Array (Option Value)} {oc23 kV23 dc23 pm23 cd23 ct23 : Value}
    {od24 an24 : Option Addr} {sl24 : Array (Option Value)} {oc24 kV24 dc24 pm24 cd24 ct24 : Value}
    {od25 an25 : Option Addr} {sl25 : Array (Option Value)} {oc25 kV25 dc25 pm25 cd25 ct25 : Value}
    {od26 an26 : Option Addr} {sl26 : Array (Option Value)} {oc26 kV26 dc26 pm26 cd26 ct26 : Value}
    {od27 an27 : Option Addr} {sl27 : Array (Option Value)} {oc27 kV27 dc27 pm27 cd27 ct27 : Value}
    {od28 an28 : Option Addr} {sl28 : Array (Option Value)} {oc28 kV28 dc28 pm28 cd28 ct28 : Value}
    {od29 an29 : Option Addr} {sl29 : Array (Option Value)} {oc29 kV29 dc29 pm29 cd29 ct29 : Value}
    {od30 an30 : Option Addr} {sl30 : Array (Option Value)} {oc30 kV30 dc30 pm30 cd30 ct30 : Value}
    {od31 an31 : Option Addr} {sl31 : Array (Option Value)} {oc31 kV31 dc31 pm31 cd31 ct31 : Value}
    {od32 an32 : Option Addr} {sl32 : Array (Option Value)} {oc32 kV32 dc32 pm32 cd32 ct32 : Value}
    {od33 an33 : Option Addr} {sl33 : Array (Option Value)} {oc33 kV33 dc33 pm33 cd33 ct33 : Value}
    {od34 an34 : Option Addr} {sl34 : Array (Option Value)} {oc34 kV34 dc34 pm34 cd34 ct34 : Value}
    {od35 an35 : Option Addr} {sl35 : Array (Option Value)} {oc35 kV35 dc35 pm35 cd35 ct35 : Value}
    {od36 an36 : Option Addr} {sl36 : Array (Option Value)} {oc36 kV36 dc36 pm36 cd36 ct36 : Value}
    {od37 an37 : Option Addr} {sl37 : Array (Option Value)} {oc37 kV37 dc37 pm37 cd37 ct37 : Value}
    {od38 an38 : Option Addr} {sl38 : Array (Option Value)} {oc38 kV38 dc38 pm38 cd38 ct38 : Value}
    {od39 an39 : Option Addr} {sl39 : Array (Option Value)} {oc39 kV39 dc39 pm39 cd39 ct39 : Value}
    {od40 an40 : Option Addr} {sl40 : Array (Option Value)} {oc40 kV40 dc40 pm40 cd40 ct40 : Value}
    {od41 an41 : Option Addr} {sl41 : Array (Option Value)} {oc41 kV41 dc41 pm41 cd41 ct41 : Value}
    {od42 an42 : Option Addr} {sl42 : Array (Option Value)} {oc42 kV42 dc42 pm42 cd42 ct42 : Value}
    {od43 an43 : Option Addr} {sl43 : Array (Option Value)} {oc43 kV43 dc43 pm43 cd43 ct43 : Value}
    {od44 an44 : Option Addr} {sl44 : Array (Option Value)} {oc44 kV44 dc44 pm44 cd44 ct44 : Value}
    {od45 an45 : Option Addr} {sl45 : Array (Option Value)} {oc45 kV45 dc45 pm45 cd45 ct45 : Value}
    {od46 an46 : Option Addr} {sl46 : Array (Option Value)} {oc46 kV46 dc46 pm46 cd46 ct46 : Value}
    {od47 an47 : Option Addr} {sl47 : Array (Option Value)} {oc47 kV47 dc47 pm47 cd47 ct47 : Value}
    (aC_P : PySem.W.nsIn K mainGlobals "PlainLock" = some (some (.ref cP)))
    (aC_B : PySem.W.nsIn K mainGlobals "BasinLock" = some (some (.ref cB)))
    (aC_U : PySem.W.nsIn K mainGlobals "PumpLock" = some (some (.ref cU)))
    (aC_C : PySem.W.nsIn K mainGlobals "Chamber" = some (some (.ref cC)))
    (aV : PySem.W.nsIn K mainGlobals "VESSELS" = some (some (.ref dV)))
    (aW : PySem.W.nsIn K mainGlobals "WORDS" = some (some (.ref dW)))
    (lV : K.lookup dV = some ⟨.type "dict", none, .dict esV nV, #[]⟩)
    (lW : K.lookup dW = some ⟨.type "dict", none, .dict esW nW, #[]⟩)
    (aE_cA : PySem.W.nsIn K mainGlobals "Against" = some (some (.ref cA)))
    (aE_cN : PySem.W.nsIn K mainGlobals "NotNow" = some (some (.ref cN)))
    (aE_cS : PySem.W.nsIn K mainGlobals "Short" = some (some (.ref cS)))
    (aE_cF : PySem.W.nsIn K mainGlobals "Full" = some (some (.ref cF)))
    (aE_cO : PySem.W.nsIn K mainGlobals "NoBoat" = some (some (.ref cO)))
    (aE_cK : PySem.W.nsIn K mainGlobals "Unknown" = some (some (.ref cK)))
    (aE_cZ : PySem.W.nsIn K mainGlobals "CanalError" = some (some (.ref cZ)))
    (a0 : PySem.W.nsIn K mainGlobals "poured_all" = some (some (.ref f0)))
    (l0 : K.lookup f0 = some ⟨oc0, od0, .func (PySem.W.fnOf "poured_all" "poured_all" (defArgs s_poured_all) (defBody s_poured_all) (defScope s_poured_all) .none kV0 dc0 pm0 an0 cd0 ct0), sl0⟩)
    (c0 : PySem.W.codeIn K cd0 "poured_all" = true)
    (k0 : PySem.W.keepIn K (.ref f0) = true)
    (a1 : PySem.W.nsIn K mainGlobals "parts_not_nought" = some (some (.ref f1)))
    (l1 : K.lookup f1 = some ⟨oc1, od1, .func (PySem.W.fnOf "parts_not_nought" "parts_not_nought" (defArgs s_parts_not_nought) (defBody s_parts_not_nought) (defScope s_parts_not_nought) .none kV1 dc1 pm1 an1 cd1 ct1), sl1⟩)
    (c1 : PySem.W.codeIn K cd1 "parts_not_nought" = true)
    (k1 : PySem.W.keepIn K (.ref f1) = true)
    (a2 : PySem.W.findIn K (.ref cP) "__init__" = some (some (.ref f2)))
    (i2 : PySem.W.isFn K (.ref f2) = true)
    (ac2 : PySem.W.findCls K (.ref cP) (.type "type") "__init__" = some (.val (.ref f2)))
    (l2 : K.lookup f2 = some ⟨oc2, od2, .func (PySem.W.fnOf "__init__" "PlainLock.__init__" (defArgs s_PlainLock___init__) (defBody s_PlainLock___init__) (defScope s_PlainLock___init__) .none kV2 dc2 pm2 an2 cd2 ct2), sl2⟩)
    (c2 : PySem.W.codeIn K cd2 "PlainLock.__init__" = true)
    (k2 : PySem.W.keepIn K (.ref f2) = true)
    (a3 : PySem.W.findIn K (.ref cB) "__init__" = some (some (.ref f3)))
    (i3 : PySem.W.isFn K (.ref f3) = true)
    (l3 : K.lookup f3 = some ⟨oc3, od3, .func (PySem.W.fnOf "__init__" "BasinLock.__init__" (defArgs s_BasinLock___init__) (defBody s_BasinLock___init__) (defScope s_BasinLock___init__) .none kV3 dc3 pm3 an3 cd3 ct3), sl3⟩)
    (c3 : PySem.W.codeIn K cd3 "BasinLock.__init__" = true)
    (k3 : PySem.W.keepIn K (.ref f3) = true)
    (a4 : PySem.W.findIn K (.ref cU) "__init__" = some (some (.ref f4)))
    (i4 : PySem.W.isFn K (.ref f4) = true)
    (l4 : K.lookup f4 = some ⟨oc4, od4, .func (PySem.W.fnOf "__init__" "PumpLock.__init__" (defArgs s_PumpLock___init__) (defBody s_PumpLock___init__) (defScope s_PumpLock___init__) .none kV4 dc4 pm4 an4 cd4 ct4), sl4⟩)
    (c4 : PySem.W.codeIn K cd4 "PumpLock.__init__" = true)
    (k4 : PySem.W.keepIn K (.ref f4) = true)
    (a5 : PySem.W.findIn K (.ref cP) "fill_parts" = some (some (.ref f5)))
    (i5 : PySem.W.isFn K (.ref f5) = true)
    (l5 : K.lookup f5 = some ⟨oc5, od5, .func (PySem.W.fnOf "fill_parts" "PlainLock.fill_parts" (defArgs s_PlainLock_fill_parts) (defBody s_PlainLock_fill_parts) (defScope s_PlainLock_fill_parts) .none kV5 dc5 pm5 an5 cd5 ct5), sl5⟩)
    (c5 : PySem.W.codeIn K cd5 "PlainLock.fill_parts" = true)
    (k5 : PySem.W.keepIn K (.ref f5) = true)
    (a6 : PySem.W.findIn K (.ref cB) "fill_parts" = some (some (.ref f6)))
    (i6 : PySem.W.isFn K (.ref f6) = true)
    (l6 : K.lookup f6 = some ⟨oc6, od6, .func (PySem.W.fnOf "fill_parts" "BasinLock.fill_parts" (defArgs s_BasinLock_fill_parts) (defBody s_BasinLock_fill_parts) (defScope s_BasinLock_fill_parts) .none kV6 dc6 pm6 an6 cd6 ct6), sl6⟩)
    (c6 : PySem.W.codeIn K cd6 "BasinLock.fill_parts" = true)
    (k6 : PySem.W.keepIn K (.ref f6) = true)
    (a7 : PySem.W.findIn K (.ref cU) "fill_parts" = some (some (.ref f7)))
    (i7 : PySem.W.isFn K (.ref f7) = true)
    (l7 : K.lookup f7 = some ⟨oc7, od7, .func (PySem.W.fnOf "fill_parts" "PumpLock.fill_parts" (defArgs s_PumpLock_fill_parts) (defBody s_PumpLock_fill_parts) (defScope s_PumpLock_fill_parts) .none kV7 dc7 pm7 an7 cd7 ct7), sl7⟩)
    (c7 : PySem.W.codeIn K cd7 "PumpLock.fill_parts" = true)
    (k7 : PySem.W.keepIn K (.ref f7) = true)
    (a8 : PySem.W.findIn K (.ref cP) "let_parts" = some (some (.ref f8)))
    (a8_U : PySem.W.findIn K (.ref cU) "let_parts" = some (some (.ref f8)))
    (i8 : PySem.W.isFn K (.ref f8) = true)
    (l8 : K.lookup f8 = some ⟨oc8, od8, .func (PySem.W.fnOf "let_parts" "PlainLock.let_parts" (defArgs s_PlainLock_let_parts) (defBody s_PlainLock_let_parts) (defScope s_PlainLock_let_parts) .none kV8 dc8 pm8 an8 cd8 ct8), sl8⟩)
    (c8 : PySem.W.codeIn K cd8 "PlainLock.let_parts" = true)
    (k8 : PySem.W.keepIn K (.ref f8) = true)
    (a9 : PySem.W.findIn K (.ref cB) "let_parts" = some (some (.ref f9)))
    (i9 : PySem.W.isFn K (.ref f9) = true)
    (l9 : K.lookup f9 = some ⟨oc9, od9, .func (PySem.W.fnOf "let_parts" "BasinLock.let_parts" (defArgs s_BasinLock_let_parts) (defBody s_BasinLock_let_parts) (defScope s_BasinLock_let_parts) .none kV9 dc9 pm9 an9 cd9 ct9), sl9⟩)
    (c9 : PySem.W.codeIn K cd9 "BasinLock.let_parts" = true)
    (k9 : PySem.W.keepIn K (.ref f9) = true)
    (a10 : PySem.W.nsIn K mainGlobals "filling" = some (some (.ref f10)))
    (l10 : K.lookup f10 = some ⟨oc10, od10, .func (PySem.W.fnOf "filling" "filling" (defArgs s_filling) (defBody s_filling) (defScope s_filling) .none kV10 dc10 pm10 an10 cd10 ct10), sl10⟩)
    (c10 : PySem.W.codeIn K cd10 "filling" = true)
    (k10 : PySem.W.keepIn K (.ref f10) = true)
    (a11 : PySem.W.nsIn K mainGlobals "letting" = some (some (.ref f11)))
    (l11 : K.lookup f11 = some ⟨oc11, od11, .func (PySem.W.fnOf "letting" "letting" (defArgs s_letting) (defBody s_letting) (defScope s_letting) .none kV11 dc11 pm11 an11 cd11 ct11), sl11⟩)
    (c11 : PySem.W.codeIn K cd11 "letting" = true)
    (k11 : PySem.W.keepIn K (.ref f11) = true)
    (a12 : PySem.W.findIn K (.ref cC) "__init__" = some (some (.ref f12)))
    (i12 : PySem.W.isFn K (.ref f12) = true)
    (l12 : K.lookup f12 = some ⟨oc12, od12, .func (PySem.W.fnOf "__init__" "Chamber.__init__" (defArgs s_Chamber___init__) (defBody s_Chamber___init__) (defScope s_Chamber___init__) .none kV12 dc12 pm12 an12 cd12 ct12), sl12⟩)
    (c12 : PySem.W.codeIn K cd12 "Chamber.__init__" = true)
    (k12 : PySem.W.keepIn K (.ref f12) = true)
    (a13 : PySem.W.findIn K (.ref cC) "waters" = some (some (.ref f13)))
    (i13 : PySem.W.isFn K (.ref f13) = true)
    (l13 : K.lookup f13 = some ⟨oc13, od13, .func (PySem.W.fnOf "waters" "Chamber.waters" (defArgs s_Chamber_waters) (defBody s_Chamber_waters) (defScope s_Chamber_waters) .none kV13 dc13 pm13 an13 cd13 ct13), sl13⟩)
    (c13 : PySem.W.codeIn K cd13 "Chamber.waters" = true)
    (k13 : PySem.W.keepIn K (.ref f13) = true)
    (a14 : PySem.W.findIn K (.ref cC) "gates" = some (some (.ref f14)))
    (i14 : PySem.W.isFn K (.ref f14) = true)
    (l14 : K.lookup f14 = some ⟨oc14, od14, .func (PySem.W.fnOf "gates" "Chamber.gates" (defArgs s_Chamber_gates) (defBody s_Chamber_gates) (defScope s_Chamber_gates) .none kV14 dc14 pm14 an14 cd14 ct14), sl14⟩)
    (c14 : PySem.W.codeIn K cd14 "Chamber.gates" = true)
    (k14 : PySem.W.keepIn K (.ref f14) = true)
    (a15 : PySem.W.findIn K (.ref cC) "boat" = some (some (.ref f15)))
    (i15 : PySem.W.isFn K (.ref f15) = true)
    (l15 : K.lookup f15 = some ⟨oc15, od15, .func (PySem.W.fnOf "boat" "Chamber.boat" (defArgs s_Chamber_boat) (defBody s_Chamber_boat) (defScope s_Chamber_boat) .none kV15 dc15 pm15 an15 cd15 ct15), sl15⟩)
    (c15 : PySem.W.codeIn K cd15 "Chamber.boat" = true)
    (k15 : PySem.W.keepIn K (.ref f15) = true)
    (a16 : PySem.W.findIn K (.ref cC) "stands_at" = some (some (.ref f16)))
    (i16 : PySem.W.isFn K (.ref f16) = true)
    (l16 : K.lookup f16 = some ⟨oc16, od16, .func (PySem.W.fnOf "stands_at" "Chamber.stands_at" (defArgs s_Chamber_stands_at) (defBody s_Chamber_stands_at) (defScope s_Chamber_stands_at) .none kV16 dc16 pm16 an16 cd16 ct16), sl16⟩)
    (c16 : PySem.W.codeIn K cd16 "Chamber.stands_at" = true)
    (k16 : PySem.W.keepIn K (.ref f16) = true)
    (a17 : PySem.W.findIn K (.ref cC) "after_pours" = some (some (.ref f17)))
    (i17 : PySem.W.isFn K (.ref f17) = true)
    (l17 : K.lookup f17 = some ⟨oc17, od17, .func (PySem.W.fnOf "after_pours" "Chamber.after_pours" (defArgs s_Chamber_after_pours) (defBody s_Chamber_after_pours) (defScope s_Chamber_after_pours) .none kV17 dc17 pm17 an17 cd17 ct17), sl17⟩)
    (c17 : PySem.W.codeIn K cd17 "Chamber.after_pours" = true)
    (k17 : PySem.W.keepIn K (.ref f17) = true)
    (a18 : PySem.W.findIn K (.ref cC) "refuse_open_gate" = some (some (.ref f18)))
    (i18 : PySem.W.isFn K (.ref f18) = true)
    (l18 : K.lookup f18 = some ⟨oc18, od18, .func (PySem.W.fnOf "refuse_open_gate" "Chamber.refuse_open_gate" (defArgs s_Chamber_refuse_open_gate) (defBody s_Chamber_refuse_open_gate) (defScope s_Chamber_refuse_open_gate) .none kV18 dc18 pm18 an18 cd18 ct18), sl18⟩)
    (c18 : PySem.W.codeIn K cd18 "Chamber.refuse_open_gate" = true)
    (k18 : PySem.W.keepIn K (.ref f18) = true)
    (a19 : PySem.W.findIn K (.ref cC) "refuse_shut_gate" = some (some (.ref f19)))
    (i19 : PySem.W.isFn K (.ref f19) = true)
    (l19 : K.lookup f19 = some ⟨oc19, od19, .func (PySem.W.fnOf "refuse_shut_gate" "Chamber.refuse_shut_gate" (defArgs s_Chamber_refuse_shut_gate) (defBody s_Chamber_refuse_shut_gate) (defScope s_Chamber_refuse_shut_gate) .none kV19 dc19 pm19 an19 cd19 ct19), sl19⟩)
    (c19 : PySem.W.codeIn K cd19 "Chamber.refuse_shut_gate" = true)
    (k19 : PySem.W.keepIn K (.ref f19) = true)
    (a20 : PySem.W.findIn K (.ref cC) "open_gate" = some (some (.ref f20)))
    (i20 : PySem.W.isFn K (.ref f20) = true)
    (l20 : K.lookup f20 = some ⟨oc20, od20, .func (PySem.W.fnOf "open_gate" "Chamber.open_gate" (defArgs s_Chamber_open_gate) (defBody s_Chamber_open_gate) (defScope s_Chamber_open_gate) .none kV20 dc20 pm20 an20 cd20 ct20), sl20⟩)
    (c20 : PySem.W.codeIn K cd20 "Chamber.open_gate" = true)
    (k20 : PySem.W.keepIn K (.ref f20) = true)
    (a21 : PySem.W.findIn K (.ref cC) "shut_gate" = some (some (.ref f21)))
    (i21 : PySem.W.isFn K (.ref f21) = true)
    (l21 : K.lookup f21 = some ⟨oc21, od21, .func (PySem.W.fnOf "shut_gate" "Chamber.shut_gate" (defArgs s_Chamber_shut_gate) (defBody s_Chamber_shut_gate) (defScope s_Chamber_shut_gate) .none kV21 dc21 pm21 an21 cd21 ct21), sl21⟩)
    (c21 : PySem.W.codeIn K cd21 "Chamber.shut_gate" = true)
    (k21 : PySem.W.keepIn K (.ref f21) = true)
    (a22 : PySem.W.findIn K (.ref cC) "fill_chamber" = some (some (.ref f22)))
    (i22 : PySem.W.isFn K (.ref f22) = true)
    (l22 : K.lookup f22 = some ⟨oc22, od22, .func (PySem.W.fnOf "fill_chamber" "Chamber.fill_chamber" (defArgs s_Chamber_fill_chamber) (defBody s_Chamber_fill_chamber) (defScope s_Chamber_fill_chamber) .none kV22 dc22 pm22 an22 cd22 ct22), sl22⟩)
    (c22 : PySem.W.codeIn K cd22 "Chamber.fill_chamber" = true)
    (k22 : PySem.W.keepIn K (.ref f22) = true)
    (a23 : PySem.W.findIn K (.ref cC) "let_chamber" = some (some (.ref f23)))
    (i23 : PySem.W.isFn K (.ref f23) = true)
    (l23 : K.lookup f23 = some ⟨oc23, od23, .func (PySem.W.fnOf "let_chamber" "Chamber.let_chamber" (defArgs s_Chamber_let_chamber) (defBody s_Chamber_let_chamber) (defScope s_Chamber_let_chamber) .none kV23 dc23 pm23 an23 cd23 ct23), sl23⟩)
    (c23 : PySem.W.codeIn K cd23 "Chamber.let_chamber" = true)
    (k23 : PySem.W.keepIn K (.ref f23) = true)
    (a24 : PySem.W.findIn K (.ref cC) "boat_in" = some (some (.ref f24)))
    (i24 : PySem.W.isFn K (.ref f24) = true)
    (l24 : K.lookup f24 = some ⟨oc24, od24, .func (PySem.W.fnOf "boat_in" "Chamber.boat_in" (defArgs s_Chamber_boat_in) (defBody s_Chamber_boat_in) (defScope s_Chamber_boat_in) .none kV24 dc24 pm24 an24 cd24 ct24), sl24⟩)
    (c24 : PySem.W.codeIn K cd24 "Chamber.boat_in" = true)
    (k24 : PySem.W.keepIn K (.ref f24) = true)
    (a25 : PySem.W.findIn K (.ref cC) "boat_out" = some (some (.ref f25)))
    (i25 : PySem.W.isFn K (.ref f25) = true)
    (l25 : K.lookup f25 = some ⟨oc25, od25, .func (PySem.W.fnOf "boat_out" "Chamber.boat_out" (defArgs s_Chamber_boat_out) (defBody s_Chamber_boat_out) (defScope s_Chamber_boat_out) .none kV25 dc25 pm25 an25 cd25 ct25), sl25⟩)
    (c25 : PySem.W.codeIn K cd25 "Chamber.boat_out" = true)
    (k25 : PySem.W.keepIn K (.ref f25) = true)
    (a26 : PySem.W.findIn K (.ref cC) "do" = some (some (.ref f26)))
    (i26 : PySem.W.isFn K (.ref f26) = true)
    (l26 : K.lookup f26 = some ⟨oc26, od26, .func (PySem.W.fnOf "do" "Chamber.do" (defArgs s_Chamber_do) (defBody s_Chamber_do) (defScope s_Chamber_do) .none kV26 dc26 pm26 an26 cd26 ct26), sl26⟩)
    (c26 : PySem.W.codeIn K cd26 "Chamber.do" = true)
    (k26 : PySem.W.keepIn K (.ref f26) = true)
    (a27 : PySem.W.nsIn K mainGlobals "_law_whole" = some (some (.ref f27)))
    (l27 : K.lookup f27 = some ⟨oc27, od27, .func (PySem.W.fnOf "_law_whole" "_law_whole" (defArgs s__law_whole) (defBody s__law_whole) (defScope s__law_whole) .none kV27 dc27 pm27 an27 cd27 ct27), sl27⟩)
    (c27 : PySem.W.codeIn K cd27 "_law_whole" = true)
    (k27 : PySem.W.keepIn K (.ref f27) = true)
    (a28 : PySem.W.nsIn K mainGlobals "_law_cell_at" = some (some (.ref f28)))
    (l28 : K.lookup f28 = some ⟨oc28, od28, .func (PySem.W.fnOf "_law_cell_at" "_law_cell_at" (defArgs s__law_cell_at) (defBody s__law_cell_at) (defScope s__law_cell_at) .none kV28 dc28 pm28 an28 cd28 ct28), sl28⟩)
    (c28 : PySem.W.codeIn K cd28 "_law_cell_at" = true)
    (k28 : PySem.W.keepIn K (.ref f28) = true)
    (a29 : PySem.W.nsIn K mainGlobals "_law_number" = some (some (.ref f29)))
    (l29 : K.lookup f29 = some ⟨oc29, od29, .func (PySem.W.fnOf "_law_number" "_law_number" (defArgs s__law_number) (defBody s__law_number) (defScope s__law_number) .none kV29 dc29 pm29 an29 cd29 ct29), sl29⟩)
    (c29 : PySem.W.codeIn K cd29 "_law_number" = true)
    (k29 : PySem.W.keepIn K (.ref f29) = true)
    (a30 : PySem.W.nsIn K mainGlobals "_law_side" = some (some (.ref f30)))
    (l30 : K.lookup f30 = some ⟨oc30, od30, .func (PySem.W.fnOf "_law_side" "_law_side" (defArgs s__law_side) (defBody s__law_side) (defScope s__law_side) .none kV30 dc30 pm30 an30 cd30 ct30), sl30⟩)
    (c30 : PySem.W.codeIn K cd30 "_law_side" = true)
    (k30 : PySem.W.keepIn K (.ref f30) = true)
    (a31 : PySem.W.nsIn K mainGlobals "_law_held" = some (some (.ref f31)))
    (l31 : K.lookup f31 = some ⟨oc31, od31, .func (PySem.W.fnOf "_law_held" "_law_held" (defArgs s__law_held) (defBody s__law_held) (defScope s__law_held) .none kV31 dc31 pm31 an31 cd31 ct31), sl31⟩)
    (c31 : PySem.W.codeIn K cd31 "_law_held" = true)
    (k31 : PySem.W.keepIn K (.ref f31) = true)
    (a32 : PySem.W.nsIn K mainGlobals "_law_lock" = some (some (.ref f32)))
    (l32 : K.lookup f32 = some ⟨oc32, od32, .func (PySem.W.fnOf "_law_lock" "_law_lock" (defArgs s__law_lock) (defBody s__law_lock) (defScope s__law_lock) .none kV32 dc32 pm32 an32 cd32 ct32), sl32⟩)
    (c32 : PySem.W.codeIn K cd32 "_law_lock" = true)
    (k32 : PySem.W.keepIn K (.ref f32) = true)
    (a33 : PySem.W.nsIn K mainGlobals "_law_fill_gains" = some (some (.ref f33)))
    (l33 : K.lookup f33 = some ⟨oc33, od33, .func (PySem.W.fnOf "_law_fill_gains" "_law_fill_gains" (defArgs s__law_fill_gains) (defBody s__law_fill_gains) (defScope s__law_fill_gains) .none kV33 dc33 pm33 an33 cd33 ct33), sl33⟩)
    (c33 : PySem.W.codeIn K cd33 "_law_fill_gains" = true)
    (k33 : PySem.W.keepIn K (.ref f33) = true)
    (a34 : PySem.W.nsIn K mainGlobals "_law_let_gains" = some (some (.ref f34)))
    (l34 : K.lookup f34 = some ⟨oc34, od34, .func (PySem.W.fnOf "_law_let_gains" "_law_let_gains" (defArgs s__law_let_gains) (defBody s__law_let_gains) (defScope s__law_let_gains) .none kV34 dc34 pm34 an34 cd34 ct34), sl34⟩)
    (c34 : PySem.W.codeIn K cd34 "_law_let_gains" = true)
    (k34 : PySem.W.keepIn K (.ref f34) = true)
    (a35 : PySem.W.nsIn K mainGlobals "_law_water" = some (some (.ref f35)))
    (l35 : K.lookup f35 = some ⟨oc35, od35, .func (PySem.W.fnOf "_law_water" "_law_water" (defArgs s__law_water) (defBody s__law_water) (defScope s__law_water) .none kV35 dc35 pm35 an35 cd35 ct35), sl35⟩)
    (c35 : PySem.W.codeIn K cd35 "_law_water" = true)
    (k35 : PySem.W.keepIn K (.ref f35) = true)
    (a36 : PySem.W.nsIn K mainGlobals "_law_four" = some (some (.ref f36)))
    (l36 : K.lookup f36 = some ⟨oc36, od36, .func (PySem.W.fnOf "_law_four" "_law_four" (defArgs s__law_four) (defBody s__law_four) (defScope s__law_four) .none kV36 dc36 pm36 an36 cd36 ct36), sl36⟩)
    (c36 : PySem.W.codeIn K cd36 "_law_four" = true)
    (k36 : PySem.W.keepIn K (.ref f36) = true)
    (a37 : PySem.W.nsIn K mainGlobals "_law_pair" = some (some (.ref f37)))
    (l37 : K.lookup f37 = some ⟨oc37, od37, .func (PySem.W.fnOf "_law_pair" "_law_pair" (defArgs s__law_pair) (defBody s__law_pair) (defScope s__law_pair) .none kV37 dc37 pm37 an37 cd37 ct37), sl37⟩)
    (c37 : PySem.W.codeIn K cd37 "_law_pair" = true)
    (k37 : PySem.W.keepIn K (.ref f37) = true)
    (a38 : PySem.W.nsIn K mainGlobals "_law_words" = some (some (.ref f38)))
    (l38 : K.lookup f38 = some ⟨oc38, od38, .func (PySem.W.fnOf "_law_words" "_law_words" (defArgs s__law_words) (defBody s__law_words) (defScope s__law_words) .none kV38 dc38 pm38 an38 cd38 ct38), sl38⟩)
    (c38 : PySem.W.codeIn K cd38 "_law_words" = true)
    (k38 : PySem.W.keepIn K (.ref f38) = true)
    (a39 : PySem.W.nsIn K mainGlobals "_law_stray" = some (some (.ref f39)))
    (l39 : K.lookup f39 = some ⟨oc39, od39, .func (PySem.W.fnOf "_law_stray" "_law_stray" (defArgs s__law_stray) (defBody s__law_stray) (defScope s__law_stray) .none kV39 dc39 pm39 an39 cd39 ct39), sl39⟩)
    (c39 : PySem.W.codeIn K cd39 "_law_stray" = true)
    (k39 : PySem.W.keepIn K (.ref f39) = true)
    (a40 : PySem.W.nsIn K mainGlobals "_law_due_gate" = some (some (.ref f40)))
    (l40 : K.lookup f40 = some ⟨oc40, od40, .func (PySem.W.fnOf "_law_due_gate" "_law_due_gate" (defArgs s__law_due_gate) (defBody s__law_due_gate) (defScope s__law_due_gate) .none kV40 dc40 pm40 an40 cd40 ct40), sl40⟩)
    (c40 : PySem.W.codeIn K cd40 "_law_due_gate" = true)
    (k40 : PySem.W.keepIn K (.ref f40) = true)
    (a41 : PySem.W.nsIn K mainGlobals "_law_due" = some (some (.ref f41)))
    (l41 : K.lookup f41 = some ⟨oc41, od41, .func (PySem.W.fnOf "_law_due" "_law_due" (defArgs s__law_due) (defBody s__law_due) (defScope s__law_due) .none kV41 dc41 pm41 an41 cd41 ct41), sl41⟩)
    (c41 : PySem.W.codeIn K cd41 "_law_due" = true)
    (k41 : PySem.W.keepIn K (.ref f41) = true)
    (a42 : PySem.W.nsIn K mainGlobals "_law_behind" = some (some (.ref f42)))
    (l42 : K.lookup f42 = some ⟨oc42, od42, .func (PySem.W.fnOf "_law_behind" "_law_behind" (defArgs s__law_behind) (defBody s__law_behind) (defScope s__law_behind) .none kV42 dc42 pm42 an42 cd42 ct42), sl42⟩)
    (c42 : PySem.W.codeIn K cd42 "_law_behind" = true)
    (k42 : PySem.W.keepIn K (.ref f42) = true)
    (a43 : PySem.W.nsIn K mainGlobals "_law_choice" = some (some (.ref f43)))
    (l43 : K.lookup f43 = some ⟨oc43, od43, .func (PySem.W.fnOf "_law_choice" "_law_choice" (defArgs s__law_choice) (defBody s__law_choice) (defScope s__law_choice) .none kV43 dc43 pm43 an43 cd43 ct43), sl43⟩)
    (c43 : PySem.W.codeIn K cd43 "_law_choice" = true)
    (k43 : PySem.W.keepIn K (.ref f43) = true)
    (a44 : PySem.W.nsIn K mainGlobals "_law_told" = some (some (.ref f44)))
    (l44 : K.lookup f44 = some ⟨oc44, od44, .func (PySem.W.fnOf "_law_told" "_law_told" (defArgs s__law_told) (defBody s__law_told) (defScope s__law_told) .none kV44 dc44 pm44 an44 cd44 ct44), sl44⟩)
    (c44 : PySem.W.codeIn K cd44 "_law_told" = true)
    (k44 : PySem.W.keepIn K (.ref f44) = true)
    (a45 : PySem.W.nsIn K mainGlobals "_law_names" = some (some (.ref f45)))
    (l45 : K.lookup f45 = some ⟨oc45, od45, .func (PySem.W.fnOf "_law_names" "_law_names" (defArgs s__law_names) (defBody s__law_names) (defScope s__law_names) .none kV45 dc45 pm45 an45 cd45 ct45), sl45⟩)
    (c45 : PySem.W.codeIn K cd45 "_law_names" = true)
    (k45 : PySem.W.keepIn K (.ref f45) = true)
    (a46 : PySem.W.nsIn K mainGlobals "_law_looks" = some (some (.ref f46)))
    (l46 : K.lookup f46 = some ⟨oc46, od46, .func (PySem.W.fnOf "_law_looks" "_law_looks" (defArgs s__law_looks) (defBody s__law_looks) (defScope s__law_looks) .none kV46 dc46 pm46 an46 cd46 ct46), sl46⟩)
    (c46 : PySem.W.codeIn K cd46 "_law_looks" = true)
    (k46 : PySem.W.keepIn K (.ref f46) = true)
    (a47 : PySem.W.nsIn K mainGlobals "law" = some (some (.ref f47)))
    (l47 : K.lookup f47 = some ⟨oc47, od47, .func (PySem.W.fnOf "law" "law" (defArgs s_law) (defBody s_law) (defScope s_law) .none kV47 dc47 pm47 an47 cd47 ct47), sl47⟩)
    (c47 : PySem.W.codeIn K cd47 "law" = true)
    (k47 : PySem.W.keepIn K (.ref f47) = true)
    (z_list : PySem.W.nsIn K mainGlobals "list" = some none)
    (z_tuple : PySem.W.nsIn K mainGlobals "tuple" = some none)
    (z_isinstance : PySem.W.nsIn K mainGlobals "isinstance" = some none)
    (z_bool : PySem.W.nsIn K mainGlobals "bool" = some none)
    (z_int : PySem.W.nsIn K mainGlobals "int" = some none)
    (z_len : PySem.W.nsIn K mainGlobals "len" = some none)
    (z_max : PySem.W.nsIn K mainGlobals "max" = some none)
    (z_range : PySem.W.nsIn K mainGlobals "range" = some none)
    (z_ValueError : PySem.W.nsIn K mainGlobals "ValueError" = some none)
    (pg_P : PySem.W.plainGet K cP Str.empty = true)
    (hdd_P : PySem.W.hasDictIn K cP = true)
    (po_P : PySem.W.plainOver K cP = true)
    (sa_P : PySem.W.findIn K (.ref cP) "__setattr__" = some (some (.builtin "object.__setattr__")))
    (mk_P : PySem.W.makesIn K cP = true)
    (kc_P : PySem.W.keepIn K (.ref cP) = true)
    (n_name_P : PySem.W.findIn K (.ref cP) "name" = some none)
    (n_high_P : PySem.W.findIn K (.ref cP) "high" = some none)
    (n_low_P : PySem.W.findIn K (.ref cP) "low" = some none)
    (n_room_P : PySem.W.findIn K (.ref cP) "room" = some none)
    (pg_B : PySem.W.plainGet K cB Str.empty = true)
    (hdd_B : PySem.W.hasDictIn K cB = true)
    (po_B : PySem.W.plainOver K cB = true)
    (sa_B : PySem.W.findIn K (.ref cB) "__setattr__" = some (some (.builtin "object.__setattr__")))
    (mk_B : PySem.W.makesIn K cB = true)
    (kc_B : PySem.W.keepIn K (.ref cB) = true)
    (n_name_B : PySem.W.findIn K (.ref cB) "name" = some none)
    (n_high_B : PySem.W.findIn K (.ref cB) "high" = some none)
    (n_low_B : PySem.W.findIn K (.ref cB) "low" = some none)
    (n_room_B : PySem.W.findIn K (.ref cB) "room" = some none)
    (n_side_B : PySem.W.findIn K (.ref cB) "side" = some none)
    (pg_U : PySem.W.plainGet K cU Str.empty = true)
    (hdd_U : PySem.W.hasDictIn K cU = true)
    (po_U : PySem.W.plainOver K cU = true)
    (sa_U : PySem.W.findIn K (.ref cU) "__setattr__" = some (some (.builtin "object.__setattr__")))
    (mk_U : PySem.W.makesIn K cU = true)
    (kc_U : PySem.W.keepIn K (.ref cU) = true)
    (n_name_U : PySem.W.findIn K (.ref cU) "name" = some none)
    (n_high_U : PySem.W.findIn K (.ref cU) "high" = some none)
    (n_low_U : PySem.W.findIn K (.ref cU) "low" = some none)
    (n_room_U : PySem.W.findIn K (.ref cU) "room" = some none)
    (n_lift_U : PySem.W.findIn K (.ref cU) "lift" = some none)
    (g1 : PySem.W.specialIn K (.ref cP) "__getattribute__" = some (some (.builtin "type.__getattribute__")))
    (g2 : PySem.W.readsIn K cP (.type "type") = true)
    (pg_C : PySem.W.plainGet K cC Str.empty = true)
    (hdd_C : PySem.W.hasDictIn K cC = true)
    (po_C : PySem.W.plainOver K cC = true)
    (sa_C : PySem.W.findIn K (.ref cC) "__setattr__" = some (some (.builtin "object.__setattr__")))
    (mk_C : PySem.W.makesIn K cC = true)
    (kc_C : PySem.W.keepIn K (.ref cC) = true)
    (nC_lock : PySem.W.findIn K (.ref cC) "lock" = some none)
    (nC_held : PySem.W.findIn K (.ref cC) "held" = some none)
    (nC_least : PySem.W.findIn K (.ref cC) "least" = some none)
    (nC_open_side : PySem.W.findIn K (.ref cC) "open_side" = some none)
    (nC_inside : PySem.W.findIn K (.ref cC) "inside" = some none)
    (ksV : PySem.W.KeysLit w.params esV.toList)
    (ksW : PySem.W.KeysLit w.params esW.toList)
    (oV : (dV == sysModules) = false)
    (oW : (dW == sysModules) = false)
    (v0 : PySem.W.nsIn K dV "high" = some (some (.int 0 tv0)))
    (v1 : PySem.W.nsIn K dV "low" = some (some (.int 1 tv1)))
    (v2 : PySem.W.nsIn K dV "chamber" = some (some (.int 2 tv2)))
    (v3 : PySem.W.nsIn K dV "basin" = some (some (.int 3 tv3)))
    (n0_ : PySem.W.nsIn K dW "open high" = some (some (.ref tw0)))
    (lw0 : K.lookup tw0 = some ow0)
    (cw0 : ow0.cls = .type "tuple")
    (dw0 : ow0.data = .seq ([.str "open" ta0, .str "high" tb0] : List Value).toArray nw0)
    (n1_ : PySem.W.nsIn K dW "open low" = some (some (.ref tw1)))
    (lw1 : K.lookup tw1 = some ow1)
    (cw1 : ow1.cls = .type "tuple")
    (dw1 : ow1.data = .seq ([.str "open" ta1, .str "low" tb1] : List Value).toArray nw1)
    (n2_ : PySem.W.nsIn K dW "shut high" = some (some (.ref tw2)))
    (lw2 : K.lookup tw2 = some ow2)
    (cw2 : ow2.cls = .type "tuple")
    (dw2 : ow2.data = .seq ([.str "shut" ta2, .str "high" tb2] : List Value).toArray nw2)
    (n3_ : PySem.W.nsIn K dW "shut low" = some (some (.ref tw3)))
    (lw3 : K.lookup tw3 = some ow3)
    (cw3 : ow3.cls = .type "tuple")
    (dw3 : ow3.data = .seq ([.str "shut" ta3, .str "low" tb3] : List Value).toArray nw3)
    (n4_ : PySem.W.nsIn K dW "fill" = some (some (.ref tw4)))
    (lw4 : K.lookup tw4 = some ow4)
    (cw4 : ow4.cls = .type "tuple")
    (dw4 : ow4.data = .seq ([.str "fill" ta4, .str "" tb4] : List Value).toArray nw4)
    (n5_ : PySem.W.nsIn K dW "let" = some (some (.ref tw5)))
    (lw5 : K.lookup tw5 = some ow5)
    (cw5 : ow5.cls = .type "tuple")
    (dw5 : ow5.data = .seq ([.str "let" ta5, .str "" tb5] : List Value).toArray nw5)
    (n6_ : PySem.W.nsIn K dW "in high" = some (some (.ref tw6)))
    (lw6 : K.lookup tw6 = some ow6)
    (cw6 : ow6.cls = .type "tuple")
    (dw6 : ow6.data = .seq ([.str "in" ta6, .str "high" tb6] : List Value).toArray nw6)
    (n7_ : PySem.W.nsIn K dW "in low" = some (some (.ref tw7)))
    (lw7 : K.lookup tw7 = some ow7)
    (cw7 : ow7.cls = .type "tuple")
    (dw7 : ow7.data = .seq ([.str "in" ta7, .str "low" tb7] : List Value).toArray nw7)
    (n8_ : PySem.W.nsIn K dW "out high" = some (some (.ref tw8)))
    (lw8 : K.lookup tw8 = some ow8)
    (cw8 : ow8.cls = .type "tuple")
    (dw8 : ow8.data = .seq ([.str "out" ta8, .str "high" tb8] : List Value).toArray nw8)
    (n9_ : PySem.W.nsIn K dW "out low" = some (some (.ref tw9)))
    (lw9 : K.lookup tw9 = some ow9)
    (cw9 : ow9.cls = .type "tuple")
    (dw9 : ow9.data = .seq ([.str "out" ta9, .str "low" tb9] : List Value).toArray nw9)
    (xE_cA : PySem.W.excIn K cA [.type "ValueError", .type "Exception", .type "BaseException", .type "object"] "ValueError.__new__" = true)
    (xE_cN : PySem.W.excIn K cN [.type "ValueError", .type "Exception", .type "BaseException", .type "object"] "ValueError.__new__" = true)
    (xE_cS : PySem.W.excIn K cS [.type "ValueError", .type "Exception", .type "BaseException", .type "object"] "ValueError.__new__" = true)
    (xE_cF : PySem.W.excIn K cF [.type "ValueError", .type "Exception", .type "BaseException", .type "object"] "ValueError.__new__" = true)
    (xE_cO : PySem.W.excIn K cO [.type "ValueError", .type "Exception", .type "BaseException", .type "object"] "ValueError.__new__" = true)
    (xE_cK : PySem.W.excIn K cK [.type "ValueError", .type "Exception", .type "BaseException", .type "object"] "ValueError.__new__" = true)
    (exm_cA : PySem.W.exmOne K (.ref cA) (.ref cZ) = some true)
    (eg_cA : PySem.W.findIn K (.ref cA) "__getattribute__" = some (some (.builtin "BaseException.__getattribute__")))
    (en_cA : PySem.W.findIn K (.ref cA) "__getattr__" = some none)
    (ec_cA : PySem.W.findIn K (.ref cA) "__class__" = some (some (.builtin "object.__class__")))
    (eo_cA : PySem.W.mroIn K cA (.type "object") = some true)
    (eb_cA : PySem.W.subIn K (.ref cA) (.type "BaseException") = some true)
    (cl_cA : PySem.W.clsIn K cA = some zd_cA)
    (kv_cA : PySem.W.kitOne K (.ref cA) (.type "ValueError") = some true)
    (kk_cA_cA : PySem.W.kitOne K (.ref cA) (.ref cA) = some true)
    (kk_cA_cF : PySem.W.kitOne K (.ref cA) (.ref cF) = some false)
    (kk_cA_cO : PySem.W.kitOne K (.ref cA) (.ref cO) = some false)
    (kk_cA_cN : PySem.W.kitOne K (.ref cA) (.ref cN) = some false)
    (kk_cA_cS : PySem.W.kitOne K (.ref cA) (.ref cS) = some false)
    (kk_cA_cK : PySem.W.kitOne K (.ref cA) (.ref cK) = some false)
    (exm_cF : PySem.W.exmOne K (.ref cF) (.ref cZ) = some true)
    (eg_cF : PySem.W.findIn K (.ref cF) "__getattribute__" = some (some (.builtin "BaseException.__getattribute__")))
    (en_cF : PySem.W.findIn K (.ref cF) "__getattr__" = some none)
    (ec_cF : PySem.W.findIn K (.ref cF) "__class__" = some (some (.builtin "object.__class__")))
    (eo_cF : PySem.W.mroIn K cF (.type "object") = some true)
    (eb_cF : PySem.W.subIn K (.ref cF) (.type "BaseException") = some true)
    (cl_cF : PySem.W.clsIn K cF = some zd_cF)
    (kv_cF : PySem.W.kitOne K (.ref cF) (.type "ValueError") = some true)
    (kk_cF_cA : PySem.W.kitOne K (.ref cF) (.ref cA) = some false)
    (kk_cF_cF : PySem.W.kitOne K (.ref cF) (.ref cF) = some true)
    (kk_cF_cO : PySem.W.kitOne K (.ref cF) (.ref cO) = some false)
    (kk_cF_cN : PySem.W.kitOne K (.ref cF) (.ref cN) = some false)
    (kk_cF_cS : PySem.W.kitOne K (.ref cF) (.ref cS) = some false)
    (kk_cF_cK : PySem.W.kitOne K (.ref cF) (.ref cK) = some false)
    (exm_cO : PySem.W.exmOne K (.ref cO) (.ref cZ) = some true)
    (eg_cO : PySem.W.findIn K (.ref cO) "__getattribute__" = some (some (.builtin "BaseException.__getattribute__")))
    (en_cO : PySem.W.findIn K (.ref cO) "__getattr__" = some none)
    (ec_cO : PySem.W.findIn K (.ref cO) "__class__" = some (some (.builtin "object.__class__")))
    (eo_cO : PySem.W.mroIn K cO (.type "object") = some true)
    (eb_cO : PySem.W.subIn K (.ref cO) (.type "BaseException") = some true)
    (cl_cO : PySem.W.clsIn K cO = some zd_cO)
    (kv_cO : PySem.W.kitOne K (.ref cO) (.type "ValueError") = some true)
    (kk_cO_cA : PySem.W.kitOne K (.ref cO) (.ref cA) = some false)
    (kk_cO_cF : PySem.W.kitOne K (.ref cO) (.ref cF) = some false)
    (kk_cO_cO : PySem.W.kitOne K (.ref cO) (.ref cO) = some true)
    (kk_cO_cN : PySem.W.kitOne K (.ref cO) (.ref cN) = some false)
    (kk_cO_cS : PySem.W.kitOne K (.ref cO) (.ref cS) = some false)
    (kk_cO_cK : PySem.W.kitOne K (.ref cO) (.ref cK) = some false)
    (exm_cN : PySem.W.exmOne K (.ref cN) (.ref cZ) = some true)
    (eg_cN : PySem.W.findIn K (.ref cN) "__getattribute__" = some (some (.builtin "BaseException.__getattribute__")))
    (en_cN : PySem.W.findIn K (.ref cN) "__getattr__" = some none)
    (ec_cN : PySem.W.findIn K (.ref cN) "__class__" = some (some (.builtin "object.__class__")))
    (eo_cN : PySem.W.mroIn K cN (.type "object") = some true)
    (eb_cN : PySem.W.subIn K (.ref cN) (.type "BaseException") = some true)
    (cl_cN : PySem.W.clsIn K cN = some zd_cN)
    (kv_cN : PySem.W.kitOne K (.ref cN) (.type "ValueError") = some true)
    (kk_cN_cA : PySem.W.kitOne K (.ref cN) (.ref cA) = some false)
    (kk_cN_cF : PySem.W.kitOne K (.ref cN) (.ref cF) = some false)
    (kk_cN_cO : PySem.W.kitOne K (.ref cN) (.ref cO) = some false)
    (kk_cN_cN : PySem.W.kitOne K (.ref cN) (.ref cN) = some true)
    (kk_cN_cS : PySem.W.kitOne K (.ref cN) (.ref cS) = some false)
    (kk_cN_cK : PySem.W.kitOne K (.ref cN) (.ref cK) = some false)
    (exm_cS : PySem.W.exmOne K (.ref cS) (.ref cZ) = some true)
    (eg_cS : PySem.W.findIn K (.ref cS) "__getattribute__" = some (some (.builtin "BaseException.__getattribute__")))
    (en_cS : PySem.W.findIn K (.ref cS) "__getattr__" = some none)
    (ec_cS : PySem.W.findIn K (.ref cS) "__class__" = some (some (.builtin "object.__class__")))
    (eo_cS : PySem.W.mroIn K cS (.type "object") = some true)
    (eb_cS : PySem.W.subIn K (.ref cS) (.type "BaseException") = some true)
    (cl_cS : PySem.W.clsIn K cS = some zd_cS)
    (kv_cS : PySem.W.kitOne K (.ref cS) (.type "ValueError") = some true)
    (kk_cS_cA : PySem.W.kitOne K (.ref cS) (.ref cA) = some false)
    (kk_cS_cF : PySem.W.kitOne K (.ref cS) (.ref cF) = some false)
    (kk_cS_cO : PySem.W.kitOne K (.ref cS) (.ref cO) = some false)
    (kk_cS_cN : PySem.W.kitOne K (.ref cS) (.ref cN) = some false)
    (kk_cS_cS : PySem.W.kitOne K (.ref cS) (.ref cS) = some true)
    (kk_cS_cK : PySem.W.kitOne K (.ref cS) (.ref cK) = some false)
    (exm_cK : PySem.W.exmOne K (.ref cK) (.ref cZ) = some true)
    (eg_cK : PySem.W.findIn K (.ref cK) "__getattribute__" = some (some (.builtin "BaseException.__getattribute__")))
    (en_cK : PySem.W.findIn K (.ref cK) "__getattr__" = some none)
    (ec_cK : PySem.W.findIn K (.ref cK) "__class__" = some (some (.builtin "object.__class__")))
    (eo_cK : PySem.W.mroIn K cK (.type "object") = some true)
    (eb_cK : PySem.W.subIn K (.ref cK) (.type "BaseException") = some true)
    (cl_cK : PySem.W.clsIn K cK = some zd_cK)
    (kv_cK : PySem.W.kitOne K (.ref cK) (.type "ValueError") = some true)
    (kk_cK_cA : PySem.W.kitOne K (.ref cK) (.ref cA) = some false)
    (kk_cK_cF : PySem.W.kitOne K (.ref cK) (.ref cF) = some false)
    (kk_cK_cO : PySem.W.kitOne K (.ref cK) (.ref cO) = some false)
    (kk_cK_cN : PySem.W.kitOne K (.ref cK) (.ref cN) = some false)
    (kk_cK_cS : PySem.W.kitOne K (.ref cK) (.ref cS) = some false)
    (kk_cK_cK : PySem.W.kitOne K (.ref cK) (.ref cK) = some true)
    (ns0 : PySem.W.nsIn K dW "" = some none)
    (ns1 : PySem.W.nsIn K dW "open" = some none)
    (ns2 : PySem.W.nsIn K dW "high" = some none)
    (ns3 : PySem.W.nsIn K dW "open  high" = some none)
    (ns4 : PySem.W.nsIn K dW "openhigh" = some none)
    (ns5 : PySem.W.nsIn K dW "open high " = some none)
    (ns6 : PySem.W.nsIn K dW " fill" = some none)
    (ns7 : PySem.W.nsIn K dW "Fill" = some none)
    (ns8 : PySem.W.nsIn K dW "lets" = some none)
    (ns9 : PySem.W.nsIn K dW "in" = some none)
    (ns10 : PySem.W.nsIn K dW "out middle" = some none)
    (ns11 : PySem.W.nsIn K dW "shut both" = some none)
    (ns12 : PySem.W.nsIn K dW "high open" = some none)
    (ns13 : PySem.W.nsIn K dW "opens low" = some none)
    (ns14 : PySem.W.nsIn K dW "in low high" = some none)
    (ns15 : PySem.W.nsIn K dW "fill high" = some none)
    (ns16 : PySem.W.nsIn K dW "let low" = some none)
    (ns17 : PySem.W.nsIn K dW "OUT LOW" = some none)
    (ns18 : PySem.W.nsIn K dW "shut lo" = some none) :
    ∃ fd : FuncData, (∀ (s : Shared) (v : Value), BindsTo s fd ⟨[v], []⟩ [("script", v)]) ∧ ∀ base : Heap, K.In base → base.Ns mainGlobals mg → FnOk l.prog w K mg base CX0 9 fa fd ["script"] (spLaw K) := by
  have e := hfa.symm.trans (PySem.W.mg_of X G a47)
  cases e
  have F0 := fun_mk (st := s_poured_all) l0 c0 k0
  have b0 := F0.binds (ps := ["waters", "pours"]) fun _ _ _ _ _ _ us hl => match us, hl with | [_, _], _ => rfl
  have F1 := fun_mk (st := s_parts_not_nought) l1 c1 k1
  have b1 := F1.binds (ps := ["parts"]) fun _ _ _ _ _ _ us hl => match us, hl with | [_], _ => rfl
  have F2 := fun_mk (st := s_PlainLock___init__) l2 c2 k2
  have b2 := F2.binds (ps := ["self", "name", "high", "low", "room"]) fun _ _ _ _ _ _ us hl => match us, hl with | [_, _, _, _, _], _ => rfl
  have F3 := fun_mk (st := s_BasinLock___init__) l3 c3 k3
  have b3 := F3.binds (ps := ["self", "name", "high", "low", "room", "side"]) fun _ _ _ _ _ _ us hl => match us, hl with | [_, _, _, _, _, _], _ => rfl
  have F4 := fun_mk (st := s_PumpLock___init__) l4 c4 k4
  have b4 := F4.binds (ps := ["self", "name", "high", "low", "room", "lift"]) fun _ _ _ _ _ _ us hl => match us, hl with | [_, _, _, _, _, _], _ => rfl
  have F5 := fun_mk (st := s_PlainLock_fill_parts) l5 c5 k5
  have b5 := F5.binds (ps := ["self", "basin"]) fun _ _ _ _ _ _ us hl => match us, hl with | [_, _], _ => rfl
  have F6 := fun_mk (st := s_BasinLock_fill_parts) l6 c6 k6
  have b6 := F6.binds (ps := ["self", "basin"]) fun _ _ _ _ _ _ us hl => match us, hl with | [_, _], _ => rfl
  have F7 := fun_mk (st := s_PumpLock_fill_parts) l7 c7 k7
  have b7 := F7.binds (ps := ["self", "basin"]) fun _ _ _ _ _ _ us hl => match us, hl with | [_, _], _ => rfl
  have F8 := fun_mk (st := s_PlainLock_let_parts) l8 c8 k8
  have b8 := F8.binds (ps := ["self", "basin"]) fun _ _ _ _ _ _ us hl => match us, hl with | [_, _], _ => rfl
  have F9 := fun_mk (st := s_BasinLock_let_parts) l9 c9 k9
  have b9 := F9.binds (ps := ["self", "basin"]) fun _ _ _ _ _ _ us hl => match us, hl with | [_, _], _ => rfl
  have F10 := fun_mk (st := s_filling) l10 c10 k10
  have b10 := F10.binds (ps := ["lock", "basin"]) fun _ _ _ _ _ _ us hl => match us, hl with | [_, _], _ => rfl
  have F11 := fun_mk (st := s_letting) l11 c11 k11
  have b11 := F11.binds (ps := ["lock", "basin"]) fun _ _ _ _ _ _ us hl => match us, hl with | [_, _], _ => rfl
  have F12 := fun_mk (st := s_Chamber___init__) l12 c12 k12
  have b12 := F12.binds (ps := ["self", "lock", "waters", "least"]) fun _ _ _ _ _ _ us hl => match us, hl with | [_, _, _, _], _ => rfl
  have F13 := fun_mk (st := s_Chamber_waters) l13 c13 k13
  have b13 := F13.binds (ps := ["self"]) fun _ _ _ _ _ _ us hl => match us, hl with | [_], _ => rfl
  have F14 := fun_mk (st := s_Chamber_gates) l14 c14 k14
  have b14 := F14.binds (ps := ["self"]) fun _ _ _ _ _ _ us hl => match us, hl with | [_], _ => rfl
  have F15 := fun_mk (st := s_Chamber_boat) l15 c15 k15
  have b15 := F15.binds (ps := ["self"]) fun _ _ _ _ _ _ us hl => match us, hl with | [_], _ => rfl
  have F16 := fun_mk (st := s_Chamber_stands_at) l16 c16 k16
  have b16 := F16.binds (ps := ["self", "side"]) fun _ _ _ _ _ _ us hl => match us, hl with | [_, _], _ => rfl
  have F17 := fun_mk (st := s_Chamber_after_pours) l17 c17 k17
  have b17 := F17.binds (ps := ["self", "pours"]) fun _ _ _ _ _ _ us hl => match us, hl with | [_, _], _ => rfl
  have F18 := fun_mk (st := s_Chamber_refuse_open_gate) l18 c18 k18
  have b18 := F18.binds (ps := ["self"]) fun _ _ _ _ _ _ us hl => match us, hl with | [_], _ => rfl
  have F19 := fun_mk (st := s_Chamber_refuse_shut_gate) l19 c19 k19
  have b19 := F19.binds (ps := ["self", "side"]) fun _ _ _ _ _ _ us hl => match us, hl with | [_, _], _ => rfl
  have F20 := fun_mk (st := s_Chamber_open_gate) l20 c20 k20
  have b20 := F20.binds (ps := ["self", "side"]) fun _ _ _ _ _ _ us hl => match us, hl with | [_, _], _ => rfl
  have F21 := fun_mk (st := s_Chamber_shut_gate) l21 c21 k21
  have b21 := F21.binds (ps := ["self", "side"]) fun _ _ _ _ _ _ us hl => match us, hl with | [_, _], _ => rfl
  have F22 := fun_mk (st := s_Chamber_fill_chamber) l22 c22 k22
  have b22 := F22.binds (ps := ["self"]) fun _ _ _ _ _ _ us hl => match us, hl with | [_], _ => rfl
  have F23 := fun_mk (st := s_Chamber_let_chamber) l23 c23 k23
  have b23 := F23.binds (ps := ["self"]) fun _ _ _ _ _ _ us hl => match us, hl with | [_], _ => rfl
  have F24 := fun_mk (st := s_Chamber_boat_in) l24 c24 k24
  have b24 := F24.binds (ps := ["self", "side"]) fun _ _ _ _ _ _ us hl => match us, hl with | [_, _], _ => rfl
  have F25 := fun_mk (st := s_Chamber_boat_out) l25 c25 k25
  have b25 := F25.binds (ps := ["self", "side"]) fun _ _ _ _ _ _ us hl => match us, hl with | [_, _], _ => rfl
  have F26 := fun_mk (st := s_Chamber_do) l26 c26 k26
  have b26 := F26.binds (ps := ["self", "word"]) fun _ _ _ _ _ _ us hl => match us, hl with | [_, _], _ => rfl
  have F27 := fun_mk (st := s__law_whole) l27 c27 k27
  have b27 := F27.binds (ps := ["found"]) fun _ _ _ _ _ _ us hl => match us, hl with | [_], _ => rfl
  have F28 := fun_mk (st := s__law_cell_at) l28 c28 k28
  have b28 := F28.binds (ps := ["script", "k"]) fun _ _ _ _ _ _ us hl => match us, hl with | [_, _], _ => rfl
  have F29 := fun_mk (st := s__law_number) l29 c29 k29
  have b29 := F29.binds (ps := ["cell"]) fun _ _ _ _ _ _ us hl => match us, hl with | [_], _ => rfl
  have F30 := fun_mk (st := s__law_side) l30 c30 k30
  have b30 := F30.binds (ps := ["cell", "room"]) fun _ _ _ _ _ _ us hl => match us, hl with | [_, _], _ => rfl
  have F31 := fun_mk (st := s__law_held) l31 c31 k31
  have b31 := F31.binds (ps := ["cell", "side"]) fun _ _ _ _ _ _ us hl => match us, hl with | [_, _], _ => rfl
  have F32 := fun_mk (st := s__law_lock) l32 c32 k32
  have b32 := F32.binds (ps := ["kind", "room", "extra"]) fun _ _ _ _ _ _ us hl => match us, hl with | [_, _, _], _ => rfl
  have F33 := fun_mk (st := s__law_fill_gains) l33 c33 k33
  have b33 := F33.binds (ps := ["kind", "room", "extra", "held"]) fun _ _ _ _ _ _ us hl => match us, hl with | [_, _, _, _], _ => rfl
  have F34 := fun_mk (st := s__law_let_gains) l34 c34 k34
  have b34 := F34.binds (ps := ["kind", "room", "extra", "held"]) fun _ _ _ _ _ _ us hl => match us, hl with | [_, _, _, _], _ => rfl
  have F35 := fun_mk (st := s__law_water) l35 c35 k35
  have b35 := F35.binds (ps := ["cell", "least", "room"]) fun _ _ _ _ _ _ us hl => match us, hl with | [_, _, _], _ => rfl
  have F36 := fun_mk (st := s__law_four) l36 c36 k36
  have b36 := F36.binds (ps := ["told"]) fun _ _ _ _ _ _ us hl => match us, hl with | [_], _ => rfl
  have F37 := fun_mk (st := s__law_pair) l37 c37 k37
  have b37 := F37.binds (ps := ["told"]) fun _ _ _ _ _ _ us hl => match us, hl with | [_], _ => rfl
  have F38 := fun_mk (st := s__law_words) l38 c38 k38
  have b38 := F38.binds (ps := []) fun _ _ _ _ _ _ us hl => match us, hl with | [], _ => rfl
  have F39 := fun_mk (st := s__law_stray) l39 c39 k39
  have b39 := F39.binds (ps := ["cell"]) fun _ _ _ _ _ _ us hl => match us, hl with | [_], _ => rfl
  have F40 := fun_mk (st := s__law_due_gate) l40 c40 k40
  have b40 := F40.binds (ps := ["verb", "side", "room", "state"]) fun _ _ _ _ _ _ us hl => match us, hl with | [_, _, _, _], _ => rfl
  have F41 := fun_mk (st := s__law_due) l41 c41 k41
  have b41 := F41.binds (ps := ["at", "lock", "least", "state"]) fun _ _ _ _ _ _ us hl => match us, hl with | [_, _, _, _], _ => rfl
  have F42 := fun_mk (st := s__law_behind) l42 c42 k42
  have b42 := F42.binds (ps := ["at", "lock", "state"]) fun _ _ _ _ _ _ us hl => match us, hl with | [_, _, _], _ => rfl
  have F43 := fun_mk (st := s__law_choice) l43 c43 k43
  have b43 := F43.binds (ps := ["cell", "lock", "least", "state"]) fun _ _ _ _ _ _ us hl => match us, hl with | [_, _, _, _], _ => rfl
  have F44 := fun_mk (st := s__law_told) l44 c44 k44
  have b44 := F44.binds (ps := ["chamber", "word"]) fun _ _ _ _ _ _ us hl => match us, hl with | [_, _], _ => rfl
  have F45 := fun_mk (st := s__law_names) l45 c45 k45
  have b45 := F45.binds (ps := ["due"]) fun _ _ _ _ _ _ us hl => match us, hl with | [_], _ => rfl
  have F46 := fun_mk (st := s__law_looks) l46 c46 k46
  have b46 := F46.binds (ps := ["chamber", "state", "turn"]) fun _ _ _ _ _ _ us hl => match us, hl with | [_, _, _], _ => rfl
  have F47 := fun_mk (st := s_law) l47 c47 k47
  have b47 := F47.binds (ps := ["script"]) fun _ _ _ _ _ _ us hl => match us, hl with | [_], _ => rfl
  have T : Txt K mg w cP cB cU cC dV dW cA cN cS cF cO cK cZ := {z_list := PySem.W.mg_none_of X G z_list, z_tuple := PySem.W.mg_none_of X G z_tuple, z_isinstance := PySem.W.mg_none_of X G z_isinstance, z_bool := PySem.W.mg_none_of X G z_bool, z_int := PySem.W.mg_none_of X G z_int, z_len := PySem.W.mg_none_of X G z_len, z_max := PySem.W.mg_none_of X G z_max, z_range := PySem.W.mg_none_of X G z_range, z_ValueError := PySem.W.mg_none_of X G z_ValueError, cl := fun kd => match kd with | .plain => ⟨pg_P, hdd_P, po_P, sa_P⟩ | .basin => ⟨pg_B, hdd_B, po_B, sa_B⟩ | .pump => ⟨pg_U, hdd_U, po_U, sa_U⟩, n_name := fun kd => match kd with | .plain => n_name_P | .basin => n_name_B | .pump => n_name_U, n_high := fun kd => match kd with | .plain => n_high_P | .basin => n_high_B | .pump => n_high_U, n_low := fun kd => match kd with | .plain => n_low_P | .basin => n_low_B | .pump => n_low_U, n_room := fun kd => match kd with | .plain => n_room_P | .basin => n_room_B | .pump => n_room_U, n_side := n_side_B, n_lift := n_lift_U, c_PlainLock := PySem.W.mg_of X G aC_P, c_BasinLock := PySem.W.mg_of X G aC_B, c_PumpLock := PySem.W.mg_of X G aC_U, clC := ⟨pg_C, hdd_C, po_C, sa_C⟩, nC_lock := nC_lock, nC_held := nC_held, nC_least := nC_least, nC_open_side := nC_open_side, nC_inside := nC_inside, c_Chamber := PySem.W.mg_of X G aC_C, g_VESSELS := PySem.W.mg_of X G aV, g_WORDS := PySem.W.mg_of X G aW, topV := ⟨_, _, lV, ksV, oV⟩, topW := ⟨_, _, lW, ksW, oW⟩, v_at := v_at_of v0 v1 v2 v3, w_at := fun W hW => match W, hW with | .opn true, _ => ⟨_, n0_, fun H => sqt_top (its := [.str "open" ta0, .str "high" tb0]) lw0 cw0 dw0 (by show 2 ≤ sizeLine; decide) (.cons ⟨_, rfl⟩ (.cons ⟨_, rfl⟩ .nil))⟩ | .opn false, _ => ⟨_, n1_, fun H => sqt_top (its := [.str "open" ta1, .str "low" tb1]) lw1 cw1 dw1 (by show 2 ≤ sizeLine; decide) (.cons ⟨_, rfl⟩ (.cons ⟨_, rfl⟩ .nil))⟩ | .sht true, _ => ⟨_, n2_, fun H => sqt_top (its := [.str "shut" ta2, .str "high" tb2]) lw2 cw2 dw2 (by show 2 ≤ sizeLine; decide) (.cons ⟨_, rfl⟩ (.cons ⟨_, rfl⟩ .nil))⟩ | .sht false, _ => ⟨_, n3_, fun H => sqt_top (its := [.str "shut" ta3, .str "low" tb3]) lw3 cw3 dw3 (by show 2 ≤ sizeLine; decide) (.cons ⟨_, rfl⟩ (.cons ⟨_, rfl⟩ .nil))⟩ | .fil, _ => ⟨_, n4_, fun H => sqt_top (its := [.str "fill" ta4, .str "" tb4]) lw4 cw4 dw4 (by show 2 ≤ sizeLine; decide) (.cons ⟨_, rfl⟩ (.cons ⟨_, rfl⟩ .nil))⟩ | .lt, _ => ⟨_, n5_, fun H => sqt_top (its := [.str "let" ta5, .str "" tb5]) lw5 cw5 dw5 (by show 2 ≤ sizeLine; decide) (.cons ⟨_, rfl⟩ (.cons ⟨_, rfl⟩ .nil))⟩ | .bin true, _ => ⟨_, n6_, fun H => sqt_top (its := [.str "in" ta6, .str "high" tb6]) lw6 cw6 dw6 (by show 2 ≤ sizeLine; decide) (.cons ⟨_, rfl⟩ (.cons ⟨_, rfl⟩ .nil))⟩ | .bin false, _ => ⟨_, n7_, fun H => sqt_top (its := [.str "in" ta7, .str "low" tb7]) lw7 cw7 dw7 (by show 2 ≤ sizeLine; decide) (.cons ⟨_, rfl⟩ (.cons ⟨_, rfl⟩ .nil))⟩ | .bout true, _ => ⟨_, n8_, fun H => sqt_top (its := [.str "out" ta8, .str "high" tb8]) lw8 cw8 dw8 (by show 2 ≤ sizeLine; decide) (.cons ⟨_, rfl⟩ (.cons ⟨_, rfl⟩ .nil))⟩ | .bout false, _ => ⟨_, n9_, fun H => sqt_top (its := [.str "out" ta9, .str "low" tb9]) lw9 cw9 dw9 (by show 2 ≤ sizeLine; decide) (.cons ⟨_, rfl⟩ (.cons ⟨_, rfl⟩ .nil))⟩ | .odd z, h => absurd rfl (h z), c_Against := PySem.W.mg_of X G aE_cA, c_NotNow := PySem.W.mg_of X G aE_cN, c_Short := PySem.W.mg_of X G aE_cS, c_Full := PySem.W.mg_of X G aE_cF, c_NoBoat := PySem.W.mg_of X G aE_cO, c_Unknown := PySem.W.mg_of X G aE_cK, x_Against := xE_cA, x_NotNow := xE_cN, x_Short := xE_cS, x_Full := xE_cF, x_NoBoat := xE_cO, x_Unknown := xE_cK, v_high := ⟨_, v0⟩, v_low := ⟨_, v1⟩, v_chamber := ⟨_, v2⟩, v_basin := ⟨_, v3⟩, c_CanalError := PySem.W.mg_of X G aE_cZ, exm := fun e => match e with | .against => exm_cA | .full => exm_cF | .noBoat => exm_cO | .notNow => exm_cN | .short => exm_cS | .unknown => exm_cK, eat := fun e => match e with | .against => ⟨eg_cA, en_cA, ec_cA, eo_cA, eb_cA⟩ | .full => ⟨eg_cF, en_cF, ec_cF, eo_cF, eb_cF⟩ | .noBoat => ⟨eg_cO, en_cO, ec_cO, eo_cO, eb_cO⟩ | .notNow => ⟨eg_cN, en_cN, ec_cN, eo_cN, eb_cN⟩ | .short => ⟨eg_cS, en_cS, ec_cS, eo_cS, eb_cS⟩ | .unknown => ⟨eg_cK, en_cK, ec_cK, eo_cK, eb_cK⟩, ecl := fun e => match e with | .against => (by show (PySem.W.clsIn K cA).isSome = true; rw [cl_cA]; rfl) | .full => (by show (PySem.W.clsIn K cF).isSome = true; rw [cl_cF]; rfl) | .noBoat => (by show (PySem.W.clsIn K cO).isSome = true; rw [cl_cO]; rfl) | .notNow => (by show (PySem.W.clsIn K cN).isSome = true; rw [cl_cN]; rfl) | .short => (by show (PySem.W.clsIn K cS).isSome = true; rw [cl_cS]; rfl) | .unknown => (by show (PySem.W.clsIn K cK).isSome = true; rw [cl_cK]; rfl), kV := fun e => match e with | .against => kv_cA | .full => kv_cF | .noBoat => kv_cO | .notNow => kv_cN | .short => kv_cS | .unknown => kv_cK, k_Against := fun e => match e with | .against => kk_cA_cA | .full => kk_cF_cA | .noBoat => kk_cO_cA | .notNow => kk_cN_cA | .short => kk_cS_cA | .unknown => kk_cK_cA, k_Full := fun e => match e with | .against => kk_cA_cF | .full => kk_cF_cF | .noBoat => kk_cO_cF | .notNow => kk_cN_cF | .short => kk_cS_cF | .unknown => kk_cK_cF, k_NoBoat := fun e => match e with | .against => kk_cA_cO | .full => kk_cF_cO | .noBoat => kk_cO_cO | .notNow => kk_cN_cO | .short => kk_cS_cO | .unknown => kk_cK_cO, k_NotNow := fun e => match e with | .against => kk_cA_cN | .full => kk_cF_cN | .noBoat => kk_cO_cN | .notNow => kk_cN_cN | .short => kk_cS_cN | .unknown => kk_cK_cN, k_Short := fun e => match e with | .against => kk_cA_cS | .full => kk_cF_cS | .noBoat => kk_cO_cS | .notNow => kk_cN_cS | .short => kk_cS_cS | .unknown => kk_cK_cS, k_Unknown := fun e => match e with | .against => kk_cA_cK | .full => kk_cF_cK | .noBoat => kk_cO_cK | .notNow => kk_cN_cK | .short => kk_cS_cK | .unknown => kk_cK_cK, nostray := stray_of ns0 ns1 ns2 ns3 ns4 ns5 ns6 ns7 ns8 ns9 ns10 ns11 ns12 ns13 ns14 ns15 ns16 ns17 ns18}
  refine ⟨PySem.W.fnOf "law" "law" (defArgs s_law) (defBody s_law) (defScope s_law) .none kV47 dc47 pm47 an47 cd47 ct47, fun s v => .of_eq rfl, fun base _ _ => ?_⟩
  have G0 := ok_s_poured_all (P := l.prog) (w := w) (base := base) F0 T 
  have D0 : Def l.prog w K mg base 1 "poured_all" _ [] _ := ⟨_, _, [], G0, PySem.W.mg_of X G a0, k0, .nil, b0⟩
  have G1 := ok_s_parts_not_nought (P := l.prog) (w := w) (base := base) F1 T 
  have D1 : Def l.prog w K mg base 1 "parts_not_nought" _ [] _ := ⟨_, _, [], G1, PySem.W.mg_of X G a1, k1, .nil, b1⟩
  have G2 := ok_s_PlainLock___init__ (P := l.prog) (w := w) (base := base) F2 T 
  have MK_PlainLock : MkD l.prog w K mg base 1 "PlainLock" cP ["self", "name", "high", "low", "room"] (spInit3 (kdC cP cB cU)) := ⟨T.c_PlainLock, _, _, ⟨mk_P, a2, i2, kc_P⟩, G2, b2⟩
  have CM2 : CmD l.prog w K mg base 1 "PlainLock" cP "__init__" ["self", "name", "high", "low", "room"] (spInit3 (kdC cP cB cU)) := ⟨T.c_PlainLock, _, _, ⟨g1, g2, ac2, k2⟩, G2, b2⟩
  have G3 := ok_s_BasinLock___init__ (P := l.prog) (w := w) (base := base) F3 T CM2
  have MK_BasinLock : MkD l.prog w K mg base 2 "BasinLock" cB ["self", "name", "high", "low", "room", "side"] (spInit4 (kdC cP cB cU) .basin) := ⟨T.c_BasinLock, _, _, ⟨mk_B, a3, i3, kc_B⟩, G3, b3⟩
  have G4 := ok_s_PumpLock___init__ (P := l.prog) (w := w) (base := base) F4 T CM2
  have MK_PumpLock : MkD l.prog w K mg base 2 "PumpLock" cU ["self", "name", "high", "low", "room", "lift"] (spInit4 (kdC cP cB cU) .pump) := ⟨T.c_PumpLock, _, _, ⟨mk_U, a4, i4, kc_U⟩, G4, b4⟩
  have G5 := ok_s_PlainLock_fill_parts (P := l.prog) (w := w) (base := base) F5 T D1
  have ME_fill_parts_P : MeD l.prog w K mg base 2 cP "fill_parts" ["self", "basin"] (spParts3 (kdC cP cB cU) fillK .plain) := ⟨T.cl .plain, _, _, ⟨a5, i5, k5⟩, G5, b5⟩
  have G6 := ok_s_BasinLock_fill_parts (P := l.prog) (w := w) (base := base) F6 T D1
  have ME_fill_parts_B : MeD l.prog w K mg base 2 cB "fill_parts" ["self", "basin"] (spParts3 (kdC cP cB cU) fillK .basin) := ⟨T.cl .basin, _, _, ⟨a6, i6, k6⟩, G6, b6⟩
  have G7 := ok_s_PumpLock_fill_parts (P := l.prog) (w := w) (base := base) F7 T D1
  have ME_fill_parts_U : MeD l.prog w K mg base 2 cU "fill_parts" ["self", "basin"] (spParts3 (kdC cP cB cU) fillK .pump) := ⟨T.cl .pump, _, _, ⟨a7, i7, k7⟩, G7, b7⟩
  have MP_fill_parts : MeK l.prog w K mg base 2 (kdC cP cB cU) "fill_parts" ["self", "basin"] (spParts3 (kdC cP cB cU) fillK) := ⟨fun kd => match kd with | .plain => ME_fill_parts_P | .basin => ME_fill_parts_B | .pump => ME_fill_parts_U⟩
  have G8 := ok_s_PlainLock_let_parts (P := l.prog) (w := w) (base := base) F8 T D1
  have ME_let_parts_P : MeD l.prog w K mg base 2 cP "let_parts" ["self", "basin"] (spParts3 (kdC cP cB cU) letK .plain) := ⟨T.cl .plain, _, _, ⟨a8, i8, k8⟩, (G8.imp (sp' := spParts3 (kdC cP cB cU) letK .plain) (fun vs H Q E ⟨x, n, h, l, room, v, b, e, a, q⟩ => ⟨.plain, x, n, h, l, room, v, b, e, a, q⟩)), b8⟩
  have ME_let_parts_U : MeD l.prog w K mg base 2 cU "let_parts" ["self", "basin"] (spParts3 (kdC cP cB cU) letK .pump) := ⟨T.cl .pump, _, _, ⟨a8_U, i8, k8⟩, (G8.imp (sp' := spParts3 (kdC cP cB cU) letK .pump) (fun vs H Q E ⟨x, n, h, l, room, v, b, e, a, q⟩ => ⟨.pump, x, n, h, l, room, v, b, e, a, q⟩)), b8⟩
  have G9 := ok_s_BasinLock_let_parts (P := l.prog) (w := w) (base := base) F9 T D1
  have ME_let_parts_B : MeD l.prog w K mg base 2 cB "let_parts" ["self", "basin"] (spParts3 (kdC cP cB cU) letK .basin) := ⟨T.cl .basin, _, _, ⟨a9, i9, k9⟩, G9, b9⟩
  have MP_let_parts : MeK l.prog w K mg base 2 (kdC cP cB cU) "let_parts" ["self", "basin"] (spParts3 (kdC cP cB cU) letK) := ⟨fun kd => match kd with | .plain => ME_let_parts_P | .basin => ME_let_parts_B | .pump => ME_let_parts_U⟩
  have G10 := ok_s_filling (P := l.prog) (w := w) (base := base) F10 T MP_fill_parts
  have D10 : Def l.prog w K mg base 3 "filling" _ [] _ := ⟨_, _, [], G10, PySem.W.mg_of X G a10, k10, .nil, b10⟩
  have G11 := ok_s_letting (P := l.prog) (w := w) (base := base) F11 T MP_let_parts
  have D11 : Def l.prog w K mg base 3 "letting" _ [] _ := ⟨_, _, [], G11, PySem.W.mg_of X G a11, k11, .nil, b11⟩
  have G12 := ok_s_Chamber___init__ (P := l.prog) (w := w) (base := base) F12 T 
  have MK_Chamber : MkD l.prog w K mg base 1 "Chamber" cC ["self", "lock", "waters", "least"] (spInitC (kdC cP cB cU) cC) := ⟨T.c_Chamber, _, _, ⟨mk_C, a12, i12, kc_C⟩, G12, b12⟩
  have G13 := ok_s_Chamber_waters (P := l.prog) (w := w) (base := base) F13 T 
  have MC_waters : MeD l.prog w K mg base 1 cC "waters" ["self"] (spLook (kdC cP cB cU) cC isWaters) := ⟨T.clC, _, _, ⟨a13, i13, k13⟩, G13, b13⟩
  have G14 := ok_s_Chamber_gates (P := l.prog) (w := w) (base := base) F14 T 
  have MC_gates : MeD l.prog w K mg base 1 cC "gates" ["self"] (spLook (kdC cP cB cU) cC isGates) := ⟨T.clC, _, _, ⟨a14, i14, k14⟩, G14, b14⟩
  have G15 := ok_s_Chamber_boat (P := l.prog) (w := w) (base := base) F15 T 
  have MC_boat : MeD l.prog w K mg base 1 cC "boat" ["self"] (spLook (kdC cP cB cU) cC isBoat) := ⟨T.clC, _, _, ⟨a15, i15, k15⟩, G15, b15⟩
  have G16 := ok_s_Chamber_stands_at (P := l.prog) (w := w) (base := base) F16 T 
  have MC_stands_at : MeD l.prog w K mg base 1 cC "stands_at" ["self", "side"] (spStands (kdC cP cB cU) cC) := ⟨T.clC, _, _, ⟨a16, i16, k16⟩, G16, b16⟩
  have G17 := ok_s_Chamber_after_pours (P := l.prog) (w := w) (base := base) F17 T D0
  have MC_after_pours : MeD l.prog w K mg base 2 cC "after_pours" ["self", "pours"] (spAfterC (kdC cP cB cU) cC K) := ⟨T.clC, _, _, ⟨a17, i17, k17⟩, G17, b17⟩
  have G18 := ok_s_Chamber_refuse_open_gate (P := l.prog) (w := w) (base := base) F18 T 
  have GX18 := G18
  have MX_refuse_open_gate : MeX l.prog w K mg base 1 cC "refuse_open_gate" ["self"] (spRefOpen (kdC cP cB cU) cC (exOf cA cN cS cF cO cK)) := ⟨T.clC, _, _, ⟨a18, i18, k18⟩, GX18, b18⟩
  have G19 := ok_s_Chamber_refuse_shut_gate (P := l.prog) (w := w) (base := base) F19 T 
  have GX19 := G19
  have MX_refuse_shut_gate : MeX l.prog w K mg base 1 cC "refuse_shut_gate" ["self", "side"] (spRefShut (kdC cP cB cU) cC (exOf cA cN cS cF cO cK)) := ⟨T.clC, _, _, ⟨a19, i19, k19⟩, GX19, b19⟩
  have G20 := ok_s_Chamber_open_gate (P := l.prog) (w := w) (base := base) F20 T MX_refuse_open_gate MC_stands_at
  have GX20 := G20
  have MX_open_gate : MeX l.prog w K mg base 2 cC "open_gate" ["self", "side"] (spWSide (kdC cP cB cU) cC (exOf cA cN cS cF cO cK) Wd.opn) := ⟨T.clC, _, _, ⟨a20, i20, k20⟩, GX20, b20⟩
  have G21 := ok_s_Chamber_shut_gate (P := l.prog) (w := w) (base := base) F21 T MX_refuse_shut_gate
  have GX21 := G21
  have MX_shut_gate : MeX l.prog w K mg base 2 cC "shut_gate" ["self", "side"] (spWSide (kdC cP cB cU) cC (exOf cA cN cS cF cO cK) Wd.sht) := ⟨T.clC, _, _, ⟨a21, i21, k21⟩, GX21, b21⟩
  have G22 := ok_s_Chamber_fill_chamber (P := l.prog) (w := w) (base := base) F22 T MX_refuse_open_gate MC_stands_at D10 MC_after_pours
  have GX22 := G22
  have MX_fill_chamber : MeX l.prog w K mg base 5 cC "fill_chamber" ["self"] (spNoSide (kdC cP cB cU) cC (exOf cA cN cS cF cO cK) Wd.fil) := ⟨T.clC, _, _, ⟨a22, i22, k22⟩, GX22, b22⟩
  have G23 := ok_s_Chamber_let_chamber (P := l.prog) (w := w) (base := base) F23 T MX_refuse_open_gate MC_stands_at MC_after_pours D11
  have GX23 := G23
  have MX_let_chamber : MeX l.prog w K mg base 5 cC "let_chamber" ["self"] (spNoSide (kdC cP cB cU) cC (exOf cA cN cS cF cO cK) Wd.lt) := ⟨T.clC, _, _, ⟨a23, i23, k23⟩, GX23, b23⟩
  have G24 := ok_s_Chamber_boat_in (P := l.prog) (w := w) (base := base) F24 T MX_refuse_shut_gate
  have GX24 := G24
  have MX_boat_in : MeX l.prog w K mg base 2 cC "boat_in" ["self", "side"] (spWSide (kdC cP cB cU) cC (exOf cA cN cS cF cO cK) Wd.bin) := ⟨T.clC, _, _, ⟨a24, i24, k24⟩, GX24, b24⟩
  have G25 := ok_s_Chamber_boat_out (P := l.prog) (w := w) (base := base) F25 T MX_refuse_shut_gate
  have GX25 := G25
  have MX_boat_out : MeX l.prog w K mg base 2 cC "boat_out" ["self", "side"] (spWSide (kdC cP cB cU) cC (exOf cA cN cS cF cO cK) Wd.bout) := ⟨T.clC, _, _, ⟨a25, i25, k25⟩, GX25, b25⟩
  have G26 := ok_s_Chamber_do (P := l.prog) (w := w) (base := base) F26 T MX_open_gate MX_shut_gate MX_fill_chamber MX_let_chamber MX_boat_in MX_boat_out
  have GX26 := G26
  have MX_do : MeX l.prog w K mg base 6 cC "do" ["self", "word"] (spDo (kdC cP cB cU) cC (exOf cA cN cS cF cO cK) K dW) := ⟨T.clC, _, _, ⟨a26, i26, k26⟩, GX26, b26⟩
  have G27 := ok_s__law_whole (P := l.prog) (w := w) (base := base) F27 T 
  have D27 : Def l.prog w K mg base 1 "_law_whole" _ [] _ := ⟨_, _, [], G27, PySem.W.mg_of X G a27, k27, .nil, b27⟩
  have G28 := ok_s__law_cell_at (P := l.prog) (w := w) (base := base) F28 T 
  have D28 : Def l.prog w K mg base 1 "_law_cell_at" _ [] _ := ⟨_, _, [], G28, PySem.W.mg_of X G a28, k28, .nil, b28⟩
  have G29 := ok_s__law_number (P := l.prog) (w := w) (base := base) F29 T 
  have D29 : Def l.prog w K mg base 1 "_law_number" _ [] _ := ⟨_, _, [], G29, PySem.W.mg_of X G a29, k29, .nil, b29⟩
  have G30 := ok_s__law_side (P := l.prog) (w := w) (base := base) F30 T 
  have D30 : Def l.prog w K mg base 1 "_law_side" _ [] _ := ⟨_, _, [], G30, PySem.W.mg_of X G a30, k30, .nil, b30⟩
  have G31 := ok_s__law_held (P := l.prog) (w := w) (base := base) F31 T 
  have D31 : Def l.prog w K mg base 1 "_law_held" _ [] _ := ⟨_, _, [], G31, PySem.W.mg_of X G a31, k31, .nil, b31⟩
  have G32 := ok_s__law_lock (P := l.prog) (w := w) (base := base) F32 T MK_BasinLock MK_PumpLock MK_PlainLock
  have D32 : Def l.prog w K mg base 4 "_law_lock" _ [] _ := ⟨_, _, [], G32, PySem.W.mg_of X G a32, k32, .nil, b32⟩
  have G33 := ok_s__law_fill_gains (P := l.prog) (w := w) (base := base) F33 T 
  have D33 : Def l.prog w K mg base 1 "_law_fill_gains" _ [] _ := ⟨_, _, [], G33, PySem.W.mg_of X G a33, k33, .nil, b33⟩
  have G34 := ok_s__law_let_gains (P := l.prog) (w := w) (base := base) F34 T 
  have D34 : Def l.prog w K mg base 1 "_law_let_gains" _ [] _ := ⟨_, _, [], G34, PySem.W.mg_of X G a34, k34, .nil, b34⟩
  have G35 := ok_s__law_water (P := l.prog) (w := w) (base := base) F35 T 
  have D35 : Def l.prog w K mg base 1 "_law_water" _ [] _ := ⟨_, _, [], G35, PySem.W.mg_of X G a35, k35, .nil, b35⟩
  have G36 := ok_s__law_four (P := l.prog) (w := w) (base := base) F36 T D27
  have D36 : Def l.prog w K mg base 2 "_law_four" _ [] _ := ⟨_, _, [], G36, PySem.W.mg_of X G a36, k36, .nil, b36⟩
  have G37 := ok_s__law_pair (P := l.prog) (w := w) (base := base) F37 T 
  have D37 : Def l.prog w K mg base 1 "_law_pair" _ [] _ := ⟨_, _, [], G37, PySem.W.mg_of X G a37, k37, .nil, b37⟩
  have G38 := ok_s__law_words (P := l.prog) (w := w) (base := base) F38 T 
  have D38 : Def l.prog w K mg base 1 "_law_words" _ [] _ := ⟨_, _, [], G38, PySem.W.mg_of X G a38, k38, .nil, b38⟩
  have G39 := ok_s__law_stray (P := l.prog) (w := w) (base := base) F39 T 
  have D39 : Def l.prog w K mg base 1 "_law_stray" _ [] _ := ⟨_, _, [], G39, PySem.W.mg_of X G a39, k39, .nil, b39⟩
  have G40 := ok_s__law_due_gate (P := l.prog) (w := w) (base := base) F40 T 
  have D40 : Def l.prog w K mg base 1 "_law_due_gate" _ [] _ := ⟨_, _, [], G40, PySem.W.mg_of X G a40, k40, .nil, b40⟩
  have G41 := ok_s__law_due (P := l.prog) (w := w) (base := base) F41 T D40 D33
  have D41 : Def l.prog w K mg base 2 "_law_due" _ [] _ := ⟨_, _, [], G41, PySem.W.mg_of X G a41, k41, .nil, b41⟩
  have G42 := ok_s__law_behind (P := l.prog) (w := w) (base := base) F42 T D33 D34
  have D42 : Def l.prog w K mg base 2 "_law_behind" _ [] _ := ⟨_, _, [], G42, PySem.W.mg_of X G a42, k42, .nil, b42⟩
  have G43 := ok_s__law_choice (P := l.prog) (w := w) (base := base) F43 T D41
  have D43 : Def l.prog w K mg base 3 "_law_choice" _ [] _ := ⟨_, _, [], G43, PySem.W.mg_of X G a43, k43, .nil, b43⟩
  have G44 := ok_s__law_told (P := l.prog) (w := w) (base := base) F44 T MX_do
  have D44 : Def l.prog w K mg base 7 "_law_told" _ [] _ := ⟨_, _, [], G44, PySem.W.mg_of X G a44, k44, .nil, b44⟩
  have G45 := ok_s__law_names (P := l.prog) (w := w) (base := base) F45 T 
  have D45 : Def l.prog w K mg base 1 "_law_names" _ [] _ := ⟨_, _, [], G45, PySem.W.mg_of X G a45, k45, .nil, b45⟩
  have G46 := ok_s__law_looks (P := l.prog) (w := w) (base := base) F46 T MC_waters MC_gates MC_boat D37 D36
  have D46 : Def l.prog w K mg base 3 "_law_looks" _ [] _ := ⟨_, _, [], G46, PySem.W.mg_of X G a46, k46, .nil, b46⟩
  have G47 := ok_s_law (P := l.prog) (w := w) (base := base) F47 T D28 D29 D30 D31 D35 D32 MK_Chamber D43 D41 D38 D39 D44 D45 D42 D46
  exact G47
theorem walk {l : PySem.W.OpenLaw} {q : Program} {loose : List Str} {XP : (Str → Option Value) → Heap → Prop} {YP : World → Heap → Prop} {d : DefRec} {K : Params → PySem.W.Frag} (hn : l.most = some 63) (hdf : d.params.defaults = [])
    (hY : ∀ (w : World) (h : Heap), YP w h → (K w.params).In h)
    (F : ∀ (w : World) (mg : Str → Option Value) (fa : Addr) (h : Heap), (K w.params).In h → h.Ns mainGlobals mg → mg d.name = some (.ref fa) →
      ∃ fd : FuncData, (∀ (s : Shared) (u : Value), BindsTo s fd ⟨[u], []⟩ [("script", u)]) ∧ ∀ base : Heap, (K w.params).In base → base.Ns mainGlobals mg → FnOk l.prog w (K w.params) mg base CX0 9 fa fd ["script"] (spLaw (K w.params))) :
    PySem.W.WalkO q loose XP YP l.row.toRowW d [] (fun f vs => PySem.call f vs) :=
  L2.walk_of (n := 63) (k := 9) (x := "script") (CX := fun _ => CX0) (sp := fun w => spLaw (K w.params)) hn (by decide) hdf ⟨rfl, by decide, by decide⟩ hY F (fun _ _ a ns hl _ hS => ⟨a, ns, rfl, hS, hl, fun _ => rfl⟩) fun _ _ _ _ _ z => z
end My
/- These names are taken here so that the head below leaves out its twins of whole states (they are not needed, and make the compiled file larger than a hand-in may be). -/
def PySem.W.Fast.tw1760539058713669270 : Nat := 0
def PySem.W.Fast.tw18036750081176937042 : Nat := 0
def PySem.W.Fast.tw14737673328875552227 : Nat := 0
def PySem.W.Fast.tw14998792235876164788 : Nat := 0
def PySem.W.Fast.tw2664294936619079262 : Nat := 0
def PySem.W.Fast.tw15614238004740891475 : Nat := 0
def PySem.W.Fast.tw4963063319894165574 : Nat := 0
def PySem.W.Fast.tw10551508570878447700 : Nat := 0
def PySem.W.Fast.tw10862798551863655753 : Nat := 0
def PySem.W.Fast.tw11154875781409167680 : Nat := 0
def PySem.W.Fast.tw520620658659173486 : Nat := 0
def PySem.W.Fast.tw3370280060114637602 : Nat := 0
def PySem.W.Fast.tw8142758265935219698 : Nat := 0
def PySem.W.Fast.tw3003453980207613012 : Nat := 0
open PySem PySem.W PyProof.Rows
set_option maxRecDepth 100000 in
set_option maxHeartbeats 0 in
theorem PySem.Challenge.cw_lockhouse_k15_machine_words_holds : PySem.Challenge.rw_lockhouse_k15_machine_words.Holds := by
  w_on; o_law; k_head; (case hw => w_witness2)
  k_fill
  refine My.walk (l := PySem.Challenge.rw_lockhouse_k15_machine_words) rfl rfl (fun w h Y => PySem.W.kIn_of Y) ?F
  case F =>
    intro w mg fa h KX G hmg
    refine' My.all_mk KX G hmg ?aC_P ?aC_B ?aC_U ?aC_C ?aV ?aW ?lV ?lW ?aE_cA ?aE_cN ?aE_cS ?aE_cF ?aE_cO ?aE_cK ?aE_cZ ?a0 ?l0 ?c0 ?k0 ?a1 ?l1 ?c1 ?k1 ?a2 ?i2 ?ac2 ?l2 ?c2 ?k2 ?a3 ?i3 ?l3 ?c3 ?k3 ?a4 ?i4 ?l4 ?c4 ?k4 ?a5 ?i5 ?l5 ?c5 ?k5 ?a6 ?i6 ?l6 ?c6 ?k6 ?a7 ?i7 ?l7 ?c7 ?k7 ?a8 ?a8_U ?i8 ?l8 ?c8 ?k8 ?a9 ?i9 ?l9 ?c9 ?k9 ?a10 ?l10 ?c10 ?k10 ?a11 ?l11 ?c11 ?k11 ?a12 ?i12 ?l12 ?c12 ?k12 ?a13 ?i13 ?l13 ?c13 ?k13 ?a14 ?i14 ?l14 ?c14 ?k14 ?a15 ?i15 ?l15 ?c15 ?k15 ?a16 ?i16 ?l16 ?c16 ?k16 ?a17 ?i17 ?l17 ?c17 ?k17 ?a18 ?i18 ?l18 ?c18 ?k18 ?a19 ?i19 ?l19 ?c19 ?k19 ?a20 ?i20 ?l20 ?c20 ?k20 ?a21 ?i21 ?l21 ?c21 ?k21 ?a22 ?i22 ?l22 ?c22 ?k22 ?a23 ?i23 ?l23 ?c23 ?k23 ?a24 ?i24 ?l24 ?c24 ?k24 ?a25 ?i25 ?l25 ?c25 ?k25 ?a26 ?i26 ?l26 ?c26 ?k26 ?a27 ?l27 ?c27 ?k27 ?a28 ?l28 ?c28 ?k28 ?a29 ?l29 ?c29 ?k29 ?a30 ?l30 ?c30 ?k30 ?a31 ?l31 ?c31 ?k31 ?a32 ?l32 ?c32 ?k32 ?a33 ?l33 ?c33 ?k33 ?a34 ?l34 ?c34 ?k34 ?a35 ?l35 ?c35 ?k35 ?a36 ?l36 ?c36 ?k36 ?a37 ?l37 ?c37 ?k37 ?a38 ?l38 ?c38 ?k38 ?a39 ?l39 ?c39 ?k39 ?a40 ?l40 ?c40 ?k40 ?a41 ?l41 ?c41 ?k41 ?a42 ?l42 ?c42 ?k42 ?a43 ?l43 ?c43 ?k43 ?a44 ?l44 ?c44 ?k44 ?a45 ?l45 ?c45 ?k45 ?a46 ?l46 ?c46 ?k46 ?a47 ?l47 ?c47 ?k47 ?z_list ?z_tuple ?z_isinstance ?z_bool ?z_int ?z_len ?z_max ?z_range ?z_ValueError ?pg_P ?hdd_P ?po_P ?sa_P ?mk_P ?kc_P ?n_name_P ?n_high_P ?n_low_P ?n_room_P ?pg_B ?hdd_B ?po_B ?sa_B ?mk_B ?kc_B ?n_name_B ?n_high_B ?n_low_B ?n_room_B ?n_side_B ?pg_U ?hdd_U ?po_U ?sa_U ?mk_U ?kc_U ?n_name_U ?n_high_U ?n_low_U ?n_room_U ?n_lift_U ?g1 ?g2 ?pg_C ?hdd_C ?po_C ?sa_C ?mk_C ?kc_C ?nC_lock ?nC_held ?nC_least ?nC_open_side ?nC_inside ?ksV ?ksW ?oV ?oW ?v0 ?v1 ?v2 ?v3 ?n0_ ?lw0 ?cw0 ?dw0 ?n1_ ?lw1 ?cw1 ?dw1 ?n2_ ?lw2 ?cw2 ?dw2 ?n3_ ?lw3 ?cw3 ?dw3 ?n4_ ?lw4 ?cw4 ?dw4 ?n5_ ?lw5 ?cw5 ?dw5 ?n6_ ?lw6 ?cw6 ?dw6 ?n7_ ?lw7 ?cw7 ?dw7 ?n8_ ?lw8 ?cw8 ?dw8 ?n9_ ?lw9 ?cw9 ?dw9 ?xE_cA ?xE_cN ?xE_cS ?xE_cF ?xE_cO ?xE_cK ?exm_cA ?eg_cA ?en_cA ?ec_cA ?eo_cA ?eb_cA ?cl_cA ?kv_cA ?kk_cA_cA ?kk_cA_cF ?kk_cA_cO ?kk_cA_cN ?kk_cA_cS ?kk_cA_cK ?exm_cF ?eg_cF ?en_cF ?ec_cF ?eo_cF ?eb_cF ?cl_cF ?kv_cF ?kk_cF_cA ?kk_cF_cF ?kk_cF_cO ?kk_cF_cN ?kk_cF_cS ?kk_cF_cK ?exm_cO ?eg_cO ?en_cO ?ec_cO ?eo_cO ?eb_cO ?cl_cO ?kv_cO ?kk_cO_cA ?kk_cO_cF ?kk_cO_cO ?kk_cO_cN ?kk_cO_cS ?kk_cO_cK ?exm_cN ?eg_cN ?en_cN ?ec_cN ?eo_cN ?eb_cN ?cl_cN ?kv_cN ?kk_cN_cA ?kk_cN_cF ?kk_cN_cO ?kk_cN_cN ?kk_cN_cS ?kk_cN_cK ?exm_cS ?eg_cS ?en_cS ?ec_cS ?eo_cS ?eb_cS ?cl_cS ?kv_cS ?kk_cS_cA ?kk_cS_cF ?kk_cS_cO ?kk_cS_cN ?kk_cS_cS ?kk_cS_cK ?exm_cK ?eg_cK ?en_cK ?ec_cK ?eo_cK ?eb_cK ?cl_cK ?kv_cK ?kk_cK_cA ?kk_cK_cF ?kk_cK_cO ?kk_cK_cN ?kk_cK_cS ?kk_cK_cK ?ns0 ?ns1 ?ns2 ?ns3 ?ns4 ?ns5 ?ns6 ?ns7 ?ns8 ?ns9 ?ns10 ?ns11 ?ns12 ?ns13 ?ns14 ?ns15 ?ns16 ?ns17 ?ns18
    (case aC_P => first | k_is | rfl)
    (case aC_B => first | k_is | rfl)
    (case aC_U => first | k_is | rfl)
    (case aC_C => first | k_is | rfl)
    (case aV => first | k_is | rfl)
    (case aW => first | k_is | rfl)
    (case lV => first | k_is | rfl)
    (case lW => first | k_is | rfl)
    (case aE_cA => first | k_is | rfl)
    (case aE_cN => first | k_is | rfl)
    (case aE_cS => first | k_is | rfl)
    (case aE_cF => first | k_is | rfl)
    (case aE_cO => first | k_is | rfl)
    (case aE_cK => first | k_is | rfl)
    (case aE_cZ => first | k_is | rfl)
    (case a0 => first | k_is | rfl)
    (case l0 => first | k_is | rfl)
    (case c0 => first | k_is | rfl)
    (case k0 => first | k_is | rfl)
    (case a1 => first | k_is | rfl)
    (case l1 => first | k_is | rfl)
    (case c1 => first | k_is | rfl)
    (case k1 => first | k_is | rfl)
    (case a2 => first | k_is | rfl)
    (case i2 => first | k_is | rfl)
    (case ac2 => first | k_is | rfl)
    (case l2 => first | k_is | rfl)
    (case c2 => first | k_is | rfl)
    (case k2 => first | k_is | rfl)
    (case a3 => first | k_is | rfl)
    (case i3 => first | k_is | rfl)
    (case l3 => first | k_is | rfl)
    (case c3 => first | k_is | rfl)
    (case k3 => first | k_is | rfl)
    (case a4 => first | k_is | rfl)
    (case i4 => first | k_is | rfl)
    (case l4 => first | k_is | rfl)
    (case c4 => first | k_is | rfl)
    (case k4 => first | k_is | rfl)
    (case a5 => first | k_is | rfl)
    (case i5 => first | k_is | rfl)
    (case l5 => first | k_is | rfl)
    (case c5 => first | k_is | rfl)
    (case k5 => first | k_is | rfl)
    (case a6 => first | k_is | rfl)
    (case i6 => first | k_is | rfl)
    (case l6 => first | k_is | rfl)
    (case c6 => first | k_is | rfl)
    (case k6 => first | k_is | rfl)
    (case a7 => first | k_is | rfl)
    (case i7 => first | k_is | rfl)
    (case l7 => first | k_is | rfl)
    (case c7 => first | k_is | rfl)
    (case k7 => first | k_is | rfl)
    (case a8 => first | k_is | rfl)
    (case a8_U => first | k_is | rfl)
    (case i8 => first | k_is | rfl)
    (case l8 => first | k_is | rfl)
    (case c8 => first | k_is | rfl)
    (case k8 => first | k_is | rfl)
    (case a9 => first | k_is | rfl)
    (case i9 => first | k_is | rfl)
    (case l9 => first | k_is | rfl)
    (case c9 => first | k_is | rfl)
    (case k9 => first | k_is | rfl)
    (case a10 => first | k_is | rfl)
    (case l10 => first | k_is | rfl)
    (case c10 => first | k_is | rfl)
    (case k10 => first | k_is | rfl)
    (case a11 => first | k_is | rfl)
    (case l11 => first | k_is | rfl)
    (case c11 => first | k_is | rfl)
    (case k11 => first | k_is | rfl)
    (case a12 => first | k_is | rfl)
    (case i12 => first | k_is | rfl)
    (case l12 => first | k_is | rfl)
    (case c12 => first | k_is | rfl)
    (case k12 => first | k_is | rfl)
    (case a13 => first | k_is | rfl)
    (case i13 => first | k_is | rfl)
    (case l13 => first | k_is | rfl)
    (case c13 => first | k_is | rfl)
    (case k13 => first | k_is | rfl)
    (case a14 => first | k_is | rfl)
    (case i14 => first | k_is | rfl)
    (case l14 => first | k_is | rfl)
    (case c14 => first | k_is | rfl)
    (case k14 => first | k_is | rfl)
    (case a15 => first | k_is | rfl)
    (case i15 => first | k_is | rfl)
    (case l15 => first | k_is | rfl)
    (case c15 => first | k_is | rfl)
    (case k15 => first | k_is | rfl)
    (case a16 => first | k_is | rfl)
    (case i16 => first | k_is | rfl)
    (case l16 => first | k_is | rfl)
    (case c16 => first | k_is | rfl)
    (case k16 => first | k_is | rfl)
    (case a17 => first | k_is | rfl)
    (case i17 => first | k_is | rfl)
    (case l17 => first | k_is | rfl)
    (case c17 => first | k_is | rfl)
    (case k17 => first | k_is | rfl)
    (case a18 => first | k_is | rfl)
    (case i18 => first | k_is | rfl)
    (case l18 => first | k_is | rfl)
    (case c18 => first | k_is | rfl)
    (case k18 => first | k_is | rfl)
    (case a19 => first | k_is | rfl)
    (case i19 => first | k_is | rfl)
    (case l19 => first | k_is | rfl)
    (case c19 => first | k_is | rfl)
    (case k19 => first | k_is | rfl)
    (case a20 => first | k_is | rfl)
    (case i20 => first | k_is | rfl)
    (case l20 => first | k_is | rfl)
    (case c20 => first | k_is | rfl)
    (case k20 => first | k_is | rfl)
    (case a21 => first | k_is | rfl)
    (case i21 => first | k_is | rfl)
    (case l21 => first | k_is | rfl)
    (case c21 => first | k_is | rfl)
    (case k21 => first | k_is | rfl)
    (case a22 => first | k_is | rfl)
    (case i22 => first | k_is | rfl)
    (case l22 => first | k_is | rfl)
    (case c22 => first | k_is | rfl)
    (case k22 => first | k_is | rfl)
    (case a23 => first | k_is | rfl)
    (case i23 => first | k_is | rfl)
    (case l23 => first | k_is | rfl)
    (case c23 => first | k_is | rfl)
    (case k23 => first | k_is | rfl)
    (case a24 => first | k_is | rfl)
    (case i24 => first | k_is | rfl)
    (case l24 => first | k_is | rfl)
    (case c24 => first | k_is | rfl)
    (case k24 => first | k_is | rfl)
    (case a25 => first | k_is | rfl)
    (case i25 => first | k_is | rfl)
    (case l25 => first | k_is | rfl)
    (case c25 => first | k_is | rfl)
    (case k25 => first | k_is | rfl)
    (case a26 => first | k_is | rfl)
    (case i26 => first | k_is | rfl)
    (case l26 => first | k_is | rfl)
    (case c26 => first | k_is | rfl)
    (case k26 => first | k_is | rfl)
    (case a27 => first | k_is | rfl)
    (case l27 => first | k_is | rfl)
    (case c27 => first | k_is | rfl)
    (case k27 => first | k_is | rfl)
    (case a28 => first | k_is | rfl)
    (case l28 => first | k_is | rfl)
    (case c28 => first | k_is | rfl)
    (case k28 => first | k_is | rfl)
    (case a29 => first | k_is | rfl)
    (case l29 => first | k_is | rfl)
    (case c29 => first | k_is | rfl)
    (case k29 => first | k_is | rfl)
    (case a30 => first | k_is | rfl)
    (case l30 => first | k_is | rfl)
    (case c30 => first | k_is | rfl)
    (case k30 => first | k_is | rfl)
    (case a31 => first | k_is | rfl)
    (case l31 => first | k_is | rfl)
    (case c31 => first | k_is | rfl)
    (case k31 => first | k_is | rfl)
    (case a32 => first | k_is | rfl)
    (case l32 => first | k_is | rfl)
    (case c32 => first | k_is | rfl)
    (case k32 => first | k_is | rfl)
    (case a33 => first | k_is | rfl)
    (case l33 => first | k_is | rfl)
    (case c33 => first | k_is | rfl)
    (case k33 => first | k_is | rfl)
    (case a34 => first | k_is | rfl)
    (case l34 => first | k_is | rfl)
    (case c34 => first | k_is | rfl)
    (case k34 => first | k_is | rfl)
    (case a35 => first | k_is | rfl)
    (case l35 => first | k_is | rfl)
    (case c35 => first | k_is | rfl)
    (case k35 => first | k_is | rfl)
    (case a36 => first | k_is | rfl)
    (case l36 => first | k_is | rfl)
    (case c36 => first | k_is | rfl)
    (case k36 => first | k_is | rfl)
    (case a37 => first | k_is | rfl)
    (case l37 => first | k_is | rfl)
    (case c37 => first | k_is | rfl)
    (case k37 => first | k_is | rfl)
    (case a38 => first | k_is | rfl)
    (case l38 => first | k_is | rfl)
    (case c38 => first | k_is | rfl)
    (case k38 => first | k_is | rfl)
    (case a39 => first | k_is | rfl)
    (case l39 => first | k_is | rfl)
    (case c39 => first | k_is | rfl)
    (case k39 => first | k_is | rfl)
    (case a40 => first | k_is | rfl)
    (case l40 => first | k_is | rfl)
    (case c40 => first | k_is | rfl)
    (case k40 => first | k_is | rfl)
    (case a41 => first | k_is | rfl)
    (case l41 => first | k_is | rfl)
    (case c41 => first | k_is | rfl)
    (case k41 => first | k_is | rfl)
    (case a42 => first | k_is | rfl)
    (case l42 => first | k_is | rfl)
    (case c42 => first | k_is | rfl)
    (case k42 => first | k_is | rfl)
    (case a43 => first | k_is | rfl)
    (case l43 => first | k_is | rfl)
    (case c43 => first | k_is | rfl)
    (case k43 => first | k_is | rfl)
    (case a44 => first | k_is | rfl)
    (case l44 => first | k_is | rfl)
    (case c44 => first | k_is | rfl)
    (case k44 => first | k_is | rfl)
    (case a45 => first | k_is | rfl)
    (case l45 => first | k_is | rfl)
    (case c45 => first | k_is | rfl)
    (case k45 => first | k_is | rfl)
    (case a46 => first | k_is | rfl)
    (case l46 => first | k_is | rfl)
    (case c46 => first | k_is | rfl)
    (case k46 => first | k_is | rfl)
    (case a47 => first | k_is | rfl)
    (case l47 => first | k_is | rfl)
    (case c47 => first | k_is | rfl)
    (case k47 => first | k_is | rfl)
    (case z_list => first | k_is | rfl)
    (case z_tuple => first | k_is | rfl)
    (case z_isinstance => first | k_is | rfl)
    (case z_bool => first | k_is | rfl)
    (case z_int => first | k_is | rfl)
    (case z_len => first | k_is | rfl)
    (case z_max => first | k_is | rfl)
    (case z_range => first | k_is | rfl)
    (case z_ValueError => first | k_is | rfl)
    (case pg_P => first | k_is | rfl)
    (case hdd_P => first | k_is | rfl)
    (case po_P => first | k_is | rfl)
    (case sa_P => first | k_is | rfl)
    (case mk_P => first | k_is | rfl)
    (case kc_P => first | k_is | rfl)
    (case n_name_P => first | k_is | rfl)
    (case n_high_P => first | k_is | rfl)
    (case n_low_P => first | k_is | rfl)
    (case n_room_P => first | k_is | rfl)
    (case pg_B => first | k_is | rfl)
    (case hdd_B => first | k_is | rfl)
    (case po_B => first | k_is | rfl)
    (case sa_B => first | k_is | rfl)
    (case mk_B => first | k_is | rfl)
    (case kc_B => first | k_is | rfl)
    (case n_name_B => first | k_is | rfl)
    (case n_high_B => first | k_is | rfl)
    (case n_low_B => first | k_is | rfl)
    (case n_room_B => first | k_is | rfl)
    (case n_side_B => first | k_is | rfl)
    (case pg_U => first | k_is | rfl)
    (case hdd_U => first | k_is | rfl)
    (case po_U => first | k_is | rfl)
    (case sa_U => first | k_is | rfl)
    (case mk_U => first | k_is | rfl)
    (case kc_U => first | k_is | rfl)
    (case n_name_U => first | k_is | rfl)
    (case n_high_U => first | k_is | rfl)
    (case n_low_U => first | k_is | rfl)
    (case n_room_U => first | k_is | rfl)
    (case n_lift_U => first | k_is | rfl)
    (case g1 => first | k_is | rfl)
    (case g2 => first | k_is | rfl)
    (case pg_C => first | k_is | rfl)
    (case hdd_C => first | k_is | rfl)
    (case po_C => first | k_is | rfl)
    (case sa_C => first | k_is | rfl)
    (case mk_C => first | k_is | rfl)
    (case kc_C => first | k_is | rfl)
    (case nC_lock => first | k_is | rfl)
    (case nC_held => first | k_is | rfl)
    (case nC_least => first | k_is | rfl)
    (case nC_open_side => first | k_is | rfl)
    (case nC_inside => first | k_is | rfl)
    (case ksV => k_keys)
    (case ksW => k_keys)
    (case oV => first | k_is | rfl)
    (case oW => first | k_is | rfl)
    (case v0 => first | k_is | rfl)
    (case v1 => first | k_is | rfl)
    (case v2 => first | k_is | rfl)
    (case v3 => first | k_is | rfl)
    (case n0_ => first | k_is | rfl)
    (case lw0 => first | k_is | rfl)
    (case cw0 => first | k_is | rfl)
    (case dw0 => first | k_is | rfl)
    (case n1_ => first | k_is | rfl)
    (case lw1 => first | k_is | rfl)
    (case cw1 => first | k_is | rfl)
    (case dw1 => first | k_is | rfl)
    (case n2_ => first | k_is | rfl)
    (case lw2 => first | k_is | rfl)
    (case cw2 => first | k_is | rfl)
    (case dw2 => first | k_is | rfl)
    (case n3_ => first | k_is | rfl)
    (case lw3 => first | k_is | rfl)
    (case cw3 => first | k_is | rfl)
    (case dw3 => first | k_is | rfl)
    (case n4_ => first | k_is | rfl)
    (case lw4 => first | k_is | rfl)
    (case cw4 => first | k_is | rfl)
    (case dw4 => first | k_is | rfl)
    (case n5_ => first | k_is | rfl)
    (case lw5 => first | k_is | rfl)
    (case cw5 => first | k_is | rfl)
    (case dw5 => first | k_is | rfl)
    (case n6_ => first | k_is | rfl)
    (case lw6 => first | k_is | rfl)
    (case cw6 => first | k_is | rfl)
    (case dw6 => first | k_is | rfl)
    (case n7_ => first | k_is | rfl)
    (case lw7 => first | k_is | rfl)
    (case cw7 => first | k_is | rfl)
    (case dw7 => first | k_is | rfl)
    (case n8_ => first | k_is | rfl)
    (case lw8 => first | k_is | rfl)
    (case cw8 => first | k_is | rfl)
    (case dw8 => first | k_is | rfl)
    (case n9_ => first | k_is | rfl)
    (case lw9 => first | k_is | rfl)
    (case cw9 => first | k_is | rfl)
    (case dw9 => first | k_is | rfl)
    (case xE_cA => first | k_is | k_exc | kit_is | kts_exm | rfl)
    (case xE_cN => first | k_is | k_exc | kit_is | kts_exm | rfl)
    (case xE_cS => first | k_is | k_exc | kit_is | kts_exm | rfl)
    (case xE_cF => first | k_is | k_exc | kit_is | kts_exm | rfl)
    (case xE_cO => first | k_is | k_exc | kit_is | kts_exm | rfl)
    (case xE_cK => first | k_is | k_exc | kit_is | kts_exm | rfl)
    (case exm_cA => first | k_is | k_exc | kit_is | kts_exm | rfl)
    (case eg_cA => first | k_is | rfl)
    (case en_cA => first | k_is | rfl)
    (case ec_cA => first | k_is | rfl)
    (case eo_cA => first | k_is | rfl)
    (case eb_cA => first | k_is | rfl)
    (case cl_cA => first | k_is | rfl)
    (case kv_cA => first | k_is | k_exc | kit_is | kts_exm | rfl)
    (case kk_cA_cA => first | k_is | k_exc | kit_is | kts_exm | rfl)
    (case kk_cA_cF => first | k_is | k_exc | kit_is | kts_exm | rfl)
    (case kk_cA_cO => first | k_is | k_exc | kit_is | kts_exm | rfl)
    (case kk_cA_cN => first | k_is | k_exc | kit_is | kts_exm | rfl)
    (case kk_cA_cS => first | k_is | k_exc | kit_is | kts_exm | rfl)
    (case kk_cA_cK => first | k_is | k_exc | kit_is | kts_exm | rfl)
    (case exm_cF => first | k_is | k_exc | kit_is | kts_exm | rfl)
    (case eg_cF => first | k_is | rfl)
    (case en_cF => first | k_is | rfl)
    (case ec_cF => first | k_is | rfl)
    (case eo_cF => first | k_is | rfl)
    (case eb_cF => first | k_is | rfl)
    (case cl_cF => first | k_is | rfl)
    (case kv_cF => first | k_is | k_exc | kit_is | kts_exm | rfl)
    (case kk_cF_cA => first | k_is | k_exc | kit_is | kts_exm | rfl)
    (case kk_cF_cF => first | k_is | k_exc | kit_is | kts_exm | rfl)
    (case kk_cF_cO => first | k_is | k_exc | kit_is | kts_exm | rfl)
    (case kk_cF_cN => first | k_is | k_exc | kit_is | kts_exm | rfl)
    (case kk_cF_cS => first | k_is | k_exc | kit_is | kts_exm | rfl)
    (case kk_cF_cK => first | k_is | k_exc | kit_is | kts_exm | rfl)
    (case exm_cO => first | k_is | k_exc | kit_is | kts_exm | rfl)
    (case eg_cO => first | k_is | rfl)
    (case en_cO => first | k_is | rfl)
    (case ec_cO => first | k_is | rfl)
    (case eo_cO => first | k_is | rfl)
    (case eb_cO => first | k_is | rfl)
    (case cl_cO => first | k_is | rfl)
    (case kv_cO => first | k_is | k_exc | kit_is | kts_exm | rfl)
    (case kk_cO_cA => first | k_is | k_exc | kit_is | kts_exm | rfl)
    (case kk_cO_cF => first | k_is | k_exc | kit_is | kts_exm | rfl)
    (case kk_cO_cO => first | k_is | k_exc | kit_is | kts_exm | rfl)
    (case kk_cO_cN => first | k_is | k_exc | kit_is | kts_exm | rfl)
    (case kk_cO_cS => first | k_is | k_exc | kit_is | kts_exm | rfl)
    (case kk_cO_cK => first | k_is | k_exc | kit_is | kts_exm | rfl)
    (case exm_cN => first | k_is | k_exc | kit_is | kts_exm | rfl)
    (case eg_cN => first | k_is | rfl)
    (case en_cN => first | k_is | rfl)
    (case ec_cN => first | k_is | rfl)
    (case eo_cN => first | k_is | rfl)
    (case eb_cN => first | k_is | rfl)
    (case cl_cN => first | k_is | rfl)
    (case kv_cN => first | k_is | k_exc | kit_is | kts_exm | rfl)
    (case kk_cN_cA => first | k_is | k_exc | kit_is | kts_exm | rfl)
    (case kk_cN_cF => first | k_is | k_exc | kit_is | kts_exm | rfl)
    (case kk_cN_cO => first | k_is | k_exc | kit_is | kts_exm | rfl)
    (case kk_cN_cN => first | k_is | k_exc | kit_is | kts_exm | rfl)
    (case kk_cN_cS => first | k_is | k_exc | kit_is | kts_exm | rfl)
    (case kk_cN_cK => first | k_is | k_exc | kit_is | kts_exm | rfl)
    (case exm_cS => first | k_is | k_exc | kit_is | kts_exm | rfl)
    (case eg_cS => first | k_is | rfl)
    (case en_cS => first | k_is | rfl)
    (case ec_cS => first | k_is | rfl)
    (case eo_cS => first | k_is | rfl)
    (case eb_cS => first | k_is | rfl)
    (case cl_cS => first | k_is | rfl)
    (case kv_cS => first | k_is | k_exc | kit_is | kts_exm | rfl)
    (case kk_cS_cA => first | k_is | k_exc | kit_is | kts_exm | rfl)
    (case kk_cS_cF => first | k_is | k_exc | kit_is | kts_exm | rfl)
    (case kk_cS_cO => first | k_is | k_exc | kit_is | kts_exm | rfl)
    (case kk_cS_cN => first | k_is | k_exc | kit_is | kts_exm | rfl)
    (case kk_cS_cS => first | k_is | k_exc | kit_is | kts_exm | rfl)
    (case kk_cS_cK => first | k_is | k_exc | kit_is | kts_exm | rfl)
    (case exm_cK => first | k_is | k_exc | kit_is | kts_exm | rfl)
    (case eg_cK => first | k_is | rfl)
    (case en_cK => first | k_is | rfl)
    (case ec_cK => first | k_is | rfl)
    (case eo_cK => first | k_is | rfl)
    (case eb_cK => first | k_is | rfl)
    (case cl_cK => first | k_is | rfl)
    (case kv_cK => first | k_is | k_exc | kit_is | kts_exm | rfl)
    (case kk_cK_cA => first | k_is | k_exc | kit_is | kts_exm | rfl)
    (case kk_cK_cF => first | k_is | k_exc | kit_is | kts_exm | rfl)
    (case kk_cK_cO => first | k_is | k_exc | kit_is | kts_exm | rfl)
    (case kk_cK_cN => first | k_is | k_exc | kit_is | kts_exm | rfl)
    (case kk_cK_cS => first | k_is | k_exc | kit_is | kts_exm | rfl)
    (case kk_cK_cK => first | k_is | k_exc | kit_is | kts_exm | rfl)
    (case ns0 => first | k_is | rfl)
    (case ns1 => first | k_is | rfl)
    (case ns2 => first | k_is | rfl)
    (case ns3 => first | k_is | rfl)
    (case ns4 => first | k_is | rfl)
    (case ns5 => first | k_is | rfl)
    (case ns6 => first | k_is | rfl)
    (case ns7 => first | k_is | rfl)
    (case ns8 => first | k_is | rfl)
    (case ns9 => first | k_is | rfl)
    (case ns10 => first | k_is | rfl)
    (case ns11 => first | k_is | rfl)
    (case ns12 => first | k_is | rfl)
    (case ns13 => first | k_is | rfl)
    (case ns14 => first | k_is | rfl)
    (case ns15 => first | k_is | rfl)
    (case ns16 => first | k_is | rfl)
    (case ns17 => first | k_is | rfl)
    (case ns18 => first | k_is | rfl)
