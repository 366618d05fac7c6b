import PyProof.Rows.All
import Wide.All
import OpenK.AllK
import Wide.FinOn
import Lean
import PyProof.EqAt
import PyProof.EqKinds
import PyProof.TupleCall
import PySem.Challenge.RW_shareparley_k12_a_company
import KE.IntBitsLaws
import OpenK.KEqL
import KE.LcSums
import KE.KTupSum
import PyProof.Rows.EqDataRows
import PyProof.EnumMake
import KE.KSortTup
-- CHANGE: your row's module here, as the last of these rows
set_option Elab.async false
set_option linter.all false
set_option maxRecDepth 100000
/-! THE HAND LAYER, for ints, bools, texts, own classes, LISTS and tuples (index, slices, in, append, pop ..), calls, loops. Paste it whole ahead of your own text; what your proof does not reach may be deleted. -/
namespace L2
open PySem PySem.Spec PyProof.Rows

/-- a key: an int or a str -/
abbrev Key := Sum Int Str
def keyIs : Key → Value → Bool
  | .inl k, v => Value.isInt k v
  | .inr x, v => Value.isStrOf x v
def keyH (w : World) : Key → Int
  | .inl k => hashInt k
  | .inr x => hashStr w x
theorem keyIs_shape : ∀ {k : Key} {v : Value}, keyIs k v = true → (∃ i t, k = Sum.inl i ∧ v = Value.int i t) ∨ (∃ x t, k = Sum.inr x ∧ v = Value.str x t)
  | .inl i, v, h => by
    obtain ⟨t, e⟩ := Value.isInt_shape (k := i) (v := v) h
    exact .inl ⟨i, t, rfl, e⟩
  | .inr x, v, h => by
    obtain ⟨t, e⟩ := Value.isStrOf_shape (x := x) (v := v) h
    exact .inr ⟨x, t, rfl, e⟩
theorem keyIs_int (i : Int) (t : Tok) : keyIs (.inl i) (.int i t) = true := by simp [keyIs, Value.isInt]
theorem keyIs_str (x : Str) (t : Tok) : keyIs (.inr x) (.str x t) = true := by simp [keyIs, Value.isStrOf]
theorem key_ll (a b : Int) : decide ((Sum.inl a : Key) = Sum.inl b) = (a == b) := by
  by_cases e : a = b
  · subst e; simp
  · have h : ¬ (Sum.inl a : Key) = Sum.inl b := fun q => e (Sum.inl.inj q)
    rw [decide_eq_false h]
    exact (beq_eq_false_iff_ne.mpr e).symm
theorem key_rr (a b : Str) : decide ((Sum.inr a : Key) = Sum.inr b) = decide (a = b) := by
  by_cases e : a = b
  · subst e; simp
  · have h : ¬ (Sum.inr a : Key) = Sum.inr b := fun q => e (Sum.inr.inj q)
    rw [decide_eq_false h, decide_eq_false e]
theorem key_lr (a : Int) (b : Str) : decide ((Sum.inl a : Key) = Sum.inr b) = false := decide_eq_false (fun q => nomatch q)
theorem key_rl (a : Str) (b : Int) : decide ((Sum.inr a : Key) = Sum.inl b) = false := decide_eq_false (fun q => nomatch q)

def mixKind (prog : Program) (w : World) : PySem.KeyKind prog w Key where
  is := keyIs
  hash := keyH w
  inj := fun v a b ha hb => by
    rcases keyIs_shape ha with ⟨i, t, rfl, rfl⟩ | ⟨x, t, rfl, rfl⟩
    · rcases keyIs_shape hb with ⟨j, u, rfl, e⟩ | ⟨y, u, rfl, e⟩
      · injection e with e1 _; rw [e1]
      · exact nomatch e
    · rcases keyIs_shape hb with ⟨j, u, rfl, e⟩ | ⟨y, u, rfl, e⟩
      · exact nomatch e
      · injection e with e1 _; rw [e1]
  byValue := fun k v h => by
    rcases keyIs_shape h with ⟨i, t, rfl, rfl⟩ | ⟨x, t, rfl, rfl⟩ <;> rfl
  pyHash := fun hv h => by
    rcases keyIs_shape hv with ⟨i, t, rfl, rfl⟩ | ⟨x, t, rfl, rfl⟩
    · exact wpAny_pyHash_int h
    · exact wpAny_pyHash_str h
  eqBool := fun hu hv h => by
    rcases keyIs_shape hu with ⟨i, t, rfl, rfl⟩ | ⟨x, t, rfl, rfl⟩
    · rcases keyIs_shape hv with ⟨j, u, rfl, rfl⟩ | ⟨y, u, rfl, rfl⟩
      · rw [key_ll] at h; exact wpAny_eqBool_int h
      · rw [key_lr] at h; exact SeqAt.EqAt.int_str i t y u _ _ _ _ h
    · rcases keyIs_shape hv with ⟨j, u, rfl, rfl⟩ | ⟨y, u, rfl, rfl⟩
      · rw [key_rl] at h; exact SeqAt.EqAt.str_int x t j u _ _ _ _ h
      · rw [key_rr] at h; exact wpAny_eqBool_str h
  «strs» := fun k x t v h => by
    rcases keyIs_shape h with ⟨i, u, rfl, e⟩ | ⟨y, u, rfl, e⟩
    · exact nomatch e
    · injection e with e1 _
      subst e1
      cases v <;> rfl

theorem mixKind_int (prog : Program) (w : World) (i : Int) (t : Tok) : (mixKind prog w).is (.inl i) (.int i t) = true := keyIs_int i t
theorem mixKind_str (prog : Program) (w : World) (x : Str) (t : Tok) : (mixKind prog w).is (.inr x) (.str x t) = true := keyIs_str x t
end L2

namespace L2
open PySem PySem.Spec PyProof.Rows

/-- a value, without the heap -/
inductive V where
  | non | bl (b : Bool) | int (i : Int) | str (x : Str) | byt (b : Array UInt8) | flt (b : UInt64) | ref (a : Addr) | ty (n : String)
  deriving DecidableEq

def RelV : V → Value → Prop
  | .non, u => u = Value.none
  | .bl b, u => u = Value.bool b
  | .int i, u => ∃ t, u = Value.int i t
  | .str x, u => ∃ t, u = Value.str x t
  | .byt b, u => ∃ t, u = Value.bytes b t
  | .flt b, u => ∃ t, u = Value.float b t
  | .ref a, u => u = Value.ref a
  | .ty n, u => u = Value.type n

abbrev Vals : List V → List Value → Prop := Paired RelV
theorem Vals.length {xs : List V} {us : List Value} (r : Vals xs us) : xs.length = us.length := Paired.length r
theorem Vals.get : ∀ {xs : List V} {us : List Value} {i : Nat} {x : V}, Vals xs us → xs[i]? = some x → ∃ u, us[i]? = some u ∧ RelV x u
  | _, _, _, _, .nil, e => by simp at e
  | _, _, 0, _, .cons r _, e => by simp at e; subst e; exact ⟨_, rfl, r⟩
  | _, _, i + 1, x, .cons _ t, e => by
    obtain ⟨u, h1, h2⟩ := Vals.get (i := i) (x := x) t (by simpa using e)
    exact ⟨u, by simpa using h1, h2⟩
theorem Vals.set {x : V} {u : Value} (r : RelV x u) : ∀ {xs : List V} {us : List Value} (i : Nat), Vals xs us → Vals (xs.set i x) (us.set i u)
  | _, _, _, .nil => .nil
  | _, _, 0, .cons _ t => .cons r t
  | _, _, i + 1, .cons q t => .cons q (Vals.set r i t)
theorem Vals.append : ∀ {xs ys : List V} {us ws : List Value}, Vals xs us → Vals ys ws → Vals (xs ++ ys) (us ++ ws)
  | _, _, _, _, .nil, s => s
  | _, _, _, _, .cons r t, s => .cons r (Vals.append t s)
theorem Vals.take : ∀ {xs : List V} {us : List Value} (n : Nat), Vals xs us → Vals (xs.take n) (us.take n)
  | _, _, 0, _ => .nil
  | _, _, _ + 1, .nil => .nil
  | _, _, n + 1, .cons r t => .cons r (Vals.take n t)
theorem Vals.drop : ∀ {xs : List V} {us : List Value} (n : Nat), Vals xs us → Vals (xs.drop n) (us.drop n)
  | _, _, 0, r => r
  | _, _, _ + 1, .nil => .nil
  | _, _, n + 1, .cons _ t => Vals.drop n t
def RelO : Option V → Option Value → Prop
  | some v, some u => RelV v u
  | none, none => True
  | _, _ => False
def KV {κ : Type} : List (κ × V) → List (κ × Value) → Prop := Paired fun (p : κ × V) (q : κ × Value) => p.1 = q.1 ∧ RelV p.2 q.2

/-- a key of a dict (00_mix): an int or a text -/
def kV : Key → V
  | .inl i => .int i
  | .inr x => .str x

/-- what stands at a tracked address -/
inductive HO where
  /-- a list -/
  | lst (xs : List V)
  /-- a tuple (never changes) -/
  | tup (xs : List V)
  /-- a dict whose keys are ints and texts; one whose keys are tuples of ints and texts (the empty one is both) -/
  | dK (kvs : List (Key × V)) | dT (kvs : List (List Key × V))
  /-- a set of ints: its members, its size -/
  | set (S : Int → Bool) (n : Nat)
  /-- an instance of the class at C, its dict at dx, its attributes -/
  | ins (C dx : Addr) (fs : List (Str × V))
  /-- the dict of the instance at x -/
  | own (x : Addr)
  /-- the dict of an exception -/
  | xd (fs : List (Str × V))
  /-- a bound method, f of x -/
  | met (f x : Addr)
  /-- a range object lo, lo + 1, .. below hi -/
  | rng (lo hi : Int)
  /-- a thing that is known to the object (the script; a dict while a loop walks it): read, never written while it is so -/
  | frz (o : Obj) (u : HO)
  /-- a code object's table -/
  | tbl (ps : Array Value)
  /-- any other thing, by what is true of its one object (a def of one's own: SetO a S n := HO.ext fun h => ..) -/
  | ext (φ : Heap → Prop)

abbrev Hp := Addr → Option HO
def upd (H : Hp) (a : Addr) (o : HO) : Hp := fun b => if b = a then some o else H b
theorem upd_same {H : Hp} {a : Addr} {o : HO} : upd H a o a = some o := by unfold upd; rw [if_pos rfl]
theorem upd_ne {H : Hp} {a b : Addr} {o : HO} (h : b ≠ a) : upd H a o b = H b := by unfold upd; rw [if_neg h]
theorem upd_upd {H : Hp} {a : Addr} {o u : HO} : upd (upd H a o) a u = upd H a u := by
  funext b; unfold upd; split <;> rfl
/-- two objects of different content stand apart -/
theorem ne_of {H : Hp} {a b : Addr} {o u : HO} (h : H a = some o) (h' : H b = some u) (d : o ≠ u) : a ≠ b := by
  intro e; subst e; rw [h] at h'; exact d (Option.some.inj h')
theorem ne_of_none {H : Hp} {a b : Addr} {o : HO} (h : H a = some o) (h' : H b = none) : a ≠ b := by
  intro e; subst e; rw [h] at h'; cases h'

section
variable (P : Program) (w : World)
def ObjOk (H : Hp) (h : Heap) (a : Addr) : HO → Prop
  | .lst xs => xs.length ≤ sizeLine ∧ ∃ (its : List Value) (n : Nat), Vals xs its ∧ h.get? a = some { cls := .type "list", data := .seq its.toArray n }
  | .tup xs => xs.length ≤ sizeLine ∧ ∃ its : List Value, Vals xs its ∧ IsTup h a its.toArray
  | .dK kvs => kvs.length ≤ sizeLine ∧ (a == sysModules) = false ∧ ∃ vs, KV kvs vs ∧ h.DictOf (mixKind P w) a vs
  | .dT kvs => kvs.length ≤ sizeLine ∧ (a == sysModules) = false ∧ ∃ xs : List (List Key × Addr × Value),
      Paired (fun (p : List Key × V) (q : List Key × Addr × Value) => p.1 = q.1 ∧ H q.2.1 = some (.tup (p.1.map kV)) ∧ RelV p.2 q.2.2) kvs xs ∧
      ∃ o es ep, h.get? a = some o ∧ o.ExactDict ∧ o.data = .dict es ep ∧ es.toList = xs.map (entryOfKey (tupleKind (mixKind P w))) ∧ (xs.map (·.1)).Nodup
  | .set S n => h.SetOf (intKind P w) a S n
  | .ins C dx fs => H dx = some (.own a) ∧ fs.length ≤ 1000 ∧ dx ≠ a ∧ h.get? a = some (PySem.W.instObj C dx) ∧
      ∃ mA, h.Ns1 dx mA ∧ (∀ f, RelO (fs.lookup f) (mA f)) ∧ PySem.Within mA (fs.map (·.1))
  | .own _ => ∃ o, h.get? a = some o
  | .xd fs => ∃ mA, h.Ns1 a mA ∧ ∀ f, RelO (fs.lookup f) (mA f)
  | .rng lo hi => ∃ t u v, h.get? a = some { cls := .type "range", data := .fields #[.int lo t, .int hi u, .int 1 v] }
  | .frz o u => h.get? a = some o ∧ ObjOk H h a u
  | .tbl ps => h.get? a = some { cls := .none, data := .fields ps }
  | .met f x => h.get? a = some (PySem.W.methodObj (.ref f) (.ref x))
  | .ext φ => φ h ∧ (∃ o, h.get? a = some o) ∧ ∀ h1 h2 : Heap, φ h1 → (∀ o, h1.get? a = some o → h2.get? a = some o) → φ h2
/-- the abstract heap is held -/
def HOk (H : Hp) (h : Heap) : Prop := ∀ a o, H a = some o → ObjOk P w H h a o
end

section
variable {P : Program} {w : World} {H H' : Hp} {h h' : Heap} {a : Addr} {o : HO}
theorem ObjOk.lt (x : ObjOk P w H h a o) : a < h.objs.size := by
  cases o with
  | lst xs => obtain ⟨_, _, _, _, e⟩ := x; exact Heap.lt_size e
  | tup xs => obtain ⟨_, _, _, p⟩ := x; exact p.lt
  | dK kvs => obtain ⟨_, _, _, _, o, _, _, e, _⟩ := x; exact Heap.lt_size e
  | dT kvs => obtain ⟨_, _, _, _, o, _, _, e, _⟩ := x; exact Heap.lt_size e
  | set S n => obtain ⟨o, _, _, _, e, _⟩ := x; exact Heap.lt_size e
  | ins C dx fs => obtain ⟨_, _, _, e, _⟩ := x; exact Heap.lt_size e
  | own y => obtain ⟨_, e⟩ := x; exact Heap.lt_size e
  | xd fs => obtain ⟨_, ⟨_, _, _, e, _⟩, _⟩ := x; exact Heap.lt_size e
  | rng lo hi => obtain ⟨_, _, _, e⟩ := x; exact Heap.lt_size e
  | frz ob u => obtain ⟨e, _⟩ := x; exact Heap.lt_size e
  | tbl ps => exact Heap.lt_size (show h.get? a = some _ from x)
  | met f y => exact Heap.lt_size (show h.get? a = some _ from x)
  | ext φ => obtain ⟨_, ⟨_, e⟩, _⟩ := x; exact Heap.lt_size e
theorem Paired.mapP {α β : Type} {F G : α → β → Prop} : ∀ {l₁ : List α} {l₂ : List β}, Paired F l₁ l₂ → (∀ a b, F a b → G a b) → Paired G l₁ l₂
  | _, _, .nil, _ => .nil
  | _, _, .cons r t, f => .cons (f _ _ r) (Paired.mapP t f)
/-- what an object's description leans on: its own object, its own dict, the tuples -/
theorem ObjOk.stay (x : ObjOk P w H h a o) (k : ∀ b u, (b = a ∨ H b = some (.own a)) → h.get? b = some u → h'.get? b = some u)
    (ho : ∀ b, H b = some (.own a) → H' b = some (.own a)) (ht : ∀ b xs, H b = some (.tup xs) → H' b = some (.tup xs)) : ObjOk P w H' h' a o := by
  induction o with
  | lst xs => obtain ⟨z, its, n, r, e⟩ := x; exact ⟨z, its, n, r, k _ _ (.inl rfl) e⟩
  | tup xs => obtain ⟨z, its, r, ob, e, c⟩ := x; exact ⟨z, its, r, ob, k _ _ (.inl rfl) e, c⟩
  | dK kvs => obtain ⟨z, y, vs, r, ob, es, ep, e, c⟩ := x; exact ⟨z, y, vs, r, ob, es, ep, k _ _ (.inl rfl) e, c⟩
  | dT kvs =>
    obtain ⟨z, y, xs, r, ob, es, ep, e, c⟩ := x
    exact ⟨z, y, xs, Paired.mapP r fun p q z => ⟨z.1, ht _ _ z.2.1, z.2.2⟩, ob, es, ep, k _ _ (.inl rfl) e, c⟩
  | set S n => obtain ⟨ob, es, ep, t, e, c⟩ := x; exact ⟨ob, es, ep, t, k _ _ (.inl rfl) e, c⟩
  | ins C dx fs =>
    obtain ⟨d, z, ne, e, mA, ⟨od, es, ep, e2, c⟩, r⟩ := x
    exact ⟨ho _ d, z, ne, k _ _ (.inl rfl) e, mA, ⟨od, es, ep, k _ _ (.inr d) e2, c⟩, r⟩
  | own y => obtain ⟨ob, e⟩ := x; exact ⟨ob, k _ _ (.inl rfl) e⟩
  | xd fs => obtain ⟨mA, ⟨od, es, ep, e, c⟩, r⟩ := x; exact ⟨mA, ⟨od, es, ep, k _ _ (.inl rfl) e, c⟩, r⟩
  | rng lo hi => obtain ⟨t, u, v, e⟩ := x; exact ⟨t, u, v, k _ _ (.inl rfl) e⟩
  | frz ob u ih => obtain ⟨e, q⟩ := x; exact ⟨k _ _ (.inl rfl) e, ih q⟩
  | tbl ps =>
    have e : h.get? a = some { cls := .none, data := .fields ps } := x
    show h'.get? a = some { cls := .none, data := .fields ps }
    exact k a _ (.inl rfl) e
  | met f y =>
    have e : h.get? a = some (PySem.W.methodObj (.ref f) (.ref y)) := x
    show h'.get? a = some (PySem.W.methodObj (.ref f) (.ref y))
    exact k a _ (.inl rfl) e
  | ext φ => obtain ⟨p, ⟨o, e⟩, st⟩ := x; exact ⟨st _ _ p fun o q => k _ _ (.inl rfl) q, ⟨o, k _ _ (.inl rfl) e⟩, st⟩
theorem HOk.lt (x : HOk P w H h) (e : H a = some o) : a < h.objs.size := (x a o e).lt
theorem HOk.fresh (x : HOk P w H h) (e : h.objs.size ≤ a) : H a = none := by
  cases q : H a with
  | none => rfl
  | some u => exact absurd (Nat.lt_of_lt_of_le (x.lt q) e) (Nat.lt_irrefl _)
/-- every object of the heap is kept -/
theorem HOk.kept (x : HOk P w H h) (k : ∀ b u, h.get? b = some u → h'.get? b = some u) : HOk P w H h' := fun a o e =>
  (x a o e).stay (fun b u _ q => k b u q) (fun _ q => q) fun _ _ q => q
/-- a new object is laid and tracked -/
theorem HOk.laid (x : HOk P w H h) (k : ∀ b u, h.get? b = some u → h'.get? b = some u) (hp : h.objs.size ≤ a) (new : ObjOk P w (upd H a o) h' a o) : HOk P w (upd H a o) h' := fun b u e => by
  have hn := x.fresh hp
  by_cases hb : b = a
  · subst hb; rw [upd_same] at e; cases e; exact new
  · rw [upd_ne hb] at e
    exact (x b u e).stay (fun c v _ q => k c v q) (fun c q => by rw [upd_ne (ne_of_none q hn)]; exact q) fun c xs q => by rw [upd_ne (ne_of_none q hn)]; exact q
end

/-- what may be read as u: it is u, or a known u -/
def Rd (H : Hp) (a : Addr) (u : HO) : Prop := H a = some u ∨ ∃ o, H a = some (.frz o u)
theorem Rd.ok {P : Program} {w : World} {H : Hp} {h : Heap} {a : Addr} {u : HO} (r : Rd H a u) (x : HOk P w H h) : ObjOk P w H h a u := by
  rcases r with r | ⟨o, r⟩
  · exact x a u r
  · obtain ⟨_, q⟩ := x a _ r
    exact q
/-- what may be written -/
def Mut : Option HO → Prop
  | some (.lst _) => True
  | some (.dK _) => True
  | some (.dT _) => True
  | some (.set _ _) => True
  | some (.ins _ _ _) => True
  | some (.ext _) => True
  | _ => False
section
variable {P : Program} {w : World} {H : Hp} {h h' : Heap} {x e : Addr} {o' : HO}
/-- the object at e is changed: x itself, or the dict of the instance x -/
theorem HOk.write (ok : HOk P w H h) (mu : Mut (H x)) (he : e = x ∨ H e = some (.own x)) (k : ∀ b u, b ≠ e → h.get? b = some u → h'.get? b = some u) (heo : ∃ u, h'.get? e = some u)
    (new : ObjOk P w (upd H x o') h' x o') : HOk P w (upd H x o') h' := fun b u q => by
  have nown : ∀ c y, H c = some (.own y) → c ≠ x := fun c y r z => by subst z; rw [r] at mu; exact mu
  have ntup : ∀ c xs, H c = some (.tup xs) → c ≠ x := fun c xs r z => by subst z; rw [r] at mu; exact mu
  by_cases hb : b = x
  · subst hb; rw [upd_same] at q; cases q; exact new
  · rw [upd_ne hb] at q
    by_cases hbe : b = e
    · have q' : H b = some (.own x) := by
        rcases he with z | z
        · exact absurd (hbe.trans z) hb
        · rw [hbe]; exact z
      rw [q] at q'; cases q'
      obtain ⟨v, hv⟩ := heo
      exact ⟨v, by rw [hbe]; exact hv⟩
    · refine (ok b u q).stay (fun c v hc r => k c v ?_ r) (fun c r => by rw [upd_ne (nown c b r)]; exact r) fun c xs r => by rw [upd_ne (ntup c xs r)]; exact r
      rcases hc with rfl | hc
      · exact hbe
      · rintro rfl
        rcases he with z | z
        · exact nown c b hc z
        · rw [hc] at z; cases z; exact hb rfl
end

/-! ### kept unless tracked; of the frames at fs (the callers') the slots may change (an exception that passes writes there); of the records at ex (iterators) nothing is said -/
structure Un (fs ex : List Addr) (H H' : Hp) (h h' : Heap) : Prop where
  keep : ∀ b o, h.get? b = some o → H b = none → b ∉ fs → b ∉ ex → h'.get? b = some o
  slot : ∀ b o, h.get? b = some o → H b = none → b ∈ fs → b ∉ ex → ∃ sl, h'.get? b = some { o with slots := sl }
  free : ∀ b o, h.get? b = some o → H b = none → b ∉ ex → H' b = none
  there : ∀ b o, h.get? b = some o → b ∉ ex → ∃ o', h'.get? b = some o'
  tups : ∀ b xs, H b = some (.tup xs) → H' b = some (.tup xs)
  frzs : ∀ b o u, H b = some (.frz o u) → H' b = some (.frz o u)
  tbls : ∀ b ps, H b = some (.tbl ps) → ∃ more, H' b = some (.tbl (ps ++ more))
section
variable {fs fs' ex ex' : List Addr} {H H1 H2 : Hp} {h h1 h2 h' : Heap} {a x e : Addr} {o : HO}
theorem Un.any (u : Un fs ex H H1 h h1) {b : Addr} {ob : Obj} (q : h.get? b = some ob) (n : H b = none) (hx : b ∉ ex) : ∃ sl, h1.get? b = some { ob with slots := sl } := by
  by_cases hb : b ∈ fs
  · exact u.slot b ob q n hb hx
  · exact ⟨ob.slots, u.keep b ob q n hb hx⟩
theorem Un.kept (k : ∀ b u, h.get? b = some u → h'.get? b = some u) : Un fs ex H H h h' :=
  ⟨fun b ob q _ _ _ => k b ob q, fun b ob q _ _ _ => ⟨ob.slots, k b ob q⟩, fun _ _ _ n _ => n, fun b ob q _ => ⟨ob, k b ob q⟩, fun _ _ q => q, fun _ _ _ q => q, fun _ ps q => ⟨#[], by rw [q]; simp⟩⟩
theorem Un.refl : Un fs ex H H h h := Un.kept fun _ _ q => q
theorem Un.laid (k : ∀ b u, h.get? b = some u → h'.get? b = some u) (hp : h.objs.size ≤ a) (hn : H a = none) : Un fs ex H (upd H a o) h h' where
  keep := fun b u q _ _ _ => k b u q
  slot := fun b u q _ _ _ => ⟨u.slots, k b u q⟩
  free := fun b u q n _ => by rw [upd_ne (Nat.ne_of_lt (Nat.lt_of_lt_of_le (Heap.lt_size q) hp))]; exact n
  there := fun b u q _ => ⟨u, k b u q⟩
  tups := fun b xs q => by rw [upd_ne (ne_of_none q hn)]; exact q
  frzs := fun b u xs q => by rw [upd_ne (ne_of_none q hn)]; exact q
  tbls := fun b ps q => ⟨#[], by rw [upd_ne (ne_of_none q hn), q]; simp⟩
theorem Un.write (mu : Mut (H x)) (he : e = x ∨ H e = some (.own x)) (k : ∀ b u, b ≠ e → h.get? b = some u → h'.get? b = some u) (heo : ∃ u, h'.get? e = some u) : Un fs ex H (upd H x o) h h' := by
  have hx : ∀ b, H b = none → b ≠ x := fun b n z => by subst z; rw [n] at mu; exact mu
  have hb : ∀ b, H b = none → b ≠ e := fun b n z => by
    subst z
    rcases he with r | r
    · exact hx b n r
    · rw [n] at r; cases r
  have hm : ∀ b u, H b = some u → ¬ Mut (some u) → b ≠ x := fun b u q nm z => by subst z; rw [q] at mu; exact nm mu
  refine ⟨fun b u q n _ _ => k b u (hb b n) q, fun b u q n _ _ => ⟨u.slots, k b u (hb b n) q⟩, fun b u q n _ => by rw [upd_ne (hx b n)]; exact n, fun b u q _ => ?_,
    fun b xs q => by rw [upd_ne (hm b _ q fun z => z)]; exact q, fun b u xs q => by rw [upd_ne (hm b _ q fun z => z)]; exact q, fun b ps q => ⟨#[], by rw [upd_ne (hm b _ q fun z => z), q]; simp⟩⟩
  by_cases hbe : b = e
  · subst hbe; exact heo
  · exact ⟨u, k b u hbe q⟩
end

/-! ### the heap without what is tracked -/
def trk (h : Heap) (H : Hp) : List Addr := (List.range h.objs.size).filter fun a => (H a).isSome
def hidT (h : Heap) (H : Hp) : Heap := PySem.W.hideAll h (trk h H)
theorem hidT_size (h : Heap) (H : Hp) : (hidT h H).objs.size = h.objs.size := PySem.W.hideAll_size _ _
theorem hidT_get {h : Heap} {H : Hp} {b : Addr} {o : Obj} (e : h.get? b = some o) (n : H b = none) : (hidT h H).get? b = some o :=
  PySem.W.hideAll_get _ e fun hm => by
    have q : (H b).isSome = true := (List.mem_filter.mp hm).2
    rw [n] at q; simp at q
theorem of_hidT {h : Heap} {H : Hp} {b : Addr} {o : Obj} (e : (hidT h H).get? b = some o) : h.get? b = some o ∧ H b = none := by
  have e' : h.get? b = some o := PySem.W.of_hideAll (trk h H) e
  refine ⟨e', ?_⟩
  cases q : H b with
  | none => rfl
  | some x =>
    have hm : b ∈ trk h H := List.mem_filter.mpr ⟨List.mem_range.mpr (Heap.lt_size e'), by simp [q]⟩
    have z : (hidT h H).get? b = none := PySem.W.hideAll_none (trk h H) hm
    rw [z] at e; cases e

/-! ### OpenK's ledger, filled with every new object but one -/
def allNews (g h : Heap) (L : Addr) : List (Addr × Obj) := (List.range h.objs.size).filterMap fun a => if a = L ∨ (g.get? a).isSome = true then none else (h.get? a).map fun o => (a, o)
def rest (g h : Heap) (L d : Addr) : List (Addr × Obj) := (allNews g h L).filter fun p => decide (p.1 ≠ d)
end L2

namespace L2
open PySem PySem.Spec PyProof.Rows

/-- the module's facts, over the base: the heap at the law's entry without what is tracked there -/
structure Mod (K : PySem.W.Frag) (mg : Str → Option Value) (base : Heap) : Prop where
  kin : K.In base
  glob : base.Ns mainGlobals mg
  blt : ∃ mb, base.Ns builtinsNs mb ∧ ∀ x : Str, x ≠ "__name__" → mb x = bootBuiltins x
  nolimit : base.NoLimit

/-- the context: a def's body (or a comprehension's block) running. base: fixed through the whole law; s₀, H₀: the entry; outer: the frames whose slots others may change (a def's callers); stack: all frames that run;
   ex: iterators that were made ahead of the entry and are walked here (a comprehension's); fn: the names whose cells were made at the entry (a def: all; a comprehension's block: its own); calm: not within an except suite; pn: pins that every state bears; xe: what is wanted of an exception that leaves the code -/
structure Cx where
  prog : Program
  w : World
  K : PySem.W.Frag
  mg : Str → Option Value
  base : Heap
  A : Around
  N : List Str
  s₀ : Shared
  H₀ : Hp
  env : Env
  outer : List Env
  stack : List Env
  ex : List Addr
  fn : Str → Bool
  calm : Bool
  pn : List (Addr × Obj)
  xe : Value → Shared → Prop
/-- the callers' frames -/
def frs (l : List Env) : List Addr := l.filterMap (·.frame)
abbrev Cx.fs (X : Cx) : List Addr := frs X.outer

def Vis (sc : Scope) (x : Str) : Prop := sc.names.lookup x = some .local ∨ sc.names.lookup x = some .cell ∨ sc.names.lookup x = some .free
def Loc (sc : Scope) (x : Str) : Prop := sc.names.lookup x = some .local ∨ sc.names.lookup x = some .cell
def Look (env : Env) (h : Heap) (m : Str → Option Value) (x : Str) (u : Value) : Prop :=
  (env.kindOf x = some .local ∧ m x = some u) ∨ ((env.kindOf x = some .cell ∨ env.kindOf x = some .free) ∧ ∃ c, env.cells.lookup x = some c ∧ h.IsCell c (some u))

structure Cx.Ok (X : Cx) : Prop where
  mod : Mod X.K X.mg X.base
  kind : X.env.scope.kind = .function
  glob : X.env.globals = mainGlobals
  blt : X.env.builtins = builtinsNs
  above : X.s₀.heap.objs.size ≤ X.env.locals
  inj : ∀ x y c, X.env.cells.lookup x = some c → X.env.cells.lookup y = some c → x = y
  has : ∀ x, (X.env.kindOf x = some .cell ∨ X.env.kindOf x = some .free) → ∃ c, X.env.cells.lookup x = some c
  cab : ∀ x c, X.fn x = true → X.env.cells.lookup x = some c → X.s₀.heap.objs.size ≤ c
  hd : X.calm = true → X.A.handled = none
  frames : X.A.frames = some X.stack
  stk : X.stack = X.outer ∨ (X.stack = X.env :: X.outer ∧ X.env.frame = some X.env.locals)
  exf : ∀ b ∈ X.ex, b ≠ X.env.locals ∧ ∀ x c, X.env.cells.lookup x = some c → c ≠ b
  bs : ∀ b o, X.base.get? b = some o → X.s₀.heap.get? b = some o ∧ X.H₀ b = none
  bsz : X.base.objs.size ≤ X.s₀.heap.objs.size
  noex : ∀ b o, X.base.get? b = some o → b ∉ X.ex
  exfs : ∀ b ∈ X.ex, b ∉ X.fs
  funs : X.s₀.heap.FunFrames X.base X.outer
  frf : ∀ b ∈ X.fs, X.H₀ b = none

structure Inv (X : Cx) (pins : List (Addr × Obj)) (σ : List (Option V)) (H : Hp) (s : Shared) : Prop where
  ok : X.Ok
  os : s.os = X.s₀.os
  bare : AllBare s.gens
  base : Un X.fs X.ex X.H₀ H X.s₀.heap s.heap
  loc : ∃ m, s.heap.Ns X.env.locals m ∧ ∀ (i : Nat) (x : Str) (v : V), X.N[i]? = some x → σ[i]? = some (some v) → Vis X.env.scope x → ∃ u, RelV v u ∧ Look X.env s.heap m x u
  cell : ∀ x c, X.env.cells.lookup x = some c → ∃ v, s.heap.IsCell c v
  free : H X.env.locals = none
  freeC : ∀ x c, X.env.cells.lookup x = some c → H c = none
  pin : ∀ p ∈ X.pn ++ pins, s.heap.get? p.1 = some p.2 ∧ H p.1 = none ∧ p.1 ≠ X.env.locals ∧ p.1 ∉ X.fs ∧ ∀ v, p.2.data ≠ .cell v
  hok : HOk X.prog X.w H s.heap
  len : σ.length = X.N.length

section
variable {X : Cx} {pins : List (Addr × Obj)} {σ : List (Option V)} {H H' : Hp} {s : Shared} {h' : Heap}

theorem Cx.Ok.nofr (ok : X.Ok) {b : Addr} {o : Obj} (e : X.base.get? b = some o) : b ∉ X.fs := fun hb => by
  have := (ok.funs.mem hb).1
  rw [e] at this; cases this
theorem Inv.bs (I : Inv X pins σ H s) : ∀ b o, X.base.get? b = some o → s.heap.get? b = some o ∧ H b = none := fun b o e =>
  ⟨I.base.keep b o (I.ok.bs b o e).1 (I.ok.bs b o e).2 (I.ok.nofr e) (I.ok.noex b o e), I.base.free b o (I.ok.bs b o e).1 (I.ok.bs b o e).2 (I.ok.noex b o e)⟩
theorem Inv.bk (I : Inv X pins σ H s) : ∀ b o, X.base.get? b = some o → s.heap.get? b = some o := fun b o e => (I.bs b o e).1
theorem Inv.mod (I : Inv X pins σ H s) : Mod X.K X.mg X.base := I.ok.mod
theorem Inv.kIn (I : Inv X pins σ H s) : X.K.In s.heap := I.ok.mod.kin.keeps I.bk
theorem Inv.lt (I : Inv X pins σ H s) : X.env.locals < s.heap.objs.size := let ⟨_, hn, _⟩ := I.loc; hn.lt
theorem Inv.sz (I : Inv X pins σ H s) : X.s₀.heap.objs.size ≤ s.heap.objs.size := Nat.le_trans I.ok.above (Nat.le_of_lt I.lt)
theorem Inv.nofs (I : Inv X pins σ H s) {a : Addr} (h : s.heap.objs.size ≤ a) : a ∉ X.fs := fun hb => by
  obtain ⟨_, o, ho, _⟩ := I.ok.funs.mem hb
  exact absurd (Nat.lt_of_lt_of_le (Heap.lt_size ho) (Nat.le_trans I.sz h)) (Nat.lt_irrefl _)
theorem Inv.cne (I : Inv X pins σ H s) : ∀ x c, X.env.cells.lookup x = some c → c ≠ X.env.locals := fun x c e z => by
  obtain ⟨v, o, ho, hd⟩ := I.cell x c e
  obtain ⟨m, ⟨o', es, ep, ho', hd', _⟩, _⟩ := I.loc
  rw [z, ho'] at ho; cases ho; rw [hd'] at hd; cases hd
theorem Inv.funs (I : Inv X pins σ H s) : s.heap.FunFrames X.base X.outer := by
  have all : ∀ (l : List Env), (∀ b ∈ frs l, b ∈ X.fs) → X.s₀.heap.FunFrames X.base l → s.heap.FunFrames X.base l := by
    intro l
    induction l with
    | nil => intro _ _; trivial
    | cons env r ih =>
      intro hs hl
      obtain ⟨hk, ⟨L, o, hf, hn, ho, hd⟩, hr⟩ := hl
      have hL : L ∈ X.fs := hs L (by unfold frs; rw [List.filterMap_cons, hf]; exact List.mem_cons_self)
      obtain ⟨sl, e⟩ := I.base.slot L o ho (I.ok.frf L hL) hL fun z => I.ok.exfs L z hL
      exact ⟨hk, ⟨L, _, hf, hn, e, hd⟩, ih (fun b hb => hs b (by unfold frs; rw [List.filterMap_cons, hf]; exact List.mem_cons_of_mem _ hb)) hr⟩
  exact all X.outer (fun _ hb => hb) I.ok.funs

/-- the frames that run, for a call -/
theorem Inv.stack (I : Inv X pins σ H s) : s.heap.FunFrames X.base X.stack := by
  rcases I.ok.stk with e | ⟨e, hf⟩
  · rw [e]; exact I.funs
  · rw [e]
    obtain ⟨m, hn, _⟩ := I.loc
    refine .cons (by rw [I.ok.kind]; decide) hf hn ?_ I.funs
    exact Heap.get?_none_of_le (Nat.le_trans I.ok.bsz I.ok.above)
theorem Inv.stkSub (I : Inv X pins σ H s) : ∀ b ∈ frs X.stack, b ∈ X.env.locals :: X.fs := fun b hb => by
  rcases I.ok.stk with e | ⟨e, hf⟩
  · rw [e] at hb; exact List.mem_cons_of_mem _ hb
  · rw [e] at hb
    unfold frs at hb
    rw [List.filterMap_cons, hf] at hb
    exact hb
theorem Inv.stkFree (I : Inv X pins σ H s) : ∀ b ∈ frs X.stack, H b = none := fun b hb => by
  rcases List.mem_cons.mp (I.stkSub b hb) with e | hb
  · rw [e]; exact I.free
  · obtain ⟨_, o, ho, _⟩ := I.ok.funs.mem hb
    exact I.base.free b o ho (I.ok.frf b hb) fun z => I.ok.exfs b z hb

/-- THE STEP: the untracked objects but the frame and the records at ch are kept (the callers' frames up to slots), the frame's map is kept, the new abstract heap is held -/
theorem Inv.step {g' : Array GenState} {t' : Nat} {d' : Drawn} {ch : List Addr} (I : Inv X pins σ H s)
    (hch : ∀ b ∈ ch, (b ∈ X.ex ∨ X.s₀.heap.objs.size ≤ b) ∧ b ≠ X.env.locals ∧ (∀ x c, X.env.cells.lookup x = some c → c ≠ b) ∧ ∀ p ∈ X.pn ++ pins, p.1 ≠ b)
    (keep : ∀ b o, b ≠ X.env.locals → b ∉ X.fs → b ∉ ch → s.heap.get? b = some o → H b = none → h'.get? b = some o)
    (slot : ∀ b o, b ≠ X.env.locals → b ∈ X.fs → b ∉ ch → s.heap.get? b = some o → H b = none → ∃ sl, h'.get? b = some { o with slots := sl }) (free : ∀ b o, b ∉ ch → s.heap.get? b = some o → H b = none → H' b = none)
    (there : ∀ b o, b ∉ ch → s.heap.get? b = some o → ∃ o', h'.get? b = some o')
    (tups : ∀ b xs, H b = some (.tup xs) → H' b = some (.tup xs)) (frzs : ∀ b o u, H b = some (.frz o u) → H' b = some (.frz o u)) (tbls : ∀ b ps, H b = some (.tbl ps) → ∃ more, H' b = some (.tbl (ps ++ more)))
    (ns : ∀ m, s.heap.Ns X.env.locals m → h'.Ns X.env.locals m) (hok : HOk X.prog X.w H' h') (hg : AllBare g') :
    Inv X pins σ H' { s with heap := h', gens := g', drawn := d', toks := t' } := by
  have neL : ∀ b o, X.s₀.heap.get? b = some o → b ≠ X.env.locals := fun b o e => Nat.ne_of_lt (Nat.lt_of_lt_of_le (Heap.lt_size e) I.ok.above)
  have neC : ∀ b o, X.s₀.heap.get? b = some o → b ∉ X.ex → b ∉ ch := fun b o e hx hb => by
    rcases (hch b hb).1 with z | z
    · exact hx z
    · exact absurd (Nat.lt_of_lt_of_le (Heap.lt_size e) z) (Nat.lt_irrefl _)
  have cellK : ∀ x c, X.env.cells.lookup x = some c → ∀ v, s.heap.IsCell c v → h'.IsCell c v := fun x c e v ⟨o, ho, hd⟩ => by
    have nch : c ∉ ch := fun z => (hch c z).2.2.1 x c e rfl
    by_cases hc : c ∈ X.fs
    · obtain ⟨sl, q⟩ := slot c o (I.cne x c e) hc nch ho (I.freeC x c e)
      exact ⟨_, q, hd⟩
    · exact ⟨o, keep c o (I.cne x c e) hc nch ho (I.freeC x c e), hd⟩
  refine ⟨I.ok, I.os, hg, ⟨fun b o e n hb hx => ?_, fun b o e n hb hx => ?_, fun b o e n hx => ?_, fun b o e hx => ?_, fun b xs e => tups b xs (I.base.tups b xs e), fun b o xs e => frzs b o xs (I.base.frzs b o xs e), fun b ps e => ?_⟩, ?_, fun x c e => ?_, ?_, fun x c e => ?_, fun p hp => ?_, hok, I.len⟩
  · exact keep b o (neL b o e) hb (neC b o e hx) (I.base.keep b o e n hb hx) (I.base.free b o e n hx)
  · obtain ⟨sl, e1⟩ := I.base.slot b o e n hb hx
    obtain ⟨sl', e2⟩ := slot b _ (neL b o e) hb (neC b o e hx) e1 (I.base.free b o e n hx)
    exact ⟨sl', e2⟩
  · obtain ⟨o', e1⟩ := I.base.there b o e hx
    exact free b o' (neC b o e hx) e1 (I.base.free b o e n hx)
  · obtain ⟨o', e1⟩ := I.base.there b o e hx
    exact there b o' (neC b o e hx) e1
  · obtain ⟨m1, e1⟩ := I.base.tbls b ps e
    obtain ⟨m2, e2⟩ := tbls b _ e1
    exact ⟨m1 ++ m2, by rw [e2, Array.append_assoc]⟩
  · obtain ⟨m, hn, hl⟩ := I.loc
    refine ⟨m, ns m hn, fun i x v e1 e2 e3 => ?_⟩
    obtain ⟨u, r, l⟩ := hl i x v e1 e2 e3
    refine ⟨u, r, ?_⟩
    rcases l with l | ⟨k, c, e, z⟩
    · exact .inl l
    · exact .inr ⟨k, c, e, cellK x c e _ z⟩
  · obtain ⟨v, z⟩ := I.cell x c e
    exact ⟨v, cellK x c e v z⟩
  · obtain ⟨m, ⟨o, _, _, ho, _⟩, _⟩ := I.loc
    exact free _ o (fun z => (hch _ z).2.1 rfl) ho I.free
  · obtain ⟨v, o, ho, hd⟩ := I.cell x c e
    exact free c o (fun z => (hch c z).2.2.1 x c e rfl) ho (I.freeC x c e)
  · obtain ⟨e, n, ne, nf, d⟩ := I.pin p hp
    have nch : p.1 ∉ ch := fun z => (hch p.1 z).2.2.2 p hp rfl
    exact ⟨keep p.1 p.2 ne nf nch e n, free p.1 p.2 nch e n, ne, nf, d⟩
/-- .. where the frame's own object is kept too -/
theorem Inv.un {t' : Nat} (I : Inv X pins σ H s) (u : Un X.fs [] H H' s.heap h') (hok : HOk X.prog X.w H' h') : Inv X pins σ H' { s with heap := h', toks := t' } := by
  obtain ⟨m, ⟨o, es, ep, ho, r⟩, _⟩ := id I.loc
  obtain ⟨sl, hL⟩ := u.any ho I.free (by simp)
  exact I.step (g' := s.gens) (d' := s.drawn) (ch := []) (fun _ z => nomatch z) (fun b o _ hb _ e n => u.keep b o e n hb (by simp)) (fun b o _ hb _ e n => u.slot b o e n hb (by simp)) (fun b o _ e n => u.free b o e n (by simp)) (fun b o _ e => u.there b o e (by simp)) u.tups u.frzs u.tbls (fun m' hm => by
    obtain ⟨o', es', ep', ho', r'⟩ := hm
    rw [ho] at ho'; cases ho'
    exact ⟨_, es', ep', hL, r'⟩) hok I.bare
/-- behind a call (or a comprehension's block): the slots of this frame may have changed too, the records at ch may have turned -/
theorem Inv.call {g' : Array GenState} {t' : Nat} {d' : Drawn} {ch : List Addr} (I : Inv X pins σ H s) (u : Un (frs X.stack) ch H H' s.heap h') (hok : HOk X.prog X.w H' h') (hg : AllBare g')
    (hch : ∀ b ∈ ch, (b ∈ X.ex ∨ X.s₀.heap.objs.size ≤ b) ∧ b ≠ X.env.locals ∧ (∀ x c, X.env.cells.lookup x = some c → c ≠ b) ∧ ∀ p ∈ X.pn ++ pins, p.1 ≠ b) :
    Inv X pins σ H' { s with heap := h', gens := g', drawn := d', toks := t' } := by
  obtain ⟨m, ⟨o, es, ep, ho, r⟩, _⟩ := id I.loc
  obtain ⟨sl, hL⟩ := u.any ho I.free fun z => (hch _ z).2.1 rfl
  exact I.step (ch := ch) hch (fun b o hL hb hc e n => u.keep b o e n (fun z => (List.mem_cons.mp (I.stkSub b z)).elim hL hb) hc) (fun b o _ _ hc e n => u.any e n hc) (fun b o hc e n => u.free b o e n hc) (fun b o hc e => u.there b o e hc) u.tups u.frzs u.tbls (fun m' hm => by
    obtain ⟨o', es', ep', ho', r'⟩ := hm
    rw [ho] at ho'; cases ho'
    exact ⟨_, es', ep', hL, r'⟩) hok hg
/-- an untracked record of ours (an iterator) has turned -/
theorem Inv.turned {t' : Nat} {it : Addr} (I : Inv X pins σ H s) (k : ∀ b o, b ≠ it → s.heap.get? b = some o → h'.get? b = some o) (hn : H it = none) (hL : it ≠ X.env.locals)
    (h1 : it ∈ X.ex ∨ X.s₀.heap.objs.size ≤ it) (h2 : ∀ x c, X.env.cells.lookup x = some c → c ≠ it) (h3 : ∀ p ∈ X.pn ++ pins, p.1 ≠ it) : Inv X pins σ H { s with heap := h', toks := t' } := by
  have nit : ∀ b u, H b = some u → b ≠ it := fun b u e z => by rw [z, hn] at e; cases e
  refine I.step (g' := s.gens) (d' := s.drawn) (ch := [it]) (fun b hb => ?_) (fun b o _ _ hc e _ => k b o (fun z => hc (by simp [z])) e) (fun b o _ _ hc e _ => ⟨o.slots, k b o (fun z => hc (by simp [z])) e⟩) (fun _ _ _ _ n => n)
    (fun b o hc e => ⟨o, k b o (fun z => hc (by simp [z])) e⟩) (fun _ _ e => e) (fun _ _ _ e => e) (fun b ps e => ⟨#[], by rw [e]; simp⟩) (fun m hm => ?_) (fun b u e => ?_) I.bare
  · have e : b = it := by simpa using hb
    subst e
    exact ⟨h1, hL, h2, h3⟩
  · obtain ⟨o, es, ep, ho, r⟩ := hm
    exact ⟨o, es, ep, k _ o (Ne.symm hL) ho, r⟩
  · refine (I.hok b u e).stay (fun c v hc q => k c v ?_ q) (fun _ q => q) fun _ _ q => q
    rcases hc with z | z
    · rw [z]; exact nit b u e
    · exact nit c _ z
theorem Inv.tok (I : Inv X pins σ H s) (t : Nat) : Inv X pins σ H { s with toks := t } := I.un (h' := s.heap) (t' := t) Un.refl I.hok
/-- all objects kept -/
theorem Inv.kept {t' : Nat} (I : Inv X pins σ H s) (k : ∀ b u, s.heap.get? b = some u → h'.get? b = some u) : Inv X pins σ H { s with heap := h', toks := t' } := I.un (Un.kept k) (I.hok.kept k)
/-- a new object laid and tracked -/
theorem Inv.laid {a : Addr} {o : HO} {t' : Nat} (I : Inv X pins σ H s) (k : ∀ b u, s.heap.get? b = some u → h'.get? b = some u) (hp : s.heap.objs.size ≤ a) (new : ObjOk X.prog X.w (upd H a o) h' a o) :
    Inv X pins σ (upd H a o) { s with heap := h', toks := t' } := I.un (Un.laid k hp (I.hok.fresh hp)) (I.hok.laid k hp new)
/-- an object written -/
theorem Inv.write {x e : Addr} {o : HO} {t' : Nat} (I : Inv X pins σ H s) (mu : Mut (H x)) (he : e = x ∨ H e = some (.own x)) (k : ∀ b u, b ≠ e → s.heap.get? b = some u → h'.get? b = some u) (heo : ∃ u, h'.get? e = some u)
    (new : ObjOk X.prog X.w (upd H x o) h' x o) : Inv X pins σ (upd H x o) { s with heap := h', toks := t' } := I.un (Un.write mu he k heo) (I.hok.write mu he k heo new)
theorem Inv.pins_of {pins' : List (Addr × Obj)} (I : Inv X pins σ H s) (h : ∀ p ∈ pins', s.heap.get? p.1 = some p.2 ∧ H p.1 = none ∧ p.1 ≠ X.env.locals ∧ p.1 ∉ X.fs ∧ ∀ v, p.2.data ≠ .cell v) : Inv X pins' σ H s :=
  ⟨I.ok, I.os, I.bare, I.base, I.loc, I.cell, I.free, I.freeC, fun p hp => (List.mem_append.mp hp).elim (fun z => I.pin p (List.mem_append_left _ z)) (h p), I.hok, I.len⟩

theorem nodup_ix {N : List Str} (hN : N.Nodup) {i j : Nat} {x : Str} (a : N[i]? = some x) (b : N[j]? = some x) : i = j := by
  obtain ⟨h1, e1⟩ := List.getElem?_eq_some_iff.mp a
  obtain ⟨h2, e2⟩ := List.getElem?_eq_some_iff.mp b
  exact (List.getElem_inj hN).mp (e1.trans e2.symm)

/-- a name is stored; what changed -/
theorem store_ok2 {M : Model} {A : Around} {E : Value → Shared → Prop} {i : Nat} {x : Str} {v : V} {u : Value} {Q : Unit → Shared → Prop} (I : Inv X pins σ H s) (hN : X.N.Nodup) (hi : X.N[i]? = some x) (hx : Loc X.env.scope x) (r : RelV v u)
    (h : ∀ s', Inv X pins (σ.set i (some v)) H s' → (∃ a, Heap.SameBut a s.heap s'.heap ∧ (a = X.env.locals ∨ X.env.cells.lookup x = some a)) → Q () s') (hf : X.fn x = true ∨ X.env.scope.names.lookup x = some .local := by first | exact .inl rfl | exact .inr rfl | assumption) : wpAny M A (storeName X.env x u) Q E s := by
  obtain ⟨m, hn, hl⟩ := id I.loc
  have hcls : (X.env.scope.kind == .class || (X.env.scope.kind == .module && X.env.locals != X.env.globals)) = false := by rw [I.ok.kind]; rfl
  have hiσ : i < σ.length := by rw [I.len]; exact (List.getElem?_eq_some_iff.mp hi).1
  have cne := I.cne
  have tracked : ∀ {a : Addr} {h' : Heap}, (∃ o, s.heap.get? a = some o ∧ H a = none) → Heap.SameBut a s.heap h' → HOk X.prog X.w H h' := fun {a h'} ha hs b ob e => by
    obtain ⟨_, _, hfree⟩ := ha
    refine (I.hok b ob e).stay (fun c w' hc q => (hs.2 c ?_).trans q) (fun _ q => q) fun _ _ q => q
    rintro rfl
    rcases hc with rfl | hc
    · rw [hfree] at e; cases e
    · rw [hfree] at hc; cases hc
  rcases hx with hk | hk
  · refine wpAny_storeName_local hk hn (fun h' hn' hs => ?_) hcls
    obtain ⟨oL, _, _, hoL, _⟩ := id hn
    refine h _ ⟨I.ok, I.os, I.bare, ⟨fun b o e n hb hx => ?_, fun b o e n hb hx => ?_, I.base.free, fun b o e hx => ?_, I.base.tups, I.base.frzs, I.base.tbls⟩, ⟨_, hn', fun j y v' e1 e2 e3 => ?_⟩, fun y c e => ?_, I.free, I.freeC, fun p hp => ?_, tracked ⟨oL, hoL, I.free⟩ hs, by simpa using I.len⟩ ⟨_, hs, .inl rfl⟩
    · exact (hs.2 b (Nat.ne_of_lt (Nat.lt_of_lt_of_le (Heap.lt_size e) I.ok.above))).trans (I.base.keep b o e n hb hx)
    · obtain ⟨sl, e1⟩ := I.base.slot b o e n hb hx
      exact ⟨sl, (hs.2 b (Nat.ne_of_lt (Nat.lt_of_lt_of_le (Heap.lt_size e) I.ok.above))).trans e1⟩
    · obtain ⟨o', e1⟩ := I.base.there b o e hx
      exact ⟨o', (hs.2 b (Nat.ne_of_lt (Nat.lt_of_lt_of_le (Heap.lt_size e) I.ok.above))).trans e1⟩
    · by_cases hj : j = i
      · subst hj
        rw [hi] at e1; cases e1
        rw [List.getElem?_set_self hiσ] at e2
        cases e2
        exact ⟨u, r, .inl ⟨hk, by simp⟩⟩
      · rw [List.getElem?_set_ne (Ne.symm hj)] at e2
        obtain ⟨u', r', q⟩ := hl j y v' e1 e2 e3
        refine ⟨u', r', ?_⟩
        rcases q with ⟨k, e⟩ | ⟨k, c, e, z⟩
        · refine .inl ⟨k, ?_⟩
          have : y ≠ x := fun e => hj (nodup_ix hN e1 (e ▸ hi))
          simp [this, e]
        · exact .inr ⟨k, c, e, z.sameBut hs (cne y c e)⟩
    · obtain ⟨w', z⟩ := I.cell y c e
      exact ⟨w', z.sameBut hs (cne y c e)⟩
    · obtain ⟨e, n, ne, nf, d⟩ := I.pin p hp
      exact ⟨(hs.2 p.1 ne).trans e, n, ne, nf, d⟩
  · have hfn : X.fn x = true := by
      rcases hf with z | z
      · exact z
      · rw [z] at hk; cases hk
    obtain ⟨c, hc⟩ := I.ok.has x (.inl hk)
    obtain ⟨w', z⟩ := I.cell x c hc
    refine wpAny_storeName_cell I.ok.kind hk hc z (fun h' hc' hs => ?_)
    obtain ⟨oc, hoc, hocd⟩ := id z
    refine h { s with heap := h' } ⟨I.ok, I.os, I.bare, ⟨fun b o e n hb hx => ?_, fun b o e n hb hx => ?_, I.base.free, fun b o e hx => ?_, I.base.tups, I.base.frzs, I.base.tbls⟩, ⟨m, hn.sameBut hs (Ne.symm (cne x c hc)), fun j y v' e1 e2 e3 => ?_⟩, fun y c' e => ?_, I.free, I.freeC, fun p hp => ?_, tracked ⟨oc, hoc, I.freeC x c hc⟩ hs, by simpa using I.len⟩ ⟨c, hs, .inr hc⟩
    · exact (hs.2 b (Nat.ne_of_lt (Nat.lt_of_lt_of_le (Heap.lt_size e) (I.ok.cab x c hfn hc)))).trans (I.base.keep b o e n hb hx)
    · obtain ⟨sl, e1⟩ := I.base.slot b o e n hb hx
      exact ⟨sl, (hs.2 b (Nat.ne_of_lt (Nat.lt_of_lt_of_le (Heap.lt_size e) (I.ok.cab x c hfn hc)))).trans e1⟩
    · obtain ⟨o', e1⟩ := I.base.there b o e hx
      exact ⟨o', (hs.2 b (Nat.ne_of_lt (Nat.lt_of_lt_of_le (Heap.lt_size e) (I.ok.cab x c hfn hc)))).trans e1⟩
    · by_cases hj : j = i
      · subst hj
        rw [hi] at e1; cases e1
        rw [List.getElem?_set_self hiσ] at e2
        cases e2
        exact ⟨u, r, .inr ⟨.inl hk, c, hc, hc'⟩⟩
      · rw [List.getElem?_set_ne (Ne.symm hj)] at e2
        obtain ⟨u', r', q⟩ := hl j y v' e1 e2 e3
        refine ⟨u', r', ?_⟩
        rcases q with q | ⟨k, c', e, z'⟩
        · exact .inl q
        · refine .inr ⟨k, c', e, z'.sameBut hs ?_⟩
          rintro rfl
          exact hj (nodup_ix hN e1 (I.ok.inj _ _ _ e hc ▸ hi))
    · by_cases hcc : c' = c
      · subst hcc; exact ⟨_, hc'⟩
      · obtain ⟨w2, z2⟩ := I.cell y c' e
        exact ⟨w2, z2.sameBut hs hcc⟩
    · obtain ⟨e, n, ne, nf, d⟩ := I.pin p hp
      refine ⟨(hs.2 p.1 ?_).trans e, n, ne, nf, d⟩
      intro q
      rw [q, hoc] at e
      have q' : oc = p.2 := Option.some.inj e
      exact d w' (by rw [← q']; exact hocd)
theorem store_ok {M : Model} {A : Around} {E : Value → Shared → Prop} {i : Nat} {x : Str} {v : V} {u : Value} {Q : Unit → Shared → Prop} (I : Inv X pins σ H s) (hN : X.N.Nodup) (hi : X.N[i]? = some x) (hx : Loc X.env.scope x) (r : RelV v u)
    (h : ∀ s', Inv X pins (σ.set i (some v)) H s' → Q () s') (hf : X.fn x = true ∨ X.env.scope.names.lookup x = some .local := by first | exact .inl rfl | exact .inr rfl | assumption) : wpAny M A (storeName X.env x u) Q E s :=
  store_ok2 I hN hi hx r (fun s' I' _ => h s' I') hf
/-- behind a call or a block, the state as it is -/
theorem Inv.call' {s' : Shared} {ch : List Addr} (I : Inv X pins σ H s) (ho : s'.os = s.os) (u : Un (frs X.stack) ch H H' s.heap s'.heap) (hok : HOk X.prog X.w H' s'.heap) (hg : AllBare s'.gens)
    (hch : ∀ b ∈ ch, (b ∈ X.ex ∨ X.s₀.heap.objs.size ≤ b) ∧ b ≠ X.env.locals ∧ (∀ x c, X.env.cells.lookup x = some c → c ≠ b) ∧ ∀ p ∈ X.pn ++ pins, p.1 ≠ b) : Inv X pins σ H' s' := by
  obtain ⟨h', g', d', t', o'⟩ := s'
  have e : o' = s.os := ho
  subst e
  exact I.call (g' := g') (t' := t') (d' := d') u hok hg hch
end

/-! ### the judgements -/
/-- an exception: its class, its own dict's address (where it has one), the abstract heap behind it -/
abbrev XK := Value → Option Addr → Hp → Prop
abbrev St := List (Option V)
abbrev VK := V → Hp → Prop
/-- an expression's reading; a test's; an argument list's -/
abbrev TE := St → Hp → VK → Prop
abbrev TT := St → Hp → (Bool → Hp → Prop) → Prop
abbrev TA := St → Hp → (List V → Hp → Prop) → Prop
/-- what is wanted behind a statement -/
structure Ends where
  nx : St → Hp → Prop
  rt : VK
  bk : St → Hp → Prop := fun _ _ => False
  ct : St → Hp → Prop := fun _ _ => False
abbrev TS := Ends → St → Hp → Prop

def EP (X : Cx) (pins : List (Addr × Obj)) (σ : St) (Q : VK) (u : Value) (s' : Shared) : Prop := ∃ v H', Inv X pins σ H' s' ∧ RelV v u ∧ Q v H'
def TP (X : Cx) (pins : List (Addr × Obj)) (σ : St) (Q : Bool → Hp → Prop) (b : Bool) (s' : Shared) : Prop := ∃ H', Inv X pins σ H' s' ∧ Q b H'
def AP (X : Cx) (pins : List (Addr × Obj)) (σ : St) (Q : List V → Hp → Prop) (us : List Value) (s' : Shared) : Prop := ∃ vs H', Inv X pins σ H' s' ∧ Vals vs us ∧ Q vs H'
def SP (X : Cx) (pins : List (Addr × Obj)) (D : Ends) (f : Flow) (s' : Shared) : Prop :=
  match f with
  | .next => ∃ σ' H', Inv X pins σ' H' s' ∧ D.nx σ' H'
  | .brk => ∃ σ' H', Inv X pins σ' H' s' ∧ D.bk σ' H'
  | .cont => ∃ σ' H', Inv X pins σ' H' s' ∧ D.ct σ' H'
  | .ret u => ∃ v σ' H', Inv X pins σ' H' s' ∧ RelV v u ∧ D.rt v H'

def PE (X : Cx) (e : Expr) (t : TE) : Prop :=
  ∀ (pins : List (Addr × Obj)) (s : Shared) (σ : St) (H : Hp) (Q : VK), Inv X pins σ H s → t σ H Q → wpAny (model X.prog X.w) X.A (eval e X.env) (EP X pins σ Q) X.xe s
def PT (X : Cx) (e : Expr) (t : TT) : Prop :=
  ∀ (pins : List (Addr × Obj)) (s : Shared) (σ : St) (H : Hp) (Q : Bool → Hp → Prop), Inv X pins σ H s → t σ H Q → wpAny (model X.prog X.w) X.A (isTrue e X.env (eval e X.env)) (TP X pins σ Q) X.xe s
/-- a test whatever its 'whole' is (and, or) -/
def PW (X : Cx) (e : Expr) (t : TT) : Prop :=
  ∀ (whole : Sem Value) (pins : List (Addr × Obj)) (s : Shared) (σ : St) (H : Hp) (Q : Bool → Hp → Prop), Inv X pins σ H s → t σ H Q → wpAny (model X.prog X.w) X.A (isTrue e X.env whole) (TP X pins σ Q) X.xe s
theorem PW.pt {X : Cx} {e : Expr} {t : TT} (h : PW X e t) : PT X e t := h _
/-- an argument list (no star), from the left -/
def PA (X : Cx) (es : List Expr) (t : TA) : Prop :=
  ∀ (pos : Pos) (pins : List (Addr × Obj)) (s : Shared) (σ : St) (H : Hp) (Q : List V → Hp → Prop), Inv X pins σ H s → t σ H Q → wpAny (model X.prog X.w) X.A (spliced (backTo pos (starEach es X.env))) (AP X pins σ Q) X.xe s
def PS (X : Cx) (st : Stmt) (t : TS) : Prop :=
  ∀ (pins : List (Addr × Obj)) (s : Shared) (σ : St) (H : Hp) (D : Ends), Inv X pins σ H s → t D σ H → wpAny (model X.prog X.w) X.A (exec st X.env) (SP X pins D) X.xe s
def PSs (X : Cx) (st : List Stmt) (t : TS) : Prop :=
  ∀ (pins : List (Addr × Obj)) (s : Shared) (σ : St) (H : Hp) (D : Ends), Inv X pins σ H s → t D σ H → wpAny (model X.prog X.w) X.A (execs st X.env) (SP X pins D) X.xe s
/-- weaken the end -/
theorem thn {α : Type} {t : Sem α} {Q Q' : α → Shared → Prop} {M : Model} {A : Around} {E : Value → Shared → Prop} {s : Shared} (h : wpAny M A t Q E s) (hQ : ∀ a s, Q a s → Q' a s) : wpAny M A t Q' E s := wpAny_mono h hQ fun _ _ x => x
end L2

namespace L2
open PySem PySem.Spec PyProof.Rows
section
variable {X : Cx}

/-! ### names and constants -/
def tVar (i : Nat) : TE := fun σ H Q => ∃ v, σ[i]? = some (some v) ∧ Q v H
def tC (v : V) : TE := fun _ H Q => Q v H
theorem pe_var {i : Nat} {x : Str} {pos : Pos} (hN : X.N[i]? = some x) (hv : Vis X.env.scope x) (hd : (x == ("__debug__" : Str)) = false := by decide) (hcd : (x == ("__classdict__" : Str)) = false := by decide) : PE X (.Name x pos) (tVar i) := by
  intro pins s σ H Q I h
  obtain ⟨v, e, h⟩ := h
  obtain ⟨m, hn, hl⟩ := I.loc
  obtain ⟨u, r, l⟩ := hl i x v hN e hv
  have fin : EP X pins σ Q u s := ⟨v, H, I, r, h⟩
  rcases l with ⟨hk, hm⟩ | ⟨hk, c, hc, hcell⟩
  · exact wpAny_Name (wpAny_loadName_local I.ok.kind hk hn hm fin) hd
  · rcases hk with hk | hk
    · exact wpAny_Name (wpAny_loadName_cell I.ok.kind hk hc hcell fin) hd
    · exact wpAny_Name (wpAny_loadName_free I.ok.kind hk hc hcell fin hcd) hd
theorem pe_int {i j pos} : PE X (.Constant (.int i) j pos) (tC (.int i)) := fun _ _ _ H _ I h => wpAny_Constant_int ⟨.int i, H, I.tok _, ⟨_, rfl⟩, h⟩
theorem pe_bl {b j pos} : PE X (.Constant (.bool b) j pos) (tC (.bl b)) := fun _ _ _ H _ I h => Constant_bool ⟨.bl b, H, I, rfl, h⟩
theorem pe_non {j pos} : PE X (.Constant .none j pos) (tC .non) := fun _ _ _ H _ I h => Constant_none ⟨.non, H, I, rfl, h⟩
theorem pe_str {x j pos} : PE X (.Constant (.str x) j pos) (tC (.str x)) := fun _ _ _ H _ I h => Calls.Constant_str ⟨.str x, H, I.tok _, ⟨_, rfl⟩, h⟩

/-- a global name of the def -/
def Gl (X : Cx) (x : Str) : Prop := X.env.kindOf x = some .globalImplicit
theorem ld_glob {E : Value → Shared → Prop} {pins : List (Addr × Obj)} {s : Shared} {σ : St} {H : Hp} {x : Str} {u : Value} {pos : Pos} {Q : Value → Shared → Prop} (I : Inv X pins σ H s) (hg : Gl X x) (hm : X.mg x = some u) (h : Q u s)
    (hd : (x == ("__debug__" : Str)) = false := by decide) : wpAny (model X.prog X.w) X.A (eval (.Name x pos) X.env) Q E s :=
  Calls.Name_function_global I.ok.kind hg (Calls.loadGlobal_global (by rw [I.ok.glob]; exact I.mod.glob.keeps I.bk) hm h) hd
theorem ld_blt {E : Value → Shared → Prop} {pins : List (Addr × Obj)} {s : Shared} {σ : St} {H : Hp} {x : Str} {u : Value} {pos : Pos} {Q : Value → Shared → Prop} (I : Inv X pins σ H s) (hg : Gl X x) (hm : X.mg x = none) (hv : bootBuiltins x = some u) (h : Q u s)
    (hn : x ≠ "__name__" := by decide) (hd : (x == ("__debug__" : Str)) = false := by decide) : wpAny (model X.prog X.w) X.A (eval (.Name x pos) X.env) Q E s := by
  obtain ⟨mb, h1, h2⟩ := I.mod.blt
  exact Calls.Name_function_global I.ok.kind hg (Calls.loadGlobal_builtin (by rw [I.ok.glob]; exact I.mod.glob.keeps I.bk) hm (by rw [I.ok.blt]; exact h1.keeps I.bk) ((h2 x hn).trans hv) h) hd
/-- a module's constant, a class, a function, as a value -/
theorem pe_glob {x : Str} {v : V} {u : Value} {pos : Pos} (hg : Gl X x) (hm : X.mg x = some u) (r : RelV v u) (hd : (x == ("__debug__" : Str)) = false := by decide) : PE X (.Name x pos) (tC v) :=
  fun _ _ _ H _ I h => ld_glob I hg hm ⟨v, H, I, r, h⟩ hd
theorem pe_bltn {x : Str} {v : V} {u : Value} {pos : Pos} (hg : Gl X x) (hm : X.mg x = none) (hv : bootBuiltins x = some u) (r : RelV v u) (hn : x ≠ "__name__" := by decide) (hd : (x == ("__debug__" : Str)) = false := by decide) : PE X (.Name x pos) (tC v) :=
  fun _ _ _ H _ I h => ld_blt I hg hm hv ⟨v, H, I, r, h⟩ hn hd

/-! ### arithmetic -/
/-- two ints -/
def t2I (ta tb : TE) (k : Int → Int → Hp → Prop) : St → Hp → Prop := fun σ H => ta σ H fun x H1 => tb σ H1 fun y H2 => ∃ i j, x = .int i ∧ y = .int j ∧ k i j H2
def tAdd (ta tb : TE) : TE := fun σ H Q => t2I ta tb (fun i j H2 => Q (.int (i + j)) H2) σ H
def tSub (ta tb : TE) : TE := fun σ H Q => t2I ta tb (fun i j H2 => Q (.int (i - j)) H2) σ H
/-- the left factor below 2^64 -/
def tMul (ta tb : TE) : TE := fun σ H Q => t2I ta tb (fun i j H2 => (-(2 ^ 64) < i ∧ i < 2 ^ 64) ∧ Q (.int (i * j)) H2) σ H
variable {a b : Expr} {ta tb : TE} {pos : Pos}
/-! ### comparisons -/
def PC (X : Cx) (op : CmpOp) (a b : Expr) (t : TE) : Prop :=
  ∀ (pins : List (Addr × Obj)) (s : Shared) (σ : St) (H : Hp) (Q : VK), Inv X pins σ H s → t σ H Q →
    wpAny (model X.prog X.w) X.A (eval a X.env) (fun v s₁ => wpAny (model X.prog X.w) X.A (eval b X.env) (fun u s₂ => wpAny (model X.prog X.w) X.A (compareOp op v u) (EP X pins σ Q) X.xe s₂) X.xe s₁) X.xe s
def tCmp (p : Int → Int → Bool) (ta tb : TE) : TE := fun σ H Q => t2I ta tb (fun i j H2 => Q (.bl (p i j)) H2) σ H
abbrev tLt : TE → TE → TE := tCmp fun i j => decide (i < j)
abbrev tLe : TE → TE → TE := tCmp fun i j => decide (i ≤ j)
abbrev tGt : TE → TE → TE := tCmp fun i j => decide (j < i)
abbrev tGe : TE → TE → TE := tCmp fun i j => decide (j ≤ i)
abbrev tEqI : TE → TE → TE := tCmp fun i j => decide (i = j)
abbrev tNeI : TE → TE → TE := tCmp fun i j => !decide (i = j)
/-- is None -/
def tIsN (ta : TE) : TE := fun σ H Q => ta σ H fun x H1 => Q (.bl (decide (x = .non))) H1
def tNotN (ta : TE) : TE := fun σ H Q => ta σ H fun x H1 => Q (.bl (!decide (x = .non))) H1
/-- a comparison as a value, as a test -/
def tB (t : TE) : TT := fun σ H Q => t σ H fun x H1 => ∃ c, x = .bl c ∧ Q c H1
theorem pt_cmp {op : CmpOp} {t : TE} (h : PC X op a b t) (h1 : behindInMarks op b = false := by first | exact nobehind _ (by decide) (by decide) | rfl) : PT X (.Compare a [op] [b] pos) (tB t) := by
  intro pins s σ H Q I hw
  refine wpAny_isTrue_Compare1 (thn (h pins s σ H _ I hw) fun v s1 h1 => thn h1 fun u s2 h2 => thn h2 fun c s3 ⟨x, H1, I1, r1, q1⟩ => ?_) h1
  obtain ⟨d, rfl, q⟩ := q1
  cases r1
  exact wpAny_truthy_bool ⟨H1, I1, q⟩
/-- an expression whose value is a bool, as a test -/
theorem pt_val {e : Expr} {t : TE} (h : PE X e t) (he : ∀ whole, isTrue e X.env whole = (do let v ← whole; standAt e.pos; holding [v] (truthy v)) := by intro _; rfl) : PT X e (tB t) := by
  intro pins s σ H Q I hw
  refine isTrue_plain (thn (h pins s σ H _ I hw) fun v s1 ⟨x, H1, I1, r1, q1⟩ => ?_) (he _)
  obtain ⟨d, rfl, q⟩ := q1
  cases r1
  exact wpAny_truthy_bool ⟨H1, I1, q⟩

/-! ### and, or, not -/
variable {tA tB' : TT} {rest : List Expr}
def tAnd (t u : TT) : TT := fun σ H Q => t σ H fun c H1 => if c = true then u σ H1 Q else Q false H1
def tOr (t u : TT) : TT := fun σ H Q => t σ H fun c H1 => if c = true then Q true H1 else u σ H1 Q
def tNot (t : TT) : TT := fun σ H Q => t σ H fun c H1 => Q (!c) H1
theorem pw_and1 (ha : PT X a tA) : PW X (.BoolOp .And [a] pos) tA := by
  intro wh pins s σ H Q I h
  refine isTrue_and (thn (ha pins s σ H Q I h) fun c s1 e => ?_)
  cases c with
  | true => exact isTrue_and_nil e
  | false => exact e
theorem pw_or1 (ha : PT X a tA) : PW X (.BoolOp .Or [a] pos) tA := by
  intro wh pins s σ H Q I h
  refine isTrue_or (thn (ha pins s σ H Q I h) fun c s1 e => ?_)
  cases c with
  | false => exact isTrue_or_nil e
  | true => exact e
theorem pw_and (ha : PT X a tA) (hb : PW X (.BoolOp .And (b :: rest) pos) tB') : PW X (.BoolOp .And (a :: b :: rest) pos) (tAnd tA tB') := by
  intro wh pins s σ H Q I h
  refine isTrue_and (thn (ha pins s σ H _ I h) fun c s1 ⟨H1, I1, q1⟩ => ?_)
  cases c with
  | true => exact hb wh pins s1 σ H1 Q I1 q1
  | false => exact ⟨H1, I1, q1⟩
theorem pw_or (ha : PT X a tA) (hb : PW X (.BoolOp .Or (b :: rest) pos) tB') : PW X (.BoolOp .Or (a :: b :: rest) pos) (tOr tA tB') := by
  intro wh pins s σ H Q I h
  refine isTrue_or (thn (ha pins s σ H _ I h) fun c s1 ⟨H1, I1, q1⟩ => ?_)
  cases c with
  | true => exact ⟨H1, I1, q1⟩
  | false => exact hb wh pins s1 σ H1 Q I1 q1
theorem pt_not (ha : PT X a tA) : PT X (.UnaryOp .Not a pos) (tNot tA) := by
  intro pins s σ H Q I h
  exact isTrue_not (ha pins s σ H (fun c H1 => Q (!c) H1) I h)
/-- .. as values (bools) -/
def tAndV (ta tb : TE) : TE := fun σ H Q => ta σ H fun x H1 => ∃ c, x = .bl c ∧ if c = true then tb σ H1 Q else Q (.bl false) H1
def tOrV (ta tb : TE) : TE := fun σ H Q => ta σ H fun x H1 => ∃ c, x = .bl c ∧ if c = true then Q (.bl true) H1 else tb σ H1 Q
def tNotV (ta : TE) : TE := fun σ H Q => ta σ H fun x H1 => ∃ c, x = .bl c ∧ Q (.bl (!c)) H1
theorem pe_one {op} {t : TE} (h : PE X a t) : PE X (.BoolOp op [a] pos) t := fun pins s σ H Q I hw => BoolOp_one (h pins s σ H Q I hw)
theorem pe_and (ha : PE X a ta) (hb : PE X (.BoolOp .And (b :: rest) pos) tb) : PE X (.BoolOp .And (a :: b :: rest) pos) (tAndV ta tb) := by
  intro pins s σ H Q I h
  refine BoolOp_and (thn (ha pins s σ H _ I h) fun v s1 ⟨x, H1, I1, r1, q1⟩ => ?_)
  obtain ⟨c, rfl, q1⟩ := q1
  cases r1
  refine wpAny_truthy_bool ?_
  cases c with
  | true => exact hb pins s1 σ H1 Q I1 q1
  | false => exact ⟨.bl false, H1, I1, rfl, q1⟩
theorem pe_or (ha : PE X a ta) (hb : PE X (.BoolOp .Or (b :: rest) pos) tb) : PE X (.BoolOp .Or (a :: b :: rest) pos) (tOrV ta tb) := by
  intro pins s σ H Q I h
  refine BoolOp_or (thn (ha pins s σ H _ I h) fun v s1 ⟨x, H1, I1, r1, q1⟩ => ?_)
  obtain ⟨c, rfl, q1⟩ := q1
  cases r1
  refine wpAny_truthy_bool ?_
  cases c with
  | false => exact hb pins s1 σ H1 Q I1 q1
  | true => exact ⟨.bl true, H1, I1, rfl, q1⟩
theorem pe_not (ha : PE X a ta) : PE X (.UnaryOp .Not a pos) (tNotV ta) := by
  intro pins s σ H Q I h
  refine UnaryOp_ (thn (ha pins s σ H _ I h) fun v s1 ⟨x, H1, I1, r1, q1⟩ => ?_)
  obtain ⟨c, rfl, q1⟩ := q1
  cases r1
  exact not_of (wpAny_truthy_bool ⟨.bl (!c), H1, I1, rfl, q1⟩)
/-- a if t else b -/
def tIf (t : TT) (ta tb : TE) : TE := fun σ H Q => t σ H fun c H1 => if c = true then ta σ H1 Q else tb σ H1 Q
theorem pe_ifExp {c : Expr} (hc : PT X c tA) (ha : PE X a ta) (hb : PE X b tb) : PE X (.IfExp c a b pos) (tIf tA ta tb) := by
  intro pins s σ H Q I h
  refine wpAny_IfExp (thn (hc pins s σ H _ I h) fun d s1 ⟨H1, I1, q1⟩ => ?_)
  cases d with
  | true => exact ha pins s1 σ H1 Q I1 q1
  | false => exact hb pins s1 σ H1 Q I1 q1
end
end L2

namespace L2
open PySem PySem.Spec PyProof.Rows

/-! ### a list, a tuple that is read: tracked, frozen, or an object of the module -/
def SqL (K : PySem.W.Frag) (H : Hp) (a : Addr) (xs : List V) : Prop :=
  Rd H a (.lst xs) ∨
    ∃ (o : Obj) (its : Array Value) (n : Nat), K.lookup a = some o ∧ o.cls = .type "list" ∧ o.dict = none ∧ o.data = .seq its n ∧ its.size ≤ sizeLine ∧ Vals xs its.toList
def SqT (K : PySem.W.Frag) (H : Hp) (a : Addr) (xs : List V) : Prop :=
  Rd H a (.tup xs) ∨
    ∃ (o : Obj) (its : Array Value) (n : Nat), K.lookup a = some o ∧ o.cls = .type "tuple" ∧ o.data = .seq its n ∧ its.size ≤ sizeLine ∧ Vals xs its.toList
def absV : Value → Option V
  | .none => some .non
  | .bool b => some (.bl b)
  | .int i _ => some (.int i)
  | .str x _ => some (.str x)
  | .bytes b _ => some (.byt b)
  | .float b _ => some (.flt b)
  | .ref a => some (.ref a)
  | .type n => some (.ty n)
  | _ => none
theorem RelV.abs {x : V} {u : Value} (r : RelV x u) : absV u = some x := by
  cases x with
  | non => cases r; rfl
  | bl _ => cases r; rfl
  | int _ => obtain ⟨t, rfl⟩ := r; rfl
  | str _ => obtain ⟨t, rfl⟩ := r; rfl
  | byt _ => obtain ⟨t, rfl⟩ := r; rfl
  | flt _ => obtain ⟨t, rfl⟩ := r; rfl
  | ref _ => cases r; rfl
  | ty _ => cases r; rfl
theorem RelV.inj {x y : V} {u : Value} (r : RelV x u) (q : RelV y u) : x = y := Option.some.inj (r.abs.symm.trans q.abs)
theorem Vals.inj : ∀ {xs ys : List V} {us : List Value}, Vals xs us → Vals ys us → xs = ys
  | _, _, _, .nil, .nil => rfl
  | _, _, _, .cons r t, .cons r' t' => by rw [r.inj r', Vals.inj t t']
section
variable {X : Cx} {pins : List (Addr × Obj)} {σ : St} {H : Hp} {s : Shared} {a : Addr} {xs ys : List V}
theorem SqL.of {K : PySem.W.Frag} (h : H a = some (.lst xs)) : SqL K H a xs := .inl (.inl h)
theorem SqT.of {K : PySem.W.Frag} (h : H a = some (.tup xs)) : SqT K H a xs := .inl (.inl h)
theorem Inv.list (I : Inv X pins σ H s) (h : SqL X.K H a xs) : ∃ its : List Value, Vals xs its ∧ PlainL s.heap a its.toArray ∧ xs.length ≤ sizeLine := by
  rcases h with h | ⟨o, its, n, hk, hc, hd, hs, hz, r⟩
  · obtain ⟨z, its, n, r, e⟩ := h.ok I.hok
    exact ⟨its, r, ⟨_, n, e, rfl, rfl, rfl⟩, z⟩
  · refine ⟨its.toList, r, ⟨o, n, I.kIn a o hk, hc, hd, by simpa using hs⟩, ?_⟩
    have e := r.length
    simp only [Array.length_toList] at e
    omega
theorem Inv.tuple (I : Inv X pins σ H s) (h : SqT X.K H a xs) : ∃ its : List Value, Vals xs its ∧ IsTup s.heap a its.toArray ∧ xs.length ≤ sizeLine := by
  rcases h with h | ⟨o, its, n, hk, hc, hs, hz, r⟩
  · obtain ⟨z, its, r, p⟩ := h.ok I.hok
    exact ⟨its, r, p, z⟩
  · refine ⟨its.toList, r, ⟨o, I.kIn a o hk, hc, n, by simpa using hs⟩, ?_⟩
    have e := r.length
    simp only [Array.length_toList] at e
    omega
theorem Inv.list_inj (I : Inv X pins σ H s) (h : SqL X.K H a xs) (h' : SqL X.K H a ys) : xs = ys := by
  obtain ⟨its, r, ⟨o, n, e, _, _, d⟩, _⟩ := I.list h
  obtain ⟨its', r', ⟨o', n', e', _, _, d'⟩, _⟩ := I.list h'
  rw [e] at e'; cases e'
  rw [d] at d'
  injection d' with d1 _
  have : its = its' := by simpa using congrArg Array.toList d1
  subst this
  exact r.inj r'
theorem Inv.tuple_inj (I : Inv X pins σ H s) (h : SqT X.K H a xs) (h' : SqT X.K H a ys) : xs = ys := by
  obtain ⟨its, r, ⟨o, e, _, n, d⟩, _⟩ := I.tuple h
  obtain ⟨its', r', ⟨o', e', _, n', d'⟩, _⟩ := I.tuple h'
  rw [e] at e'; cases e'
  rw [d] at d'
  injection d' with d1 _
  have : its = its' := by simpa using congrArg Array.toList d1
  subst this
  exact r.inj r'
end

/-! ### another wish about exceptions -/
abbrev Cx.wish (X : Cx) (E : Value → Shared → Prop) : Cx := { X with xe := E }
/-- no exception leaves -/
abbrev Cx.nox (X : Cx) : Cx := X.wish fun _ _ => False
theorem Cx.Ok.wish {X : Cx} (ok : X.Ok) (E : Value → Shared → Prop) : (X.wish E).Ok :=
  ⟨ok.mod, ok.kind, ok.glob, ok.blt, ok.above, ok.inj, ok.has, ok.cab, ok.hd, ok.frames, ok.stk, ok.exf, ok.bs, ok.bsz, ok.noex, ok.exfs, ok.funs, ok.frf⟩
theorem Cx.Ok.unwish {X : Cx} {E : Value → Shared → Prop} (ok : (X.wish E).Ok) : X.Ok :=
  ⟨ok.mod, ok.kind, ok.glob, ok.blt, ok.above, ok.inj, ok.has, ok.cab, ok.hd, ok.frames, ok.stk, ok.exf, ok.bs, ok.bsz, ok.noex, ok.exfs, ok.funs, ok.frf⟩
section
variable {X : Cx} {pins : List (Addr × Obj)} {σ : St} {H : Hp} {s : Shared} {E : Value → Shared → Prop}
theorem Inv.wish (I : Inv X pins σ H s) (E : Value → Shared → Prop) : Inv (X.wish E) pins σ H s := ⟨I.ok.wish E, I.os, I.bare, I.base, I.loc, I.cell, I.free, I.freeC, I.pin, I.hok, I.len⟩
theorem Inv.unwish (I : Inv (X.wish E) pins σ H s) : Inv X pins σ H s := ⟨I.ok.unwish, I.os, I.bare, I.base, I.loc, I.cell, I.free, I.freeC, I.pin, I.hok, I.len⟩
theorem SP.unwish {D : Ends} {f : Flow} {s' : Shared} (h : SP (X.wish E) pins D f s') : SP X pins D f s' := by
  cases f with
  | next => obtain ⟨σ', H', I, q⟩ := h; exact ⟨σ', H', I.unwish, q⟩
  | brk => obtain ⟨σ', H', I, q⟩ := h; exact ⟨σ', H', I.unwish, q⟩
  | cont => obtain ⟨σ', H', I, q⟩ := h; exact ⟨σ', H', I.unwish, q⟩
  | ret u => obtain ⟨v, σ', H', I, r, q⟩ := h; exact ⟨v, σ', H', I.unwish, r, q⟩
theorem PSs.nox {st : List Stmt} {t : TS} (h : PSs X.nox st t) : PSs X st t := fun pins s σ H D I hw =>
  wpAny_mono (h pins s σ H D (I.wish _) hw) (fun _ _ q => q.unwish) fun _ _ z => False.elim z
end

/-! ### blocks and small statements -/
section
variable {X : Cx} {st : Stmt} {rest : List Stmt} {t u : TS} {e : Expr} {te : TE} {pos : Pos}
def tNext : TS := fun D σ H => D.nx σ H
def tSeq (t u : TS) : TS := fun D σ H => t { D with nx := u D } σ H
theorem pss_nil : PSs X [] tNext := fun _ _ σ H _ I h => wpAny_execs_nil ⟨σ, H, I, h⟩
theorem pss_cons (h1 : PS X st t) (h2 : PSs X rest u) : PSs X (st :: rest) (tSeq t u) := by
  intro pins s σ H D I h
  refine wpAny_execs_cons (thn (h1 pins s σ H { D with nx := u D } I h) fun f s1 q => ?_)
  cases f with
  | next =>
    obtain ⟨σ', H', I', q⟩ := q
    exact h2 pins s1 σ' H' D I' q
  | ret v => exact q
  | brk => exact q
  | cont => exact q
theorem pss_one (h1 : PS X st t) : PSs X [st] t := by
  intro pins s σ H D I h
  refine wpAny_execs_cons (thn (h1 pins s σ H D I h) fun f s1 q => ?_)
  cases f with
  | next => exact wpAny_execs_nil q
  | ret v => exact q
  | brk => exact q
  | cont => exact q
def tBreak : TS := fun D σ H => D.bk σ H
def tCont : TS := fun D σ H => D.ct σ H
/-- in a def's body nothing is shown -/
theorem Inv.quiet {pins : List (Addr × Obj)} {σ : St} {H : Hp} {s : Shared} (I : Inv X pins σ H s) : interactive X.env = false := by simp [interactive, I.ok.kind]
/-- an expression whose value is dropped -/
def tDrop (te : TE) : TS := fun D σ H => te σ H fun _ H1 => D.nx σ H1
theorem ps_expr (he : PE X e te) (hs : swapsWith e none pos.line X.env = pure false := by rfl) : PS X (.Expr e pos) (tDrop te) := by
  intro pins s σ H D I h
  exact wpAny_Expr_any (thn (he pins s σ H _ I h) fun v s1 ⟨x, H1, I1, r1, q1⟩ => ⟨σ, H1, I1, q1⟩) I.quiet hs
def tRet (te : TE) : TS := fun D σ H => te σ H D.rt
theorem ps_ret (he : PE X e te) : PS X (.Return (some e) pos) (tRet te) := by
  intro pins s σ H D I h
  exact wpAny_Return_some (thn (he pins s σ H _ I h) fun v s1 ⟨x, H1, I1, r1, q1⟩ => ⟨x, σ, H1, I1, r1, q1⟩)
def tRetN : TS := fun D _ H => D.rt .non H
def tIfS (c : TT) (t u : TS) : TS := fun D σ H => c σ H fun b H1 => if b = true then t D σ H1 else u D σ H1
theorem ps_if {c : Expr} {a b : List Stmt} {tc : TT} (hc : PT X c tc) (ha : PSs X a t) (hb : PSs X b u) : PS X (.If c a b pos) (tIfS tc t u) := by
  intro pins s σ H D I h
  refine wpAny_If (thn (hc pins s σ H _ I h) fun d s1 ⟨H1, I1, q1⟩ => ?_)
  cases d with
  | true => exact ha pins s1 σ H1 D I1 q1
  | false => exact hb pins s1 σ H1 D I1 q1
/-- code that the proof never comes to -/
def tNever : TS := fun _ _ _ => False
end

/-! ### targets -/
abbrev TG := V → St → Hp → (St → Hp → Prop) → Prop
abbrev TGs := List V → St → Hp → (St → Hp → Prop) → Prop
def PG (X : Cx) (target : Expr) (t : TG) : Prop :=
  ∀ (pins : List (Addr × Obj)) (s : Shared) (σ : St) (H : Hp) (v : V) (u : Value) (Q : St → Hp → Prop), Inv X pins σ H s → RelV v u → t v σ H Q →
    wpAny (model X.prog X.w) X.A (assign target X.env u) (fun _ s' => ∃ σ' H', Inv X pins σ' H' s' ∧ Q σ' H') X.xe s
/-- several targets, one after another -/
def PGs (X : Cx) (ts : List Expr) (t : TGs) : Prop :=
  ∀ (pins : List (Addr × Obj)) (s : Shared) (σ : St) (H : Hp) (vs : List V) (us : List Value) (Q : St → Hp → Prop), Inv X pins σ H s → Vals vs us → t vs σ H Q →
    wpAny (model X.prog X.w) X.A (assignInOrder ((assignEach ts X.env).map (·.2)) us) (fun _ s' => ∃ σ' H', Inv X pins σ' H' s' ∧ Q σ' H') X.xe s
/-- o[i] = v, by values -/
abbrev TSet := V → V → V → Hp → (Hp → Prop) → Prop
def PSet (X : Cx) (t : TSet) : Prop :=
  ∀ (pins : List (Addr × Obj)) (s : Shared) (σ : St) (H : Hp) (o i v : V) (ov iv u : Value) (Q : Hp → Prop), Inv X pins σ H s → RelV o ov → RelV i iv → RelV v u → t o i v H Q →
    wpAny (model X.prog X.w) X.A (setItem ov iv u) (fun _ s' => ∃ H', Inv X pins σ H' s' ∧ Q H') X.xe s
/-- a op= b, by values -/
abbrev TIp := V → V → Hp → VK → Prop
def PIp (X : Cx) (op : Operator) (t : TIp) : Prop :=
  ∀ (pins : List (Addr × Obj)) (s : Shared) (σ : St) (H : Hp) (x y : V) (v u : Value) (Q : VK), Inv X pins σ H s → RelV x v → RelV y u → t x y H Q →
    wpAny (model X.prog X.w) X.A (inplaceOp op v u) (EP X pins σ Q) X.xe s
section
variable {X : Cx} {pos : Pos}
def gName (i : Nat) : TG := fun v σ H Q => Q (σ.set i (some v)) H
theorem pg_name {i : Nat} {x : Str} (hN : X.N.Nodup) (hi : X.N[i]? = some x) (hx : Loc X.env.scope x) (hf : X.fn x = true ∨ X.env.scope.names.lookup x = some .local := by first | exact .inl rfl | exact .inr rfl | assumption) : PG X (.Name x pos) (gName i) := by
  intro pins s σ H v u Q I r h
  exact wpAny_assign_Name (store_ok I hN hi hx r (fun s' I' => ⟨_, H, I', h⟩) hf)
def gNil : TGs := fun vs σ H Q => vs = [] ∧ Q σ H
def gCons (t : TG) (u : TGs) : TGs := fun vs σ H Q => ∃ v r, vs = v :: r ∧ t v σ H fun σ' H' => u r σ' H' Q
theorem pgs_nil : PGs X [] gNil := by
  intro pins s σ H vs us Q I r h
  obtain ⟨e, h⟩ := h
  subst e
  cases r
  exact assignInOrder_nil ⟨σ, H, I, h⟩
theorem pgs_cons {e : Expr} {es : List Expr} {t : TG} {u : TGs} (h1 : PG X e t) (h2 : PGs X es u)
    (hs : (assignEach (e :: es) X.env).map (·.2) = assign e X.env :: (assignEach es X.env).map (·.2) := by rfl) : PGs X (e :: es) (gCons t u) := by
  intro pins s σ H vs us Q I r h
  obtain ⟨v, vr, e1, h⟩ := h
  subst e1
  cases r with
  | cons r rr =>
    rw [hs]
    refine assignInOrder_cons (thn (h1 pins s σ H _ _ _ I r h) fun _ s1 ⟨σ1, H1, I1, q1⟩ => ?_)
    exact h2 pins s1 σ1 H1 _ _ Q I1 rr q1
/-- (a, b, ..) = a tuple of that length -/
def gTup (K : PySem.W.Frag) (n : Nat) (t : TGs) : TG := fun v σ H Q => ∃ a xs, v = .ref a ∧ SqT K H a xs ∧ xs.length = n ∧ t xs σ H Q
theorem pg_tup {es : List Expr} {k : Nat} {t : TGs} {n : Nat} (hc : X.calm = true) (h : PGs X es t)
    (hn : (assignEach es X.env).length = n := by rfl) (hst : (assignEach es X.env).findIdx? (·.1) = none := by rfl) : PG X (.Tuple es k pos) (gTup X.K n t) := by
  intro pins s σ H v u Q I r hw
  obtain ⟨a, xs, e1, hq, hl, hw⟩ := hw
  subst e1
  cases r
  obtain ⟨its, rv, ht, hz⟩ := I.tuple hq
  refine assign_Tuple_tuple (I.ok.hd hc) ht (by simp [hn, ← hl, rv.length]) hst fun h' hx => ?_
  have I1 : Inv X pins σ H { s with heap := h' } := I.kept (t' := s.toks) fun b o e => hx b o (Nat.ne_of_lt (Heap.lt_size e)) e
  exact h pins _ σ H xs _ Q I1 (by simpa using rv) hw
/-- o[i] = .. -/
def gSub (to ti : TE) (t : TSet) : TG := fun v σ H Q => to σ H fun o H1 => ti σ H1 fun i H2 => t o i v H2 fun H3 => Q σ H3
theorem pg_sub {o i : Expr} {to ti : TE} {t : TSet} (ho : PE X o to) (hi : PE X i ti) (hs : PSet X t)
    (ha : ∀ v, assign (.Subscript o i pos) X.env v = (do
      let ov ← holding [v] (eval o X.env)
      let iv ← holding [v, ov] (eval i X.env)
      standAt pos
      holding [v, ov, iv] (setItem ov iv v)
      release [v, ov, iv] []) := by intro _; rfl) : PG X (.Subscript o i pos) (gSub to ti t) := by
  intro pins s σ H v u Q I r h
  rw [ha]
  refine wpAny_bind (wpAny_holding (thn (ho pins s σ H _ I h) fun ov s1 ⟨x, H1, I1, r1, q1⟩ => ?_))
  refine wpAny_bind (wpAny_holding (thn (hi pins s1 σ H1 _ I1 q1) fun iv s2 ⟨y, H2, I2, r2, q2⟩ => ?_))
  refine wpAny_bind (wpAny_standAt (wpAny_bind (wpAny_holding (thn (hs pins s2 σ H2 x y v ov iv u _ I2 r1 r2 r q2) fun _ s3 ⟨H3, I3, q3⟩ => ?_))))
  exact wpAny_release ⟨σ, H3, I3, q3⟩
/-- target = value -/
def tAsg (te : TE) (g : TG) : TS := fun D σ H => te σ H fun x H1 => g x σ H1 D.nx
theorem ps_asg {tg e : Expr} {te : TE} {g : TG} (he : PE X e te) (hg : PG X tg g) (hs : swapsWithSole [tg] e pos.line X.env = pure false := by rfl) (hw : swappedStores [tg] e X.env = pure none := by rfl)
    (h1 : (assignEach [tg] X.env).map (·.2) = [assign tg X.env] := by rfl) : PS X (.Assign [tg] e pos) (tAsg te g) := by
  intro pins s σ H D I h
  refine wpAny_Assign_stores (thn (he pins s σ H _ I h) fun v s1 ⟨x, H1, I1, r1, q1⟩ => ?_) hs hw
  rw [h1]
  exact thn (hg pins s1 σ H1 x v _ I1 r1 q1) fun _ s2 q => q
/-- name = value -/
theorem ps_set {i : Nat} {x : Str} {e : Expr} {te : TE} {pos' : Pos} (hN : X.N.Nodup) (hi : X.N[i]? = some x) (hx : Loc X.env.scope x) (he : PE X e te) (hs : swapsWith e (some (.Name x pos')) pos.line X.env = pure false := by rfl) (hf : X.fn x = true ∨ X.env.scope.names.lookup x = some .local := by first | exact .inl rfl | exact .inr rfl | assumption) :
    PS X (.Assign [.Name x pos'] e pos) (tAsg te (gName i)) := by
  intro pins s σ H D I h
  refine wpAny_Assign_Name (thn (he pins s σ H _ I h) fun v s1 ⟨y, H1, I1, r1, q1⟩ => ?_) hs
  exact store_ok I1 hN hi hx r1 (fun s2 I2 => ⟨_, H1, I2, q1⟩) hf
/-- a, b = x, y with plain local names: stored from the right; the pair itself is not tracked (the opening rows as in PyProof/Rows/TupAssign.lean:23) -/
def tPar (i j : Nat) (ta : TA) : TS := fun D σ H => ta σ H fun vs H1 => ∃ v w, vs = [v, w] ∧ D.nx ((σ.set i (some v)).set j (some w)) H1
/-- name op= e -/
def tAug (i : Nat) (te : TE) (ti : TIp) : TS := fun D σ H => ∃ x, σ[i]? = some (some x) ∧ te σ H fun y H1 => ti x y H1 fun z H2 => D.nx (σ.set i (some z)) H2
/-- o[i] op= e -/
def tAugS (to ti te : TE) (tget : V → V → Hp → VK → Prop) (tip : TIp) (tset : TSet) : TS := fun D σ H => to σ H fun o H1 => ti σ H1 fun i H2 => tget o i H2 fun x H3 => te σ H3 fun y H4 => tip x y H4 fun z H5 => tset o i z H5 fun H6 => D.nx σ H6
/-- o[i], by values -/
def PGet (X : Cx) (t : V → V → Hp → VK → Prop) : Prop :=
  ∀ (pins : List (Addr × Obj)) (s : Shared) (σ : St) (H : Hp) (o i : V) (ov iv : Value) (Q : VK), Inv X pins σ H s → RelV o ov → RelV i iv → t o i H Q →
    wpAny (model X.prog X.w) X.A (getItem ov iv) (EP X pins σ Q) X.xe s
/-- ints -/
def ipI (f : Int → Int → Int) : TIp := fun x y H Q => ∃ i j, x = .int i ∧ y = .int j ∧ Q (.int (f i j)) H
end

/-! ### while -/
section
variable {X : Cx} {pos : Pos}
/-- the invariant W with its measure -/
def tWhile (c : TT) (tb : TS) : TS := fun D σ H => ∃ W : Nat → St → Hp → Prop, (∃ m, W m σ H) ∧ ∀ m σ H, W m σ H →
  c σ H fun b H1 => if b = true then ∃ N : St → Hp → Prop, (∀ σ' H', N σ' H' → ∃ m', m' < m ∧ W m' σ' H') ∧ tb { D with nx := N, ct := N, bk := D.nx } σ H1 else D.nx σ H1
theorem ps_while {c : Expr} {body : List Stmt} {tc : TT} {tb : TS} (hp : PassesOwn (model X.prog X.w) X.A X.env X.xe) (hc : PT X c tc) (hb : PSs X body tb) : PS X (.While c body [] pos) (tWhile tc tb) := by
  intro pins s σ H D I h
  obtain ⟨W, ⟨m0, w0⟩, turn⟩ := h
  refine wpAny_While (codeAny_whileLoop (fun n s' => ∃ σ' H', Inv X pins σ' H' s' ∧ W n σ' H') ?_ m0 ⟨σ, H, I, w0⟩)
  rintro n s1 ⟨σ1, H1, I1, w1⟩
  refine wpAny_passesOwn hp (thn (hc pins s1 σ1 H1 _ I1 (turn n σ1 H1 w1)) fun b s2 ⟨H2, I2, q2⟩ => ?_)
  cases b with
  | true =>
    obtain ⟨N, hN, q2⟩ := q2
    rw [if_pos rfl]
    refine wpAny_passesOwn hp (thn (hb pins s2 σ1 H2 _ I2 q2) fun f s3 q3 => ?_)
    cases f with
    | next =>
      obtain ⟨σ3, H3, I3, n3⟩ := q3
      obtain ⟨m', hm, w3⟩ := hN σ3 H3 n3
      exact ⟨m', hm, σ3, H3, I3, w3⟩
    | cont =>
      obtain ⟨σ3, H3, I3, n3⟩ := q3
      obtain ⟨m', hm, w3⟩ := hN σ3 H3 n3
      exact ⟨m', hm, σ3, H3, I3, w3⟩
    | brk => exact q3
    | ret v => exact q3
  | false =>
    rw [if_neg Bool.false_ne_true]
    exact wpAny_execs_nil ⟨σ1, H2, I2, q2⟩
end

/-! ### what a loop or a comprehension walks -/
/-- at turn i: it yields x (the heap may grow), or it stops -/
structure It where
  go : Nat → Hp → Prop
  yld : Nat → Hp → V → Hp → Prop
  stop : Nat → Hp → Prop
/-- the iterator's own objects may turn: they are not the frame's, not pinned, younger than the entry (or a comprehension's own) -/
def FpOk (X : Cx) (pins : List (Addr × Obj)) (H : Hp) (b : Addr) : Prop :=
  H b = none ∧ b ≠ X.env.locals ∧ b ∉ X.fs ∧ (b ∈ X.ex ∨ X.s₀.heap.objs.size ≤ b) ∧ (∀ x c, X.env.cells.lookup x = some c → c ≠ b) ∧ ∀ p ∈ X.pn ++ pins, p.1 ≠ b
theorem Inv.fpOk {X : Cx} {pins : List (Addr × Obj)} {σ : St} {H H' : Hp} {s : Shared} {b : Addr} (I : Inv X pins σ H s) (hb : s.heap.objs.size ≤ b) (hn : H' b = none) : FpOk X pins H' b := by
  refine ⟨hn, Nat.ne_of_gt (Nat.lt_of_lt_of_le I.lt hb), I.nofs hb, .inr (Nat.le_trans I.sz hb), fun x c e z => ?_, fun p hp z => ?_⟩
  · obtain ⟨v, q⟩ := I.cell x c e
    exact absurd (Nat.lt_of_lt_of_le q.lt (by rw [z]; exact hb)) (Nat.lt_irrefl _)
  · exact absurd (Nat.lt_of_lt_of_le (Heap.lt_size (I.pin p hp).1) (by rw [z]; exact hb)) (Nat.lt_irrefl _)
structure Turn (P : Program) (w : World) (K : PySem.W.Frag) (tg : Expr) (J : It) (fp : List Addr) (it : Addr) (tn : Nat → Heap → Prop) : Prop where
  mem : it ∈ fp
  obj : ∀ i h, tn i h → ∀ b ∈ fp, ∃ o, h.get? b = some o ∧ ∀ v, o.data ≠ .cell v
  keep : ∀ i h h', tn i h → (∀ b ∈ fp, ∀ o, h.get? b = some o → h'.get? b = some o) → tn i h'
  item : ∀ (X : Cx), X.prog = P → X.w = w → X.K = K → X.calm = true → ∀ (i : Nat) (pins : List (Addr × Obj)) (s : Shared) (σ : St) (H : Hp) (E : Value → Shared → Prop), Inv X pins σ H s → (∀ b ∈ fp, FpOk X pins H b) → tn i s.heap → J.go i H →
    wpAny (model P w) X.A (pyNext (.ref it)) (fun r s1 => ∃ u, r = some u ∧
      wpAny (model P w) X.A (letOwnedTupleGo tg (.ref it) u) (fun _ s2 => ∃ x H', Inv X pins σ H' s2 ∧ RelV x u ∧ J.yld i H x H' ∧ tn (i + 1) s2.heap ∧ ∀ b ∈ fp, H' b = none) E s1) E s
  done : ∀ (X : Cx), X.prog = P → X.w = w → X.K = K → X.calm = true → ∀ (i : Nat) (pins : List (Addr × Obj)) (s : Shared) (σ : St) (H : Hp) (E : Value → Shared → Prop), Inv X pins σ H s → (∀ b ∈ fp, FpOk X pins H b) → tn i s.heap → J.stop i H →
    wpAny (model P w) X.A (pyNext (.ref it)) (fun r s1 => r = none ∧ Inv X pins σ H s1) E s
  self : ∀ (A : Around) (i : Nat) (s : Shared) (Q : Value → Shared → Prop) (E : Value → Shared → Prop), tn i s.heap → Q (.ref it) s → wpAny (model P w) A (pyIter (.ref it)) Q E s
abbrev TI := St → Hp → (It → Hp → Prop) → Prop
/-- an iterator has come -/
def PIE (X : Cx) (pins : List (Addr × Obj)) (σ : St) (tg : Expr) (R : It → Hp → Prop) (itv : Value) (s2 : Shared) : Prop :=
  ∃ (it : Addr) (fp : List Addr) (tn : Nat → Heap → Prop) (J : It) (H' : Hp), itv = .ref it ∧ Inv X pins σ H' s2 ∧ Turn X.prog X.w X.K tg J fp it tn ∧ tn 0 s2.heap ∧ (∀ b ∈ fp, FpOk X pins H' b) ∧ R J H'
def PI (X : Cx) (tg iter : Expr) (wi : TI) : Prop :=
  ∀ (pins : List (Addr × Obj)) (s : Shared) (σ : St) (H : Hp) (R : It → Hp → Prop), Inv X pins σ H s → wi σ H R →
    wpAny (model X.prog X.w) X.A (eval iter X.env) (fun v s1 => wpAny (model X.prog X.w) X.A (pyIter v) (PIE X pins σ tg R) X.xe s1) X.xe s

/-- the step ahead of the store is nothing for an iterator that keeps no tuple -/
theorem go_of {M : Model} {A : Around} {E : Value → Shared → Prop} {s : Shared} {tg : Expr} {it : Addr} {u : Value} {o : Obj} {n : String} {vs : Array Value} {Q : Unit → Shared → Prop} (ho : s.heap.get? it = some o) (hc : o.cls = .type n) (hd : o.data = .fields vs)
    (hn : ["enumerate", "zip", "dict_itemiterator", "dict_reverseitemiterator", "odict_iterator", "itertools.zip_longest", "itertools.pairwise"].contains n = false) (hQ : Q () s) : wpAny M A (letOwnedTupleGo tg (.ref it) u) Q E s := by
  unfold letOwnedTupleGo
  cases tg <;> first
    | exact wpAny_pure hQ
    | (cases u <;> first
        | exact wpAny_pure hQ
        | (refine wpAny_bind (wpAny_load ho ?_)
           rw [hc, hd]
           show wpAny M A (if (["enumerate", "zip", "dict_itemiterator", "dict_reverseitemiterator", "odict_iterator", "itertools.zip_longest", "itertools.pairwise"].contains n && vs[0]? == some (rawInt _)) = true then _ else _) Q E s
           rw [if_neg (by intro h; rw [hn, Bool.false_and] at h; cases h)]
           exact wpAny_pure hQ))

/-- the list at a, as it stands at each turn (a loop may append to it) -/
def Itl (K : PySem.W.Frag) (a : Addr) : It :=
  ⟨fun i H => ∃ xs x, SqL K H a xs ∧ xs[i]? = some x, fun i H x H' => H' = H ∧ ∀ xs, SqL K H a xs → xs[i]? = some x, fun i H => ∃ xs, SqL K H a xs ∧ xs.length ≤ i⟩
def Itt (K : PySem.W.Frag) (a : Addr) : It :=
  ⟨fun i H => ∃ xs x, SqT K H a xs ∧ xs[i]? = some x, fun i H x H' => H' = H ∧ ∀ xs, SqT K H a xs → xs[i]? = some x, fun i H => ∃ xs, SqT K H a xs ∧ xs.length ≤ i⟩
/-- lo, lo + 1, .. (n of them) -/
def Itr (lo : Int) (n : Nat) : It := ⟨fun i _ => i < n, fun i H x H' => H' = H ∧ x = .int (lo + i), fun i _ => n ≤ i⟩
theorem turn_list {P : Program} {w : World} {K : PySem.W.Frag} {tg : Expr} (a it : Addr) : Turn P w K tg (Itl K a) [it] it (fun i h => h.IsListIter it a i) where
  mem := by simp
  obj := fun i h st b hb => by
    have e : b = it := by simpa using hb
    subst e
    obtain ⟨o, e, c, d⟩ := st
    exact ⟨o, e, fun v z => by rw [d] at z; cases z⟩
  keep := fun i h h' st k => st.at fun o e => k it (by simp) o e
  item := by
    intro X hP hw hK hc i pins s σ H E I hf st hg
    subst hP hw hK
    obtain ⟨xs, x, hq, hx⟩ := hg
    obtain ⟨its, rv, p, hz⟩ := I.list hq
    obtain ⟨u, hu, ru⟩ := rv.get hx
    obtain ⟨f0, f1, f2, f3, f4, f5⟩ := hf it (by simp)
    refine wpAny_pyNext_list_item st p.isList (x := u) (by simpa using hu) fun h' st' sb => ?_
    have I1 : Inv X pins σ H { s with heap := h' } := I.turned (t' := s.toks) (fun b o hb e => (sb.2 b hb).trans e) f0 f1 f3 f4 f5
    obtain ⟨o, e, c, d⟩ := id st'
    exact ⟨u, rfl, go_of (s := { s with heap := h' }) e c d (by decide) ⟨x, H, I1, ru, ⟨rfl, fun ys hy => by rw [I.list_inj hy hq]; exact hx⟩, st', fun b hb => (hf b hb).1⟩⟩
  done := by
    intro X hP hw hK hc i pins s σ H E I hf st hg
    subst hP hw hK
    obtain ⟨xs, hq, hx⟩ := hg
    obtain ⟨its, rv, p, hz⟩ := I.list hq
    obtain ⟨f0, f1, f2, f3, f4, f5⟩ := hf it (by simp)
    have hl := rv.length
    exact wpAny_pyNext_list_end (I.ok.hd hc) st p.isList (by simp; omega) fun h' eb => ⟨rfl, I.turned (t' := s.toks) (fun b o hb e => eb b o hb e) f0 f1 f3 f4 f5⟩
  self := fun _ _ _ _ _ st h => wpAny_pyIter_listiter st h
theorem turn_tuple {P : Program} {w : World} {K : PySem.W.Frag} {tg : Expr} (a it : Addr) : Turn P w K tg (Itt K a) [it] it (fun i h => h.IsTupleIter it a i) where
  mem := by simp
  obj := fun i h st b hb => by
    have e : b = it := by simpa using hb
    subst e
    obtain ⟨o, e, c, d⟩ := st
    exact ⟨o, e, fun v z => by rw [d] at z; cases z⟩
  keep := fun i h h' st k => st.at fun o e => k it (by simp) o e
  item := by
    intro X hP hw hK hc i pins s σ H E I hf st hg
    subst hP hw hK
    obtain ⟨xs, x, hq, hx⟩ := hg
    obtain ⟨its, rv, p, hz⟩ := I.tuple hq
    obtain ⟨u, hu, ru⟩ := rv.get hx
    obtain ⟨f0, f1, f2, f3, f4, f5⟩ := hf it (by simp)
    refine wpAny_pyNext_tuple_item st (show s.heap.IsTuple a its.toArray from p) (x := u) (by simpa using hu) fun h' st' sb => ?_
    have I1 : Inv X pins σ H { s with heap := h' } := I.turned (t' := s.toks) (fun b o hb e => (sb.2 b hb).trans e) f0 f1 f3 f4 f5
    obtain ⟨o, e, c, d⟩ := id st'
    exact ⟨u, rfl, go_of (s := { s with heap := h' }) e c d (by decide) ⟨x, H, I1, ru, ⟨rfl, fun ys hy => by rw [I.tuple_inj hy hq]; exact hx⟩, st', fun b hb => (hf b hb).1⟩⟩
  done := by
    intro X hP hw hK hc i pins s σ H E I hf st hg
    subst hP hw hK
    obtain ⟨xs, hq, hx⟩ := hg
    obtain ⟨its, rv, p, hz⟩ := I.tuple hq
    obtain ⟨f0, f1, f2, f3, f4, f5⟩ := hf it (by simp)
    have hl := rv.length
    exact wpAny_pyNext_tuple_end (I.ok.hd hc) st (show s.heap.IsTuple a its.toArray from p) (by simp; omega) fun h' eb => ⟨rfl, I.turned (t' := s.toks) (fun b o hb e => eb b o hb e) f0 f1 f3 f4 f5⟩
  self := fun _ _ _ _ _ st h => wpAny_pyIter_tupleiter st h
theorem turn_range {P : Program} {w : World} {K : PySem.W.Frag} {tg : Expr} (it : Addr) (lo : Int) (n : Nat) : Turn P w K tg (Itr lo n) [it] it (fun i h => IsRangeIter h it (lo + (i : Nat) * 1) ((n : Int) - (i : Nat)) 1) where
  mem := by simp
  obj := fun i h st b hb => by
    have e : b = it := by simpa using hb
    subst e
    exact ⟨_, st, fun v z => by
      have z' : Data.fields _ = Data.cell v := z
      cases z'⟩
  keep := fun i h h' st k => k it (by simp) _ st
  item := by
    intro X hP hw hK hc i pins s σ H E I hf st hg
    subst hP hw hK
    obtain ⟨f0, f1, f2, f3, f4, f5⟩ := hf it (by simp)
    have W := Walks.range (prog := X.prog) (w := X.w) (I.ok.hd hc) it lo 1 n
    refine W.item i s _ _ hg st fun v h' tk hv st' kk => ?_
    obtain ⟨t, rfl⟩ := hv
    have I1 : Inv X pins σ H { s with heap := h', toks := tk } := I.turned (fun b o hb e => kk b o (by simpa using hb) e) f0 f1 f3 f4 f5
    refine ⟨_, rfl, go_of (s := { s with heap := h', toks := tk }) (n := "range_iterator") st' rfl rfl (by decide) ⟨.int (lo + i), H, I1, ⟨t, ?_⟩, ⟨rfl, rfl⟩, st', fun b hb => (hf b hb).1⟩⟩
    rw [Int.mul_one]
  done := by
    intro X hP hw hK hc i pins s σ H E I hf st hg
    subst hP hw hK
    obtain ⟨f0, f1, f2, f3, f4, f5⟩ := hf it (by simp)
    exact wpAny_pyNext_range_end (I.ok.hd hc) st (by have : n ≤ i := hg; omega) fun h' eb => ⟨rfl, I.turned (t' := s.toks) (fun b o hb e => eb b o hb e) f0 f1 f3 f4 f5⟩
  self := fun _ _ _ _ _ st h => wpAny_pyIter_rangeiter st h
end L2

namespace L2
open PySem PySem.Spec PyProof.Rows
section
variable {X : Cx} {tg : Expr}
def iList (K : PySem.W.Frag) (tl : TE) : TI := fun σ H R => tl σ H fun x H1 => ∃ a, x = .ref a ∧ (∃ xs, SqL K H1 a xs) ∧ R (Itl K a) H1
def iTup (K : PySem.W.Frag) (tl : TE) : TI := fun σ H R => tl σ H fun x H1 => ∃ a, x = .ref a ∧ (∃ xs, SqT K H1 a xs) ∧ R (Itt K a) H1
theorem pi_list {l : Expr} {tl : TE} (hl : PE X l tl) : PI X tg l (iList X.K tl) := by
  intro pins s σ H R I h
  refine thn (hl pins s σ H _ I h) fun v s1 ⟨x, H1, I1, r1, q1⟩ => ?_
  obtain ⟨a, e, ⟨xs, hq⟩, q⟩ := q1
  subst e
  cases r1
  obtain ⟨its, rv, p, hz⟩ := I1.list hq
  refine wpAny_pyIter_list p.isList ?_
  refine ⟨s1.heap.objs.size, [s1.heap.objs.size], _, _, H1, rfl, I1.kept (t' := s1.toks) fun b o e => Heap.get?_push_of_some _ e, turn_list a _, ⟨_, Heap.get?_push_size _ rfl, rfl, rfl⟩, fun b hb => ?_, q⟩
  have e : b = s1.heap.objs.size := by simpa using hb
  subst e
  exact I1.fpOk (Nat.le_refl _) (I1.hok.fresh (Nat.le_refl _))
/-- a range object just made, walked -/
theorem range_it {pins : List (Addr × Obj)} {σ : St} {H : Hp} {s : Shared} {R : It → Hp → Prop} {E : Value → Shared → Prop} {lo hi : Int} {t u v : Tok} {tk : Nat} (I : Inv X pins σ H s) (h1 : -(2 ^ 62) ≤ lo) (h2 : lo < 2 ^ 62) (h3 : -(2 ^ 62) ≤ hi) (h4 : hi < 2 ^ 62)
    (q : R (Itr lo (hi - lo).toNat) H) : wpAny (model X.prog X.w) X.A (pyIter (.ref s.heap.objs.size)) (PIE X pins σ tg R) E { s with heap := s.heap.push { cls := .type "range", data := .fields #[.int lo t, .int hi u, .int 1 v] }, toks := tk } := by
  refine wpAny_pyIter_range (IsRange.new ..) (small_one h1 h2 h3 h4) ?_
  have I1 : Inv X pins σ H { s with heap := s.heap.push { cls := .type "range", data := .fields #[.int lo t, .int hi u, .int 1 v] }, toks := tk } := I.kept fun b o e => Heap.get?_push_of_some _ e
  refine ⟨(s.heap.push { cls := .type "range", data := .fields #[.int lo t, .int hi u, .int 1 v] }).objs.size, [(s.heap.push { cls := .type "range", data := .fields #[.int lo t, .int hi u, .int 1 v] }).objs.size], _, _, H, rfl,
    I1.kept (t' := tk) fun b o e => Heap.get?_push_of_some _ e, turn_range _ lo (hi - lo).toNat, ?_, fun b hb => ?_, q⟩
  · have e1 : lo + ((0 : Nat) : Int) * 1 = lo := by simp
    have e2 : (((hi - lo).toNat : Nat) : Int) - ((0 : Nat) : Int) = Builtin.Range.rangeSize lo hi 1 := by rw [rangeSize_one]; split <;> omega
    show IsRangeIter _ _ (lo + ((0 : Nat) : Int) * 1) ((((hi - lo).toNat : Nat) : Int) - ((0 : Nat) : Int)) 1
    rw [e1, e2]
    exact Heap.get?_push_size _ rfl
  · have e : b = (s.heap.push { cls := .type "range", data := .fields #[.int lo t, .int hi u, .int 1 v] }).objs.size := by simpa using hb
    subst e
    exact I1.fpOk (Nat.le_refl _) (I1.hok.fresh (Nat.le_refl _))
def iRng1 (ta : TA) : TI := fun σ H R => ta σ H fun vs H1 => ∃ j : Int, vs = [.int j] ∧ -(2 ^ 62) ≤ j ∧ j < 2 ^ 62 ∧ R (Itr 0 j.toNat) H1
def iRng2 (ta : TA) : TI := fun σ H R => ta σ H fun vs H1 => ∃ i j : Int, vs = [.int i, .int j] ∧ (-(2 ^ 62) ≤ i ∧ i < 2 ^ 62 ∧ -(2 ^ 62) ≤ j ∧ j < 2 ^ 62) ∧ R (Itr i (j - i).toNat) H1
theorem pi_range1 {a : Expr} {ta : TA} {p pos : Pos} (hg : Gl X "range") (hm : X.mg "range" = none) (ha : PA X [a] ta) (hs : starEach [a] X.env = [(false, eval a X.env)] := by rfl) : PI X tg (.Call (.Name "range" p) [a] [] pos) (iRng1 ta) := by
  intro pins s σ H R I h
  refine Call_ (ld_blt I hg hm boot_range (PyProof.Rows.callWith_type1 (thn (ha pos pins s σ H _ I h) fun us s1 ⟨vs, H1, I1, r1, q1⟩ => ?_) hs rfl))
  obtain ⟨j, e, q1, q2, q⟩ := q1
  subst e
  cases r1 with
  | cons r rr =>
    cases rr
    obtain ⟨t, rfl⟩ := r
    exact call_range_1 (range_it I1 (by omega) (by omega) q1 q2 (by simpa using q))
theorem pi_range2 {a b : Expr} {ta : TA} {p pos : Pos} (hg : Gl X "range") (hm : X.mg "range" = none) (ha : PA X [a, b] ta) (hs : starEach [a, b] X.env = [(false, eval a X.env), (false, eval b X.env)] := by rfl) (hs2 : starEach [b] X.env = [(false, eval b X.env)] := by rfl) :
    PI X tg (.Call (.Name "range" p) [a, b] [] pos) (iRng2 ta) := by
  intro pins s σ H R I h
  refine Call_ (ld_blt I hg hm boot_range (PyProof.Rows.callWith_type1 (thn (ha pos pins s σ H _ I h) fun us s1 ⟨vs, H1, I1, r1, q1⟩ => ?_) (by rw [hs, hs2]) (by rw [hs2]; rfl)))
  obtain ⟨i, j, e, ⟨q1, q2, q3, q4⟩, q⟩ := q1
  subst e
  cases r1 with
  | cons r rr =>
    cases rr with
    | cons r' rr =>
      cases rr
      obtain ⟨t, rfl⟩ := r
      obtain ⟨t', rfl⟩ := r'
      exact call_range_2 (range_it I1 q1 q2 q3 q4 q)

/-! ### for -/
/-- W: the invariant by the turn and a measure; N: what the body is to reach -/
def tFor (wi : TI) (g : TG) (tb : TS) : TS := fun D σ H => wi σ H fun J H1 => ∃ W : Nat → Nat → St → Hp → Prop, (∃ m, W 0 m σ H1) ∧ ∀ i m σ H, W i m σ H →
  (J.stop i H ∧ D.nx σ H) ∨ (J.go i H ∧ ∃ N : St → Hp → Prop, (∀ σ' H', N σ' H' → ∃ m', m' < m ∧ W (i + 1) m' σ' H') ∧ ∀ x H', J.yld i H x H' → g x σ H' fun σ2 H2 => tb { D with nx := N, ct := N, bk := D.nx } σ2 H2)
/-- the records at fp as they stand -/
def pinsAt (fp : List Addr) (h : Heap) : List (Addr × Obj) := fp.filterMap fun b => (h.get? b).map fun o => (b, o)
theorem mem_pinsAt {fp : List Addr} {h : Heap} {b : Addr} {o : Obj} (hb : b ∈ fp) (e : h.get? b = some o) : (b, o) ∈ pinsAt fp h := List.mem_filterMap.mpr ⟨b, hb, by rw [e]; rfl⟩
theorem of_pinsAt {fp : List Addr} {h : Heap} {p : Addr × Obj} (hp : p ∈ pinsAt fp h) : p.1 ∈ fp ∧ h.get? p.1 = some p.2 := by
  obtain ⟨b, hb, e⟩ := List.mem_filterMap.mp hp
  cases q : h.get? b with
  | none => rw [q] at e; cases e
  | some o =>
    rw [q] at e
    have e' : (b, o) = p := Option.some.inj e
    subst e'
    exact ⟨hb, q⟩
theorem Inv.pinned {pins : List (Addr × Obj)} {σ : St} {H : Hp} {s : Shared} {fp : List Addr} (I : Inv X pins σ H s) (hf : ∀ b ∈ fp, FpOk X pins H b) (ho : ∀ b ∈ fp, ∃ o, s.heap.get? b = some o ∧ ∀ v, o.data ≠ .cell v) : Inv X (pins ++ pinsAt fp s.heap) σ H s :=
  I.pins_of fun p hp => (List.mem_append.mp hp).elim (fun z => I.pin p (List.mem_append_right _ z)) fun z => by
    obtain ⟨hb, e⟩ := of_pinsAt z
    obtain ⟨f0, f1, f2, _⟩ := hf p.1 hb
    obtain ⟨o, e', d⟩ := ho p.1 hb
    rw [e] at e'; cases e'
    exact ⟨e, f0, f1, f2, d⟩
theorem Inv.unpinned {pins pl : List (Addr × Obj)} {σ : St} {H : Hp} {s : Shared} (I : Inv X (pins ++ pl) σ H s) : Inv X pins σ H s := I.pins_of fun p hp => I.pin p (List.mem_append_right _ (List.mem_append_left _ hp))
theorem ps_for {iter : Expr} {body : List Stmt} {wi : TI} {g : TG} {tb : TS} {pos : Pos} (hp : PassesOwn (model X.prog X.w) X.A X.env X.xe) (hc : X.calm = true) (hi : PI X tg iter wi) (hg : PG X tg g) (hb : PSs X body tb)
    (hs : ∀ x, foldedSetIterable iter X.env x = pure x := by intro _; rfl) : PS X (.For tg iter body [] pos) (tFor wi g tb) := by
  intro pins s σ H D I h
  refine wpAny_For (thn (hi pins s σ H _ I h) fun v s1 h1 => thn h1 fun itv s2 h2 => ?_) hs
  obtain ⟨it, fp, tn, J, H2, e, I2, T, st2, f2, W, ⟨m0, w0⟩, turn⟩ := h2
  subst e
  -- what stays true of the iterator's objects through the loop
  have stat : ∀ {H' : Hp}, (∀ b ∈ fp, H' b = none) → ∀ b ∈ fp, FpOk X pins H' b := fun hn b hb => ⟨hn b hb, (f2 b hb).2⟩
  refine codeAny_forLoop_any (fun n s' => ∃ i σ' H', Inv X pins σ' H' s' ∧ tn i s'.heap ∧ (∀ b ∈ fp, H' b = none) ∧ W i n σ' H') ?_ m0 ⟨0, σ, H2, I2, st2, fun b hb => (f2 b hb).1, w0⟩
  rintro n s3 ⟨i, σ3, H3, I3, st3, fr3, w3⟩
  rcases turn i n σ3 H3 w3 with ⟨stop, qn⟩ | ⟨go, N, hN, step⟩
  · refine wpAny_passesOwn hp (thn (T.done X rfl rfl rfl hc i pins s3 σ3 H3 X.xe I3 (stat fr3) st3 stop) fun r s4 ⟨hr, I4⟩ => ?_)
    subst hr
    exact wpAny_execs_nil ⟨σ3, H3, I4, qn⟩
  · refine wpAny_passesOwn hp (thn (T.item X rfl rfl rfl hc i pins s3 σ3 H3 X.xe I3 (stat fr3) st3 go) fun r s4 ⟨u, hr, h4⟩ => ?_)
    subst hr
    refine wpAny_passesOwn hp (thn h4 fun _ s5 ⟨x, H5, I5, r5, y5, st5, fr5⟩ => ?_)
    have I5' := I5.pinned (stat fr5) (T.obj _ _ st5)
    refine wpAny_passesOwn hp (thn (hg _ s5 σ3 H5 x u _ I5' r5 (step x H5 y5)) fun _ s6 ⟨σ6, H6, I6, q6⟩ => ?_)
    refine wpAny_passesOwn hp (thn (hb _ s6 σ6 H6 _ I6 q6) fun f s7 q7 => ?_)
    have again : ∀ {σ7 : St} {H7 : Hp}, Inv X (pins ++ pinsAt fp s5.heap) σ7 H7 s7 → N σ7 H7 → ∃ m, m < n ∧ ∃ i σ' H', Inv X pins σ' H' s7 ∧ tn i s7.heap ∧ (∀ b ∈ fp, H' b = none) ∧ W i m σ' H' := fun {σ7 H7} I7 n7 => by
      obtain ⟨m', hm, w7⟩ := hN σ7 H7 n7
      refine ⟨m', hm, i + 1, σ7, H7, I7.unpinned, T.keep _ _ _ st5 fun b hb o e => (I7.pin (b, o) (List.mem_append_right _ (List.mem_append_right _ (mem_pinsAt hb e)))).1, fun b hb => ?_, w7⟩
      obtain ⟨o, e, d⟩ := T.obj _ _ st5 b hb
      exact (I7.pin (b, o) (List.mem_append_right _ (List.mem_append_right _ (mem_pinsAt hb e)))).2.1
    cases f with
    | next => obtain ⟨σ7, H7, I7, n7⟩ := q7; exact again I7 n7
    | cont => obtain ⟨σ7, H7, I7, n7⟩ := q7; exact again I7 n7
    | brk => obtain ⟨σ7, H7, I7, q7⟩ := q7; exact ⟨σ7, H7, I7.unpinned, q7⟩
    | ret v => obtain ⟨x7, σ7, H7, I7, r7, q7⟩ := q7; exact ⟨x7, σ7, H7, I7.unpinned, r7, q7⟩
end

/-! ### the forms one uses -/
/-- over a list that the body leaves as it is -/
theorem for_list {K : PySem.W.Frag} {a : Addr} {xs : List V} {g : TG} {tb : TS} {D : Ends} {σ : St} {H : Hp} (Pv : Nat → St → Hp → Prop) (h0 : Pv 0 σ H) (hl : ∀ i σ H, i ≤ xs.length → Pv i σ H → SqL K H a xs)
    (hs : ∀ i x σ H, xs[i]? = some x → Pv i σ H → g x σ H fun σ2 H2 => tb { D with nx := Pv (i + 1), ct := Pv (i + 1), bk := D.nx } σ2 H2) (hd : ∀ σ H, Pv xs.length σ H → D.nx σ H) :
    ∃ W : Nat → Nat → St → Hp → Prop, (∃ m, W 0 m σ H) ∧ ∀ i m σ H, W i m σ H →
      ((Itl K a).stop i H ∧ D.nx σ H) ∨ ((Itl K a).go i H ∧ ∃ N : St → Hp → Prop, (∀ σ' H', N σ' H' → ∃ m', m' < m ∧ W (i + 1) m' σ' H') ∧ ∀ x H', (Itl K a).yld i H x H' → g x σ H' fun σ2 H2 => tb { D with nx := N, ct := N, bk := D.nx } σ2 H2) := by
  refine ⟨fun i m σ H => m = xs.length - i ∧ i ≤ xs.length ∧ Pv i σ H, ⟨xs.length, by simp, Nat.zero_le _, h0⟩, ?_⟩
  rintro i m σ H ⟨rfl, hi, p⟩
  have q := hl i σ H hi p
  by_cases hlt : i < xs.length
  · refine .inr ⟨⟨xs, xs[i], q, by simp [hlt]⟩, Pv (i + 1), fun σ' H' p' => ⟨xs.length - (i + 1), by omega, rfl, hlt, p'⟩, fun x H' y => ?_⟩
    obtain ⟨e, y⟩ := y
    subst e
    exact hs i x σ _ (y xs q) p
  · have e : i = xs.length := by omega
    subst e
    exact .inl ⟨⟨xs, q, Nat.le_refl _⟩, hd σ H p⟩
theorem for_range {lo : Int} {n : Nat} {g : TG} {tb : TS} {D : Ends} {σ : St} {H : Hp} (Pv : Nat → St → Hp → Prop) (h0 : Pv 0 σ H)
    (hs : ∀ i σ H, i < n → Pv i σ H → g (.int (lo + i)) σ H fun σ2 H2 => tb { D with nx := Pv (i + 1), ct := Pv (i + 1), bk := D.nx } σ2 H2) (hd : ∀ σ H, Pv n σ H → D.nx σ H) :
    ∃ W : Nat → Nat → St → Hp → Prop, (∃ m, W 0 m σ H) ∧ ∀ i m σ H, W i m σ H →
      ((Itr lo n).stop i H ∧ D.nx σ H) ∨ ((Itr lo n).go i H ∧ ∃ N : St → Hp → Prop, (∀ σ' H', N σ' H' → ∃ m', m' < m ∧ W (i + 1) m' σ' H') ∧ ∀ x H', (Itr lo n).yld i H x H' → g x σ H' fun σ2 H2 => tb { D with nx := N, ct := N, bk := D.nx } σ2 H2) := by
  refine ⟨fun i m σ H => m = n - i ∧ i ≤ n ∧ Pv i σ H, ⟨n, by simp, Nat.zero_le _, h0⟩, ?_⟩
  rintro i m σ H ⟨rfl, hi, p⟩
  by_cases hlt : i < n
  · refine .inr ⟨hlt, Pv (i + 1), fun σ' H' p' => ⟨n - (i + 1), by omega, rfl, hlt, p'⟩, fun x H' y => ?_⟩
    obtain ⟨e, y⟩ := y
    subst e y
    exact hs i σ _ hlt p
  · have e : i = n := by omega
    subst e
    exact .inl ⟨Nat.le_refl _, hd σ H p⟩
end L2

namespace L2
open PySem PySem.Spec PyProof.Rows

abbrev R2 := V → V → Hp → VK → Prop
/-- a two-place operation on values: f is binaryOp op, inplaceOp op or compareOp op -/
def OpR (X : Cx) (f : Value → Value → Sem Value) (r : R2) : Prop :=
  ∀ (pins : List (Addr × Obj)) (s : Shared) (σ : St) (H : Hp) (x y : V) (v u : Value) (Q : VK), Inv X pins σ H s → RelV x v → RelV y u → r x y H Q →
    wpAny (model X.prog X.w) X.A (f v u) (EP X pins σ Q) X.xe s
/-- a one-place operation -/
def UnR (X : Cx) (f : Value → Sem Value) (r : V → Hp → VK → Prop) : Prop :=
  ∀ (pins : List (Addr × Obj)) (s : Shared) (σ : St) (H : Hp) (x : V) (v : Value) (Q : VK), Inv X pins σ H s → RelV x v → r x H Q →
    wpAny (model X.prog X.w) X.A (f v) (EP X pins σ Q) X.xe s
/-- a call of a value that is known (a builtin, a type) with values -/
def CallR (X : Cx) (f : Value) (r : List V → Hp → VK → Prop) : Prop :=
  ∀ (pins : List (Addr × Obj)) (s : Shared) (σ : St) (H : Hp) (xs : List V) (us : List Value) (Q : VK), Inv X pins σ H s → Vals xs us → r xs H Q →
    wpAny (model X.prog X.w) X.A (call f us) (EP X pins σ Q) X.xe s
/-- a value's truth -/
def TruR (X : Cx) (r : V → Hp → (Bool → Hp → Prop) → Prop) : Prop :=
  ∀ (pins : List (Addr × Obj)) (s : Shared) (σ : St) (H : Hp) (x : V) (v : Value) (Q : Bool → Hp → Prop), Inv X pins σ H s → RelV x v → r x H Q →
    wpAny (model X.prog X.w) X.A (truthy v) (TP X pins σ Q) X.xe s

def tOp (r : R2) (ta tb : TE) : TE := fun σ H Q => ta σ H fun x H1 => tb σ H1 fun y H2 => r x y H2 Q
def tUn (r : V → Hp → VK → Prop) (ta : TE) : TE := fun σ H Q => ta σ H fun x H1 => r x H1 Q
/-- ints in, under C, and a value out -/
def rI (C : Int → Int → Prop) (g : Int → Int → V) : R2 := fun x y H Q => ∃ i j, x = .int i ∧ y = .int j ∧ C i j ∧ Q (g i j) H
def rI0 (g : Int → Int → V) : R2 := fun x y H Q => ∃ i j, x = .int i ∧ y = .int j ∧ Q (g i j) H
def rU (g : Int → V) : V → Hp → VK → Prop := fun x H Q => ∃ i, x = .int i ∧ Q (g i) H

section
variable {X : Cx} {a b c : Expr} {ta tb tc : TE} {pos : Pos}

theorem binT (ha : PE X a ta) (hb : PE X b tb) {pins : List (Addr × Obj)} {s : Shared} {σ : St} {H : Hp} {R : V → V → Hp → Prop} (I : Inv X pins σ H s)
    (h : ta σ H fun x H1 => tb σ H1 fun y H2 => R x y H2) {Q : Value → Shared → Prop} {f : Value → Value → Sem Value}
    (hf : ∀ v u s2 x y H2, Inv X pins σ H2 s2 → RelV x v → RelV y u → R x y H2 → wpAny (model X.prog X.w) X.A (f v u) Q X.xe s2) :
    wpAny (model X.prog X.w) X.A (eval a X.env) (fun v s₁ => wpAny (model X.prog X.w) X.A (eval b X.env) (fun u s₂ => wpAny (model X.prog X.w) X.A (f v u) Q X.xe s₂) X.xe s₁) X.xe s := by
  refine thn (ha pins s σ H _ I h) fun v s1 ⟨x, H1, I1, r1, q1⟩ => ?_
  refine thn (hb pins s1 σ H1 _ I1 q1) fun u s2 ⟨y, H2, I2, r2, q2⟩ => ?_
  exact hf v u s2 x y H2 I2 r1 r2 q2

theorem pe_op {op : Operator} {r : R2} (ho : OpR X (binaryOp op) r) (ha : PE X a ta) (hb : PE X b tb) : PE X (.BinOp a op b pos) (tOp r ta tb) := by
  intro pins s σ H Q I h
  exact wpAny_BinOp (binT ha hb I h fun v u s2 x y H2 I2 rx ry q => ho pins s2 σ H2 x y v u Q I2 rx ry q)
theorem pe_un {op : UnaryOp} {r : V → Hp → VK → Prop} (ho : UnR X (unaryOp op) r) (ha : PE X a ta) : PE X (.UnaryOp op a pos) (tUn r ta) := by
  intro pins s σ H Q I h
  exact UnaryOp_ (thn (ha pins s σ H _ I h) fun v s1 ⟨x, H1, I1, r1, q1⟩ => ho pins s1 σ H1 x v Q I1 r1 q1)
/-! ### ints -/
theorem opI {f : Value → Value → Sem Value} {C : Int → Int → Prop} {g : Int → Int → Int}
    (rule : ∀ (i j : Int) (t u : Tok) (s : Shared) (Q : Value → Shared → Prop) (E : Value → Shared → Prop), C i j → Q (.int (g i j) s.toks) { s with toks := s.toks + 1 } → wpAny (model X.prog X.w) X.A (f (.int i t) (.int j u)) Q E s) :
    OpR X f (rI C fun i j => .int (g i j)) := by
  intro pins s σ H x y v u Q I rx ry h
  obtain ⟨i, j, rfl, rfl, hc, q⟩ := h
  obtain ⟨t, rfl⟩ := rx
  obtain ⟨t', rfl⟩ := ry
  exact rule i j t t' s _ _ hc ⟨.int (g i j), H, I.tok _, ⟨_, rfl⟩, q⟩
theorem opI0 {f : Value → Value → Sem Value} {g : Int → Int → Int}
    (rule : ∀ (i j : Int) (t u : Tok) (s : Shared) (Q : Value → Shared → Prop) (E : Value → Shared → Prop), Q (.int (g i j) s.toks) { s with toks := s.toks + 1 } → wpAny (model X.prog X.w) X.A (f (.int i t) (.int j u)) Q E s) :
    OpR X f (rI0 fun i j => .int (g i j)) := by
  intro pins s σ H x y v u Q I rx ry h
  obtain ⟨i, j, rfl, rfl, q⟩ := h
  obtain ⟨t, rfl⟩ := rx
  obtain ⟨t', rfl⟩ := ry
  exact rule i j t t' s _ _ ⟨.int (g i j), H, I.tok _, ⟨_, rfl⟩, q⟩
theorem opB0 {f : Value → Value → Sem Value} {g : Int → Int → Bool}
    (rule : ∀ (i j : Int) (t u : Tok) (s : Shared) (Q : Value → Shared → Prop) (E : Value → Shared → Prop), Q (.bool (g i j)) s → wpAny (model X.prog X.w) X.A (f (.int i t) (.int j u)) Q E s) :
    OpR X f (rI0 fun i j => .bl (g i j)) := by
  intro pins s σ H x y v u Q I rx ry h
  obtain ⟨i, j, rfl, rfl, q⟩ := h
  obtain ⟨t, rfl⟩ := rx
  obtain ⟨t', rfl⟩ := ry
  exact rule i j t t' s _ _ ⟨.bl (g i j), H, I, rfl, q⟩

def CDiv (i j : Int) : Prop := 0 < j ∧ j < 1073741824
def CDivN (i j : Int) : Prop := j ≠ 0 ∧ j.natAbs < 1073741824
def CPow (i j : Int) : Prop := 0 ≤ j ∧ j ≤ 1000000 ∧ i.natAbs < 2 ^ 64
def CMul (i j : Int) : Prop := (-(2 ^ 64) < i ∧ i < 2 ^ 64) ∨ (-(2 ^ 64) < j ∧ j < 2 ^ 64)
theorem CMul.ok {i j : Int} (h : CMul i j) : IntMulOk i j := by
  rcases h with ⟨h1, h2⟩ | ⟨h1, h2⟩
  · exact .of_left (intBits_le_64 h1 h2)
  · exact .of_right (intBits_le_64 h1 h2)
theorem two_pow_nn (k : Nat) : (0 : Int) ≤ 2 ^ k := by
  rw [two_pow_cast]
  exact Int.natCast_nonneg _

theorem op_add : OpR X (binaryOp .Add) (rI0 fun i j => .int (i + j)) := opI0 fun _ _ _ _ _ _ _ q => add_int q
theorem op_sub : OpR X (binaryOp .Sub) (rI0 fun i j => .int (i - j)) := opI0 fun _ _ _ _ _ _ _ q => sub_int q
theorem op_mul : OpR X (binaryOp .Mult) (rI CMul fun i j => .int (i * j)) := opI fun _ _ _ _ _ _ _ hc q => mul_int q hc.ok
/-- // by a positive divisor -/
theorem op_fdiv : OpR X (binaryOp .FloorDiv) (rI CDiv fun i j => .int (i / j)) := opI fun i j _ _ _ _ _ hc q => by
  have h1 : (0 : Int) < j := hc.1
  have h2 : j < 1073741824 := hc.2
  exact floordiv_int (by omega) (by rw [Int.fdiv_eq_ediv_of_nonneg i (by omega)]; exact q) (.inl (PyProof.noPylong_small (by omega)))
/-- % by a positive divisor of any size -/
theorem op_mod : OpR X (binaryOp .Mod) (rI (fun _ j => 0 < j) fun i j => .int (i % j)) := opI fun i j _ _ _ _ _ hc q => by
  have h1 : (0 : Int) < j := hc
  exact mod_int' (by omega) (by rw [Int.fmod_eq_emod_of_nonneg i (by omega)]; exact q)
theorem op_pow : OpR X (binaryOp .Pow) (rI CPow fun i j => .int (i ^ j.toNat)) := opI fun _ _ _ _ _ _ _ hc q => pow_int_small hc.1 hc.2.1 hc.2.2 q
theorem op_shl : OpR X (binaryOp .LShift) (rI CPow fun i j => .int (i * 2 ^ j.toNat)) := opI fun _ _ _ _ _ _ _ hc q => lshift_int_small hc.1 hc.2.1 hc.2.2 q
theorem op_shr : OpR X (binaryOp .RShift) (rI (fun _ j => 0 ≤ j) fun i j => .int (i / 2 ^ j.toNat)) := opI fun i j _ _ _ _ _ hc q =>
  rshift_int hc (by rw [Int.fdiv_eq_ediv_of_nonneg i (two_pow_nn _)]; exact q)
theorem op_and : OpR X (binaryOp .BitAnd) (rI0 fun i j => .int (Builtin.bitAnd i j)) := opI0 fun _ _ _ _ _ _ _ q => and_int q
theorem op_or : OpR X (binaryOp .BitOr) (rI0 fun i j => .int (Builtin.bitOr i j)) := opI0 fun _ _ _ _ _ _ _ q => or_int q
theorem unI {f : Value → Sem Value} {g : Int → Int}
    (rule : ∀ (i : Int) (t : Tok) (s : Shared) (Q : Value → Shared → Prop) (E : Value → Shared → Prop), Q (.int (g i) s.toks) { s with toks := s.toks + 1 } → wpAny (model X.prog X.w) X.A (f (.int i t)) Q E s) :
    UnR X f (rU fun i => .int (g i)) := by
  intro pins s σ H x v Q I rx h
  obtain ⟨i, rfl, q⟩ := h
  obtain ⟨t, rfl⟩ := rx
  exact rule i t s _ _ ⟨.int (g i), H, I.tok _, ⟨_, rfl⟩, q⟩
theorem un_neg : UnR X (unaryOp .USub) (rU fun i => .int (-i)) := unI fun _ _ _ _ _ q => neg_int q
/-! ### bools among ints: n += (a < b) -/
end

/-! ### comparisons -/
/-- the scalars that == tells apart as data does -/
def scal : V → V → Bool
  | .non, .non => true | .non, .int _ => true | .int _, .non => true | .non, .bl _ => true | .bl _, .non => true | .non, .str _ => true | .str _, .non => true
  | .int _, .int _ => true | .bl _, .bl _ => true | .str _, .str _ => true | .byt _, .byt _ => true
  | .int _, .str _ => true | .str _, .int _ => true | .bl _, .str _ => true | .str _, .bl _ => true
  | _, _ => false
def rEq : R2 := fun x y H Q => scal x y = true ∧ Q (.bl (decide (x = y))) H
def rNe : R2 := fun x y H Q => scal x y = true ∧ Q (.bl (!decide (x = y))) H

theorem dec_int {i j : Int} : decide (V.int i = V.int j) = (i == j) := by
  rw [Bool.eq_iff_iff]
  simp
theorem dec_bl {i j : Bool} : decide (V.bl i = V.bl j) = (i == j) := by
  rw [Bool.eq_iff_iff]
  simp
theorem dec_str {i j : Str} : decide (V.str i = V.str j) = (i == j) := by
  rw [Bool.eq_iff_iff]
  simp
theorem dec_byt {i j : Array UInt8} : decide (V.byt i = V.byt j) = (i.toList == j.toList) := by
  rw [Bool.eq_iff_iff]
  cases i
  cases j
  simp

section
variable {X : Cx} {a b c : Expr} {ta tb tc : TE} {pos : Pos}
theorem fin_bl {pins : List (Addr × Obj)} {σ : St} {H : Hp} {s : Shared} {Q : VK} {k k' : Bool} (I : Inv X pins σ H s) (q : Q (.bl k) H) (e : k = k') : EP X pins σ Q (.bool k') s := by
  subst e
  exact ⟨.bl k, H, I, rfl, q⟩
theorem op_eq : OpR X (compareOp .Eq) rEq := by
  intro pins s σ H x y v u Q I rx ry h
  obtain ⟨hs, q⟩ := h
  cases x with
  | non =>
    cases rx
    cases y with
    | non => cases ry; exact PySem.EqNone.eq_none_none (fin_bl I q (by simp))
    | bl j => cases ry; exact PySem.EqNone.eq_none_bool (fin_bl I q (by simp))
    | int j => obtain ⟨t', rfl⟩ := ry; exact PySem.EqNone.eq_none_int (fin_bl I q (by simp))
    | str j => obtain ⟨t', rfl⟩ := ry; exact PySem.EqNone.eq_none_str (fin_bl I q (by simp))
    | _ => exact absurd (show false = true from hs) Bool.false_ne_true
  | bl i =>
    cases rx
    cases y with
    | non => cases ry; exact PySem.EqNone.eq_bool_none (fin_bl I q (by simp))
    | bl j => cases ry; exact eq_bool (fin_bl I q dec_bl)
    | str j => obtain ⟨t', rfl⟩ := ry; exact PySem.EqMixed.eq_bool_str (fin_bl I q (by simp))
    | _ => exact absurd (show false = true from hs) Bool.false_ne_true
  | int i =>
    obtain ⟨t, rfl⟩ := rx
    cases y with
    | non => cases ry; exact PySem.EqNone.eq_int_none (fin_bl I q (by simp))
    | int j => obtain ⟨t', rfl⟩ := ry; exact eq_int (fin_bl I q dec_int)
    | str j => obtain ⟨t', rfl⟩ := ry; exact PySem.EqMixed.eq_int_str (fin_bl I q (by simp))
    | _ => exact absurd (show false = true from hs) Bool.false_ne_true
  | str i =>
    obtain ⟨t, rfl⟩ := rx
    cases y with
    | non => cases ry; exact PySem.EqNone.eq_str_none (fin_bl I q (by simp))
    | bl j => cases ry; exact PySem.EqMixed.eq_str_bool (fin_bl I q (by simp))
    | int j => obtain ⟨t', rfl⟩ := ry; exact PySem.EqMixed.eq_str_int (fin_bl I q (by simp))
    | str j => obtain ⟨t', rfl⟩ := ry; exact eq_str (fin_bl I q dec_str)
    | _ => exact absurd (show false = true from hs) Bool.false_ne_true
  | byt i =>
    obtain ⟨t, rfl⟩ := rx
    cases y with
    | byt j => obtain ⟨t', rfl⟩ := ry; exact PySem.W.eq_bytes (fin_bl I q dec_byt)
    | _ => exact absurd (show false = true from hs) Bool.false_ne_true
  | _ => cases y <;> exact absurd (show false = true from hs) Bool.false_ne_true
theorem op_ne : OpR X (compareOp .NotEq) rNe := by
  intro pins s σ H x y v u Q I rx ry h
  obtain ⟨hs, q⟩ := h
  cases x with
  | non =>
    cases rx
    cases y with
    | non => cases ry; exact PySem.EqNone.ne_none_none (fin_bl I q (by simp))
    | bl j => cases ry; exact PySem.EqNone.ne_none_bool (fin_bl I q (by simp))
    | int j => obtain ⟨t', rfl⟩ := ry; exact PySem.EqNone.ne_none_int (fin_bl I q (by simp))
    | str j => obtain ⟨t', rfl⟩ := ry; exact PySem.EqNone.ne_none_str (fin_bl I q (by simp))
    | _ => exact absurd (show false = true from hs) Bool.false_ne_true
  | bl i =>
    cases rx
    cases y with
    | non => cases ry; exact PySem.EqNone.ne_bool_none (fin_bl I q (by simp))
    | bl j => cases ry; exact ne_bool (fin_bl I q (congrArg not dec_bl))
    | str j => obtain ⟨t', rfl⟩ := ry; exact PySem.EqMixed.ne_bool_str (fin_bl I q (by simp))
    | _ => exact absurd (show false = true from hs) Bool.false_ne_true
  | int i =>
    obtain ⟨t, rfl⟩ := rx
    cases y with
    | non => cases ry; exact PySem.EqNone.ne_int_none (fin_bl I q (by simp))
    | int j => obtain ⟨t', rfl⟩ := ry; exact ne_int (fin_bl I q (congrArg not dec_int))
    | str j => obtain ⟨t', rfl⟩ := ry; exact PySem.EqMixed.ne_int_str (fin_bl I q (by simp))
    | _ => exact absurd (show false = true from hs) Bool.false_ne_true
  | str i =>
    obtain ⟨t, rfl⟩ := rx
    cases y with
    | non => cases ry; exact PySem.EqNone.ne_str_none (fin_bl I q (by simp))
    | bl j => cases ry; exact PySem.EqMixed.ne_str_bool (fin_bl I q (by simp))
    | int j => obtain ⟨t', rfl⟩ := ry; exact PySem.EqMixed.ne_str_int (fin_bl I q (by simp))
    | str j => obtain ⟨t', rfl⟩ := ry; exact ne_str (fin_bl I q (congrArg not dec_str))
    | _ => exact absurd (show false = true from hs) Bool.false_ne_true
  | byt i =>
    obtain ⟨t, rfl⟩ := rx
    cases y with
    | byt j => obtain ⟨t', rfl⟩ := ry; exact PySem.W.ne_bytes (fin_bl I q (congrArg not dec_byt))
    | _ => exact absurd (show false = true from hs) Bool.false_ne_true
  | _ => cases y <;> exact absurd (show false = true from hs) Bool.false_ne_true

theorem op_lt : OpR X (compareOp .Lt) (rI0 fun i j => .bl (decide (i < j))) := opB0 fun _ _ _ _ _ _ _ q => lt_int q
theorem op_le : OpR X (compareOp .LtE) (rI0 fun i j => .bl (decide (i ≤ j))) := opB0 fun _ _ _ _ _ _ _ q => le_int q
theorem op_gt : OpR X (compareOp .Gt) (rI0 fun i j => .bl (decide (j < i))) := opB0 fun _ _ _ _ _ _ _ q => gt_int q
theorem op_ge : OpR X (compareOp .GtE) (rI0 fun i j => .bl (decide (j ≤ i))) := opB0 fun _ _ _ _ _ _ _ q => ge_int q
/-- is, is not of two objects that are tracked lists or instances -/
def isObj : HO → Bool
  | .lst _ => true
  | .ins _ _ _ => true
  | _ => false
theorem nomark (b : Expr) {op : CmpOp} (h : op ≠ .In := by decide) (h2 : op ≠ .NotIn := by decide) : behindInMarks op b = false := by
  have e1 : (op == CmpOp.In) = false := by cases op <;> first | rfl | exact absurd rfl h
  have e2 : (op == CmpOp.NotIn) = false := by cases op <;> first | rfl | exact absurd rfl h2
  cases b <;> simp [behindInMarks, e1, e2]
/-- a comparison as a value; hm: nomark b, or (for in, not in) by with_unfolding_all rfl -/
theorem pe_cmpR {op : CmpOp} {r : R2} (ho : OpR X (compareOp op) r) (ha : PE X a ta) (hb : PE X b tb) (hm : behindInMarks op b = false) : PE X (.Compare a [op] [b] pos) (tOp r ta tb) := by
  intro pins s σ H Q I h
  exact wpAny_Compare1 (binT ha hb I h fun v u s2 x y H2 I2 rx ry q => ho pins s2 σ H2 x y v u Q I2 rx ry q) hm
/-- a reading of a value as a test -/
def tTest (t : TE) : TT := fun σ H Q => t σ H fun x H' => ∃ k, x = .bl k ∧ Q k H'
theorem pt_cmpR {op : CmpOp} {r : R2} (ho : OpR X (compareOp op) r) (ha : PE X a ta) (hb : PE X b tb) (hm : behindInMarks op b = false) : PT X (.Compare a [op] [b] pos) (tTest (tOp r ta tb)) := by
  intro pins s σ H Q I h
  refine wpAny_isTrue_Compare1 (thn (ha pins s σ H _ I h) fun v s1 ⟨x, H1, I1, r1, q1⟩ => thn (hb pins s1 σ H1 _ I1 q1) fun u s2 ⟨y, H2, I2, r2, q2⟩ =>
    thn (ho pins s2 σ H2 x y v u _ I2 r1 r2 q2) fun c s3 ⟨z, H3, I3, r3, k, e, q3⟩ => ?_) hm
  subst e
  cases r3
  exact wpAny_truthy_bool ⟨H3, I3, q3⟩
/-- a op1 b op2 c -/
def tChain (r r' : R2) (ta tb tc : TE) : TE := fun σ H Q => ta σ H fun x H1 => tb σ H1 fun y H2 => r x y H2 fun z H3 => ∃ k, z = .bl k ∧
  (if k = true then tc σ H3 fun w' H4 => r' y w' H4 Q else Q (.bl false) H3)
theorem pe_chain {op op' : CmpOp} {r r' : R2} (ho : OpR X (compareOp op) r) (ho' : OpR X (compareOp op') r') (ha : PE X a ta) (hb : PE X b tb) (hc : PE X c tc)
    (hm : lastMarks [op, op'] [b, c] = false := by with_unfolding_all rfl) : PE X (.Compare a [op, op'] [b, c] pos) (tChain r r' ta tb tc) := by
  intro pins s σ H Q I h
  refine Compare_chain (thn (ha pins s σ H _ I h) fun v s1 ⟨x, H1, I1, r1, q1⟩ => chain_link (thn (hb pins s1 σ H1 _ I1 q1) fun u s2 ⟨y, H2, I2, r2, q2⟩ =>
    thn (ho pins s2 σ H2 x y v u _ I2 r1 r2 q2) fun d s3 ⟨z, H3, I3, r3, k, e, q3⟩ => ?_)) hm
  subst e
  cases r3
  refine wpAny_truthy_bool ?_
  cases k with
  | false => exact ite_ff ⟨.bl false, H3, I3, rfl, q3⟩
  | true => exact ite_tt (chain_last (thn (hc pins s3 σ H3 _ I3 q3) fun w' s4 ⟨z', H4, I4, r4, q4⟩ => ho' pins s4 σ H4 y z' u w' Q I4 r2 r4 q4))
/-! ### truth -/
/-- a value's truth by the abstract heap -/
def TruV (K : PySem.W.Frag) (x : V) (H : Hp) (k : Bool) : Prop :=
  match x with
  | .non => k = false
  | .bl b => k = b
  | .int i => k = (i != 0)
  | .str y => y.length ≤ sizeLine ∧ k = ((y.length : Int) != 0)
  | .byt y => y.size ≤ sizeLine ∧ k = ((y.size : Int) != 0)
  | .ref p => (∃ xs, SqL K H p xs ∧ k = !xs.isEmpty) ∨ (∃ xs, SqT K H p xs ∧ k = !xs.isEmpty) ∨ ∃ kvs, H p = some (.dK kvs) ∧ k = !kvs.isEmpty
  | _ => False
theorem line63 : (sizeLine : Nat) < 2 ^ 63 := by rw [sizeLine_eq]; decide
/-! ### strs and bytes -/
def PlainIxT (b : Expr) : Prop := ∀ o i, subscripted b false o i = operate [o, i] (getItem o i)
/-! ### scalar builtins, by CallR -/
theorem vals1 {x : V} {us : List Value} (r : Vals [x] us) : ∃ u, us = [u] ∧ RelV x u := by
  cases r with
  | cons r1 r2 => cases r2; exact ⟨_, rfl, r1⟩
theorem vals2 {x y : V} {us : List Value} (r : Vals [x, y] us) : ∃ u w', us = [u, w'] ∧ RelV x u ∧ RelV y w' := by
  cases r with
  | cons r1 r2 =>
    cases r2 with
    | cons r3 r4 => cases r4; exact ⟨_, _, rfl, r1, r3⟩
theorem call_abs : CallR X (.builtin "abs") (fun xs H Q => ∃ i, xs = [.int i] ∧ Q (.int (if i < 0 then -i else i)) H) := by
  intro pins s σ H xs us Q I r h
  obtain ⟨i, rfl, q⟩ := h
  obtain ⟨u, rfl, t, rfl⟩ := vals1 r
  exact call_abs_int fun u tk => ⟨.int (if i < 0 then -i else i), H, I.tok _, ⟨_, rfl⟩, q⟩
theorem call_max2 (hc : X.calm = true) : CallR X (.builtin "max") (fun xs H Q => ∃ i j, xs = [.int i, .int j] ∧ Q (.int (if j > i then j else i)) H) := by
  intro pins s σ H xs us Q I r h
  obtain ⟨i, j, rfl, q⟩ := h
  obtain ⟨u, w', rfl, ⟨t, rfl⟩, ⟨t', rfl⟩⟩ := vals2 r
  refine max_two_ints (I.ok.hd hc) fun h' tk k => ⟨_, H, I.kept k, ?_, q⟩
  by_cases hj : j > i
  · rw [if_pos hj, if_pos hj]; exact ⟨_, rfl⟩
  · rw [if_neg hj, if_neg hj]; exact ⟨_, rfl⟩
theorem call_min2 (hc : X.calm = true) : CallR X (.builtin "min") (fun xs H Q => ∃ i j, xs = [.int i, .int j] ∧ Q (.int (if j < i then j else i)) H) := by
  intro pins s σ H xs us Q I r h
  obtain ⟨i, j, rfl, q⟩ := h
  obtain ⟨u, w', rfl, ⟨t, rfl⟩, ⟨t', rfl⟩⟩ := vals2 r
  refine min_two_ints (I.ok.hd hc) fun h' tk k => ⟨_, H, I.kept k, ?_, q⟩
  by_cases hj : j < i
  · rw [if_pos hj, if_pos hj]; exact ⟨_, rfl⟩
  · rw [if_neg hj, if_neg hj]; exact ⟨_, rfl⟩
theorem call_int1 : CallR X (.type "int") (fun xs H Q => (∃ i, xs = [.int i] ∧ Q (.int i) H) ∨ ∃ k, xs = [.bl k] ∧ Q (.int (if k then 1 else 0)) H) := by
  intro pins s σ H xs us Q I r h
  rcases h with ⟨i, rfl, q⟩ | ⟨k, rfl, q⟩
  · obtain ⟨u, rfl, t, rfl⟩ := vals1 r
    exact call_int_int ⟨.int i, H, I, ⟨_, rfl⟩, q⟩
  · obtain ⟨u, rfl, r1⟩ := vals1 r
    cases r1
    exact call_int_bool ⟨.int (if k then 1 else 0), H, I.tok _, ⟨_, rfl⟩, q⟩
/-- len of a str, a bytes, a list, a tuple -/
def LenV (K : PySem.W.Frag) (x : V) (H : Hp) (n : Nat) : Prop :=
  match x with
  | .str y => y.length ≤ sizeLine ∧ n = y.length
  | .byt y => y.size ≤ sizeLine ∧ n = y.size
  | .ref p => (∃ xs, SqL K H p xs ∧ n = xs.length) ∨ ∃ xs, SqT K H p xs ∧ n = xs.length
  | _ => False
end
end L2

namespace L2
open PySem PySem.Spec PyProof.Rows

/-! ### an instance, its attributes a map -/
structure ObjM (h : Heap) (x dx C : Addr) (mA : Str → Option Value) : Prop where
  obj : h.get? x = some (PySem.W.instObj C dx)
  ns : h.Ns1 dx mA
  ne : dx ≠ x

theorem lookIn_ns {h : Heap} {dx : Addr} {mA : Str → Option Value} (n : h.Ns1 dx mA) : ∃ od, h.get? dx = some od ∧ ∀ name, PySem.W.lookIn name od = some (mA name) := by
  obtain ⟨o, es, ep, ho, hd, hk, _, hm⟩ := n
  refine ⟨o, ho, fun name => ?_⟩
  have e := hm name
  unfold nsFind findBy at e
  rw [← Array.find?_toList] at e
  unfold PySem.W.lookIn
  rw [hd]
  dsimp only
  split
  · rename_i y q
    rw [q] at e
    exact congrArg some e
  · rename_i q
    rw [q] at e
    have a : es.toList.any (·.refKey) = false := by
      rw [List.any_eq_false]
      intro y hy
      obtain ⟨z, t, hkey⟩ := hk y (Array.mem_toList_iff.mp hy)
      simp [DictEntry.refKey, hkey]
    have a' : ¬ es.toList.any (·.refKey) = true := by rw [a]; exact Bool.false_ne_true
    rw [if_neg a']
    exact congrArg some e

theorem ObjM.look {h : Heap} {x dx C : Addr} {mA : Str → Option Value} (I : ObjM h x dx C mA) : ∃ od, PySem.W.InstAt h x (PySem.W.instObj C dx) C (some od) ∧ ∀ name, PySem.W.lookIn name od = some (mA name) :=
  let ⟨od, ho, hl⟩ := lookIn_ns I.ns
  ⟨od, ⟨I.obj, rfl, rfl, ho⟩, hl⟩

section
variable {prog : Program} {w : World} {A : Around} {E : Value → Shared → Prop} {s : Shared} {K : PySem.W.Frag} {x dx C f : Addr} {mA : Str → Option Value} {name : Str} {v : Value}

theorem get_map {expr : Bool} {Q : Value → Shared → Prop} (X : K.In s.heap) (I : ObjM s.heap x dx C mA) (hg : PySem.W.plainGet K C name = true) (hh : PySem.W.hasDictIn K C = true)
    (ha : PySem.W.findIn K (.ref C) name = some none) (hv : mA name = some v) (hv' : PySem.W.handedIn v = true) (h : Q v { s with toks := s.toks + 1 }) :
    wpAny (model prog w) A (getAttr (.ref x) name expr) Q E s := by
  obtain ⟨od, J, hl⟩ := I.look
  exact PySem.W.get_value X J (PySem.W.plainGet_of hg).1 (PySem.W.findObj_own hh ha rfl (by rw [hl, hv])) hv' h

theorem get_meth {pl : Sem Bool} {Q : Value × List Value → Shared → Prop} (X : K.In s.heap) (I : ObjM s.heap x dx C mA) (hg : PySem.W.plainGet K C name = true)
    (hf : PySem.W.findIn K (.ref C) name = some (some (.ref f))) (ht : PySem.W.isFn K (.ref f) = true) (hv : mA name = none) (h : Q (.ref f, [.ref x]) s) :
    wpAny (model prog w) A (getMethod (.ref x) name pl) Q E s := by
  obtain ⟨od, J, hl⟩ := I.look
  exact PySem.W.method_fn X J (PySem.W.plainGet_of hg).1 (PySem.W.plainGet_of hg).2 hf (beq_iff_eq.mp ht) (by show (PySem.W.lookIn name od).map (·.isSome) = some false; rw [hl, hv]; rfl) h

theorem set_map {ns : List Str} {Q : Unit → Shared → Prop} (X : K.In s.heap) (I : ObjM s.heap x dx C mA)
    (hs : PySem.W.findIn K (.ref C) "__setattr__" = some (some (.builtin "object.__setattr__"))) (hp : PySem.W.plainOver K C = true) (ht : PySem.W.takerIn K C name = some none) (hh : PySem.W.hasDictIn K C = true)
    (hw : PySem.Within mA ns) (hsz : ns.length ≤ sizeLine)
    (h : ∀ h', ObjM h' x dx C (fun y => if y = name then some v else mA y) → Heap.SameBut dx s.heap h' → Q () { s with heap := h', toks := s.toks + 2 }) :
    wpAny (model prog w) A (setAttr (.ref x) name v) Q E s := by
  obtain ⟨od, J, hl⟩ := I.look
  refine PySem.W.set_plain X J hs (PySem.W.osa_open (s := { s with toks := s.toks + 1 }) (r := none) X J hp ht fun b => ?_)
  obtain ⟨cd, hc, hd'⟩ := PySem.W.any_some hh
  have hx : s.heap.get? x = some ⟨.ref C, some dx, .plain, #[]⟩ := I.obj
  refine wpAny_bind (wpAny_pure (wpAny_bind (wpAny_bind (wpAny_loadPart hx (wpAny_bind (PySem.W.Looks.here (s := { s with toks := s.toks + 1 }) (PySem.W.looks_clsIn X hc) ?_))))))
  rw [hd']
  refine wpAny_pure (a := some dx) (wpAny_bind (wpAny_pure (wpAny_bind ?_)))
  refine wpAny_nsSet1 (s := { s with toks := s.toks + 1 }) I.ns fun h' hn2 hs2 => ?_
  obtain ⟨oD, esD, epD, hoD, hdD, hcD⟩ := hn2.count (PySem.Within.cons name v hw)
  refine wpAny_bind (wpAny_lookBehind hoD (by rw [hdD]; exact pastItsLine_dict (Nat.le_trans hcD (by rw [List.length_cons]; omega))) ?_)
  exact wpAny_pure (h _ ⟨(hs2.2 _ (Ne.symm I.ne)).trans I.obj, hn2, I.ne⟩ hs2)

/-- C(..): the dict at the heap's end, the instance behind it; then its __init__ -/
theorem make_map {R : Result → Shared → Prop} {vs : List Value} {kw : List (Str × Value)} (X : K.In s.heap) (hm : PySem.W.makesIn K C = true)
    (hi : PySem.W.findIn K (.ref C) "__init__" = some (some (.ref f))) (hf : PySem.W.typeIn K (.ref f) = some (.type "function"))
    (h : codeAny (model prog w) (A.under (.builtin "type.__call__" ⟨.ref C :: vs, kw⟩)) (.call (.ref f) ⟨.ref (s.heap.objs.size + 1) :: vs, kw⟩) (PySem.W.InitBack (s.heap.objs.size + 1) R)
      { s with heap := (s.heap.push PySem.W.emptyDict).push (PySem.W.instObj C s.heap.objs.size) }) :
    codeAny (model prog w) A (.call (.ref C) ⟨vs, kw⟩) R s := by
  obtain ⟨hh, g, d, t, os⟩ := s
  exact PySem.W.make_core (PySem.W.makes_of X hm) (PySem.W.looks_findIn X hi) (fun self => PySem.W.bind_fn X self hf) (.inl rfl) h
end

/-! ### the attributes as a list of pairs -/
def putF (f : Str) (v : V) : List (Str × V) → List (Str × V)
  | [] => [(f, v)]
  | (g, x) :: r => if g = f then (g, v) :: r else (g, x) :: putF f v r
theorem lookup_putF (f g : Str) (v : V) : ∀ fs : List (Str × V), (putF f v fs).lookup g = if g = f then some v else fs.lookup g
  | [] => by
    show List.lookup g [(f, v)] = _
    by_cases h : g = f
    · have hb : (g == f) = true := beq_iff_eq.mpr h
      simp only [List.lookup, hb, if_pos h]
    · have hb : (g == f) = false := beq_eq_false_iff_ne.mpr h
      simp only [List.lookup, hb, if_neg h]
  | (k, x) :: r => by
    have ih := lookup_putF f g v r
    rw [show putF f v ((k, x) :: r) = (if k = f then (k, v) :: r else (k, x) :: putF f v r) from rfl]
    by_cases hk : k = f
    · rw [if_pos hk]
      by_cases h : g = k
      · have hb : (g == k) = true := beq_iff_eq.mpr h
        simp only [List.lookup, hb, if_pos (h.trans hk)]
      · have hb : (g == k) = false := beq_eq_false_iff_ne.mpr h
        simp only [List.lookup, hb, if_neg (fun e : g = f => h (e.trans hk.symm))]
    · rw [if_neg hk]
      by_cases h : g = k
      · have hb : (g == k) = true := beq_iff_eq.mpr h
        simp only [List.lookup, hb, if_neg (fun e : g = f => hk (h.symm.trans e))]
      · have hb : (g == k) = false := beq_eq_false_iff_ne.mpr h
        simp only [List.lookup, hb]
        exact ih
theorem keys_putF (f : Str) (v : V) : ∀ fs : List (Str × V), f ∈ (putF f v fs).map (·.1) ∧ ∀ g, g ∈ fs.map (·.1) → g ∈ (putF f v fs).map (·.1)
  | [] => ⟨by simp [putF], fun g h => by simp at h⟩
  | (k, x) :: r => by
    obtain ⟨i1, i2⟩ := keys_putF f v r
    rw [show putF f v ((k, x) :: r) = (if k = f then (k, v) :: r else (k, x) :: putF f v r) from rfl]
    by_cases hk : k = f
    · rw [if_pos hk]
      subst hk
      exact ⟨by simp, fun g h => by simpa using h⟩
    · rw [if_neg hk]
      refine ⟨?_, fun g h => ?_⟩
      · rw [List.map_cons]
        exact List.mem_cons_of_mem _ i1
      · rw [List.map_cons] at h ⊢
        rcases List.mem_cons.mp h with e | e
        · exact List.mem_cons.mpr (.inl e)
        · exact List.mem_cons_of_mem _ (i2 g e)
theorem length_putF (f : Str) (v : V) : ∀ fs : List (Str × V), (putF f v fs).length ≤ fs.length + 1
  | [] => by simp [putF]
  | (k, x) :: r => by
    have ih := length_putF f v r
    rw [show putF f v ((k, x) :: r) = (if k = f then (k, v) :: r else (k, x) :: putF f v r) from rfl]
    by_cases hk : k = f
    · rw [if_pos hk, List.length_cons, List.length_cons]; omega
    · rw [if_neg hk, List.length_cons, List.length_cons]; omega

theorem RelO.some_of {v : V} {o : Option Value} (r : RelO (some v) o) : ∃ u, o = some u ∧ RelV v u := by
  cases o with
  | none => exact (show False from r).elim
  | some u => exact ⟨u, rfl, r⟩
theorem RelO.none_of {o : Option Value} (r : RelO none o) : o = none := by
  cases o with
  | none => rfl
  | some u => exact (show False from r).elim
theorem handed_of {v : V} {u : Value} (r : RelV v u) : PySem.W.handedIn u = true := by
  cases v with
  | non => cases (show u = Value.none from r); rfl
  | bl b => cases (show u = Value.bool b from r); rfl
  | int i => obtain ⟨t, e⟩ := (show ∃ t, u = Value.int i t from r); cases e; rfl
  | str x => obtain ⟨t, e⟩ := (show ∃ t, u = Value.str x t from r); cases e; rfl
  | byt b => obtain ⟨t, e⟩ := (show ∃ t, u = Value.bytes b t from r); cases e; rfl
  | flt b => obtain ⟨t, e⟩ := (show ∃ t, u = Value.float b t from r); cases e; rfl
  | ref a => cases (show u = Value.ref a from r); rfl
  | ty n => cases (show u = Value.type n from r); rfl

section
variable {P : Program} {w : World} {H H' : Hp} {h h' : Heap} {a C dx : Addr} {fs fs' : List (Str × V)}
theorem ins_get (hok : HOk P w H h) (e : H a = some (.ins C dx fs)) : ∃ mA, ObjM h a dx C mA ∧ (∀ f, RelO (fs.lookup f) (mA f)) ∧ PySem.Within mA (fs.map (·.1)) ∧ fs.length ≤ 1000 ∧ H dx = some (.own a) := by
  obtain ⟨d, z, ne, ob, mA, n, r, q⟩ := (show ObjOk P w H h a (.ins C dx fs) from hok a _ e)
  exact ⟨mA, ⟨ob, n, ne⟩, r, q, z, d⟩
end

/-! ### what of the text a class must have -/
structure Cls (K : PySem.W.Frag) (C : Addr) : Prop where
  pg : PySem.W.plainGet K C Str.empty = true
  hd : PySem.W.hasDictIn K C = true
  po : PySem.W.plainOver K C = true
  sa : PySem.W.findIn K (.ref C) "__setattr__" = some (some (.builtin "object.__setattr__"))
theorem Cls.get {K : PySem.W.Frag} {C : Addr} (c : Cls K C) (f : Str) : PySem.W.plainGet K C f = true := c.pg
/-- no class of it has the name -/
def NoAttr (K : PySem.W.Frag) (C : Addr) (f : Str) : Prop := PySem.W.findIn K (.ref C) f = some none
theorem NoAttr.taker {K : PySem.W.Frag} {C : Addr} {f : Str} (n : NoAttr K C f) : PySem.W.takerIn K C f = some none := by
  unfold PySem.W.takerIn
  rw [show PySem.W.findIn K (.ref C) f = some none from n]
  rfl
/-- a constant of the class -/
structure Con (K : PySem.W.Frag) (C : Addr) (f : Str) (v : V) (u : Value) : Prop where
  at_ : PySem.W.findIn K (.ref C) f = some (some u)
  rel : RelV v u
  get : PySem.W.specialIn K u "__get__" = some none
  cp : PySem.W.copiedNames.contains f = false
/-- a method: a plain def of the class or of one above it -/
structure Meth (K : PySem.W.Frag) (C : Addr) (m : Str) (f : Addr) : Prop where
  at_ : PySem.W.findIn K (.ref C) m = some (some (.ref f))
  fn : PySem.W.isFn K (.ref f) = true
  kp : PySem.W.keepIn K (.ref f) = true

section
variable {X : Cx} {pins : List (Addr × Obj)} {σ : St} {H : Hp} {s : Shared} {a C dx : Addr} {fs : List (Str × V)} {f : Str} {v : V} {A : Around} {E : Value → Shared → Prop}

theorem getattr_ok {b : Bool} {Q : Value → Shared → Prop} (I : Inv X pins σ H s) (e : H a = some (.ins C dx fs)) (c : Cls X.K C) (n : NoAttr X.K C f) (l : fs.lookup f = some v)
    (h : ∀ u s', Inv X pins σ H s' → RelV v u → Q u s') : wpAny (model X.prog X.w) A (getAttr (.ref a) f b) Q E s := by
  obtain ⟨mA, O, r, _, _, _⟩ := ins_get I.hok e
  obtain ⟨u, hu, ru⟩ := RelO.some_of (v := v) (o := mA f) (by rw [← l]; exact r f)
  exact get_map I.kIn O (c.get f) c.hd n hu (handed_of ru) (h u _ (I.tok _) ru)

theorem getmeth_ok {m : Str} {g : Addr} {pl : Sem Bool} {Q : Value × List Value → Shared → Prop} (I : Inv X pins σ H s) (e : H a = some (.ins C dx fs)) (c : Cls X.K C) (k : Meth X.K C m g) (l : fs.lookup m = none)
    (h : Q (.ref g, [.ref a]) s) : wpAny (model X.prog X.w) A (getMethod (.ref a) m pl) Q E s := by
  obtain ⟨mA, O, r, _, _, _⟩ := ins_get I.hok e
  have hn : mA m = none := RelO.none_of (by rw [← l]; exact r m)
  exact get_meth I.kIn O (c.get m) k.at_ k.fn hn h

theorem setattr_ok {y : V} {u : Value} {Q : Unit → Shared → Prop} (I : Inv X pins σ H s) (e : H a = some (.ins C dx fs)) (c : Cls X.K C) (n : NoAttr X.K C f) (hl : fs.length < 1000) (ry : RelV y u)
    (h : ∀ s', Inv X pins σ (upd H a (.ins C dx (putF f y fs))) s' → Q () s') : wpAny (model X.prog X.w) A (setAttr (.ref a) f u) Q E s := by
  obtain ⟨mA, O, r, wi, _, ho⟩ := ins_get I.hok e
  have hz : (fs.map (·.1)).length ≤ sizeLine := by rw [List.length_map, sizeLine_eq]; omega
  refine set_map I.kIn O c.sa c.po n.taker c.hd wi hz fun h' O' sb => h _ ?_
  have hd : ∃ o, h'.get? dx = some o := let ⟨o, _, _, e', _⟩ := O'.ns; ⟨o, e'⟩
  refine I.write (x := a) (e := dx) (by rw [e]; exact True.intro) (.inr ho) (fun b q hb z => (sb.2 b hb).trans z) hd ?_
  refine ⟨by rw [upd_ne O.ne]; exact ho, ?_, O.ne, O'.obj, _, O'.ns, fun g => ?_, fun g hg => ?_⟩
  · have := length_putF f y fs; omega
  · show RelO ((putF f y fs).lookup g) (if g = f then some u else mA g)
    rw [lookup_putF]
    by_cases q : g = f
    · rw [if_pos q, if_pos q]; exact ry
    · rw [if_neg q, if_neg q]; exact r g
  · by_cases q : g = f
    · rw [q]; exact (keys_putF f y fs).1
    · refine (keys_putF f y fs).2 g (wi g fun z => hg ?_)
      show (if g = f then some u else mA g) = none
      rw [if_neg q]; exact z

/-- a new instance, tracked, without attributes -/
theorem Inv.made (I : Inv X pins σ H s) : Inv X pins σ (upd (upd H s.heap.objs.size (.own (s.heap.objs.size + 1))) (s.heap.objs.size + 1) (.ins C s.heap.objs.size []))
    { s with heap := (s.heap.push PySem.W.emptyDict).push (PySem.W.instObj C s.heap.objs.size) } := by
  have e1 : (s.heap.push PySem.W.emptyDict).get? s.heap.objs.size = some PySem.W.emptyDict := Heap.get?_push_size s.heap rfl
  have e2 : ((s.heap.push PySem.W.emptyDict).push (PySem.W.instObj C s.heap.objs.size)).get? (s.heap.objs.size + 1) = some (PySem.W.instObj C s.heap.objs.size) := by
    have := Heap.get?_push_size (s.heap.push PySem.W.emptyDict) (o := PySem.W.instObj C s.heap.objs.size) rfl
    rwa [Heap.size_push] at this
  have e3 : (s.heap.push PySem.W.emptyDict).Ns s.heap.objs.size (fun _ => none) := ⟨PySem.W.emptyDict, #[], _, e1, rfl, (fun e he => absurd he (by simp)), fun _ => rfl⟩
  have I1 := I.laid (a := s.heap.objs.size) (o := .own (s.heap.objs.size + 1)) (h' := s.heap.push PySem.W.emptyDict) (t' := s.toks) (fun b u q => Heap.get?_push_of_some _ q) (Nat.le_refl _) ⟨_, e1⟩
  refine I1.laid (a := s.heap.objs.size + 1) (o := .ins C s.heap.objs.size []) (t' := s.toks) (fun b u q => Heap.get?_push_of_some _ q) (Nat.le_of_eq (Heap.size_push _ _)) ?_
  have ne : s.heap.objs.size ≠ s.heap.objs.size + 1 := Nat.ne_of_lt (Nat.lt_succ_self _)
  refine ⟨by rw [upd_ne ne, upd_same], Nat.zero_le _, ne, e2, fun _ => none, (Heap.Ns1.of_empty e3).at fun o q => Heap.get?_push_of_some _ q, fun _ => True.intro, fun y hy => absurd rfl hy⟩

/-- e.f where nothing but the object is asked: through attributeBase (super) and the last hold -/
theorem attr_of {prog : Program} {w : World} {env : Env} {e : Expr} {f : Str} {pos : Pos} {s : Shared} {Q : Value → Shared → Prop} (hb : attributeBase e f env (eval e env) = eval e env)
    (h : wpAny (model prog w) A (eval e env) (fun o s₁ => wpAny (model prog w) A (getAttr o f true) Q E s₁) E s) : wpAny (model prog w) A (eval (.Attribute e f pos) env) Q E s :=
  Attribute_any_ h (by rw [arm_eval_Attribute, hb])
end

/-! ### readings and rules -/
/-- e.f, an attribute of the instance -/
def tFld (K : PySem.W.Frag) (ta : TE) (f : Str) : TE := fun σ H Q => ta σ H fun x H1 => ∃ a C dx fs v, x = .ref a ∧ H1 a = some (.ins C dx fs) ∧ Cls K C ∧ NoAttr K C f ∧ fs.lookup f = some v ∧ Q v H1
/-- e.f, a constant of the class -/
def tCon (K : PySem.W.Frag) (ta : TE) (f : Str) : TE := fun σ H Q => ta σ H fun x H1 => ∃ a C dx fs v u, x = .ref a ∧ H1 a = some (.ins C dx fs) ∧ Cls K C ∧ Con K C f v u ∧ fs.lookup f = none ∧ Q v H1
/-- e.f = value -/
def sFld (K : PySem.W.Frag) (ta tv : TE) (f : Str) : TS := fun D σ H => tv σ H fun y H1 => ta σ H1 fun x H2 => ∃ a C dx fs, x = .ref a ∧ H2 a = some (.ins C dx fs) ∧ Cls K C ∧ NoAttr K C f ∧ fs.length < 1000 ∧
  D.nx σ (upd H2 a (.ins C dx (putF f y fs)))
/-- an augmented operator on two values -/
def InOp (X : Cx) (op : Operator) (rd : V → V → Hp → VK → Prop) : Prop :=
  ∀ (pins : List (Addr × Obj)) (s : Shared) (σ : St) (H : Hp) (x y : V) (u v : Value) (Q : VK), Inv X pins σ H s → RelV x u → RelV y v → rd x y H Q → wpAny (model X.prog X.w) X.A (inplaceOp op u v) (EP X pins σ Q) X.xe s
/-- e.f op= value -/
def sFldAug (K : PySem.W.Frag) (ta tv : TE) (rd : V → V → Hp → VK → Prop) (f : Str) : TS := fun D σ H => ta σ H fun x H1 => ∃ a C dx fs v, x = .ref a ∧ H1 a = some (.ins C dx fs) ∧ Cls K C ∧ NoAttr K C f ∧ fs.lookup f = some v ∧
  tv σ H1 fun y H2 => rd v y H2 fun z H3 => ∃ dx' fs', H3 a = some (.ins C dx' fs') ∧ fs'.length < 1000 ∧ D.nx σ (upd H3 a (.ins C dx' (putF f z fs')))

section
variable {X : Cx} {o e value : Expr} {f : Str} {pos pos' tpos : Pos} {ta tv : TE}
theorem pe_fld (he : PE X e ta) (hb : attributeBase e f X.env (eval e X.env) = eval e X.env) : PE X (.Attribute e f pos) (tFld X.K ta f) := by
  intro pins s σ H Q I h
  refine attr_of hb (thn (he pins s σ H _ I h) fun u s1 ⟨x, H1, I1, rx, a, C, dx, fs, v, ex, ea, c, n, l, q⟩ => ?_)
  subst ex
  obtain rfl : u = Value.ref a := rx
  exact getattr_ok I1 ea c n l fun u' s2 I2 ru => ⟨v, H1, I2, ru, q⟩
theorem ps_fld (ha : PE X o ta) (hv : PE X value tv) (hs : swapsWith value (some (.Attribute o f pos')) pos.line X.env = pure false) : PS X (.Assign [.Attribute o f pos'] value pos) (sFld X.K ta tv f) := by
  intro pins s σ H D I h
  refine plainObj_wpAny_Assign_Attribute (thn (hv pins s σ H _ I h) fun u s1 ⟨y, H1, I1, ry, q⟩ => thn (ha pins s1 σ H1 _ I1 q) fun ov s2 ⟨x, H2, I2, rx, a, C, dx, fs, ex, ea, c, n, l, q2⟩ => ?_) hs
  subst ex
  obtain rfl : ov = Value.ref a := rx
  exact setattr_ok I2 ea c n l ry fun s3 I3 => ⟨σ, _, I3, q2⟩
def rAdd : V → V → Hp → VK → Prop := fun x y H Q => ∃ i j, x = .int i ∧ y = .int j ∧ Q (.int (i + j)) H
def rSub : V → V → Hp → VK → Prop := fun x y H Q => ∃ i j, x = .int i ∧ y = .int j ∧ Q (.int (i - j)) H
end

/-! ### isinstance -/
section
variable {X : Cx} {pins : List (Addr × Obj)} {σ : St} {H : Hp} {s : Shared} {A : Around} {E : Value → Shared → Prop} {Q : Value → Shared → Prop} {c : Value} {b : Bool}
/-- the type of a value, as the fragment's deciders take it; for an instance its class -/
inductive TyOf (K : PySem.W.Frag) (H : Hp) : V → Value → Prop where
  | non : TyOf K H .non (.type "NoneType")
  | bl (x : Bool) : TyOf K H (.bl x) (.type "bool")
  | int (i : Int) : TyOf K H (.int i) (.type "int")
  | str (x : Str) : TyOf K H (.str x) (.type "str")
  | flt (x : UInt64) : TyOf K H (.flt x) (.type "float")
  | lst {a : Addr} {xs : List V} (e : H a = some (.lst xs)) : TyOf K H (.ref a) (.type "list")
  | frz {a : Addr} {o : Obj} {xs : List V} (e : H a = some (.frz o (.lst xs))) : TyOf K H (.ref a) (.type "list")
  | tup {a : Addr} {xs : List V} (e : H a = some (.tup xs)) : TyOf K H (.ref a) (.type "tuple")
  | dK {a : Addr} {kvs : List (Key × V)} (e : H a = some (.dK kvs)) : TyOf K H (.ref a) (.type "dict")
  | dT {a : Addr} {kvs : List (List Key × V)} (e : H a = some (.dT kvs)) : TyOf K H (.ref a) (.type "dict")
  | ins {a C dx : Addr} {fs : List (Str × V)} (e : H a = some (.ins C dx fs)) (cl : Cls K C) (ha : PySem.W.findIn K (.ref C) "__class__" = some (some (.builtin "object.__class__")))
      (hn : PySem.W.specialIn K (.builtin "object.__class__") "__get__" = some (some (.builtin "getset_descriptor.__get__"))) (htk : PySem.W.takesIn K (.builtin "object.__class__") = some true)
      (hm : PySem.W.mroIn K C (.type "object") = some true) : TyOf K H (.ref a) (.ref C)
end
end L2

namespace L2
open PySem PySem.Spec PyProof.Rows

/-! ### room -/
structure Room (k : Nat) (A : Around) : Prop where
  hd : A.handled = none
  dp : A.depth + 3 * k + 5 < recursionLimit
  un : A.units + 16 * k + 200 < cLine
theorem Room.mono {j k : Nat} {A : Around} (r : Room k A) (h : j ≤ k) : Room j A := ⟨r.hd, by have := r.dp; omega, by have := r.un; omega⟩
theorem Room.deeper {k : Nat} {A : Around} (r : Room (k + 1) A) (env : Env) : Room k (A.deeper env) :=
  ⟨r.hd, by have := r.dp; show A.depth + 1 + 3 * k + 5 < _; omega, by have := r.un; show A.units + 3 + 16 * k + 200 < _; omega⟩
theorem make_depth {A : Around} {C : Addr} {us : List Value} {kw : List (Str × Value)} : (A.under (.builtin "type.__call__" ⟨.ref C :: us, kw⟩)).depth = A.depth + 1 := by
  first | rfl | simp [Around.under, Code.weight, Code.isCreation, Code.isGuard, Code.isCaller, Code.frames, Code.isFrame, guardIds]
theorem make_units {A : Around} {C : Addr} {us : List Value} {kw : List (Str × Value)} : (A.under (.builtin "type.__call__" ⟨.ref C :: us, kw⟩)).units = A.units + 1 := by
  first | rfl | simp [Around.under, Code.cUnits, Code.frames, Code.isFrame]
theorem Room.make {k : Nat} {A : Around} (r : Room (k + 1) A) (C : Addr) (us : List Value) (kw : List (Str × Value)) : Room k (A.under (.builtin "type.__call__" ⟨.ref C :: us, kw⟩)) :=
  ⟨r.hd, by have := r.dp; rw [make_depth]; omega, by have := r.un; rw [make_units]; omega⟩
theorem Room.depth {k : Nat} {A : Around} (r : Room k A) : A.depth < recursionLimit := by have := r.dp; omega
theorem Room.units {k : Nat} {A : Around} (r : Room k A) : A.units + 64 < cLine := by have := r.un; omega
/-! ### argument lists and displays -/
def tNil : TA := fun _ H Q => Q [] H
def tCons (ta : TE) (tr : TA) : TA := fun σ H Q => ta σ H fun x H1 => tr σ H1 fun xs H2 => Q (x :: xs) H2
section
variable {X : Cx} {e : Expr} {es : List Expr} {te : TE} {t : TA} {pos : Pos}
theorem pa_nil : PA X [] tNil := fun _ _ _ _ H Q I h => Calls.spliced_nil ⟨[], H, I, .nil, h⟩
theorem pa_cons (ha : PE X e te) (hr : PA X es t) (hs : starEach (e :: es) X.env = (false, eval e X.env) :: starEach es X.env := by rfl) : PA X (e :: es) (tCons te t) := by
  intro pos pins s σ H Q I h
  rw [hs]
  show wpAny _ _ (spliced ((false, eval e X.env) :: backTo pos (starEach es X.env))) _ _ s
  refine Calls.spliced_cons (thn (ha pins s σ H _ I h) fun u s1 ⟨x, H1, I1, r1, q1⟩ => ?_)
  exact thn (hr pos pins s1 σ H1 _ I1 q1) fun us s2 ⟨xs, H2, I2, r2, q2⟩ => ⟨x :: xs, H2, I2, .cons r1 r2, q2⟩

/-- a tuple, a list of written items -/
def tTup (t : TA) : TE := fun σ H Q => t σ H fun xs H1 => xs.length ≤ sizeLine ∧ ∀ p, H1 p = none → Q (.ref p) (upd H1 p (.tup xs))
def tLst (t : TA) : TE := fun σ H Q => t σ H fun xs H1 => xs.length ≤ sizeLine ∧ ∀ p, H1 p = none → Q (.ref p) (upd H1 p (.lst xs))
theorem pe_tup {x1} (h : PA X es t) : PE X (.Tuple es x1 pos) (tTup t) := by
  intro pins s σ H Q I hq
  refine wpAny_Tuple_spliced (thn (h pos pins s σ H _ I hq) fun us s1 ⟨xs, H1, I1, r, z, q⟩ => ⟨by rw [← r.length]; exact z, ?_⟩)
  have hf : H1 s1.heap.objs.size = none := I1.hok.fresh (Nat.le_refl _)
  refine ⟨.ref s1.heap.objs.size, upd H1 s1.heap.objs.size (.tup xs), I1.laid (t' := s1.toks) (fun b u e => Heap.get?_push_of_some _ e) (Nat.le_refl _) ?_, rfl, q _ hf⟩
  exact ⟨z, us, r, ⟨_, Heap.get?_push_size _ rfl, rfl, _, rfl⟩⟩
theorem pe_lst (h : PA X es t) : PE X (.List es pos) (tLst t) := by
  intro pins s σ H Q I hq
  refine wpAny_List_spliced (thn (h pos pins s σ H _ I hq) fun us s1 ⟨xs, H1, I1, r, z, q⟩ => ⟨by rw [← r.length]; exact z, ?_⟩)
  have hf : H1 s1.heap.objs.size = none := I1.hok.fresh (Nat.le_refl _)
  refine ⟨.ref s1.heap.objs.size, upd H1 s1.heap.objs.size (.lst xs), I1.laid (t' := s1.toks) (fun b u e => Heap.get?_push_of_some _ e) (Nat.le_refl _) ?_, rfl, q _ hf⟩
  exact ⟨z, us, 0, r, Heap.get?_push_size _ rfl⟩
end

/-! ### what a def promises -/
/-- a def's promise: the bound arguments in the parameters' order, the heap, the wanted end, the wanted exception -/
abbrev Sp := List V → Hp → VK → XK → Prop
/-- how an exception lies behind a call (file 08 gives it): the callers' frames, abstract heap and state ahead of the call, the wish, the exception, the state -/
abbrev CXT := List Env → Hp → Shared → XK → Value → Shared → Prop

/-- the state at a call -/
structure Env0 (P : Program) (w : World) (K : PySem.W.Frag) (mg : Str → Option Value) (base : Heap) (A : Around) (outer : List Env) (s : Shared) (H : Hp) : Prop where
  frames : A.frames = some outer
  mod : Mod K mg base
  bs : ∀ b o, base.get? b = some o → s.heap.get? b = some o ∧ H b = none
  bsz : base.objs.size ≤ s.heap.objs.size
  funs : s.heap.FunFrames base outer
  frf : ∀ b ∈ frs outer, H b = none
  hok : HOk P w H s.heap
  bare : AllBare s.gens
/-- a call's end -/
def CE (outer : List Env) (P : Program) (w : World) (H : Hp) (s : Shared) (Q : VK) (u : Value) (s' : Shared) : Prop :=
  ∃ v H', s'.os = s.os ∧ AllBare s'.gens ∧ Un (frs outer) [] H H' s.heap s'.heap ∧ HOk P w H' s'.heap ∧ RelV v u ∧ Q v H'
def CR (CX : CXT) (outer : List Env) (P : Program) (w : World) (H : Hp) (s : Shared) (Q : VK) (E : XK) (r : Result) (s' : Shared) : Prop :=
  match r with
  | .ok (.ret u) => CE outer P w H s Q u s'
  | .ok _ => False
  | .error e => CX outer H s E e s'
structure FnOk (P : Program) (w : World) (K : PySem.W.Frag) (mg : Str → Option Value) (base : Heap) (CX : CXT) (k : Nat) (f : Addr) (fd : FuncData) (ps : List Str) (sp : Sp) : Prop where
  len : ∀ vs H Q E, sp vs H Q E → vs.length = ps.length
  run : ∀ (A : Around) (outer : List Env) (s : Shared) (H : Hp) (args : Args) (us : List Value) (vs : List V) (Q : VK) (E : XK), Room k A → Env0 P w K mg base A outer s H → BindsTo s fd args (ps.zip us) → Vals vs us → sp vs H Q E →
    codeAny (model P w) A (.call (.ref f) args) (CR CX outer P w H s Q E) s
/-- a weaker promise -/
theorem FnOk.imp {P : Program} {w : World} {K : PySem.W.Frag} {mg : Str → Option Value} {base : Heap} {CX : CXT} {k : Nat} {f : Addr} {fd : FuncData} {ps : List Str} {sp sp' : Sp} (F : FnOk P w K mg base CX k f fd ps sp)
    (h : ∀ vs H Q E, sp' vs H Q E → sp vs H Q E) : FnOk P w K mg base CX k f fd ps sp' :=
  ⟨fun vs H Q E q => F.len vs H Q E (h _ _ _ _ q), fun A outer s H args us vs Q E hr he hb hv hs => F.run A outer s H args us vs Q E hr he hb hv (h _ _ _ _ hs)⟩

theorem Env0.make {P : Program} {w : World} {K : PySem.W.Frag} {mg : Str → Option Value} {base : Heap} {A : Around} {outer : List Env} {s : Shared} {H : Hp} (e : Env0 P w K mg base A outer s H) (C : Addr) (us : List Value) (kw : List (Str × Value)) :
    Env0 P w K mg base (A.under (.builtin "type.__call__" ⟨.ref C :: us, kw⟩)) outer s H := ⟨by first | exact e.frames | (simpa [Around.under, Code.envs, Code.isFrame, pushEnvs] using e.frames), e.mod, e.bs, e.bsz, e.funs, e.frf, e.hok, e.bare⟩
section
variable {X : Cx} {pins : List (Addr × Obj)} {σ : St} {H : Hp} {s s' : Shared}
/-- from a body: what a callee wants -/
theorem Inv.env0 (I : Inv X pins σ H s) : Env0 X.prog X.w X.K X.mg X.base X.A X.stack s H :=
  ⟨I.ok.frames, I.ok.mod, I.bs, Nat.le_trans I.ok.bsz I.sz, I.stack, I.stkFree, I.hok, I.bare⟩
/-- behind a call -/
theorem Inv.after {Q : VK} {u : Value} (I : Inv X pins σ H s) (h : CE X.stack X.prog X.w H s Q u s') : EP X pins σ Q u s' := by
  obtain ⟨v, H', os, bare, un, hok, r, q⟩ := h
  obtain ⟨hh, g, d, t, os'⟩ := s'
  obtain rfl : os' = s.os := os
  exact ⟨v, H', I.call (h' := hh) (g' := g) (d' := d) (t' := t) (ch := []) un hok bare (fun b z => absurd z (by simp)), r, q⟩
end

/-! ### calls -/
/-- f(..): the written arguments, then the defaults dvs; E: what is wanted of an exception -/
def tCall (sp : Sp) (dvs : List V) (E : XK) (t : TA) : TE := fun σ H Q => t σ H fun vs H1 => sp (vs ++ dvs) H1 Q E
/-- o.m(..) of an instance of the class at C -/
def tMeth (C : Addr) (m : Str) (sp : Sp) (dvs : List V) (E : XK) (ta : TE) (t : TA) : TE := fun σ H Q => ta σ H fun x H1 => ∃ a dx fs, x = .ref a ∧ H1 a = some (.ins C dx fs) ∧ fs.lookup m = none ∧
  t σ H1 fun vs H2 => sp (x :: (vs ++ dvs)) H2 Q E
/-- C(..): a new instance and its dict, then __init__ -/
def tMake (C : Addr) (sp : Sp) (dvs : List V) (E : XK) (t : TA) : TE := fun σ H Q => t σ H fun vs H1 => ∀ x dx, H1 x = none → H1 dx = none → dx ≠ x →
  sp (.ref x :: (vs ++ dvs)) (upd (upd H1 dx (.own x)) x (.ins C dx [])) (fun v H2 => v = .non ∧ Q (.ref x) H2) E

/-- how the parameters are bound: us the positional arguments, kw the keywords' values by name, ds the defaults that fill up -/
def Binds (K : PySem.W.Frag) (fd : FuncData) (ps : List Str) (ds : List Value) : Prop :=
  ∀ (s : Shared) (us : List Value), K.In s.heap → (us ++ ds).length = ps.length → BindsTo s fd ⟨us, []⟩ (ps.zip (us ++ ds))
/-- every parameter is given -/
theorem Binds.all {K : PySem.W.Frag} {fd : FuncData} {ps : List Str} (h : ∀ us : List Value, us.length = ps.length → bindArgs fd ⟨us, []⟩ = pure (ps.zip us)) : Binds K fd ps [] := fun s us _ hl => by
  rw [List.append_nil] at hl ⊢
  exact .of_eq (h us hl)

/-- an exception of a callee reaches what this body wants of exceptions -/
def Passes (CX : CXT) (X : Cx) (E : XK) : Prop := ∀ (pins : List (Addr × Obj)) (σ : St) (H : Hp) (s : Shared) (e : Value) (s' : Shared), Inv X pins σ H s → CX X.stack H s E e s' → X.xe e s'

section
variable {X : Cx} {CX : CXT} {k : Nat} {f C : Addr} {fd : FuncData} {ps : List Str} {sp : Sp} {dvs : List V} {ds : List Value} {E : XK} {x m : Str} {p pos apos : Pos} {e o : Expr} {es : List Expr} {ta : TE} {t : TA}

/-- the callee runs -/
theorem run_fn {pins : List (Addr × Obj)} {σ : St} {H : Hp} {s : Shared} {Q : VK} {us : List Value} {vs : List V} (F : FnOk X.prog X.w X.K X.mg X.base CX k f fd ps sp) (hr : Room k X.A) (hb : Binds X.K fd ps ds) (hd : Vals dvs ds) (hx : Passes CX X E)
    (I : Inv X pins σ H s) (r : Vals vs us) (h : sp (vs ++ dvs) H Q E) : wpAny (model X.prog X.w) X.A (call (.ref f) us) (EP X pins σ Q) X.xe s := by
  have r2 : Vals (vs ++ dvs) (us ++ ds) := r.append hd
  have hl : (us ++ ds).length = ps.length := by rw [← r2.length]; exact F.len _ _ _ _ h
  refine wpAny_call (codeAny_mono (F.run X.A X.stack s H ⟨us, []⟩ (us ++ ds) (vs ++ dvs) Q E hr I.env0 (hb s us I.kIn hl) r2 h) fun r s' hq => ?_)
  cases r with
  | error e => exact hx pins σ H s e s' I hq
  | ok fl =>
    cases fl with
    | ret u => exact I.after hq
    | next => exact False.elim hq
    | brk => exact False.elim hq
    | cont => exact False.elim hq

theorem pe_call (F : FnOk X.prog X.w X.K X.mg X.base CX k f fd ps sp) (hr : Room k X.A) (hg : Gl X x) (hm : X.mg x = some (.ref f)) (hk : PySem.W.keepIn X.K (.ref f) = true) (hb : Binds X.K fd ps ds) (hd : Vals dvs ds) (hx : Passes CX X E)
    (ha : PA X (e :: es) t) (hdb : (x == ("__debug__" : Str)) = false := by decide) (he : starEach (e :: es) X.env = (false, eval e X.env) :: starEach es X.env := by rfl) (hpl : (backTo pos (starEach es X.env)).any (·.1) = false := by rfl) :
    PE X (.Call (.Name x p) (e :: es) [] pos) (tCall sp dvs E t) := by
  intro pins s σ H Q I h
  refine wpAny_Call_Name_kw (ld_glob I hg hm ?_ hdb)
  refine PySem.W.callWith_K (h₀ := X.base) I.ok.mod.kin hk (thn (ha pos pins s σ H _ I h) fun us s1 ⟨vs, H1, I1, r, q⟩ => ⟨I1.kIn, ?_⟩) he hpl
  exact run_fn F hr hb hd hx I1 r q
/-- what a class must have to be made -/
structure Mk (K : PySem.W.Frag) (C f : Addr) : Prop where
  makes : PySem.W.makesIn K C = true
  init : PySem.W.findIn K (.ref C) "__init__" = some (some (.ref f))
  fn : PySem.W.isFn K (.ref f) = true
  kp : PySem.W.keepIn K (.ref C) = true

end

/-! ### keywords -/
/-- the values of the keywords, from the left -/
def PK (X : Cx) (kws : List Keyword) (t : TA) : Prop :=
  ∀ (pos : Pos) (pins : List (Addr × Obj)) (s : Shared) (σ : St) (H : Hp) (Q : List V → Hp → Prop), Inv X pins σ H s → t σ H Q → wpAny (model X.prog X.w) X.A (evalAll ((backToKw pos (keywordEach kws X.env)).map (·.2))) (AP X pins σ Q) X.xe s
section
variable {X : Cx} {CX : CXT} {k : Nat} {f C : Addr} {fd : FuncData} {ps ks : List Str} {sp : Sp} {E : XK} {x m : Str} {p pos apos kpos : Pos} {e o : Expr} {es : List Expr} {kws : List Keyword} {te ta : TE} {t tk : TA} {nm : Option Str}
/-- how a call with keywords binds: g puts the positional values us and the keywords' values ws (names ks) in the parameters' order, defaults among them -/
structure KBinds (K : PySem.W.Frag) (fd : FuncData) (ps ks : List Str) (g : List Value → List Value → List Value) (gV : List V → List V → List V) : Prop where
  to : ∀ (s : Shared) (us ws : List Value), K.In s.heap → (g us ws).length = ps.length → BindsTo s fd ⟨us, ks.zip ws⟩ (ps.zip (g us ws))
  rel : ∀ {vs : List V} {us : List Value} {zs : List V} {ws : List Value}, Vals vs us → Vals zs ws → Vals (gV vs zs) (g us ws)
def tCallK (sp : Sp) (gV : List V → List V → List V) (E : XK) (t tk : TA) : TE := fun σ H Q => t σ H fun vs H1 => tk σ H1 fun zs H2 => sp (gV vs zs) H2 Q E
variable {g : List Value → List Value → List Value} {gV : List V → List V → List V}
end

/-! ### a def's body keeps its promise -/
/-- names: the parameters first -/
structure FnScope (N P : List Str) (sc : Scope) : Prop where
  kind : sc.kind = .function
  co : sc.isCoroutine = false
  gen : sc.isGenerator = false
  nd : N.Nodup
  pre : N.take P.length = P
  par : ∀ x ∈ P, sc.names.lookup x = some .local ∨ sc.names.lookup x = some .cell
  nofree : ∀ y ∈ sc.names, y.2 ≠ .free

theorem bindL_out {kindOf : Str → Option NameKind} {x : Str} : ∀ {binds : List (Str × Value)} {m : Str → Option Value}, (∀ v, (x, v) ∉ binds) → bindL kindOf binds m x = m x
  | [], _, _ => rfl
  | (n, v) :: r, m, h => by
    unfold bindL
    rw [bindL_out fun w hw => h w (List.mem_cons_of_mem _ hw)]
    split
    · have : x ≠ n := by rintro rfl; exact h v List.mem_cons_self
      simp [this]
    · rfl
theorem bindC_out {kindOf : Str → Option NameKind} {x : Str} : ∀ {binds : List (Str × Value)} {m : Str → Option Value}, (∀ v, (x, v) ∉ binds) → bindC kindOf binds m x = m x
  | [], _, _ => rfl
  | (n, v) :: r, m, h => by
    unfold bindC
    rw [bindC_out fun w hw => h w (List.mem_cons_of_mem _ hw)]
    split
    · rfl
    · have : x ≠ n := by rintro rfl; exact h v List.mem_cons_self
      simp [this]
theorem bindL_get {kindOf : Str → Option NameKind} {x : Str} {v : Value} : ∀ {P : List Str} {vs : List Value} {i : Nat} {m : Str → Option Value}, P.Nodup → P[i]? = some x → vs[i]? = some v → kindOf x = some .local →
    bindL kindOf (P.zip vs) m x = some v
  | [], _, _, _, _, h, _, _ => by simp at h
  | _ :: _, [], _, _, _, _, h, _ => by simp at h
  | p :: P, w :: vs, 0, m, nd, h1, h2, hk => by
    simp at h1 h2; subst h1; subst h2
    show bindL kindOf ((p, w) :: P.zip vs) m p = _
    unfold bindL
    rw [bindL_out fun v hv => (List.nodup_cons.mp nd).1 (List.of_mem_zip hv).1, if_pos hk]
    simp
  | p :: P, w :: vs, i + 1, m, nd, h1, h2, hk => by
    show bindL kindOf ((p, w) :: P.zip vs) m x = _
    unfold bindL
    exact bindL_get (i := i) (List.nodup_cons.mp nd).2 (by simpa using h1) (by simpa using h2) hk
theorem bindC_get {kindOf : Str → Option NameKind} {x : Str} {v : Value} : ∀ {P : List Str} {vs : List Value} {i : Nat} {m : Str → Option Value}, P.Nodup → P[i]? = some x → vs[i]? = some v → kindOf x ≠ some .local →
    bindC kindOf (P.zip vs) m x = some v
  | [], _, _, _, _, h, _, _ => by simp at h
  | _ :: _, [], _, _, _, _, h, _ => by simp at h
  | p :: P, w :: vs, 0, m, nd, h1, h2, hk => by
    simp at h1 h2; subst h1; subst h2
    show bindC kindOf ((p, w) :: P.zip vs) m p = _
    unfold bindC
    rw [bindC_out fun v hv => (List.nodup_cons.mp nd).1 (List.of_mem_zip hv).1, if_neg hk]
    simp
  | p :: P, w :: vs, i + 1, m, nd, h1, h2, hk => by
    show bindC kindOf ((p, w) :: P.zip vs) m x = _
    unfold bindC
    exact bindC_get (i := i) (List.nodup_cons.mp nd).2 (by simpa using h1) (by simpa using h2) hk

/-- the names' values at the entry -/
def start (N : List Str) (vs : List V) : St := vs.map some ++ List.replicate (N.length - vs.length) none

/-- the context of a def's body, at its entry; an exception leaves the frame, then lies as CX says -/
def cxOf (CX : CXT) (P : Program) (w : World) (K : PySem.W.Frag) (mg : Str → Option Value) (base : Heap) (N : List Str) (qual : Str) (scope : Scope) (f : Addr) (cd : Value) (A : Around) (outer : List Env) (s : Shared) (H : Hp) (E : XK) : Cx where
  prog := P
  w := w
  K := K
  mg := mg
  base := base
  A := A.deeper (envOfC qual scope s.heap.objs.size f cd)
  N := N
  s₀ := s
  H₀ := H
  env := envOfC qual scope s.heap.objs.size f cd
  outer := outer
  stack := envOfC qual scope s.heap.objs.size f cd :: outer
  ex := []
  calm := true
  fn := fun _ => true
  pn := []
  xe := fun e s' => wpAny (model P w) (A.deeper (envOfC qual scope s.heap.objs.size f cd)) (leaving (envOfC qual scope s.heap.objs.size f cd) e) (fun _ s'' => CX outer H s E e s'') (fun e' s'' => CX outer H s E e' s'') s'

theorem cell_has {sc : Scope} {n : Nat} {x : Str} (h : sc.names.lookup x = some .cell) : ∃ c, (cellsFrom n sc.names []).lookup x = some c := by
  have q := PySem.W.cellsFrom_some sc.names n [] (.inl h)
  exact Option.isSome_iff_exists.mp q

theorem inv_start {CX : CXT} {P : Program} {w : World} {K : PySem.W.Frag} {mg : Str → Option Value} {base : Heap} {N ps : List Str} {qual : Str} {scope : Scope} {f : Addr} {cd : Value} {A : Around} {outer : List Env} {s s1 : Shared} {H : Hp} {E : XK} {us : List Value} {vs : List V}
    (S : FnScope N ps scope) (hd : A.handled = none) (e0 : Env0 P w K mg base A outer s H) (hl : vs.length = ps.length) (r : Vals vs us)
    (x : InCallC s s.heap.objs.size (bindL (envOfC qual scope s.heap.objs.size f cd).kindOf (ps.zip us) fun _ => none) (cellsFrom (s.heap.objs.size + 1) scope.names []) (bindC (envOfC qual scope s.heap.objs.size f cd).kindOf (ps.zip us) fun _ => none) s1) :
    Inv (cxOf CX P w K mg base N qual scope f cd A outer s H E) [] (start N vs) H s1 := by
  have hpl : ps.length ≤ N.length := by have := congrArg List.length S.pre; rw [List.length_take] at this; omega
  obtain ⟨h1, tk, rfl, hk⟩ := x.done
  have noA : ∀ b : Addr, b ∉ (cxOf CX P w K mg base N qual scope f cd A outer s H E).ex := fun b z => absurd (show b ∈ ([] : List Addr) from z) (by simp)
  refine ⟨⟨e0.mod, S.kind, rfl, rfl, Nat.le_refl _, fun y z c h1 h2 => ?_, fun y hy => ?_, fun y c _ h => ?_, fun _ => hd, Around.frames_deeper e0.frames, .inr ⟨rfl, rfl⟩, fun b z => absurd z (noA b), e0.bs, e0.bsz, fun b _ _ => noA b, fun b z => absurd z (noA b), e0.funs, e0.frf⟩,
    rfl, e0.bare, Un.kept hk, ⟨_, x.toInCall.ns, fun i y v h1 h2 h3 => ?_⟩, fun y c h => ⟨_, x.cell y c h⟩, e0.hok.fresh (Nat.le_refl _), fun y c h => ?_, fun p hp => absurd (show p ∈ ([] : List (Addr × Obj)) from hp) (by simp), e0.hok.kept hk, ?_⟩
  · exact name_of_addr x.apart (PySem.mem_of_lookup h1) (PySem.mem_of_lookup h2)
  · have hy : scope.names.lookup y = some .cell ∨ scope.names.lookup y = some .free := hy
    rcases hy with hy | hy
    · exact cell_has hy
    · exact absurd rfl (S.nofree _ (PySem.mem_of_lookup hy))
  · exact Nat.le_of_lt (x.above y c (PySem.mem_of_lookup h))
  · have hi : i < vs.length := by
      unfold start at h2
      by_cases hi : i < vs.length
      · exact hi
      · rw [List.getElem?_append_right (by simpa using hi)] at h2
        rw [List.getElem?_replicate] at h2
        split at h2 <;> cases h2
    have ha : vs[i]? = some v := by
      unfold start at h2
      rw [List.getElem?_append_left (by simpa using hi), List.getElem?_map] at h2
      cases e : vs[i]? with
      | none => rw [e] at h2; cases h2
      | some a => rw [e] at h2; cases h2; rfl
    obtain ⟨u, hu, rv⟩ := r.get ha
    have hp : ps[i]? = some y := by
      rw [← S.pre, List.getElem?_take_of_lt (by omega)]; exact h1
    have ndP : ps.Nodup := by rw [← S.pre]; exact S.nd.sublist (List.take_sublist _ _)
    refine ⟨u, rv, ?_⟩
    rcases S.par y (List.mem_of_getElem? hp) with k | k
    · exact .inl ⟨k, bindL_get ndP hp hu k⟩
    · obtain ⟨c, e⟩ := cell_has (n := s.heap.objs.size + 1) k
      refine .inr ⟨.inl k, c, e, ?_⟩
      have q := x.cell y c e
      rw [bindC_get ndP hp hu (by show scope.names.lookup y ≠ _; rw [k]; decide)] at q
      exact q
  · exact e0.hok.fresh (Nat.le_of_lt (x.above y c (PySem.mem_of_lookup h)))
  · unfold start
    show _ = N.length
    rw [List.length_append, List.length_map, List.length_replicate]
    omega

/-- THE RULE: a def (or a method) of the text, by its body. The body's reading t is chosen for each entry; it is run at the parameters' values -/
theorem fn_of {CX : CXT} {P : Program} {w : World} {K : PySem.W.Frag} {mg : Str → Option Value} {base : Heap} {k : Nat} {f : Addr} {name qual : Str} {params : Arguments} {body : List Stmt} {scope : Scope} {dV kV doc pm cdv ct oc : Value} {an od : Option Addr}
    {osl : Array (Option Value)} {N ps : List Str} {sp : Sp} (lk : K.lookup f = some ⟨oc, od, .func (PySem.W.fnOf name qual params body scope dV kV doc pm an cdv ct), osl⟩) (hcd : PySem.W.codeIn K cdv qual = true) (S : FnScope N ps scope)
    (len : ∀ vs H Q E, sp vs H Q E → vs.length = ps.length)
    (hbody : ∀ (A : Around) (outer : List Env) (s : Shared) (H : Hp) (vs : List V) (Q : VK) (E : XK), Room k (A.deeper (envOfC qual scope s.heap.objs.size f cdv)) → sp vs H Q E →
      ∃ t, PSs (cxOf CX P w K mg base N qual scope f cdv A outer s H E) body t ∧ t { nx := fun _ H' => Q .non H', rt := Q } (start N vs) H) :
    FnOk P w K mg base CX (k + 1) f (PySem.W.fnOf name qual params body scope dV kV doc pm an cdv ct) ps sp := by
  refine ⟨len, fun A outer s H args us vs Q E hr e0 hb r hsp => ?_⟩
  have hl := len _ _ _ _ hsp
  have KX : K.In s.heap := e0.mod.kin.keeps fun b o e => (e0.bs b o e).1
  have lim : s.heap.NoLimit := e0.mod.nolimit.keeps fun b o e => (e0.bs b o e).1
  have hkind : ∀ y ∈ ps.zip us, scope.names.lookup y.1 = some .local ∨ (scope.names.lookup y.1 = some .cell ∧ ((cellsFrom (s.heap.objs.size + 1) scope.names []).lookup y.1).isSome = true) := fun ⟨n, v⟩ hy => by
    rcases S.par n (List.of_mem_zip hy).1 with q | q
    · exact .inl q
    · exact .inr ⟨q, PySem.W.cellsFrom_some _ _ _ (.inl q)⟩
  refine codeAny_call_function hr.depth (KX _ _ lk) rfl S.co S.gen rfl (PySem.W.codeRec_of KX hcd) (hb _ _ _ _ ?_)
  refine wpAny_newFunctionEnv_cells S.kind hkind fun env he s1 x => ?_
  subst he
  refine ⟨lim.keeps x.toInCall.keep, codeAny_func ?_⟩
  obtain ⟨t, ht, hq⟩ := hbody A outer s H vs Q E (hr.deeper _) hsp
  have I : Inv (cxOf CX P w K mg base N qual scope f cdv A outer s H E) [] (start N vs) H s1 := inv_start S hr.hd e0 hl r x
  refine wpAny_mono (ht [] s1 (start N vs) H _ I hq) (fun fl s' hs => ?_) fun e s' hs => hs
  have fin : ∀ {σ' : St} {H' : Hp} {v : V} {u : Value}, Inv (cxOf CX P w K mg base N qual scope f cdv A outer s H E) [] σ' H' s' → RelV v u → Q v H' → CE outer P w H s Q u s' :=
    fun {σ' H' v u} J rv q => ⟨v, H', J.os, J.bare, J.base, J.hok, rv, q⟩
  cases fl with
  | ret u =>
    obtain ⟨v, σ', H', J, rv, q⟩ := hs
    exact fin J rv q
  | next =>
    obtain ⟨σ', H', J, q⟩ := hs
    exact fin (v := V.non) (u := Value.none) J rfl q
  | brk =>
    obtain ⟨_, _, _, q⟩ := hs
    exact False.elim q
  | cont =>
    obtain ⟨_, _, _, q⟩ := hs
    exact False.elim q
end L2

namespace L2
open PySem PySem.Spec PyProof.Rows
section
variable {X : Cx} {x : Str} {p pos : Pos} {e : Expr} {es : List Expr} {t : TA} {id T : String} {r : List V → Hp → VK → Prop}

def tCB (r : List V → Hp → VK → Prop) (t : TA) : TE := fun σ H Q => t σ H fun vs H1 => r vs H1 Q
/-- f(e, ..), f a built-in function -/
theorem pe_callB (hc : CallR X (.builtin id) r) (hg : Gl X x) (hm : X.mg x = none) (hv : bootBuiltins x = some (.builtin id)) (ha : PA X (e :: es) t) (hn : x ≠ "__name__" := by decide) (hdb : (x == ("__debug__" : Str)) = false := by decide)
    (he : starEach (e :: es) X.env = (false, eval e X.env) :: starEach es X.env := by rfl) (hpl : (backTo pos (starEach es X.env)).any (·.1) = false := by rfl) : PE X (.Call (.Name x p) (e :: es) [] pos) (tCB r t) := by
  intro pins s σ H Q I h
  refine wpAny_Call_Name_kw (ld_blt I hg hm hv ?_ hn hdb)
  exact PyProof.Rows.callWith_builtin1 (thn (ha pos pins s σ H _ I h) fun us s1 ⟨vs, H1, I1, r1, q1⟩ => hc pins s1 σ H1 vs us Q I1 r1 q1) he hpl
/-- T(e, ..), T a built-in type -/
theorem pe_callTy (hc : CallR X (.type T) r) (hg : Gl X x) (hm : X.mg x = none) (hv : bootBuiltins x = some (.type T)) (ha : PA X (e :: es) t) (hn : x ≠ "__name__" := by decide) (hdb : (x == ("__debug__" : Str)) = false := by decide)
    (he : starEach (e :: es) X.env = (false, eval e X.env) :: starEach es X.env := by rfl) (hpl : (backTo pos (starEach es X.env)).any (·.1) = false := by rfl) : PE X (.Call (.Name x p) (e :: es) [] pos) (tCB r t) := by
  intro pins s σ H Q I h
  refine wpAny_Call_Name_kw (ld_blt I hg hm hv ?_ hn hdb)
  exact PyProof.Rows.callWith_type1 (thn (ha pos pins s σ H _ I h) fun us s1 ⟨vs, H1, I1, r1, q1⟩ => hc pins s1 σ H1 vs us Q I1 r1 q1) he hpl
end
end L2

namespace HT
open PySem PyProof.Rows

/-- t < u of tuples of ints -/
def lexLt : List Int → List Int → Bool
  | [], [] => false
  | [], _ :: _ => true
  | _ :: _, [] => false
  | x :: xs, y :: ys => if x = y then lexLt xs ys else decide (x < y)
theorem lexLt_cons (x y : Int) (xs ys : List Int) : lexLt (x :: xs) (y :: ys) = if x = y then lexLt xs ys else decide (x < y) := rfl
section
open PySem.SeqAt
open PySem.AutoSeq1 (wpAny_loadPart')
open PySem.MeetsSeq PySem.MeetsSeq2 PySem.MeetsSeq3

end

section
variable {prog : Program} {w : World} {A : Around} {E : Value → Shared → Prop} {s : Shared}

/-! ### t[a:b], not the whole -/
/-- a slice's bound as a place among n (d where it is left out) -/
def sIx (n d : Nat) : Option Int → Nat
  | none => d
  | some v => if v < 0 then (v + (n : Int)).toNat else min v.toNat n
theorem sIx_none (n d : Nat) : sIx n d none = d := rfl
theorem sIx_nat (n d k : Nat) : sIx n d (some (k : Int)) = min k n := by
  show (if (k : Int) < 0 then ((k : Int) + (n : Int)).toNat else min (k : Int).toNat n) = min k n
  rw [if_neg (by omega), Int.toNat_natCast]
theorem sIx_le (n d : Nat) (hd : d ≤ n) (o : Option Int) : sIx n d o ≤ n := by
  cases o with
  | none => exact hd
  | some v =>
    show (if v < 0 then (v + (n : Int)).toNat else min v.toNat n) ≤ n
    by_cases hv : v < 0
    · rw [if_pos hv]; omega
    · rw [if_neg hv]; exact Nat.min_le_right _ _
theorem clip_eq (v : Int) (n d : Nat) : (if v < 0 then max (v + (n : Int)) 0 else min v (n : Int)) = ((sIx n d (some v) : Nat) : Int) := by
  show (if v < 0 then max (v + (n : Int)) 0 else min v (n : Int)) = (((if v < 0 then (v + (n : Int)).toNat else min v.toNat n) : Nat) : Int)
  by_cases hv : v < 0
  · simp only [if_pos hv]; omega
  · simp only [if_neg hv]; omega
theorem adjust_gen (lo hi : Option Int) (n : Nat) : Builtin.Slice.sliceAdjust lo hi 1 (n : Int) = (((sIx n 0 lo : Nat) : Int), ((sIx n n hi : Nat) : Int)) := by
  have h1 : ¬ ((1 : Int) < 0) := by omega
  unfold Builtin.Slice.sliceAdjust
  simp only [h1, if_false]
  refine Prod.ext ?_ ?_
  · cases lo with
    | none => rfl
    | some v => exact clip_eq v n 0
  · cases hi with
    | none => rfl
    | some v => exact clip_eq v n n
theorem places_gen (i j : Nat) : Builtin.Slice.slicePlaces (i : Int) (j : Int) 1 = j - i := by
  unfold Builtin.Slice.slicePlaces
  have h1 : (1 : Int) > 0 := by omega
  simp only [h1, if_true, Int.ediv_one]
  split <;> omega
theorem slicePart_ {v : Value} {o : Option Int} {Q : Option Int → Shared → Prop} (p : IsPart v o) (h : Q o s) : wpAny (model prog w) A (Builtin.Slice.slicePartIndex v) Q E s := by
  cases p with
  | none => exact slicePart_none h
  | int i t => exact slicePart_int h
theorem sliceApplied_gen {sl : Addr} {vl vu : Value} {lo hi : Option Int} {n : Nat} {Q : Int × Int × Nat → Shared → Prop} (hs : s.heap.IsSliceOf sl vl vu .none) (pl : IsPart vl lo) (pu : IsPart vu hi)
    (h : Q (((sIx n 0 lo : Nat) : Int), 1, sIx n n hi - sIx n 0 lo) s) : wpAny (model prog w) A (Builtin.Slice.sliceApplied (.ref sl) (pure (n : Int))) Q E s := by
  obtain ⟨os, hos, hcs, hds⟩ := id hs
  unfold Builtin.Slice.sliceApplied Builtin.Slice.sliceFields
  refine wpAny_bind (wpAny_bind (wpAny_field hos hds (x := vl) rfl (wpAny_bind (wpAny_field hos hds (x := vu) rfl (wpAny_bind (wpAny_field hos hds (x := .none) rfl (wpAny_pure ?_)))))))
  refine wpAny_bind (slicePart_none ?_)
  show wpAny _ _ (if ((1 : Int) == 0) = true then _ else _) _ _ s
  rw [if_neg (by decide)]
  refine wpAny_bind (slicePart_ pl (wpAny_bind (slicePart_ pu (wpAny_bind (wpAny_pure ?_)))))
  show wpAny _ _ (match Builtin.Slice.sliceAdjust lo hi 1 (n : Int) with | (lo, hi) => pure (lo, (1 : Int), Builtin.Slice.slicePlaces lo hi 1)) _ _ s
  rw [adjust_gen lo hi n]
  show wpAny _ _ (pure (((sIx n 0 lo : Nat) : Int), (1 : Int), Builtin.Slice.slicePlaces ((sIx n 0 lo : Nat) : Int) ((sIx n n hi : Nat) : Int) 1)) _ _ s
  rw [places_gen]
  exact wpAny_pure h
theorem pick_gen (xs : Array Value) (i k : Nat) : ((List.range k).filterMap fun (m : Nat) => xs[((i : Int) + (m : Int) * 1).toNat]?).toArray = ((xs.toList.drop i).take k).toArray := by
  have e : (fun (m : Nat) => xs[((i : Int) + (m : Int) * 1).toNat]?) = fun m => xs[i + m]? := by
    funext m
    have : ((i : Int) + (m : Int) * 1).toNat = i + m := by omega
    rw [this]
  rw [e]
  have := pick_run xs i k
  rw [List.filterMap_map] at this
  have e2 : ((fun x => xs[x]?) ∘ fun x => i + x) = fun m => xs[i + m]? := rfl
  rw [e2] at this
  rw [this]

theorem getItem_tuple_cut {t sl : Addr} {items : Array Value} {vl vu : Value} {lo hi : Option Int} {Q : Value → Shared → Prop} (ht : IsTup s.heap t items) (hs : s.heap.IsSliceOf sl vl vu .none) (pl : IsPart vl lo) (pu : IsPart vu hi)
    (hw : ¬ (sIx items.size 0 lo = 0 ∧ sIx items.size items.size hi = items.size))
    (h : Q (.ref s.heap.objs.size) { s with heap := s.heap.push { cls := .type "tuple", data := .seq ((items.toList.drop (sIx items.size 0 lo)).take (sIx items.size items.size hi - sIx items.size 0 lo)).toArray } })
    (hsz : items.size ≤ sizeLine) : wpAny (model prog w) A (getItem (.ref t) (.ref sl)) Q E s := by
  have htake : sizeOk (.seq ((items.toList.drop (sIx items.size 0 lo)).take (sIx items.size items.size hi - sIx items.size 0 lo)).toArray) := by
    show ((items.toList.drop (sIx items.size 0 lo)).take (sIx items.size items.size hi - sIx items.size 0 lo)).toArray.size ≤ sizeLine
    rw [List.size_toArray, List.length_take, List.length_drop, Array.length_toList]
    omega
  have hj : sIx items.size items.size hi ≤ items.size := sIx_le _ _ (Nat.le_refl _) hi
  obtain ⟨os, hos, hcs, hds⟩ := id hs
  have hTs : s.TypeIs (.ref sl) "slice" := ⟨os, hos, hcs⟩
  unfold getItem
  try with_reducible refine wpAny_holding ?_
  first | refine wpAny_bind (wpAny_pure ?_) | skip
  refine wpAny_bind (wpAny_sequenceKey ht.typeIs (by decide) ?_)
  refine wpAny_bind (wpAny_callSpecial?_slot (name := Str.ofString "__getitem__") ht.typeIs PyProof.Rows.slot_tuple_getitem
    (wpAny_call_entry PyProof.Rows.slot_tuple_getitem ht.typeIs entry_tuple_getitem ?_ (args_tuple_getitem _ _)))
  show wpAny _ _ (Builtin.Tuple.tupleItemsOf (.ref t) >>= _) _ _ s
  refine wpAny_bind (tupleItemsOf_ ht ?_)
  refine wpAny_bind (wpAny_typeOf hTs ?_)
  rw [if_pos (by decide)]
  refine wpAny_bind (sliceApplied_gen hs pl pu ?_)
  have hno : ¬ ((((sIx items.size 0 lo : Nat) : Int) == 0 && (1 : Int) == 1 && (sIx items.size items.size hi - sIx items.size 0 lo) == items.size) = true) := by
    intro q
    rw [Bool.and_eq_true, Bool.and_eq_true] at q
    have q1 : ((sIx items.size 0 lo : Nat) : Int) = 0 := eq_of_beq q.1.1
    have q2 : sIx items.size items.size hi - sIx items.size 0 lo = items.size := eq_of_beq q.2
    exact hw ⟨by omega, by omega⟩
  show wpAny _ _ (if (((sIx items.size 0 lo : Nat) : Int) == 0 && (1 : Int) == 1 && (sIx items.size items.size hi - sIx items.size 0 lo) == items.size) = true then _ else _) _ _ s
  rw [if_neg hno, pick_gen]
  first
    | exact wpAny_bind (m := Builtin.Tuple.tupleExact _) (wpAny_newObj_type (wpAny_pure ⟨_, rfl, wpAny_pure h⟩) htake)
    | exact wpAny_bind (m := Builtin.Tuple.tupleExact _) (wpAny_newObj_type (wpAny_bind (wpAny_pure (wpAny_pure ⟨_, rfl, wpAny_pure h⟩))) htake)
    | exact wpAny_bind (wpAny_bind (m := Builtin.Tuple.tupleExact _) (wpAny_newObj_type (wpAny_pure (wpAny_pure ⟨_, rfl, wpAny_pure h⟩)) htake))
    | exact wpAny_bind (wpAny_bind (m := Builtin.Tuple.tupleExact _) (wpAny_newObj_type (wpAny_pure ⟨_, rfl, wpAny_pure h⟩) htake))
end
end HT

namespace L2
open PySem PySem.Spec PyProof.Rows

/-! ### the parts of a slice -/
abbrev TO := St → Hp → (Option Int → Hp → Prop) → Prop
/-- a slice's part (left out, or an int) -/
def PO (X : Cx) (e : Option Expr) (t : TO) : Prop :=
  ∀ (pins : List (Addr × Obj)) (s : Shared) (σ : St) (H : Hp) (Q : Option Int → Hp → Prop), Inv X pins σ H s → t σ H Q →
    wpAny (model X.prog X.w) X.A (evalPart e X.env) (fun u s' => ∃ o H', Inv X pins σ H' s' ∧ IsPart u o ∧ Q o H') X.xe s
def tNoPart : TO := fun _ H Q => Q none H
def tPart (t : TE) : TO := fun σ H Q => t σ H fun x H1 => ∃ i, x = .int i ∧ Q (some i) H1

theorem intsAre_of {ns : List Int} : ∀ {us : List Value}, Vals (ns.map V.int) us → IntsAre us ns := by
  induction ns with
  | nil => intro us r; rw [List.map_nil] at r; cases r; exact .nil
  | cons n ns ih =>
    intro us r
    rw [List.map_cons] at r
    cases r with
    | cons r1 r2 =>
      obtain ⟨t, e⟩ := r1
      subst e
      exact .cons n t (ih r2)

section
variable {X : Cx} {e : Expr} {te : TE} {lo hi : Option Expr} {tl th : TO} {pos p2 : Pos}

theorem po_none : PO X none tNoPart := by
  intro pins s σ H Q I h
  rw [evalPart_none]
  exact wpAny_pure ⟨none, H, I, .none, h⟩
theorem po_some (h : PE X e te) : PO X (some e) (tPart te) := by
  intro pins s σ H Q I hw
  rw [evalPart_some]
  refine thn (h pins s σ H _ I hw) fun u s1 ⟨x, H1, I1, r1, q1⟩ => ?_
  obtain ⟨i, rfl, q⟩ := q1
  obtain ⟨t, rfl⟩ := r1
  exact ⟨some i, H1, I1, .int i t, q⟩

/-- what a slice of a value is, by values: the slice object stands at sl -/
def SlR (X : Cx) (r : V → Option Int → Option Int → Hp → VK → Prop) : Prop :=
  ∀ (pins : List (Addr × Obj)) (s : Shared) (σ : St) (H : Hp) (x : V) (v vl vu : Value) (lo hi : Option Int) (sl : Addr) (Q : VK), Inv X pins σ H s → RelV x v → s.heap.IsSliceOf sl vl vu .none → IsPart vl lo → IsPart vu hi → r x lo hi H Q →
    ∃ T id, typeLookup (.type T) "__getitem__" = pure (some (.builtin id)) ∧ s.TypeIs v T ∧ wpAny (model X.prog X.w) X.A (getItem v (.ref sl)) (EP X pins σ Q) X.xe s
def tSl (r : V → Option Int → Option Int → Hp → VK → Prop) (te : TE) (tl th : TO) : TE := fun σ H Q => te σ H fun x H1 => tl σ H1 fun l H2 => th σ H2 fun u H3 => r x l u H3 Q
/-- a[lo:hi], any a -/
theorem pe_slice {r : V → Option Int → Option Int → Hp → VK → Prop} (hr : SlR X r) (he : PE X e te) (hl : PO X lo tl) (hu : PO X hi th) : PE X (.Subscript e (.Slice lo hi none p2) pos) (tSl r te tl th) := by
  intro pins s σ H Q I h
  refine Subscript_ (thn (he pins s σ H _ I h) fun v s1 ⟨x, H1, I1, r1, q1⟩ => ?_)
  refine wpAny_Slice (thn (hl pins s1 σ H1 _ I1 q1) fun vl s2 ⟨l, H2, I2, pl, q2⟩ => thn (hu pins s2 σ H2 _ I2 q2) fun vu s3 ⟨u, H3, I3, pu, q3⟩ => ?_)
  rw [evalPart_none]
  refine wpAny_pure ?_
  have I4 : Inv X pins σ H3 { s3 with heap := s3.heap.push { cls := .type "slice", data := .fields #[vl, vu, .none] } } := I3.kept (t' := s3.toks) fun b ob q => Heap.get?_push_of_some _ q
  obtain ⟨T, id, hT, ht, hg⟩ := hr pins { s3 with heap := s3.heap.push { cls := .type "slice", data := .fields #[vl, vu, .none] } } σ H3 x v vl vu l u s3.heap.objs.size Q I4 r1 (Heap.IsSliceOf.new ..) pl pu q3
  show wpAny (model X.prog X.w) X.A (subscriptTail e (.Slice lo hi none p2) v (.ref s3.heap.objs.size)) (EP X pins σ Q) X.xe { s3 with heap := s3.heap.push { cls := .type "slice", data := .fields #[vl, vu, .none] } }
  exact tail_any (ops := [.ref s3.heap.objs.size, v]) ht hT hg (by with_unfolding_all rfl)

/-- the items of xs[lo:hi] -/
def cutV (xs : List V) (lo hi : Option Int) : List V := (xs.drop (HT.sIx xs.length 0 lo)).take (HT.sIx xs.length xs.length hi - HT.sIx xs.length 0 lo)
theorem cutV_length (xs : List V) (lo hi : Option Int) : (cutV xs lo hi).length ≤ xs.length := by
  unfold cutV
  rw [List.length_take, List.length_drop]
  omega
/-- t[lo:hi], not the whole of it (the whole would be t itself) -/
def rSlT (K : PySem.W.Frag) : V → Option Int → Option Int → Hp → VK → Prop := fun x lo hi H Q => ∃ a xs, x = .ref a ∧ SqT K H a xs ∧
  ¬ (HT.sIx xs.length 0 lo = 0 ∧ HT.sIx xs.length xs.length hi = xs.length) ∧ ∀ p, H p = none → Q (.ref p) (upd H p (.tup (cutV xs lo hi)))
theorem sl_tup : SlR X (rSlT X.K) := by
  intro pins s σ H x v vl vu lo hi sl Q I rx hs pl pu h
  obtain ⟨a, xs, rfl, hx, hw, q⟩ := h
  cases rx
  obtain ⟨its, r, ht, hz⟩ := I.tuple hx
  have hlen : its.toArray.size = xs.length := by rw [List.size_toArray]; exact r.length.symm
  refine ⟨"tuple", _, PyProof.Rows.slot_tuple_getitem.lookup, ht.typeIs, ?_⟩
  refine HT.getItem_tuple_cut ht hs pl pu (by rw [hlen]; exact hw) ?_ (by rw [hlen]; exact hz)
  rw [hlen]
  refine ⟨.ref s.heap.objs.size, _, I.laid (t' := s.toks) (o := .tup (cutV xs lo hi)) (fun b ob q => Heap.get?_push_of_some _ q) (Nat.le_refl _) ?_, rfl, q _ (I.hok.fresh (Nat.le_refl _))⟩
  exact ⟨Nat.le_trans (cutV_length xs lo hi) hz, _, (r.drop (HT.sIx xs.length 0 lo)).take (HT.sIx xs.length xs.length hi - HT.sIx xs.length 0 lo), IsTup.new _ _⟩

/-! ### t < u, t + u -/
def rLtT (K : PySem.W.Frag) : R2 := fun x y H Q => ∃ a b ns ms, x = .ref a ∧ y = .ref b ∧ SqT K H a (ns.map V.int) ∧ SqT K H b (ms.map V.int) ∧ Q (.bl (HT.lexLt ns ms)) H
/-- t + u, t not empty: u empty gives t itself -/
def rCatT (K : PySem.W.Frag) : R2 := fun x y H Q => ∃ a b xs ys, x = .ref a ∧ y = .ref b ∧ SqT K H a xs ∧ SqT K H b ys ∧ xs ≠ [] ∧ xs.length + ys.length ≤ sizeLine ∧
  (ys = [] → Q (.ref a) H) ∧ (ys ≠ [] → ∀ p, H p = none → Q (.ref p) (upd H p (.tup (xs ++ ys))))
end
end L2

namespace L2
open PySem PySem.Spec PyProof.Rows

/-! ### places -/
/-- the place that an index of any sign means -/
def ixN (n : Nat) (i : Int) : Option Nat := if 0 ≤ i then (if i < n then some i.toNat else none) else if -(n : Int) ≤ i then some (i + n).toNat else none
def atI {α : Type} (xs : List α) (i : Int) : Option α := (ixN xs.length i).bind fun j => xs[j]?
theorem ixN_seq {n : Nat} {i : Int} {j : Nat} (h : ixN n i = some j) : seqIndex? i n = some j ∧ j < n ∧ -(n : Int) ≤ i ∧ i < n := by
  unfold ixN at h
  by_cases h0 : 0 ≤ i
  · rw [if_pos h0] at h
    by_cases h1 : i < n
    · rw [if_pos h1] at h
      have e : i.toNat = j := Option.some.inj h
      exact ⟨by rw [seqIndex_of h0 h1, e], by omega, by omega, h1⟩
    · rw [if_neg h1] at h; cases h
  · rw [if_neg h0] at h
    by_cases h1 : -(n : Int) ≤ i
    · rw [if_pos h1] at h
      have e : (i + n).toNat = j := Option.some.inj h
      exact ⟨by rw [seqIndex_neg (by omega) h1, e], by omega, h1, by omega⟩
    · rw [if_neg h1] at h; cases h
theorem atI_get {α : Type} {xs : List α} {i : Int} {v : α} (h : atI xs i = some v) : ∃ j, seqIndex? i xs.length = some j ∧ xs[j]? = some v ∧ j < xs.length ∧ -(xs.length : Int) ≤ i ∧ i < xs.length := by
  unfold atI at h
  cases e : ixN xs.length i with
  | none => rw [e] at h; cases h
  | some j =>
    rw [e] at h
    obtain ⟨h1, h2, h3, h4⟩ := ixN_seq e
    exact ⟨j, h1, h, h2, h3, h4⟩
theorem atI_nat {α : Type} {xs : List α} {j : Nat} {v : α} (h : xs[j]? = some v) : atI xs (j : Int) = some v := by
  have hj : j < xs.length := (List.getElem?_eq_some_iff.mp h).1
  have e : ixN xs.length (j : Int) = some j := by
    unfold ixN
    rw [if_pos (by omega), if_pos (by omega)]; simp
  unfold atI; rw [e]; exact h
/-! ### what may be subscripted -/
/-- what stands as an index of a plain subscript -/
def PlainIx (b : Expr) : Prop := ∀ o i, subscripted b false o i = operate [o, i] (getItem o i)
/-- a subscript by values -/
def IxR (X : Cx) (r : R2) : Prop :=
  ∀ (value slice : Expr) (pins : List (Addr × Obj)) (s : Shared) (σ : St) (H : Hp) (x y : V) (v u : Value) (Q : VK), Inv X pins σ H s → RelV x v → RelV y u → r x y H Q →
    subscripted slice false v u = operate [v, u] (getItem v u) → wpAny (model X.prog X.w) X.A (subscriptTail value slice v u) (EP X pins σ Q) X.xe s
/-- a call of a builtin's method by values: the receiver, the arguments -/
def MtR (X : Cx) (id : String) (r : V → List V → Hp → VK → Prop) : Prop :=
  ∀ (pins : List (Addr × Obj)) (s : Shared) (σ : St) (H : Hp) (x : V) (xs : List V) (v : Value) (us : List Value) (Q : VK), Inv X pins σ H s → RelV x v → Vals xs us → r x xs H Q →
    wpAny (model X.prog X.w) X.A (call (.builtin id) (v :: us)) (EP X pins σ Q) X.xe s
section
variable {X : Cx} {a b : Expr} {ta tb : TE} {pos : Pos}
/-- a[b] -/
theorem pe_ix {r : R2} (hr : IxR X r) (ha : PE X a ta) (hb : PE X b tb) (hs : PlainIx b) : PE X (.Subscript a b pos) (tOp r ta tb) := by
  intro pins s σ H Q I h
  exact Subscript_ (binT ha hb I h fun v u s2 x y H2 I2 rx ry q => hr a b pins s2 σ H2 x y v u Q I2 rx ry q (hs _ _))

def rIxL (K : PySem.W.Frag) : R2 := fun x y H Q => ∃ p xs i v, x = .ref p ∧ y = .int i ∧ SqL K H p xs ∧ atI xs i = some v ∧ Q v H
def rIxT (K : PySem.W.Frag) : R2 := fun x y H Q => ∃ p xs i v, x = .ref p ∧ y = .int i ∧ SqT K H p xs ∧ atI xs i = some v ∧ Q v H
def rIxS : R2 := fun x y H Q => ∃ z i c, x = .str z ∧ y = .int i ∧ z.length ≤ sizeLine ∧ atI z.cps.toList i = some c ∧ Q (.str ⟨#[c]⟩) H
theorem ix_list : IxR X (rIxL X.K) := by
  intro value slice pins s σ H x y v u Q I rx ry h hs
  obtain ⟨p, xs, i, z, rfl, rfl, hq, he, q⟩ := h
  cases rx
  obtain ⟨t, rfl⟩ := ry
  obtain ⟨its, r, pl, hz⟩ := I.list hq
  obtain ⟨j, h1, h2, h3, h4, h5⟩ := atI_get he
  obtain ⟨w, ew, rw'⟩ := r.get h2
  have hl := r.length
  have hn := line63
  have fin : EP X pins σ Q w s := ⟨z, H, I, rw', q⟩
  by_cases h0 : 0 ≤ i
  · have hj : i.toNat = j := by
      rw [seqIndex_of h0 h5] at h1
      exact Option.some.inj h1
    exact item_listR pl.isList h0 (by omega) (by rw [hj]; simpa using ew) fin hs
  · have hj : (i + (its.toArray.size : Int)).toNat = j := by
      rw [seqIndex_neg (by omega) h4] at h1
      rw [List.size_toArray, ← hl]
      exact Option.some.inj h1
    exact subscriptTail_builtinR (x := w) pl.isList.typeIs slot_list_getitem.lookup
      (wpAny_getItem_list_neg (Q := fun r s' => r = w ∧ EP X pins σ Q r s') pl.isList (by omega) (by rw [List.size_toArray] <;> omega) (by omega) (by rw [hj]; simpa using ew) ⟨rfl, fin⟩) hs
theorem ix_tup : IxR X (rIxT X.K) := by
  intro value slice pins s σ H x y v u Q I rx ry h hs
  obtain ⟨p, xs, i, z, rfl, rfl, hq, he, q⟩ := h
  cases rx
  obtain ⟨t, rfl⟩ := ry
  obtain ⟨its, r, pl, hz⟩ := I.tuple hq
  obtain ⟨j, h1, h2, h3, h4, h5⟩ := atI_get he
  obtain ⟨w, ew, rw'⟩ := r.get h2
  have hl := r.length
  have hn := line63
  have fin : EP X pins σ Q w s := ⟨z, H, I, rw', q⟩
  exact subscriptTail_builtinR (x := w) pl.typeIs slot_tuple_getitem.lookup
    (getItem_tuple (j := j) (Q := fun r s' => r = w ∧ EP X pins σ Q r s') pl (by omega) (by omega) (by rw [List.size_toArray, ← hl]; exact h1) (by simpa using ew) ⟨rfl, fin⟩) hs
/-- list, tuple or str -/
def rIx (K : PySem.W.Frag) : R2 := fun x y H Q => rIxL K x y H Q ∨ rIxT K x y H Q ∨ rIxS x y H Q
/-! ### xs[i] = v, any sign -/
/-- the list's object behind a store -/
theorem mapSeq_set (its : List Value) (n j : Nat) (u : Value) : Obj.mapSeq (·.setIfInBounds j u) { cls := .type "list", data := .seq its.toArray n } = { cls := .type "list", data := .seq (its.set j u).toArray n } := by
  simp [Obj.mapSeq]
theorem Inv.lst {pins : List (Addr × Obj)} {σ : St} {H : Hp} {s : Shared} {p : Addr} {xs : List V} (I : Inv X pins σ H s) (h : H p = some (.lst xs)) :
    ∃ (its : List Value) (n : Nat), Vals xs its ∧ s.heap.get? p = some { cls := .type "list", data := .seq its.toArray n } ∧ xs.length ≤ sizeLine := by
  obtain ⟨z, its, n, r, e⟩ := I.hok p _ h
  exact ⟨its, n, r, e, z⟩
/-- the list at p is written by an update of its object -/
theorem Inv.lstUpd {pins : List (Addr × Obj)} {σ : St} {H : Hp} {s : Shared} {p : Addr} {xs ys : List V} {its its' : List Value} {n n' : Nat} {f : Obj → Obj} (I : Inv X pins σ H s) (h : H p = some (.lst xs))
    (ho : s.heap.get? p = some { cls := .type "list", data := .seq its.toArray n }) (hf : f { cls := .type "list", data := .seq its.toArray n } = { cls := .type "list", data := .seq its'.toArray n' }) (r : Vals ys its') (hz : ys.length ≤ sizeLine) (t : Nat) :
    Inv X pins σ (upd H p (.lst ys)) { s with heap := s.heap.update p f, toks := t } := by
  have e : (s.heap.update p f).get? p = some { cls := .type "list", data := .seq its'.toArray n' } := by
    rw [Heap.get?_update_self f ho (by rw [hf] <;> rfl), hf]
  refine I.write (x := p) (e := p) (by rw [h]; trivial) (.inl rfl) (fun b u hb q => (Heap.get?_update_other _ _ (Ne.symm hb)).trans q) ⟨_, e⟩ ?_
  exact ⟨hz, its', n', r, e⟩
def rSetL : V → V → V → Hp → (Hp → Prop) → Prop := fun o i v H Q => ∃ p xs k j, o = .ref p ∧ i = .int k ∧ H p = some (.lst xs) ∧ ixN xs.length k = some j ∧ Q (upd H p (.lst (xs.set j v)))
theorem set_list : PSet X rSetL := by
  intro pins s σ H o i v ov iv u Q I ro ri rv h
  obtain ⟨p, xs, k, j, rfl, rfl, hp, hj, q⟩ := h
  cases ro
  obtain ⟨t, rfl⟩ := ri
  obtain ⟨its, n, r, ho, hz⟩ := I.lst hp
  obtain ⟨h1, h2, h3, h4⟩ := ixN_seq hj
  have hl := r.length
  have hn := line63
  have I' : Inv X pins σ (upd H p (.lst (xs.set j v))) { s with heap := s.heap.update p (Obj.mapSeq (·.setIfInBounds j u)) } :=
    I.lstUpd hp ho (mapSeq_set its n j u) (r.set rv j) (by rw [List.length_set]; exact hz) s.toks
  by_cases h0 : 0 ≤ k
  · have hk : k.toNat = j := by
      rw [seqIndex_of h0 h4] at h1
      exact Option.some.inj h1
    exact PySem.W.ki_setAt ho h0 (by omega) (by rw [List.size_toArray, ← hl]; exact h4) (by rw [hk]; exact ⟨_, I', q⟩)
  · have hk : (k + (its.toArray.size : Int)).toNat = j := by
      rw [seqIndex_neg (by omega) h3] at h1
      rw [List.size_toArray, ← hl]
      exact Option.some.inj h1
    exact PySem.W.ki_setBack ho (by omega) (by rw [List.size_toArray, ← hl]; exact h3) (by omega) (by rw [hk]; exact ⟨_, I', q⟩)

/-! ### slices -/
theorem slice_bounds (lo hi : Option Int) (n : Nat) : (sliceBounds lo hi none n).1 = ((HT.sIx n 0 lo : Nat) : Int) ∧ (sliceBounds lo hi none n).2.1 = ((HT.sIx n n hi : Nat) : Int) ∧ (sliceBounds lo hi none n).2.2 = 1 := by
  refine ⟨?_, ?_, rfl⟩
  · cases lo with
    | none => simp [sliceBounds, HT.sIx]
    | some i =>
      simp only [sliceBounds, HT.sIx, Option.getD_none, show (1 : Int) > 0 by decide, if_true]
      by_cases h : i < 0
      · simp only [h, if_true] <;> omega
      · simp only [h, if_false] <;> omega
  · cases hi with
    | none => simp [sliceBounds, HT.sIx]
    | some i =>
      simp only [sliceBounds, HT.sIx, Option.getD_none, show (1 : Int) > 0 by decide, if_true]
      by_cases h : i < 0
      · simp only [h, if_true] <;> omega
      · simp only [h, if_false] <;> omega
theorem slicePick_cut (its : List Value) (lo hi : Option Int) : slicePick its.toArray lo hi none = ((its.drop (HT.sIx its.length 0 lo)).take (HT.sIx its.length its.length hi - HT.sIx its.length 0 lo)).toArray := by
  obtain ⟨h1, h2, h3⟩ := slice_bounds lo hi its.toArray.size
  unfold slicePick
  rw [h1, h2, h3]
  simp only [sliceRange_one, pick_run, List.size_toArray] <;> rfl
/-- xs[lo:hi] of a list: a new list -/
def rSlL (K : PySem.W.Frag) : V → Option Int → Option Int → Hp → VK → Prop := fun x lo hi H Q => ∃ a xs, x = .ref a ∧ SqL K H a xs ∧ ∀ p, H p = none → Q (.ref p) (upd H p (.lst (cutV xs lo hi)))
theorem sl_list : SlR X (rSlL X.K) := by
  intro pins s σ H x v vl vu lo hi sl Q I rx hs pl pu h
  obtain ⟨a, xs, rfl, hx, q⟩ := h
  cases rx
  obtain ⟨its, r, ht, hz⟩ := I.list hx
  have hlen := r.length
  refine ⟨"list", _, slot_list_getitem.lookup, ht.isList.typeIs, ?_⟩
  refine wpAny_getItem_list_slice ht.isList hs pl pu .none (by simp) ?_ (by rw [List.size_toArray] <;> omega)
  rw [slicePick_cut, ← hlen]
  refine ⟨.ref s.heap.objs.size, _, I.laid (t' := s.toks) (o := .lst (cutV xs lo hi)) (fun b ob q => Heap.get?_push_of_some _ q) (Nat.le_refl _) ?_, rfl, q _ (I.hok.fresh (Nat.le_refl _))⟩
  exact ⟨Nat.le_trans (cutV_length xs lo hi) hz, _, 0, (r.drop (HT.sIx xs.length 0 lo)).take (HT.sIx xs.length xs.length hi - HT.sIx xs.length 0 lo), Heap.get?_push_size _ rfl⟩

/-! ### in, not in: flat items -/
def flatV : V → Bool
  | .non => true
  | .bl _ => true
  | .int _ => true
  | .str _ => true
  | _ => false
/-- == of flat values -/
def eqV : V → V → Bool
  | .non, .non => true
  | .bl a, .bl b => a == b
  | .bl a, .int b => (if a then 1 else 0) == b
  | .int a, .bl b => a == (if b then 1 else 0)
  | .int a, .int b => a == b
  | .str a, .str b => a == b
  | _, _ => false
theorem eqAt_V {A : Around} {s : Shared} {y x : V} {u v : Value} (ry : RelV y u) (rx : RelV x v) (fy : flatV y = true) (fx : flatV x = true) : SeqAt.EqAt A s u v (eqV y x) := by
  cases y with
  | non =>
    cases ry
    cases x with
    | non => cases rx; exact SeqAt.EqAt.same _
    | bl b => cases rx; exact SeqAt.EqAt.none_bool b
    | int b => obtain ⟨t, rfl⟩ := rx; exact SeqAt.EqAt.none_int b t
    | str b => obtain ⟨t, rfl⟩ := rx; exact SeqAt.EqAt.none_str b t
    | _ => exact absurd (show false = true from fx) Bool.false_ne_true
  | bl a =>
    cases ry
    cases x with
    | non => cases rx; exact SeqAt.EqAt.bool_none a
    | bl b => cases rx; exact SeqAt.EqAt.bool_bool a b
    | int b => obtain ⟨t, rfl⟩ := rx; exact SeqAt.EqAt.bool_int a b t
    | str b => obtain ⟨t, rfl⟩ := rx; exact SeqAt.EqAt.bool_str a b t
    | _ => exact absurd (show false = true from fx) Bool.false_ne_true
  | int a =>
    obtain ⟨t', rfl⟩ := ry
    cases x with
    | non => cases rx; exact SeqAt.EqAt.int_none a t'
    | bl b => cases rx; exact SeqAt.EqAt.int_bool a t' b
    | int b => obtain ⟨t, rfl⟩ := rx; exact SeqAt.EqAt.int_int a t' b t
    | str b => obtain ⟨t, rfl⟩ := rx; exact SeqAt.EqAt.int_str a t' b t
    | _ => exact absurd (show false = true from fx) Bool.false_ne_true
  | str a =>
    obtain ⟨t', rfl⟩ := ry
    cases x with
    | non => cases rx; exact SeqAt.EqAt.str_none a t'
    | bl b => cases rx; exact SeqAt.EqAt.str_bool a t' b
    | int b => obtain ⟨t, rfl⟩ := rx; exact SeqAt.EqAt.str_int a t' b t
    | str b => obtain ⟨t, rfl⟩ := rx; exact SeqAt.EqAt.str_str a t' b t
    | _ => exact absurd (show false = true from fx) Bool.false_ne_true
  | _ => exact absurd (show false = true from fy) Bool.false_ne_true
/-- the items' answers, read off the values (a value's own answer does not lean on its token) -/
def eqU (x : V) (u : Value) : Bool := match u with
  | .none => eqV .non x
  | .bool b => eqV (.bl b) x
  | .int i _ => eqV (.int i) x
  | .str z _ => eqV (.str z) x
  | _ => false
theorem eqU_of {x y : V} {u : Value} (r : RelV y u) (f : flatV y = true) : eqU x u = eqV y x := by
  cases y with
  | non => cases r; rfl
  | bl b => cases r; rfl
  | int i => obtain ⟨t, rfl⟩ := r; rfl
  | str z => obtain ⟨t, rfl⟩ := r; rfl
  | _ => exact absurd (show false = true from f) Bool.false_ne_true
theorem any_eqU {x : V} : ∀ {xs : List V} {us : List Value}, Vals xs us → xs.all flatV = true → us.any (eqU x) = xs.any fun y => eqV y x
  | _, _, .nil, _ => rfl
  | y :: xs, u :: us, .cons r t, f => by
    rw [List.all_cons, Bool.and_eq_true] at f
    rw [List.any_cons, List.any_cons, eqU_of r f.1, any_eqU t f.2]
theorem mem_eqAt {A : Around} {s : Shared} {x : V} {v : Value} (rx : RelV x v) (fx : flatV x = true) : ∀ {xs : List V} {us : List Value}, Vals xs us → xs.all flatV = true → ∀ u ∈ us, SeqAt.EqAt A s u v (eqU x u)
  | _, _, .nil, _ => fun u hu => by cases hu
  | y :: xs, u :: us, .cons r t, f => fun u' hu => by
    rw [List.all_cons, Bool.and_eq_true] at f
    rcases List.mem_cons.mp hu with rfl | hu
    · rw [eqU_of r f.1]; exact eqAt_V r rx f.1 fx
    · exact mem_eqAt rx fx t f.2 u' hu
def inV (x : V) (xs : List V) : Bool := xs.any fun y => eqV y x
/-- x in a list or tuple of flat items -/
def rIn (K : PySem.W.Frag) (neg : Bool) : R2 := fun x y H Q => ∃ p xs, y = .ref p ∧ (SqL K H p xs ∨ SqT K H p xs) ∧ flatV x = true ∧ xs.all flatV = true ∧ Q (.bl (if neg then !inV x xs else inV x xs)) H
theorem op_notIn_seq : OpR X (compareOp .NotIn) (rIn X.K true) := by
  intro pins s σ H x y v u Q I rx ry h
  obtain ⟨p, xs, rfl, hq, fx, fs, q⟩ := h
  cases ry
  rcases hq with hq | hq
  · obtain ⟨its, r, pl, hz⟩ := I.list hq
    refine SeqAt.notIn_listAt (eqU x) pl.isList (fun w hw => mem_eqAt rx fx r fs w (by simpa using hw)) ⟨.bl _, H, I, rfl, ?_⟩
    rw [show its.toArray.any (eqU x) = its.any (eqU x) by simp, any_eqU r fs]
    exact q
  · obtain ⟨its, r, pl, hz⟩ := I.tuple hq
    refine SeqAt.notIn_tupleAt (eqU x) pl (fun w hw => mem_eqAt rx fx r fs w (by simpa using hw)) ⟨.bl _, H, I, rfl, ?_⟩
    rw [show its.toArray.any (eqU x) = its.any (eqU x) by simp, any_eqU r fs]
    exact q
/-! ### len, list(x), tuple(x) of any list or tuple that is read -/
theorem call_len_seq : CallR X (.builtin "len") (fun xs H Q => ∃ p ys, xs = [.ref p] ∧ (SqL X.K H p ys ∨ SqT X.K H p ys) ∧ Q (.int ys.length) H) := by
  intro pins s σ H xs us Q I r h
  obtain ⟨p, ys, rfl, hq, q⟩ := h
  obtain ⟨u, rfl, rx⟩ := vals1 r
  cases rx
  have hn := line63
  rcases hq with hq | hq
  · obtain ⟨its, r', pl, hz⟩ := I.list hq
    have hlen := r'.length
    exact Calls.call_len_list pl.isList (by simp only [List.size_toArray] <;> omega) ⟨.int ys.length, H, I.tok _, ⟨s.toks + 1, by rw [List.size_toArray, hlen]⟩, q⟩
  · obtain ⟨its, r', pl, hz⟩ := I.tuple hq
    have hlen := r'.length
    exact len_tuple pl (by simp only [List.size_toArray] <;> omega) ⟨.int ys.length, H, I.tok _, ⟨s.toks + 1, by rw [List.size_toArray, hlen]⟩, q⟩
theorem call_list_of : CallR X (.type "list") (fun xs H Q => ∃ p ys, xs = [.ref p] ∧ (SqL X.K H p ys ∨ SqT X.K H p ys) ∧ ∀ l, H l = none → Q (.ref l) (upd H l (.lst ys))) := by
  intro pins s σ H xs us Q I r h
  obtain ⟨p, ys, rfl, hq, q⟩ := h
  obtain ⟨u, rfl, rx⟩ := vals1 r
  cases rx
  have fin : ∀ (its : List Value), Vals ys its → ys.length ≤ sizeLine → ∀ (h' : Heap) (c' : Nat), (∀ b o', s.heap.get? b = some o' → h'.get? b = some o') →
      h'.get? s.heap.objs.size = some { cls := .type "list", dict := none, data := .seq its.toArray c', slots := #[] } → EP X pins σ Q (.ref s.heap.objs.size) { s with heap := h' } := fun its r' hz h' c' kp e =>
    ⟨.ref s.heap.objs.size, _, I.laid (t' := s.toks) kp (Nat.le_refl _) (show ObjOk X.prog X.w _ h' _ (.lst ys) from ⟨hz, its, c', r', e⟩), rfl, q _ (I.hok.fresh (Nat.le_refl _))⟩
  rcases hq with hq | hq
  · obtain ⟨its, r', pl, hz⟩ := I.list hq
    have hlen := r'.length
    obtain ⟨o, ho, hc, n, hd⟩ := pl.isList
    exact call_list_seq p (.inl rfl) ho hc hd (fun h' c' kp e => fin its r' hz h' c' kp e) (by simp only [List.size_toArray] <;> omega)
  · obtain ⟨its, r', pl, hz⟩ := I.tuple hq
    have hlen := r'.length
    obtain ⟨o, ho, hc, n, hd⟩ := pl
    exact call_list_seq p (.inr rfl) ho hc hd (fun h' c' kp e => fin its r' hz h' c' kp e) (by simp only [List.size_toArray] <;> omega)
/-! ### the call of a builtin's method: o.m(..) -/
/-- the value is of that builtin type -/
def tyV (K : PySem.W.Frag) (T : String) (x : V) (H : Hp) : Prop := match x with
  | .str _ => T = "str"
  | .int _ => T = "int"
  | .ref p => (T = "list" ∧ ∃ xs, SqL K H p xs) ∨ (T = "tuple" ∧ ∃ o, K.lookup p = some o ∧ o.cls = .type "tuple" ∧ o.dict = none) ∨
      (T = "dict" ∧ ((∃ kvs, H p = some (.dK kvs)) ∨ ∃ kvs, H p = some (.dT kvs))) ∨ (T = "set" ∧ ∃ S n, H p = some (.set S n))
  | _ => False
theorem tyV_is {pins : List (Addr × Obj)} {σ : St} {H : Hp} {s : Shared} {T : String} {x : V} {v : Value} (I : Inv X pins σ H s) (r : RelV x v) (ty : tyV X.K T x H) :
    s.TypeIs v T ∧ ∀ a, v = .ref a → ∃ ob, s.heap.get? a = some ob ∧ ob.dict = none := by
  cases x with
  | str z =>
    obtain ⟨t, rfl⟩ := r
    cases (show T = "str" from ty)
    exact ⟨typeIs_str s z t, fun _ e => nomatch e⟩
  | int i =>
    obtain ⟨t, rfl⟩ := r
    cases (show T = "int" from ty)
    exact ⟨typeIs_int s i t, fun _ e => nomatch e⟩
  | ref p =>
    cases r
    rcases ty with ⟨rfl, xs, hq⟩ | ⟨rfl, o, hk, hc, hd⟩ | ⟨rfl, hk⟩ | ⟨rfl, S, n, hk⟩
    · obtain ⟨its, _, pl, _⟩ := I.list hq
      refine ⟨pl.isList.typeIs, fun a e => ?_⟩
      cases e
      obtain ⟨o, n, e, c, hd, _⟩ := pl
      exact ⟨o, e, hd⟩
    · refine ⟨⟨o, I.kIn p o hk, hc⟩, fun a e => ?_⟩
      cases e
      exact ⟨o, I.kIn _ o hk, hd⟩
    · have z : ∃ o, s.heap.get? p = some o ∧ o.ExactDict := by
        rcases hk with ⟨kvs, hk⟩ | ⟨kvs, hk⟩
        · obtain ⟨_, _, _, _, o, _, _, e, ex, _⟩ := I.hok p _ hk
          exact ⟨o, e, ex⟩
        · obtain ⟨_, _, _, _, o, _, _, e, ex, _⟩ := I.hok p _ hk
          exact ⟨o, e, ex⟩
      obtain ⟨o, e, ex⟩ := z
      refine ⟨⟨o, e, ex.1⟩, fun a e2 => ?_⟩
      cases e2
      exact ⟨o, e, ex.2.1⟩
    · obtain ⟨o, _, _, _, e, ex, _⟩ := I.hok p _ hk
      refine ⟨⟨o, e, ex.1⟩, fun a e2 => ?_⟩
      cases e2
      exact ⟨o, e, ex.2.1⟩
  | _ => exact False.elim ty
def tBM0 (K : PySem.W.Frag) (T : String) (r : V → List V → Hp → VK → Prop) (to : TE) : TE := fun σ H Q => to σ H fun x H1 => tyV K T x H1 ∧ r x [] H1 Q
def tBM (K : PySem.W.Frag) (T : String) (r : V → List V → Hp → VK → Prop) (to : TE) (t : TA) : TE := fun σ H Q => to σ H fun x H1 => tyV K T x H1 ∧ t σ H1 fun xs H2 => r x xs H2 Q
variable {o e : Expr} {es : List Expr} {to : TE} {t : TA} {name : Str} {apos cpos : Pos} {T id : String} {r : V → List V → Hp → VK → Prop}
theorem pe_bm0 (pa : PlainAttrs T) (slot : Slot T name id) (hty : typeOf (.builtin id) = pure (.type "method_descriptor")) (hm : MtR X id r) (ho : PE X o to)
    (hbase : attributeBase o name X.env (eval o X.env) = eval o X.env := by rfl) (hline : (apos.endLine == cpos.line) = true := by rfl) : PE X (.Call (.Attribute o name apos) [] [] cpos) (tBM0 X.K T r to) := by
  intro pins s σ H Q I h
  refine wpAny_Call_method0_late hbase hline (thn (ho pins s σ H _ I h) fun v s1 ⟨x, H1, I1, r1, ty, q1⟩ => ?_)
  obtain ⟨h1, h2⟩ := tyV_is I1 r1 ty
  exact ⟨T, id, pa, slot, hty, h1, h2, Calls.callWith_builtin rfl (PySem.evalArgs_none (hm pins s1 σ H1 x [] v [] Q I1 r1 .nil q1))⟩
theorem pe_bm (pa : PlainAttrs T) (slot : Slot T name id) (hty : typeOf (.builtin id) = pure (.type "method_descriptor")) (hm : MtR X id r) (ho : PE X o to) (ha : PA X (e :: es) t)
    (hbase : attributeBase o name X.env (eval o X.env) = eval o X.env := by rfl)
    (hfew : ((backTo cpos (starEach (e :: es) X.env)).all (fun x => !x.1) && (backToKw cpos (keywordEach [] X.env)).all (fun x => x.1.isSome)
      && decide ((e :: es).length + ([] : List Keyword).length + (if ([] : List Keyword).isEmpty then 0 else 1) < 30)) = true := by rfl)
    (hline : (apos.endLine == cpos.line) = true := by rfl) (hs : starEach (e :: es) X.env = (false, eval e X.env) :: starEach es X.env := by rfl) (hplain : (backTo cpos (starEach es X.env)).any (·.1) = false := by rfl) :
    PE X (.Call (.Attribute o name apos) (e :: es) [] cpos) (tBM X.K T r to t) := by
  intro pins s σ H Q I h
  refine wpAny_Call_method_late hbase hfew hline rfl (thn (ho pins s σ H _ I h) fun v s1 ⟨x, H1, I1, r1, ty, q1⟩ => ?_)
  obtain ⟨h1, h2⟩ := tyV_is I1 r1 ty
  refine ⟨T, id, pa, slot, hty, h1, h2, ?_⟩
  have hA := ha cpos pins s1 σ H1 _ I1 q1
  rw [hs] at hA ⊢
  refine Calls.callWith_builtin (by show (false || (backTo cpos (starEach es X.env)).any (·.1)) = false; rw [hplain] <;> rfl) (Calls.evalArgs_plain ?_)
  exact thn hA fun us s2 ⟨vs, H2, I2, r2, q2⟩ => hm pins s2 σ H2 x vs v us Q I2 r1 r2 q2
/- xs.append(e), list.index on a module's tuple .. are MtR facts of 06m -/
end
end L2

namespace L2
open PySem PySem.Spec PyProof.Rows

def MtM (X : Cx) (id : String) (r : V → List V → Hp → VK → Prop) : Prop :=
  ∀ (pins : List (Addr × Obj)) (s : Shared) (σ : St) (H : Hp) (x : V) (xs : List V) (v : Value) (us : List Value) (Q : VK), Inv X pins σ H s → RelV x v → Vals xs us → r x xs H Q →
    wpAny (model X.prog X.w) X.A (call (.builtin id) (v :: us)) (EP X pins σ Q) X.xe s

/-! ### lists of values -/
theorem Vals.one : ∀ {x : V} {us : List Value}, Vals [x] us → ∃ u, us = [u] ∧ RelV x u
  | _, _, .cons r .nil => ⟨_, rfl, r⟩
theorem Vals.zero : ∀ {us : List Value}, Vals [] us → us = []
  | _, .nil => rfl
theorem Vals.rep {xs : List V} {us : List Value} (h : Vals xs us) : ∀ k : Nat, Vals (List.replicate k xs).flatten (List.replicate k us).flatten
  | 0 => .nil
  | k + 1 => by
    rw [List.replicate_succ, List.replicate_succ, List.flatten_cons, List.flatten_cons]
    exact Vals.append h (Vals.rep h k)
theorem foldl_rep (its : List Value) : ∀ (k : Nat) (acc : List Value),
    List.foldl (fun x1 x2 => x1 ++ x2) acc.toArray (List.replicate k its.toArray) = (acc ++ (List.replicate k its).flatten).toArray
  | 0, acc => by simp
  | k + 1, acc => by
    have e : acc.toArray ++ its.toArray = (acc ++ its).toArray := by simp
    have e2 : (acc ++ its) ++ (List.replicate k its).flatten = acc ++ (List.replicate (k + 1) its).flatten := by
      rw [List.replicate_succ, List.flatten_cons, List.append_assoc]
    rw [← e2, ← foldl_rep its k (acc ++ its), ← e, List.replicate_succ, List.foldl_cons]

section
variable {X : Cx} {pins : List (Addr × Obj)} {σ : St} {H : Hp} {s : Shared} {l b : Addr} {xs ys zs : List V}

/-! ### the two steps: a tracked list is rewritten, a new list is laid -/
theorem Inv.lset {its its' : List Value} {n : Nat} {f : Array Value → Array Value} {t' : Nat} (I : Inv X pins σ H s) (hH : H l = some (.lst xs))
    (e : s.heap.get? l = some { cls := .type "list", data := .seq its.toArray n }) (hf : f its.toArray = its'.toArray) (hv : Vals ys its') (hz : ys.length ≤ sizeLine) :
    Inv X pins σ (upd H l (.lst ys)) { s with heap := s.heap.update l (Obj.mapSeq f), toks := t' } := by
  have q := PySem.IsL.update e f
  rw [hf] at q
  refine I.write (x := l) (e := l) (by rw [hH]; exact trivial) (.inl rfl) (fun b' u hb hu => (Heap.get?_update_other s.heap (Obj.mapSeq f) (Ne.symm hb)).trans hu) ⟨_, q⟩ ?_
  exact ⟨hz, its', _, hv, q⟩
theorem Inv.lnew {its : List Value} {t' : Nat} (I : Inv X pins σ H s) (hv : Vals ys its) (hz : ys.length ≤ sizeLine) :
    Inv X pins σ (upd H s.heap.objs.size (.lst ys)) { s with heap := s.heap.push { cls := .type "list", data := .seq its.toArray }, toks := t' } :=
  I.laid (fun _ _ q => Heap.get?_push_of_some _ q) (Nat.le_refl _) ⟨hz, its, 0, hv, Heap.get?_push_size _ rfl⟩
theorem Inv.fresh (I : Inv X pins σ H s) : H s.heap.objs.size = none := I.hok.fresh (Nat.le_refl _)
theorem Inv.lstM (I : Inv X pins σ H s) (hH : H l = some (.lst xs)) : xs.length ≤ sizeLine ∧ ∃ (its : List Value) (n : Nat), Vals xs its ∧ xs.length = its.length ∧ s.heap.get? l = some { cls := .type "list", data := .seq its.toArray n } := by
  obtain ⟨z, its, n, r, e⟩ := I.hok l _ hH
  exact ⟨z, its, n, r, r.length, e⟩

theorem notLongL {n : Nat} (h : n ≤ sizeLine) : Builtin.List.listTooLong n = false := by
  unfold Builtin.List.listTooLong
  exact decide_eq_false (by omega)
end

section
variable {X : Cx}

/-! ### methods -/
def rAppend : V → List V → Hp → VK → Prop := fun x vs H Q => ∃ l xs y, x = .ref l ∧ vs = [y] ∧ H l = some (.lst xs) ∧ xs.length < sizeLine ∧ Q .non (upd H l (.lst (xs ++ [y])))
theorem mt_append : MtM X "list.append" rAppend := by
  intro pins s σ H x vs v us Q I rx rv h
  obtain ⟨l, xs, y, rfl, rfl, hH, hz, q⟩ := h
  cases rx
  obtain ⟨u, rfl, ru⟩ := rv.one
  obtain ⟨z, its, n, r, hl, e⟩ := I.lstM hH
  refine call_meets F.slot_list_append ⟨_, e, rfl⟩ F.entry_list_append (F.args_list_append_2 _ _) (PySem.list_append l its.toArray n u (by rw [List.size_toArray]; omega)) ⟨e, ?_⟩
  refine ⟨.non, _, I.lset (its' := its ++ [u]) hH e (by simp) (r.append (.cons ru .nil)) ?_, rfl, q⟩
  rw [List.length_append, List.length_singleton]
  omega

def rExtend : V → List V → Hp → VK → Prop := fun x vs H Q => ∃ l b xs zs, x = .ref l ∧ vs = [.ref b] ∧ H l = some (.lst xs) ∧ H b = some (.lst zs) ∧ xs.length + zs.length ≤ sizeLine ∧ Q .non (upd H l (.lst (xs ++ zs)))
def rPop : V → List V → Hp → VK → Prop := fun x vs H Q => ∃ l xs y, x = .ref l ∧ vs = [] ∧ H l = some (.lst xs) ∧ xs[xs.length - 1]? = some y ∧ Q y (upd H l (.lst xs.dropLast))
def rPopAt : V → List V → Hp → VK → Prop := fun x vs H Q => ∃ l xs i k y, x = .ref l ∧ vs = [.int i] ∧ H l = some (.lst xs) ∧ -(2 ^ 63) ≤ i ∧ i < 2 ^ 63 ∧ seqIndex? i xs.length = some k ∧ xs[k]? = some y ∧ Q y (upd H l (.lst (xs.eraseIdx k)))
def rReverse : V → List V → Hp → VK → Prop := fun x vs H Q => ∃ l xs, x = .ref l ∧ vs = [] ∧ H l = some (.lst xs) ∧ Q .non (upd H l (.lst xs.reverse))
def rClear : V → List V → Hp → VK → Prop := fun x vs H Q => ∃ l xs, x = .ref l ∧ vs = [] ∧ H l = some (.lst xs) ∧ Q .non (upd H l (.lst []))
theorem mt_clear : MtM X "list.clear" rClear := by
  intro pins s σ H x vs v us Q I rx rv h
  obtain ⟨l, xs, rfl, rfl, hH, q⟩ := h
  cases rx
  have hus := rv.zero
  subst hus
  obtain ⟨z, its, n, r, hl, e⟩ := I.lstM hH
  refine call_meets F.slot_list_clear ⟨_, e, rfl⟩ F.entry_list_clear (F.args_list_clear_1 _) (AutoSeq1.list_clear_list_0 l its.toArray n (by rw [List.size_toArray]; omega)) ⟨e, ?_⟩
  exact ⟨.non, _, I.lset (its' := []) (ys := []) hH e rfl .nil (Nat.zero_le _), rfl, q⟩

/-! ### list + list, list += list, list * int -/
def rCat : R2 := fun x y H Q => ∃ l b xs zs, x = .ref l ∧ y = .ref b ∧ H l = some (.lst xs) ∧ H b = some (.lst zs) ∧ xs.length + zs.length ≤ sizeLine ∧ ∀ p, H p = none → Q (.ref p) (upd H p (.lst (xs ++ zs)))
/-- a list times an int (a negative one is nothing) -/
def rRep : R2 := fun x y H Q => ∃ l k xs, x = .ref l ∧ y = .int k ∧ H l = some (.lst xs) ∧ -(2 ^ 63) ≤ k ∧ k < 2 ^ 63 ∧ xs.length * k.toNat ≤ sizeLine ∧
  ∀ p, H p = none → Q (.ref p) (upd H p (.lst (List.replicate k.toNat xs).flatten))
theorem len_rep {α : Type} (xs : List α) (k : Nat) : (List.replicate k xs).flatten.length = k * xs.length := by
  induction k with
  | zero => simp
  | succ k ih => rw [List.replicate_succ, List.flatten_cons, List.length_append, ih, Nat.succ_mul, Nat.add_comm]
theorem op_rep : OpR X (binaryOp .Mult) rRep := by
  intro pins s σ H x y v u Q I rx ry h
  obtain ⟨l, k, xs, rfl, rfl, hH, h1, h2, hz, q⟩ := h
  cases rx
  obtain ⟨t, rfl⟩ := ry
  obtain ⟨z, its, n, r, hl, e⟩ := I.lstM hH
  have hlen : its.toArray.size * k.toNat ≤ sizeLine := by rw [List.size_toArray, ← hl]; exact hz
  have hcap : ¬ its.toArray.size * k.toNat > (2 ^ 63 - 1) / 8 := by
    have : (sizeLine : Nat) ≤ (2 ^ 63 - 1) / 8 := by decide
    omega
  have hfit : ¬ (!Builtin.List.listFitsIndex k) = true := by
    rw [fitsIndex_both h1 h2]
    exact Bool.false_ne_true
  have hlong : ¬ Builtin.List.listTooLong (its.toArray.size * k.toNat) = true := by
    rw [notLongL hlen]
    exact Bool.false_ne_true
  have hnew : List.foldl (fun x1 x2 => x1 ++ x2) #[] (List.replicate (if its.toArray.isEmpty = true then 0 else k.toNat) its.toArray) = (List.replicate k.toNat its).flatten.toArray := by
    have f0 : ∀ m : Nat, List.foldl (fun x1 x2 => x1 ++ x2) #[] (List.replicate m its.toArray) = (List.replicate m its).flatten.toArray := fun m => by
      have := foldl_rep its m []
      rw [List.nil_append] at this
      exact this
    rw [f0]
    cases its with
    | nil => simp
    | cons a r' => rw [if_neg (by simp)]
  refine wpAny_binaryOp_repeat_ref (T := "list") (U := "int") (by decide) ⟨_, e, rfl⟩ (fun s' => typeIs_int s' k t) noFill_list_mul F.fills_int_mul F.slot_int_rmul repeat_list F.slot_int_index.lookup
    (call_meets F.slot_int_rmul (typeIs_int s k t) F.entry_int_rmul (F.args_int_rmul_2 _ _) (int___rmul___int_list k t l its.toArray n)
      ⟨e, rfl, ⟨_, e, rfl⟩, call_meets F.slot_list_mul ⟨_, e, rfl⟩ F.entry_list_mul (F.args_list_mul_2 _ _) (AutoListH.list___mul___list_int_3 l its.toArray n k t hfit hcap hlong) ⟨e, ?_⟩⟩)
  rw [hnew]
  exact ⟨.ref _, _, I.lnew (t' := s.toks) (r.rep k.toNat) (by rw [len_rep, Nat.mul_comm]; exact hz), rfl, q _ I.fresh⟩

/-! ### del xs[i] -/
end

/-! ### xs[a:b] = ys -/
section
variable {prog : Program} {w : World} {A : Around} {E : Value → Shared → Prop} {s : Shared}
set_option maxRecDepth 100000 in
end

section
variable {X : Cx}
end
end L2

namespace Att
open PySem PySem.W PySem.Calls PyProof.Rows

/-! ### the script -/
theorem ints_of_wellAll {P : Params} {h : Heap} : ∀ (ns : List Int) (vs : List Value), WellAll P h vs (ns.map WData.int) → IntsAre vs ns := by
  intro ns
  induction ns with
  | nil =>
    intro vs w
    rw [List.map_nil] at w
    cases w
    exact .nil
  | cons n ns ih =>
    intro vs w
    rw [List.map_cons] at w
    cases w with
    | cons a b =>
      cases a
      exact .cons _ _ (ih _ b)

theorem script_of {l : OpenLaw} {n : Nat} (hn : l.most = some n) {P : Params} {h : Heap} {args : List WData} {vals : List Value}
    (hpre : l.row.toRowW.claim.pre args = true) (hwl : WellAll P h vals args) :
    ∃ a vs ns, vals = [Value.ref a] ∧ args = [WData.list (ns.map WData.int)] ∧ h.get? a = some { cls := .type "list", data := .seq vs.toArray } ∧ IntsAre vs ns ∧ ns.length ≤ n := by
  have hsh : WShape.hasAll [] args [.list .int] = true := (pre_splitW hpre).1
  have hc : l.pre.holds [] { args := args } = true := (pre_splitW hpre).2
  obtain ⟨d, r, rfl, h1, h2⟩ := hasAllW_cons hsh
  obtain rfl := hasAllW_nil h2
  obtain ⟨xs, rfl, h3⟩ := hasW_list h1
  obtain ⟨ns, rfl⟩ := items_int h3
  have hlen : ns.length ≤ n := by
    unfold OpenLaw.pre at hc
    have h4 : (WTm.not (.lt (.lit (.int (n : Int))) (.len (.arg 0)))).holds [] { args := [.list (ns.map .int)] } = true := by
      have h4 := (holds_andW hc).1
      rw [hn] at h4
      exact h4
    have h5 := condW_of h4 (w_not (w_lt w_lit (w_len_list (w_arg rfl))))
    rw [List.length_map] at h5
    refine Nat.le_of_not_lt fun q => ?_
    have q' : (n : Int) < ((ns.length : Nat) : Int) := by omega
    first
      | (rw [decide_eq_true q'] at h5; exact absurd h5 (by decide))
      | (simp at h5; omega)
  cases hwl with
  | cons w1 w2 =>
    cases w2
    cases w1 with
    | list ho hall => exact ⟨_, _, ns, rfl, rfl, ho, ints_of_wellAll ns _ hall, hlen⟩

theorem post_true (l : OpenLaw) (args : List WData) : l.row.toRowW.claim.post args (.bool true) args = true :=
  postW_of (r := l.row.toRowW) (X := (true == true))
    (show WShape.has [] (.bool true) .bool = true by first | rfl | decide | simp [WShape.has, WShape.arms, WShape.armsAll])
    (show (WTm.eq .res (.lit (.bool true))).value [] { args := args, res := some (.bool true), after := args } = some (.bool (true == true)) from w_eq_bool (w_res rfl) w_lit) rfl

/-! ### the attachment: holds_open's last premise (the goal 'hc' behind k_head) from a wpAny of the law's body -/
/-- the same from a codeAny of the CALL (for a layer whose function contracts speak of calls) -/
theorem attach_call {l : OpenLaw} {n : Nat} {q : Program} {loose : List Str} {XP : (Str → Option Value) → Heap → Prop} {YP : World → Heap → Prop} {d : DefRec}
    (hn : l.most = some n) (hdf : d.params.defaults = [])
    (call : ∀ (w : World) (s₀ s₁ : Shared) (mg mb : Str → Option Value) (fa : Addr) (o : Obj) (pm cd doc : Value) (a : Addr) (vs : List Value) (ns : List Int),
      Ground q loose [] XP w s₀ mg mb s₁.heap → YP w s₁.heap →
      s₁.heap.get? fa = some o → o.data = .func (docDef d.name d.params d.body d.scope pm cd doc) → s₁.heap.CodeRec cd d.name → mg d.name = some (.ref fa) →
      s₁.heap.get? a = some { cls := .type "list", data := .seq vs.toArray } → IntsAre vs ns → ns.length ≤ n → s₁.gens = #[] →
      codeAny (model l.prog w) callerA (.call (.ref fa) ⟨[.ref a], []⟩) (fun r s' => r = .ok (.ret (.bool true)) ∧ OldK s₁.heap s'.heap ∧ s'.os = s₁.os ∧ AllBare s'.gens) s₁) :
    WalkO q loose XP YP l.row.toRowW d [] (fun f vs => PySem.call f vs) := by
  intro w s₀ s₁ mg mb G Y fa o pm cd doc dV kV ho hd hcd hD hmg hg args vals as hpre hlay hrd hwl hlo
  obtain rfl : dV = .none := Dflts.none hD hdf
  obtain rfl : kV = .none := Dflts.noKw hD
  obtain ⟨a, vs, ns, rfl, rfl, hobj, hints, hlen⟩ := script_of hn hpre hwl
  refine enter_call (codeAny_mono (call w s₀ s₁ mg mb fa o pm cd doc a vs ns G Y ho (fd_plain hd) hcd hmg hobj hints hlen hg) fun r s' hq => ?_)
  obtain ⟨rfl, h2, h3, h4⟩ := hq
  exact ⟨.inl ⟨.bool true, .bool true, [], rfl, fun _ => rfl, .bool true, post_true l _, fun _ => ⟨List.Pairwise.nil, fun _ hm => (nomatch hm)⟩⟩, h2, h3, h4⟩

/-! ### rules over ANY heap (no ledger) from facts about the written part K: the library's own take a ledger (News) for what they write -/
section
variable {prog : Program} {w : World} {A : Around} {E : Value → Shared → Prop} {s : Shared} {K : Frag}

/-! the whole heap as the ledger: makes every rule that writes through a ledger a rule over any heap -/
def noObjs (h : Heap) : Heap := { h with objs := #[] }
def ledger (h : Heap) (L d : Addr) : List (Addr × Obj) := (List.range h.objs.size).filterMap fun a => if a = L ∨ a = d then none else (h.get? a).map fun o => (a, o)
end
end Att

namespace L2
open PySem PySem.Spec PyProof.Rows

theorem vals_ints : ∀ {vs : List Value} {ns : List Int}, IntsAre vs ns → Vals (ns.map V.int) vs
  | _, _, .nil => .nil
  | _, _, .cons n t h => .cons ⟨t, rfl⟩ (vals_ints h)

/-- nothing is tracked but the script, known to the object (or it is an object of the module) -/
def Only (H : Hp) : Prop := ∀ b, H b = none ∨ ∃ o xs, H b = some (.frz o (.lst xs))

/-- THE HEAD: the law's promise, at the heap behind the top. F, the promise of the law's def, may use that base is part of the heap (so K.In base, base.Ns mainGlobals mg stand in Mod) -/
theorem law_call {P : Program} {w : World} {K : PySem.W.Frag} {mg mb : Str → Option Value} {CX : CXT} {k : Nat} {fa a : Addr} {fd : FuncData} {x : Str} {sp : Sp} {s₁ : Shared} {vs : List Value} {ns : List Int}
    (KX : K.In s₁.heap) (hns : s₁.heap.Ns mainGlobals mg) (hb : s₁.heap.Ns builtinsNs mb) (hbb : ∀ x : Str, x ≠ "__name__" → mb x = bootBuiltins x) (hlim : s₁.heap.NoLimit) (hg : s₁.gens = #[])
    (ha : s₁.heap.get? a = some { cls := .type "list", data := .seq vs.toArray }) (hi : IntsAre vs ns) (hl : ns.length ≤ sizeLine) (hr : Room k callerA)
    (F : ∀ base : Heap, K.In base → base.Ns mainGlobals mg → FnOk P w K mg base CX k fa fd [x] sp) (hbind : ∀ (s : Shared) (u : Value), BindsTo s fd ⟨[u], []⟩ [(x, u)])
    (hsp : ∀ H : Hp, Only H → SqL K H a (ns.map V.int) → sp [.ref a] H (fun v _ => v = .bl true) fun _ _ _ => False)
    (hCX : ∀ H e s', CX [] H s₁ (fun _ _ _ => False) e s' → False) :
    codeAny (model P w) callerA (.call (.ref fa) ⟨[.ref a], []⟩) (fun r s' => r = .ok (.ret (.bool true)) ∧ OldK s₁.heap s'.heap ∧ s'.os = s₁.os ∧ AllBare s'.gens) s₁ := by
  have rv := vals_ints hi
  have lenV := hi.length
  -- from an abstract heap in which nothing but the script may be tracked
  have core : ∀ H : Hp, Only H → SqL K H a (ns.map V.int) → HOk P w H s₁.heap → (∀ b, H b ≠ none → b = a) → (H a ≠ none → K.lookup a = none) →
      codeAny (model P w) callerA (.call (.ref fa) ⟨[.ref a], []⟩) (fun r s' => r = .ok (.ret (.bool true)) ∧ OldK s₁.heap s'.heap ∧ s'.os = s₁.os ∧ AllBare s'.gens) s₁ := by
    intro H hO hS hok hA hK
    have base_of : ∀ {b : Addr} {o : Obj}, s₁.heap.get? b = some o → H b = none → (hidT s₁.heap H).get? b = some o := fun e n => hidT_get e n
    have noA : ∀ {b : Addr} {o : Obj} {es : Array DictEntry} {ep : Nat}, s₁.heap.get? b = some o → o.data = .dict es ep → H b = none := fun {b o es ep} e d => by
      cases q : H b with
      | none => rfl
      | some u =>
        have e' : b = a := hA b (by rw [q]; simp)
        subst e'
        rw [ha] at e; cases e
        have d' : Data.seq vs.toArray _ = Data.dict es ep := d
        cases d'
    have nsK : ∀ {b : Addr} {m : Str → Option Value}, s₁.heap.Ns b m → (hidT s₁.heap H).Ns b m := fun {b m} ⟨o, es, ep, e, d, r⟩ => ⟨o, es, ep, base_of e (noA e d), d, r⟩
    have hKb : K.In (hidT s₁.heap H) := fun b o e => base_of (KX b o e) (by
      cases q : H b with
      | none => rfl
      | some u =>
        have e' : b = a := hA b (by rw [q]; simp)
        subst e'
        rw [hK (by rw [q]; simp)] at e; cases e)
    have hM : Mod K mg (hidT s₁.heap H) := ⟨hKb, nsK hns, ⟨mb, nsK hb, hbb⟩, let ⟨mc, h1, h2⟩ := hlim; ⟨mc, nsK h1, h2⟩⟩
    have e0 : Env0 P w K mg (hidT s₁.heap H) callerA [] s₁ H := ⟨rfl, hM, fun b o e => of_hidT e, Nat.le_of_eq (hidT_size _ _), trivial, fun b hb => absurd (show b ∈ ([] : List Addr) from hb) (by simp), hok, .of_eq hg⟩
    refine codeAny_mono ((F _ hKb (nsK hns)).run callerA [] s₁ H ⟨[.ref a], []⟩ [.ref a] [.ref a] _ _ hr e0 (hbind s₁ (.ref a)) (.cons rfl .nil) (hsp H hO hS)) fun r s' h => ?_
    cases r with
    | error e => exact (hCX H e s' h).elim
    | ok fl =>
      cases fl with
      | next => exact False.elim h
      | brk => exact False.elim h
      | cont => exact False.elim h
      | ret u =>
        obtain ⟨v, H', os, bare, un, hok', r', q⟩ := h
        have q' : v = .bl true := q
        subst q'
        obtain rfl : u = Value.bool true := r'
        refine ⟨rfl, OldK.of_keep fun b o e => ?_, os, bare⟩
        cases q : H b with
        | none => exact un.keep b o e q (by intro z; exact absurd (show b ∈ ([] : List Addr) from z) (by simp)) (by simp)
        | some u =>
          rcases hO b with z | ⟨ob, xs, z⟩
          · rw [q] at z; cases z
          · have z2 := un.frzs b ob _ z
            obtain ⟨e1, _⟩ := hok b _ z
            obtain ⟨e2, _⟩ := hok' b _ z2
            rw [e] at e1; cases e1
            exact e2
  cases hk : K.lookup a with
  | some o =>
    -- the script is one of the module's own objects
    have e := KX a o hk
    rw [ha] at e
    cases e
    refine core (fun _ => none) (fun _ => .inl rfl) (.inr ⟨_, vs.toArray, _, hk, rfl, rfl, rfl, by rw [List.size_toArray, lenV]; exact hl, by simpa using rv⟩) (fun b u z => by have z' : (none : Option HO) = some u := z; cases z') (fun b z => absurd rfl z) fun z => absurd rfl z
  | none =>
    refine core (fun b => if b = a then some (.frz { cls := .type "list", data := .seq vs.toArray } (.lst (ns.map V.int))) else none) (fun b => ?_) (.inl (.inr ⟨{ cls := .type "list", data := .seq vs.toArray }, if_pos rfl⟩)) (fun b u z => ?_) (fun b z => ?_) fun _ => hk
    · by_cases hb : b = a
      · exact .inr ⟨_, _, if_pos hb⟩
      · exact .inl (if_neg hb)
    · by_cases hb : b = a
      · have z' := (if_pos hb).symm.trans z
        cases z'
        subst hb
        exact ⟨ha, by rw [List.length_map]; exact hl, vs, _, rv, ha⟩
      · have z' := (if_neg hb).symm.trans z
        cases z'
    · by_cases hb : b = a
      · exact hb
      · exact absurd (if_neg hb) z
end L2

namespace L2
open PySem PySem.Spec PyProof.Rows

abbrev KOf {K : PySem.W.Frag} {h : Heap} (_ : K.In h) : PySem.W.Frag := K

/-- the goal that k_head leaves (case hc), from the law's promise. F gives the function object fd (K's own) once, then the promise over every base -/
theorem walk_of {l : PySem.W.OpenLaw} {n k : Nat} {q : Program} {loose : List Str} {XP : (Str → Option Value) → Heap → Prop} {YP : World → Heap → Prop} {d : DefRec} {K : Params → PySem.W.Frag} {CX : World → CXT} {sp : World → Sp} {x : Str}
    (hn : l.most = some n) (hn2 : n ≤ sizeLine) (hdf : d.params.defaults = []) (hr : Room k callerA)
    (hY : ∀ (w : World) (h : Heap), YP w h → (K w.params).In h)
    (F : ∀ (w : World) (mg : Str → Option Value) (fa : Addr) (h : Heap), (K w.params).In h → h.Ns mainGlobals mg → mg d.name = some (.ref fa) →
      ∃ fd : FuncData, (∀ (s : Shared) (u : Value), BindsTo s fd ⟨[u], []⟩ [(x, u)]) ∧
        ∀ base : Heap, (K w.params).In base → base.Ns mainGlobals mg → FnOk l.prog w (K w.params) mg base (CX w) k fa fd [x] (sp w))
    (hsp : ∀ (w : World) (H : Hp) (a : Addr) (ns : List Int), ns.length ≤ n → Only H → SqL (K w.params) H a (ns.map V.int) → sp w [.ref a] H (fun v _ => v = .bl true) fun _ _ _ => False)
    (hCX : ∀ (w : World) (H : Hp) (s : Shared) (e : Value) (s' : Shared), CX w [] H s (fun _ _ _ => False) e s' → False) :
    PySem.W.WalkO q loose XP YP l.row.toRowW d [] (fun f vs => PySem.call f vs) := by
  refine Att.attach_call hn hdf fun w s₀ s₁ mg mb fa o pm cd doc a vs ns G Y ho hd hcd hmg hobj hints hlen hg => ?_
  have KX := hY w _ Y
  obtain ⟨fd, hb, hF⟩ := F w mg fa _ KX G.T.g hmg
  exact law_call KX G.T.g G.T.b G.T.builtins G.T.nolimit hg hobj hints (Nat.le_trans hlen hn2) hr hF hb (fun H hO hS => hsp w H a ns hlen hO hS) fun H e s' => hCX w H s₁ e s'
end L2

/- THE LAST THEOREM (shape; LID, My.* are yours):
   My.Adr: a structure of the addresses that your layer names (classes, functions); My.Txt K t: a structure (Prop) of the equations over K;
   My.txt_mk : {K} {implicit addresses ..} (e1 : nsIn K mainGlobals "law" = some (some (.ref f))) (e2 : K.lookup f = some ⟨oc, od, .func (fnOf "law" "law" params body scope dV kV doc pm an cdv ct), sl⟩) (e3 : codeIn K cdv "law" = true) .. : ∃ t, My.Txt K t

set_option maxRecDepth 100000 in
set_option maxHeartbeats 0 in
(the tactic k_is has no namespace: write k_is) -/

/-! SHORT WORDS over the layer: a def of the text, its body, what a loop and a test want. -/
namespace L2
open PySem PySem.Spec PyProof.Rows

/-! ### the text by places -/
/-- the j-th statement of a class's body -/
def inClass (s : Stmt) (j : Nat) : Stmt := match s with
  | .ClassDef _ _ _ body _ _ _ _ _ _ _ => body.getD j (.Pass ⟨0, 0, 0, 0⟩)
  | _ => .Pass ⟨0, 0, 0, 0⟩
def defArgs (s : Stmt) : Arguments := match s with
  | .FunctionDef _ a _ _ _ _ _ _ _ _ => a
  | _ => { posonlyargs := [], args := [], vararg := none, kwonlyargs := [], kw_defaults := [], kwarg := none, defaults := [] }
def defBody (s : Stmt) : List Stmt := match s with
  | .FunctionDef _ _ b _ _ _ _ _ _ _ => b
  | _ => []
def defScope (s : Stmt) : Scope := match s with
  | .FunctionDef _ _ _ _ _ _ sc _ _ _ => sc
  | _ => { kind := .function, names := [], isGenerator := false, isCoroutine := false }

/-! ### no exception leaves a def -/
abbrev CX0 : CXT := fun _ _ _ _ _ _ => False
abbrev E0 : XK := fun _ _ _ => False
theorem pass0 {X : Cx} : Passes CX0 X E0 := fun _ _ _ _ _ _ _ h => h.elim

/-! ### a def (or method) of the text as it stands behind the top -/
structure Fun (K : PySem.W.Frag) (x qual : Str) (st : Stmt) (f : Addr) (fd : FuncData) : Prop where
  ex : ∃ (oc : Value) (od : Option Addr) (kV doc pm : Value) (an : Option Addr) (cdv ct : Value) (osl : Array (Option Value)),
    fd = PySem.W.fnOf x qual (defArgs st) (defBody st) (defScope st) .none kV doc pm an cdv ct ∧ K.lookup f = some ⟨oc, od, .func fd, osl⟩ ∧ PySem.W.codeIn K cdv qual = true
  kp : PySem.W.keepIn K (.ref f) = true
section
variable {P : Program} {w : World} {K : PySem.W.Frag} {mg : Str → Option Value} {base : Heap}
/-- THE RULE for a def: its body as a term of rules, and the reading of that term -/
theorem Fun.ok {x qual : Str} {st : Stmt} {f : Addr} {fd : FuncData} {N ps : List Str} {k : Nat} {sp : Sp} (F : Fun K x qual st f fd) (S : FnScope N ps (defScope st)) (len : ∀ vs H Q E, sp vs H Q E → vs.length = ps.length)
    (hbody : ∀ (cdv : Value) (A : Around) (outer : List Env) (s : Shared) (H : Hp) (vs : List V) (Q : VK) (E : XK), Room k (A.deeper (envOfC qual (defScope st) s.heap.objs.size f cdv)) → sp vs H Q E →
      ∃ t, PSs (cxOf CX0 P w K mg base N qual (defScope st) f cdv A outer s H E).nox (defBody st) t ∧ t { nx := fun _ H' => Q .non H', rt := Q } (start N vs) H) : FnOk P w K mg base CX0 (k + 1) f fd ps sp := by
  obtain ⟨oc, od, kV, doc, pm, an, cdv, ct, osl, rfl, lk, hcd⟩ := F.ex
  refine fn_of lk hcd S len fun A outer s H vs Q E hr hsp => ?_
  obtain ⟨t, h, q⟩ := hbody cdv A outer s H vs Q E hr hsp
  exact ⟨t, h.nox, q⟩
theorem fun_mk {x qual : Str} {st : Stmt} {f : Addr} {oc : Value} {od an : Option Addr} {osl : Array (Option Value)} {kV doc pm cdv ct : Value} (l : K.lookup f = some ⟨oc, od, .func (PySem.W.fnOf x qual (defArgs st) (defBody st) (defScope st) .none kV doc pm an cdv ct), osl⟩)
    (c : PySem.W.codeIn K cdv qual = true) (k : PySem.W.keepIn K (.ref f) = true) : Fun K x qual st f (PySem.W.fnOf x qual (defArgs st) (defBody st) (defScope st) .none kV doc pm an cdv ct) := ⟨⟨oc, od, kV, doc, pm, an, cdv, ct, osl, rfl, l, c⟩, k⟩
end
theorem hu_of {A : Around} {k : Nat} (hr : Room k A) : A.units + 1 < cLine := Nat.lt_of_le_of_lt (Nat.add_le_add_left (by decide : 1 ≤ 64) _) hr.units
theorem small1000 {n : Nat} (h : n ≤ 1000) : n < sizeLine := Nat.lt_of_le_of_lt h (by decide)

/-! ### expressions in short: the name that stands in the i-th slot -/
section
variable {X : Cx}
theorem pv (i : Nat) {x : Str} {pos : Pos} (hN : X.N[i]? = some x := by rfl) (hv : Vis X.env.scope x := by first | exact Or.inl rfl | exact Or.inr (Or.inl rfl) | exact Or.inr (Or.inr rfl)) (hd : (x == ("__debug__" : Str)) = false := by decide)
    (hcd : (x == ("__classdict__" : Str)) = false := by decide) : PE X (.Name x pos) (tVar i) := pe_var hN hv hd hcd
end

/-! ### tests -/
theorem iteF {A B : Prop} (h : B) : if false = true then A else B := by
  rw [if_neg Bool.false_ne_true]
  exact h
theorem iteT {A B : Prop} (h : A) : if true = true then A else B := by
  rw [if_pos rfl]
  exact h
theorem ite2 {c A B : Prop} [Decidable c] (h1 : c → A) (h2 : ¬ c → B) : if c then A else B := by
  by_cases h : c
  · rw [if_pos h]
    exact h1 h
  · rw [if_neg h]
    exact h2 h
theorem iteNS {c A B : Prop} [Decidable c] (hc : c) (h : B) : if (!decide c) = true then A else B := by
  rw [decide_eq_true hc]
  exact iteF h

/-! ### heaps -/
/-- all that was tracked is as it was -/
def Same (H H' : Hp) : Prop := ∀ b o, H b = some o → H' b = some o
theorem Same.refl (H : Hp) : Same H H := fun _ _ h => h
theorem Same.trans {H H1 H2 : Hp} (a : Same H H1) (b : Same H1 H2) : Same H H2 := fun c o h => b c o (a c o h)
theorem Same.free {H H' : Hp} (e : Same H H') {l : Addr} (h : H' l = Option.none) : H l = Option.none := by
  cases q : H l with
  | none => rfl
  | some o =>
    rw [e l o q] at h
    cases h
theorem Same.seq {K : PySem.W.Frag} {H H' : Hp} {a : Addr} {xs : List V} (e : Same H H') (h : SqL K H a xs) : SqL K H' a xs := by
  rcases h with (h | ⟨o, h⟩) | h
  · exact .inl (.inl (e _ _ h))
  · exact .inl (.inr ⟨o, e _ _ h⟩)
  · exact .inr h

end L2

set_option Elab.async false
set_option linter.all false
set_option maxRecDepth 100000
/-! a list comprehension of one clause, over the hand layer -/
namespace L2
open PySem PySem.Spec PyProof.Rows

/-- every pair of the block's cells is one of the frame's -/
def AllLk (cells : List (Str × Addr)) : List (Str × Addr) → Prop
  | [] => True
  | p :: r => cells.lookup p.1 = some p.2 ∧ AllLk cells r
theorem AllLk.of {cells : List (Str × Addr)} : ∀ {cl : List (Str × Addr)}, AllLk cells cl → ∀ x c, cl.lookup x = some c → cells.lookup x = some c
  | [], _, x, c, h => by cases h
  | (y, d) :: r, hl, x, c, h => by
    rw [List.lookup_cons] at h
    cases hx : x == y with
    | true =>
      rw [hx] at h
      have e : x = y := by simpa using hx
      subst e
      cases h
      exact hl.1
    | false =>
      rw [hx] at h
      exact AllLk.of hl.2 x c h

/-- the block's context -/
def blk (X : Cx) (NB : List Str) (sc : Scope) (cl : List (Str × Addr)) (s₃ : Shared) (H₃ : Hp) (fp : List Addr) : Cx :=
  { X with N := NB, s₀ := s₃, H₀ := H₃, env := compEnvC sc cl s₃.heap.objs.size X.env, outer := X.stack, stack := X.stack, ex := fp, fn := fun _ => false, pn := [], xe := fun _ _ => False }

/-- what of the text a block must have: its scope, what it closes over, and which slot of the frame each of its names is (none: its own) -/
structure Blk (X : Cx) (NB : List Str) (pick : List (Option Nat)) (sc : Scope) (cl : List (Str × Addr)) : Prop where
  clos : closureFor sc X.env = pure cl
  kind : sc.kind = .function
  nocell : ∀ y ∈ sc.names, y.2 ≠ .cell
  names : ∀ y ∈ sc.names, y.2 = .local → sc.names.lookup y.1 = some .local
  sub : AllLk X.env.cells cl
  has : ∀ x, ((relabel sc X.env).names.lookup x = some .cell ∨ (relabel sc X.env).names.lookup x = some .free) → ∃ c, cl.lookup x = some c
  len : pick.length = NB.length
  got : ∀ (j i : Nat) (x : Str), pick[j]? = some (some i) → NB[j]? = some x → X.N[i]? = some x ∧ (X.env.kindOf x = some .cell ∨ X.env.kindOf x = some .free) ∧ (relabel sc X.env).names.lookup x = some .cell

def hasB (cl : List (Str × Addr)) (L : List (Str × NameKind)) : Bool := L.all fun p => !(p.2 == .cell || p.2 == .free) || (cl.lookup p.1).isSome
theorem hasB_of {cl : List (Str × Addr)} {L : List (Str × NameKind)} (h : hasB cl L = true) (x : Str) (hx : L.lookup x = some .cell ∨ L.lookup x = some .free) : ∃ c, cl.lookup x = some c := by
  have get : ∀ k, L.lookup x = some k → (k == NameKind.cell || k == NameKind.free) = true → ∃ c, cl.lookup x = some c := fun k hk hb => by
    have z := List.all_eq_true.mp h (x, k) (PySem.mem_of_lookup hk)
    dsimp only at z
    rw [hb] at z
    exact Option.isSome_iff_exists.mp z
  rcases hx with hx | hx
  · exact get _ hx rfl
  · exact get _ hx rfl
def gotB (N : List Str) (k1 k2 : List (Str × NameKind)) : List (Option Nat) → List Str → Bool
  | some i :: p, x :: r => decide (N[i]? = some x) && (decide (k1.lookup x = some .cell) || decide (k1.lookup x = some .free)) && decide (k2.lookup x = some .cell) && gotB N k1 k2 p r
  | none :: p, _ :: r => gotB N k1 k2 p r
  | [], [] => true
  | _, _ => false
theorem gotB_len {N : List Str} {k1 k2 : List (Str × NameKind)} : ∀ {p : List (Option Nat)} {r : List Str}, gotB N k1 k2 p r = true → p.length = r.length
  | [], [], _ => rfl
  | [], _ :: _, h => by cases h
  | none :: _, [], h => by cases h
  | some _ :: _, [], h => by cases h
  | none :: p, _ :: r, h => congrArg Nat.succ (gotB_len (p := p) (r := r) h)
  | some i :: p, x :: r, h => by
    have h' : (decide (N[i]? = some x) && (decide (k1.lookup x = some .cell) || decide (k1.lookup x = some .free)) && decide (k2.lookup x = some .cell) && gotB N k1 k2 p r) = true := h
    rw [Bool.and_eq_true] at h'
    exact congrArg Nat.succ (gotB_len h'.2)
theorem gotB_of {N : List Str} {k1 k2 : List (Str × NameKind)} : ∀ {p : List (Option Nat)} {r : List Str}, gotB N k1 k2 p r = true → ∀ (j i : Nat) (x : Str), p[j]? = some (some i) → r[j]? = some x →
    N[i]? = some x ∧ (k1.lookup x = some .cell ∨ k1.lookup x = some .free) ∧ k2.lookup x = some .cell
  | [], _, _, j, i, x, h1, _ => by simp at h1
  | none :: _, [], h, _, _, _, _, _ => by cases h
  | some _ :: _, [], h, _, _, _, _, _ => by cases h
  | none :: p, _ :: r, h, j, i, x, h1, h2 => by
    cases j with
    | zero => simp at h1
    | succ j => exact gotB_of (p := p) (r := r) h j i x (by simpa using h1) (by simpa using h2)
  | some i' :: p, x' :: r, h, j, i, x, h1, h2 => by
    have h' : (decide (N[i']? = some x') && (decide (k1.lookup x' = some .cell) || decide (k1.lookup x' = some .free)) && decide (k2.lookup x' = some .cell) && gotB N k1 k2 p r) = true := h
    rw [Bool.and_eq_true, Bool.and_eq_true, Bool.and_eq_true, Bool.or_eq_true] at h'
    obtain ⟨⟨⟨a, b⟩, c⟩, d⟩ := h'
    cases j with
    | zero =>
      simp at h1 h2
      subst h1 h2
      exact ⟨of_decide_eq_true a, b.elim (fun z => .inl (of_decide_eq_true z)) fun z => .inr (of_decide_eq_true z), of_decide_eq_true c⟩
    | succ j => exact gotB_of d j i x (by simpa using h1) (by simpa using h2)
theorem blk_mk {X : Cx} {NB : List Str} {pick : List (Option Nat)} {sc : Scope} {cl : List (Str × Addr)} (clos : closureFor sc X.env = pure cl) (sub : AllLk X.env.cells cl) (kind : sc.kind = .function) (nocell : ∀ y ∈ sc.names, y.2 ≠ .cell)
    (names : ∀ y ∈ sc.names, y.2 = .local → sc.names.lookup y.1 = some .local) (has : hasB cl (relabel sc X.env).names = true) (got : gotB X.N X.env.scope.names (relabel sc X.env).names pick NB = true) : Blk X NB pick sc cl :=
  ⟨clos, kind, nocell, names, sub, hasB_of has, gotB_len got, fun j i x h1 h2 => gotB_of got j i x h1 h2⟩

def pickσ (pick : List (Option Nat)) (σ : St) : St := pick.map fun o => o.bind fun i => (σ[i]?).join

section
variable {X : Cx} {NB : List Str} {pick : List (Option Nat)} {sc : Scope} {cl : List (Str × Addr)} {pins : List (Addr × Obj)} {σ : St} {H : Hp} {s : Shared} {fp : List Addr}

theorem blk_ok (I : Inv X pins σ H s) (B : Blk X NB pick sc cl) (hf : ∀ b ∈ fp, FpOk X pins H b) (hex : ∀ b ∈ fp, ∃ o, s.heap.get? b = some o) : (blk X NB sc cl s H fp).Ok := by
  have nfs : ∀ b ∈ fp, b ∉ frs X.stack := fun b hb z => by
    rcases List.mem_cons.mp (I.stkSub b z) with e | e
    · exact (hf b hb).2.1 e
    · exact (hf b hb).2.2.1 e
  refine ⟨I.ok.mod, B.kind, I.ok.glob, I.ok.blt, Nat.le_refl _, fun x y c h1 h2 => ?_, fun x hx => B.has x hx, fun x c h _ => (Bool.false_ne_true h).elim, I.ok.hd, I.ok.frames, .inl rfl, fun b hb => ⟨?_, fun x c h e => ?_⟩, I.bs, Nat.le_trans I.ok.bsz I.sz, fun b o e hb => ?_, nfs, I.stack, I.stkFree⟩
  · exact I.ok.inj x y c (B.sub.of x c h1) (B.sub.of y c h2)
  · obtain ⟨o, ho⟩ := hex b hb
    exact Nat.ne_of_lt (Heap.lt_size ho)
  · exact (hf b hb).2.2.2.2.1 x c (B.sub.of x c h) e
  · rcases (hf b hb).2.2.2.1 with z | z
    · exact I.ok.noex b o e z
    · exact absurd (Nat.lt_of_lt_of_le (Heap.lt_size (I.ok.bs b o e).1) z) (Nat.lt_irrefl _)

theorem blk_start {h' : Heap} (I : Inv X pins σ H s) (B : Blk X NB pick sc cl) (hf : ∀ b ∈ fp, FpOk X pins H b) (hex : ∀ b ∈ fp, ∃ o, s.heap.get? b = some o)
    (hn : h'.Ns s.heap.objs.size (fun _ => none)) (hs : ∀ b o, s.heap.get? b = some o → h'.get? b = some o) (t : Nat) : Inv (blk X NB sc cl s H fp) [] (pickσ pick σ) H { s with heap := h', toks := t } := by
  refine ⟨blk_ok I B hf hex, rfl, I.bare, Un.kept hs, ⟨_, hn, fun j x v h1 h2 h3 => ?_⟩, fun x c e => ?_, I.hok.fresh (Nat.le_refl _), fun x c e => I.freeC x c (B.sub.of x c e), fun p hp => absurd (show p ∈ ([] : List (Addr × Obj)) from hp) (by simp), I.hok.kept hs, ?_⟩
  · have h2' : (pick.map fun o => o.bind fun i => (σ[i]?).join)[j]? = some (some v) := h2
    rw [List.getElem?_map] at h2'
    cases hp : pick[j]? with
    | none => rw [hp] at h2'; cases h2'
    | some o =>
      rw [hp] at h2'
      cases o with
      | none => cases h2'
      | some i =>
        have h2'' : (σ[i]?).join = some v := Option.some.inj h2'
        obtain ⟨g1, g2, g3⟩ := B.got j i x hp h1
        have hσ : σ[i]? = some (some v) := by
          cases hq : σ[i]? with
          | none => rw [hq] at h2''; cases h2''
          | some z => rw [hq] at h2''; have e : z = some v := h2''; rw [e]
        obtain ⟨m, _, hl⟩ := I.loc
        obtain ⟨u, r, L⟩ := hl i x v g1 hσ (.inr g2)
        refine ⟨u, r, ?_⟩
        rcases L with ⟨k, _⟩ | ⟨_, c, hc, ⟨o, ho, hd⟩⟩
        · rcases g2 with g2 | g2 <;> rw [k] at g2 <;> cases g2
        · obtain ⟨c', hc'⟩ := B.has x (.inl g3)
          have e : c' = c := Option.some.inj ((B.sub.of x c' hc').symm.trans hc)
          subst e
          exact .inr ⟨.inl g3, c', hc', o, hs _ _ ho, hd⟩
  · obtain ⟨v, o, ho, hd⟩ := I.cell x c (B.sub.of x c e)
    exact ⟨v, o, hs _ _ ho, hd⟩
  · show (pickσ pick σ).length = NB.length
    unfold pickσ
    rw [List.length_map]
    exact B.len

/-- behind the block: the frame's own state again -/
theorem blk_end {σ' : St} {H' : Hp} {s' : Shared} (I : Inv X pins σ H s) (hf : ∀ b ∈ fp, FpOk X pins H b) (J : Inv (blk X NB sc cl s H fp) [] σ' H' s') : Inv X pins σ H' s' := by
  refine I.call' (ch := fp) J.os J.base J.hok J.bare fun b hb => ?_
  obtain ⟨_, f1, _, f3, f4, f5⟩ := hf b hb
  exact ⟨f3, f1, f4, f5⟩
end

/-- the reading: W the invariant of the block by the turn and a measure; D where the new list stands -/
def tComp (wi : TI) (pick : List (Option Nat)) (g : TG) (c : TT) (te : TE) : St → Hp → (Addr → Hp → Prop) → Prop := fun σ H Q =>
  wi σ H fun J H1 => ∀ D, H1 D = none → ∃ W : Nat → Nat → St → Hp → Prop, (∃ m, W 0 m (pickσ pick σ) (upd H1 D (.lst []))) ∧ ∀ i m σ1 H2, W i m σ1 H2 →
    (J.stop i H2 ∧ Q D H2) ∨ (J.go i H2 ∧ ∃ N : St → Hp → Prop, (∀ σ' H', N σ' H' → ∃ m', m' < m ∧ W (i + 1) m' σ' H') ∧
      ∀ x H', J.yld i H2 x H' → g x σ1 H' fun σ2 H3 => c σ2 H3 fun b H4 => if b = true then te σ2 H4 fun y H5 => ∃ xs, H5 D = some (.lst xs) ∧ xs.length < sizeLine ∧ N σ2 (upd H5 D (.lst (xs ++ [y]))) else N σ2 H4)

section
variable {prog : Program} {w : World} {A : Around} {R : Result → Shared → Prop} {s : Shared}
/-- a turn of the block, whatever the target -/
theorem compLoop_any {elt target iter : Expr} {ifs : List Expr} {scope : Scope} {pos : Pos} {it acc : Value} {env : Env} (W : Nat → Shared → Prop)
    (turn : ∀ n s, W n s → wpAny (model prog w) A (pyNext it) (fun r s₁ => match r with
      | none => R (.ok .next) s₁
      | some v => wpAny (model prog w) A (letOwnedTupleGo target it v) (fun _ s₀ => wpAny (model prog w) A (assign target env v) (fun _ s₂ =>
          wpAny (model prog w) A (forIn ifs true fun c r => if r = true then do let ok ← isTrue c env (eval c env); pure (ForInStep.yield ok) else pure (ForInStep.yield r)) (fun ok s₃ =>
            if ok = true then wpAny (model prog w) A (eval elt env) (fun x s₄ =>
              wpAny (model prog w) A (call (.builtin "list.append") [acc, x]) (fun _ s₅ => ∃ m, m < n ∧ W m s₅) (fun _ _ => False) s₄) (fun _ _ => False) s₃
            else ∃ m, m < n ∧ W m s₃) (fun _ _ => False) s₂) (fun _ _ => False) s₀) (fun _ _ => False) s₁) (fun _ _ => False) s)
    (n : Nat) (h : W n s) :
    codeAny (model prog w) A (.compLoop (.ListComp elt [⟨target, iter, ifs, 0⟩] scope pos) 0 it acc env) R s := by
  refine codeAny_loop rfl W (fun n s hI => ?_) n h
  show wpAny _ A ((compTurn (.ListComp elt [⟨target, iter, ifs, 0⟩] scope pos) 0 it acc env).onRaise (fun x => do noteFrame x env; theTreesLotGoes x)) _ _ s
  refine wpAny_noted (wpAny_noRaise ?_)
  rw [compTurn_list]
  refine wpAny_bind (wpAny_standAt (wpAny_bind (thn (turn n s hI) fun r s₁ h₁ => ?_)))
  cases r with
  | none => exact wpAny_pure h₁
  | some v =>
    refine wpAny_bind (thn h₁ fun _ s₀ h₀ => wpAny_bind (thn h₀ fun _ s₂ h₂ => wpAny_bind (thn h₂ fun ok s₃ h₃ => ?_)))
    cases ok with
    | false => exact wpAny_pure ⟨rfl, h₃⟩
    | true => exact wpAny_bind (wpAny_bind (thn h₃ fun x s₄ h₄ => wpAny_bind (thn h₄ fun _ s₅ h₅ => wpAny_pure (wpAny_pure ⟨rfl, h₅⟩))))
end

/-- the tests of a clause: none or one -/
def PIfs (X : Cx) (ifs : List Expr) (c : TT) : Prop :=
  ∀ (pins : List (Addr × Obj)) (s : Shared) (σ : St) (H : Hp) (Q : Bool → Hp → Prop), Inv X pins σ H s → c σ H Q →
    wpAny (model X.prog X.w) X.A (forIn ifs true fun c r => if r = true then do let ok ← isTrue c X.env (eval c X.env); pure (ForInStep.yield ok) else pure (ForInStep.yield r)) (TP X pins σ Q) X.xe s
def tYes : TT := fun _ H Q => Q true H
theorem pif_nil {X : Cx} : PIfs X [] tYes := fun pins s σ H Q I h => wpAny_pure ⟨H, I, h⟩
theorem pif_one {X : Cx} {e : Expr} {c : TT} (hc : PT X e c) : PIfs X [e] c := fun pins s σ H Q I h => wpAny_tests_one (hc pins s σ H Q I h)

section
variable {X : Cx} {NB : List Str} {pick : List (Option Nat)} {sc : Scope} {cl : List (Str × Addr)} {elt target iter : Expr} {ifs : List Expr} {pos : Pos} {wi : TI} {g : TG} {c : TT} {te : TE}

/-- the block, run; use: what is done with the new list ahead of the block's end -/
theorem comp_run {pins : List (Addr × Obj)} {s : Shared} {σ : St} {H : Hp} {use : Option (Value → Sem Unit)} {Q : Addr → Hp → Prop} {QV : Value → Shared → Prop} (B : Blk X NB pick sc cl) (hc : X.calm = true) (hi : PI X target iter wi)
    (hg : ∀ s₃ H₃ fp, PG (blk X NB sc cl s₃ H₃ fp) target g) (ht : ∀ s₃ H₃ fp, PIfs (blk X NB sc cl s₃ H₃ fp) ifs c) (he : ∀ s₃ H₃ fp, PE (blk X NB sc cl s₃ H₃ fp) elt te)
    (hs : ∀ x, foldedSetIterable iter X.env x = pure x) (I : Inv X pins σ H s) (h : tComp wi pick g c te σ H Q)
    (fin : ∀ (D C : Addr) (s' : Shared) (H' : Hp), Inv X pins σ H' s' → Q D H' → H' C = none → C ≠ X.env.locals → X.s₀.heap.objs.size ≤ C → (∀ x a, X.env.cells.lookup x = some a → a ≠ C) → (∀ p ∈ X.pn ++ pins, p.1 ≠ C) → (∃ m, s'.heap.Ns C m) →
      compPost (model X.prog X.w) X.A X.xe use QV (.ref D) C (.ok .next) s') :
    wpAny (model X.prog X.w) X.A (comprehension (.ListComp elt [⟨target, iter, ifs, 0⟩] sc pos) sc X.env (firstIterPos [⟨target, iter, ifs, 0⟩] pos) (newList []) false (eval iter X.env) use) QV X.xe s := by
  refine wpAny_comprehension_free rfl hs B.clos B.kind B.names (thn (hi pins s σ H _ I h) fun v s1 h1 => thn h1 fun itv s2 h2 => ?_)
  obtain ⟨it, fp, tn, J, H2, e, I2, T, st2, f2, h2⟩ := h2
  subst e
  refine wpAny_newObj_type ?_
  have I3 : Inv X pins σ (upd H2 s2.heap.objs.size (.lst [])) { s2 with heap := s2.heap.push { cls := .type "list", dict := none, data := .seq ([] : List Value).toArray } } :=
    I2.laid (t' := s2.toks) (fun b u e => Heap.get?_push_of_some _ e) (Nat.le_refl _) ⟨Nat.zero_le _, [], 0, .nil, Heap.get?_push_size _ rfl⟩
  have hf : H2 s2.heap.objs.size = none := I2.hok.fresh (Nat.le_refl _)
  have lt : ∀ b ∈ fp, b ≠ s2.heap.objs.size := fun b hb => by
    obtain ⟨o, ho, _⟩ := T.obj _ _ st2 b hb
    exact Nat.ne_of_lt (Heap.lt_size ho)
  have f3 : ∀ b ∈ fp, FpOk X pins (upd H2 s2.heap.objs.size (.lst [])) b := fun b hb => ⟨by rw [upd_ne (lt b hb)]; exact (f2 b hb).1, (f2 b hb).2⟩
  generalize hs3 : ({ s2 with heap := s2.heap.push { cls := .type "list", dict := none, data := .seq ([] : List Value).toArray } } : Shared) = s3 at I3 ⊢
  have kp3 : ∀ b o, s2.heap.get? b = some o → s3.heap.get? b = some o := fun b o e => by
    rw [← hs3]
    exact Heap.get?_push_of_some _ e
  have hex : ∀ b ∈ fp, ∃ o, s3.heap.get? b = some o := fun b hb => by
    obtain ⟨o, ho, _⟩ := T.obj _ _ st2 b hb
    exact ⟨o, kp3 b o ho⟩
  have st3 : tn 0 s3.heap := T.keep _ _ _ st2 fun b _ o e => kp3 b o e
  obtain ⟨W, ⟨m0, w0⟩, turn⟩ := h2 _ hf
  refine wpAny_newFunctionEnv B.nocell (by intro y hy; simp at hy) (fun h₁ hns₁ hsb₁ => ?_) B.kind
  have kp4 : ∀ b o, s3.heap.get? b = some o → h₁.get? b = some o := fun b o e => (hsb₁.2 b (Nat.ne_of_lt (Heap.lt_size e))).trans (Heap.get?_push_of_some _ e)
  have J4 := blk_start I3 B f3 hex hns₁ kp4 (s3.toks + ([] : List (Str × Value)).length)
  have st4 : tn 0 h₁ := T.keep _ _ _ st3 fun b _ o e => kp4 b o e
  have stat : ∀ {H' : Hp}, (∀ b ∈ fp, H' b = none) → ∀ b ∈ fp, FpOk (blk X NB sc cl s3 (upd H2 s2.heap.objs.size (.lst [])) fp) [] H' b := fun {H'} hn b hb => by
    obtain ⟨o, ho⟩ := hex b hb
    refine ⟨hn b hb, Nat.ne_of_lt (Heap.lt_size ho), fun z => ?_, .inl hb, fun x a e => (f2 b hb).2.2.2.2.1 x a (B.sub.of x a e), fun p hp => absurd (show p ∈ ([] : List (Addr × Obj)) from hp) (by simp)⟩
    rcases List.mem_cons.mp (I2.stkSub b z) with e | e
    · exact (f2 b hb).2.1 e
    · exact (f2 b hb).2.2.1 e
  have loop : codeAny (model X.prog X.w) X.A (.compLoop (.ListComp elt [⟨target, iter, ifs, 0⟩] sc pos) 0 (.ref it) (.ref s2.heap.objs.size) (blk X NB sc cl s3 (upd H2 s2.heap.objs.size (.lst [])) fp).env)
      (compPost (model X.prog X.w) X.A X.xe use QV (.ref s2.heap.objs.size) s3.heap.objs.size) { s3 with heap := h₁, toks := s3.toks + ([] : List (Str × Value)).length } := by
    refine compLoop_any (fun n s' => ∃ i σ' H', Inv (blk X NB sc cl s3 (upd H2 s2.heap.objs.size (.lst [])) fp) [] σ' H' s' ∧ tn i s'.heap ∧ (∀ b ∈ fp, H' b = none) ∧ W i n σ' H') ?_ m0 ⟨0, _, _, J4, st4, fun b hb => (f3 b hb).1, w0⟩
    rintro n s5 ⟨i, σ5, H5, I5, st5, fr5, w5⟩
    rcases turn i n σ5 H5 w5 with ⟨stop, qn⟩ | ⟨go, N, hN, step⟩
    · refine thn (T.done (blk X NB sc cl s3 (upd H2 s2.heap.objs.size (.lst [])) fp) rfl rfl rfl hc i [] s5 σ5 H5 _ I5 (stat fr5) st5 stop) fun r s6 ⟨hr, I6⟩ => ?_
      subst hr
      refine fin s2.heap.objs.size s3.heap.objs.size s6 H5 (blk_end I3 f3 I6) qn I6.free (Nat.ne_of_lt I3.lt).symm I3.sz (fun x a e => ?_) (fun p hp => ?_) ?_
      · obtain ⟨v, o, ho, _⟩ := I3.cell x a e
        exact Nat.ne_of_lt (Heap.lt_size ho)
      · exact Nat.ne_of_lt (Heap.lt_size (I3.pin p hp).1)
      · obtain ⟨m, hn, _⟩ := I6.loc
        exact ⟨m, hn⟩
    · refine thn (T.item (blk X NB sc cl s3 (upd H2 s2.heap.objs.size (.lst [])) fp) rfl rfl rfl hc i [] s5 σ5 H5 _ I5 (stat fr5) st5 go) fun r s6 ⟨u, hr, h6⟩ => ?_
      subst hr
      refine thn h6 fun _ s7 ⟨x, H7, I7, r7, y7, st7, fr7⟩ => ?_
      have I7' := I7.pinned (stat fr7) (T.obj _ _ st7)
      have again : ∀ {s9 : Shared} {σ9 : St} {H9 : Hp}, Inv (blk X NB sc cl s3 (upd H2 s2.heap.objs.size (.lst [])) fp) ([] ++ pinsAt fp s7.heap) σ9 H9 s9 → N σ9 H9 →
          ∃ m, m < n ∧ ∃ i σ' H', Inv (blk X NB sc cl s3 (upd H2 s2.heap.objs.size (.lst [])) fp) [] σ' H' s9 ∧ tn i s9.heap ∧ (∀ b ∈ fp, H' b = none) ∧ W i m σ' H' := fun {s9 σ9 H9} I9 n9 => by
        obtain ⟨m', hm, w9⟩ := hN σ9 H9 n9
        refine ⟨m', hm, i + 1, σ9, H9, I9.unpinned, T.keep _ _ _ st7 fun b hb o e => (I9.pin (b, o) (List.mem_append_right _ (List.mem_append_right _ (mem_pinsAt hb e)))).1, fun b hb => ?_, w9⟩
        obtain ⟨o, e, d⟩ := T.obj _ _ st7 b hb
        exact (I9.pin (b, o) (List.mem_append_right _ (List.mem_append_right _ (mem_pinsAt hb e)))).2.1
      refine thn (hg _ _ _ _ s7 σ5 H7 x u _ I7' r7 (step x H7 y7)) fun _ s8 ⟨σ8, H8, I8, q8⟩ => ?_
      refine thn (ht _ _ _ _ s8 σ8 H8 _ I8 q8) fun b s9 ⟨H9, I9, q9⟩ => ?_
      cases b with
      | false =>
        rw [if_neg Bool.false_ne_true]
        exact again I9 (by rw [if_neg Bool.false_ne_true] at q9; exact q9)
      | true =>
        rw [if_pos rfl] at q9 ⊢
        refine thn (he _ _ _ _ s9 σ8 H9 _ I9 q9) fun y s10 ⟨vy, H10, I10, r10, xs, hD, hl, q10⟩ => ?_
        refine thn (mt_append _ s10 σ8 H10 (.ref s2.heap.objs.size) [vy] (.ref s2.heap.objs.size) [y] (fun _ H' => N σ8 H') I10 rfl (.cons r10 .nil) ⟨_, xs, vy, rfl, rfl, hD, hl, q10⟩) fun _ s11 ⟨_, H11, I11, _, q11⟩ => ?_
        exact again I11 q11
  refine codeAny_compStart_list loop (T.self _ 0 _ _ _ st4 loop)

/-- [elt for target in iter if ..] -/
theorem pe_comp (B : Blk X NB pick sc cl) (hc : X.calm = true) (hi : PI X target iter wi)
    (hg : ∀ s₃ H₃ fp, PG (blk X NB sc cl s₃ H₃ fp) target g) (ht : ∀ s₃ H₃ fp, PIfs (blk X NB sc cl s₃ H₃ fp) ifs c) (he : ∀ s₃ H₃ fp, PE (blk X NB sc cl s₃ H₃ fp) elt te)
    (hs : ∀ x, foldedSetIterable iter X.env x = pure x := by intro _; rfl) : PE X (.ListComp elt [⟨target, iter, ifs, 0⟩] sc pos) (fun σ H Q => tComp wi pick g c te σ H fun D H' => Q (.ref D) H') := by
  intro pins s σ H Q I h
  rw [eval_ListComp]
  refine comp_run (use := none) (QV := EP X pins σ Q) B hc hi hg ht he hs I h fun D C s' H' I' q c0 c1 c2 c3 c4 hn => ?_
  obtain ⟨m, hm⟩ := hn
  exact ⟨m, hm, fun hh hsb => ⟨.ref D, H', I'.turned (t' := s'.toks) (fun b o hb e => (hsb.2 b hb).trans e) c0 c1 (.inr c2) c3 c4, rfl, q⟩⟩

/-- name = [..], on one line: the name is stored ahead of the block's end -/
theorem ps_setC {i : Nat} {x : Str} {pos' spos : Pos} (hN : X.N.Nodup) (hx1 : X.N[i]? = some x) (hx2 : Loc X.env.scope x)
    (hsw : swapsWith (.ListComp elt [⟨target, iter, ifs, 0⟩] sc pos) (some (.Name x pos')) spos.line X.env = pure true) (B : Blk X NB pick sc cl) (hc : X.calm = true) (hi : PI X target iter wi)
    (hg : ∀ s₃ H₃ fp, PG (blk X NB sc cl s₃ H₃ fp) target g) (ht : ∀ s₃ H₃ fp, PIfs (blk X NB sc cl s₃ H₃ fp) ifs c) (he : ∀ s₃ H₃ fp, PE (blk X NB sc cl s₃ H₃ fp) elt te)
    (hs : ∀ x, foldedSetIterable iter X.env x = pure x := by intro _; rfl) (hfn : X.fn x = true ∨ X.env.scope.names.lookup x = some .local := by first | exact .inl rfl | exact .inr rfl | assumption) :
    PS X (.Assign [.Name x pos'] (.ListComp elt [⟨target, iter, ifs, 0⟩] sc pos) spos) (fun D σ H => tComp wi pick g c te σ H fun l H' => D.nx (σ.set i (some (.ref l))) H') := by
  intro pins s σ H D I h
  rw [exec_Assign_Name_used _ _ _ _ hsw]
  refine wpAny_bind (wpAny_standAt (wpAny_bind ?_))
  show wpAny _ _ (do let _ ← comprehension (.ListComp elt [⟨target, iter, ifs, 0⟩] sc pos) sc X.env _ (newList []) false (eval iter X.env) (some (assign (.Name x pos') X.env))) _ _ s
  refine wpAny_bind (thn (comp_run (use := some (assign (.Name x pos') X.env)) (QV := fun _ s' => SP X pins D .next s') B hc hi hg ht he hs I h fun l C s' H' I' q c0 c1 c2 c3 c4 hn => ?_) fun _ s' hq => wpAny_pure (wpAny_pure hq))
  obtain ⟨m, hm⟩ := hn
  show wpAny _ _ (assign (.Name x pos') X.env (.ref l)) _ _ _
  refine wpAny_assign_Name (store_ok2 (v := .ref l) I' hN hx1 hx2 rfl (fun s'' I'' ⟨a, hsb, ha⟩ => ?_) hfn)
  have ne : C ≠ a := by
    rcases ha with e | e
    · rw [e]; exact c1
    · exact (c3 x a e).symm
  refine ⟨m, hm.sameBut hsb ne, fun hh hsb2 => ?_⟩
  exact ⟨_, H', I''.turned (t' := s''.toks) (fun b o hb e => (hsb2.2 b hb).trans e) c0 c1 (.inr c2) c3 c4, q⟩
end
end L2

set_option Elab.async false
set_option linter.all false
set_option maxRecDepth 100000
/-! errors of the program's own, over the hand layer: raised, passed on, caught, asked for their class -/
namespace L2
open PySem PySem.Spec PyProof.Rows

theorem ObjOk.there {P : Program} {w : World} {H : Hp} {h : Heap} {a : Addr} {o : HO} (x : ObjOk P w H h a o) : ∃ ob, h.get? a = some ob := by
  induction o with
  | lst xs => obtain ⟨_, _, _, _, e⟩ := x; exact ⟨_, e⟩
  | tup xs => obtain ⟨_, _, _, ob, e, _⟩ := x; exact ⟨ob, e⟩
  | dK kvs => obtain ⟨_, _, _, _, ob, _, _, e, _⟩ := x; exact ⟨ob, e⟩
  | dT kvs => obtain ⟨_, _, _, _, ob, _, _, e, _⟩ := x; exact ⟨ob, e⟩
  | set S n => obtain ⟨ob, _, _, _, e, _⟩ := x; exact ⟨ob, e⟩
  | ins C dx fs => obtain ⟨_, _, _, e, _⟩ := x; exact ⟨_, e⟩
  | own y => exact x
  | xd fs => obtain ⟨_, ⟨ob, _, _, e, _⟩, _⟩ := x; exact ⟨ob, e⟩
  | rng lo hi => obtain ⟨_, _, _, e⟩ := x; exact ⟨_, e⟩
  | frz ob u ih => exact ⟨ob, x.1⟩
  | tbl ps => exact ⟨_, x⟩
  | met f y => exact ⟨_, x⟩
  | ext φ => exact x.2.1

/-- behind a call that an exception has left: e flies, of the class at C; H' is what stands -/
structure Fly (P : Program) (w : World) (outer : List Env) (H : Hp) (s : Shared) (e C : Addr) (H' : Hp) (s' : Shared) : Prop where
  os : s'.os = s.os
  bare : AllBare s'.gens
  ex : ∃ (a0 : Value) (B : Heap), Heap.FlyingW B outer e (.ref C) a0 s'.heap ∧ HOk P w H' B ∧ (∀ b o, s.heap.get? b = some o → b ∉ frs outer → ∃ o', B.get? b = some o') ∧
    ∀ b o, s.heap.get? b = some o → H b = none → b ∉ frs outer → B.get? b = some o
  slot : ∀ b o, s.heap.get? b = some o → H b = none → b ∈ frs outer → ∃ sl, s'.heap.get? b = some { o with slots := sl }
  free : ∀ b o, s.heap.get? b = some o → H b = none → H' b = none
  tups : ∀ b xs, H b = some (.tup xs) → H' b = some (.tup xs)
  frzs : ∀ b o u, H b = some (.frz o u) → H' b = some (.frz o u)
  tbls : ∀ b ps, H b = some (.tbl ps) → ∃ more, H' b = some (.tbl (ps ++ more))

/-- an exception behind a call: an own class's -/
def CX1 (P : Program) (w : World) : CXT := fun outer H s E ev s' => ∃ (e C : Addr) (H' : Hp), ev = .ref e ∧ Fly P w outer H s e C H' s' ∧ E (.ref C) none H'

section
variable {X : Cx} {pins : List (Addr × Obj)} {σ : St} {H H' : Hp} {s s' : Shared} {e C : Addr}

theorem Fly.un (F : Fly X.prog X.w X.stack H s e C H' s') (I : Inv X pins σ H s) : Un (frs X.stack) [] H H' s.heap s'.heap := by
  obtain ⟨a0, B, fl, hok, th, kp⟩ := F.ex
  refine ⟨fun b o q n h1 _ => fl.1 b o (kp b o q n h1), fun b o q n h1 _ => F.slot b o q n h1, fun b o q n _ => F.free b o q n, fun b o q _ => ?_, F.tups, F.frzs, F.tbls⟩
  by_cases hb : b ∈ frs X.stack
  · obtain ⟨sl, z⟩ := F.slot b o q (I.stkFree b hb) hb
    exact ⟨_, z⟩
  · obtain ⟨o', z⟩ := th b o q hb
    exact ⟨o', fl.1 b o' z⟩
theorem Fly.hok {P : Program} {w : World} {outer : List Env} (F : Fly P w outer H s e C H' s') : HOk P w H' s'.heap := by
  obtain ⟨a0, B, fl, hok, _⟩ := F.ex
  exact hok.kept fl.1
theorem Fly.inv (F : Fly X.prog X.w X.stack H s e C H' s') (I : Inv X pins σ H s) : Inv X pins σ H' s' :=
  I.call' (ch := []) F.os (F.un I) F.hok F.bare fun b hb => absurd hb (by simp)
/-- the exception stands nowhere where something stood -/
theorem Fly.new {P : Program} {w : World} {outer : List Env} (F : Fly P w outer H s e C H' s') : s.heap.get? e = none := by
  obtain ⟨a0, B, ⟨f1, f2, f3, oe, vs, T, oT, ts, he, hc, hd, _⟩, hok, th, _⟩ := F.ex
  cases q : s.heap.get? e with
  | none => rfl
  | some o =>
    by_cases hb : e ∈ frs outer
    · obtain ⟨_, o', ho', hnf⟩ := f3.mem hb
      rw [he] at ho'
      cases ho'
      exact absurd hd (hnf vs)
    · obtain ⟨o', z⟩ := th e o q hb
      rw [f2] at z
      cases z
theorem Fly.untracked {P : Program} {w : World} {outer : List Env} (F : Fly P w outer H s e C H' s') : H' e = none := by
  obtain ⟨a0, B, ⟨f1, f2, _⟩, hok, _⟩ := F.ex
  cases q : H' e with
  | none => rfl
  | some o =>
    obtain ⟨ob, z⟩ := (hok e o q).there
    rw [f2] at z
    cases z
theorem Fly.obj {P : Program} {w : World} {outer : List Env} (F : Fly P w outer H s e C H' s') : ∃ oe vs, s'.heap.get? e = some oe ∧ oe.cls = .ref C ∧ oe.data = .fields vs := by
  obtain ⟨a0, B, ⟨f1, f2, f3, oe, vs, T, oT, ts, he, hc, hd, _⟩, _⟩ := F.ex
  exact ⟨oe, vs, he, hc.1, hd⟩
/-- the heap goes on, all but the records kept -/
theorem Fly.go {P : Program} {w : World} {outer : List Env} (F : Fly P w outer H s e C H' s') (k : ∀ a0 B, Heap.FlyingW B outer e (.ref C) a0 s'.heap → (∀ h'', Heap.FlyingW B outer e (.ref C) a0 h'' → s'.heap.UpToSlots h'' → Fly P w outer H s e C H' { s' with heap := h'' }) → Prop)
    (hk : ∀ a0 B fl g, k a0 B fl g) : ∃ a0 B fl g, k a0 B fl g := by
  obtain ⟨a0, B, fl, hok, th, kp⟩ := F.ex
  refine ⟨a0, B, fl, fun h'' fl2 up => ⟨F.os, F.bare, ⟨a0, B, fl2, hok, th, kp⟩, fun b o q n hb => ?_, F.free, F.tups, F.frzs, F.tbls⟩, hk _ _ _ _⟩
  obtain ⟨sl, z⟩ := F.slot b o q n hb
  obtain ⟨_, o', ho', hnf⟩ := fl.2.2.1.mem hb
  rw [z] at ho'
  cases ho'
  obtain ⟨sl', z'⟩ := up b _ z hnf
  exact ⟨sl', z'⟩
theorem Fly.more {P : Program} {w : World} {outer : List Env} (F : Fly P w outer H s e C H' s') : ∃ a0 B, Heap.FlyingW B outer e (.ref C) a0 s'.heap ∧
    ∀ h'', Heap.FlyingW B outer e (.ref C) a0 h'' → s'.heap.UpToSlots h'' → Fly P w outer H s e C H' { s' with heap := h'' } := by
  obtain ⟨a0, B, fl, g, _⟩ := F.go (fun _ _ _ _ => True) fun _ _ _ _ => trivial
  exact ⟨a0, B, fl, g⟩
end

/-- a def's own context, as fn_of makes it -/
structure Own (X : Cx) : Prop where
  st : X.stack = X.env :: X.outer
  fr : X.env.frame = some X.env.locals
  ex : X.ex = []

section
variable {X : Cx} {pins : List (Addr × Obj)} {σ : St} {H H' : Hp} {s s' : Shared} {e C : Addr} {Q : Unit → Shared → Prop} {E : Value → Shared → Prop} {M : Model}

theorem Own.sub (O : Own X) {b : Addr} (h : b ∈ X.fs) : b ∈ frs X.stack := by
  rw [O.st]
  unfold frs
  rw [List.filterMap_cons, O.fr]
  exact List.mem_cons_of_mem _ h
theorem Own.not (O : Own X) (I : Inv X pins σ H s) {b : Addr} {o : Obj} (q : X.s₀.heap.get? b = some o) (h : b ∉ X.fs) : b ∉ frs X.stack := fun z => by
  rcases List.mem_cons.mp (I.stkSub b z) with r | r
  · exact absurd (Nat.lt_of_lt_of_le (Heap.lt_size q) I.ok.above) (by rw [r]; exact Nat.lt_irrefl _)
  · exact h r
theorem Own.nex (O : Own X) (b : Addr) : b ∉ X.ex := by
  rw [O.ex]
  simp

/-- a new exception leaves the def -/
theorem made_leaves {vs : List Value} {h' : Heap} (O : Own X) (I : Inv X pins σ H s) (hx : Heap.MadeExcOf s.heap h' e (.ref C) vs)
    (k : ∀ h'', Fly X.prog X.w X.outer X.H₀ X.s₀ e C H { s with heap := h'' } → Q () { s with heap := h'' }) : wpAny M X.A (leaving X.env (.ref e)) Q E { s with heap := h' } := by
  have hst := I.stack
  have hfr := I.ok.frames
  rw [O.st] at hst hfr
  have hin : ∀ env ∈ (X.env :: X.outer), ∀ b, env.frame = some b → b ∈ frs X.stack := fun env he b hb => by
    rw [O.st]
    exact List.mem_filterMap.mpr ⟨env, he, hb⟩
  have get : ∀ {b : Addr} {o : Obj}, s.heap.get? b = some o → b ∉ frs X.stack → (PySem.W.hideAll s.heap (frs X.stack)).get? b = some o := fun q hb => PySem.W.hideAll_get _ q hb
  refine wpAny_leaves_madeW (base := PySem.W.hideAll s.heap (frs X.stack)) (h := s.heap) (s := { s with heap := h' }) hfr O.fr (fun b o q => PySem.W.of_hideAll _ q) (PySem.W.funFrames_hide hst hin) hx fun h'' t x1 _ _ x4 => k h'' ⟨I.os, I.bare, ⟨_, _, x1, fun a o q => ?_, fun b o q hb => ?_, fun b o q n hb => ?_⟩, fun b o q n hb => ?_, fun b o q n => I.base.free b o q n (O.nex b), I.base.tups, I.base.frzs, I.base.tbls⟩
  · refine (I.hok a o q).stay (fun b u hb z => get z fun hm => ?_) (fun _ z => z) fun _ _ z => z
    have hn := I.stkFree b hm
    rcases hb with rfl | hb
    · rw [hn] at q; cases q
    · rw [hn] at hb; cases hb
  · obtain ⟨o', z⟩ := I.base.there b o q (O.nex b)
    exact ⟨o', get z (O.not I q hb)⟩
  · exact get (I.base.keep b o q n hb (O.nex b)) (O.not I q hb)
  · obtain ⟨sl, z⟩ := I.base.slot b o q n hb (O.nex b)
    obtain ⟨_, o', ho', hnf⟩ := I.ok.funs.mem hb
    rw [q] at ho'
    cases ho'
    obtain ⟨sl', z'⟩ := x4 b _ (hx.keeps b _ z) hnf
    exact ⟨sl', z'⟩

/-- an exception of a callee leaves the def, too -/
theorem on_leaves (O : Own X) (I : Inv X pins σ H s) (F : Fly X.prog X.w X.stack H s e C H' s')
    (k : ∀ h'', Fly X.prog X.w X.outer X.H₀ X.s₀ e C H' { s' with heap := h'' } → Q () { s' with heap := h'' }) : wpAny M X.A (leaving X.env (.ref e)) Q E s' := by
  obtain ⟨a0, B, fl, hok, th, kp⟩ := F.ex
  have hfr := I.ok.frames
  rw [O.st] at fl hfr
  refine wpAny_leaves_onW hfr O.fr fl fun h'' x1 x2 => k h'' ⟨F.os.trans I.os, F.bare, ⟨a0, B, x1, hok, fun b o q hb => ?_, fun b o q n hb => ?_⟩, fun b o q n hb => ?_, fun b o q n => ?_, fun b xs q => F.tups b xs (I.base.tups b xs q), fun b o u q => F.frzs b o u (I.base.frzs b o u q), fun b ps q => ?_⟩
  · obtain ⟨o', z⟩ := I.base.there b o q (O.nex b)
    exact th b o' z (O.not I q hb)
  · exact kp b o (I.base.keep b o q n hb (O.nex b)) (I.base.free b o q n (O.nex b)) (O.not I q hb)
  · obtain ⟨sl, z⟩ := I.base.slot b o q n hb (O.nex b)
    obtain ⟨sl', z'⟩ := F.slot b _ z (I.base.free b o q n (O.nex b)) (O.sub hb)
    obtain ⟨_, o', ho', hnf⟩ := I.ok.funs.mem hb
    rw [q] at ho'
    cases ho'
    obtain ⟨sl2, z2⟩ := x2 b _ z' hnf
    exact ⟨sl2, z2⟩
  · obtain ⟨o', z⟩ := I.base.there b o q (O.nex b)
    exact F.free b o' z (I.base.free b o q n (O.nex b))
  · obtain ⟨m1, e1⟩ := I.base.tbls b ps q
    obtain ⟨m2, e2⟩ := F.tbls b _ e1
    exact ⟨m1 ++ m2, by rw [e2, Array.append_assoc]⟩
end

/-! ### where exceptions go: the wish by class, the names' values and the heap -/
abbrev XS := Value → St → Hp → Prop
structure Pass (X : Cx) (Ex : XS) : Prop where
  on : ∀ (pins : List (Addr × Obj)) (σ : St) (H : Hp) (s : Shared) (e C : Addr) (H' : Hp) (s' : Shared), Inv X pins σ H s → Fly X.prog X.w X.stack H s e C H' s' → Ex (.ref C) σ H' → X.xe (.ref e) s'
structure Rais (X : Cx) (Ex : XS) : Prop extends Pass X Ex where
  nw : ∀ (pins : List (Addr × Obj)) (σ : St) (H : Hp) (s : Shared) (e C : Addr) (h' : Heap) (vs : List Value), Inv X pins σ H s → Heap.MadeExcOf s.heap h' e (.ref C) vs → Ex (.ref C) σ H → X.xe (.ref e) { s with heap := h' }
  own : PassesOwn (model X.prog X.w) X.A X.env X.xe

theorem rais_def {P : Program} {w : World} {K : PySem.W.Frag} {mg : Str → Option Value} {base : Heap} {N : List Str} {qual : Str} {scope : Scope} {f : Addr} {cd : Value} {A : Around} {outer : List Env} {s : Shared} {H : Hp} {E : XK} :
    Rais (cxOf (CX1 P w) P w K mg base N qual scope f cd A outer s H E) (fun c _ H' => E c none H') where
  on := fun pins σ H1 s1 e C H' s' I F q => on_leaves ⟨rfl, rfl, rfl⟩ I F fun h'' F' => ⟨e, C, H', rfl, F', q⟩
  nw := fun pins σ H1 s1 e C h' vs I hx q => made_leaves ⟨rfl, rfl, rfl⟩ I hx fun h'' F' => ⟨e, C, H1, rfl, F', q⟩
  own := PassesOwn.leaving

section
variable {P : Program} {w : World} {K : PySem.W.Frag} {mg : Str → Option Value} {base : Heap}
/-- THE RULE for a def that may raise -/
theorem Fun.ok1 {x qual : Str} {st : Stmt} {f : Addr} {fd : FuncData} {N ps : List Str} {k : Nat} {sp : Sp} (F : Fun K x qual st f fd) (S : FnScope N ps (defScope st)) (len : ∀ vs H Q E, sp vs H Q E → vs.length = ps.length)
    (hbody : ∀ (cdv : Value) (A : Around) (outer : List Env) (s : Shared) (H : Hp) (vs : List V) (Q : VK) (E : XK), Room k (A.deeper (envOfC qual (defScope st) s.heap.objs.size f cdv)) → sp vs H Q E →
      ∃ t, PSs (cxOf (CX1 P w) P w K mg base N qual (defScope st) f cdv A outer s H E) (defBody st) t ∧ t { nx := fun _ H' => Q .non H', rt := Q } (start N vs) H) : FnOk P w K mg base (CX1 P w) (k + 1) f fd ps sp := by
  obtain ⟨oc, od, kV, doc, pm, an, cdv, ct, osl, rfl, lk, hcd⟩ := F.ex
  exact fn_of lk hcd S len fun A outer s H vs Q E hr hsp => hbody cdv A outer s H vs Q E hr hsp
end

/-! ### a call of a def that may raise -/
def tCallX (sp : Sp) (dvs : List V) (Ex : XS) (t : TA) : TE := fun σ H Q => t σ H fun vs H1 => sp (vs ++ dvs) H1 Q fun c _ H' => Ex c σ H'
section
variable {X : Cx} {Ex : XS} {k : Nat} {f C : Addr} {fd : FuncData} {ps : List Str} {sp : Sp} {dvs : List V} {ds : List Value} {x m : Str} {p pos apos : Pos} {e o : Expr} {es : List Expr} {ta : TE} {t : TA}
theorem run_fnX {pins : List (Addr × Obj)} {σ : St} {H : Hp} {s : Shared} {Q : VK} {us : List Value} {vs : List V} (R : Pass X Ex) (F : FnOk X.prog X.w X.K X.mg X.base (CX1 X.prog X.w) k f fd ps sp) (hr : Room k X.A) (hb : Binds X.K fd ps ds) (hd : Vals dvs ds)
    (I : Inv X pins σ H s) (r : Vals vs us) (h : sp (vs ++ dvs) H Q fun c _ H' => Ex c σ H') : wpAny (model X.prog X.w) X.A (call (.ref f) us) (EP X pins σ Q) X.xe s := by
  have r2 : Vals (vs ++ dvs) (us ++ ds) := r.append hd
  have hl : (us ++ ds).length = ps.length := by rw [← r2.length]; exact F.len _ _ _ _ h
  refine wpAny_call (codeAny_mono (F.run X.A X.stack s H ⟨us, []⟩ (us ++ ds) (vs ++ dvs) Q _ hr I.env0 (hb s us I.kIn hl) r2 h) fun r s' hq => ?_)
  cases r with
  | error ev =>
    obtain ⟨e, C, H', rfl, Fl, q⟩ := hq
    exact R.on pins σ H s e C H' s' I Fl q
  | ok fl =>
    cases fl with
    | ret u => exact I.after hq
    | next => exact False.elim hq
    | brk => exact False.elim hq
    | cont => exact False.elim hq
theorem pe_callX (R : Pass X Ex) (F : FnOk X.prog X.w X.K X.mg X.base (CX1 X.prog X.w) k f fd ps sp) (hr : Room k X.A) (hg : Gl X x) (hm : X.mg x = some (.ref f)) (hk : PySem.W.keepIn X.K (.ref f) = true) (hb : Binds X.K fd ps ds) (hd : Vals dvs ds)
    (ha : PA X (e :: es) t) (hdb : (x == ("__debug__" : Str)) = false := by decide) (he : starEach (e :: es) X.env = (false, eval e X.env) :: starEach es X.env := by rfl) (hpl : (backTo pos (starEach es X.env)).any (·.1) = false := by rfl) :
    PE X (.Call (.Name x p) (e :: es) [] pos) (tCallX sp dvs Ex t) := by
  intro pins s σ H Q I h
  refine wpAny_Call_Name_kw (ld_glob I hg hm ?_ hdb)
  refine PySem.W.callWith_K (h₀ := X.base) I.ok.mod.kin hk (thn (ha pos pins s σ H _ I h) fun us s1 ⟨vs, H1, I1, r, q⟩ => ⟨I1.kIn, ?_⟩) he hpl
  exact run_fnX R F hr hb hd I1 r q
end

/-! ### raise C(..) -/
abbrev bmV : List Value := [.type "ValueError", .type "Exception", .type "BaseException", .type "object"]
/-- what of the text an error class must have -/
structure ExcCls (K : PySem.W.Frag) (C : Addr) : Prop where
  cls : (PySem.W.clsIn K C).isSome = true
  ty : PySem.W.typeIn K (.ref C) = some (.type "type")
  ga : PySem.W.findIn K (.ref C) "__getattribute__" = some (some (.builtin "BaseException.__getattribute__"))
  gx : PySem.W.findIn K (.ref C) "__getattr__" = some none
  ca : PySem.W.findIn K (.ref C) "__class__" = some (some (.builtin "object.__class__"))
  cg : PySem.W.specialIn K (.builtin "object.__class__") "__get__" = some (some (.builtin "getset_descriptor.__get__"))
  ct : PySem.W.takesIn K (.builtin "object.__class__") = some true
  mo : PySem.W.mroIn K C (.type "object") = some true
  mb : PySem.W.mroIn K C (.type "BaseException") = some true

theorem exc_obj {K : PySem.W.Frag} {h : Heap} {C : Addr} {bmB : List Value} {newId : String} (X : K.In h) (q : PySem.W.excIn K C bmB newId = true) :
    ∃ bm N nm q bs hdct sn sub ab col dd k0 k1 k2 k3 k5 mN, h.get? C = some (excClassObj nm q C N bs bm hdct sn sub ab col dd k0 k1 k2 k3 k5 newId) ∧ h.Ns N mN ∧ mN "__init__" = none ∧ OwnTail h bmB bm := by
  unfold PySem.W.excIn at q
  split at q
  · rename_i dd cd sl ho
    split at q
    · rename_i C' bm k0 k1 k2 k3 n k5 hm hs
      rw [Bool.and_eq_true, Bool.and_eq_true, Bool.and_eq_true, Bool.and_eq_true, Bool.and_eq_true] at q
      obtain ⟨⟨⟨⟨⟨q1, q2⟩, q3⟩, ht⟩, hok⟩, hni⟩ := q
      obtain rfl := beq_iff_eq.mp q1
      obtain rfl := beq_iff_eq.mp q2
      have hdel : cd.hasDel = false := by
        cases z : cd.hasDel with
        | false => rfl
        | true => rw [z] at q3; cases q3
      have hni' := beq_iff_eq.mp hni
      obtain ⟨nm, bs, mro, ns, qn, hd, sn, sub, ab, col, del⟩ := cd
      dsimp only at hm hdel hok hni'
      subst hm hdel
      obtain ⟨l⟩ := sl
      dsimp only at hs
      subst hs
      exact ⟨bm, ns, nm, qn, bs, hd, sn, sub, ab, col, dd, k0, k1, k2, k3, k5, _, X _ _ ho, .of_isNs (PySem.W.isNs_of_in X hok), PySem.W.nsMap_none_of_in X hok hni', PySem.W.tail_of_in X ht⟩
    · cases q
  · cases q

def tRaise (C : Addr) (Ex : XS) (t : TA) : TS := fun _ σ H => t σ H fun vs H1 => vs.length ≤ sizeLine ∧ Ex (.ref C) σ H1
section
variable {X : Cx} {Ex : XS} {x : Str} {C : Addr} {e₀ : Expr} {rest : List Expr} {np cpos pos : Pos} {t : TA}
theorem ps_raise (R : Rais X Ex) (hc : X.calm = true) (hg : Gl X x) (hm : X.mg x = some (.ref C)) (q : PySem.W.excIn X.K C bmV "ValueError.__new__" = true) (ha : PA X (e₀ :: rest) t)
    (he : starEach (e₀ :: rest) X.env = (false, eval e₀ X.env) :: starEach rest X.env := by rfl) (hplain : (backTo cpos (starEach rest X.env)).any (·.1) = false := by rfl) (hd : (x == ("__debug__" : Str)) = false := by decide) :
    PS X (.Raise (some (.Call (.Name x np) (e₀ :: rest) [] cpos)) none pos) (tRaise C Ex t) := by
  intro pins s σ H D I h
  obtain ⟨tl, N, nm, qn, bs, hdct, sn, sub, ab, col, dd, k0, k1, k2, k3, k5, mN, hC, hN, hni, T⟩ := exc_obj I.mod.kin q
  have FB := PySem.F.excBase_ValueError
  refine wpAny_Raise_call_subT (C := C) (nm := nm) (q := qn) (N := N) (bs := bs) (bm := tl) (hdct := hdct) (sn := sn) (sub := sub) (ab := ab) (col := col) (dd := dd) (k0 := k0) (k1 := k1) (k2 := k2) (k3 := k3) (k5 := k5)
    FB (mN := mN) (T.hasType FB.hasBase) (I.ok.hd hc) (by rw [he]; show (false || (backTo cpos (starEach rest X.env)).any (·.1)) = false; rw [hplain]; rfl) hni (ld_glob I hg hm ⟨rfl, ?_⟩ hd)
  have hs := ha cpos pins s σ H _ I h
  rw [he] at hs ⊢
  refine Calls.evalArgs_plain (thn hs fun us s2 ⟨vs, H2, I2, r, z, q2⟩ => ?_)
  have kb : ∀ b o, X.base.get? b = some o → s2.heap.get? b = some o := I2.bk
  exact ⟨rfl, by show us.length ≤ sizeLine; rw [← r.length]; exact z, kb _ _ hC, hN.keeps kb, T.keeps kb, fun h' e hx => R.nw pins σ H2 s2 e C h' us I2 hx q2⟩
end

/-! ### the object of an exception that was caught -/
/-- e stands for an exception of the class at C -/
def excO (e C : Addr) : HO := .ext fun h => ∃ oe, h.get? e = some oe ∧ oe.cls = .ref C

section
variable {X : Cx} {pins : List (Addr × Obj)} {σ : St} {H H' : Hp} {s s' : Shared} {e C : Addr}
/-- something that stood untracked, and new, is tracked from here on -/
theorem Inv.track {o : HO} (I : Inv X pins σ H s) (hn : H e = none) (h0 : X.s₀.heap.get? e = none) (hL : e ≠ X.env.locals) (hc : ∀ x c, X.env.cells.lookup x = some c → c ≠ e) (hp : ∀ p ∈ X.pn ++ pins, p.1 ≠ e) (hfs : e ∉ X.fs)
    (new : ObjOk X.prog X.w (upd H e o) s.heap e o) : Inv X pins σ (upd H e o) s := by
  have ne : ∀ b u, H b = some u → b ≠ e := fun b u q => ne_of_none q hn
  refine ⟨I.ok, I.os, I.bare, ⟨I.base.keep, I.base.slot, fun b ob q n hx => ?_, I.base.there, fun b xs q => ?_, fun b ob u q => ?_, fun b ps q => ?_⟩, I.loc, I.cell, ?_, fun x c q => ?_, fun p q => ?_, fun b u q => ?_, I.len⟩
  · rw [upd_ne (fun z => by rw [z, h0] at q; cases q)]
    exact I.base.free b ob q n hx
  · have z := I.base.tups b xs q
    rw [upd_ne (ne _ _ z)]
    exact z
  · have z := I.base.frzs b ob u q
    rw [upd_ne (ne _ _ z)]
    exact z
  · obtain ⟨m, z⟩ := I.base.tbls b ps q
    exact ⟨m, by rw [upd_ne (ne _ _ z)]; exact z⟩
  · rw [upd_ne hL.symm]
    exact I.free
  · rw [upd_ne (hc x c q)]
    exact I.freeC x c q
  · obtain ⟨z1, z2, z3⟩ := I.pin p q
    exact ⟨z1, by rw [upd_ne (hp p q)]; exact z2, z3⟩
  · by_cases hb : b = e
    · subst hb
      rw [upd_same] at q
      cases q
      exact new
    · rw [upd_ne hb] at q
      exact (I.hok b u q).stay (fun c v _ z => z) (fun c z => by rw [upd_ne (ne _ _ z)]; exact z) fun c xs z => by rw [upd_ne (ne _ _ z)]; exact z
end

/-- the place for the handler's suite: the exception is handled, nothing leaves -/
def hanX (X : Cx) (e : Addr) : Cx := { X with A := X.A.mark (some (.ref e)), calm := false, xe := fun _ _ => False }
/-- the place for a try's body -/
def tryX (X : Cx) (pins : List (Addr × Obj)) (Ex : XS) : Cx :=
  { X with pn := X.pn ++ pins, xe := fun ev s' => ∃ e C σ H s H', ev = Value.ref e ∧ Inv X pins σ H s ∧ Fly X.prog X.w X.stack H s e C H' s' ∧ Ex (.ref C) σ H' }

section
variable {X : Cx} {pins : List (Addr × Obj)} {σ : St} {H H' : Hp} {s s' : Shared} {e C : Addr} {Ex : XS}
theorem Inv.han (I : Inv X pins σ H s) (e : Addr) : Inv (hanX X e) pins σ H s := by
  obtain ⟨⟨o1, o2, o3, o4, o5, o6, o7, o8, o9, o10, o11, o12, o13, o14, o15, o16, o17, o18⟩, i2, i3, i4, i5, i6, i7, i8, i9, i10, i11⟩ := I
  exact ⟨⟨o1, o2, o3, o4, o5, o6, o7, o8, fun z => (Bool.false_ne_true z).elim, o10, o11, o12, o13, o14, o15, o16, o17, o18⟩, i2, i3, i4, i5, i6, i7, i8, i9, i10, i11⟩
theorem Inv.unhan (hd : X.calm = true → X.A.handled = none) (I : Inv (hanX X e) pins σ H s) : Inv X pins σ H s := by
  obtain ⟨⟨o1, o2, o3, o4, o5, o6, o7, o8, o9, o10, o11, o12, o13, o14, o15, o16, o17, o18⟩, i2, i3, i4, i5, i6, i7, i8, i9, i10, i11⟩ := I
  exact ⟨⟨o1, o2, o3, o4, o5, o6, o7, o8, hd, o10, o11, o12, o13, o14, o15, o16, o17, o18⟩, i2, i3, i4, i5, i6, i7, i8, i9, i10, i11⟩
theorem Inv.tryIn (I : Inv X pins σ H s) (Ex : XS) : Inv (tryX X pins Ex) [] σ H s := by
  obtain ⟨⟨o1, o2, o3, o4, o5, o6, o7, o8, o9, o10, o11, o12, o13, o14, o15, o16, o17, o18⟩, i2, i3, i4, i5, i6, i7, i8, i9, i10, i11⟩ := I
  exact ⟨⟨o1, o2, o3, o4, o5, o6, o7, o8, o9, o10, o11, o12, o13, o14, o15, o16, o17, o18⟩, i2, i3, i4, i5, i6, i7, i8, fun p hp => i9 p (by simpa [tryX] using hp), i10, i11⟩
theorem Inv.tryOut {pins2 : List (Addr × Obj)} (I : Inv (tryX X pins Ex) pins2 σ H s) : Inv X pins σ H s := by
  obtain ⟨⟨o1, o2, o3, o4, o5, o6, o7, o8, o9, o10, o11, o12, o13, o14, o15, o16, o17, o18⟩, i2, i3, i4, i5, i6, i7, i8, i9, i10, i11⟩ := I
  exact ⟨⟨o1, o2, o3, o4, o5, o6, o7, o8, o9, o10, o11, o12, o13, o14, o15, o16, o17, o18⟩, i2, i3, i4, i5, i6, i7, i8, fun p hp => i9 p (List.mem_append_left _ hp), i10, i11⟩
theorem pass_try : Pass (tryX X pins Ex) Ex where
  on := fun pins2 σ H s e C H' s' I F q => ⟨e, C, σ, H, s, H', rfl, I.tryOut, F, q⟩

/-- a name of the frame's is let go -/
theorem name_goes {M : Model} {A : Around} {E : Value → Shared → Prop} {i : Nat} {x : Str} {pos : Pos} {Q : Unit → Shared → Prop} (I : Inv X pins σ H s) (hN : X.N.Nodup) (hi : X.N[i]? = some x) (hk : X.env.scope.names.lookup x = some .local)
    (h : ∀ s', Inv X pins (σ.set i none) H s' → Q () s') : wpAny M A (do bindName X.env x .none; unbindBehindTheSuite X.env x pos) Q E s := by
  obtain ⟨m, hn, hl⟩ := id I.loc
  have hcls : (X.env.scope.kind == .class || (X.env.scope.kind == .module && X.env.locals != X.env.globals)) = false := by rw [I.ok.kind]; rfl
  refine wpAny_nameGoes_keeps hk hn hcls fun h' v hn' hs => ?_
  have below : ∀ b o, X.s₀.heap.get? b = some o → b ≠ X.env.locals := fun b o e => Nat.ne_of_lt (Nat.lt_of_lt_of_le (Heap.lt_size e) I.ok.above)
  refine h _ ⟨I.ok, I.os, I.bare, ⟨fun b o e n hb hx => ?_, fun b o e n hb hx => ?_, I.base.free, fun b o e hx => ?_, I.base.tups, I.base.frzs, I.base.tbls⟩, ⟨_, hn', fun j y v' e1 e2 e3 => ?_⟩, fun y c e => ?_, I.free, I.freeC, fun p hp => ?_, fun b ob e => ?_, by simpa using I.len⟩
  · exact (hs.2 b (below b o e)).trans (I.base.keep b o e n hb hx)
  · obtain ⟨sl, e1⟩ := I.base.slot b o e n hb hx
    exact ⟨sl, (hs.2 b (below b o e)).trans e1⟩
  · obtain ⟨o', e1⟩ := I.base.there b o e hx
    exact ⟨o', (hs.2 b (below b o e)).trans e1⟩
  · by_cases hj : j = i
    · subst hj
      rw [List.getElem?_set] at e2
      split at e2
      · split at e2 <;> cases e2
      · rename_i z; exact absurd rfl z
    · rw [List.getElem?_set_ne (Ne.symm hj)] at e2
      obtain ⟨u', r', q⟩ := hl j y v' e1 e2 e3
      refine ⟨u', r', ?_⟩
      have hy : y ≠ x := fun e => hj (nodup_ix hN e1 (e ▸ hi))
      rcases q with ⟨k, e⟩ | ⟨k, c, e, z⟩
      · exact .inl ⟨k, by show (if y = x then v else m y) = some u'; rw [if_neg hy]; exact e⟩
      · exact .inr ⟨k, c, e, z.sameBut hs (I.cne y c e)⟩
  · obtain ⟨w', z⟩ := I.cell y c e
    exact ⟨w', z.sameBut hs (I.cne y c e)⟩
  · obtain ⟨e, n, ne, nf, d⟩ := I.pin p hp
    exact ⟨(hs.2 p.1 ne).trans e, n, ne, nf, d⟩
  · refine (I.hok b ob e).stay (fun c w' hc q => (hs.2 c ?_).trans q) (fun _ q => q) fun _ _ q => q
    rintro rfl
    rcases hc with rfl | hc
    · rw [I.free] at e; cases e
    · rw [I.free] at hc; cases hc
end

/-- does the exception match the class at S -/
theorem exc_matches {K : PySem.W.Frag} {M : Model} {A : Around} {E : Value → Shared → Prop} {s : Shared} {e C S : Addr} {oe : Obj} {Q : Bool → Shared → Prop} (X : K.In s.heap) (c : ExcCls K S) (he : s.heap.get? e = some oe) (hc : oe.cls = .ref C)
    (hs : PySem.W.mroIn K C (.ref S) = some true) (h : Q true s) : wpAny M A (excMatches (.ref e) (.ref S)) Q E s := by
  have L0 : PySem.W.Looks M s.heap (typeOf (.ref S)) (.type "type") := PySem.W.looks_typeIn X c.ty
  have L1 : PySem.W.Looks M s.heap (isSubtype (.type "type") (.type "tuple")) false := PySem.W.Looks.of_pure tc_notTuple
  have L2 : PySem.W.Looks M s.heap (isInstance (.ref S) (.type "tuple")) false := L0.andThen L1
  have L3 : PySem.W.Looks M s.heap (isSubtype (.ref S) (.type "BaseException")) true := PySem.W.looks_mroIn X c.mb
  have L4 : PySem.W.Looks M s.heap (isSubtype (.ref C) (.ref S)) true := PySem.W.looks_mroIn X hs
  have L5 : PySem.W.Looks M s.heap (typeOf (.ref e)) (.ref C) := hc ▸ (PySem.W.Looks.ld he).andThen .now
  have L6 : PySem.W.Looks M s.heap (isType (.ref S)) true := by
    have z := c.cls
    unfold PySem.W.clsIn at z
    split at z
    · rename_i c' d' cd' sl' ho
      intro A' Q' E' s' k q
      unfold isType loadHead
      exact wpAny_bind (wpAny_loadPart (k _ _ (X _ _ ho)) (wpAny_pure q))
    · cases z
  obtain ⟨hh, g, d, t, os⟩ := s
  unfold excMatches
  refine wpAny_bind (L2.at ?_)
  simp only [Bool.false_eq_true, if_false]
  refine wpAny_bind (wpAny_pure ?_)
  simp only [List.forIn_cons, List.forIn_nil]
  refine wpAny_bind (wpAny_bind ?_)
  unfold isExcClass
  refine wpAny_bind (wpAny_bind (L6.at ?_))
  simp only [if_true]
  refine L3.at ?_
  simp only [Bool.not_true, Bool.false_eq_true, if_false]
  refine wpAny_pure (wpAny_pure ?_)
  refine wpAny_bind (L5.at ?_)
  refine wpAny_bind (wpAny_bind (wpAny_bind (L4.at ?_)))
  simp only [if_true]
  exact wpAny_pure (wpAny_pure (wpAny_pure h))

/-! ### e.__class__, isinstance(e, ..) -/
section
open Builtin Builtin.ObjectAttr Builtin.Getset_descriptor
theorem exc_find {K : PySem.W.Frag} {M : Model} {h : Heap} {e C : Addr} {name : Str} {a g : Value} (X : K.In h) (h1 : PySem.W.findIn K (.ref C) name = some (some a)) (h2 : PySem.W.specialIn K a "__get__" = some (some g)) (h3 : PySem.W.takesIn K a = some true) :
    PySem.W.Looks M h (find (.ref e) (.ref C) name) (.bind g a) := by
  have L1 := PySem.W.looks_findIn (M := M) X h1
  have L2 : PySem.W.Looks M h (getOf (some a)) (some g) := PySem.W.looks_specialIn X h2
  have L3 := PySem.W.looks_takesIn (M := M) X h3
  exact L1.andThen (L2.andThen ((show PySem.W.Looks M h (dataDescriptor? (some a) (some g)) (some (g, a)) from L3.andThen .now).andThen (PySem.W.Looks.tag .now)))
theorem exc_class_get {prog : Program} {w : World} {A : Around} {s : Shared} {K : PySem.W.Frag} {x C : Addr} {R : Result → Shared → Prop} {tp : Value} (X : K.In s.heap) (I : ∀ M, PySem.W.Looks M s.heap (typeOf (.ref x)) (.ref C))
    (hm : PySem.W.mroIn K C (.type "object") = some true) (h : R (.ok (.ret (.ref C))) s) : codeAny (model prog w) A (.call (.builtin "getset_descriptor.__get__") ⟨[.builtin "object.__class__", .ref x, tp], []⟩) R s := by
  obtain ⟨hh, g, dr, t, os⟩ := s
  have L0 := I (model prog w)
  have L1 := PySem.W.looks_mroIn (M := model prog w) X hm
  refine codeAny_call_builtin PySem.W.KF.slot_gs.plain PySem.W.KF.entry_gs (PySem.W.KF.slot_gs.check _ _ _ _ _ _ _ _ PySem.W.KF.type_class (PySem.W.KF.args_gs _ _ _) ?_)
  unfold Builtin.«getset_descriptor.__get__» descrGet
  rw [PySem.W.dga_obj]
  refine wpAny_bind (wpAny_pure ?_)
  unfold descrGetter descrCheckInstance descrNameAndClass isInstance
  simp only [PySem.W.KF.owner_class]
  repeat lk
  refine ⟨Code.quiet_builtin _ (by decide +kernel), codeAny_builtin PySem.W.KF.entry_class ?_⟩
  unfold Builtin.«object.__class__» shownTypeOf
  repeat lk
  exact h
end
theorem exc_ga_check {M : Model} {A : Around} {E : Value → Shared → Prop} {s : Shared} {K : PySem.W.Frag} {x C : Addr} {nameV : Value} {Q : Unit → Shared → Prop} (X : K.In s.heap) (I : PySem.W.Looks M s.heap (typeOf (.ref x)) (.ref C))
    (hm : PySem.W.mroIn K C (.type "BaseException") = some true) (hq : Q () s) : wpAny M A (checkBuiltinCall "BaseException.__getattribute__" ⟨[.ref x, nameV], []⟩) Q E s := by
  have hk : builtinKind "BaseException.__getattribute__" = some .slot := by decide +kernel
  have hsplit : splitId "BaseException.__getattribute__" = some ("BaseException", "__getattribute__") := by decide +kernel
  have L1 := PySem.W.looks_mroIn (M := M) X hm
  have L2 : PySem.W.Looks M s.heap (isInstance (.ref x) (.type "BaseException")) true := I.andThen L1
  have ha := F.args_bexc_ga (.ref x) nameV
  obtain ⟨hh, g, dr, t, os⟩ := s
  simp only [checkBuiltinCall, hk, hsplit]
  refine wpAny_bind (L2.at ?_)
  repeat (first | assumption | wp_step)
section
open Builtin Builtin.ObjectAttr Builtin.Getset_descriptor
theorem exc_ca {prog : Program} {w : World} {A : Around} {E : Value → Shared → Prop} {s : Shared} {K : PySem.W.Frag} {x C : Addr} {Q : Option Value → Shared → Prop} (X : K.In s.heap) (c : ExcCls K C) (I : ∀ M, PySem.W.Looks M s.heap (typeOf (.ref x)) (.ref C))
    (h : Q (some (.ref C)) { s with toks := s.toks + 1 }) : wpAny (model prog w) A (getAttr? (.ref x) "__class__") Q E s := by
  obtain ⟨hh, g, d, t, os⟩ := s
  have L0 := I (model prog w)
  have L1 := PySem.W.looks_findIn (M := model prog w) X c.ga
  have L2 := PySem.W.looks_findIn (M := model prog w) X c.gx
  have L3 := exc_find (M := model prog w) (e := x) X c.ca c.cg c.ct
  have hx2 : (Value.builtin "BaseException.__getattribute__" == Value.builtin "object.__getattribute__") = false := by decide +kernel
  have f3 := F.excAttr_ValueError.ga.bind (.ref x)
  unfold getAttr? getAttrBy? getAttrBy
  refine wpAny_bind (wpAny_mkText (wpAny_bind (wpAny_attempt (wpAny_holding (wpAny_bind (L0.at (wpAny_bind (L1.at ?_))))))))
  dsimp only
  rw [if_neg (by rw [hx2, Bool.and_false]; exact Bool.false_ne_true)]
  unfold getAttrByItsOwn hookBefore
  rw [if_pos (show onTheHeap (Value.ref C) = true from rfl)]
  refine wpAny_bind (L2.at ?_)
  refine wpAny_bind (wpAny_attempt (wpAny_holding ?_))
  unfold callGetattribute
  rw [if_neg (by decide)]
  unfold boundAndCalled
  refine wpAny_bind (wpAny_of_eq f3 ?_)
  refine wpAny_call (codeAny_call_builtin F.excAttr_ValueError.ga.plain F.entry_bexc_ga (exc_ga_check X L0 c.mb ?_))
  show wpAny _ _ (Builtin.«object.__getattribute__» ⟨[.ref x, .str "__class__" t], []⟩) _ _ _
  unfold Builtin.«object.__getattribute__»
  refine wpAny_bind (wpAny_of_eq (a := (Value.ref x, [Value.str "__class__" t])) rfl ?_)
  refine wpAny_bind (wpAny_of_eq (a := ("__class__" : Str)) rfl ?_)
  refine wpAny_bind (L0.at (wpAny_bind (L3.at ?_)))
  show wpAny _ _ (holding [Value.builtin "object.__class__"] (call (.builtin "getset_descriptor.__get__") [.builtin "object.__class__", .ref x, .ref C]) >>= ret) _ _ _
  refine wpAny_bind (wpAny_holding (wpAny_call (exc_class_get (s := ⟨hh, g, d, t + 1, os⟩) X I c.mo ?_)))
  show wpAny _ _ (ret (Value.ref C)) _ _ _
  refine wpAny_pure ?_
  show wpAny _ _ (handedOut (Value.ref C)) _ _ _
  exact PySem.W.handed_on rfl (wpAny_pure h)
end
end L2

set_option Elab.async false
set_option linter.all false
set_option maxRecDepth 100000
/-! isinstance; try; small operations -/
namespace L2
open PySem PySem.Spec PyProof.Rows

/-! ### isinstance -/
/-- the class of a value: a built-in one, an own one, an exception's -/
inductive TyX (K : PySem.W.Frag) (H : Hp) : V → Value → Prop where
  | of {v : V} {t : Value} (h : TyOf K H v t) : TyX K H v t
  | exc {e C : Addr} (h : H e = some (excO e C)) (c : ExcCls K C) : TyX K H (.ref e) (.ref C)

theorem kitx_exc {K : PySem.W.Frag} {e C : Addr} (c : ExcCls K C) : PySem.W.KitX K (.ref e) (.ref C) (fun h => ∃ oe, h.get? e = some oe ∧ oe.cls = .ref C) where
  ty := fun M h _ ⟨oe, h1, h2⟩ => h2 ▸ (PySem.W.Looks.ld h1).andThen .now
  it := fun _ _ X _ => by
    have z := c.cls
    unfold PySem.W.clsIn at z
    split at z
    · rename_i c' d' cd' sl' ho
      intro A' Q' E' s' k q
      unfold isType loadHead
      exact wpAny_bind (wpAny_loadPart (k _ _ (X _ _ ho)) (wpAny_pure q))
    · cases z
  ne := fun h tp dd its n sl X htp => by
    refine Bool.eq_false_iff.mpr fun q => ?_
    have e : C = tp := Value.ref.inj (beq_iff_eq.mp q)
    subst e
    have z := c.cls
    unfold PySem.W.clsIn at z
    split at z
    · rename_i c' d' cd' sl' ho
      have z := (X _ _ ho).symm.trans htp
      cases z
    · cases z
  ca := fun X ⟨oe, h1, h2⟩ k => exc_ca X c (fun M => h2 ▸ (PySem.W.Looks.ld h1).andThen .now) k

section
variable {X : Cx} {pins : List (Addr × Obj)} {σ : St} {H : Hp} {s : Shared}
theorem TyX.kit {x : V} {u t : Value} (I : Inv X pins σ H s) (rx : RelV x u) (ty : TyX X.K H x t) : ∃ φ : Heap → Prop, PySem.W.KitX X.K u t φ ∧ φ s.heap ∧ u ≠ .builtin "__main__.__loader__#opaque" := by
  cases ty with
  | exc h c =>
    rename_i e C
    cases (show u = Value.ref e from rx)
    obtain ⟨z, _⟩ := I.hok e _ h
    exact ⟨_, kitx_exc c, z, fun z => nomatch z⟩
  | of ty =>
    cases ty with
    | non => cases (show u = Value.none from rx); exact ⟨_, PySem.W.kitx_none, True.intro, fun z => nomatch z⟩
    | bl y => cases (show u = Value.bool y from rx); exact ⟨_, PySem.W.kitx_bool, True.intro, fun z => nomatch z⟩
    | int i => obtain ⟨t, q⟩ := (show ∃ t, u = Value.int i t from rx); cases q; exact ⟨_, PySem.W.kitx_int, True.intro, fun z => nomatch z⟩
    | str y => obtain ⟨t, q⟩ := (show ∃ t, u = Value.str y t from rx); cases q; exact ⟨_, PySem.W.kitx_str, True.intro, fun z => nomatch z⟩
    | flt y => obtain ⟨t, q⟩ := (show ∃ t, u = Value.float y t from rx); cases q; exact ⟨_, PySem.W.kitx_float, True.intro, fun z => nomatch z⟩
    | @lst a xs ea =>
      cases (show u = Value.ref a from rx)
      obtain ⟨_, _, n, _, h1⟩ := (show ObjOk X.prog X.w H s.heap a (.lst xs) from I.hok a _ ea)
      exact ⟨_, PySem.W.kitx_list, ⟨_, h1, rfl⟩, fun z => nomatch z⟩
    | @frz a ob xs ea =>
      cases (show u = Value.ref a from rx)
      obtain ⟨_, _, _, n, _, h1⟩ := (show ObjOk X.prog X.w H s.heap a (.frz ob (.lst xs)) from I.hok a _ ea)
      exact ⟨_, PySem.W.kitx_list, ⟨_, h1, rfl⟩, fun z => nomatch z⟩
    | @tup a xs ea =>
      cases (show u = Value.ref a from rx)
      obtain ⟨_, _, _, p⟩ := (show ObjOk X.prog X.w H s.heap a (.tup xs) from I.hok a _ ea)
      obtain ⟨o, h1, h2, _⟩ := p
      exact ⟨_, PySem.W.kitx_tuple, ⟨o, h1, h2⟩, fun z => nomatch z⟩
    | @dK a kvs ea =>
      cases (show u = Value.ref a from rx)
      obtain ⟨_, _, vs, _, p⟩ := (show ObjOk X.prog X.w H s.heap a (.dK kvs) from I.hok a _ ea)
      obtain ⟨o, es, ep, h1, h2, _⟩ := p
      exact ⟨_, PySem.W.kitx_dict, ⟨o, h1, h2.1⟩, fun z => nomatch z⟩
    | @dT a kvs ea =>
      cases (show u = Value.ref a from rx)
      obtain ⟨_, _, xs, _, o, es, ep, h1, h2, _⟩ := (show ObjOk X.prog X.w H s.heap a (.dT kvs) from I.hok a _ ea)
      exact ⟨_, PySem.W.kitx_dict, ⟨o, h1, h2.1⟩, fun z => nomatch z⟩
    | @ins a C dx fs ea cl ha hn htk hm =>
      cases (show u = Value.ref a from rx)
      obtain ⟨mA, O, _⟩ := ins_get I.hok ea
      obtain ⟨od, J, _⟩ := O.look
      exact ⟨_, PySem.W.kitx_own (cl.get _) cl.hd ha hn htk hm, J, fun z => nomatch z⟩

/-- a class as a value -/
def clsV : V → Option Value
  | .ty n => some (.type n)
  | .ref a => some (.ref a)
  | _ => none
theorem clsV_rel {c : V} {cv u : Value} (h : clsV c = some cv) (r : RelV c u) : u = cv := by
  cases c <;> first | (cases h; exact r) | cases h
theorem clsVs_rel : ∀ {cs : List V} {cvs us : List Value}, cs.map clsV = cvs.map some → Vals cs us → us = cvs
  | [], [], _, _, .nil => rfl
  | [], _ :: _, _, h, _ => by cases h
  | _ :: _, [], _, h, _ => by cases h
  | c :: cs, cv :: cvs, _, h, .cons r t => by
    have h' := List.cons.inj (show clsV c :: cs.map clsV = some cv :: cvs.map some from h)
    rw [clsV_rel h'.1 r, clsVs_rel h'.2 t]
theorem call_isi : CallR X (.builtin "isinstance") (fun xs H Q => ∃ v c t cv b, xs = [v, c] ∧ clsV c = some cv ∧ TyX X.K H v t ∧ PySem.W.kitOne X.K t cv = some b ∧ Q (.bl b) H) := by
  intro pins s σ H xs us Q I r h
  obtain ⟨v, c, t, cv, b, rfl, hc, ty, hk, q⟩ := h
  obtain ⟨u, cu, rfl, ru, rc⟩ := vals2 r
  obtain rfl := clsV_rel hc rc
  obtain ⟨φ, Z, p, ne⟩ := ty.kit I ru
  exact PySem.W.kia_one Z I.kIn p hk ne fun tk => ⟨.bl b, H, I.tok tk, rfl, q⟩
/-- isinstance(x, (A, B, ..)) -/
theorem call_isiT : CallR X (.builtin "isinstance") (fun xs H Q => ∃ v tp cs t cvs b, xs = [v, .ref tp] ∧ H tp = some (.tup cs) ∧ cs.map clsV = cvs.map some ∧ TyX X.K H v t ∧ PySem.W.kitAny X.K t cvs = some b ∧ Q (.bl b) H) := by
  intro pins s σ H xs us Q I r h
  obtain ⟨v, tp, cs, t, cvs, b, rfl, ht, hc, ty, hk, q⟩ := h
  obtain ⟨u, cu, rfl, ru, rc⟩ := vals2 r
  cases (show cu = Value.ref tp from rc)
  obtain ⟨φ, Z, p, ne⟩ := ty.kit I ru
  obtain ⟨_, its, rv, o, h1, h2, n, h3⟩ := (show ObjOk X.prog X.w H s.heap tp (.tup cs) from I.hok tp _ ht)
  obtain rfl := clsVs_rel hc rv
  obtain ⟨oc, od, odt, osl⟩ := o
  dsimp only at h2 h3
  subst h2 h3
  exact PySem.W.kia_tup Z I.kIn p h1 hk ne fun tk => ⟨.bl b, H, I.tok tk, rfl, q⟩
end

section
variable {X : Cx}
/-! the same with the written part by its own name (inside a handler's suite, a block) -/
theorem call_isiK (K : PySem.W.Frag) (h : X.K = K := by rfl) : CallR X (.builtin "isinstance") (fun xs H Q => ∃ v c t cv b, xs = [v, c] ∧ clsV c = some cv ∧ TyX K H v t ∧ PySem.W.kitOne K t cv = some b ∧ Q (.bl b) H) := h ▸ call_isi
theorem call_isiTK (K : PySem.W.Frag) (h : X.K = K := by rfl) : CallR X (.builtin "isinstance") (fun xs H Q => ∃ v tp cs t cvs b, xs = [v, .ref tp] ∧ H tp = some (.tup cs) ∧ cs.map clsV = cvs.map some ∧ TyX K H v t ∧ PySem.W.kitAny K t cvs = some b ∧ Q (.bl b) H) := h ▸ call_isiT
theorem ix_listK (K : PySem.W.Frag) (h : X.K = K := by rfl) : IxR X (rIxL K) := h ▸ ix_list
theorem ix_tupK (K : PySem.W.Frag) (h : X.K = K := by rfl) : IxR X (rIxT K) := h ▸ ix_tup
end

/-! ### try .. except C as n -/
/-- Ex: what is wanted of an exception that flies out of the body; i: the name's slot -/
def tTry (tb : XS → TS) (K : PySem.W.Frag) (S : Addr) (i : Nat) (th : TS) : TS := fun D σ H =>
  tb (fun c σ' H' => ∃ C, c = .ref C ∧ PySem.W.mroIn K C (.ref S) = some true ∧ ∀ e, H' e = none →
    th { nx := fun σ2 H2 => D.nx (σ2.set i none) H2, rt := D.rt, bk := fun σ2 H2 => D.bk (σ2.set i none) H2, ct := fun σ2 H2 => D.ct (σ2.set i none) H2 } (σ'.set i (some (.ref e))) (upd H' e (excO e C))) D σ H
theorem ps_try {X : Cx} {body suite : List Stmt} {b₀ : Stmt} {x n : Str} {S : Addr} {i : Nat} {np hpos pos : Pos} {tb : XS → TS} {th : TS} (O : Own X) (hc : X.calm = true) (hb : ∀ pins Ex, PSs (tryX X pins Ex) body (tb Ex)) (hg : Gl X x) (hm : X.mg x = some (.ref S)) (cS : ExcCls X.K S)
    (hN : X.N.Nodup) (hi : X.N[i]? = some n) (hl : X.env.scope.names.lookup n = some .local) (hh : ∀ e, PSs (hanX X e) (b₀ :: suite) th) (hd : (x == ("__debug__" : Str)) = false := by decide) :
    PS X (.Try body [.ExceptHandler (some (.Name x np)) (some n) (b₀ :: suite) hpos] [] [] pos) (tTry tb X.K S i th) := by
  intro pins s σ H D I h
  refine wpAny_Try_except (wpAny_mono (hb pins _ [] s σ H D (I.tryIn _) h) (fun f s1 q => ?_) fun ev s1 q => ?_)
  · cases f with
    | next => obtain ⟨σ1, H1, I1, q1⟩ := q; exact wpAny_execs_nil ⟨σ1, H1, I1.tryOut, q1⟩
    | brk => obtain ⟨σ1, H1, I1, q1⟩ := q; exact ⟨σ1, H1, I1.tryOut, q1⟩
    | cont => obtain ⟨σ1, H1, I1, q1⟩ := q; exact ⟨σ1, H1, I1.tryOut, q1⟩
    | ret u => obtain ⟨v1, σ1, H1, I1, r1, q1⟩ := q; exact ⟨v1, σ1, H1, I1.tryOut, r1, q1⟩
  · obtain ⟨e, C, σ1, H1, s2, H2, rfl, I2, F, C', ec, hs, k⟩ := q
    cases ec
    have hfr := I2.ok.frames
    obtain ⟨a0, B, fl, go⟩ := F.more
    have st := O.st
    rw [st] at hfr
    have fl' : Heap.FlyingW B (X.env :: X.outer) e (.ref C) a0 s1.heap := st ▸ fl
    refine wpAny_looks_onW hfr O.fr fl' fun h1 held1 up1 => ?_
    refine wpAny_landsW held1 fun h2 fl2 up2 => ?_
    have F2 : Fly X.prog X.w X.stack H1 s2 e C H2 { s1 with heap := h2 } := go h2 (st.symm ▸ fl2) (up1.trans up2)
    have I3 := F2.inv I2
    have I3h := I3.han e
    obtain ⟨oe, vs, he, hec, _⟩ := F2.obj
    refine wpAny_handleBy_cons (codeAny_handlers_test (ld_glob (X := hanX X e) I3h hg hm ?_ hd)) (by intro q; cases q)
    refine exc_matches (K := X.K) I3.kIn cS he hec hs ?_
    refine codeAny_handlers_suite_as (lands_againW fl2 fun h3 fl3 up3 => ?_)
    have F3 : Fly X.prog X.w X.stack H1 s2 e C H2 { s1 with heap := h3 } := go h3 (st.symm ▸ fl3) ((up1.trans up2).trans up3)
    have I4 := F3.inv I2
    have nw := F3.new
    have hn := F3.untracked
    obtain ⟨oe3, vs3, he3, hec3, _⟩ := F3.obj
    have I5 : Inv X pins σ1 (upd H2 e (excO e C)) { s1 with heap := h3 } := by
      refine I4.track hn ?_ ?_ (fun y c q z => ?_) (fun p hp z => ?_) (fun z => ?_) ⟨⟨oe3, he3, hec3⟩, ⟨oe3, he3⟩, fun g1 g2 q1 q2 => ?_⟩
      · cases q : X.s₀.heap.get? e with
        | none => rfl
        | some o =>
          obtain ⟨o', z⟩ := I2.base.there e o q (O.nex e)
          rw [nw] at z
          cases z
      · rintro rfl
        obtain ⟨m, ⟨o, _, _, ho, _⟩, _⟩ := I2.loc
        rw [nw] at ho
        cases ho
      · subst z
        obtain ⟨v, o, ho, _⟩ := I2.cell y c q
        rw [nw] at ho
        cases ho
      · have ho := (I2.pin p hp).1
        rw [z, nw] at ho
        cases ho
      · obtain ⟨_, o, ho, _⟩ := I2.funs.mem z
        rw [nw] at ho
        cases ho
      · obtain ⟨o, z1, z2⟩ := q1
        exact ⟨o, q2 o z1, z2⟩
    refine store_ok (X := hanX X e) (v := .ref e) (I5.han e) hN hi (.inl hl) rfl (fun s4 I6 => ?_) (.inr hl)
    refine wpAny_mono (hh e pins s4 _ _ _ I6 (k e hn)) (fun f s5 q5 => ?_) fun _ _ z => z.elim
    have hdl : X.calm = true → X.A.handled = none := I2.ok.hd
    cases f with
    | next => obtain ⟨σ5, H5, I7, q7⟩ := q5; exact name_goes (I7.unhan hdl) hN hi hl fun s6 I8 => ⟨_, H5, I8, q7⟩
    | brk => obtain ⟨σ5, H5, I7, q7⟩ := q5; exact name_goes (I7.unhan hdl) hN hi hl fun s6 I8 => ⟨_, H5, I8, q7⟩
    | cont => obtain ⟨σ5, H5, I7, q7⟩ := q5; exact name_goes (I7.unhan hdl) hN hi hl fun s6 I8 => ⟨_, H5, I8, q7⟩
    | ret u => obtain ⟨v5, σ5, H5, I7, r7, q7⟩ := q5; exact name_goes (I7.unhan hdl) hN hi hl fun s6 I8 => ⟨v5, _, H5, I8, r7, q7⟩

/-! ### small operations -/
section
variable {X : Cx}
/-- + of lists that are read -/
def rCatQ (K : PySem.W.Frag) : R2 := fun x y H Q => ∃ l b xs zs, x = .ref l ∧ y = .ref b ∧ SqL K H l xs ∧ SqL K H b zs ∧ xs.length + zs.length ≤ sizeLine ∧ ∀ p, H p = none → Q (.ref p) (upd H p (.lst (xs ++ zs)))
theorem op_catQ : OpR X (binaryOp .Add) (rCatQ X.K) := by
  intro pins s σ H x y v u Q I rx ry h
  obtain ⟨l, b, xs, zs, rfl, rfl, hH, hB, hz, q⟩ := h
  cases rx
  cases ry
  obtain ⟨its, r, pl, hl⟩ := I.list hH
  obtain ⟨its2, r2, pl2, hl2⟩ := I.list hB
  obtain ⟨⟨cls, dd, data, sl⟩, n, ho, hc, _, hd⟩ := pl
  obtain ⟨⟨cls2, dd2, data2, sl2⟩, n2, ho2, hc2, _, hd2⟩ := pl2
  dsimp only at hc hd hc2 hd2
  subst hc hd hc2 hd2
  have ea : its.toArray ++ its2.toArray = (its ++ its2).toArray := by simp
  refine concat_meets ⟨_, ho, rfl⟩ ⟨_, ho2, rfl⟩ noFill_list_add seq_list_add PySem.F.slot_list_add PySem.F.entry_list_add (PySem.F.args_list_add_2 _ _) (list_addW l b its.toArray its2.toArray n n2 dd dd2 sl sl2 (by rw [List.size_toArray, List.size_toArray, ← r.length, ← r2.length]; exact hz)) ⟨ho, ho2, ?_⟩
  rw [ea]
  exact ⟨.ref _, _, I.lnew (t' := s.toks) (r.append r2) (by rw [List.length_append]; exact hz), rfl, q _ I.fresh⟩
/-- == and != of lists of ints -/
def rEqL (K : PySem.W.Frag) (f : Bool → Bool) : R2 := fun x y H Q => ∃ (l b : Addr) (ns ms : List Int), x = .ref l ∧ y = .ref b ∧ SqL K H l (ns.map V.int) ∧ SqL K H b (ms.map V.int) ∧ Q (.bl (f (decide (ns = ms)))) H
theorem op_eqL (hu : X.A.units + 64 < cLine) : OpR X (compareOp .Eq) (rEqL X.K id) := by
  intro pins s σ H x y v u Q I rx ry h
  obtain ⟨l, b, ns, ms, rfl, rfl, hH, hB, q⟩ := h
  cases rx
  cases ry
  obtain ⟨its, r, pl, hl⟩ := I.list hH
  obtain ⟨its2, r2, pl2, hl2⟩ := I.list hB
  exact PySem.W.eq_intsK pl.isList (intsAre_of r) pl2.isList (intsAre_of r2) hu ⟨.bl (decide (ns = ms)), H, I, rfl, q⟩
/-- * of ints whose sizes are known -/
def CMulB (i j : Int) : Prop := CMul i j ∨ (i.natAbs < 2 ^ 2000000 ∧ j.natAbs < 2 ^ 2000000)
/-- // by any divisor that has not thousands of figures -/
def CDivB (_ j : Int) : Prop := j ≠ 0 ∧ j.natAbs < 2 ^ 8000
/-- {} -/
theorem Inv.big {pins : List (Addr × Obj)} {σ : St} {H : Hp} {s : Shared} (I : Inv X pins σ H s) : sysModules < s.heap.objs.size := by
  have h : mainGlobals < s.heap.objs.size := (I.mod.glob.keeps I.bk).lt
  exact Nat.lt_trans (by decide) h
def tDNewK : TE := fun _ H Q => ∀ p, H p = none → Q (.ref p) (upd H p (.dK []))
end
end L2

set_option Elab.async false
set_option linter.all false
set_option maxRecDepth 100000
/-! defs by their names; forms one uses -/
namespace L2
open PySem PySem.Spec PyProof.Rows

/-- the text of a def of the module, as it stands behind the top -/
structure Tx (K : PySem.W.Frag) (mg : Str → Option Value) (x : Str) (st : Stmt) (ps : List Str) (f : Addr) (fd : FuncData) : Prop where
  fn : Fun K x x st f fd
  at_ : mg x = some (.ref f)
  bd : ∀ us : List Value, us.length = ps.length → bindArgs fd ⟨us, []⟩ = pure (ps.zip us)
theorem tx_mk {K : PySem.W.Frag} {mg : Str → Option Value} {h : Heap} {x : Str} {st : Stmt} {ps : List Str} {f : Addr} {oc : Value} {od an : Option Addr} {osl : Array (Option Value)} {kV doc pm cdv ct : Value} (X : K.In h) (G : h.Ns mainGlobals mg)
    (a : PySem.W.nsIn K mainGlobals x = some (some (.ref f))) (l : K.lookup f = some ⟨oc, od, .func (PySem.W.fnOf x x (defArgs st) (defBody st) (defScope st) .none kV doc pm an cdv ct), osl⟩)
    (c : PySem.W.codeIn K cdv x = true) (k : PySem.W.keepIn K (.ref f) = true)
    (hb : ∀ (kV doc pm : Value) (an : Option Addr) (cdv ct : Value) (us : List Value), us.length = ps.length → bindArgs (PySem.W.fnOf x x (defArgs st) (defBody st) (defScope st) .none kV doc pm an cdv ct) ⟨us, []⟩ = pure (ps.zip us)) :
    ∃ f fd, Tx K mg x st ps f fd := ⟨f, _, fun_mk l c k, PySem.W.mg_of X G a, hb kV doc pm an cdv ct⟩

/-- a def's promise, by its name -/
structure Df (P : Program) (w : World) (K : PySem.W.Frag) (mg : Str → Option Value) (base : Heap) (CX : CXT) (k : Nat) (x : Str) (ps : List Str) (sp : Sp) (f : Addr) (fd : FuncData) : Prop where
  at_ : mg x = some (.ref f)
  kp : PySem.W.keepIn K (.ref f) = true
  ok : FnOk P w K mg base CX k f fd ps sp
  bd : Binds K fd ps []
section
variable {P : Program} {w : World} {K : PySem.W.Frag} {mg : Str → Option Value} {base : Heap} {x : Str} {st : Stmt} {ps N : List Str} {f : Addr} {fd : FuncData} {k : Nat} {sp : Sp}
theorem Tx.df0 (t : Tx K mg x st ps f fd) (S : FnScope N ps (defScope st)) (len : ∀ vs H Q E, sp vs H Q E → vs.length = ps.length)
    (hbody : ∀ (cdv : Value) (A : Around) (outer : List Env) (s : Shared) (H : Hp) (vs : List V) (Q : VK) (E : XK), Room k (A.deeper (envOfC x (defScope st) s.heap.objs.size f cdv)) → sp vs H Q E →
      ∃ t, PSs (cxOf CX0 P w K mg base N x (defScope st) f cdv A outer s H E).nox (defBody st) t ∧ t { nx := fun _ H' => Q .non H', rt := Q } (start N vs) H) : Df P w K mg base CX0 (k + 1) x ps sp f fd :=
  ⟨t.at_, t.fn.kp, t.fn.ok S len hbody, .all t.bd⟩
theorem Tx.df1 (t : Tx K mg x st ps f fd) (S : FnScope N ps (defScope st)) (len : ∀ vs H Q E, sp vs H Q E → vs.length = ps.length)
    (hbody : ∀ (cdv : Value) (A : Around) (outer : List Env) (s : Shared) (H : Hp) (vs : List V) (Q : VK) (E : XK), Room k (A.deeper (envOfC x (defScope st) s.heap.objs.size f cdv)) → sp vs H Q E →
      ∃ t, PSs (cxOf (CX1 P w) P w K mg base N x (defScope st) f cdv A outer s H E) (defBody st) t ∧ t { nx := fun _ H' => Q .non H', rt := Q } (start N vs) H) : Df P w K mg base (CX1 P w) (k + 1) x ps sp f fd :=
  ⟨t.at_, t.fn.kp, t.fn.ok1 S len hbody, .all t.bd⟩
end
section
variable {X : Cx} {Ex : XS} {k j : Nat} {f : Addr} {fd : FuncData} {ps : List Str} {sp : Sp} {x : Str} {p pos : Pos} {e : Expr} {es : List Expr} {t : TA}
/-- f(..) of a def that raises nothing -/
theorem pe_d0 (D : Df X.prog X.w X.K X.mg X.base CX0 k x ps sp f fd) (hr : Room j X.A) (hj : k ≤ j) (hg : Gl X x) (ha : PA X (e :: es) t) (hdb : (x == ("__debug__" : Str)) = false := by decide) (he : starEach (e :: es) X.env = (false, eval e X.env) :: starEach es X.env := by rfl) (hpl : (backTo pos (starEach es X.env)).any (·.1) = false := by rfl) :
    PE X (.Call (.Name x p) (e :: es) [] pos) (tCall sp [] E0 t) := pe_call D.ok (hr.mono hj) hg D.at_ D.kp D.bd .nil pass0 ha hdb he hpl
/-- .. of one that may -/
theorem pe_d1 (R : Pass X Ex) (D : Df X.prog X.w X.K X.mg X.base (CX1 X.prog X.w) k x ps sp f fd) (hr : Room j X.A) (hj : k ≤ j) (hg : Gl X x) (ha : PA X (e :: es) t) (hdb : (x == ("__debug__" : Str)) = false := by decide) (he : starEach (e :: es) X.env = (false, eval e X.env) :: starEach es X.env := by rfl) (hpl : (backTo pos (starEach es X.env)).any (·.1) = false := by rfl) :
    PE X (.Call (.Name x p) (e :: es) [] pos) (tCallX sp [] Ex t) := pe_callX R D.ok (hr.mono hj) hg D.at_ D.kp D.bd .nil ha hdb he hpl
end
/-- nothing may leave -/
theorem pass_no {X : Cx} : Pass X (fun _ _ _ => False) := ⟨fun _ _ _ _ _ _ _ _ _ _ q => q.elim⟩

/-- a comprehension over a range whose turn changes nothing: f tells what a turn gives -/
theorem comp_itr {n : Nat} {σ0 : St} {H1 : Hp} {i0 : Nat} {c : TT} {te : TE} {Q : Addr → Hp → Prop} (f : Nat → Option V) (hn : n ≤ sizeLine)
    (step : ∀ (i : Nat) (H2 : Hp) (k : VK) (k0 : Hp → Prop), i < n → (∀ y, f i = some y → k y H2) → (f i = none → k0 H2) →
      c (σ0.set i0 (some (.int (0 + (i : Int))))) H2 fun b H4 => if b = true then te (σ0.set i0 (some (.int (0 + (i : Int))))) H4 k else k0 H4)
    (h : ∀ D, H1 D = none → Q D (upd H1 D (.lst ((List.range n).filterMap f)))) :
    ∀ D, H1 D = none → ∃ W : Nat → Nat → St → Hp → Prop, (∃ m, W 0 m σ0 (upd H1 D (.lst []))) ∧ ∀ i m σ1 H2, W i m σ1 H2 →
      ((Itr 0 n).stop i H2 ∧ Q D H2) ∨ ((Itr 0 n).go i H2 ∧ ∃ N : St → Hp → Prop, (∀ σ' H', N σ' H' → ∃ m', m' < m ∧ W (i + 1) m' σ' H') ∧
        ∀ x H', (Itr 0 n).yld i H2 x H' → gName i0 x σ1 H' fun σ2 H3 => c σ2 H3 fun b H4 => if b = true then te σ2 H4 fun y H5 => ∃ xs, H5 D = some (.lst xs) ∧ xs.length < sizeLine ∧ N σ2 (upd H5 D (.lst (xs ++ [y]))) else N σ2 H4) := by
  intro D hD
  refine ⟨fun i m σ1 H2 => σ1.set i0 none = σ0.set i0 none ∧ H2 = upd H1 D (.lst ((List.range i).filterMap f)) ∧ i ≤ n ∧ m = n - i, ⟨n, rfl, rfl, Nat.zero_le _, rfl⟩, ?_⟩
  rintro i m σ1 H2 ⟨hσ, rfl, hi, rfl⟩
  have hset : ∀ v : Option V, σ1.set i0 v = σ0.set i0 v := fun v => by
    have z := congrArg (fun l => List.set l i0 v) hσ
    simpa using z
  rcases Nat.lt_or_ge i n with hlt | hge
  · right
    refine ⟨hlt, fun σ' H' => σ'.set i0 none = σ0.set i0 none ∧ H' = upd H1 D (.lst ((List.range (i + 1)).filterMap f)), fun σ' H' ⟨a, b⟩ => ⟨n - (i + 1), by omega, a, b, hlt, rfl⟩, ?_⟩
    rintro x H' ⟨rfl, rfl⟩
    show c (σ1.set i0 (some (.int (0 + (i : Int))))) _ _
    rw [hset]
    refine step i _ _ _ hlt (fun y hy => ⟨_, upd_same, ?_, ?_, ?_⟩) fun hno => ⟨?_, ?_⟩
    · refine Nat.lt_of_le_of_lt (List.length_filterMap_le _ _) ?_
      rw [List.length_range]
      omega
    · simp
    · rw [upd_upd, List.range_succ, List.filterMap_append]
      simp [hy]
    · simp
    · rw [List.range_succ, List.filterMap_append]
      simp [hno]
  · left
    obtain rfl : i = n := Nat.le_antisymm hi hge
    exact ⟨Nat.le_refl _, h D hD⟩

/-- an item of a list at a place within it -/
theorem atI_in {α : Type} {xs : List α} {i : Int} (h0 : 0 ≤ i) (h1 : i < xs.length) : ∃ v, atI xs i = some v ∧ v ∈ xs := by
  have hn : i.toNat < xs.length := by omega
  refine ⟨xs[i.toNat], ?_, List.getElem_mem hn⟩
  have z := atI_nat (xs := xs) (j := i.toNat) (List.getElem?_eq_getElem hn)
  rw [Int.toNat_of_nonneg h0] at z
  exact z
theorem Same.upd_new {H : Hp} {p : Addr} {o : HO} (h : H p = none) : Same H (upd H p o) := fun b u e => by
  rw [upd_ne (ne_of_none e h)]
  exact e
theorem Same.ty {K : PySem.W.Frag} {H H' : Hp} {v : V} {t : Value} (s : Same H H') (h : TyOf K H v t) : TyOf K H' v t := by
  cases h with
  | non => exact .non
  | bl x => exact .bl x
  | int i => exact .int i
  | str x => exact .str x
  | flt x => exact .flt x
  | lst e => exact .lst (s _ _ e)
  | frz e => exact .frz (s _ _ e)
  | tup e => exact .tup (s _ _ e)
  | dK e => exact .dK (s _ _ e)
  | dT e => exact .dT (s _ _ e)
  | ins e cl ha hn htk hm => exact .ins (s _ _ e) cl ha hn htk hm

theorem bt_isi : bootBuiltins "isinstance" = some (.builtin "isinstance") := by decide +kernel
theorem bt_int : bootBuiltins "int" = some (.type "int") := by decide +kernel
theorem bt_bool : bootBuiltins "bool" = some (.type "bool") := by decide +kernel
theorem bt_list : bootBuiltins "list" = some (.type "list") := by decide +kernel
theorem bt_tuple : bootBuiltins "tuple" = some (.type "tuple") := by decide +kernel
theorem bt_len : bootBuiltins "len" = some (.builtin "len") := by decide +kernel
theorem bt_abs : bootBuiltins "abs" = some (.builtin "abs") := by decide +kernel
theorem bt_ve : bootBuiltins "ValueError" = some (.type "ValueError") := by decide +kernel

theorem exc_mk {K : PySem.W.Frag} {C : Addr} (h2 : PySem.W.typeIn K (.ref C) = some (.type "type")) (h3 : PySem.W.findIn K (.ref C) "__getattribute__" = some (some (.builtin "BaseException.__getattribute__"))) (h4 : PySem.W.findIn K (.ref C) "__getattr__" = some none)
    (h5 : PySem.W.findIn K (.ref C) "__class__" = some (some (.builtin "object.__class__"))) (h6 : PySem.W.specialIn K (.builtin "object.__class__") "__get__" = some (some (.builtin "getset_descriptor.__get__"))) (h7 : PySem.W.takesIn K (.builtin "object.__class__") = some true)
    (h8 : PySem.W.mroIn K C (.type "object") = some true) (h9 : PySem.W.mroIn K C (.type "BaseException") = some true) : ExcCls K C := by
  refine ⟨?_, h2, h3, h4, h5, h6, h7, h8, h9⟩
  unfold PySem.W.mroIn at h8
  obtain ⟨cd, a, _⟩ := Option.bind_eq_some_iff.mp h8
  rw [a]
  rfl

/-! ### is it a number -/
/-- the built-in kinds that turn up -/
inductive Kd : String → Prop where
  | non : Kd "NoneType"
  | bl : Kd "bool"
  | int : Kd "int"
  | str : Kd "str"
  | tup : Kd "tuple"
  | lst : Kd "list"
  | dic : Kd "dict"
theorem Kd.int_ (K : PySem.W.Frag) {T : String} (h : Kd T) : PySem.W.kitOne K (.type T) (.type "int") = some (T == "int" || T == "bool") := by
  cases h <;> rfl
theorem Kd.bool_ (K : PySem.W.Frag) {T : String} (h : Kd T) : PySem.W.kitOne K (.type T) (.type "bool") = some (T == "bool") := by
  cases h <;> rfl
theorem Kd.list_ (K : PySem.W.Frag) {T : String} (h : Kd T) : PySem.W.kitOne K (.type T) (.type "list") = some (T == "list") := by
  cases h <;> rfl
theorem Kd.tuple_ (K : PySem.W.Frag) {T : String} (h : Kd T) : PySem.W.kitOne K (.type T) (.type "tuple") = some (T == "tuple") := by
  cases h <;> rfl
def isI : V → Bool
  | .int _ => true
  | _ => false
/-- a value of one of these kinds -/
structure Pl (K : PySem.W.Frag) (H : Hp) (v : V) : Prop where
  ex : ∃ T, TyOf K H v (.type T) ∧ Kd T
theorem Pl.int {K : PySem.W.Frag} {H : Hp} (i : Int) : Pl K H (.int i) := ⟨_, .int i, .int⟩
theorem Pl.isI {K : PySem.W.Frag} {H : Hp} {v : V} {T : String} (h : TyOf K H v (.type T)) : isI v = (T == "int") := by
  cases h <;> rfl
theorem Pl.same {K : PySem.W.Frag} {H H' : Hp} {v : V} (h : Pl K H v) (s : Same H H') : Pl K H' v := let ⟨T, a, b⟩ := h.ex; ⟨T, s.ty a, b⟩
def inB (lo hi : Int) : V → Bool
  | .int i => decide (lo ≤ i) && decide (i ≤ hi)
  | _ => false
end L2

set_option Elab.async false
set_option linter.all false
set_option maxRecDepth 100000
/-! for a, b in zip(xs, ys): two lists that are read -/
namespace L2
open PySem PySem.Spec PyProof.Rows
section
variable {X : Cx} {pins : List (Addr × Obj)} {σ : St} {H H' : Hp} {s : Shared} {h' : Heap}
/-- records of ours have turned -/
theorem Inv.turnedL {t' : Nat} {fp : List Addr} (I : Inv X pins σ H s) (k : ∀ b o, b ∉ fp → s.heap.get? b = some o → h'.get? b = some o) (hf : ∀ b ∈ fp, FpOk X pins H b) : Inv X pins σ H { s with heap := h', toks := t' } := by
  have nit : ∀ b u, H b = some u → b ∉ fp := fun b u e z => by rw [(hf b z).1] at e; cases e
  refine I.step (g' := s.gens) (d' := s.drawn) (ch := fp) (fun b hb => ?_) (fun b o _ _ hc e _ => k b o hc e) (fun b o _ _ hc e _ => ⟨o.slots, k b o hc e⟩) (fun _ _ _ _ n => n)
    (fun b o hc e => ⟨o, k b o hc e⟩) (fun _ _ e => e) (fun _ _ _ e => e) (fun b ps e => ⟨#[], by rw [e]; simp⟩) (fun m hm => ?_) (fun b u e => ?_) I.bare
  · obtain ⟨_, f1, _, f3, f4, f5⟩ := hf b hb
    exact ⟨f3, f1, f4, f5⟩
  · obtain ⟨o, es, ep, ho, r⟩ := hm
    exact ⟨o, es, ep, k _ o (fun z => (hf _ z).2.1 rfl) ho, r⟩
  · refine (I.hok b u e).stay (fun c v hc q => k c v ?_ q) (fun _ q => q) fun _ _ q => q
    rcases hc with z | z
    · rw [z]; exact nit b u e
    · exact nit c _ z
end

/-- the pairs of the lists at l1 and l2, by turns, each a new tuple -/
def Itz (K : PySem.W.Frag) (l1 l2 : Addr) : It :=
  ⟨fun i H => ∃ xs ys x y, SqL K H l1 xs ∧ SqL K H l2 ys ∧ xs[i]? = some x ∧ ys[i]? = some y,
   fun i H v H' => ∃ t x y, v = .ref t ∧ H t = none ∧ H' = upd H t (.tup [x, y]) ∧ (∀ xs, SqL K H l1 xs → xs[i]? = some x) ∧ ∀ ys, SqL K H l2 ys → ys[i]? = some y,
   fun i H => ∃ xs ys, SqL K H l1 xs ∧ SqL K H l2 ys ∧ (xs.length ≤ i ∨ ys.length ≤ i)⟩
def zipTn (z TI TO i1 i2 l1 l2 : Addr) (i : Nat) (h : Heap) : Prop :=
  IsZip h z TI TO .none ∧ IsPair h TI (.ref i1) (.ref i2) ∧ (∃ a b, IsPair h TO a b) ∧ h.IsListIter i1 l1 i ∧ h.IsListIter i2 l2 i
def iZip (K : PySem.W.Frag) (ta : TA) : TI := fun σ H R => ta σ H fun vs H1 => ∃ l1 l2, vs = [.ref l1, .ref l2] ∧ (∃ xs, SqL K H1 l1 xs) ∧ (∃ ys, SqL K H1 l2 ys) ∧ R (Itz K l1 l2) H1
end L2

set_option Elab.async false
set_option linter.all false
set_option maxRecDepth 100000
/-! a def that is called while an exception is handled -/
namespace L2
open PySem PySem.Spec PyProof.Rows
/-- the same place, nothing handled -/
@[reducible] def calmA (A : Around) : Around := { A with handled := none }
structure RoomU (k : Nat) (A : Around) : Prop where
  dp : A.depth + 3 * k + 5 < recursionLimit
  un : A.units + 16 * k + 200 < cLine
structure FnOkU (P : Program) (w : World) (K : PySem.W.Frag) (mg : Str → Option Value) (base : Heap) (k : Nat) (f : Addr) (fd : FuncData) (ps : List Str) (sp : Sp) : Prop where
  len : ∀ vs H Q E, sp vs H Q E → vs.length = ps.length
  run : ∀ (A : Around) (outer : List Env) (s : Shared) (H : Hp) (args : Args) (us : List Value) (vs : List V) (Q : VK) (E : XK), RoomU k A → Env0 P w K mg base A outer s H → BindsTo s fd args (ps.zip us) → Vals vs us → sp vs H Q E →
    codeAny (model P w) A (.call (.ref f) args) (CR CX0 outer P w H s Q E) s
/-- a def's context, whatever is handled; nothing leaves -/
def cxU (P : Program) (w : World) (K : PySem.W.Frag) (mg : Str → Option Value) (base : Heap) (N : List Str) (qual : Str) (scope : Scope) (f : Addr) (cd : Value) (A : Around) (outer : List Env) (s : Shared) (H : Hp) : Cx :=
  { cxOf CX0 P w K mg base N qual scope f cd A outer s H E0 with calm := false, xe := fun _ _ => False }
structure DfU (P : Program) (w : World) (K : PySem.W.Frag) (mg : Str → Option Value) (base : Heap) (k : Nat) (x : Str) (ps : List Str) (sp : Sp) (f : Addr) (fd : FuncData) : Prop where
  at_ : mg x = some (.ref f)
  kp : PySem.W.keepIn K (.ref f) = true
  ok : FnOkU P w K mg base k f fd ps sp
  bd : Binds K fd ps []
section
variable {X : Cx} {k j : Nat} {f : Addr} {fd : FuncData} {ps : List Str} {sp : Sp} {x : Str} {p pos : Pos} {e : Expr} {es : List Expr} {t : TA}
end
end L2

set_option Elab.async false
set_option linter.all false
set_option maxRecDepth 100000
/-! the script's ints are of at most 2 ** 20 bits together -/
namespace L2
open PySem PySem.Spec PyProof.Rows PySem.W PySem.Calls
/-- of at most n bits (omega does not look into it) -/
def Sm (n : Nat) (i : Int) : Prop := i.natAbs < 2 ^ n
/-- an if whose ways meet again: behind a statement that is no assignment, behind an assignment -/
theorem if_joinS {c : TT} {t e u : TS} {D : Ends} {σ : St} {H : Hp} (P : St → Hp → Prop) (hk : ∀ σ H, P σ H → u D σ H) (h : (∀ σ H, P σ H → u D σ H) → tIfS c t e { D with nx := u D } σ H) : tSeq (tIfS c t e) u D σ H := h hk
theorem if_joinN {i : Nat} {v : V} {c : TT} {t e u : TS} {D : Ends} {σ : St} {H : Hp} (P : St → Hp → Prop) (hk : ∀ σ H, P σ H → u D σ H) (h : (∀ σ H, P σ H → u D σ H) → tIfS c t e { D with nx := u D } (σ.set i (some v)) H) : gName i v σ H (tSeq (tIfS c t e) u D) := h hk
end L2

set_option Elab.async false
set_option linter.all false
set_option maxRecDepth 100000
/-! own classes with a base: methods by the object's class, by the class, made objects; sum, all, any, tuple.index, == of nested data -/
namespace PySem.SeqAt
open AutoSeq1 (wpAny_loadPart')
open MeetsSeq MeetsSeq2 MeetsSeq3 SeqRoads2
theorem wpAny_forIn_rng {M : Model} {A : Around} {E : Value → Shared → Prop} {s : Shared} {β : Type} (f : Nat → β → Sem (ForInStep β)) (I : Nat → β → Shared → Prop) (Q : β → Shared → Prop) (n : Nat)
    (turn : ∀ i b s, i < n → I i b s → wpAny M A (f i b) (fun r s' => match r with | .yield b' => I (i + 1) b' s' | .done b' => Q b' s') E s)
    (fin : ∀ b s, I n b s → Q b s) (b : β) (h : I 0 b s) : wpAny M A (forIn [0:n] b f) Q E s := by
  rw [Std.Legacy.Range.forIn_eq_forIn_range']
  refine wpAny_forIn_list f (fun rest b s => ∃ i, i ≤ n ∧ rest = List.range' i (n - i) ∧ I i b s) Q ?_ ?_ _ b ⟨0, Nat.zero_le _, ?_, h⟩
  · rintro x rest b s ⟨i, hi, hr, hI⟩
    have hlt : i < n := by
      rcases Nat.lt_or_ge i n with z | z
      · exact z
      · rw [show n - i = 0 by omega] at hr; cases hr
    obtain ⟨k, hk⟩ : ∃ k, n - i = k + 1 := ⟨n - i - 1, by omega⟩
    rw [hk, List.range'_succ] at hr
    obtain ⟨rfl, rfl⟩ := List.cons.inj hr
    refine wpAny_mono (turn x b s hlt hI) (fun r s' hr => ?_) fun _ _ z => z
    cases r with
    | done b' => exact hr
    | yield b' => exact ⟨x + 1, hlt, by rw [show n - (x + 1) = k by omega], hr⟩
  · rintro b s ⟨i, hi, hr, hI⟩
    have : i = n := by
      rcases Nat.lt_or_ge i n with z | z
      · obtain ⟨k, hk⟩ : ∃ k, n - i = k + 1 := ⟨n - i - 1, by omega⟩
        rw [hk, List.range'_succ] at hr; cases hr
      · omega
    subst this
    exact fin _ _ hI
  · simp [Std.Legacy.Range.size]
theorem tuple_indexAt (l : Addr) (items : Array Value) (n : Nat) (dd : Option Addr) (sl : Array (Option Value)) (x : Value) (e : Value → Bool) (j : Nat) (hj : j < items.size)
    (hit : e items[j] = true) (hno : ∀ m (hm : m < items.size), m < j → e items[m] = false) :
    Meets (Builtin.«tuple.index» ⟨[.ref l, x], []⟩)
      (fun A R s => s.heap.get? l = some { cls := .type "tuple", dict := dd, data := .seq items n, slots := sl } ∧ (∀ y, y ∈ items → EqAt A.in1 s y x (e y)) ∧ R (.ok (.ret (.int (j : Nat) s.toks))) { s with toks := s.toks + 1 }) :=
  .of_wp fun prog w A R s h => by
    obtain ⟨hp, g, d, tk, os⟩ := s; obtain ⟨hl, he, h⟩ := h
    wp_walk using wpAny_loadPart' hl, wpAny_forIn_rng _ (fun i b s' => b.1 = none ∧ s' = ⟨hp, g, d, tk, os⟩ ∧ i ≤ j) _ _
    case turn =>
      rintro i b s' hi ⟨hb, rfl, hij⟩
      have hi' : i < items.size := by omega
      rw [Array.getElem?_eq_getElem hi']
      refine wpAny_bind (he _ (Array.getElem_mem hi') prog w _ _ ?_)
      rcases Nat.lt_or_ge i j with z | z
      · rw [hno i hi' z]
        wp_walk
        exact ⟨rfl, rfl, z⟩
      · obtain rfl : i = j := by omega
        rw [hit]
        wp_walk
        exact ⟨_, rfl, h⟩
    case fin =>
      rintro ⟨b1, b2⟩ s' ⟨hb, rfl, hij⟩
      omega
    case h =>
      exact ⟨rfl, rfl, Nat.zero_le _⟩
end PySem.SeqAt
namespace L2
open PySem PySem.Spec PyProof.Rows

/-! ### small words -/
theorem Same.sqt {K : PySem.W.Frag} {H H' : Hp} {a : Addr} {xs : List V} (e : Same H H') (h : SqT K H a xs) : SqT K H' a xs := by
  rcases h with (h | ⟨o, h⟩) | h
  · exact .inl (.inl (e _ _ h))
  · exact .inl (.inr ⟨o, e _ _ h⟩)
  · exact .inr h
theorem Same.upd_ne' {H H' : Hp} {D : Addr} {o : HO} (s : Same H H') (h : H D = none) : Same H (upd H' D o) := fun b u e => by
  rw [upd_ne (ne_of_none e h)]
  exact s b u e
theorem fm_mapV {α β : Type} (F : α → β) : ∀ xs : List α, ((List.range xs.length).filterMap fun i => (xs[i]?).bind fun x => some (F x)) = xs.map F
  | [] => rfl
  | x :: r => by
    rw [List.length_cons, List.range_succ_eq_map, List.filterMap_cons, List.filterMap_map]
    show F x :: _ = F x :: r.map F
    rw [← fm_mapV F r]
    rfl
theorem fm_bind {α β : Type} (f : α → Option β) : ∀ xs : List α, ((List.range xs.length).filterMap fun i => (xs[i]?).bind f) = xs.filterMap f
  | [] => rfl
  | x :: r => by
    rw [List.length_cons, List.range_succ_eq_map, List.filterMap_cons, List.filterMap_map, List.filterMap_cons, ← fm_bind f r]
    rfl
theorem Pl.upd_ins {K : PySem.W.Frag} {H : Hp} {x C dx C' dx' : Addr} {fs fs' : List (Str × V)} {v : V} (h : Pl K H v) (hx : H x = some (.ins C dx fs)) : Pl K (upd H x (.ins C' dx' fs')) v := by
  obtain ⟨T, ty, kd⟩ := h.ex
  refine ⟨T, ?_, kd⟩
  have at_ : ∀ b o, H b = some o → (∀ C dx fs, o ≠ .ins C dx fs) → upd H x (.ins C' dx' fs') b = some o := fun b o e n => by
    rw [upd_ne]
    · exact e
    · rintro rfl
      rw [hx] at e
      exact n _ _ _ (Option.some.inj e).symm
  cases ty with
  | non => exact .non
  | bl x => exact .bl x
  | int i => exact .int i
  | str x => exact .str x
  | flt x => exact .flt x
  | lst e => exact .lst (at_ _ _ e (by intro _ _ _ z; cases z))
  | frz e => exact .frz (at_ _ _ e (by intro _ _ _ z; cases z))
  | tup e => exact .tup (at_ _ _ e (by intro _ _ _ z; cases z))
  | dK e => exact .dK (at_ _ _ e (by intro _ _ _ z; cases z))
  | dT e => exact .dT (at_ _ _ e (by intro _ _ _ z; cases z))

/-- nothing but the object at x may be other -/
def SameBut (x : Addr) (H H' : Hp) : Prop := ∀ b o, b ≠ x → H b = some o → H' b = some o
theorem Same.but {H H' : Hp} (s : Same H H') (x : Addr) : SameBut x H H' := fun b o _ e => s b o e
theorem SameBut.then {x : Addr} {H H1 H2 : Hp} (a : SameBut x H H1) (b : Same H1 H2) : SameBut x H H2 := fun c o n e => b c o (a c o n e)
theorem SameBut.updx {x : Addr} {H H1 : Hp} (a : SameBut x H H1) (u : HO) : SameBut x H (upd H1 x u) := fun c o n e => by rw [upd_ne n]; exact a c o n e
theorem SameBut.made {x dx : Addr} {H H' : Hp} {C : Addr} (hx : H x = none) (hd : H dx = none) (ne : dx ≠ x) (s : SameBut x (upd (upd H dx (.own x)) x (.ins C dx [])) H') : Same H H' := fun b o e => by
  have n1 : b ≠ x := ne_of_none e hx
  have n2 : b ≠ dx := ne_of_none e hd
  exact s b o n1 (by rw [upd_ne n1, upd_ne n2]; exact e)
/-! ### where nothing is raised, what may raise is promised, too -/
theorem FnOk.up {P : Program} {w : World} {K : PySem.W.Frag} {mg : Str → Option Value} {base : Heap} {k : Nat} {f : Addr} {fd : FuncData} {ps : List Str} {sp : Sp} (F : FnOk P w K mg base CX0 k f fd ps sp) : FnOk P w K mg base (CX1 P w) k f fd ps sp :=
  ⟨F.len, fun A outer s H args us vs Q E hr he hb hv hs => codeAny_mono (F.run A outer s H args us vs Q E hr he hb hv hs) fun r s' h => by
    cases r with
    | error e => exact False.elim h
    | ok fl => cases fl <;> exact h⟩

/-! ### the text of a class's own def -/
structure Mx (K : PySem.W.Frag) (x qual : Str) (st : Stmt) (ps : List Str) (f : Addr) (fd : FuncData) : Prop where
  fn : Fun K x qual st f fd
  bd : ∀ us : List Value, us.length = ps.length → bindArgs fd ⟨us, []⟩ = pure (ps.zip us)
theorem mx_mk {K : PySem.W.Frag} {x qual : Str} {st : Stmt} {ps : List Str} {f : Addr} {oc : Value} {od an : Option Addr} {osl : Array (Option Value)} {kV doc pm cdv ct : Value}
    (l : K.lookup f = some ⟨oc, od, .func (PySem.W.fnOf x qual (defArgs st) (defBody st) (defScope st) .none kV doc pm an cdv ct), osl⟩)
    (c : PySem.W.codeIn K cdv qual = true) (k : PySem.W.keepIn K (.ref f) = true)
    (hb : ∀ (kV doc pm : Value) (an : Option Addr) (cdv ct : Value) (us : List Value), us.length = ps.length → bindArgs (PySem.W.fnOf x qual (defArgs st) (defBody st) (defScope st) .none kV doc pm an cdv ct) ⟨us, []⟩ = pure (ps.zip us)) :
    ∃ fd, Mx K x qual st ps f fd := ⟨_, fun_mk l c k, hb kV doc pm an cdv ct⟩
/-- what a method promises -/
structure Md (P : Program) (w : World) (K : PySem.W.Frag) (mg : Str → Option Value) (base : Heap) (k : Nat) (ps : List Str) (sp : Sp) (f : Addr) : Prop where
  ex : ∃ fd, FnOk P w K mg base (CX1 P w) k f fd ps sp ∧ Binds K fd ps []
section
variable {P : Program} {w : World} {K : PySem.W.Frag} {mg : Str → Option Value} {base : Heap} {x qual : Str} {st : Stmt} {ps N : List Str} {f : Addr} {fd : FuncData} {k j : Nat} {sp sp' : Sp}
theorem Mx.md0 (t : Mx K x qual st ps f fd) (S : FnScope N ps (defScope st)) (len : ∀ vs H Q E, sp vs H Q E → vs.length = ps.length)
    (hbody : ∀ (cdv : Value) (A : Around) (outer : List Env) (s : Shared) (H : Hp) (vs : List V) (Q : VK) (E : XK), Room k (A.deeper (envOfC qual (defScope st) s.heap.objs.size f cdv)) → sp vs H Q E →
      ∃ t, PSs (cxOf CX0 P w K mg base N qual (defScope st) f cdv A outer s H E).nox (defBody st) t ∧ t { nx := fun _ H' => Q .non H', rt := Q } (start N vs) H) : Md P w K mg base (k + 1) ps sp f :=
  ⟨fd, (t.fn.ok S len hbody).up, .all t.bd⟩
theorem Mx.md1 (t : Mx K x qual st ps f fd) (S : FnScope N ps (defScope st)) (len : ∀ vs H Q E, sp vs H Q E → vs.length = ps.length)
    (hbody : ∀ (cdv : Value) (A : Around) (outer : List Env) (s : Shared) (H : Hp) (vs : List V) (Q : VK) (E : XK), Room k (A.deeper (envOfC qual (defScope st) s.heap.objs.size f cdv)) → sp vs H Q E →
      ∃ t, PSs (cxOf (CX1 P w) P w K mg base N qual (defScope st) f cdv A outer s H E) (defBody st) t ∧ t { nx := fun _ H' => Q .non H', rt := Q } (start N vs) H) : Md P w K mg base (k + 1) ps sp f :=
  ⟨fd, t.fn.ok1 S len hbody, .all t.bd⟩
theorem Md.up (M : Md P w K mg base k ps sp f) (h : k ≤ j) : Md P w K mg base j ps sp f := let ⟨fd, F, b⟩ := M.ex; ⟨fd, ⟨F.len, fun A outer s H args us vs Q E hr he hb hv hs => F.run A outer s H args us vs Q E (hr.mono h) he hb hv hs⟩, b⟩
theorem Md.imp (M : Md P w K mg base k ps sp f) (h : ∀ vs H Q E, sp' vs H Q E → sp vs H Q E) : Md P w K mg base k ps sp' f := let ⟨fd, F, b⟩ := M.ex; ⟨fd, F.imp h, b⟩
end

/-! ### C.m(..), m a def of the class C or of one above it -/
structure CMeth (K : PySem.W.Frag) (C : Addr) (m : Str) (f : Addr) : Prop where
  ga : PySem.W.specialIn K (.ref C) "__getattribute__" = some (some (.builtin "type.__getattribute__"))
  rd : PySem.W.readsIn K C (.type "type") = true
  at_ : PySem.W.findCls K (.ref C) (.type "type") m = some (.val (.ref f))
  kp : PySem.W.keepIn K (.ref f) = true
section
variable {X : Cx} {Ex : XS} {k j : Nat} {f C : Addr} {ps : List Str} {sp : Sp} {x m : Str} {p pos apos : Pos} {e o : Expr} {es : List Expr} {ta : TE} {t : TA}
theorem pe_cm {pl : Sem Bool} (R : Pass X Ex) (hg : Gl X x) (hm : X.mg x = some (.ref C)) (M : CMeth X.K C m f) (F : Md X.prog X.w X.K X.mg X.base k ps sp f) (hr : Room j X.A) (hj : k ≤ j) (ha : PA X (e :: es) t)
    (hdb : (x == ("__debug__" : Str)) = false := by decide)
    (hst : starEach (e :: es) X.env = (false, eval e X.env) :: starEach es X.env := by rfl) (hpl : (backTo pos (starEach es X.env)).any (·.1) = false := by rfl)
    (ht : eval (.Call (.Attribute (.Name x p) m apos) (e :: es) [] pos) X.env = (do
      let ov ← eval (.Name x p) X.env
      standAt apos.atName
      let (f, first) ← holding [ov] (getMethod ov m pl)
      callWith pos f first (backTo pos (starEach (e :: es) X.env)) (backToKw pos (keywordEach [] X.env))) := by rfl) :
    PE X (.Call (.Attribute (.Name x p) m apos) (e :: es) [] pos) (tCallX sp [] Ex t) := by
  intro pins s σ H Q I h
  obtain ⟨fd, F, hb⟩ := F.ex
  refine PySem.W.methodCall_KW (pl := pl) (thn (pe_glob (v := .ref C) hg hm rfl hdb pins s σ H (fun v H' => v = .ref C ∧ H' = H) I ⟨rfl, rfl⟩) fun u s1 ⟨x, H1, I1, rx, ex, eH⟩ => ?_) ht
  subst ex eH
  obtain rfl : u = Value.ref C := rx
  refine PySem.W.method_cls I1.kIn M.ga (PySem.W.cls_value I1.kIn M.rd M.at_ rfl ?_)
  refine PySem.W.callWith_K (first := []) (h₀ := X.base) I.ok.mod.kin M.kp (thn (ha pos pins _ σ _ _ (I1.tok _) h) fun us s2 ⟨vs, H2, I2, r, q2⟩ => ⟨I2.kIn, ?_⟩) hst hpl
  exact run_fnX R F (hr.mono hj) hb .nil I2 r q2

/-! ### o.m(..) by the class of o -/
def tMethX (K : PySem.W.Frag) (MO : Addr → Sp → Prop) (m : Str) (Ex : XS) (ta : TE) (t : TA) : TE := fun σ H Q => ta σ H fun x H1 => ∃ a C dx fs g sp, x = .ref a ∧ H1 a = some (.ins C dx fs) ∧ fs.lookup m = none ∧ Cls K C ∧ Meth K C m g ∧ MO g sp ∧
  t σ H1 fun vs H2 => sp (x :: vs) H2 Q fun c _ H' => Ex c σ H'
theorem pe_methX {pl : Sem Bool} (R : Pass X Ex) (he : PE X o ta) (hr : Room j X.A) (hj : k ≤ j) (ha : PA X (e :: es) t)
    (hst : starEach (e :: es) X.env = (false, eval e X.env) :: starEach es X.env := by rfl) (hpl : (backTo pos (starEach es X.env)).any (·.1) = false := by rfl)
    (ht : eval (.Call (.Attribute o m apos) (e :: es) [] pos) X.env = (do
      let ov ← eval o X.env
      standAt apos.atName
      let (f, first) ← holding [ov] (getMethod ov m pl)
      callWith pos f first (backTo pos (starEach (e :: es) X.env)) (backToKw pos (keywordEach [] X.env))) := by rfl) :
    PE X (.Call (.Attribute o m apos) (e :: es) [] pos) (tMethX X.K (fun g sp => ∃ ps, Md X.prog X.w X.K X.mg X.base k ps sp g) m Ex ta t) := by
  intro pins s σ H Q I h
  refine PySem.W.methodCall_KW (pl := pl) (thn (he pins s σ H _ I h) fun u s1 ⟨x, H1, I1, rx, a, C, dx, fs, g, sp, ex, ea, l, c, hm, ⟨ps, F⟩, q⟩ => ?_) ht
  subst ex
  obtain rfl : u = Value.ref a := rx
  obtain ⟨fd, F, hb⟩ := F.ex
  refine getmeth_ok I1 ea c hm l ?_
  refine PySem.W.callWith_K (first := [.ref a]) (h₀ := X.base) I.ok.mod.kin hm.kp (thn (ha pos pins s1 σ H1 _ I1 q) fun us s2 ⟨vs, H2, I2, r, q2⟩ => ⟨I2.kIn, ?_⟩) hst hpl
  exact run_fnX (us := .ref a :: us) (vs := .ref a :: vs) R F (hr.mono hj) hb .nil I2 (.cons rfl r) (by rw [List.append_nil]; exact q2)
theorem pe_methX0 {pl : Sem Bool} (R : Pass X Ex) (he : PE X o ta) (hr : Room j X.A) (hj : k ≤ j)
    (ht : eval (.Call (.Attribute o m apos) [] [] pos) X.env = (do
      let ov ← eval o X.env
      standAt apos.atName
      let (f, first) ← holding [ov] (getMethod ov m pl)
      callWith pos f first (backTo pos (starEach [] X.env)) (backToKw pos (keywordEach [] X.env))) := by rfl) :
    PE X (.Call (.Attribute o m apos) [] [] pos) (tMethX X.K (fun g sp => ∃ ps, Md X.prog X.w X.K X.mg X.base k ps sp g) m Ex ta tNil) := by
  intro pins s σ H Q I h
  refine PySem.W.methodCall_KW (pl := pl) (thn (he pins s σ H _ I h) fun u s1 ⟨x, H1, I1, rx, a, C, dx, fs, g, sp, ex, ea, l, c, hm, ⟨ps, F⟩, q⟩ => ?_) ht
  subst ex
  obtain rfl : u = Value.ref a := rx
  obtain ⟨fd, F, hb⟩ := F.ex
  refine getmeth_ok I1 ea c hm l ?_
  exact PySem.W.callWith_K0 (first := [.ref a]) I1.kIn hm.kp (run_fnX (us := [.ref a]) (vs := [.ref a]) R F (hr.mono hj) hb .nil I1 (.cons rfl .nil) q)

/-! ### C(..) -/
def tMakeX (C : Addr) (sp : Sp) (Ex : XS) (t : TA) : TE := fun σ H Q => t σ H fun vs H1 => ∀ x dx, H1 x = none → H1 dx = none → dx ≠ x →
  sp (.ref x :: vs) (upd (upd H1 dx (.own x)) x (.ins C dx [])) (fun v H2 => v = .non ∧ Q (.ref x) H2) fun c _ H' => Ex c σ H'
theorem run_makeX {fd : FuncData} {pins : List (Addr × Obj)} {σ : St} {H : Hp} {s : Shared} {Q : VK} {us : List Value} {vs : List V} (R : Pass X Ex) (M : Mk X.K C f) (F : FnOk X.prog X.w X.K X.mg X.base (CX1 X.prog X.w) k f fd ps sp) (hr : Room (k + 1) X.A) (hb : Binds X.K fd ps [])
    (I : Inv X pins σ H s) (r : Vals vs us)
    (h : ∀ x dx, H x = none → H dx = none → dx ≠ x → sp (.ref x :: vs) (upd (upd H dx (.own x)) x (.ins C dx [])) (fun v H2 => v = .non ∧ Q (.ref x) H2) fun c _ H' => Ex c σ H') :
    wpAny (model X.prog X.w) X.A (call (.ref C) us) (EP X pins σ Q) X.xe s := by
  have hq := h (s.heap.objs.size + 1) s.heap.objs.size (I.hok.fresh (Nat.le_succ _)) (I.hok.fresh (Nat.le_refl _)) (Nat.ne_of_lt (Nat.lt_succ_self _))
  have I2 := Inv.made (C := C) I
  have r2 : Vals (V.ref (s.heap.objs.size + 1) :: vs) (Value.ref (s.heap.objs.size + 1) :: us) := .cons rfl r
  have hl : (Value.ref (s.heap.objs.size + 1) :: us).length = ps.length := by
    have e := r2.length
    rw [F.len _ _ _ _ hq] at e
    exact e.symm
  have hb2 := hb { s with heap := (s.heap.push PySem.W.emptyDict).push (PySem.W.instObj C s.heap.objs.size) } (Value.ref (s.heap.objs.size + 1) :: us) I2.kIn (by rw [List.append_nil]; exact hl)
  rw [List.append_nil] at hb2
  refine wpAny_call (make_map (f := f) I.kIn M.makes M.init (beq_iff_eq.mp M.fn) (codeAny_mono (F.run _ X.stack _ _ ⟨Value.ref (s.heap.objs.size + 1) :: us, []⟩ (Value.ref (s.heap.objs.size + 1) :: us) _ _ _ (hr.make C us [])
    (I2.env0.make C us []) hb2 r2 hq) fun r s' hq' => ?_))
  cases r with
  | error ev =>
    obtain ⟨e, C', H', rfl, Fl, q⟩ := hq'
    exact R.on pins σ _ _ e C' H' s' I2 Fl q
  | ok fl =>
    cases fl with
    | ret u =>
      obtain ⟨v, H', I3, rv, ev, q3⟩ := I2.after hq'
      subst ev
      exact ⟨rv, ⟨V.ref (s.heap.objs.size + 1), H', I3, rfl, q3⟩⟩
    | next => exact False.elim hq'
    | brk => exact False.elim hq'
    | cont => exact False.elim hq'
theorem pe_makeX (R : Pass X Ex) (M : Mk X.K C f) (F : Md X.prog X.w X.K X.mg X.base k ps sp f) (hr : Room j X.A) (hj : k + 1 ≤ j) (hg : Gl X x) (hm : X.mg x = some (.ref C))
    (ha : PA X (e :: es) t) (hdb : (x == ("__debug__" : Str)) = false := by decide) (he : starEach (e :: es) X.env = (false, eval e X.env) :: starEach es X.env := by rfl) (hpl : (backTo pos (starEach es X.env)).any (·.1) = false := by rfl) :
    PE X (.Call (.Name x p) (e :: es) [] pos) (tMakeX C sp Ex t) := by
  intro pins s σ H Q I h
  obtain ⟨fd, F, hb⟩ := F.ex
  refine wpAny_Call_Name_kw (ld_glob I hg hm ?_ hdb)
  refine PySem.W.callWith_K (h₀ := X.base) I.ok.mod.kin M.kp (thn (ha pos pins s σ H _ I h) fun us s1 ⟨vs, H1, I1, r, q⟩ => ⟨I1.kIn, ?_⟩) he hpl
  exact run_makeX R M F (hr.mono hj) hb I1 r q
end

/-! ### what of the text an own class must have -/
structure OCls (K : PySem.W.Frag) (C : Addr) : Prop where
  cl : Cls K C
  ca : PySem.W.findIn K (.ref C) "__class__" = some (some (.builtin "object.__class__"))
  cg : PySem.W.specialIn K (.builtin "object.__class__") "__get__" = some (some (.builtin "getset_descriptor.__get__"))
  ct : PySem.W.takesIn K (.builtin "object.__class__") = some true
  mo : PySem.W.mroIn K C (.type "object") = some true
theorem OCls.ty {K : PySem.W.Frag} {H : Hp} {a C dx : Addr} {fs : List (Str × V)} (c : OCls K C) (e : H a = some (.ins C dx fs)) : TyX K H (.ref a) (.ref C) := .of (.ins e c.cl c.ca c.cg c.ct c.mo)

/-! ### sum, all, any -/
section
variable {X : Cx}
theorem call_sum (hh : X.calm = true) : CallR X (.builtin "sum") (fun xs H Q => ∃ (p : Addr) (ns : List Int), xs = [.ref p] ∧ (SqL X.K H p (ns.map V.int) ∨ SqT X.K H p (ns.map V.int)) ∧ Q (.int ns.sum) H) := by
  intro pins s σ H xs us Q I r h
  obtain ⟨p, ns, rfl, hq, q⟩ := h
  obtain ⟨u, rfl, rx⟩ := vals1 r
  cases rx
  rcases hq with hq | hq
  · obtain ⟨its, r', pl, hz⟩ := I.list hq
    have hi := intsAre_of r'
    obtain ⟨xs, hx⟩ := hi.allInts.items
    have hl' : s.heap.IsList p (intItems xs) := hx ▸ pl.isList
    refine sum_intListG (I.ok.hd hh) hl' fun h' tk t' hk => ?_
    have e1 : ns = xs.toList.map (·.1) := by
      rw [← nums_intItems, ← hx]
      exact (show numsOf its.toArray.toList = ns from hi.numsOf).symm
    have e2 : preSum (numAt xs) xs.size = ns.sum := by
      rw [preSum_eq, List.take_of_length_le (by simp), e1]
    rw [e2]
    exact ⟨.int ns.sum, H, I.kept (t' := tk) hk, ⟨_, rfl⟩, q⟩
  · obtain ⟨its, r', pl, hz⟩ := I.tuple hq
    have hi := intsAre_of r'
    obtain ⟨xs, hx⟩ := hi.allInts.items
    have hl' : s.heap.IsTuple p (intItems xs) := hx ▸ pl
    refine PySem.W.ktm_sumG (I.ok.hd hh) hl' fun h' tk t' hk => ?_
    have e1 : ns = xs.toList.map (·.1) := by
      rw [← nums_intItems, ← hx]
      exact (show numsOf its.toArray.toList = ns from hi.numsOf).symm
    have e2 : preSum (numAt xs) xs.size = ns.sum := by
      rw [preSum_eq, List.take_of_length_le (by simp), e1]
    rw [e2]
    exact ⟨.int ns.sum, H, I.kept (t' := tk) hk, ⟨_, rfl⟩, q⟩
theorem boolsAre_of {bs : List Bool} : ∀ {us : List Value}, Vals (bs.map V.bl) us → LSm.BoolsAre us bs := by
  induction bs with
  | nil => intro us h; cases h; exact .nil
  | cons b bs ih =>
    intro us h
    cases h with
    | cons r t => cases r; exact .cons b (ih t)
theorem call_all (hh : X.calm = true) : CallR X (.builtin "all") (fun xs H Q => ∃ (p : Addr) (bs : List Bool), xs = [.ref p] ∧ SqL X.K H p (bs.map V.bl) ∧ Q (.bl (bs.all id)) H) := by
  intro pins s σ H xs us Q I r h
  obtain ⟨p, bs, rfl, hq, q⟩ := h
  obtain ⟨u, rfl, rx⟩ := vals1 r
  cases rx
  obtain ⟨its, r', pl, hz⟩ := I.list hq
  have hb := boolsAre_of r'
  have hl := pl.isList
  have hlt : p < s.heap.objs.size := by obtain ⟨_, e, _⟩ := hl; exact Heap.lt_size e
  refine call_all_walk (wpAny_pyIter_list hl ?_)
  refine ⟨s.heap.objs.size, [s.heap.objs.size, p], [s.heap.objs.size], its.toArray.size, _, _, fun i => (bs[i]?).getD true, rfl, Walks.list (A := X.A.in1) (I.ok.hd hh) _ p (Nat.ne_of_lt hlt) its.toArray,
    ⟨⟨_, Heap.get?_push_size _ rfl, rfl, rfl⟩, hl.push _⟩, fun i v s' Q' E' hP hQ => ?_, fun h' tk hk => ?_⟩
  · obtain ⟨b, e, rfl⟩ := hb.get i v (by simpa using hP)
    simp only [e, Option.getD_some] at hQ
    exact wpAny_truthy_bool hQ
  · have e : ((List.range its.toArray.size).all fun i => (bs[i]?).getD true) = bs.all id := by
      rw [List.size_toArray, hb.length]; exact LSm.range_all bs
    rw [e]
    exact ⟨.bl _, H, I.kept (t' := tk) (LSm.kept_iter hk), rfl, q⟩
theorem call_any (hh : X.calm = true) : CallR X (.builtin "any") (fun xs H Q => ∃ (p : Addr) (bs : List Bool), xs = [.ref p] ∧ SqL X.K H p (bs.map V.bl) ∧ Q (.bl (bs.any id)) H) := by
  intro pins s σ H xs us Q I r h
  obtain ⟨p, bs, rfl, hq, q⟩ := h
  obtain ⟨u, rfl, rx⟩ := vals1 r
  cases rx
  obtain ⟨its, r', pl, hz⟩ := I.list hq
  have hb := boolsAre_of r'
  have hl := pl.isList
  have hlt : p < s.heap.objs.size := by obtain ⟨_, e, _⟩ := hl; exact Heap.lt_size e
  refine call_any_walk (wpAny_pyIter_list hl ?_)
  refine ⟨s.heap.objs.size, [s.heap.objs.size, p], [s.heap.objs.size], its.toArray.size, _, _, fun i => (bs[i]?).getD false, rfl, Walks.list (A := X.A.in1) (I.ok.hd hh) _ p (Nat.ne_of_lt hlt) its.toArray,
    ⟨⟨_, Heap.get?_push_size _ rfl, rfl, rfl⟩, hl.push _⟩, fun i v s' Q' E' hP hQ => ?_, fun h' tk hk => ?_⟩
  · obtain ⟨b, e, rfl⟩ := hb.get i v (by simpa using hP)
    simp only [e, Option.getD_some] at hQ
    exact wpAny_truthy_bool hQ
  · have e : ((List.range its.toArray.size).any fun i => (bs[i]?).getD false) = bs.any id := by
      rw [List.size_toArray, hb.length]; exact LSm.range_any bs
    rw [e]
    exact ⟨.bl _, H, I.kept (t' := tk) (LSm.kept_iter hk), rfl, q⟩
theorem bt_sum : bootBuiltins "sum" = some (.builtin "sum") := by decide +kernel
theorem bt_all : bootBuiltins "all" = some (.builtin "all") := by decide +kernel
theorem bt_any : bootBuiltins "any" = some (.builtin "any") := by decide +kernel

/-! ### t.index(n) -/
def rIndexT (K : PySem.W.Frag) : V → List V → Hp → VK → Prop := fun x vs H Q => ∃ (p : Addr) (ns : List Int) (i : Int) (j : Nat), x = .ref p ∧ vs = [.int i] ∧ SqT K H p (ns.map V.int) ∧ ns[j]? = some i ∧ (∀ m, m < j → ns[m]? ≠ some i) ∧ Q (.int (j : Nat)) H
def eqI (i : Int) (u : Value) : Bool := match u with
  | .int k _ => k == i
  | _ => false
theorem mt_appendR : MtR X "list.append" rAppend := mt_append
theorem mt_index : MtR X "tuple.index" (rIndexT X.K) := by
  intro pins s σ H x vs v us Q I rx rv h
  obtain ⟨p, ns, i, j, rfl, rfl, hq, hj, hno, q⟩ := h
  cases rx
  obtain ⟨u, rfl, ru⟩ := rv.one
  obtain ⟨t, rfl⟩ := (show ∃ t, u = Value.int i t from ru)
  obtain ⟨its, r', pl, hz⟩ := I.tuple hq
  have hi := intsAre_of r'
  obtain ⟨⟨oc, od, odt, osl⟩, h1, h2, n, h3⟩ := id pl
  dsimp only at h2 h3
  subst h2 h3
  have at_ : ∀ (m : Nat) (k : Int), ns[m]? = some k → ∃ t, its[m]? = some (.int k t) := fun m k hm => by
    obtain ⟨u, hu, ru⟩ := r'.get (i := m) (x := .int k) (by rw [List.getElem?_map, hm]; rfl)
    obtain ⟨t, rfl⟩ := (show ∃ t, u = Value.int k t from ru)
    exact ⟨t, hu⟩
  have hl := r'.length
  rw [List.length_map] at hl
  obtain ⟨t1, ht1⟩ := at_ j i hj
  have hjl : j < its.length := by
    rcases Nat.lt_or_ge j its.length with z | z
    · exact z
    · rw [List.getElem?_eq_none z] at ht1; cases ht1
  refine call_meets F.slot_tuple_index ⟨_, h1, rfl⟩ F.entry_tuple_index (F.args_tuple_index_2 _ _) (SeqAt.tuple_indexAt p its.toArray n od osl (.int i t) (eqI i) j (by simpa using hjl) ?_ fun m hm hmj => ?_) ⟨h1, fun y hy => ?_, ?_⟩
  · have e : its.toArray[j]'(by simpa using hjl) = .int i t1 := by
      have := List.getElem?_eq_getElem hjl
      rw [ht1] at this
      simpa using (Option.some.inj this).symm
    rw [e]
    show (i == i) = true
    simp
  · have hml : m < its.length := by simpa using hm
    have hmn : m < ns.length := by omega
    obtain ⟨t2, ht2⟩ := at_ m _ (List.getElem?_eq_getElem hmn)
    have e : its.toArray[m]'hm = .int ns[m] t2 := by
      have := List.getElem?_eq_getElem hml
      rw [ht2] at this
      simpa using (Option.some.inj this).symm
    rw [e]
    show (ns[m] == i) = false
    rw [beq_eq_false_iff_ne]
    intro z
    exact hno m hmj (by rw [List.getElem?_eq_getElem hmn, z])
  · have hy' : y ∈ its := by simpa using hy
    obtain ⟨m, hm, e⟩ := List.getElem_of_mem hy'
    have hmn : m < ns.length := by omega
    obtain ⟨t2, ht2⟩ := at_ m _ (List.getElem?_eq_getElem hmn)
    rw [List.getElem?_eq_getElem hm, e] at ht2
    obtain rfl : y = .int ns[m] t2 := Option.some.inj ht2
    exact SeqAt.EqAt.int_int _ _ _ _
  · exact ⟨.int (j : Nat), H, I.tok _, ⟨_, rfl⟩, q⟩

/-! ### == and != of nested lists and tuples that are alike -/
mutual
inductive Dat (K : PySem.W.Frag) (H : Hp) : V → PyData → Prop
  | int (i : Int) : Dat K H (.int i) (.int i)
  | lst {p : Addr} {xs : List V} {ds : List PyData} : SqL K H p xs → DatAll K H xs ds → Dat K H (.ref p) (.list ds)
  | tup {p : Addr} {xs : List V} {ds : List PyData} : SqT K H p xs → DatAll K H xs ds → Dat K H (.ref p) (.tuple ds)
inductive DatAll (K : PySem.W.Frag) (H : Hp) : List V → List PyData → Prop
  | nil : DatAll K H [] []
  | cons {x : V} {d : PyData} {xs : List V} {ds : List PyData} : Dat K H x d → DatAll K H xs ds → DatAll K H (x :: xs) (d :: ds)
end
def rEqD (K : PySem.W.Frag) (b : Bool) : R2 := fun x y H Q => ∃ d, Dat K H x d ∧ Dat K H y d ∧ d.depth ≤ 64 ∧ Q (.bl b) H
end

/-! ### over a list or a tuple; t[lo:hi] -/
def iSeq (K : PySem.W.Frag) (tl : TE) : TI := fun σ H R => tl σ H fun x H1 => ∃ a, x = .ref a ∧ (((∃ xs, SqL K H1 a xs) ∧ R (Itl K a) H1) ∨ ((∃ xs, SqT K H1 a xs) ∧ R (Itt K a) H1))
theorem pi_seq {X : Cx} {tg l : Expr} {tl : TE} (hl : PE X l tl) : PI X tg l (iSeq X.K tl) := by
  intro pins s σ H R I h
  refine thn (hl pins s σ H _ I h) fun v s1 ⟨x, H1, I1, r1, q1⟩ => ?_
  obtain ⟨a, e, q⟩ := q1
  subst e
  cases r1
  rcases q with ⟨⟨xs, hq⟩, q⟩ | ⟨⟨xs, hq⟩, q⟩
  · obtain ⟨its, rv, p, hz⟩ := I1.list hq
    refine wpAny_pyIter_list p.isList ?_
    refine ⟨s1.heap.objs.size, [s1.heap.objs.size], _, _, H1, rfl, I1.kept (t' := s1.toks) fun b o e => Heap.get?_push_of_some _ e, turn_list a _, ⟨_, Heap.get?_push_size _ rfl, rfl, rfl⟩, fun b hb => ?_, q⟩
    have e : b = s1.heap.objs.size := by simpa using hb
    subst e
    exact I1.fpOk (Nat.le_refl _) (I1.hok.fresh (Nat.le_refl _))
  · obtain ⟨its, rv, p, hz⟩ := I1.tuple hq
    refine wpAny_pyIter_tuple (show s1.heap.IsTuple a its.toArray from p) ?_
    refine ⟨s1.heap.objs.size, [s1.heap.objs.size], _, _, H1, rfl, I1.kept (t' := s1.toks) fun b o e => Heap.get?_push_of_some _ e, turn_tuple a _, ⟨_, Heap.get?_push_size _ rfl, rfl, rfl⟩, fun b hb => ?_, q⟩
    have e : b = s1.heap.objs.size := by simpa using hb
    subst e
    exact I1.fpOk (Nat.le_refl _) (I1.hok.fresh (Nat.le_refl _))
theorem getItem_tuple_all {prog : Program} {w : World} {A : Around} {E : Value → Shared → Prop} {s : Shared} {t sl : Addr} {items : Array Value} {vl vu : Value} {lo hi : Option Int} {Q : Value → Shared → Prop} (ht : IsTup s.heap t items) (hs : s.heap.IsSliceOf sl vl vu .none) (pl : IsPart vl lo) (pu : IsPart vu hi)
    (h0 : HT.sIx items.size 0 lo = 0) (h1 : HT.sIx items.size items.size hi = items.size)
    (h : Q (.ref t) s) : wpAny (model prog w) A (getItem (.ref t) (.ref sl)) Q E s := by
  obtain ⟨os, hos, hcs, hds⟩ := id hs
  have hTs : s.TypeIs (.ref sl) "slice" := ⟨os, hos, hcs⟩
  unfold getItem
  try with_reducible refine wpAny_holding ?_
  first | refine wpAny_bind (wpAny_pure ?_) | skip
  refine wpAny_bind (wpAny_sequenceKey ht.typeIs (by decide) ?_)
  refine wpAny_bind (wpAny_callSpecial?_slot (name := Str.ofString "__getitem__") ht.typeIs PyProof.Rows.slot_tuple_getitem
    (wpAny_call_entry PyProof.Rows.slot_tuple_getitem ht.typeIs entry_tuple_getitem ?_ (args_tuple_getitem _ _)))
  show wpAny _ _ (Builtin.Tuple.tupleItemsOf (.ref t) >>= _) _ _ s
  refine wpAny_bind (tupleItemsOf_ ht ?_)
  refine wpAny_bind (wpAny_typeOf hTs ?_)
  rw [if_pos (by decide)]
  refine wpAny_bind (HT.sliceApplied_gen hs pl pu ?_)
  have hy : (((HT.sIx items.size 0 lo : Nat) : Int) == 0 && (1 : Int) == 1 && (HT.sIx items.size items.size hi - HT.sIx items.size 0 lo) == items.size) = true := by
    rw [h0, h1]; simp
  show wpAny _ _ (if (((HT.sIx items.size 0 lo : Nat) : Int) == 0 && (1 : Int) == 1 && (HT.sIx items.size items.size hi - HT.sIx items.size 0 lo) == items.size) = true then _ else _) _ _ s
  rw [if_pos hy]
  refine wpAny_bind (m := Builtin.Tuple.tupleIsExact (.ref t)) ?_
  unfold Builtin.Tuple.tupleIsExact
  refine wpAny_bind (wpAny_typeOf ht.typeIs (wpAny_pure ?_))
  rw [if_pos (by decide)]
  first
    | exact wpAny_bind (wpAny_rule (wpAny_pure ⟨_, rfl, wpAny_pure h⟩))
    | exact wpAny_bind (wpAny_rule (wpAny_bind (wpAny_pure (wpAny_pure ⟨_, rfl, wpAny_pure h⟩))))
def rSlA (K : PySem.W.Frag) : V → Option Int → Option Int → Hp → VK → Prop := fun x lo hi H Q => ∃ a xs, x = .ref a ∧ SqT K H a xs ∧ ∀ p H', Same H H' → SqT K H' p (cutV xs lo hi) → Q (.ref p) H'
theorem sl_tupA {X : Cx} : SlR X (rSlA X.K) := by
  intro pins s σ H x v vl vu lo hi sl Q I rx hs pl pu h
  obtain ⟨a, xs, rfl, hx, q⟩ := h
  by_cases hw : HT.sIx xs.length 0 lo = 0 ∧ HT.sIx xs.length xs.length hi = xs.length
  · cases rx
    obtain ⟨its, r, ht, hz⟩ := I.tuple hx
    have hlen : its.toArray.size = xs.length := by rw [List.size_toArray]; exact r.length.symm
    refine ⟨"tuple", _, PyProof.Rows.slot_tuple_getitem.lookup, ht.typeIs, ?_⟩
    refine getItem_tuple_all ht hs pl pu (by rw [hlen]; exact hw.1) (by rw [hlen]; exact hw.2) ⟨.ref a, H, I, rfl, q a H (.refl H) ?_⟩
    unfold cutV
    rw [hw.1, hw.2, List.drop_zero, Nat.sub_zero, List.take_length]
    exact hx
  · exact sl_tup pins s σ H (.ref a) v vl vu lo hi sl Q I rx hs pl pu ⟨a, xs, rfl, hx, hw, fun p hp => q p _ (.upd_new hp) (SqT.of upd_same)⟩

/-! ### a comprehension over a list or tuple whose turn changes nothing that was -/
section
variable {K : PySem.W.Frag} {a : Addr} {xs : List V} {σ0 : St} {H1 : Hp} {i0 : Nat} {c : TT} {te : TE} {Q : Addr → Hp → Prop}
theorem comp_lst (f : Nat → V → Option V) (hq : SqL K H1 a xs) (hn : xs.length ≤ sizeLine)
    (step : ∀ (i : Nat) (x : V) (H2 : Hp) (k : VK) (k0 : Hp → Prop), Same H1 H2 → xs[i]? = some x → (∀ y, f i x = some y → ∀ H3, Same H2 H3 → k y H3) → (f i x = none → ∀ H3, Same H2 H3 → k0 H3) →
      c (σ0.set i0 (some x)) H2 fun b H4 => if b = true then te (σ0.set i0 (some x)) H4 k else k0 H4)
    (h : ∀ D H2, H1 D = none → Same H1 H2 → H2 D = some (.lst ((List.range xs.length).filterMap fun i => (xs[i]?).bind (f i))) → Q D H2) :
    ∀ D, H1 D = none → ∃ W : Nat → Nat → St → Hp → Prop, (∃ m, W 0 m σ0 (upd H1 D (.lst []))) ∧ ∀ i m σ1 H2, W i m σ1 H2 →
      ((Itl K a).stop i H2 ∧ Q D H2) ∨ ((Itl K a).go i H2 ∧ ∃ N : St → Hp → Prop, (∀ σ' H', N σ' H' → ∃ m', m' < m ∧ W (i + 1) m' σ' H') ∧
        ∀ x H', (Itl K a).yld i H2 x H' → gName i0 x σ1 H' fun σ2 H3 => c σ2 H3 fun b H4 => if b = true then te σ2 H4 fun y H5 => ∃ xs, H5 D = some (.lst xs) ∧ xs.length < sizeLine ∧ N σ2 (upd H5 D (.lst (xs ++ [y]))) else N σ2 H4) := by
  intro D hD
  refine ⟨fun i m σ1 H2 => σ1.set i0 none = σ0.set i0 none ∧ Same H1 H2 ∧ H2 D = some (.lst ((List.range i).filterMap fun i => (xs[i]?).bind (f i))) ∧ i ≤ xs.length ∧ m = xs.length - i, ⟨xs.length, rfl, .upd_new hD, upd_same, Nat.zero_le _, rfl⟩, ?_⟩
  rintro i m σ1 H2 ⟨hσ, hs, hd, hi, rfl⟩
  have hset : ∀ v : Option V, σ1.set i0 v = σ0.set i0 v := fun v => by
    have z := congrArg (fun l => List.set l i0 v) hσ
    simpa using z
  rcases Nat.lt_or_ge i xs.length with hlt | hge
  · right
    refine ⟨⟨xs, xs[i], hs.seq hq, by simp [hlt]⟩, fun σ' H' => σ'.set i0 none = σ0.set i0 none ∧ Same H1 H' ∧ H' D = some (.lst ((List.range (i + 1)).filterMap fun i => (xs[i]?).bind (f i))), fun σ' H' ⟨a, b, c⟩ => ⟨xs.length - (i + 1), by omega, a, b, c, hlt, rfl⟩, ?_⟩
    rintro x H' ⟨rfl, hx⟩
    have hx := hx xs (hs.seq hq)
    show c (σ1.set i0 (some x)) _ _
    rw [hset]
    refine step i x _ _ _ hs hx (fun y hy H3 hs3 => ⟨_, hs3 _ _ hd, ?_, ?_, ?_, ?_⟩) fun hno H3 hs3 => ⟨?_, hs.trans hs3, ?_⟩
    · refine Nat.lt_of_le_of_lt (List.length_filterMap_le _ _) ?_
      rw [List.length_range]
      omega
    · simp
    · refine (hs.trans hs3).upd_ne' hD
    · rw [upd_same, List.range_succ, List.filterMap_append]
      simp [hx, hy]
    · simp
    · rw [hs3 _ _ hd, List.range_succ, List.filterMap_append]
      simp [hx, hno]
  · left
    obtain rfl : i = xs.length := Nat.le_antisymm hi hge
    exact ⟨⟨xs, hs.seq hq, Nat.le_refl _⟩, h D _ hD hs hd⟩
theorem comp_tup (f : Nat → V → Option V) (hq : SqT K H1 a xs) (hn : xs.length ≤ sizeLine)
    (step : ∀ (i : Nat) (x : V) (H2 : Hp) (k : VK) (k0 : Hp → Prop), Same H1 H2 → xs[i]? = some x → (∀ y, f i x = some y → ∀ H3, Same H2 H3 → k y H3) → (f i x = none → ∀ H3, Same H2 H3 → k0 H3) →
      c (σ0.set i0 (some x)) H2 fun b H4 => if b = true then te (σ0.set i0 (some x)) H4 k else k0 H4)
    (h : ∀ D H2, H1 D = none → Same H1 H2 → H2 D = some (.lst ((List.range xs.length).filterMap fun i => (xs[i]?).bind (f i))) → Q D H2) :
    ∀ D, H1 D = none → ∃ W : Nat → Nat → St → Hp → Prop, (∃ m, W 0 m σ0 (upd H1 D (.lst []))) ∧ ∀ i m σ1 H2, W i m σ1 H2 →
      ((Itt K a).stop i H2 ∧ Q D H2) ∨ ((Itt K a).go i H2 ∧ ∃ N : St → Hp → Prop, (∀ σ' H', N σ' H' → ∃ m', m' < m ∧ W (i + 1) m' σ' H') ∧
        ∀ x H', (Itt K a).yld i H2 x H' → gName i0 x σ1 H' fun σ2 H3 => c σ2 H3 fun b H4 => if b = true then te σ2 H4 fun y H5 => ∃ xs, H5 D = some (.lst xs) ∧ xs.length < sizeLine ∧ N σ2 (upd H5 D (.lst (xs ++ [y]))) else N σ2 H4) := by
  intro D hD
  refine ⟨fun i m σ1 H2 => σ1.set i0 none = σ0.set i0 none ∧ Same H1 H2 ∧ H2 D = some (.lst ((List.range i).filterMap fun i => (xs[i]?).bind (f i))) ∧ i ≤ xs.length ∧ m = xs.length - i, ⟨xs.length, rfl, .upd_new hD, upd_same, Nat.zero_le _, rfl⟩, ?_⟩
  rintro i m σ1 H2 ⟨hσ, hs, hd, hi, rfl⟩
  have hset : ∀ v : Option V, σ1.set i0 v = σ0.set i0 v := fun v => by
    have z := congrArg (fun l => List.set l i0 v) hσ
    simpa using z
  rcases Nat.lt_or_ge i xs.length with hlt | hge
  · right
    refine ⟨⟨xs, xs[i], hs.sqt hq, by simp [hlt]⟩, fun σ' H' => σ'.set i0 none = σ0.set i0 none ∧ Same H1 H' ∧ H' D = some (.lst ((List.range (i + 1)).filterMap fun i => (xs[i]?).bind (f i))), fun σ' H' ⟨a, b, c⟩ => ⟨xs.length - (i + 1), by omega, a, b, c, hlt, rfl⟩, ?_⟩
    rintro x H' ⟨rfl, hx⟩
    have hx := hx xs (hs.sqt hq)
    show c (σ1.set i0 (some x)) _ _
    rw [hset]
    refine step i x _ _ _ hs hx (fun y hy H3 hs3 => ⟨_, hs3 _ _ hd, ?_, ?_, ?_, ?_⟩) fun hno H3 hs3 => ⟨?_, hs.trans hs3, ?_⟩
    · refine Nat.lt_of_le_of_lt (List.length_filterMap_le _ _) ?_
      rw [List.length_range]
      omega
    · simp
    · refine (hs.trans hs3).upd_ne' hD
    · rw [upd_same, List.range_succ, List.filterMap_append]
      simp [hx, hy]
    · simp
    · rw [hs3 _ _ hd, List.range_succ, List.filterMap_append]
      simp [hx, hno]
  · left
    obtain rfl : i = xs.length := Nat.le_antisymm hi hge
    exact ⟨⟨xs, hs.sqt hq, Nat.le_refl _⟩, h D _ hD hs hd⟩
end
end L2

set_option Elab.async false
set_option linter.all false
set_option maxRecDepth 100000
/-! xs[i] += e of a list; min -/
namespace L2
open PySem PySem.Spec PyProof.Rows
section
variable {X : Cx}
def rIxN (K : PySem.W.Frag) : V → V → Hp → VK → Prop := fun x y H Q => ∃ (p : Addr) (xs : List V) (j : Nat) (v : V), x = .ref p ∧ y = .int (j : Int) ∧ SqL K H p xs ∧ xs[j]? = some v ∧ Q v H
theorem bt_min : bootBuiltins "min" = some (.builtin "min") := by decide +kernel
end
end L2

set_option Elab.async false
set_option linter.all false
set_option maxRecDepth 100000
/-! a comprehension over a range whose parts may make new objects -/
namespace L2
open PySem PySem.Spec PyProof.Rows
section
variable {K : PySem.W.Frag} {lo : Int} {n : Nat} {σ0 : St} {H1 : Hp} {i0 : Nat} {c : TT} {te : TE} {Q : Addr → Hp → Prop}
theorem comp_rng (f : Nat → Option V) (hn : n ≤ sizeLine)
    (step : ∀ (i : Nat) (H2 : Hp) (k : VK) (k0 : Hp → Prop), Same H1 H2 → i < n → (∀ y, f i = some y → ∀ H3, Same H2 H3 → k y H3) → (f i = none → ∀ H3, Same H2 H3 → k0 H3) →
      c (σ0.set i0 (some (.int (lo + (i : Int))))) H2 fun b H4 => if b = true then te (σ0.set i0 (some (.int (lo + (i : Int))))) H4 k else k0 H4)
    (h : ∀ D H2, H1 D = none → Same H1 H2 → H2 D = some (.lst ((List.range n).filterMap f)) → Q D H2) :
    ∀ D, H1 D = none → ∃ W : Nat → Nat → St → Hp → Prop, (∃ m, W 0 m σ0 (upd H1 D (.lst []))) ∧ ∀ i m σ1 H2, W i m σ1 H2 →
      ((Itr lo n).stop i H2 ∧ Q D H2) ∨ ((Itr lo n).go i H2 ∧ ∃ N : St → Hp → Prop, (∀ σ' H', N σ' H' → ∃ m', m' < m ∧ W (i + 1) m' σ' H') ∧
        ∀ x H', (Itr lo n).yld i H2 x H' → gName i0 x σ1 H' fun σ2 H3 => c σ2 H3 fun b H4 => if b = true then te σ2 H4 fun y H5 => ∃ xs, H5 D = some (.lst xs) ∧ xs.length < sizeLine ∧ N σ2 (upd H5 D (.lst (xs ++ [y]))) else N σ2 H4) := by
  intro D hD
  refine ⟨fun i m σ1 H2 => σ1.set i0 none = σ0.set i0 none ∧ Same H1 H2 ∧ H2 D = some (.lst ((List.range i).filterMap f)) ∧ i ≤ n ∧ m = n - i, ⟨n, rfl, .upd_new hD, upd_same, Nat.zero_le _, rfl⟩, ?_⟩
  rintro i m σ1 H2 ⟨hσ, hs, hd, hi, rfl⟩
  have hset : ∀ v : Option V, σ1.set i0 v = σ0.set i0 v := fun v => by
    have z := congrArg (fun l => List.set l i0 v) hσ
    simpa using z
  rcases Nat.lt_or_ge i n with hlt | hge
  · right
    refine ⟨hlt, fun σ' H' => σ'.set i0 none = σ0.set i0 none ∧ Same H1 H' ∧ H' D = some (.lst ((List.range (i + 1)).filterMap f)), fun σ' H' ⟨a, b, c⟩ => ⟨n - (i + 1), by omega, a, b, c, hlt, rfl⟩, ?_⟩
    rintro x H' ⟨rfl, rfl⟩
    show c (σ1.set i0 (some (.int (lo + (i : Int))))) _ _
    rw [hset]
    refine step i _ _ _ hs hlt (fun y hy H3 hs3 => ⟨_, hs3 _ _ hd, ?_, ?_, ?_, ?_⟩) fun hno H3 hs3 => ⟨?_, hs.trans hs3, ?_⟩
    · refine Nat.lt_of_le_of_lt (List.length_filterMap_le _ _) ?_
      rw [List.length_range]
      omega
    · simp
    · exact (hs.trans hs3).upd_ne' hD
    · rw [upd_same, List.range_succ, List.filterMap_append]
      simp [hy]
    · simp
    · rw [hs3 _ _ hd, List.range_succ, List.filterMap_append]
      simp [hno]
  · left
    obtain rfl : i = n := Nat.le_antisymm hi hge
    exact ⟨Nat.le_refl _, h D _ hD hs hd⟩
end
section
variable {X : Cx}
theorem call_sumK (K : PySem.W.Frag) (hh : X.calm = true) (h : X.K = K := by rfl) : CallR X (.builtin "sum") (fun xs H Q => ∃ (p : Addr) (ns : List Int), xs = [.ref p] ∧ (SqL K H p (ns.map V.int) ∨ SqT K H p (ns.map V.int)) ∧ Q (.int ns.sum) H) := by
  subst h
  exact call_sum hh
theorem bt_max : bootBuiltins "max" = some (.builtin "max") := by decide +kernel
end
end L2

set_option Elab.async false
set_option linter.all false
set_option maxRecDepth 100000
/-! for i, x in enumerate(xs); comprehensions over enumerate and zip -/
namespace L2
open PySem PySem.Spec PyProof.Rows
/-- the things of the list at l with their places, each pair a new tuple -/
def Ite (K : PySem.W.Frag) (l : Addr) : It :=
  ⟨fun i H => ∃ xs x, SqL K H l xs ∧ xs[i]? = some x,
   fun i H v H' => ∃ t x, v = .ref t ∧ H t = none ∧ H' = upd H t (.tup [.int (i : Int), x]) ∧ ∀ xs, SqL K H l xs → xs[i]? = some x,
   fun i H => ∃ xs, SqL K H l xs ∧ xs.length ≤ i⟩
def enumTn (e it l : Addr) (i : Nat) (h : Heap) : Prop := (∃ old, IsEnum h e it (i : Int) old) ∧ h.IsListIter it l i
theorem turn_enum {P : Program} {w : World} {K : PySem.W.Frag} {elts : List Expr} {x1} {pos : Pos} {e it l : Addr} (hne : e ≠ it) :
    Turn P w K (.Tuple elts x1 pos) (Ite K l) [e, it] e (enumTn e it l) where
  mem := by simp
  obj := fun i h ⟨⟨old, he⟩, ⟨o, ho, _, d⟩⟩ b hb => by
    simp only [List.mem_cons, List.not_mem_nil, or_false] at hb
    rcases hb with rfl | rfl
    · exact ⟨_, he, fun v q => nomatch q⟩
    · exact ⟨_, ho, fun v q => by rw [d] at q; cases q⟩
  keep := fun i h h' ⟨⟨old, he⟩, h1⟩ k => ⟨⟨old, k e (by simp) _ he⟩, h1.at fun o q => k it (by simp) o q⟩
  item := by
    intro X hP hw hK hc i pins s σ H E I hf st hg
    subst hP hw hK
    obtain ⟨⟨old, he⟩, h1⟩ := st
    obtain ⟨xs, x, q1, hx⟩ := hg
    obtain ⟨its1, r1, p1, z1⟩ := I.list q1
    obtain ⟨u, hu, ru⟩ := r1.get hx
    refine wpAny_pyNext_enum_item he h1 p1.isList (by simpa using hu) hne fun h' a1 a2 a3 a4 a5 => ⟨_, rfl, ?_⟩
    refine wpAny_letOwnedTupleGo_enum a1 fun h'' b1 hs => ?_
    have lt : ∀ c o, s.heap.get? c = some o → c ≠ s.heap.objs.size := fun c o e => Nat.ne_of_lt (Heap.lt_size e)
    have lte : s.heap.objs.size ≠ e := (lt e _ he).symm
    have I1 : Inv X pins σ H { s with heap := h'', toks := s.toks + 1 } := I.turnedL (t' := s.toks + 1) (fun c o hb e => (hs.2 c (fun q => hb (by simp [q]))).trans (a5 c o (fun q => hb (by simp [q])) (fun q => hb (by simp [q])) e)) hf
    have ht : h''.get? s.heap.objs.size = some { cls := .type "tuple", data := .seq #[.int i s.toks, u] } := (hs.2 _ lte).trans a3
    have hn : H s.heap.objs.size = none := I.hok.fresh (Nat.le_refl _)
    have I2 : Inv X pins σ (upd H s.heap.objs.size (.tup [.int (i : Int), x])) { s with heap := h'', toks := s.toks + 1 } := by
      refine I1.track hn (Heap.get?_none_of_le I.sz) (Nat.ne_of_lt I.lt).symm (fun y c q => ?_) (fun p hp => ?_) (I.nofs (Nat.le_refl _)) ⟨by show 2 ≤ sizeLine; decide, [.int i s.toks, u], .cons ⟨_, rfl⟩ (.cons ru .nil), _, ht, rfl, _, rfl⟩
      · obtain ⟨_, o, ho, _⟩ := I.cell y c q
        exact lt c o ho
      · exact lt _ _ (I.pin p hp).1
    refine ⟨.ref s.heap.objs.size, _, I2, rfl, ⟨_, x, rfl, hn, rfl, fun xs' q => ?_⟩, ⟨⟨u, ?_⟩, a2.at fun o e => (hs.2 _ hne.symm).trans e⟩, fun c hb => ?_⟩
    · rw [I.list_inj q q1]; exact hx
    · rw [show ((i + 1 : Nat) : Int) = (i : Int) + 1 by push_cast; rfl]
      exact b1
    · obtain ⟨o, ho, _⟩ : ∃ o, s.heap.get? c = some o ∧ True := by
        simp only [List.mem_cons, List.not_mem_nil, or_false] at hb
        rcases hb with rfl | rfl
        · exact ⟨_, he, trivial⟩
        · obtain ⟨o, ho, _⟩ := h1; exact ⟨o, ho, trivial⟩
      rw [upd_ne (lt c o ho)]
      exact (hf c hb).1
  done := by
    intro X hP hw hK hc i pins s σ H E I hf st hg
    subst hP hw hK
    obtain ⟨⟨old, he⟩, h1⟩ := st
    obtain ⟨xs, q1, hend⟩ := hg
    obtain ⟨its1, r1, p1, z1⟩ := I.list q1
    have e1 := r1.length
    exact wpAny_pyNext_enum_end (I.ok.hd hc) he h1 p1.isList (by simp; omega) fun h' k => ⟨rfl, I.turnedL (t' := s.toks) (fun c o hb e => k c o (fun q => hb (by simp [q])) e) hf⟩
  self := fun _ _ _ _ _ ⟨⟨_, he⟩, _⟩ h => wpAny_pyIter_enum he h
def iEnum (K : PySem.W.Frag) (ta : TA) : TI := fun σ H R => ta σ H fun vs H1 => ∃ l, vs = [.ref l] ∧ (∃ xs, SqL K H1 l xs) ∧ R (Ite K l) H1
theorem bt_enum : bootBuiltins "enumerate" = some (.type "enumerate") := by decide +kernel
theorem pi_enum {X : Cx} {elts : List Expr} {x1} {tpos : Pos} {a : Expr} {ta : TA} {p pos : Pos} (hg : Gl X "enumerate") (hm : X.mg "enumerate" = none) (ha : PA X [a] ta) (hs : starEach [a] X.env = [(false, eval a X.env)] := by rfl) :
    PI X (.Tuple elts x1 tpos) (.Call (.Name "enumerate" p) [a] [] pos) (iEnum X.K ta) := by
  intro pins s σ H R I h
  refine Call_ (ld_blt I hg hm bt_enum (PyProof.Rows.callWith_type1 (thn (ha pos pins s σ H _ I h) fun us s1 ⟨vs, H1, I1, r1, q1⟩ => ?_) hs rfl))
  obtain ⟨l, e, ⟨xs, q1⟩, q⟩ := q1
  subst e
  obtain ⟨u, rfl, ru⟩ := vals1 r1
  cases (show u = Value.ref l from ru)
  obtain ⟨its1, r1, p1, z1⟩ := I1.list q1
  refine call_enumerate_list p1.isList fun h' hE hI hsz hk => ?_
  refine wpAny_pyIter_enum hE ?_
  have I2 : Inv X pins σ H1 { s1 with heap := h' } := I1.kept (t' := s1.toks) hk
  refine ⟨_, [s1.heap.objs.size + 1, s1.heap.objs.size], _, _, H1, rfl, I2, turn_enum (Nat.succ_ne_self _), ⟨⟨_, hE⟩, hI⟩, fun c hc => ?_, q⟩
  have hge : s1.heap.objs.size ≤ c := by
    simp only [List.mem_cons, List.not_mem_nil, or_false] at hc
    rcases hc with h | h
    all_goals first | (rw [h]; exact Nat.le_add_right _ _) | exact Nat.le_of_eq h.symm
  have := I1.fpOk (H' := H1) hge (I1.hok.fresh hge)
  exact this
section
variable {K : PySem.W.Frag} {a a' : Addr} {xs ys : List V} {σ0 : St} {H1 : Hp} {g : TG} {c : TT} {te : TE} {Q : Addr → Hp → Prop}
theorem comp_enumG (Ag : St → Prop) (f : Nat → V → Option V) (h0 : Ag σ0) (hq : SqL K H1 a xs) (hn : xs.length ≤ sizeLine)
    (step : ∀ (i : Nat) (x : V) (t : Addr) (σ1 : St) (H2 : Hp) (k : St → VK) (k0 : St → Hp → Prop), Ag σ1 → Same H1 H2 → xs[i]? = some x → H2 t = some (.tup [.int (i : Int), x]) → (∀ σ2 y, Ag σ2 → f i x = some y → ∀ H3, Same H2 H3 → k σ2 y H3) → (∀ σ2, Ag σ2 → f i x = none → ∀ H3, Same H2 H3 → k0 σ2 H3) →
      g (.ref t) σ1 H2 fun σ2 H3 => c σ2 H3 fun b H4 => if b = true then te σ2 H4 (k σ2) else k0 σ2 H4)
    (h : ∀ D H2, H1 D = none → Same H1 H2 → H2 D = some (.lst ((List.range xs.length).filterMap fun i => (xs[i]?).bind (f i))) → Q D H2) :
    ∀ D, H1 D = none → ∃ W : Nat → Nat → St → Hp → Prop, (∃ m, W 0 m σ0 (upd H1 D (.lst []))) ∧ ∀ i m σ1 H2, W i m σ1 H2 →
      ((Ite K a).stop i H2 ∧ Q D H2) ∨ ((Ite K a).go i H2 ∧ ∃ N : St → Hp → Prop, (∀ σ' H', N σ' H' → ∃ m', m' < m ∧ W (i + 1) m' σ' H') ∧
        ∀ x H', (Ite K a).yld i H2 x H' → g x σ1 H' fun σ2 H3 => c σ2 H3 fun b H4 => if b = true then te σ2 H4 fun y H5 => ∃ xs, H5 D = some (.lst xs) ∧ xs.length < sizeLine ∧ N σ2 (upd H5 D (.lst (xs ++ [y]))) else N σ2 H4) := by
  intro D hD
  refine ⟨fun i m σ1 H2 => Ag σ1 ∧ Same H1 H2 ∧ H2 D = some (.lst ((List.range i).filterMap fun i => (xs[i]?).bind (f i))) ∧ i ≤ xs.length ∧ m = xs.length - i, ⟨xs.length, h0, .upd_new hD, upd_same, Nat.zero_le _, rfl⟩, ?_⟩
  rintro i m σ1 H2 ⟨hσ, hs, hd, hi, rfl⟩
  rcases Nat.lt_or_ge i xs.length with hlt | hge
  · right
    refine ⟨⟨xs, xs[i], hs.seq hq, by simp [hlt]⟩, fun σ' H' => Ag σ' ∧ Same H1 H' ∧ H' D = some (.lst ((List.range (i + 1)).filterMap fun i => (xs[i]?).bind (f i))), fun σ' H' ⟨a, b, c⟩ => ⟨xs.length - (i + 1), by omega, a, b, c, hlt, rfl⟩, ?_⟩
    rintro v H' ⟨t, x, rfl, ht, rfl, hx⟩
    have hx := hx xs (hs.seq hq)
    have hst : Same H1 (upd H2 t (.tup [.int (i : Int), x])) := hs.trans (.upd_new ht)
    have hdt := Same.upd_new (o := .tup [.int (i : Int), x]) ht _ _ hd
    refine step i x t σ1 _ (fun σ2 y H5 => ∃ xs, H5 D = some (.lst xs) ∧ xs.length < sizeLine ∧ _) _ hσ hst hx upd_same (fun σ2 y a2 hy H3 hs3 => ⟨_, hs3 _ _ hdt, ?_, a2, ?_, ?_⟩) fun σ2 a2 hno H3 hs3 => ⟨a2, hst.trans hs3, ?_⟩
    · refine Nat.lt_of_le_of_lt (List.length_filterMap_le _ _) ?_
      rw [List.length_range]
      omega
    · exact (hst.trans hs3).upd_ne' hD
    · rw [upd_same, List.range_succ, List.filterMap_append]
      simp [hx, hy]
    · rw [hs3 _ _ hdt, List.range_succ, List.filterMap_append]
      simp [hx, hno]
  · left
    obtain rfl : i = xs.length := Nat.le_antisymm hi hge
    exact ⟨⟨xs, hs.seq hq, Nat.le_refl _⟩, h D _ hD hs hd⟩
end
end L2

set_option Elab.async false
set_option linter.all false
set_option maxRecDepth 100000
/-! min of a list of ints -/
namespace L2
open PySem PySem.Spec PyProof.Rows
section
variable {X : Cx}
theorem pi_listK (K : PySem.W.Frag) {tg l : Expr} {tl : TE} (hl : PE X l tl) (h : X.K = K := by rfl) : PI X tg l (iList K tl) := by
  subst h
  exact pi_list hl
end
section
variable {K : PySem.W.Frag} {a : Addr} {xs : List V} {lo : Int} {n : Nat} {σ0 : St} {H1 : Hp} {i0 : Nat} {c : TT} {te : TE} {Q : Addr → Hp → Prop}
def SameT (H H' : Hp) : Prop := ∀ b xs, H b = some (.tup xs) → H' b = some (.tup xs)
theorem Same.t {H H' : Hp} (s : Same H H') : SameT H H' := fun _ _ e => s _ _ e
theorem SameT.lst {H : Hp} {D : Addr} {ys : List V} {o : HO} (h : H D = some (.lst ys)) : SameT H (upd H D o) := fun b xs e => by
  rw [upd_ne fun q => by subst q; rw [h] at e; cases e]
  exact e
/-- each turn makes a thing of which R holds -/
theorem comp_rngR (R : Nat → V → Hp → Prop) (mono : ∀ i y H H', SameT H H' → R i y H → R i y H') (hn : n ≤ sizeLine)
    (step : ∀ (i : Nat) (H2 : Hp) (k : VK) (k0 : Hp → Prop), Same H1 H2 → i < n → (∀ y H3, Same H2 H3 → R i y H3 → k y H3) →
      c (σ0.set i0 (some (.int (lo + (i : Int))))) H2 fun b H4 => if b = true then te (σ0.set i0 (some (.int (lo + (i : Int))))) H4 k else k0 H4)
    (h : ∀ D ys H2, H1 D = none → Same H1 H2 → ys.length = n → (∀ i y, ys[i]? = some y → R i y H2) → H2 D = some (.lst ys) → Q D H2) :
    ∀ D, H1 D = none → ∃ W : Nat → Nat → St → Hp → Prop, (∃ m, W 0 m σ0 (upd H1 D (.lst []))) ∧ ∀ i m σ1 H2, W i m σ1 H2 →
      ((Itr lo n).stop i H2 ∧ Q D H2) ∨ ((Itr lo n).go i H2 ∧ ∃ N : St → Hp → Prop, (∀ σ' H', N σ' H' → ∃ m', m' < m ∧ W (i + 1) m' σ' H') ∧
        ∀ x H', (Itr lo n).yld i H2 x H' → gName i0 x σ1 H' fun σ2 H3 => c σ2 H3 fun b H4 => if b = true then te σ2 H4 fun y H5 => ∃ xs, H5 D = some (.lst xs) ∧ xs.length < sizeLine ∧ N σ2 (upd H5 D (.lst (xs ++ [y]))) else N σ2 H4) := by
  intro D hD
  refine ⟨fun i m σ1 H2 => σ1.set i0 none = σ0.set i0 none ∧ Same H1 H2 ∧ (∃ ys, ys.length = i ∧ (∀ j y, ys[j]? = some y → R j y H2) ∧ H2 D = some (.lst ys)) ∧ i ≤ n ∧ m = n - i, ⟨n, rfl, .upd_new hD, ⟨[], rfl, fun j y e => (by cases e), upd_same⟩, Nat.zero_le _, rfl⟩, ?_⟩
  rintro i m σ1 H2 ⟨hσ, hs, ⟨ys, hy, hR, hd⟩, hi, rfl⟩
  have hset : ∀ v : Option V, σ1.set i0 v = σ0.set i0 v := fun v => by
    have z := congrArg (fun l => List.set l i0 v) hσ
    simpa using z
  rcases Nat.lt_or_ge i n with hlt | hge
  · right
    refine ⟨hlt, fun σ' H' => σ'.set i0 none = σ0.set i0 none ∧ Same H1 H' ∧ ∃ ys, ys.length = i + 1 ∧ (∀ j y, ys[j]? = some y → R j y H') ∧ H' D = some (.lst ys), fun σ' H' ⟨a, b, c⟩ => ⟨n - (i + 1), by omega, a, b, c, hlt, rfl⟩, ?_⟩
    rintro x H' ⟨rfl, rfl⟩
    show c (σ1.set i0 (some (.int (lo + (i : Int))))) _ _
    rw [hset]
    refine step i _ _ _ hs hlt fun y H3 hs3 hR3 => ⟨_, hs3 _ _ hd, by omega, ?_, (hs.trans hs3).upd_ne' hD, ys ++ [y], by rw [List.length_append]; show _ + 1 = _; omega, fun j z e => ?_, upd_same⟩
    · simp
    · have keep : ∀ {j z}, R j z H3 → R j z (upd H3 D (.lst (ys ++ [y]))) := fun {j z} q => mono _ _ _ _ (.lst (hs3 _ _ hd)) q
      rcases Nat.lt_or_ge j ys.length with z1 | z1
      · rw [List.getElem?_append_left z1] at e
        exact keep (mono _ _ _ _ hs3.t (hR j z e))
      · rw [List.getElem?_append_right z1] at e
        obtain ⟨rfl, rfl⟩ : j = i ∧ y = z := by
          rcases Nat.eq_zero_or_pos (j - ys.length) with q | q
          · rw [q] at e
            exact ⟨by omega, Option.some.inj e⟩
          · rw [List.getElem?_eq_none (by show 1 ≤ _; omega)] at e
            cases e
        exact keep hR3
  · left
    obtain rfl : i = n := Nat.le_antisymm hi hge
    exact ⟨Nat.le_refl _, h D ys _ hD hs hy hR hd⟩
end
end L2

set_option Elab.async false
set_option linter.all false
set_option maxRecDepth 100000
/-! a, b = a list of that length -/
namespace L2
open PySem PySem.Spec PyProof.Rows
section
variable {A : Around} {prog : Program} {w : World} {E : Value → Shared → Prop}
end
section
variable {X : Cx} {pos : Pos}
def gLst (K : PySem.W.Frag) (n : Nat) (t : TGs) : TG := fun v σ H Q => ∃ a xs, v = .ref a ∧ SqL K H a xs ∧ xs.length = n ∧ t xs σ H Q
end
end L2

set_option Elab.async false
set_option linter.all false
set_option maxRecDepth 100000
namespace L2
open PySem PySem.Spec PyProof.Rows

/-! ### lists of pairs as tables -/
section
variable {κ : Type} [DecidableEq κ]
def valV (kvs : List (κ × V)) (k : κ) : Option V := (kvs.find? fun kv => decide (kv.1 = k)).map (·.2)
/-- in its place, or at the end -/
def putK (kvs : List (κ × V)) (k : κ) (v : V) : List (κ × V) :=
  if (kvs.any fun kv => decide (kv.1 = k)) = true then kvs.map (fun kv => if kv.1 = k then (kv.1, v) else kv) else kvs ++ [(k, v)]
def dropK (kvs : List (κ × V)) (k : κ) : List (κ × V) := kvs.filter fun kv => decide (kv.1 ≠ k)

theorem valV_pos {p : κ × V} {r : List (κ × V)} {k : κ} (e : p.1 = k) : valV (p :: r) k = some p.2 := by simp [valV, List.find?_cons, e]
theorem valV_neg {p : κ × V} {r : List (κ × V)} {k : κ} (e : ¬ p.1 = k) : valV (p :: r) k = valV r k := by simp [valV, List.find?_cons, e]
theorem valV_any (k : κ) : ∀ kvs : List (κ × V), (kvs.any fun kv => decide (kv.1 = k)) = (valV kvs k).isSome
  | [] => rfl
  | p :: r => by
    rw [List.any_cons]
    by_cases e : p.1 = k
    · simp only [valV_pos e, decide_eq_true e, Bool.true_or, Option.isSome_some]
    · rw [valV_neg e, decide_eq_false e, Bool.false_or]; exact valV_any k r
theorem length_putK (kvs : List (κ × V)) (k : κ) (v : V) : (putK kvs k v).length ≤ kvs.length + 1 := by
  unfold putK
  split
  · rw [List.length_map]; omega
  · rw [List.length_append, List.length_cons, List.length_nil]; omega
theorem putK_new {kvs : List (κ × V)} {k : κ} (v : V) (h : valV kvs k = none) : putK kvs k v = kvs ++ [(k, v)] := by
  unfold putK
  rw [valV_any, h]
  exact if_neg (by decide)

theorem RelO.isSome_eq {o : Option V} {u : Option Value} (r : RelO o u) : o.isSome = u.isSome := by
  cases o with
  | none => cases u with
    | none => rfl
    | some _ => exact (show False from r).elim
  | some _ => cases u with
    | none => exact (show False from r).elim
    | some _ => rfl
/-- raw tables of the same keys -/
theorem KV.val {kvs : List (κ × V)} {vs : List (κ × Value)} (r : KV kvs vs) (k : κ) : RelO (valV kvs k) (valueAt vs k) := by
  unfold KV at r
  induction r with
  | nil => exact True.intro
  | @cons p q ps qs h t ih =>
    obtain ⟨h1, h2⟩ := h
    by_cases e : p.1 = k
    · have e' : q.1 = k := h1.symm.trans e
      have b : valueAt (q :: qs) k = some q.2 := by simp [valueAt, List.find?_cons, e']
      rw [valV_pos e, b]; exact h2
    · have e' : ¬ q.1 = k := fun z => e (h1.trans z)
      have b : valueAt (q :: qs) k = valueAt qs k := by simp [valueAt, List.find?_cons, e']
      rw [valV_neg e, b]; exact ih
theorem KV.any {kvs : List (κ × V)} {vs : List (κ × Value)} (r : KV kvs vs) (k : κ) : (kvs.any fun kv => decide (kv.1 = k)) = vs.any fun kv => decide (kv.1 = k) := by
  unfold KV at r
  induction r with
  | nil => rfl
  | cons h t ih => rw [List.any_cons, List.any_cons, ih, h.1]
theorem KV.repl {kvs : List (κ × V)} {vs : List (κ × Value)} (r : KV kvs vs) (k : κ) {y : V} {u : Value} (ry : RelV y u) :
    KV (kvs.map fun kv => if kv.1 = k then (kv.1, y) else kv) (vs.map fun kv => if kv.1 = k then (kv.1, u) else kv) := by
  unfold KV at r ⊢
  induction r with
  | nil => exact .nil
  | @cons p q ps qs h t ih =>
    rw [List.map_cons, List.map_cons]
    refine .cons ?_ ih
    obtain ⟨h1, h2⟩ := h
    by_cases e : p.1 = k
    · rw [if_pos e, if_pos (h1.symm.trans e)]; exact ⟨h1, ry⟩
    · rw [if_neg e, if_neg (fun z => e (h1.trans z))]; exact ⟨h1, h2⟩
theorem KV.put {kvs : List (κ × V)} {vs : List (κ × Value)} (r : KV kvs vs) (k : κ) {y : V} {u : Value} (ry : RelV y u) : KV (putK kvs k y) (stored vs k u) := by
  unfold putK stored
  rw [r.any k]
  by_cases e : (vs.any fun kv => decide (kv.1 = k)) = true
  · rw [if_pos e, if_pos e]; exact r.repl k ry
  · rw [if_neg e, if_neg e]; exact Paired.snoc r ⟨rfl, ry⟩
theorem KV.length {kvs : List (κ × V)} {vs : List (κ × Value)} (r : KV kvs vs) : kvs.length = vs.length := Paired.length r
end


/-! ### a tracked dict, its keys ints and texts or tuples of these -/
theorem kV_is {P : Program} {w : World} {k : Key} {u : Value} (r : RelV (kV k) u) : (mixKind P w).is k u = true := by
  cases k with
  | inl i => obtain ⟨t, e⟩ := (show ∃ t, u = Value.int i t from r); subst e; exact mixKind_int P w i t
  | inr x => obtain ⟨t, e⟩ := (show ∃ t, u = Value.str x t from r); subst e; exact mixKind_str P w x t
theorem items_are {P : Program} {w : World} : ∀ {ks : List Key} {us : List Value}, Vals (ks.map kV) us → ItemsAre (mixKind P w) ks us
  | [], _, r => by rw [List.map_nil] at r; cases r; exact .nil
  | k :: ks, _, r => by
    rw [List.map_cons] at r
    cases r with
    | cons h t => exact .cons (kV_is h) (items_are t)

/-- raw entries of a dict with tuple keys -/
abbrev KT (H : Hp) : List (List Key × V) → List (List Key × Addr × Value) → Prop := Paired fun p q => p.1 = q.1 ∧ H q.2.1 = some (.tup (p.1.map kV)) ∧ RelV p.2 q.2.2
theorem KT.val {H : Hp} {kvs : List (List Key × V)} {xs : List (List Key × Addr × Value)} (r : KT H kvs xs) (k : List Key) : RelO (valV kvs k) ((atKey xs k).map (·.2)) := by
  induction r with
  | nil => exact True.intro
  | @cons p q ps qs h t ih =>
    obtain ⟨h1, _, h2⟩ := h
    by_cases e : p.1 = k
    · have e' : q.1 = k := h1.symm.trans e
      have b : atKey (q :: qs) k = some q.2 := by simp [atKey, List.find?_cons, e']
      rw [valV_pos e, b]; exact h2
    · have e' : ¬ q.1 = k := fun z => e (h1.trans z)
      have b : atKey (q :: qs) k = atKey qs k := by simp [atKey, List.find?_cons, e']
      rw [valV_neg e, b]; exact ih
theorem KT.repl {H : Hp} {kvs : List (List Key × V)} {xs : List (List Key × Addr × Value)} (r : KT H kvs xs) (k : List Key) {y : V} {u : Value} (ry : RelV y u) :
    KT H (kvs.map fun kv => if kv.1 = k then (kv.1, y) else kv) (xs.map (putAt k u)) := by
  induction r with
  | nil => exact .nil
  | @cons p q ps qs h t ih =>
    rw [List.map_cons, List.map_cons]
    refine .cons ?_ ih
    obtain ⟨h1, h2, h3⟩ := h
    unfold putAt
    by_cases e : p.1 = k
    · rw [if_pos e, if_pos (h1.symm.trans e)]; exact ⟨h1, h2, ry⟩
    · rw [if_neg e, if_neg (fun z => e (h1.trans z))]; exact ⟨h1, h2, h3⟩
theorem KT.put {H : Hp} {kvs : List (List Key × V)} {xs : List (List Key × Addr × Value)} (r : KT H kvs xs) (k : List Key) {b : Addr} {y : V} {u : Value} (hb : H b = some (.tup (k.map kV))) (ry : RelV y u) :
    KT H (putK kvs k y) (storedH xs k b u) := by
  have e : (kvs.any fun kv => decide (kv.1 = k)) = (atKey xs k).isSome := by
    rw [valV_any, (r.val k).isSome_eq, Option.isSome_map]
  unfold putK storedH
  rw [e]
  by_cases q : (atKey xs k).isSome = true
  · rw [if_pos q, if_pos q]; exact r.repl k ry
  · rw [if_neg q, if_neg q]; exact Paired.snoc r ⟨rfl, hb, ry⟩
theorem KT.keeps {H H' : Hp} {kvs : List (List Key × V)} {xs : List (List Key × Addr × Value)} (r : KT H kvs xs) (ht : ∀ b ys, H b = some (.tup ys) → H' b = some (.tup ys)) : KT H' kvs xs :=
  Paired.mapP r fun _ _ z => ⟨z.1, ht _ _ z.2.1, z.2.2⟩

section
variable {P : Program} {w : World} {H : Hp} {h : Heap} {a : Addr}
theorem rd_of {u : HO} (ok : HOk P w H h) (e : Rd H a u) : ObjOk P w H h a u := e.ok ok
theorem dk_rd {kvs : List (Key × V)} (ok : HOk P w H h) (e : Rd H a (.dK kvs)) : kvs.length ≤ sizeLine ∧ (a == sysModules) = false ∧ ∃ vs, KV kvs vs ∧ h.DictOf (mixKind P w) a vs :=
  show ObjOk P w H h a (.dK kvs) from rd_of ok e
theorem dk_of {kvs : List (Key × V)} (ok : HOk P w H h) (e : H a = some (.dK kvs)) : kvs.length ≤ sizeLine ∧ (a == sysModules) = false ∧ ∃ vs, KV kvs vs ∧ h.DictOf (mixKind P w) a vs := dk_rd ok (.inl e)
/-- a tracked tuple of ints and texts is a key -/
theorem key_of {ks : List Key} (ok : HOk P w H h) (e : H a = some (.tup (ks.map kV))) : (tupleKind (mixKind P w)).is h ks a := by
  obtain ⟨_, its, r, o, h1, h2, n, h3⟩ := (show ObjOk P w H h a (.tup (ks.map kV)) from ok a _ e)
  exact ⟨o, its.toArray, n, h1, h2, h3, by simpa using items_are r⟩
theorem dt_rd {kvs : List (List Key × V)} (ok : HOk P w H h) (e : Rd H a (.dT kvs)) : kvs.length ≤ sizeLine ∧ (a == sysModules) = false ∧
    ∃ xs, KT H kvs xs ∧ h.DictOfH (tupleKind (mixKind P w)) a xs := by
  obtain ⟨z, y, xs, r, o, es, ep, h1, h2, h3, h4, h5⟩ := (show ObjOk P w H h a (.dT kvs) from rd_of ok e)
  refine ⟨z, y, xs, r, o, es, ep, h1, h2, h3, h4, fun x hx => ?_, h5⟩
  have all : ∀ {l : List (List Key × V)} {m : List (List Key × Addr × Value)}, KT H l m → ∀ x ∈ m, (tupleKind (mixKind P w)).is h x.1 x.2.1 := by
    intro l m q
    induction q with
    | nil => intro x hx; exact nomatch hx
    | @cons p q ps qs hq t ih =>
      intro x hx
      rcases List.mem_cons.mp hx with e | hx
      · subst e
        exact key_of ok (by rw [← hq.1]; exact hq.2.1)
      · exact ih x hx
  exact all r x hx
theorem dt_of {kvs : List (List Key × V)} (ok : HOk P w H h) (e : H a = some (.dT kvs)) : kvs.length ≤ sizeLine ∧ (a == sysModules) = false ∧
    ∃ xs, KT H kvs xs ∧ h.DictOfH (tupleKind (mixKind P w)) a xs := dt_rd ok (.inl e)
end

/-- what the dict at a holds at the key y -/
def DGet (H : Hp) (a : Addr) (y : V) (r : Option V) : Prop :=
  (∃ kvs k, Rd H a (.dK kvs) ∧ y = kV k ∧ r = valV kvs k) ∨ ∃ kvs k b, Rd H a (.dT kvs) ∧ y = .ref b ∧ H b = some (.tup (k.map kV)) ∧ r = valV kvs k
/-- the heap behind a[y] = v -/
def DPut (H : Hp) (a : Addr) (y v : V) (H' : Hp) : Prop :=
  (∃ kvs k, H a = some (.dK kvs) ∧ y = kV k ∧ kvs.length < sizeLine ∧ H' = upd H a (.dK (putK kvs k v))) ∨
  ∃ kvs k b, H a = some (.dT kvs) ∧ y = .ref b ∧ H b = some (.tup (k.map kV)) ∧ kvs.length < sizeLine ∧ H' = upd H a (.dT (putK kvs k v))
theorem DGet.t {H : Hp} {a b : Addr} {kvs : List (List Key × V)} {k : List Key} (e : H a = some (.dT kvs)) (eb : H b = some (.tup (k.map kV))) : DGet H a (.ref b) (valV kvs k) := .inr ⟨kvs, k, b, .inl e, rfl, eb, rfl⟩
theorem DPut.t {H : Hp} {a b : Addr} {kvs : List (List Key × V)} {k : List Key} {v : V} (e : H a = some (.dT kvs)) (eb : H b = some (.tup (k.map kV))) (hl : kvs.length < sizeLine) :
    DPut H a (.ref b) v (upd H a (.dT (putK kvs k v))) := .inr ⟨kvs, k, b, e, rfl, eb, hl, rfl⟩


section
variable {X : Cx} {pins : List (Addr × Obj)} {σ : St} {H : Hp} {s : Shared} {a : Addr} {y v : V} {u r : Value} {o : Option V} {A : Around} {E : Value → Shared → Prop}


/-- y in d -/
theorem d_in {Q : Value → Shared → Prop} (hu : A.units + 1 < cLine) (I : Inv X pins σ H s) (g : DGet H a y o) (ry : RelV y u) (h : ∀ s', Inv X pins σ H s' → Q (.bool o.isSome) s') :
    wpAny (model X.prog X.w) A (compareOp .In u (.ref a)) Q E s := by
  rcases g with ⟨kvs, k, e, ey, l⟩ | ⟨kvs, k, b, e, ey, eb, l⟩
  · subst ey
    obtain ⟨z, hd, vs, rel, dd⟩ := dk_rd I.hok e
    refine wpAny_in_of (kV_is ry) hd dd.mapOf ?_
    rw [← (rel.val k).isSome_eq, ← l]
    exact h _ (I.tok _)
  · subst ey
    cases (show u = Value.ref b from ry)
    obtain ⟨z, hd, xs, rel, dd⟩ := dt_rd I.hok e
    refine wpAny_in_heap (tupleKind_room_in1 hu) (key_of I.hok eb) hd dd ?_
    have q := (rel.val k).isSome_eq
    rw [Option.isSome_map] at q
    rw [← q, ← l]
    exact h _ (I.tok _)
/-- a dict's object is replaced -/
theorem d_write {h' : Heap} {t' : Nat} {ob : HO} (I : Inv X pins σ H s) (mu : Mut (H a)) (hs : Heap.SameBut a s.heap h') (he : ∃ q, h'.get? a = some q) (new : ObjOk X.prog X.w (upd H a ob) h' a ob) :
    Inv X pins σ (upd H a ob) { s with heap := h', toks := t' } :=
  I.write (x := a) (e := a) mu (.inl rfl) (fun b q hb z => (hs.2 b hb).trans z) he new
theorem dk_new {P : Program} {w : World} {H' : Hp} {h' : Heap} {kvs : List (Key × V)} {vs : List (Key × Value)} (z : kvs.length ≤ sizeLine) (hd : (a == sysModules) = false) (rel : KV kvs vs) (dd : h'.DictOf (mixKind P w) a vs) :
    ObjOk P w H' h' a (.dK kvs) := ⟨z, hd, vs, rel, dd⟩
/-- d[y] = v -/
theorem d_setItem {H' : Hp} {Q : Unit → Shared → Prop} (hu : A.units + 1 < cLine) (I : Inv X pins σ H s) (g : DPut H a y v H') (ry : RelV y u) (rv : RelV v r) (h : ∀ s', Inv X pins σ H' s' → Q () s') :
    wpAny (model X.prog X.w) A (setItem (.ref a) u r) Q E s := by
  rcases g with ⟨kvs, k, e, ey, l, eH⟩ | ⟨kvs, k, b, e, ey, eb, l, eH⟩
  · subst ey eH
    obtain ⟨z, hd, vs, rel, dd⟩ := dk_of I.hok e
    have hz : vs.length ≤ sizeLine := by rw [← rel.length]; exact z
    have hl : (putK kvs k v).length ≤ sizeLine := by have := length_putK kvs k v; omega
    refine wpAny_setItem_pairs (hsz := hz) (kV_is ry) dd fun h' dd' hs => h _ ?_
    have he : ∃ q, h'.get? a = some q := let ⟨q, _, _, hq, _⟩ := dd'; ⟨q, hq⟩
    exact d_write I (by rw [e]; exact True.intro) hs he (dk_new hl hd (rel.put k rv) dd')
  · subst ey eH
    cases (show u = Value.ref b from ry)
    obtain ⟨z, hd, xs, rel, dd⟩ := dt_of I.hok e
    have hz : xs.length ≤ sizeLine := by rw [← Paired.length rel]; exact z
    have hl : (putK kvs k v).length ≤ sizeLine := by have := length_putK kvs k v; omega
    refine wpAny_setItem_heap (hsz := hz) (tupleKind_room_in1 hu) (key_of I.hok eb) dd fun h' dd' hs => h _ ?_
    obtain ⟨q, es, ep, hq, h2, h3, h4, _, h5⟩ := dd'
    refine d_write I (by rw [e]; exact True.intro) hs ⟨q, hq⟩ ⟨hl, hd, _, (rel.put k eb rv).keeps fun c ys ec => ?_, q, es, ep, hq, h2, h3, h4, h5⟩
    rw [upd_ne (ne_of ec e (fun z => nomatch z))]
    exact ec
end

section
variable {X : Cx} {pins : List (Addr × Obj)} {σ : St} {H : Hp} {s : Shared} {a : Addr} {kvs : List (Key × V)} {k : Key} {u : Value} {A : Around} {E : Value → Shared → Prop}
end


/-! ### readings and rules -/
/-- the element of a subscription, not a slice -/
def NoSl (i : Expr) : Prop := ∀ ov iv, subscripted i false ov iv = operate [ov, iv] (getItem ov iv)
/-- d[y] -/
def tDGet (td ty : TE) : TE := fun σ H Q => td σ H fun x H1 => ty σ H1 fun y H2 => ∃ a v, x = .ref a ∧ DGet H2 a y (some v) ∧ Q v H2
/-- y in d, y not in d -/
def tDIn (ty td : TE) : TE := fun σ H Q => ty σ H fun y H1 => td σ H1 fun x H2 => ∃ a o, x = .ref a ∧ DGet H2 a y o ∧ Q (.bl o.isSome) H2
def tDNotIn (ty td : TE) : TE := fun σ H Q => ty σ H fun y H1 => td σ H1 fun x H2 => ∃ a o, x = .ref a ∧ DGet H2 a y o ∧ Q (.bl (!o.isSome)) H2
/-- d[y] = v -/
def sDPut (td ty tv : TE) : TS := fun D σ H => tv σ H fun v H1 => td σ H1 fun x H2 => ty σ H2 fun y H3 => ∃ a H4, x = .ref a ∧ DPut H3 a y v H4 ∧ D.nx σ H4
/-- d[y] op= v -/
def sDAug (td ty tv : TE) (rd : V → V → Hp → VK → Prop) : TS := fun D σ H => td σ H fun x H1 => ty σ H1 fun y H2 => ∃ a v, x = .ref a ∧ DGet H2 a y (some v) ∧
  tv σ H2 fun y2 H3 => rd v y2 H3 fun z H4 => ∃ H5, DPut H4 a y z H5 ∧ D.nx σ H5
/-- del d[y] -/
def sDDel (td ty : TE) : TS := fun D σ H => td σ H fun x H1 => ty σ H1 fun y H2 => ∃ a kvs k, x = .ref a ∧ H2 a = some (.dK kvs) ∧ y = kV k ∧ (valV kvs k).isSome = true ∧ D.nx σ (upd H2 a (.dK (dropK kvs k)))

section
variable {X : Cx} {o i e value : Expr} {pos pos' tpos : Pos} {td ty tv : TE}
theorem pc_din (hu : X.A.units + 1 < cLine) (hi : PE X i ty) (ho : PE X o td) : PC X .In i o (tDIn ty td) := by
  intro pins s σ H Q I h
  refine thn (hi pins s σ H _ I h) fun iv s1 ⟨y, H1, I1, ry, q1⟩ => thn (ho pins s1 σ H1 _ I1 q1) fun u s2 ⟨x, H2, I2, rx, a, ov, ex, g, q2⟩ => ?_
  subst ex
  obtain rfl : u = Value.ref a := rx
  exact d_in hu I2 g ry fun s3 I3 => ⟨.bl ov.isSome, H2, I3, rfl, q2⟩
theorem ps_dput (hu : X.A.units + 1 < cLine) (ho : PE X o td) (hi : PE X i ty) (hv : PE X value tv) (hs : swapsWith value (some (.Subscript o i pos')) pos.line X.env = pure false) :
    PS X (.Assign [.Subscript o i pos'] value pos) (sDPut td ty tv) := by
  intro pins s σ H D I h
  refine wpAny_Assign_Subscript (thn (hv pins s σ H _ I h) fun r s1 ⟨v, H1, I1, rv, q1⟩ => thn (ho pins s1 σ H1 _ I1 q1) fun u s2 ⟨x, H2, I2, rx, q2⟩ => thn (hi pins s2 σ H2 _ I2 q2) fun iv s3 ⟨y, H3, I3, ry, a, H4, ex, g, q3⟩ => ?_) hs
  subst ex
  obtain rfl : u = Value.ref a := rx
  exact d_setItem hu I3 g ry rv fun s4 I4 => ⟨σ, H4, I4, q3⟩
end

end L2
namespace L2
open PySem PySem.Spec PyProof.Rows
/-! ### a dict's pairs: keys that differ -/
section
variable {κ : Type} [DecidableEq κ]
end
end L2
namespace L2
open PySem PySem.Spec PyProof.Rows
theorem dt_empty {P : Program} {w : World} {H : Hp} (h : Heap) (hb : sysModules < h.objs.size) : ObjOk P w H (h.push { cls := .type "dict", data := .dict #[] }) h.objs.size (.dT []) :=
  ⟨Nat.zero_le _, beq_eq_false_iff_ne.mpr (Ne.symm (Nat.ne_of_lt hb)), [], .nil, _, #[], 0, Heap.get?_push_size _ rfl, ⟨rfl, rfl, rfl⟩, rfl, rfl, List.nodup_nil⟩
def tDNewT : TE := fun _ H Q => ∀ p, H p = none → Q (.ref p) (upd H p (.dT []))
section
variable {X : Cx} {pos : Pos}
theorem pe_dnewT : PE X (.Dict [] [] pos) tDNewT := fun pins s σ H Q I h =>
  wpAny_Dict_empty ⟨.ref s.heap.objs.size, _, I.laid (a := s.heap.objs.size) (o := .dT []) (t' := s.toks) (fun _ _ q => Heap.get?_push_of_some _ q) (Nat.le_refl _) (dt_empty s.heap I.big), rfl, h _ (I.hok.fresh (Nat.le_refl _))⟩
end
end L2

set_option Elab.async false
set_option linter.all false
set_option maxRecDepth 100000
/-! sorted(xs) of tuples of ints: what comes is a list with the same tuples, each as often -/
namespace PySem.W
open PySem PySem.Calls PyProof.Rows
/-- all that a tree asks is of the first n; what it tells is P -/
def KasT.Ok {α : Type} (n : Nat) (P : α → Prop) : KasT α → Prop
  | .ret a => P a
  | .ask i j k => i < n ∧ j < n ∧ ∀ b, (k b).Ok n P
theorem KasT.Ok.bind {α β : Type} {n : Nat} {P : α → Prop} {P' : β → Prop} {f : α → KasT β} : ∀ {t : KasT α}, t.Ok n P → (∀ a, P a → (f a).Ok n P') → (t.bind f).Ok n P'
  | .ret a, h, hf => hf a h
  | .ask i j k, h, hf => ⟨h.1, h.2.1, fun b => KasT.Ok.bind (h.2.2 b) hf⟩
theorem KasT.Ok.wp {α : Type} {n : Nat} {P : α → Prop} {cmp : Nat → Nat → (Bool → Shared → Prop) → Shared → Prop} {Q : α → Shared → Prop} {s : Shared} (lt : Nat → Nat → Bool) (hc : ∀ i j C, i < n → j < n → C (lt i j) s → cmp i j C s) (hQ : ∀ a, P a → Q a s) :
    ∀ {t : KasT α}, t.Ok n P → t.kasWp cmp Q s
  | .ret a, h => hQ a h
  | .ask i j k, h => hc i j _ h.1 h.2.1 (KasT.Ok.wp lt hc hQ (h.2.2 (lt i j)))
def KPm (n : Nat) (p : Array Nat) : Prop := p.toList.Perm (List.range n)
theorem KPm.lt {n : Nat} {p : Array Nat} (h : KPm n p) (hn : 0 < n) (i : Nat) : p.getD i 0 < n := by
  by_cases hi : i < p.size
  · have e : p.getD i 0 = p[i] := by simp [Array.getD, hi]
    rw [e]
    exact List.mem_range.mp (h.mem_iff.mp (by simp))
  · have e : p.getD i 0 = 0 := by simp [Array.getD, hi]
    rw [e]
    exact hn
theorem KPm.rev {n : Nat} {p : Array Nat} (h : KPm n p) (i j : Nat) : KPm n (kas_rev p i j) := (Array.perm_iff_toList_perm.mp (mirror_perm p i j ((j - i) / 2))).trans h
theorem KPm.bub {n : Nat} {p : Array Nat} (h : KPm n p) (i j : Nat) : KPm n (bubble p i j) := (Array.perm_iff_toList_perm.mp (bubble_perm p i j)).trans h
theorem asc_ok {n : Nat} {p : Array Nat} (h : KPm n p) (hn : 0 < n) : ∀ f m, (kas_asc p f m).Ok n (fun _ => True)
  | 0, m => trivial
  | f + 1, m => ⟨h.lt hn _, h.lt hn _, fun b => by
    cases b with
    | true => exact trivial
    | false => exact asc_ok h hn f (m + 1)⟩
theorem desc_ok {n : Nat} (hn : 0 < n) : ∀ f p m q, KPm n p → (kas_desc f p m q).Ok n (fun r => KPm n r.1)
  | 0, p, m, q, h => h
  | f + 1, p, m, q, h => ⟨h.lt hn _, h.lt hn _, fun b => by
    cases b with
    | true =>
      show KasT.Ok n _ (if q > 0 then _ else _)
      split
      · exact desc_ok hn f _ _ _ (h.rev _ _)
      · exact desc_ok hn f _ _ _ h
    | false => exact ⟨h.lt hn _, h.lt hn _, fun d => by
        cases d with
        | true => exact h
        | false => exact desc_ok hn f _ _ _ h⟩⟩
theorem tail3_ok {n : Nat} (hn : 0 < n) (a m : Nat) {p : Array Nat} (h : KPm n p) : (kas_tail3 a m p).Ok n (fun r => KPm n r.2) :=
  KasT.Ok.bind (asc_ok (h.rev 0 a) hn _ _) fun _ _ => h.rev 0 a
theorem descPart_ok {n : Nat} (hn : 0 < n) (a m : Nat) {p : Array Nat} (h : KPm n p) : (kas_descPart a m p).Ok n (fun r => KPm n r.2) :=
  KasT.Ok.bind (desc_ok hn _ _ _ _ h) fun r hr => by
    show KasT.Ok n _ (if r.2.2 > 0 then _ else _)
    split
    · exact tail3_ok hn _ _ (hr.rev _ _)
    · exact tail3_ok hn _ _ hr
theorem count_ok {n : Nat} (hn : 0 < n) (m : Nat) {p : Array Nat} (h : KPm n p) : (kas_count m p).Ok n (fun r => KPm n r.2) :=
  KasT.Ok.bind (asc_ok h hn _ _) fun a _ => by
    show KasT.Ok n _ (if (a == m) = true then _ else if a > 1 then _ else _)
    split
    · exact h
    · split
      · exact ⟨h.lt hn _, h.lt hn _, fun b => by
          cases b with
          | true => exact h
          | false => exact descPart_ok hn _ _ (h.rev _ _)⟩
      · exact descPart_ok hn _ _ h
theorem place_ok {n : Nat} {p : Array Nat} (h : KPm n p) (hn : 0 < n) (k : Nat) : ∀ f l r, (kas_place p k f l r).Ok n (fun _ => True)
  | 0, l, r => trivial
  | f + 1, l, r => by
    show KasT.Ok n _ (if l ≥ r then _ else _)
    split
    · exact trivial
    · exact ⟨h.lt hn _, h.lt hn _, fun b => by
        cases b with
        | true => exact place_ok h hn k f _ _
        | false => exact place_ok h hn k f _ _⟩
theorem bin_ok {n : Nat} (hn : 0 < n) : ∀ f p k, KPm n p → (kas_bin f p k).Ok n (KPm n)
  | 0, p, k, h => h
  | f + 1, p, k, h => KasT.Ok.bind (place_ok h hn k _ _ _) fun l _ => bin_ok hn f _ _ (h.bub _ _)
theorem sort_ok {n : Nat} (hn : 0 < n) : (kas_sort n).Ok n (KPm n) :=
  KasT.Ok.bind (count_ok hn n (show KPm n (List.toArray (List.range n)) from List.Perm.refl _)) fun r hr => by
    show KasT.Ok n _ (if r.1 < n then _ else _)
    split
    · exact bin_ok hn _ _ _ hr
    · exact hr

section
variable {prog : Program} {w : World} {A : Around} {E : Value → Shared → Prop} {s : Shared}
theorem list_sort_tup {a : Addr} {vs fs : List Value} {n : Nat} {P : PySem.Fin → Shared → Prop} (ho : s.heap.get? a = some (seqObj "list" vs.toArray n)) (h64 : vs.length < 64) (lt : Nat → Nat → Bool)
    (ht : ∀ h', (∀ b o, b ≠ a → s.heap.get? b = some o → h'.get? b = some o) → KatTups h' vs fs) (hT : ∀ v ∈ fs, ∃ i t, v = Value.int i t)
    (ask : ∀ h', (∀ b o, b ≠ a → s.heap.get? b = some o → h'.get? b = some o) → ∀ i j C, i < vs.length → j < vs.length → C (lt i j) { s with heap := h' } → kas_ask prog w A (tuples' true) vs i j C { s with heap := h' })
    (h : ∀ p : Array Nat, KPm vs.length p → P (.done (.ret .none)) { s with heap := sortedHeap s.heap a vs (List.toArray (p.toList.map fun i => vs.getD i Value.none)) }) :
    wpAny (model prog w) A (Builtin.«list.sort» ⟨[.ref a], []⟩) P E s := by
  have ha : a < s.heap.objs.size := Heap.lt_size ho
  have hsz : vs.toArray.size = vs.length := by simp
  rw [list_sort_plain]
  refine wpAny_bind (listItems_at ho rfl ?_)
  refine wpAny_bind (listUpdate_at ho rfl ?_ (by rw [List.size_toArray, sizeLine_eq]; omega) (Nat.zero_le _))
  obtain ⟨e1, ho1⟩ : ∃ e1, (s.heap.update a (Obj.mapSeq fun _ => (#[] : Array Value))).get? a = some (seqObj "list" #[] e1) := ⟨_, get?_update_seq ho fun _ => #[]⟩
  refine wpAny_bind (seqEpoch_at ho1 rfl ?_)
  refine wpAny_bind (wpAny_newTuple ?_ (by show vs.length ≤ _; rw [sizeLine_eq]; omega))
  refine wpAny_bind (wpAny_newList ?_ (Nat.zero_le _))
  refine wpAny_holding ?_
  have ho6 : (((s.heap.update a (Obj.mapSeq fun _ => (#[] : Array Value))).push (seqObj "tuple" vs.toArray 0)).push (seqObj "list" #[] 0)).get? a = some (seqObj "list" #[] e1) := by
    rw [Heap.get?_push_ne _ _ _ (by rw [size_push', Heap.size_update]; exact Nat.ne_of_lt (Nat.lt_succ_of_lt ha)), Heap.get?_push_ne _ _ _ (by rw [Heap.size_update]; exact Nat.ne_of_lt ha)]
    exact ho1
  have keep : ∀ b o, b ≠ a → s.heap.get? b = some o → (((s.heap.update a (Obj.mapSeq fun _ => (#[] : Array Value))).push (seqObj "tuple" vs.toArray 0)).push (seqObj "list" #[] 0)).get? b = some o := fun b o hb q => by
    refine Heap.get?_push_of_some _ (Heap.get?_push_of_some _ ?_)
    rw [Heap.get?_update_ne _ _ _ _ hb]
    exact q
  show wpAny (model prog w) A _ P E { s with heap := ((s.heap.update a (Obj.mapSeq fun _ => (#[] : Array Value))).push (seqObj "tuple" vs.toArray 0)).push (seqObj "list" #[] 0) }
  dsimp only
  by_cases h2 : vs.toArray.size < 2
  · rw [if_pos h2, if_pos h2]
    refine wpAny_bind (wpAny_pure ?_)
    rw [StateT.run_pure]
    refine wpAny_bind (wpAny_pure ?_)
    dsimp only
    refine wpAny_bind (seqEpoch_at ho6 rfl ?_)
    refine wpAny_bind (listUpdate_at ho6 rfl ?_ (Nat.zero_le _) (by rw [Array.size_map]; show (pairsOf vs).size ≤ _; rw [pairsOf_size, sizeLine_eq]; omega))
    simp only [bne_self_eq_false, Bool.false_eq_true, if_false]
    have e : (arrOf (SortSt.mk' general' (vs.toArray.zip vs.toArray) #[] 7 none)).map (·.2) = List.toArray ((List.toArray (List.range vs.length)).toList.map fun i => vs.getD i Value.none) := by
      have hr := kas_range (vs.toArray.zip vs.toArray)
      rw [show (vs.toArray.zip vs.toArray).size = vs.length by simp] at hr
      exact kat_snds (ks := vs) (vs := vs) rfl (st := SortSt.mk' general' (vs.toArray.zip vs.toArray) #[] 7 none) (p := List.toArray (List.range vs.length)) hr.symm
    have z := h (List.toArray (List.range vs.length)) (List.Perm.refl _)
    rw [← e] at z
    exact wpAny_pure z
  · rw [if_neg h2, if_neg h2]
    have h2' : 2 ≤ vs.length := by omega
    refine wpAny_bind (kat_kind (T := .type "int") (ht _ keep) ?_ (fun v hv => ?_) (by decide) ?_)
    · have t := ht _ keep
      cases vs with
      | nil => simp at h2'
      | cons v r =>
        cases fs with
        | nil => exact t.elim
        | cons f fr => exact Nat.succ_pos _
    · obtain ⟨i, t, rfl⟩ := hT v hv
      exact .now
    show wpAny (model prog w) A _ P E _
    refine wpAny_bind (wpAny_mono (kat_run (ks := vs) (κ := tuples' true) (G := fun p s' => KPm vs.length p ∧ s' = { s with heap := ((s.heap.update a (Obj.mapSeq fun _ => (#[] : Array Value))).push (seqObj "tuple" vs.toArray 0)).push (seqObj "list" #[] 0) })
      (Q := fun st' s' => ∃ p : Array Nat, p.size = vs.length ∧ arrOf st' = p.map (kas_item (vs.toArray.zip vs.toArray)) ∧ failedOf st' = none ∧ KPm vs.length p ∧ s' = { s with heap := ((s.heap.update a (Obj.mapSeq fun _ => (#[] : Array Value))).push (seqObj "tuple" vs.toArray 0)).push (seqObj "list" #[] 0) })
      rfl h2' h64 (fun p' st' s' a1 a2 a3 a4 => ⟨p', a1, a2, a3, a4.1, a4.2⟩) ((sort_ok (by omega)).wp lt (ask _ keep) fun p hp => ⟨hp, rfl⟩)) ?_ fun _ _ e => e)
    rintro ⟨⟨⟩, st'⟩ s' ⟨p, hp, har, hf, hpm, rfl⟩
    dsimp only
    have hout := kat_snds (ks := vs) (vs := vs) rfl har
    rw [hout]
    refine wpAny_bind (seqEpoch_at ho6 rfl ?_)
    refine wpAny_bind (listUpdate_at ho6 rfl ?_ (Nat.zero_le _) (by rw [List.size_toArray, List.length_map, Array.length_toList, hp, sizeLine_eq]; omega))
    rw [hf]
    simp only [bne_self_eq_false, Bool.false_eq_true, if_false]
    exact wpAny_pure (h p hpm)
/-- the list as the sort finds it -/
def preSort (h : Heap) (vs : List Value) : Heap := ((h.push (seqObj "list" #[] 0)).update h.objs.size (Obj.mapSeq (· ++ vs.toArray))).push (seqObj "list" vs.toArray 0)
theorem preSort_keep {h : Heap} {vs : List Value} {b : Addr} {o : Obj} (q : h.get? b = some o) : (preSort h vs).get? b = some o := by
  have hlt : b < h.objs.size := Heap.lt_size q
  refine Heap.get?_push_of_some _ ?_
  rw [Heap.get?_update_ne _ _ _ _ (Nat.ne_of_lt hlt)]
  exact Heap.get?_push_of_some _ q
theorem sorted_tup {l : Addr} {vs fs : List Value} {Q : Value → Shared → Prop} (hl : s.heap.IsList l vs.toArray) (h64 : vs.length < 64) (lt : Nat → Nat → Bool)
    (ht : ∀ h' : Heap, (∀ b o, s.heap.get? b = some o → h'.get? b = some o) → KatTups h' vs fs) (hT : ∀ v ∈ fs, ∃ i t, v = Value.int i t)
    (ask : ∀ h' : Heap, (∀ b o, s.heap.get? b = some o → h'.get? b = some o) → ∀ i j C, i < vs.length → j < vs.length → C (lt i j) { s with heap := h' } → kas_ask prog w A.in1.in1 (tuples' true) vs i j C { s with heap := h' })
    (h : ∀ p : Array Nat, KPm vs.length p → Q (.ref (s.heap.objs.size + 1)) { s with heap := sortedAll s.heap vs (List.toArray (p.toList.map fun i => vs.getD i Value.none)) }) :
    wpAny (model prog w) A (call (.builtin "sorted") [.ref l]) Q E s := by
  refine Calls.call_function_entry kind_sorted plain_sorted entry_sorted (args_sorted1 _) ?_
  unfold Builtin.«sorted»
  refine wpAny_bind (m := checkCount "sorted" 1 1 _) (wpAny_pure ?_)
  refine wpAny_bind (collect_list hl ?_ (by rw [sizeLine_eq]; omega))
  refine wpAny_bind (wpAny_newList ?_ (by rw [sizeLine_eq]; omega))
  have hsz : ((s.heap.push (seqObj "list" #[] 0)).update s.heap.objs.size (Obj.mapSeq (· ++ vs.toArray))).objs.size = s.heap.objs.size + 1 := by
    rw [Heap.size_update, size_push']
  have hoL : (((s.heap.push (seqObj "list" #[] 0)).update s.heap.objs.size (Obj.mapSeq (· ++ vs.toArray))).push (seqObj "list" vs.toArray 0)).get? (s.heap.objs.size + 1) = some (seqObj "list" vs.toArray 0) := by
    rw [← hsz]; exact Heap.get?_push_size _ rfl
  show wpAny _ _ _ _ _ { s with heap := ((s.heap.push (seqObj "list" #[] 0)).update s.heap.objs.size (Obj.mapSeq (· ++ vs.toArray))).push (seqObj "list" vs.toArray 0) }
  rw [hsz]
  have kp : ∀ h' : Heap, (∀ b o, b ≠ s.heap.objs.size + 1 → (preSort s.heap vs).get? b = some o → h'.get? b = some o) → ∀ b o, s.heap.get? b = some o → h'.get? b = some o := fun h' hk b o q =>
    hk b o (Nat.ne_of_lt (Nat.lt_succ_of_lt (Heap.lt_size q))) (preSort_keep q)
  refine wpAny_bind (wpAny_holding (wpAny_call_entry slot_list_sort ⟨_, hoL, rfl⟩ entry_list_sort (list_sort_tup (s := { s with heap := preSort s.heap vs }) (fs := fs) hoL h64 lt (fun h' hk => ht h' (kp h' hk)) hT (fun h' hk i j C hi hj hC => ask h' (kp h' hk) i j C hi hj hC) fun p hp => ⟨_, rfl, ?_⟩) (args_list_sort _)))
  exact wpAny_pure ⟨_, rfl, h p hp⟩
end
end PySem.W
namespace L2
open PySem PySem.Spec PyProof.Rows PySem.W
theorem lexI_ok {prog : Program} {w : World} {A : Around} {Q : Bool → Shared → Prop} {s : Shared} : ∀ (vs us : List Value) (ns ms : List Int) (i : Nat), IntsAre vs ns → IntsAre us ms → Q (HT.lexLt ns ms) s → KatLex prog w A true (decide (vs.length < us.length)) Q (vs.zip us) i s
  | [], [], _, _, i, .nil, .nil, h => h
  | [], _ :: _, _, _, i, .nil, .cons .., h => by
    show Q (decide _) s
    rw [decide_eq_true (by simp)]
    exact h
  | _ :: _, [], _, _, i, .cons .., .nil, h => by
    show Q (decide _) s
    rw [decide_eq_false (by simp)]
    exact h
  | _, _, _, _, i, .cons n t (vs := vs) (ns := ns) hv, .cons m u (vs := us) (ns := ms) hu, h => by
    show KatLex prog w A true (decide (vs.length + 1 < us.length + 1)) Q ((Value.int n t, Value.int m u) :: vs.zip us) i s
    refine kat_cons ((SeqAt.EqAt.int_int n t m u) prog w _ _ ?_)
    rw [show decide (vs.length + 1 < us.length + 1) = decide (vs.length < us.length) from decide_eq_decide.mpr (by omega)]
    rw [HT.lexLt_cons] at h
    by_cases e : n = m
    · rw [if_pos e] at h
      rw [show (n == m) = true from by simpa using e]
      exact kat_yes (lexI_ok vs us ns ms (i + 1) hv hu h)
    · rw [if_neg e] at h
      rw [show (n == m) = false from by simpa using e]
      refine kat_no ?_
      cases hb : (true && i == 0) with
      | true => exact oneLt_int h
      | false => exact kat_one _ _ (PyProof.Rows.lt_int h)
def intOf : V → Int
  | .int i => i
  | _ => 0
def tupOf (H : Hp) (a : Addr) : List Int := match H a with
  | some (.tup xs) => xs.map intOf
  | _ => []
theorem tupOf_at {H : Hp} {a : Addr} {ns : List Int} (h : H a = some (.tup (ns.map V.int))) : tupOf H a = ns := by
  unfold tupOf
  rw [h]
  show (ns.map V.int).map intOf = ns
  rw [List.map_map]
  exact List.map_id'' (fun _ => rfl) ns
theorem vals_refs : ∀ {as : List Addr} {us : List Value}, Vals (as.map V.ref) us → us = as.map Value.ref
  | [], _, .nil => rfl
  | a :: as, _, .cons r t => by
    cases r
    rw [vals_refs t]
    rfl
theorem refs_vals : ∀ (as : List Addr), Vals (as.map V.ref) (as.map Value.ref)
  | [] => .nil
  | a :: as => .cons rfl (refs_vals as)
section
variable {X : Cx} {pins : List (Addr × Obj)} {σ : St} {H : Hp} {s : Shared}
/-- tuples of ints, none of them empty -/
def TupI (H : Hp) (a : Addr) : Prop := ∃ (i : Int) (ns : List Int), H a = some (.tup ((i :: ns).map V.int))
theorem TupI.there (I : Inv X pins σ H s) {a : Addr} (h : TupI H a) : ∃ (o : Obj) (xs : List Value) (n : Nat) (i : Int) (t : Tok), s.heap.get? a = some o ∧ o.cls = .type "tuple" ∧ o.data = .seq xs.toArray n ∧ IntsAre xs (tupOf H a) ∧ xs[0]? = some (.int i t) := by
  obtain ⟨i, ns, h⟩ := h
  obtain ⟨its, r, ⟨o, h1, h2, n, h3⟩, _⟩ := I.tuple (SqT.of h)
  have hi := intsAre_of r
  rw [← tupOf_at h] at hi
  refine ⟨o, its, n, i, ?_⟩
  obtain ⟨u, hu, ⟨t, rfl⟩⟩ := r.get (i := 0) (x := .int i) rfl
  exact ⟨t, h1, h2, h3, hi, hu⟩
theorem katTups_of (I : Inv X pins σ H s) : ∀ (as : List Addr), (∀ a ∈ as, TupI H a) → ∃ fs, (∀ v ∈ fs, ∃ i t, v = Value.int i t) ∧ ∀ h' : Heap, (∀ b o, s.heap.get? b = some o → h'.get? b = some o) → KatTups h' (as.map Value.ref) fs
  | [], _ => ⟨[], fun v hv => (by cases hv), fun _ _ => KatTups.nil⟩
  | a :: as, h => by
    obtain ⟨fs, h1, h2⟩ := katTups_of I as fun b hb => h b (by simp [hb])
    obtain ⟨o, xs, n, i, t, g1, g2, g3, g4, g5⟩ := (h a (by simp)).there I
    refine ⟨.int i t :: fs, fun v hv => ?_, fun h' k => KatTups.cons (k _ _ g1) g2 g3 (by simpa using g5) (h2 h' k)⟩
    rcases List.mem_cons.mp hv with rfl | hv
    · exact ⟨i, t, rfl⟩
    · exact h1 v hv
theorem sortedHeap_keep {h : Heap} {a b : Addr} {vs : List Value} {out : Array Value} {o : Obj} (hb : b ≠ a) (q : h.get? b = some o) : (sortedHeap h a vs out).get? b = some o := by
  unfold sortedHeap
  rw [Heap.get?_update_ne _ _ _ _ hb]
  refine Heap.get?_push_of_some _ (Heap.get?_push_of_some _ ?_)
  rw [Heap.get?_update_ne _ _ _ _ hb]
  exact q
theorem sortedHeap_at {h : Heap} {a : Addr} {vs : List Value} {out : Array Value} {n : Nat} (ho : h.get? a = some (seqObj "list" vs.toArray n)) : ∃ c, (sortedHeap h a vs out).get? a = some (seqObj "list" out c) := by
  obtain ⟨e1, ho1⟩ : ∃ e1, (h.update a (Obj.mapSeq fun _ => (#[] : Array Value))).get? a = some (seqObj "list" #[] e1) := ⟨_, get?_update_seq ho fun _ => #[]⟩
  unfold sortedHeap
  exact ⟨_, get?_update_seq (Heap.get?_push_of_some _ (Heap.get?_push_of_some _ ho1)) fun _ => out⟩
theorem range_getD (as : List Addr) : (List.range as.length).map (fun i => as.getD i 0) = as := by
  refine List.ext_getElem (by simp) fun i h1 h2 => ?_
  simp [h2]
/-- sorted(xs), xs a list of tuples of ints -/
theorem call_sortedT : CallR X (.builtin "sorted") (fun xs H Q => ∃ (p : Addr) (as : List Addr), xs = [.ref p] ∧ SqL X.K H p (as.map V.ref) ∧ (∀ a ∈ as, TupI H a) ∧ as.length < 64 ∧ ∀ (l : Addr) (bs : List Addr), H l = none → bs.Perm as → Q (.ref l) (upd H l (.lst (bs.map V.ref)))) := by
  intro pins s σ H xs us Q I r h
  obtain ⟨p, as, rfl, hq, ht, h64, q⟩ := h
  obtain ⟨u, rfl, rx⟩ := vals1 r
  cases rx
  obtain ⟨its, r', pl, hz⟩ := I.list hq
  obtain rfl := vals_refs r'
  obtain ⟨fs, f1, f2⟩ := katTups_of I as ht
  have hlen : (as.map Value.ref).length = as.length := List.length_map _
  refine sorted_tup pl.isList (by rw [hlen]; exact h64) (fun i j => HT.lexLt (tupOf H (as.getD i 0)) (tupOf H (as.getD j 0))) f2 f1 (fun h' k i j C hi hj hC => ?_) fun pm hp => ?_
  · rw [hlen] at hi hj
    obtain ⟨o1, x1, n1, _, _, a1, a2, a3, a4, _⟩ := (ht (as.getD i 0) (by rw [List.getD_eq_getElem?_getD, List.getElem?_eq_getElem hi]; exact List.getElem_mem hi)).there I
    obtain ⟨o2, x2, n2, _, _, b1, b2, b3, b4, _⟩ := (ht (as.getD j 0) (by rw [List.getD_eq_getElem?_getD, List.getElem?_eq_getElem hj]; exact List.getElem_mem hj)).there I
    have e : ∀ i, i < as.length → (as.map Value.ref).getD i Value.none = .ref (as.getD i 0) := fun i hi => by
      rw [List.getD_eq_getElem?_getD, List.getElem?_map, List.getElem?_eq_getElem hi, List.getD_eq_getElem?_getD, List.getElem?_eq_getElem hi]
      rfl
    unfold kas_ask
    rw [e i hi, e j hj]
    refine kat_lt (k _ _ a1) a3 (k _ _ b1) b3 ?_
    simpa using lexI_ok x1 x2 _ _ 0 a4 b4 hC
  · rw [hlen] at hp
    have kp : ∀ b o, s.heap.get? b = some o → (sortedAll s.heap (as.map Value.ref) (List.toArray (pm.toList.map fun i => (as.map Value.ref).getD i Value.none))).get? b = some o := fun b o e =>
      sortedHeap_keep (h := preSort s.heap (as.map Value.ref)) (Nat.ne_of_lt (Nat.lt_succ_of_lt (Heap.lt_size e))) (preSort_keep e)
    have hsz : ((s.heap.push (seqObj "list" #[] 0)).update s.heap.objs.size (Obj.mapSeq (· ++ (as.map Value.ref).toArray))).objs.size = s.heap.objs.size + 1 := by
      rw [Heap.size_update, size_push']
    have hoL : (preSort s.heap (as.map Value.ref)).get? (s.heap.objs.size + 1) = some (seqObj "list" (as.map Value.ref).toArray 0) := by
      unfold preSort
      rw [← hsz]
      exact Heap.get?_push_size _ rfl
    obtain ⟨c, hc⟩ := sortedHeap_at (out := List.toArray (pm.toList.map fun i => (as.map Value.ref).getD i Value.none)) hoL
    have eo : (pm.toList.map fun i => (as.map Value.ref).getD i Value.none) = (pm.toList.map fun i => as.getD i 0).map Value.ref := by
      rw [List.map_map]
      refine List.map_congr_left fun i hi => ?_
      have hi : i < as.length := List.mem_range.mp (hp.mem_iff.mp hi)
      show _ = Value.ref (as.getD i 0)
      rw [List.getD_eq_getElem?_getD, List.getElem?_map, List.getElem?_eq_getElem hi, List.getD_eq_getElem?_getD, List.getElem?_eq_getElem hi]
      rfl
    have hpm : (pm.toList.map fun i => as.getD i 0).Perm as := by
      have z := hp.map (fun i => as.getD i 0)
      rw [range_getD] at z
      exact z
    refine ⟨.ref (s.heap.objs.size + 1), _, I.laid (a := s.heap.objs.size + 1) (o := .lst ((pm.toList.map fun i => as.getD i 0).map V.ref)) (t' := s.toks) kp (Nat.le_succ _) ?_, rfl, q _ _ (I.hok.fresh (Nat.le_succ _)) hpm⟩
    refine ⟨?_, (pm.toList.map fun i => as.getD i 0).map Value.ref, c, refs_vals _, ?_⟩
    · rw [List.length_map, hpm.length_eq, sizeLine_eq]
      omega
    · rw [← eo]
      exact hc
theorem bt_sorted : bootBuiltins "sorted" = some (.builtin "sorted") := by decide +kernel
end
end L2

set_option Elab.async false
set_option linter.all false
set_option maxRecDepth 100000
/-! a chain of three comparisons; a list's pop and clear; a comprehension whatever its target -/
namespace L2
open PySem PySem.Spec PyProof.Rows
section
variable {X : Cx} {a b c d : Expr} {ta tb tc td : TE} {pos : Pos}
def tChain3 (r r' r'' : R2) (ta tb tc td : TE) : TT := fun σ H Q => ta σ H fun x H1 => tb σ H1 fun y H2 => r x y H2 fun z H3 => ∃ k, z = .bl k ∧
  (if k = true then tc σ H3 fun w' H4 => r' y w' H4 fun z2 H5 => ∃ k2, z2 = .bl k2 ∧ (if k2 = true then td σ H5 fun v' H6 => r'' w' v' H6 fun z3 H7 => ∃ k3, z3 = .bl k3 ∧ Q k3 H7 else Q false H5) else Q false H3)
theorem pt_chain3 {op op' op'' : CmpOp} {r r' r'' : R2} (ho : OpR X (compareOp op) r) (ho' : OpR X (compareOp op') r') (ho'' : OpR X (compareOp op'') r'') (ha : PE X a ta) (hb : PE X b tb) (hc : PE X c tc) (hd : PE X d td)
    (hm : lastMarks [op, op', op''] [b, c, d] = false := by with_unfolding_all rfl) : PT X (.Compare a [op, op', op''] [b, c, d] pos) (tChain3 r r' r'' ta tb tc td) := by
  intro pins s σ H Q I h
  refine isTrue_chain (thn (ha pins s σ H _ I h) fun v s1 ⟨x, H1, I1, r1, q1⟩ => test_link (thn (hb pins s1 σ H1 _ I1 q1) fun u s2 ⟨y, H2, I2, r2, q2⟩ =>
    thn (ho pins s2 σ H2 x y v u _ I2 r1 r2 q2) fun e1 s3 ⟨z, H3, I3, r3, k, e, q3⟩ => ?_)) hm
  subst e
  cases r3
  refine wpAny_truthy_bool ?_
  cases k with
  | false => exact ite_ff ⟨H3, I3, q3⟩
  | true =>
    refine ite_tt (test_link (thn (hc pins s3 σ H3 _ I3 q3) fun w' s4 ⟨z', H4, I4, r4, q4⟩ => thn (ho' pins s4 σ H4 y z' u w' _ I4 r2 r4 q4) fun d' s5 ⟨z2, H5, I5, r5, k2, e2, q5⟩ => ?_))
    subst e2
    cases r5
    refine wpAny_truthy_bool ?_
    cases k2 with
    | false => exact ite_ff ⟨H5, I5, q5⟩
    | true =>
      refine ite_tt (test_last (thn (hd pins s5 σ H5 _ I5 q5) fun v' s6 ⟨z4, H6, I6, r6, q6⟩ => thn (ho'' pins s6 σ H6 z' z4 w' v' _ I6 r4 r6 q6) fun d2 s7 ⟨z3, H7, I7, r7, k3, e3, q7⟩ => ?_))
      subst e3
      cases r7
      exact wpAny_truthy_bool ⟨H7, I7, q7⟩
theorem mt_clearR : MtR X "list.clear" rClear := mt_clear
end
section
variable {K : PySem.W.Frag} {a : Addr} {xs : List V} {σ0 : St} {H1 : Hp} {g : TG} {c : TT} {te : TE} {Q : Addr → Hp → Prop}
/-- Ag: what the block's names are whatever the target holds -/
theorem comp_lstG (Ag : St → Prop) (f : Nat → V → Option V) (h0 : Ag σ0) (hq : SqL K H1 a xs) (hn : xs.length ≤ sizeLine)
    (step : ∀ (i : Nat) (x : V) (σ1 : St) (H2 : Hp) (k : St → VK) (k0 : St → Hp → Prop), Ag σ1 → Same H1 H2 → xs[i]? = some x → (∀ σ2 y, Ag σ2 → f i x = some y → ∀ H3, Same H2 H3 → k σ2 y H3) → (∀ σ2, Ag σ2 → f i x = none → ∀ H3, Same H2 H3 → k0 σ2 H3) →
      g x σ1 H2 fun σ2 H3 => c σ2 H3 fun b H4 => if b = true then te σ2 H4 (k σ2) else k0 σ2 H4)
    (h : ∀ D H2, H1 D = none → Same H1 H2 → H2 D = some (.lst ((List.range xs.length).filterMap fun i => (xs[i]?).bind (f i))) → Q D H2) :
    ∀ D, H1 D = none → ∃ W : Nat → Nat → St → Hp → Prop, (∃ m, W 0 m σ0 (upd H1 D (.lst []))) ∧ ∀ i m σ1 H2, W i m σ1 H2 →
      ((Itl K a).stop i H2 ∧ Q D H2) ∨ ((Itl K a).go i H2 ∧ ∃ N : St → Hp → Prop, (∀ σ' H', N σ' H' → ∃ m', m' < m ∧ W (i + 1) m' σ' H') ∧
        ∀ x H', (Itl K a).yld i H2 x H' → g x σ1 H' fun σ2 H3 => c σ2 H3 fun b H4 => if b = true then te σ2 H4 fun y H5 => ∃ xs, H5 D = some (.lst xs) ∧ xs.length < sizeLine ∧ N σ2 (upd H5 D (.lst (xs ++ [y]))) else N σ2 H4) := by
  intro D hD
  refine ⟨fun i m σ1 H2 => Ag σ1 ∧ Same H1 H2 ∧ H2 D = some (.lst ((List.range i).filterMap fun i => (xs[i]?).bind (f i))) ∧ i ≤ xs.length ∧ m = xs.length - i, ⟨xs.length, h0, .upd_new hD, upd_same, Nat.zero_le _, rfl⟩, ?_⟩
  rintro i m σ1 H2 ⟨hσ, hs, hd, hi, rfl⟩
  rcases Nat.lt_or_ge i xs.length with hlt | hge
  · right
    refine ⟨⟨xs, xs[i], hs.seq hq, by simp [hlt]⟩, fun σ' H' => Ag σ' ∧ Same H1 H' ∧ H' D = some (.lst ((List.range (i + 1)).filterMap fun i => (xs[i]?).bind (f i))), fun σ' H' ⟨a, b, c⟩ => ⟨xs.length - (i + 1), by omega, a, b, c, hlt, rfl⟩, ?_⟩
    rintro x H' ⟨rfl, hx⟩
    have hx := hx xs (hs.seq hq)
    refine step i x σ1 _ (fun σ2 y H5 => ∃ xs, H5 D = some (.lst xs) ∧ xs.length < sizeLine ∧ _) _ hσ hs hx (fun σ2 y a2 hy H3 hs3 => ⟨_, hs3 _ _ hd, ?_, a2, ?_, ?_⟩) fun σ2 a2 hno H3 hs3 => ⟨a2, hs.trans hs3, ?_⟩
    · refine Nat.lt_of_le_of_lt (List.length_filterMap_le _ _) ?_
      rw [List.length_range]
      omega
    · exact (hs.trans hs3).upd_ne' hD
    · rw [upd_same, List.range_succ, List.filterMap_append]
      simp [hx, hy]
    · rw [hs3 _ _ hd, List.range_succ, List.filterMap_append]
      simp [hx, hno]
  · left
    obtain rfl : i = xs.length := Nat.le_antisymm hi hge
    exact ⟨⟨xs, hs.seq hq, Nat.le_refl _⟩, h D _ hD hs hd⟩
end
end L2

set_option Elab.async false
set_option linter.all false
set_option maxRecDepth 100000
/-! a method of an own object inside a comprehension -/
namespace L2
open PySem PySem.Spec PyProof.Rows
section
variable {X : Cx} {Ex : XS} {o e : Expr} {es : List Expr} {ta : TE} {t : TA} {m : Str} {apos pos : Pos} {j k : Nat}
theorem pe_methXK (P : Program) (w : World) (K : PySem.W.Frag) (mg : Str → Option Value) (base : Heap) (h1 : X.prog = P) (h2 : X.w = w) (h3 : X.K = K) (h4 : X.mg = mg) (h5 : X.base = base) {pl : Sem Bool} (R : Pass X Ex) (he : PE X o ta) (hr : Room j X.A) (hj : k ≤ j) (ha : PA X (e :: es) t)
    (hst : starEach (e :: es) X.env = (false, eval e X.env) :: starEach es X.env := by rfl) (hpl : (backTo pos (starEach es X.env)).any (·.1) = false := by rfl)
    (ht : eval (.Call (.Attribute o m apos) (e :: es) [] pos) X.env = (do
      let v ← eval o X.env
      standAt apos.atName
      let (f, first) ← holding [v] (getMethod v m pl)
      callWith pos f first (backTo pos (starEach (e :: es) X.env)) (backToKw pos (keywordEach [] X.env))) := by rfl) :
    PE X (.Call (.Attribute o m apos) (e :: es) [] pos) (tMethX K (fun g sp => ∃ ps, Md P w K mg base k ps sp g) m Ex ta t) := by
  subst h1 h2 h3 h4 h5
  exact pe_methX R he hr hj ha hst hpl ht
theorem pe_methX0K (P : Program) (w : World) (K : PySem.W.Frag) (mg : Str → Option Value) (base : Heap) (h1 : X.prog = P) (h2 : X.w = w) (h3 : X.K = K) (h4 : X.mg = mg) (h5 : X.base = base) {pl : Sem Bool} (R : Pass X Ex) (he : PE X o ta) (hr : Room j X.A) (hj : k ≤ j)
    (ht : eval (.Call (.Attribute o m apos) [] [] pos) X.env = (do
      let v ← eval o X.env
      standAt apos.atName
      let (f, first) ← holding [v] (getMethod v m pl)
      callWith pos f first (backTo pos (starEach [] X.env)) (backToKw pos (keywordEach [] X.env))) := by rfl) :
    PE X (.Call (.Attribute o m apos) [] [] pos) (tMethX K (fun g sp => ∃ ps, Md P w K mg base k ps sp g) m Ex ta tNil) := by
  subst h1 h2 h3 h4 h5
  exact pe_methX0 R he hr hj ht
end
end L2
/-! != of two lists that hold the very same things; a comprehension whose turns change what was -/
namespace L2
open PySem PySem.Spec PyProof.Rows
section
variable {X : Cx}
def rNeR (K : PySem.W.Frag) (b : Bool) : R2 := fun x y H Q => ∃ (l l' : Addr) (as : List Addr), x = .ref l ∧ y = .ref l' ∧ SqL K H l (as.map V.ref) ∧ SqL K H l' (as.map V.ref) ∧ Q (.bl b) H
theorem op_neR (hu : X.A.units + 64 < cLine) : OpR X (compareOp .NotEq) (rNeR X.K false) := by
  intro pins s σ H x y v u Q I rx ry h
  obtain ⟨l, b, as, rfl, rfl, h1, h2, q⟩ := h
  cases rx
  cases ry
  obtain ⟨its, r, pl, hl⟩ := I.list h1
  obtain ⟨its2, r2, pl2, hl2⟩ := I.list h2
  obtain rfl : its2 = its := (vals_refs r2).trans (vals_refs r).symm
  refine PySem.SeqAt.RcNeAt.lists (e := fun _ => true) pl.isList pl2.isList rfl (by omega) (fun j a b => PySem.SeqAt.EqAt.same _) _ _ _ _ ?_
  have e : (List.range its2.toArray.size).all (fun _ => true) = true := List.all_eq_true.mpr fun _ _ => rfl
  rw [e]
  exact ⟨.bl false, H, I, rfl, q⟩
end
section
variable {K : PySem.W.Frag} {a : Addr} {xs : List V} {σ0 : St} {H1 : Hp} {i0 : Nat} {c : TT} {te : TE} {Q : Addr → Hp → Prop}
theorem comp_lstI (Pv : Addr → Nat → Hp → Prop) (h0 : ∀ D, H1 D = none → Pv D 0 (upd H1 D (.lst []))) (hq : ∀ D i H, Pv D i H → SqL K H a xs)
    (step : ∀ (D : Addr) (i : Nat) (x : V) (H2 : Hp) (k : VK) (k0 : Hp → Prop), xs[i]? = some x → Pv D i H2 → (∀ y H5 zs, H5 D = some (.lst zs) → zs.length < sizeLine → Pv D (i + 1) (upd H5 D (.lst (zs ++ [y]))) → k y H5) →
      c (σ0.set i0 (some x)) H2 fun b H4 => if b = true then te (σ0.set i0 (some x)) H4 k else k0 H4)
    (h : ∀ D H2, Pv D xs.length H2 → Q D H2) :
    ∀ D, H1 D = none → ∃ W : Nat → Nat → St → Hp → Prop, (∃ m, W 0 m σ0 (upd H1 D (.lst []))) ∧ ∀ i m σ1 H2, W i m σ1 H2 →
      ((Itl K a).stop i H2 ∧ Q D H2) ∨ ((Itl K a).go i H2 ∧ ∃ N : St → Hp → Prop, (∀ σ' H', N σ' H' → ∃ m', m' < m ∧ W (i + 1) m' σ' H') ∧
        ∀ x H', (Itl K a).yld i H2 x H' → gName i0 x σ1 H' fun σ2 H3 => c σ2 H3 fun b H4 => if b = true then te σ2 H4 fun y H5 => ∃ xs, H5 D = some (.lst xs) ∧ xs.length < sizeLine ∧ N σ2 (upd H5 D (.lst (xs ++ [y]))) else N σ2 H4) := by
  intro D hD
  refine ⟨fun i m σ1 H2 => σ1.set i0 none = σ0.set i0 none ∧ Pv D i H2 ∧ i ≤ xs.length ∧ m = xs.length - i, ⟨xs.length, rfl, h0 D hD, Nat.zero_le _, rfl⟩, ?_⟩
  rintro i m σ1 H2 ⟨hσ, hp, hi, rfl⟩
  have hset : ∀ v : Option V, σ1.set i0 v = σ0.set i0 v := fun v => by simpa using congrArg (fun l => List.set l i0 v) hσ
  have q2 := hq D i H2 hp
  rcases Nat.lt_or_ge i xs.length with hlt | hge
  · right
    refine ⟨⟨xs, xs[i], q2, by simp [hlt]⟩, fun σ' H' => σ'.set i0 none = σ0.set i0 none ∧ Pv D (i + 1) H', fun σ' H' ⟨a, b⟩ => ⟨xs.length - (i + 1), by omega, a, b, hlt, rfl⟩, ?_⟩
    rintro x H' ⟨rfl, hx⟩
    have hx := hx xs q2
    show c (σ1.set i0 (some x)) _ _
    rw [hset]
    exact step D i x _ _ _ hx hp fun y H5 zs e1 e2 e3 => ⟨zs, e1, e2, by simp, e3⟩
  · left
    obtain rfl : i = xs.length := Nat.le_antisymm hi hge
    exact ⟨⟨xs, q2, Nat.le_refl _⟩, h D _ hp⟩
end
end L2

set_option Elab.async false
set_option linter.all false
set_option maxRecDepth 100000
/-! a list comprehension whose own name an inner one captures -/
namespace L2
open PySem PySem.Spec PyProof.Rows
def blkC (X : Cx) (NB : List Str) (sc : Scope) (cl : List (Str × Addr)) (y0 : Str) (s₃ : Shared) (H₃ : Hp) (fp : List Addr) : Cx :=
  { X with N := NB, s₀ := s₃, H₀ := H₃, env := compEnvC sc ((y0, s₃.heap.objs.size + 1) :: cl) s₃.heap.objs.size X.env, outer := X.stack, stack := X.stack, ex := fp, fn := fun y => y == y0, pn := [], xe := fun _ _ => False }
structure BlkC (X : Cx) (NB : List Str) (pick : List (Option Nat)) (sc : Scope) (cl : List (Str × Addr)) (y0 : Str) : Prop where
  clos : closureFor sc X.env = pure cl
  kind : sc.kind = .function
  cellsB : ∀ n, cellsFrom n sc.names cl = (y0, n) :: cl
  pushB : ∀ h : Heap, pushCells h sc.names = h.push { cls := .type "cell", data := .cell none }
  names : ∀ y ∈ sc.names, y.2 = .local → sc.names.lookup y.1 = some .local
  sub : AllLk X.env.cells cl
  has : ∀ n x, ((relabel sc X.env).names.lookup x = some .cell ∨ (relabel sc X.env).names.lookup x = some .free) → ∃ c, ((y0, n) :: cl).lookup x = some c
  len : pick.length = NB.length
  got : ∀ (j i : Nat) (x : Str), pick[j]? = some (some i) → NB[j]? = some x → (X.N[i]? = some x ∧ (X.env.kindOf x = some .cell ∨ X.env.kindOf x = some .free) ∧ (relabel sc X.env).names.lookup x = some .cell) ∧ (x == y0) = false
def noneOf (y0 : Str) : List (Option Nat) → List Str → Bool
  | some _ :: p, x :: r => !(x == y0) && noneOf y0 p r
  | none :: p, _ :: r => noneOf y0 p r
  | _, _ => true
theorem noneOf_at {y0 : Str} : ∀ {p : List (Option Nat)} {r : List Str}, noneOf y0 p r = true → ∀ (j i : Nat) (x : Str), p[j]? = some (some i) → r[j]? = some x → (x == y0) = false
  | [], _, _, j, i, x, h, _ => by simp at h
  | _ :: _, [], _, j, i, x, _, h => by simp at h
  | some k :: p, y :: r, h, 0, i, x, h1, h2 => by
    have z : (!(y == y0) && noneOf y0 p r) = true := h
    rw [Bool.and_eq_true] at z
    obtain rfl : y = x := Option.some.inj h2
    simpa using z.1
  | none :: p, y :: r, h, 0, i, x, h1, h2 => by cases (Option.some.inj h1)
  | some k :: p, y :: r, h, j + 1, i, x, h1, h2 => by
    have z : (!(y == y0) && noneOf y0 p r) = true := h
    rw [Bool.and_eq_true] at z
    exact noneOf_at z.2 j i x h1 h2
  | none :: p, y :: r, h, j + 1, i, x, h1, h2 => noneOf_at (p := p) (r := r) h j i x h1 h2
theorem blkC_mk {X : Cx} {NB : List Str} {pick : List (Option Nat)} {sc : Scope} {cl : List (Str × Addr)} {y0 : Str} (clos : closureFor sc X.env = pure cl) (sub : AllLk X.env.cells cl) (kind : sc.kind = .function) (cb : ∀ n, cellsFrom n sc.names cl = (y0, n) :: cl)
    (pb : ∀ h : Heap, pushCells h sc.names = h.push { cls := .type "cell", data := .cell none }) (names : ∀ y ∈ sc.names, y.2 = .local → sc.names.lookup y.1 = some .local) (has : ∀ n, hasB ((y0, n) :: cl) (relabel sc X.env).names = true) (got : gotB X.N X.env.scope.names (relabel sc X.env).names pick NB = true) (no : noneOf y0 pick NB = true) : BlkC X NB pick sc cl y0 :=
  ⟨clos, kind, cb, pb, names, sub, fun n => hasB_of (has n), gotB_len got, fun j i x h1 h2 => ⟨gotB_of got j i x h1 h2, noneOf_at no j i x h1 h2⟩⟩
theorem no_self {n c : Nat} (h : c < n) (e : c = n + 1) : False := by omega
theorem look_cons {y0 x : Str} {n c : Addr} {cl : List (Str × Addr)} (h : ((y0, n) :: cl).lookup x = some c) : (x = y0 ∧ c = n) ∨ cl.lookup x = some c := by
  rw [List.lookup_cons] at h
  cases hx : x == y0 with
  | true =>
    rw [hx] at h
    cases h
    exact .inl ⟨by simpa using hx, rfl⟩
  | false =>
    rw [hx] at h
    exact .inr h
section
variable {M : Model} {A : Around} {E : Value → Shared → Prop} {s : Shared}
theorem newEnv_one {sc : Scope} {globals : Addr} {cl : List (Str × Addr)} {qual : Str} {out : Env} {y0 : Str} {Q : Env → Shared → Prop} (cb : ∀ n, cellsFrom n sc.names cl = (y0, n) :: cl) (pb : ∀ h : Heap, pushCells h sc.names = h.push { cls := .type "cell", data := .cell none })
    (hQ : ∀ h', h'.Ns s.heap.objs.size (fun _ => none) → h'.IsCell (s.heap.objs.size + 1) none → (∀ b o, s.heap.get? b = some o → h'.get? b = some o) →
      Q { scope := sc, locals := s.heap.objs.size, globals, cells := (y0, s.heap.objs.size + 1) :: cl, qual, func := none, code := out.code, frame := out.frame, builtins := out.builtins } { s with heap := h' }) :
    wpAny M A (newFunctionEnv sc globals cl [] qual none .none (some out)) Q E s := by
  simp only [newFunctionEnv, Option.isSome_some, if_true]
  refine wpAny_bind (wpAny_alloc ?_)
  refine wpAny_bind (wpAny_layCells _ (fun name kind cells => by cases hkc : kind == NameKind.cell <;> simp [hkc]) _ _ _ _ ?_)
  rw [cb, pb, show ({ s with heap := s.heap.push { cls := .type "dict", data := .dict #[] } } : Shared).heap.objs.size = s.heap.objs.size + 1 from Heap.size_push ..]
  refine wpAny_bind ?_
  rw [List.forIn_nil]
  refine wpAny_pure (wpAny_pure ?_)
  refine hQ _ ((Heap.Ns.new s.heap (.type "dict")).keeps fun b o e => Heap.get?_push_of_some _ e) ?_ fun b o e => Heap.get?_push_of_some _ (Heap.get?_push_of_some _ e)
  have e : (s.heap.push { cls := .type "dict", data := .dict #[] }).objs.size = s.heap.objs.size + 1 := Heap.size_push ..
  rw [← e]
  exact ⟨_, Heap.get?_push_size _ rfl, rfl⟩
end
section
variable {X : Cx} {NB : List Str} {pick : List (Option Nat)} {sc : Scope} {cl : List (Str × Addr)} {y0 : Str} {pins : List (Addr × Obj)} {σ : St} {H : Hp} {s : Shared} {fp : List Addr}
theorem sub_lt (I : Inv X pins σ H s) (B : BlkC X NB pick sc cl y0) {x : Str} {c : Addr} (h : cl.lookup x = some c) : c < s.heap.objs.size := by
  obtain ⟨v, q⟩ := I.cell x c (B.sub.of x c h)
  exact q.lt
theorem blkC_ok (I : Inv X pins σ H s) (B : BlkC X NB pick sc cl y0) (hf : ∀ b ∈ fp, FpOk X pins H b) (hex : ∀ b ∈ fp, ∃ o, s.heap.get? b = some o) : (blkC X NB sc cl y0 s H fp).Ok := by
  have nfs : ∀ b ∈ fp, b ∉ frs X.stack := fun b hb z => by
    rcases List.mem_cons.mp (I.stkSub b z) with e | e
    · exact (hf b hb).2.1 e
    · exact (hf b hb).2.2.1 e
  refine ⟨I.ok.mod, B.kind, I.ok.glob, I.ok.blt, Nat.le_refl _, fun x y c h1 h2 => ?_, fun x hx => B.has _ x hx, fun x c h e => ?_, I.ok.hd, I.ok.frames, .inl rfl, fun b hb => ⟨?_, fun x c h e => ?_⟩, I.bs, Nat.le_trans I.ok.bsz I.sz, fun b o e hb => ?_, nfs, I.stack, I.stkFree⟩
  · rcases look_cons h1 with ⟨e1, e2⟩ | e1
    · rcases look_cons h2 with ⟨f1, f2⟩ | f1
      · rw [e1, f1]
      · exact (no_self (sub_lt I B f1) e2).elim
    · rcases look_cons h2 with ⟨f1, f2⟩ | f1
      · exact (no_self (sub_lt I B e1) f2).elim
      · exact I.ok.inj x y c (B.sub.of x c e1) (B.sub.of y c f1)
  · rcases look_cons e with ⟨e1, e2⟩ | e1
    · rw [e2]
      exact Nat.le_succ _
    · have e0 : x = y0 := by simpa using (show (x == y0) = true from h)
      have z : ((y0, s.heap.objs.size + 1) :: cl).lookup x = some (s.heap.objs.size + 1) := by rw [e0, List.lookup_cons]; simp
      have e' : c = s.heap.objs.size + 1 := Option.some.inj ((show ((y0, s.heap.objs.size + 1) :: cl).lookup x = some c from e).symm.trans z)
      rw [e']
      exact Nat.le_succ _
  · obtain ⟨o, ho⟩ := hex b hb
    exact Nat.ne_of_lt (Heap.lt_size ho)
  · rcases look_cons h with ⟨e1, e2⟩ | e1
    · obtain ⟨o, ho⟩ := hex b hb
      exact (no_self (Heap.lt_size ho) (e.symm.trans e2)).elim
    · exact (hf b hb).2.2.2.2.1 x c (B.sub.of x c e1) e
  · rcases (hf b hb).2.2.2.1 with z | z
    · exact I.ok.noex b o e z
    · exact absurd (Nat.lt_of_lt_of_le (Heap.lt_size (I.ok.bs b o e).1) z) (Nat.lt_irrefl _)
theorem blkC_start {h' : Heap} (I : Inv X pins σ H s) (B : BlkC X NB pick sc cl y0) (hf : ∀ b ∈ fp, FpOk X pins H b) (hex : ∀ b ∈ fp, ∃ o, s.heap.get? b = some o)
    (hn : h'.Ns s.heap.objs.size (fun _ => none)) (hce : h'.IsCell (s.heap.objs.size + 1) none) (hs : ∀ b o, s.heap.get? b = some o → h'.get? b = some o) (t : Nat) : Inv (blkC X NB sc cl y0 s H fp) [] (pickσ pick σ) H { s with heap := h', toks := t } := by
  refine ⟨blkC_ok I B hf hex, rfl, I.bare, Un.kept hs, ⟨_, hn, fun j x v h1 h2 h3 => ?_⟩, fun x c e => ?_, I.hok.fresh (Nat.le_refl _), fun x c e => ?_, fun p hp => absurd (show p ∈ ([] : List (Addr × Obj)) from hp) (by simp), I.hok.kept hs, ?_⟩
  · have h2' : (pick.map fun o => o.bind fun i => (σ[i]?).join)[j]? = some (some v) := h2
    rw [List.getElem?_map] at h2'
    cases hp : pick[j]? with
    | none => rw [hp] at h2'; cases h2'
    | some o =>
      rw [hp] at h2'
      cases o with
      | none => cases h2'
      | some i =>
        have h2'' : (σ[i]?).join = some v := Option.some.inj h2'
        obtain ⟨⟨g1, g2, g3⟩, ny⟩ := B.got j i x hp h1
        have hσ : σ[i]? = some (some v) := by
          cases hq : σ[i]? with
          | none => rw [hq] at h2''; cases h2''
          | some z => rw [hq] at h2''; have e : z = some v := h2''; rw [e]
        obtain ⟨m, _, hl⟩ := I.loc
        obtain ⟨u, r, L⟩ := hl i x v g1 hσ (.inr g2)
        refine ⟨u, r, ?_⟩
        rcases L with ⟨k, _⟩ | ⟨_, c, hc, ⟨o, ho, hd⟩⟩
        · rcases g2 with g2 | g2 <;> rw [k] at g2 <;> cases g2
        · obtain ⟨c', hc'⟩ := B.has (s.heap.objs.size + 1) x (.inl g3)
          rcases look_cons hc' with ⟨e1, _⟩ | e1
          · rw [e1] at ny
            simp at ny
          · have e : c' = c := Option.some.inj ((B.sub.of x c' e1).symm.trans hc)
            subst e
            exact .inr ⟨.inl g3, c', hc', o, hs _ _ ho, hd⟩
  · rcases look_cons e with ⟨_, e2⟩ | e1
    · rw [e2]
      exact ⟨none, hce⟩
    · obtain ⟨v, o, ho, hd⟩ := I.cell x c (B.sub.of x c e1)
      exact ⟨v, o, hs _ _ ho, hd⟩
  · rcases look_cons e with ⟨_, e2⟩ | e1
    · rw [e2]
      exact I.hok.fresh (Nat.le_succ _)
    · exact I.freeC x c (B.sub.of x c e1)
  · show (pickσ pick σ).length = NB.length
    unfold pickσ
    rw [List.length_map]
    exact B.len
theorem blkC_end {σ' : St} {H' : Hp} {s' : Shared} (I : Inv X pins σ H s) (hf : ∀ b ∈ fp, FpOk X pins H b) (J : Inv (blkC X NB sc cl y0 s H fp) [] σ' H' s') : Inv X pins σ H' s' := by
  refine I.call' (ch := fp) J.os J.base J.hok J.bare fun b hb => ?_
  obtain ⟨_, f1, _, f3, f4, f5⟩ := hf b hb
  exact ⟨f3, f1, f4, f5⟩
end
section
variable {X : Cx} {NB : List Str} {pick : List (Option Nat)} {sc : Scope} {cl : List (Str × Addr)} {y0 : Str} {elt target iter : Expr} {ifs : List Expr} {pos : Pos} {wi : TI} {g : TG} {c : TT} {te : TE}
/-- the block, run; use: what is done with the new list ahead of the block's end -/
theorem comp_runC {pins : List (Addr × Obj)} {s : Shared} {σ : St} {H : Hp} {use : Option (Value → Sem Unit)} {Q : Addr → Hp → Prop} {QV : Value → Shared → Prop} (B : BlkC X NB pick sc cl y0) (hc : X.calm = true) (hi : PI X target iter wi)
    (hg : ∀ s₃ H₃ fp, PG (blkC X NB sc cl y0 s₃ H₃ fp) target g) (ht : ∀ s₃ H₃ fp, PIfs (blkC X NB sc cl y0 s₃ H₃ fp) ifs c) (he : ∀ s₃ H₃ fp, PE (blkC X NB sc cl y0 s₃ H₃ fp) elt te)
    (hs : ∀ x, foldedSetIterable iter X.env x = pure x) (I : Inv X pins σ H s) (h : tComp wi pick g c te σ H Q)
    (fin : ∀ (D C : Addr) (s' : Shared) (H' : Hp), Inv X pins σ H' s' → Q D H' → H' C = none → C ≠ X.env.locals → X.s₀.heap.objs.size ≤ C → (∀ x a, X.env.cells.lookup x = some a → a ≠ C) → (∀ p ∈ X.pn ++ pins, p.1 ≠ C) → (∃ m, s'.heap.Ns C m) →
      compPost (model X.prog X.w) X.A X.xe use QV (.ref D) C (.ok .next) s') :
    wpAny (model X.prog X.w) X.A (comprehension (.ListComp elt [⟨target, iter, ifs, 0⟩] sc pos) sc X.env (firstIterPos [⟨target, iter, ifs, 0⟩] pos) (newList []) false (eval iter X.env) use) QV X.xe s := by
  refine wpAny_comprehension_free rfl hs B.clos B.kind B.names (thn (hi pins s σ H _ I h) fun v s1 h1 => thn h1 fun itv s2 h2 => ?_)
  obtain ⟨it, fp, tn, J, H2, e, I2, T, st2, f2, h2⟩ := h2
  subst e
  refine wpAny_newObj_type ?_
  have I3 : Inv X pins σ (upd H2 s2.heap.objs.size (.lst [])) { s2 with heap := s2.heap.push { cls := .type "list", dict := none, data := .seq ([] : List Value).toArray } } :=
    I2.laid (t' := s2.toks) (fun b u e => Heap.get?_push_of_some _ e) (Nat.le_refl _) ⟨Nat.zero_le _, [], 0, .nil, Heap.get?_push_size _ rfl⟩
  have hf : H2 s2.heap.objs.size = none := I2.hok.fresh (Nat.le_refl _)
  have lt : ∀ b ∈ fp, b ≠ s2.heap.objs.size := fun b hb => by
    obtain ⟨o, ho, _⟩ := T.obj _ _ st2 b hb
    exact Nat.ne_of_lt (Heap.lt_size ho)
  have f3 : ∀ b ∈ fp, FpOk X pins (upd H2 s2.heap.objs.size (.lst [])) b := fun b hb => ⟨by rw [upd_ne (lt b hb)]; exact (f2 b hb).1, (f2 b hb).2⟩
  generalize hs3 : ({ s2 with heap := s2.heap.push { cls := .type "list", dict := none, data := .seq ([] : List Value).toArray } } : Shared) = s3 at I3 ⊢
  have kp3 : ∀ b o, s2.heap.get? b = some o → s3.heap.get? b = some o := fun b o e => by
    rw [← hs3]
    exact Heap.get?_push_of_some _ e
  have hex : ∀ b ∈ fp, ∃ o, s3.heap.get? b = some o := fun b hb => by
    obtain ⟨o, ho, _⟩ := T.obj _ _ st2 b hb
    exact ⟨o, kp3 b o ho⟩
  have st3 : tn 0 s3.heap := T.keep _ _ _ st2 fun b _ o e => kp3 b o e
  obtain ⟨W, ⟨m0, w0⟩, turn⟩ := h2 _ hf
  refine newEnv_one B.cellsB B.pushB (fun h₁ hns₁ hce₁ kp4 => ?_)
  have J4 := blkC_start I3 B f3 hex hns₁ hce₁ kp4 s3.toks
  have st4 : tn 0 h₁ := T.keep _ _ _ st3 fun b _ o e => kp4 b o e
  have stat : ∀ {H' : Hp}, (∀ b ∈ fp, H' b = none) → ∀ b ∈ fp, FpOk (blkC X NB sc cl y0 s3 (upd H2 s2.heap.objs.size (.lst [])) fp) [] H' b := fun {H'} hn b hb => by
    obtain ⟨o, ho⟩ := hex b hb
    refine ⟨hn b hb, Nat.ne_of_lt (Heap.lt_size ho), fun z => ?_, .inl hb, fun x a e => (look_cons e).elim (fun q z => no_self (Heap.lt_size ho) (z.symm.trans q.2)) (fun e1 => (f2 b hb).2.2.2.2.1 x a (B.sub.of x a e1)), fun p hp => absurd (show p ∈ ([] : List (Addr × Obj)) from hp) (by simp)⟩
    rcases List.mem_cons.mp (I2.stkSub b z) with e | e
    · exact (f2 b hb).2.1 e
    · exact (f2 b hb).2.2.1 e
  have loop : codeAny (model X.prog X.w) X.A (.compLoop (.ListComp elt [⟨target, iter, ifs, 0⟩] sc pos) 0 (.ref it) (.ref s2.heap.objs.size) (blkC X NB sc cl y0 s3 (upd H2 s2.heap.objs.size (.lst [])) fp).env)
      (compPost (model X.prog X.w) X.A X.xe use QV (.ref s2.heap.objs.size) s3.heap.objs.size) { s3 with heap := h₁, toks := s3.toks } := by
    refine compLoop_any (fun n s' => ∃ i σ' H', Inv (blkC X NB sc cl y0 s3 (upd H2 s2.heap.objs.size (.lst [])) fp) [] σ' H' s' ∧ tn i s'.heap ∧ (∀ b ∈ fp, H' b = none) ∧ W i n σ' H') ?_ m0 ⟨0, _, _, J4, st4, fun b hb => (f3 b hb).1, w0⟩
    rintro n s5 ⟨i, σ5, H5, I5, st5, fr5, w5⟩
    rcases turn i n σ5 H5 w5 with ⟨stop, qn⟩ | ⟨go, N, hN, step⟩
    · refine thn (T.done (blkC X NB sc cl y0 s3 (upd H2 s2.heap.objs.size (.lst [])) fp) rfl rfl rfl hc i [] s5 σ5 H5 _ I5 (stat fr5) st5 stop) fun r s6 ⟨hr, I6⟩ => ?_
      subst hr
      refine fin s2.heap.objs.size s3.heap.objs.size s6 H5 (blkC_end I3 f3 I6) qn I6.free (Nat.ne_of_lt I3.lt).symm I3.sz (fun x a e => ?_) (fun p hp => ?_) ?_
      · obtain ⟨v, o, ho, _⟩ := I3.cell x a e
        exact Nat.ne_of_lt (Heap.lt_size ho)
      · exact Nat.ne_of_lt (Heap.lt_size (I3.pin p hp).1)
      · obtain ⟨m, hn, _⟩ := I6.loc
        exact ⟨m, hn⟩
    · refine thn (T.item (blkC X NB sc cl y0 s3 (upd H2 s2.heap.objs.size (.lst [])) fp) rfl rfl rfl hc i [] s5 σ5 H5 _ I5 (stat fr5) st5 go) fun r s6 ⟨u, hr, h6⟩ => ?_
      subst hr
      refine thn h6 fun _ s7 ⟨x, H7, I7, r7, y7, st7, fr7⟩ => ?_
      have I7' := I7.pinned (stat fr7) (T.obj _ _ st7)
      have again : ∀ {s9 : Shared} {σ9 : St} {H9 : Hp}, Inv (blkC X NB sc cl y0 s3 (upd H2 s2.heap.objs.size (.lst [])) fp) ([] ++ pinsAt fp s7.heap) σ9 H9 s9 → N σ9 H9 →
          ∃ m, m < n ∧ ∃ i σ' H', Inv (blkC X NB sc cl y0 s3 (upd H2 s2.heap.objs.size (.lst [])) fp) [] σ' H' s9 ∧ tn i s9.heap ∧ (∀ b ∈ fp, H' b = none) ∧ W i m σ' H' := fun {s9 σ9 H9} I9 n9 => by
        obtain ⟨m', hm, w9⟩ := hN σ9 H9 n9
        refine ⟨m', hm, i + 1, σ9, H9, I9.unpinned, T.keep _ _ _ st7 fun b hb o e => (I9.pin (b, o) (List.mem_append_right _ (List.mem_append_right _ (mem_pinsAt hb e)))).1, fun b hb => ?_, w9⟩
        obtain ⟨o, e, d⟩ := T.obj _ _ st7 b hb
        exact (I9.pin (b, o) (List.mem_append_right _ (List.mem_append_right _ (mem_pinsAt hb e)))).2.1
      refine thn (hg _ _ _ _ s7 σ5 H7 x u _ I7' r7 (step x H7 y7)) fun _ s8 ⟨σ8, H8, I8, q8⟩ => ?_
      refine thn (ht _ _ _ _ s8 σ8 H8 _ I8 q8) fun b s9 ⟨H9, I9, q9⟩ => ?_
      cases b with
      | false =>
        rw [if_neg Bool.false_ne_true]
        exact again I9 (by rw [if_neg Bool.false_ne_true] at q9; exact q9)
      | true =>
        rw [if_pos rfl] at q9 ⊢
        refine thn (he _ _ _ _ s9 σ8 H9 _ I9 q9) fun y s10 ⟨vy, H10, I10, r10, xs, hD, hl, q10⟩ => ?_
        refine thn (mt_append _ s10 σ8 H10 (.ref s2.heap.objs.size) [vy] (.ref s2.heap.objs.size) [y] (fun _ H' => N σ8 H') I10 rfl (.cons r10 .nil) ⟨_, xs, vy, rfl, rfl, hD, hl, q10⟩) fun _ s11 ⟨_, H11, I11, _, q11⟩ => ?_
        exact again I11 q11
  refine codeAny_compStart_list loop (T.self _ 0 _ _ _ st4 loop)

/-- name = [..], on one line: the name is stored ahead of the block's end -/
theorem ps_setCC {i : Nat} {x : Str} {pos' spos : Pos} (hN : X.N.Nodup) (hx1 : X.N[i]? = some x) (hx2 : Loc X.env.scope x)
    (hsw : swapsWith (.ListComp elt [⟨target, iter, ifs, 0⟩] sc pos) (some (.Name x pos')) spos.line X.env = pure true) (B : BlkC X NB pick sc cl y0) (hc : X.calm = true) (hi : PI X target iter wi)
    (hg : ∀ s₃ H₃ fp, PG (blkC X NB sc cl y0 s₃ H₃ fp) target g) (ht : ∀ s₃ H₃ fp, PIfs (blkC X NB sc cl y0 s₃ H₃ fp) ifs c) (he : ∀ s₃ H₃ fp, PE (blkC X NB sc cl y0 s₃ H₃ fp) elt te)
    (hs : ∀ x, foldedSetIterable iter X.env x = pure x := by intro _; rfl) (hfn : X.fn x = true ∨ X.env.scope.names.lookup x = some .local := by first | exact .inl rfl | exact .inr rfl | assumption) :
    PS X (.Assign [.Name x pos'] (.ListComp elt [⟨target, iter, ifs, 0⟩] sc pos) spos) (fun D σ H => tComp wi pick g c te σ H fun l H' => D.nx (σ.set i (some (.ref l))) H') := by
  intro pins s σ H D I h
  rw [exec_Assign_Name_used _ _ _ _ hsw]
  refine wpAny_bind (wpAny_standAt (wpAny_bind ?_))
  show wpAny _ _ (do let _ ← comprehension (.ListComp elt [⟨target, iter, ifs, 0⟩] sc pos) sc X.env _ (newList []) false (eval iter X.env) (some (assign (.Name x pos') X.env))) _ _ s
  refine wpAny_bind (thn (comp_runC (use := some (assign (.Name x pos') X.env)) (QV := fun _ s' => SP X pins D .next s') B hc hi hg ht he hs I h fun l C s' H' I' q c0 c1 c2 c3 c4 hn => ?_) fun _ s' hq => wpAny_pure (wpAny_pure hq))
  obtain ⟨m, hm⟩ := hn
  show wpAny _ _ (assign (.Name x pos') X.env (.ref l)) _ _ _
  refine wpAny_assign_Name (store_ok2 (v := .ref l) I' hN hx1 hx2 rfl (fun s'' I'' ⟨a, hsb, ha⟩ => ?_) hfn)
  have ne : C ≠ a := by
    rcases ha with e | e
    · rw [e]; exact c1
    · exact (c3 x a e).symm
  refine ⟨m, hm.sameBut hsb ne, fun hh hsb2 => ?_⟩
  exact ⟨_, H', I''.turned (t' := s''.toks) (fun b o hb e => (hsb2.2 b hb).trans e) c0 c1 (.inr c2) c3 c4, q⟩
end
end L2

set_option Elab.async false
set_option linter.all false
set_option maxRecDepth 100000
set_option maxHeartbeats 8000000
namespace K12
open PySem L2
seal PE PT PW PA PS PSs PG PGs PI OpR UnR CallR PO SlR IxR MtR MtM PIfs PSet PIp PGet
def top (i : Nat) : Stmt := PySem.Challenge.pw_shareparley_k12_a_company.main.body.getD i (.Pass ⟨0, 0, 0, 0⟩)
abbrev sNum : Stmt := top 15
abbrev sWith : Stmt := top 16
abbrev sChM : Stmt := top 17
abbrev sWC : Stmt := top 20
abbrev sChk : Stmt := top 21
abbrev sHnd : Stmt := top 22
abbrev sIsT : Stmt := top 28
abbrev sHin : Stmt := top 29
abbrev sCkN : Stmt := top 31
abbrev sCkP : Stmt := top 32
abbrev sSrt : Stmt := top 33
abbrev sHB : Stmt := top 34
abbrev sSoH : Stmt := top 35
abbrev sWho : Stmt := top 42
abbrev sCel : Stmt := top 43
abbrev sNb : Stmt := top 44
abbrev sLRu : Stmt := top 45
abbrev sLRs : Stmt := top 46
abbrev sLEa : Stmt := top 47
abbrev sLOb : Stmt := top 48
abbrev sLHo : Stmt := top 49
abbrev sNoG : Stmt := top 50
abbrev sNoR : Stmt := top 51
abbrev sRef : Stmt := top 52
abbrev sLaw : Stmt := top 53
abbrev sRI : Stmt := inClass (top 36) 0
abbrev sHs : Stmt := inClass (top 36) 1
abbrev sErn : Stmt := inClass (top 36) 2
abbrev sRR : Stmt := inClass (top 36) 3
abbrev sOI : Stmt := inClass (top 37) 0
abbrev sOR : Stmt := inClass (top 37) 1
abbrev sPI : Stmt := inClass (top 40) 0
abbrev sPR : Stmt := inClass (top 40) 1
abbrev sPaI : Stmt := inClass (top 38) 0
abbrev sPaR : Stmt := inClass (top 38) 1
abbrev sVI : Stmt := inClass (top 39) 0
abbrev sVR : Stmt := inClass (top 39) 1
abbrev sCI : Stmt := inClass (top 25) 0
abbrev sCH : Stmt := inClass (top 25) 1
abbrev sCE : Stmt := inClass (top 25) 2
abbrev sCT : Stmt := inClass (top 25) 3
theorem inB_natM {v : V} {m : Nat} (h1 : inB 0 (2 ^ m - 1) v = true) : ∃ g : Nat, v = .int (g : Int) ∧ g < 2 ^ m := by
  cases v with
  | int i =>
    have z : (decide (0 ≤ i) && decide (i ≤ 2 ^ m - 1)) = true := h1
    rw [Bool.and_eq_true] at z
    have z1 := of_decide_eq_true z.1
    have z2 := of_decide_eq_true z.2
    have e : ((2 ^ m : Nat) : Int) = 2 ^ m := by push_cast; rfl
    exact ⟨i.toNat, by rw [Int.toNat_of_nonneg z1], by omega⟩
  | _ => exact (Bool.false_ne_true h1).elim
theorem nat_inB {g m : Nat} (hg : g < 2 ^ m) : inB 0 (2 ^ m - 1) (.int (g : Int)) = true := by
  show (decide (0 ≤ (g : Int)) && decide ((g : Int) ≤ 2 ^ m - 1)) = true
  have e : ((2 ^ m : Nat) : Int) = 2 ^ m := by push_cast; rfl
  rw [decide_eq_true (by omega), decide_eq_true (by omega)]
  rfl
def aloneL : List Int := [1, 2, 4, 8, 16, 32]
def alone (i : Nat) : Int := aloneL.getD i 0
def handF (g : Nat) (i : Nat) : Option V := if Builtin.bitAnd (g : Int) (alone i) = 0 then none else some (.int (i : Int))
def hN (g : Nat) : Nat → List Int
  | 0 => []
  | i + 1 => if g / 2 ^ i % 2 = 1 then hN g i ++ [(i : Int)] else hN g i
def hands (g : Nat) : List Int := hN g 6
theorem hands_comp : ∀ g : _root_.Fin 64, (List.range 6).filterMap (handF g.1) = (hands g.1).map V.int := by decide +kernel
theorem hN_len (g : Nat) : ∀ i, (hN g i).length ≤ i
  | 0 => Nat.le_refl _
  | i + 1 => by
    have h := hN_len g i
    unfold hN
    split
    · rw [List.length_append, List.length_singleton]; omega
    · omega
theorem hN_in2 {g m : Nat} (hg : g < 2 ^ m) : ∀ (i : Nat) (x : Int), x ∈ hN g i → 0 ≤ x ∧ x < m
  | 0, x, h => by cases h
  | i + 1, x, h => by
    unfold hN at h
    split at h
    · rename_i hb
      rcases List.mem_append.mp h with h | h
      · exact hN_in2 hg i x h
      · have : x = (i : Int) := by simpa using h
        rcases Nat.lt_or_ge i m with z | z
        · omega
        · have : g / 2 ^ i = 0 := Nat.div_eq_of_lt (Nat.lt_of_lt_of_le hg (Nat.pow_le_pow_right (by decide) z))
          omega
    · exact hN_in2 hg i x h
/-- the sum of the numbers of a group's hands -/
def preS (ns : List Int) (g : Nat) : Nat → Int
  | 0 => 0
  | i + 1 => if g / 2 ^ i % 2 = 1 then preS ns g i + ns.getD i 0 else preS ns g i
def sumH (ns : List Int) (g : Nat) : Int := preS ns g ns.length
theorem preS_stop {ns : List Int} {g m : Nat} (hg : g < 2 ^ m) : ∀ k, preS ns g (m + k) = preS ns g m
  | 0 => rfl
  | k + 1 => by
    have : g / 2 ^ (m + k) = 0 := Nat.div_eq_of_lt (Nat.lt_of_lt_of_le hg (Nat.pow_le_pow_right (by decide) (by omega)))
    show (if g / 2 ^ (m + k) % 2 = 1 then _ else preS ns g (m + k)) = _
    rw [if_neg (by omega)]
    exact preS_stop hg k
theorem preS_hN (ns : List Int) (g : Nat) : ∀ i, ((hN g i).map fun h => ns.getD h.toNat 0).sum = preS ns g i
  | 0 => rfl
  | i + 1 => by
    unfold hN preS
    split
    · rw [List.map_append, List.sum_append, preS_hN ns g i]
      simp
    · exact preS_hN ns g i
theorem sumH_hands {ns : List Int} {g : Nat} (hl : ns.length ≤ 6) (hg : g < 2 ^ ns.length) : ((hands g).map fun h => ns.getD h.toNat 0).sum = sumH ns g := by
  unfold hands
  rw [preS_hN]
  obtain ⟨k, hk⟩ : ∃ k, 6 = ns.length + k := ⟨6 - ns.length, by omega⟩
  rw [hk]
  exact preS_stop hg k
theorem cut_lo (xs : List V) (n : Nat) : cutV xs (some (n : Int)) none = xs.drop n := by
  unfold cutV
  rw [HT.sIx_nat, HT.sIx_none]
  rcases Nat.le_total n xs.length with h | h
  · rw [Nat.min_eq_left h]
    exact List.take_of_length_le (by rw [List.length_drop]; omega)
  · rw [Nat.min_eq_right h, List.drop_length, List.drop_of_length_le h]
    simp
theorem cut_hi (xs : List V) (n : Nat) : cutV xs none (some (n : Int)) = xs.take n := by
  unfold cutV
  rw [HT.sIx_nat, HT.sIx_none, List.drop_zero, Nat.sub_zero]
  rcases Nat.le_total n xs.length with h | h
  · rw [Nat.min_eq_left h]
  · rw [Nat.min_eq_right h, List.take_length, List.take_of_length_le h]
theorem pow6 {m : Nat} (h : m ≤ 6) : 2 ^ m ≤ 64 := Nat.pow_le_pow_right (n := 2) (by decide) h
theorem pl_ints {K : PySem.W.Frag} {H : Hp} {ns : List Int} : ∀ u ∈ ns.map V.int, Pl K H u := fun u hu => by
  obtain ⟨x, _, rfl⟩ := List.mem_map.mp hu
  exact .int x
theorem all_ints (ns : List Int) : (ns.map V.int).all isI = true := by
  induction ns with
  | nil => rfl
  | cons n r ih => exact ih
theorem fm_congr {α β : Type} {f g : α → Option β} : ∀ {l : List α}, (∀ x ∈ l, f x = g x) → l.filterMap f = l.filterMap g
  | [], _ => rfl
  | x :: r, h => by
    rw [List.filterMap_cons, List.filterMap_cons, h x (by simp), fm_congr fun y hy => h y (by simp [hy])]
def lensL : List Int := [1, 2, 4, 8, 16, 32, 64]
/-! ### a rule, as an object -/
/-- what of the text a kind of rule has -/
structure RC (K : PySem.W.Frag) (fE fH RU C g : Addr) : Prop where
  oc : OCls K C
  nm : NoAttr K C "many"
  me : Meth K C "earn" fE
  mh : Meth K C "hands" fH
  mr : Meth K C "reckon" g
  isR : PySem.W.kitOne K (.ref C) (.ref RU) = some true
def noMeth (fs : List (Str × V)) : Prop := fs.lookup ("earn" : Str) = none ∧ fs.lookup ("hands" : Str) = none ∧ fs.lookup ("reckon" : Str) = none
/-- the object at a is a rule for m hands whose groups earn e -/
def RObj (P : Program) (w : World) (K : PySem.W.Frag) (mg : Str → Option Value) (base : Heap) (fE fH RU : Addr) (H : Hp) (a : Addr) (m : Nat) (e : Nat → Int) : Prop :=
  ∃ (C dx g : Addr) (fs : List (Str × V)), H a = some (.ins C dx fs) ∧ RC K fE fH RU C g ∧ fs.lookup ("many" : Str) = some (.int (m : Int)) ∧ 1 ≤ m ∧ m ≤ 6 ∧ noMeth fs ∧
    ∃ ps, Md P w K mg base 6 ps (fun vs H2 Q _ => ∃ gr : Nat, vs = [.ref a, .int (gr : Int)] ∧ gr < 2 ^ m ∧ Same H H2 ∧ ∀ H3, Same H2 H3 → Q (.int (e gr)) H3) g
theorem RObj.same {P : Program} {w : World} {K : PySem.W.Frag} {mg : Str → Option Value} {base : Heap} {fE fH RU : Addr} {H H' : Hp} {a : Addr} {m : Nat} {e : Nat → Int} (r : RObj P w K mg base fE fH RU H a m e) (s : Same H H') : RObj P w K mg base fE fH RU H' a m e := by
  obtain ⟨C, dx, g, fs, h1, h2, h3, h4, h5, h6, ps, h7⟩ := r
  exact ⟨C, dx, g, fs, s _ _ h1, h2, h3, h4, h5, h6, ps, h7.imp fun vs H2 Q _ ⟨gr, a, b, c, d⟩ => ⟨gr, a, b, s.trans c, d⟩⟩
def okN (xs : List V) : Bool := decide (1 ≤ xs.length) && decide (xs.length ≤ 6) && xs.all isI
theorem inB_16 (n : Nat) : inB 1 6 (.int (n : Int)) = (decide (1 ≤ n) && decide (n ≤ 6)) := by
  show (decide (1 ≤ (n : Int)) && decide ((n : Int) ≤ 6)) = _
  rw [Bool.eq_iff_iff, Bool.and_eq_true, Bool.and_eq_true, decide_eq_true_iff, decide_eq_true_iff, decide_eq_true_iff, decide_eq_true_iff]
  omega
structure CC (K : PySem.W.Frag) (RU C fe fh ft : Addr) : Prop where
  oc : OCls K C
  nm : NoAttr K C "many"
  nr : NoAttr K C "rules"
  me : Meth K C "earn" fe
  mh : Meth K C "hands" fh
  mt : Meth K C "table" ft
  noR : PySem.W.kitOne K (.ref C) (.ref RU) = some false
structure T (K : PySem.W.Frag) (mg : Str → Option Value) (AL LN RU OW PL PA VO CO fE fH rR rO rP rA rV iR iO iP iA iV iC cH cE cT SE NG NN NO NR NL NS NT NX NV TM UL : Addr) : Prop where
  b_isi : mg "isinstance" = none
  b_int : mg "int" = none
  b_bool : mg "bool" = none
  b_range : mg "range" = none
  b_len : mg "len" = none
  b_list : mg "list" = none
  b_ve : mg "ValueError" = none
  b_sum : mg "sum" = none
  b_all : mg "all" = none
  b_any : mg "any" = none
  b_sorted : mg "sorted" = none
  b_tuple : mg "tuple" = none
  b_max : mg "max" = none
  b_min : mg "min" = none
  b_abs : mg "abs" = none
  b_enum : mg "enumerate" = none
  mAL : mg "ALONE" = some (.ref AL)
  al : ∀ H : Hp, SqT K H AL (aloneL.map V.int)
  mLN : mg "LENGTHS" = some (.ref LN)
  ln : ∀ H : Hp, SqT K H LN (lensL.map V.int)
  tyL : ∃ o, K.lookup LN = some o ∧ o.cls = .type "tuple" ∧ o.dict = none
  mr : ∃ tk, mg "MOST_RULES" = some (.int 12 tk)
  mRU : mg "Rule" = some (.ref RU)
  rRU : RC K fE fH RU RU rR
  kRU : Mk K RU iR
  mOW : mg "Own" = some (.ref OW)
  rOW : RC K fE fH RU OW rO
  kOW : Mk K OW iO
  nOW : NoAttr K OW "numbers"
  mPL : mg "Plain" = some (.ref PL)
  rPL : RC K fE fH RU PL rP
  kPL : Mk K PL iP
  nPL : NoAttr K PL "earnings"
  mPA : mg "Pairs" = some (.ref PA)
  rPA : RC K fE fH RU PA rA
  kPA : Mk K PA iA
  nPA : NoAttr K PA "pairs"
  mVO : mg "Votes" = some (.ref VO)
  rVO : RC K fE fH RU VO rV
  kVO : Mk K VO iV
  nVO : NoAttr K VO "quota"
  nVO1 : NoAttr K VO "prize"
  nVO2 : NoAttr K VO "weights"
  mCO : mg "Company" = some (.ref CO)
  rCO : CC K RU CO cE cH cT
  kCO : Mk K CO iC
  xRI : ∃ fd, Mx K "__init__" "Rule.__init__" sRI ["self", "many"] iR fd
  xH : ∃ fd, Mx K "hands" "Rule.hands" sHs ["self"] fH fd
  xE : ∃ fd, Mx K "earn" "Rule.earn" sErn ["self", "group"] fE fd
  xRR : ∃ fd, Mx K "reckon" "Rule.reckon" sRR ["self", "group"] rR fd
  xOI : ∃ fd, Mx K "__init__" "Own.__init__" sOI ["self", "numbers"] iO fd
  xOR : ∃ fd, Mx K "reckon" "Own.reckon" sOR ["self", "group"] rO fd
  xPI : ∃ fd, Mx K "__init__" "Plain.__init__" sPI ["self", "table"] iP fd
  xPR : ∃ fd, Mx K "reckon" "Plain.reckon" sPR ["self", "group"] rP fd
  xPaI : ∃ fd, Mx K "__init__" "Pairs.__init__" sPaI ["self", "many", "pairs"] iA fd
  xPaR : ∃ fd, Mx K "reckon" "Pairs.reckon" sPaR ["self", "group"] rA fd
  xVI : ∃ fd, Mx K "__init__" "Votes.__init__" sVI ["self", "quota", "prize", "weights"] iV fd
  xVR : ∃ fd, Mx K "reckon" "Votes.reckon" sVR ["self", "group"] rV fd
  xCI : ∃ fd, Mx K "__init__" "Company.__init__" sCI ["self", "many", "rules"] iC fd
  xCHs : ∃ fd, Mx K "hands" "Company.hands" sCH ["self"] cH fd
  xCEn : ∃ fd, Mx K "earn" "Company.earn" sCE ["self", "group"] cE fd
  xCTb : ∃ fd, Mx K "table" "Company.table" sCT ["self"] cT fd
  cRI : CMeth K RU "__init__" iR
  mSE : mg "ShareError" = some (.ref SE)
  mNG : mg "NoGroup" = some (.ref NG)
  mNN : mg "NoNumber" = some (.ref NN)
  mNO : mg "NoOrder" = some (.ref NO)
  mNR : mg "NoRows" = some (.ref NR)
  mNL : mg "NoRule" = some (.ref NL)
  mNS : mg "NoShares" = some (.ref NS)
  mNT : mg "NoTable" = some (.ref NT)
  mNX : mg "NoText" = some (.ref NX)
  mNV : mg "NoVotes" = some (.ref NV)
  mTM : mg "TooMany" = some (.ref TM)
  mUL : mg "Unlike" = some (.ref UL)
  cSE : ExcCls K SE
  cNG : ExcCls K NG
  cNL : ExcCls K NL
  xNG : PySem.W.excIn K NG bmV "ValueError.__new__" = true
  up : PySem.W.mroIn K NG (.ref SE) = some true
  k1 : PySem.W.kitOne K (.ref NG) (.ref NG) = some true
  k2 : PySem.W.kitOne K (.ref NG) (.type "ValueError") = some true
  k3 : PySem.W.kitAny K (.ref NG) [.ref NN, .ref NO, .ref NR, .ref NL, .ref NS] = some false
  k4 : PySem.W.kitAny K (.ref NG) [.ref NT, .ref NX, .ref NV, .ref TM, .ref UL] = some false
  xNL : PySem.W.excIn K NL bmV "ValueError.__new__" = true
  upL : PySem.W.mroIn K NL (.ref SE) = some true
  k1L : PySem.W.kitOne K (.ref NL) (.ref NL) = some true
  k2L : PySem.W.kitOne K (.ref NL) (.type "ValueError") = some true
  k3L : PySem.W.kitAny K (.ref NL) [.ref NG, .ref NN, .ref NO, .ref NR, .ref NS] = some false
  k4L : PySem.W.kitAny K (.ref NL) [.ref NT, .ref NX, .ref NV, .ref TM, .ref UL] = some false
  xNT : PySem.W.excIn K NT bmV "ValueError.__new__" = true

section
variable {P : Program} {w : World} {K : PySem.W.Frag} {mg : Str → Option Value} {base : Heap} {AL LN RU OW PL PA VO CO fE fH rR rO rP rA rV iR iO iP iA iV iC cH cE cT SE NG NN NO NR NL NS NT NX NV TM UL : Addr} {f : Addr} {fd : FuncData}
/-! ### is_number -/
def spNum (K : PySem.W.Frag) : Sp := fun vs H Q _ => ∃ v, vs = [v] ∧ Pl K H v ∧ Q (.bl (isI v)) H
theorem scNum : FnScope ["thing"] ["thing"] (defScope sNum) := ⟨rfl, rfl, rfl, by decide +kernel, rfl, by decide +kernel, by decide +kernel⟩
theorem ok_num (t : Tx K mg "is_number" sNum ["thing"] f fd) (T : T K mg AL LN RU OW PL PA VO CO fE fH rR rO rP rA rV iR iO iP iA iV iC cH cE cT SE NG NN NO NR NL NS NT NX NV TM UL) : Df P w K mg base CX0 1 "is_number" ["thing"] (spNum K) f fd := by
  refine t.df0 scNum (fun vs H Q E h => ?_) (fun cdv A outer s H vs Q E hr h => ?_)
  · obtain ⟨v, rfl, _⟩ := h
    rfl
  · obtain ⟨v, rfl, pl, k⟩ := h
    obtain ⟨Ty, ty, kd⟩ := pl.ex
    -- return isinstance(thing, int) and not isinstance(thing, bool)
    refine ⟨_, pss_one (ps_ret (pe_and (pe_callB call_isi (by rfl) T.b_isi bt_isi (pa_cons (pv 0) (pa_cons (pe_bltn (v := .ty "int") (by rfl) T.b_int bt_int rfl) pa_nil)))
      (pe_one (pe_not (pe_callB call_isi (by rfl) T.b_isi bt_isi (pa_cons (pv 0) (pa_cons (pe_bltn (v := .ty "bool") (by rfl) T.b_bool bt_bool rfl) pa_nil))))))), ?_⟩
    refine ⟨_, rfl, v, .ty "int", _, _, _, rfl, rfl, .of ty, kd.int_ K, _, rfl, ?_⟩
    refine ite2 (fun h1 => ?_) (fun h1 => ?_)
    · refine ⟨_, rfl, v, .ty "bool", _, _, _, rfl, rfl, .of ty, kd.bool_ K, _, rfl, ?_⟩
      have e : (!(Ty == "bool")) = isI v := by
        rw [Pl.isI ty]
        cases kd <;> first | rfl | (exact absurd h1 (by decide))
      rw [e]
      exact k
    · have e : false = isI v := by
        rw [Pl.isI ty]
        cases kd <;> first | rfl | (exact absurd rfl h1)
      rw [e]
      exact k


/-! ### is_number_within -/
def spWith (K : PySem.W.Frag) : Sp := fun vs H Q _ => ∃ (v : V) (lo hi : Int), vs = [v, .int lo, .int hi] ∧ Pl K H v ∧ Q (.bl (inB lo hi v)) H
theorem scWith : FnScope ["thing", "least", "most"] ["thing", "least", "most"] (defScope sWith) := ⟨rfl, rfl, rfl, by decide +kernel, rfl, by decide +kernel, by decide +kernel⟩
theorem ok_with {f1 : Addr} {fd1 : FuncData} (t : Tx K mg "is_number_within" sWith ["thing", "least", "most"] f fd) (D : Df P w K mg base CX0 1 "is_number" ["thing"] (spNum K) f1 fd1) :
    Df P w K mg base CX0 2 "is_number_within" ["thing", "least", "most"] (spWith K) f fd := by
  refine t.df0 scWith (fun vs H Q E h => ?_) (fun cdv A outer s H vs Q E hr h => ?_)
  · obtain ⟨v, lo, hi, rfl, _⟩ := h
    rfl
  · obtain ⟨v, lo, hi, rfl, pl, k⟩ := h
    -- return is_number(thing) and least <= thing <= most
    refine ⟨_, pss_one (ps_ret (pe_and (pe_d0 D hr (Nat.le_refl _) (by rfl) (pa_cons (pv 0) pa_nil)) (pe_one (pe_chain op_le op_le (pv 1) (pv 0) (pv 2))))), ?_⟩
    refine ⟨_, rfl, v, rfl, pl, _, rfl, ?_⟩
    cases v with
    | int i =>
      refine iteT ⟨_, rfl, _, rfl, lo, i, rfl, rfl, _, rfl, ?_⟩
      refine ite2 (fun h1 => ⟨_, rfl, i, hi, rfl, rfl, ?_⟩) (fun h1 => ?_)
      · have e : decide (i ≤ hi) = inB lo hi (.int i) := by
          show _ = (decide (lo ≤ i) && decide (i ≤ hi))
          rw [h1, Bool.true_and]
        show Q (.bl (decide (i ≤ hi))) H
        rw [e]
        exact k
      · have e : false = inB lo hi (.int i) := by
          show _ = (decide (lo ≤ i) && decide (i ≤ hi))
          rw [Bool.eq_false_iff.mpr h1, Bool.false_and]
        rw [e]
        exact k
    | _ => exact iteF k


/-! ### _law_whole -/
theorem scWho : FnScope ["_law_found"] ["_law_found"] (defScope sWho) := ⟨rfl, rfl, rfl, by decide +kernel, rfl, by decide +kernel, by decide +kernel⟩
theorem ok_who (t : Tx K mg "_law_whole" sWho ["_law_found"] f fd) (T : T K mg AL LN RU OW PL PA VO CO fE fH rR rO rP rA rV iR iO iP iA iV iC cH cE cT SE NG NN NO NR NL NS NT NX NV TM UL) : Df P w K mg base CX0 1 "_law_whole" ["_law_found"] (spNum K) f fd := by
  refine t.df0 scWho (fun vs H Q E h => ?_) (fun cdv A outer s H vs Q E hr h => ?_)
  · obtain ⟨v, rfl, _⟩ := h
    rfl
  · obtain ⟨v, rfl, pl, k⟩ := h
    obtain ⟨Ty, ty, kd⟩ := pl.ex
    refine ⟨_, pss_one (ps_ret (pe_and (pe_callB call_isi (by rfl) T.b_isi bt_isi (pa_cons (pv 0) (pa_cons (pe_bltn (v := .ty "int") (by rfl) T.b_int bt_int rfl) pa_nil)))
      (pe_one (pe_not (pe_callB call_isi (by rfl) T.b_isi bt_isi (pa_cons (pv 0) (pa_cons (pe_bltn (v := .ty "bool") (by rfl) T.b_bool bt_bool rfl) pa_nil))))))), ?_⟩
    refine ⟨_, rfl, v, .ty "int", _, _, _, rfl, rfl, .of ty, kd.int_ K, _, rfl, ?_⟩
    refine ite2 (fun h1 => ?_) (fun h1 => ?_)
    · refine ⟨_, rfl, v, .ty "bool", _, _, _, rfl, rfl, .of ty, kd.bool_ K, _, rfl, ?_⟩
      have e : (!(Ty == "bool")) = isI v := by
        rw [Pl.isI ty]
        cases kd <;> first | rfl | (exact absurd h1 (by decide))
      rw [e]
      exact k
    · have e : false = isI v := by
        rw [Pl.isI ty]
        cases kd <;> first | rfl | (exact absurd rfl h1)
      rw [e]
      exact k


/-! ### check_many -/
def spChM (K : PySem.W.Frag) (NL : Addr) : Sp := fun vs H Q E => ∃ v, vs = [v] ∧ Pl K H v ∧ if inB 1 6 v = true then Q .non H else E (.ref NL) none H
theorem scChM : FnScope ["many"] ["many"] (defScope sChM) := ⟨rfl, rfl, rfl, by decide +kernel, rfl, by decide +kernel, by decide +kernel⟩
theorem ok_chm {f1 : Addr} {fd1 : FuncData} (t : Tx K mg "check_many" sChM ["many"] f fd) (T : T K mg AL LN RU OW PL PA VO CO fE fH rR rO rP rA rV iR iO iP iA iV iC cH cE cT SE NG NN NO NR NL NS NT NX NV TM UL) (D_is_number_within : Df P w K mg base CX0 2 "is_number_within" ["thing", "least", "most"] (spWith K) f1 fd1) :
    Df P w K mg base (CX1 P w) 3 "check_many" ["many"] (spChM K NL) f fd := by
  refine t.df1 scChM (fun vs H Q E h => ?_) (fun cdv A outer s H vs Q E hr h => ?_)
  · obtain ⟨v, rfl, _⟩ := h
    rfl
  · obtain ⟨v, rfl, pl, k⟩ := h
    refine ⟨_, (pss_one (ps_if (pt_not (pt_val (pe_d0 D_is_number_within hr (by decide) (by rfl) (pa_cons (pv 0) (pa_cons pe_int (pa_cons pe_int pa_nil)))))) (pss_one (ps_raise rais_def rfl (by rfl) T.mNL T.xNL (pa_cons pe_str pa_nil))) pss_nil)), ?_⟩
    refine ⟨_, rfl, v, 1, 6, rfl, pl, _, rfl, ?_⟩
    cases e : inB 1 6 v with
    | true =>
      rw [e, if_pos rfl] at k
      exact iteF k
    | false =>
      rw [e, if_neg Bool.false_ne_true] at k
      exact iteT ⟨by show 1 ≤ sizeLine; decide, k⟩
/-! ### whole_company -/
def spWC : Sp := fun vs H Q _ => ∃ m : Nat, vs = [.int (m : Int)] ∧ m ≤ 6 ∧ ∀ H', Same H H' → Q (.int (2 ^ m - 1)) H'
theorem alone_sum : ∀ m : _root_.Fin 7, (aloneL.take m.1).sum = 2 ^ m.1 - 1 := by decide
theorem scWC : FnScope ["many"] ["many"] (defScope sWC) := ⟨rfl, rfl, rfl, by decide +kernel, rfl, by decide +kernel, by decide +kernel⟩
theorem ok_wc (t : Tx K mg "whole_company" sWC ["many"] f fd) (T : T K mg AL LN RU OW PL PA VO CO fE fH rR rO rP rA rV iR iO iP iA iV iC cH cE cT SE NG NN NO NR NL NS NT NX NV TM UL) : Df P w K mg base CX0 1 "whole_company" ["many"] spWC f fd := by
  refine t.df0 scWC (fun vs H Q E h => ?_) (fun cdv A outer s H vs Q E hr h => ?_)
  · obtain ⟨m, rfl, _⟩ := h
    rfl
  · obtain ⟨m, rfl, hm, k⟩ := h
    refine ⟨_, (pss_one (ps_ret (pe_callB (call_sum rfl) (by rfl) T.b_sum bt_sum (pa_cons (pe_slice sl_tupA (pe_glob (v := .ref AL) (by rfl) T.mAL rfl) po_none (po_some (pv 0))) pa_nil)))), ?_⟩
    refine ⟨_, rfl, _, rfl, AL, _, rfl, T.al _, fun p H' s hq => ⟨p, aloneL.take m, rfl, .inr ?_, ?_⟩⟩
    · rw [cut_hi, ← List.map_take] at hq
      exact hq
    · rw [alone_sum ⟨m, by omega⟩]
      exact k H' s
/-! ### check_group -/
def spChk (K : PySem.W.Frag) (NG : Addr) : Sp := fun vs H Q E => ∃ (v : V) (m : Nat), vs = [v, .int (m : Int)] ∧ m ≤ 6 ∧ Pl K H v ∧ (inB 0 (2 ^ m - 1) v = false → ∀ H', Same H H' → E (.ref NG) none H') ∧ (inB 0 (2 ^ m - 1) v = true → ∀ H', Same H H' → Q .non H')
theorem scChk : FnScope ["group", "many"] ["group", "many"] (defScope sChk) := ⟨rfl, rfl, rfl, by decide +kernel, rfl, by decide +kernel, by decide +kernel⟩
theorem ok_chk {f1 f2 : Addr} {fd1 fd2 : FuncData} (t : Tx K mg "check_group" sChk ["group", "many"] f fd) (T : T K mg AL LN RU OW PL PA VO CO fE fH rR rO rP rA rV iR iO iP iA iV iC cH cE cT SE NG NN NO NR NL NS NT NX NV TM UL) (D_is_number_within : Df P w K mg base CX0 2 "is_number_within" ["thing", "least", "most"] (spWith K) f1 fd1)
    (D_whole_company : Df P w K mg base CX0 1 "whole_company" ["many"] spWC f2 fd2) : Df P w K mg base (CX1 P w) 3 "check_group" ["group", "many"] (spChk K NG) f fd := by
  refine t.df1 scChk (fun vs H Q E h => ?_) (fun cdv A outer s H vs Q E hr h => ?_)
  · obtain ⟨v, m, rfl, _⟩ := h
    rfl
  · obtain ⟨v, m, rfl, hm, pl, k0, k⟩ := h
    refine ⟨_, (pss_one (ps_if (pt_not (pt_val (pe_d0 D_is_number_within hr (by decide) (by rfl) (pa_cons (pv 0) (pa_cons pe_int (pa_cons (pe_d0 D_whole_company hr (by decide) (by rfl) (pa_cons (pv 1) pa_nil)) pa_nil)))))) (pss_one (ps_raise rais_def rfl (by rfl) T.mNG T.xNG (pa_cons pe_str pa_nil))) pss_nil)), ?_⟩
    refine ⟨_, rfl, _, rfl, m, rfl, hm, fun H' s => ⟨v, 0, _, rfl, pl.same s, _, rfl, ?_⟩⟩
    cases e : inB 0 (2 ^ m - 1) v with
    | true => exact iteF (k e H' s)
    | false => exact iteT ⟨by show 1 ≤ sizeLine; decide, k0 e H' s⟩
theorem alone_at {i : Int} (h0 : 0 ≤ i) (h5 : i ≤ 5) : atI (aloneL.map V.int) i = some (.int (alone i.toNat)) := by
  have h : i.toNat < 6 := by omega
  have all : ∀ j : _root_.Fin 6, (aloneL.map V.int)[j.1]? = some (.int (alone j.1)) := by decide
  have z := atI_nat (all ⟨i.toNat, h⟩)
  rw [show (((⟨i.toNat, h⟩ : _root_.Fin 6).1 : Nat) : Int) = i from Int.toNat_of_nonneg h0] at z
  exact z
/-! ### hands_of -/
def spHnd (K : PySem.W.Frag) (NG : Addr) : Sp := fun vs H Q E => ∃ v, vs = [v] ∧ Pl K H v ∧ (inB 0 (2 ^ 6 - 1) v = false → ∀ H', Same H H' → E (.ref NG) none H') ∧
  ∀ (g : Nat) (l : Addr) (H' : Hp), v = .int (g : Int) → g < 64 → H l = none → Same H H' → H' l = some (.lst ((hands g).map V.int)) → Q (.ref l) H'
theorem scHnd : FnScope ["group"] ["group"] (defScope sHnd) := ⟨rfl, rfl, rfl, by decide +kernel, rfl, by decide +kernel, by decide +kernel⟩
theorem ok_hnd {f1 : Addr} {fd1 : FuncData} (t : Tx K mg "hands_of" sHnd ["group"] f fd) (T : T K mg AL LN RU OW PL PA VO CO fE fH rR rO rP rA rV iR iO iP iA iV iC cH cE cT SE NG NN NO NR NL NS NT NX NV TM UL) (D_check_group : Df P w K mg base (CX1 P w) 3 "check_group" ["group", "many"] (spChk K NG) f1 fd1) :
    Df P w K mg base (CX1 P w) 4 "hands_of" ["group"] (spHnd K NG) f fd := by
  refine t.df1 scHnd (fun vs H Q E h => ?_) (fun cdv A outer s H vs Q E hr h => ?_)
  · obtain ⟨v, rfl, _⟩ := h
    rfl
  · obtain ⟨v, rfl, pl, k0, k⟩ := h
    refine ⟨_, (pss_cons (ps_expr (pe_d1 rais_def.toPass D_check_group hr (by decide) (by rfl) (pa_cons (pv 0) (pa_cons (pe_callB call_len_seq (by rfl) T.b_len bt_len (pa_cons (pe_glob (v := .ref AL) (by rfl) T.mAL rfl) pa_nil)) pa_nil))))
      (pss_one (ps_ret (pe_comp (NB := ["hand", "group"]) (pick := [none, some 0]) (blk_mk (by with_unfolding_all rfl) (by exact (And.intro rfl trivial)) rfl (by decide +kernel) (by decide +kernel) (by rfl) (by rfl)) rfl
          (pi_range1 (by rfl) T.b_range (pa_cons (pe_callB call_len_seq (by rfl) T.b_len bt_len (pa_cons (pe_glob (v := .ref AL) (by rfl) T.mAL rfl) pa_nil)) pa_nil)) (fun _ _ _ => pg_name (i := 0) (show (["hand", "group"] : List Str).Nodup from by decide +kernel) rfl (Or.inl rfl))
          (fun _ _ _ => pif_one (pt_cmpR op_ne (pe_op op_and (pv 1) (pe_ix (ix_tupK K) (pe_glob (v := .ref AL) (by rfl) T.mAL rfl) (pv 0) (fun _ _ => rfl))) pe_int (nomark _))) (fun _ _ _ => (pv 0)))))), ?_⟩
    refine ⟨_, rfl, AL, _, rfl, .inr (T.al _), v, 6, rfl, by decide, pl, k0, fun h1 H' s1 => ?_⟩
    obtain ⟨g, rfl, hg⟩ := inB_natM h1
    have hg : g < 64 := hg
    refine ⟨AL, _, rfl, .inr (T.al _), _, rfl, by decide, by decide, ?_⟩
    refine comp_itr (handF g) (by decide) (fun i H2 kk kk0 hi h1 h2 => ?_) fun D hD => ?_
    · obtain ⟨j, rfl⟩ : ∃ j : Nat, j = i := ⟨i, rfl⟩
      have e0 : (0 : Int) + (j : Int) = (j : Int) := Int.zero_add _
      have hat : atI (aloneL.map V.int) ((0 : Int) + (j : Int)) = some (.int (alone j)) := by
        rw [e0]
        have z := alone_at (i := (j : Int)) (by omega) (by have : j < 6 := hi; omega)
        simpa using z
      refine ⟨_, rfl, _, rfl, AL, _, _, _, rfl, rfl, T.al _, hat, _, _, rfl, rfl, rfl, _, rfl, ?_⟩
      refine ite2 (fun h3 => ⟨_, rfl, h1 _ ?_⟩) (fun h3 => h2 ?_)
      · have z : ¬ V.int (Builtin.bitAnd (g : Int) (alone j)) = V.int 0 := of_decide_eq_false (by
          have z : (!decide (V.int (Builtin.bitAnd (g : Int) (alone j)) = V.int 0)) = true := h3
          simpa using z)
        rw [e0]
        unfold handF
        rw [if_neg fun q => z (congrArg V.int q)]
      · unfold handF
        refine if_pos (Classical.byContradiction fun q => h3 ?_)
        show (!decide (V.int (Builtin.bitAnd (g : Int) (alone j)) = V.int 0)) = true
        rw [decide_eq_false fun z => q (V.int.inj z)]
        rfl
    · have e' : (List.range 6).filterMap (handF g) = (hands g).map V.int := hands_comp ⟨g, hg⟩
      show Q _ (upd H' D (.lst ((List.range 6).filterMap (handF g))))
      rw [e']
      exact k g D _ rfl hg (s1.free hD) (s1.trans (.upd_new hD)) upd_same
/-! ### is_table -/
def tabB (xs : List V) : Bool := [2, 4, 8, 16, 32, 64].contains xs.length && xs.all isI && decide (xs[0]? = some (.int 0))
def spIsT (K : PySem.W.Frag) : Sp := fun vs H Q _ => ∃ (p : Addr) (xs : List V), vs = [.ref p] ∧ H p = some (.lst xs) ∧ (∀ v ∈ xs, Pl K H v) ∧ xs.length ≤ 1000 ∧ ∀ H', Same H H' → Q (.bl (tabB xs)) H'
theorem scIsT : FnScope ["thing"] ["thing"] (defScope sIsT) := ⟨rfl, rfl, rfl, by decide +kernel, rfl, by decide +kernel, by decide +kernel⟩
theorem lens_in (n : Nat) : (!inV (.int (n : Int)) (cutV (lensL.map V.int) (some 1) none)) = !([2, 4, 8, 16, 32, 64].contains n) := by
  have e : cutV (lensL.map V.int) (some 1) none = [V.int 2, .int 4, .int 8, .int 16, .int 32, .int 64] := by decide
  rw [e]
  have q : ∀ k : Nat, eqV (.int (k : Int)) (.int (n : Int)) = (n == k) := fun k => by
    show ((k : Int) == (n : Int)) = (n == k)
    rw [Bool.eq_iff_iff, beq_iff_eq, beq_iff_eq]
    omega
  have := q 2; have := q 4; have := q 8; have := q 16; have := q 32; have := q 64
  simp_all [inV]
  rfl
theorem ok_ist {f1 : Addr} {fd1 : FuncData} (t : Tx K mg "is_table" sIsT ["thing"] f fd) (T : T K mg AL LN RU OW PL PA VO CO fE fH rR rO rP rA rV iR iO iP iA iV iC cH cE cT SE NG NN NO NR NL NS NT NX NV TM UL) (D_is_number : Df P w K mg base CX0 1 "is_number" ["thing"] (spNum K) f1 fd1) :
    Df P w K mg base CX0 2 "is_table" ["thing"] (spIsT K) f fd := by
  refine t.df0 scIsT (fun vs H Q E h => ?_) (fun cdv A outer s H vs Q E hr h => ?_)
  · obtain ⟨p, xs, rfl, _⟩ := h
    rfl
  · obtain ⟨p, xs, rfl, hp, pl, hlen, k⟩ := h
    refine ⟨_, (pss_cons (ps_if (PW.pt (pw_or (pt_not (pt_val (pe_callB call_isi (by rfl) T.b_isi bt_isi (pa_cons (pv 0) (pa_cons (pe_bltn (v := .ty "list") (by rfl) T.b_list bt_list rfl) pa_nil))))) (pw_or1 (pt_cmpR op_notIn_seq (pe_callB call_len_seq (by rfl) T.b_len bt_len (pa_cons (pv 0) pa_nil)) (pe_slice sl_tupA (pe_glob (v := .ref LN) (by rfl) T.mLN rfl) (po_some pe_int) po_none) (by rfl))))) (pss_one (ps_ret pe_bl)) pss_nil)
      (pss_one (ps_ret (pe_and (pe_callB (call_all rfl) (by rfl) T.b_all bt_all (pa_cons (pe_comp (NB := ["number"]) (pick := [none]) (blk_mk (by with_unfolding_all rfl) (by exact trivial) rfl (by decide +kernel) (by decide +kernel) (by rfl) (by rfl)) rfl
          (pi_list (pv 0)) (fun _ _ _ => pg_name (i := 0) (show (["number"] : List Str).Nodup from by decide +kernel) rfl (Or.inl rfl))
          (fun _ _ _ => pif_nil) (fun _ _ _ => (pe_d0 D_is_number hr (by decide) (by rfl) (pa_cons (pv 0) pa_nil)))) pa_nil)) (pe_one (pe_cmpR op_eq (pe_ix ix_list (pv 0) pe_int (fun _ _ => rfl)) pe_int (nomark _))))))), ?_⟩
    refine ⟨_, rfl, .ref p, .ty "list", _, _, _, rfl, rfl, .of (.lst hp), Kd.lst.list_ K, _, rfl, iteF ?_⟩
    refine ⟨_, rfl, p, _, rfl, .inl (SqL.of hp), _, rfl, LN, _, rfl, T.ln _, fun q H1 s1 hq => ⟨q, _, rfl, .inr hq, rfl, by decide, _, rfl, ?_⟩⟩
    show if (!inV (.int (xs.length : Int)) (cutV (lensL.map V.int) (some 1) none)) = true then _ else _
    rw [lens_in]
    cases ec : [2, 4, 8, 16, 32, 64].contains xs.length with
    | false =>
      have e : false = tabB xs := by unfold tabB; rw [ec]; rfl
      refine iteT ?_
      have z := k H1 s1
      rw [← e] at z
      exact z
    | true =>
      refine iteF ⟨_, rfl, p, rfl, ⟨xs, SqL.of (s1 _ _ hp)⟩, ?_⟩
      refine comp_lst (xs := xs) (fun _ x => some (.bl (isI x))) (SqL.of (s1 _ _ hp)) (Nat.le_of_lt (small1000 hlen)) (fun i x H2 kk kk0 s2 hx h1 h2 => ?_) fun D H2 hD s2 hd => ?_
      · exact ⟨_, rfl, x, rfl, (pl x (List.mem_of_getElem? hx)).same (s1.trans s2), h1 _ rfl _ (.refl _)⟩
      · have ed : ((List.range xs.length).filterMap fun i => (xs[i]?).bind fun x => some (V.bl (isI x))) = (xs.map isI).map V.bl := by
          rw [List.map_map, ← fm_mapV]
          rfl
        rw [ed] at hd
        refine ⟨D, _, rfl, SqL.of hd, _, rfl, ?_⟩
        have ea : (xs.map isI).all id = xs.all isI := by rw [List.all_map]; rfl
        rw [ea]
        cases eb : xs.all isI with
        | false =>
          have e : false = tabB xs := by unfold tabB; rw [ec, eb]; rfl
          refine iteF ?_
          have z := k H2 (s1.trans s2)
          rw [← e] at z
          exact z
        | true =>
          have hpos : 0 < xs.length := by
            cases xs with
            | nil => exact absurd ec (by decide)
            | cons _ _ => exact Nat.succ_pos _
          obtain ⟨i, hi⟩ : ∃ i, xs[0]? = some (.int i) := by
            have hm := List.all_eq_true.mp eb xs[0] (List.getElem_mem hpos)
            cases e0 : xs[0] with
            | int i => exact ⟨i, by rw [List.getElem?_eq_getElem hpos, e0]⟩
            | _ => rw [e0] at hm; exact (Bool.false_ne_true hm).elim
          refine iteT ⟨_, rfl, p, _, _, _, rfl, rfl, SqL.of (s2 _ _ (s1 _ _ hp)), atI_nat hi, rfl, ?_⟩
          have e : decide (V.int i = V.int 0) = tabB xs := by unfold tabB; rw [ec, eb, hi]; simp
          show Q (.bl (decide (V.int i = V.int 0))) H2
          rw [e]
          exact k H2 (s1.trans s2)
/-! ### hands_in -/
def spHin (K : PySem.W.Frag) (NT : Addr) : Sp := fun vs H Q E => ∃ (p : Addr) (xs : List V), vs = [.ref p] ∧ H p = some (.lst xs) ∧ (∀ v ∈ xs, Pl K H v) ∧ xs.length ≤ 1000 ∧ (tabB xs = false → ∀ H', Same H H' → E (.ref NT) none H') ∧
  ∀ m : Nat, 1 ≤ m → m ≤ 6 → xs.length = 2 ^ m → tabB xs = true → ∀ H', Same H H' → Q (.int (m : Int)) H'
theorem scHin : FnScope ["table"] ["table"] (defScope sHin) := ⟨rfl, rfl, rfl, by decide +kernel, rfl, by decide +kernel, by decide +kernel⟩
theorem tab_len {xs : List V} (h : tabB xs = true) : ∃ m : Nat, 1 ≤ m ∧ m ≤ 6 ∧ xs.length = 2 ^ m := by
  have z : [2, 4, 8, 16, 32, 64].contains xs.length = true := by
    unfold tabB at h
    rw [Bool.and_eq_true, Bool.and_eq_true] at h
    exact h.1.1
  have z : xs.length ∈ [2, 4, 8, 16, 32, 64] := by simpa using z
  simp only [List.mem_cons, List.not_mem_nil, or_false] at z
  rcases z with z | z | z | z | z | z
  · exact ⟨1, by decide, by decide, z⟩
  · exact ⟨2, by decide, by decide, z⟩
  · exact ⟨3, by decide, by decide, z⟩
  · exact ⟨4, by decide, by decide, z⟩
  · exact ⟨5, by decide, by decide, z⟩
  · exact ⟨6, by decide, by decide, z⟩
theorem lens_at : ∀ m : _root_.Fin 7, lensL[m.1]? = some ((2 : Int) ^ m.1) ∧ ∀ j : _root_.Fin 7, j.1 < m.1 → lensL[j.1]? ≠ some ((2 : Int) ^ m.1) := by decide
theorem ok_hin {f1 : Addr} {fd1 : FuncData} (t : Tx K mg "hands_in" sHin ["table"] f fd) (T : T K mg AL LN RU OW PL PA VO CO fE fH rR rO rP rA rV iR iO iP iA iV iC cH cE cT SE NG NN NO NR NL NS NT NX NV TM UL) (D_is_table : Df P w K mg base CX0 2 "is_table" ["thing"] (spIsT K) f1 fd1) :
    Df P w K mg base (CX1 P w) 3 "hands_in" ["table"] (spHin K NT) f fd := by
  refine t.df1 scHin (fun vs H Q E h => ?_) (fun cdv A outer s H vs Q E hr h => ?_)
  · obtain ⟨p, xs, rfl, _⟩ := h
    rfl
  · obtain ⟨p, xs, rfl, hp, pl, hlen, k0, k⟩ := h
    refine ⟨_, (pss_cons (ps_if (pt_not (pt_val (pe_d0 D_is_table hr (by decide) (by rfl) (pa_cons (pv 0) pa_nil)))) (pss_one (ps_raise rais_def rfl (by rfl) T.mNT T.xNT (pa_cons pe_str pa_nil))) pss_nil)
      (pss_one (ps_ret (pe_bm PySem.F.plainAttrs_tuple PySem.F.slot_tuple_index PySem.F.type_tuple_index mt_index (pe_glob (v := .ref LN) (by rfl) T.mLN rfl) (pa_cons (pe_callB call_len_seq (by rfl) T.b_len bt_len (pa_cons (pv 0) pa_nil)) pa_nil))))), ?_⟩
    refine ⟨_, rfl, p, xs, rfl, hp, pl, hlen, fun H1 s1 => ⟨_, rfl, ?_⟩⟩
    cases e : tabB xs with
    | false => exact iteT ⟨by show 1 ≤ sizeLine; decide, k0 e H1 s1⟩
    | true =>
      obtain ⟨m, h1, h6, hm⟩ := tab_len e
      obtain ⟨l1, l2⟩ := lens_at ⟨m, by omega⟩
      refine iteF ⟨.inr (.inl ⟨rfl, T.tyL⟩), _, rfl, p, _, rfl, .inl (SqL.of (s1 _ _ hp)), LN, lensL, _, m, rfl, rfl, T.ln _, ?_, ?_, k m h1 h6 hm e H1 s1⟩
      · rw [hm, l1]
        push_cast
        rfl
      · intro j hj
        have z := l2 ⟨j, by omega⟩ hj
        rw [hm]
        intro q
        refine z (q.trans ?_)
        push_cast
        rfl
/-! ### check_numbers -/
def spCkN (K : PySem.W.Frag) (NL : Addr) : Sp := fun vs H Q E => ∃ (p : Addr) (xs : List V), vs = [.ref p] ∧ (H p = some (.lst xs) ∨ H p = some (.tup xs)) ∧ (∀ v ∈ xs, Pl K H v) ∧ xs.length ≤ 1000 ∧ (xs.all isI = false → ∀ H', Same H H' → E (.ref NL) none H') ∧ (xs.all isI = true → ∀ H', Same H H' → Q .non H')
theorem scCkN : FnScope ["things"] ["things"] (defScope sCkN) := ⟨rfl, rfl, rfl, by decide +kernel, rfl, by decide +kernel, by decide +kernel⟩
theorem ok_ckn {f1 : Addr} {fd1 : FuncData} (t : Tx K mg "check_numbers" sCkN ["things"] f fd) (T : T K mg AL LN RU OW PL PA VO CO fE fH rR rO rP rA rV iR iO iP iA iV iC cH cE cT SE NG NN NO NR NL NS NT NX NV TM UL) (D_is_number : Df P w K mg base CX0 1 "is_number" ["thing"] (spNum K) f1 fd1) :
    Df P w K mg base (CX1 P w) 2 "check_numbers" ["things"] (spCkN K NL) f fd := by
  refine t.df1 scCkN (fun vs H Q E h => ?_) (fun cdv A outer s H vs Q E hr h => ?_)
  · obtain ⟨p, xs, rfl, _⟩ := h
    rfl
  · obtain ⟨p, xs, rfl, hp, pl, hlen, k0, k⟩ := h
    refine ⟨_, (pss_one (ps_if (pt_not (pt_val (pe_callB (call_all rfl) (by rfl) T.b_all bt_all (pa_cons (pe_comp (NB := ["thing"]) (pick := [none]) (blk_mk (by with_unfolding_all rfl) (by exact trivial) rfl (by decide +kernel) (by decide +kernel) (by rfl) (by rfl)) rfl
          (pi_seq (pv 0)) (fun _ _ _ => pg_name (i := 0) (show (["thing"] : List Str).Nodup from by decide +kernel) rfl (Or.inl rfl))
          (fun _ _ _ => pif_nil) (fun _ _ _ => (pe_d0 D_is_number hr (by decide) (by rfl) (pa_cons (pv 0) pa_nil)))) pa_nil)))) (pss_one (ps_raise rais_def rfl (by rfl) T.mNL T.xNL (pa_cons pe_str pa_nil))) pss_nil)), ?_⟩
    have fin : ∀ (D : Addr) (H2 : Hp), Same H H2 → H2 D = some (.lst ((List.range xs.length).filterMap fun i => (xs[i]?).bind fun x => some (V.bl (isI x)))) →
        ∃ bs : List Bool, SqL K H2 D (bs.map V.bl) ∧ bs.all id = xs.all isI := fun D H2 s2 hd => by
      refine ⟨xs.map isI, ?_, by rw [List.all_map]; rfl⟩
      rw [List.map_map, ← fm_mapV] at *
      exact SqL.of hd
    have step : ∀ (i : Nat) (x : V) (H2 : Hp), Same H H2 → xs[i]? = some x → Pl K H2 x := fun i x H2 s2 hx => (pl x (List.mem_of_getElem? hx)).same s2
    have endk : ∀ (D : Addr) (H2 : Hp) (bs : List Bool), Same H H2 → bs.all id = xs.all isI → if (!(bs.all id)) = true then (1 ≤ sizeLine ∧ E (.ref NL) none H2) else Q .non H2 := fun D H2 bs s2 e => by
      rw [e]
      cases eb : xs.all isI with
      | false => exact iteT ⟨by decide, k0 eb H2 s2⟩
      | true => exact iteF (k eb H2 s2)
    rcases hp with hp | hp
    · refine ⟨_, rfl, p, rfl, .inl ⟨⟨xs, SqL.of hp⟩, ?_⟩⟩
      refine comp_lst (xs := xs) (fun _ x => some (.bl (isI x))) (SqL.of hp) (Nat.le_of_lt (small1000 hlen)) (fun i x H2 kk kk0 s2 hx h1 h2 => ?_) fun D H2 hD s2 hd => ?_
      · exact ⟨_, rfl, x, rfl, step i x H2 s2 hx, h1 _ rfl _ (.refl _)⟩
      · obtain ⟨bs, q1, q2⟩ := fin D H2 s2 hd
        exact ⟨D, bs, rfl, q1, _, rfl, endk D H2 bs s2 q2⟩
    · refine ⟨_, rfl, p, rfl, .inr ⟨⟨xs, SqT.of hp⟩, ?_⟩⟩
      refine comp_tup (xs := xs) (fun _ x => some (.bl (isI x))) (SqT.of hp) (Nat.le_of_lt (small1000 hlen)) (fun i x H2 kk kk0 s2 hx h1 h2 => ?_) fun D H2 hD s2 hd => ?_
      · exact ⟨_, rfl, x, rfl, step i x H2 s2 hx, h1 _ rfl _ (.refl _)⟩
      · obtain ⟨bs, q1, q2⟩ := fin D H2 s2 hd
        exact ⟨D, bs, rfl, q1, _, rfl, endk D H2 bs s2 q2⟩
/-! ### check_pair -/
def okP (m : Int) : List V → Bool
  | [.int i, .int j, .int _] => decide (0 ≤ i) && decide (i < j) && decide (j < m)
  | _ => false
theorem okP_at {m : Int} {xs : List V} (h : okP m xs = true) : ∃ i j n : Int, xs = [.int i, .int j, .int n] ∧ 0 ≤ i ∧ i < j ∧ j < m := by
  unfold okP at h
  split at h
  · rename_i i j n
    rw [Bool.and_eq_true, Bool.and_eq_true] at h
    exact ⟨i, j, n, rfl, of_decide_eq_true h.1.1, of_decide_eq_true h.1.2, of_decide_eq_true h.2⟩
  · cases h
theorem okP_no {m : Int} {xs : List V} (h : ¬ ∃ i j n : Int, xs = [.int i, .int j, .int n] ∧ 0 ≤ i ∧ i < j ∧ j < m) : okP m xs = false := by
  cases e : okP m xs with
  | false => rfl
  | true => exact absurd (okP_at e) h
def spCkP (K : PySem.W.Frag) (NL : Addr) : Sp := fun vs H Q E => ∃ (m : Int) (a : Addr) (xs : List V), vs = [.int m, .ref a] ∧ H a = some (.tup xs) ∧ (∀ v ∈ xs, Pl K H v) ∧ xs.length ≤ 1000 ∧ (okP m xs = false → ∀ H', Same H H' → E (.ref NL) none H') ∧ (okP m xs = true → ∀ H', Same H H' → Q .non H')
theorem scCkP : FnScope ["many", "pair"] ["many", "pair"] (defScope sCkP) := ⟨rfl, rfl, rfl, by decide +kernel, rfl, by decide +kernel, by decide +kernel⟩
theorem ok_ckp {f1 : Addr} {fd1 : FuncData} (t : Tx K mg "check_pair" sCkP ["many", "pair"] f fd) (T : T K mg AL LN RU OW PL PA VO CO fE fH rR rO rP rA rV iR iO iP iA iV iC cH cE cT SE NG NN NO NR NL NS NT NX NV TM UL) (D_check_numbers : Df P w K mg base (CX1 P w) 2 "check_numbers" ["things"] (spCkN K NL) f1 fd1) :
    Df P w K mg base (CX1 P w) 3 "check_pair" ["many", "pair"] (spCkP K NL) f fd := by
  refine t.df1 scCkP (fun vs H Q E h => ?_) (fun cdv A outer s H vs Q E hr h => ?_)
  · obtain ⟨m, a, xs, rfl, _⟩ := h
    rfl
  · obtain ⟨m, a, xs, rfl, ha, pl, hlen, k0, k⟩ := h
    refine ⟨_, (pss_cons (ps_if (PW.pt (pw_or (pt_not (pt_val (pe_callB call_isi (by rfl) T.b_isi bt_isi (pa_cons (pv 1) (pa_cons (pe_bltn (v := .ty "tuple") (by rfl) T.b_tuple bt_tuple rfl) pa_nil))))) (pw_or1 (pt_cmpR op_ne (pe_callB call_len_seq (by rfl) T.b_len bt_len (pa_cons (pv 1) pa_nil)) pe_int (nomark _))))) (pss_one (ps_raise rais_def rfl (by rfl) T.mNL T.xNL (pa_cons pe_str pa_nil))) pss_nil)
      (pss_cons (ps_expr (pe_d1 rais_def.toPass D_check_numbers hr (by decide) (by rfl) (pa_cons (pv 1) pa_nil)))
      (pss_one (ps_if (pt_not (pt_chain3 op_le op_lt op_lt pe_int (pe_ix ix_tup (pv 1) pe_int (fun _ _ => rfl)) (pe_ix ix_tup (pv 1) pe_int (fun _ _ => rfl)) (pv 0))) (pss_one (ps_raise rais_def rfl (by rfl) T.mNL T.xNL (pa_cons pe_str pa_nil))) pss_nil)))), ?_⟩
    refine ⟨_, rfl, .ref a, .ty "tuple", _, _, _, rfl, rfl, .of (.tup ha), Kd.tup.tuple_ K, _, rfl, iteF ?_⟩
    refine ⟨_, rfl, a, _, rfl, .inr (SqT.of ha), rfl, _, rfl, ?_⟩
    refine ite2 (fun h3 => ?_) (fun h3 => ?_)
    · refine ⟨by show 1 ≤ sizeLine; decide, k0 (okP_no ?_) H (.refl H)⟩
      rintro ⟨i, j, n, rfl, _⟩
      have e : decide (V.int (([V.int i, V.int j, V.int n].length : Nat) : Int) = V.int 3) = true := decide_eq_true rfl
      rw [e] at h3
      cases h3
    have e3 : xs.length = 3 := by
      refine Classical.byContradiction fun z => h3 ?_
      rw [decide_eq_false]
      · rfl
      · intro q
        have := V.int.inj q
        omega
    refine ⟨_, rfl, a, _, rfl, .inr ha, pl, hlen, fun no H1 s1 => k0 (okP_no ?_) H1 s1, fun yes H1 s1 => ?_⟩
    · rintro ⟨i, j, n, rfl, _⟩
      exact absurd no (by show ¬ true = false; decide)
    obtain ⟨i, j, n, rfl⟩ : ∃ i j n : Int, xs = [.int i, .int j, .int n] := by
      match xs, e3, yes with
      | [u, v, w'], _, yes =>
        rw [List.all_eq_true] at yes
        have y1 := yes u (by simp)
        have y2 := yes v (by simp)
        have y3 := yes w' (by simp)
        cases u <;> first | (exact absurd y1 Bool.false_ne_true) | skip
        cases v <;> first | (exact absurd y2 Bool.false_ne_true) | skip
        cases w' <;> first | (exact absurd y3 Bool.false_ne_true) | skip
        exact ⟨_, _, _, rfl⟩
    have fail : ¬ (0 ≤ i ∧ i < j ∧ j < m) → 1 ≤ sizeLine ∧ E (.ref NL) none H1 := fun z => ⟨by decide, k0 (okP_no (by
      rintro ⟨i', j', n', e, z'⟩
      cases e
      exact z z')) H1 s1⟩
    refine ⟨_, rfl, a, _, _, _, rfl, rfl, SqT.of (s1 _ _ ha), rfl, _, _, rfl, rfl, _, rfl, ?_⟩
    refine ite2 (fun h1 => ?_) (fun h1 => iteT (fail fun z => h1 (decide_eq_true z.1)))
    refine ⟨_, rfl, a, _, _, _, rfl, rfl, SqT.of (s1 _ _ ha), rfl, _, _, rfl, rfl, _, rfl, ?_⟩
    refine ite2 (fun h2 => ?_) (fun h2 => iteT (fail fun z => h2 (decide_eq_true z.2.1)))
    refine ⟨_, rfl, _, _, rfl, rfl, _, rfl, ?_⟩
    cases h3' : decide (j < m) with
    | false => exact iteT (fail fun z => (of_decide_eq_false h3') z.2.2)
    | true =>
      refine iteF (k ?_ H1 s1)
      show (decide (0 ≤ i) && decide (i < j) && decide (j < m)) = true
      rw [h1, h2, h3']
      rfl
/-! ### sorted_pairs -/
def keyP : List V → Int × Int
  | [.int i, .int j, .int _] => (i, j)
  | _ => (0, 0)
def okFrom (m : Int) : List (Int × Int) → List (List V) → Bool
  | _, [] => true
  | seen, xs :: r => okP m xs && !(seen.contains (keyP xs)) && okFrom m (seen ++ [keyP xs]) r
def okPs (m : Int) (xss : List (List V)) : Bool := okFrom m [] xss
theorem okFrom_all {m : Int} : ∀ {xss : List (List V)} {seen : List (Int × Int)}, okFrom m seen xss = true → ∀ xs ∈ xss, okP m xs = true
  | [], _, _, xs, h => by cases h
  | x :: r, seen, h, xs, hx => by
    have h' : (okP m x && !(seen.contains (keyP x)) && okFrom m (seen ++ [keyP x]) r) = true := h
    rw [Bool.and_eq_true, Bool.and_eq_true] at h'
    rcases List.mem_cons.mp hx with rfl | hx
    · exact h'.1.1
    · exact okFrom_all h'.2 xs hx
def dKeys (ks : List (Int × Int)) : List (List Key × V) := ks.map fun k => ([Sum.inl k.1, Sum.inl k.2], V.bl true)
theorem dKeys_val (i j : Int) : ∀ ks : List (Int × Int), valV (dKeys ks) [Sum.inl i, Sum.inl j] = if ks.contains (i, j) = true then some (.bl true) else none
  | [] => rfl
  | k :: r => by
    have ih := dKeys_val i j r
    by_cases e : k = (i, j)
    · subst e
      rw [if_pos (by simp)]
      exact valV_pos (p := ([Sum.inl i, Sum.inl j], V.bl true)) rfl
    · have z : valV (dKeys (k :: r)) [Sum.inl i, Sum.inl j] = valV (dKeys r) [Sum.inl i, Sum.inl j] := valV_neg (p := ([Sum.inl k.1, Sum.inl k.2], V.bl true)) (r := dKeys r) (fun q => e (by
        have q1 := List.cons.inj q
        have q2 := List.cons.inj q1.2
        exact Prod.ext (Sum.inl.inj q1.1) (Sum.inl.inj q2.1)))
      rw [z, ih]
      have e2 : ((k :: r).contains (i, j)) = r.contains (i, j) := by
        rw [List.contains_cons]
        have : ((i, j) == k) = false := by
          rw [beq_eq_false_iff_ne]
          exact fun q => e q.symm
        rw [this, Bool.false_or]
      rw [e2]
def tupV (H : Hp) (a : Addr) : List V := match H a with
  | some (.tup xs) => xs
  | _ => []
theorem tupV_at {H : Hp} {a : Addr} {xs : List V} (h : H a = some (.tup xs)) : tupV H a = xs := by
  unfold tupV
  rw [h]
/-- each is a tuple of plain things -/
def Tups (K : PySem.W.Frag) (H : Hp) (as : List Addr) : Prop := ∀ a ∈ as, ∃ xs, H a = some (.tup xs) ∧ (∀ v ∈ xs, Pl K H v) ∧ xs.length ≤ 1000
theorem Tups.eq {K : PySem.W.Frag} {H H' : Hp} {as : List Addr} (t : Tups K H as) (s : ∀ a xs, H a = some (.tup xs) → H' a = some (.tup xs)) : as.map (tupV H') = as.map (tupV H) := by
  refine List.map_congr_left fun a ha => ?_
  obtain ⟨xs, h, _⟩ := t a ha
  rw [tupV_at h, tupV_at (s a xs h)]
def spSrt (K : PySem.W.Frag) (NL : Addr) : Sp := fun vs H Q E => ∃ (m : Int) (p : Addr) (as : List Addr), vs = [.int m, .ref p] ∧ H p = some (.lst (as.map V.ref)) ∧ Tups K H as ∧ as.length < 64 ∧ (okPs m (as.map (tupV H)) = false → ∀ H', Same H H' → E (.ref NL) none H') ∧
  (okPs m (as.map (tupV H)) = true → ∀ (l : Addr) (bs : List Addr) (H' : Hp), H l = none → bs.Perm as → Same H H' → H' l = some (.lst (bs.map V.ref)) → Q (.ref l) H')
theorem scSrt : FnScope ["many", "pairs", "seen", "pair", "hands"] ["many", "pairs"] (defScope sSrt) := ⟨rfl, rfl, rfl, by decide +kernel, rfl, by decide +kernel, by decide +kernel⟩
theorem ok_srt {f1 : Addr} {fd1 : FuncData} (t : Tx K mg "sorted_pairs" sSrt ["many", "pairs"] f fd) (T : T K mg AL LN RU OW PL PA VO CO fE fH rR rO rP rA rV iR iO iP iA iV iC cH cE cT SE NG NN NO NR NL NS NT NX NV TM UL) (D_check_pair : Df P w K mg base (CX1 P w) 3 "check_pair" ["many", "pair"] (spCkP K NL) f1 fd1) :
    Df P w K mg base (CX1 P w) 4 "sorted_pairs" ["many", "pairs"] (spSrt K NL) f fd := by
  refine t.df1 scSrt (fun vs H Q E h => ?_) (fun cdv A outer s H vs Q E hr h => ?_)
  · obtain ⟨m, p, as, rfl, _⟩ := h
    rfl
  · obtain ⟨m, p, as, rfl, hp, ht, h64, k0, k⟩ := h
    refine ⟨_, (pss_cons (ps_set (i := 2) scSrt.nd rfl (Or.inl rfl) pe_dnewT)
      (pss_cons (ps_for rais_def.own rfl (pi_list (pv 1)) (pg_name (i := 3) scSrt.nd rfl (Or.inl rfl))
        (pss_cons (ps_expr (pe_d1 rais_def.toPass D_check_pair hr (by decide) (by rfl) (pa_cons (pv 0) (pa_cons (pv 3) pa_nil))))
        (pss_cons (ps_set (i := 4) scSrt.nd rfl (Or.inl rfl) (pe_tup (pa_cons (pe_ix ix_tup (pv 3) pe_int (fun _ _ => rfl)) (pa_cons (pe_ix ix_tup (pv 3) pe_int (fun _ _ => rfl)) pa_nil))))
        (pss_cons (ps_if (pt_cmp (pc_din (hu_of hr) (pv 4) (pv 2))) (pss_one (ps_raise rais_def rfl (by rfl) T.mNL T.xNL (pa_cons pe_str pa_nil))) pss_nil)
        (pss_one (ps_dput (hu_of hr) (pv 2) (pv 4) pe_bl rfl))))))
      (pss_one (ps_ret (pe_callB call_sortedT (by rfl) T.b_sorted bt_sorted (pa_cons (pv 1) pa_nil)))))), ?_⟩
    refine fun d hd => ⟨_, rfl, p, rfl, ⟨_, SqL.of (Same.upd_new hd _ _ hp)⟩, ?_⟩
    refine for_list (xs := as.map V.ref) (fun i σ' H' => Same H H' ∧ (∃ o3 o4 : Option V, σ' = [some (.int m), some (.ref p), some (.ref d), o3, o4]) ∧ ∃ ks : List (Int × Int), ks.length ≤ i ∧ H' d = some (.dT (dKeys ks)) ∧ okPs m (as.map (tupV H)) = okFrom m ks ((as.map (tupV H)).drop i)) ?_ ?_ ?_ ?_
    · exact ⟨.upd_new hd, ⟨_, _, rfl⟩, [], Nat.zero_le _, upd_same, rfl⟩
    · rintro i σ' H' _ ⟨s1, _⟩
      exact SqL.of (s1 _ _ hp)
    · rintro i x σ' H' hx ⟨s1, ⟨o3, o4, rfl⟩, ks, hks, hd1, he⟩
      obtain ⟨a, ha, rfl⟩ : ∃ a, as[i]? = some a ∧ x = .ref a := by
        rw [List.getElem?_map] at hx
        cases e : as[i]? with
        | none => rw [e] at hx; cases hx
        | some y => rw [e] at hx; exact ⟨y, rfl, (Option.some.inj hx).symm⟩
      have hi : i < as.length := by
        rcases Nat.lt_or_ge i as.length with z | z
        · exact z
        · rw [List.getElem?_eq_none z] at ha; cases ha
      obtain ⟨xs, hxs, pl, hlen⟩ := ht a (List.mem_of_getElem? ha)
      have hdrop : (as.map (tupV H)).drop i = xs :: (as.map (tupV H)).drop (i + 1) := by
        rw [List.drop_eq_getElem_cons (by rw [List.length_map]; exact hi), List.getElem_map]
        have : as[i] = a := Option.some.inj ((List.getElem?_eq_getElem hi).symm.trans ha)
        rw [this, tupV_at hxs]
      rw [hdrop] at he
      have he' : okPs m (as.map (tupV H)) = (okP m xs && !(ks.contains (keyP xs)) && okFrom m (ks ++ [keyP xs]) ((as.map (tupV H)).drop (i + 1))) := he
      refine ⟨_, rfl, _, rfl, m, a, xs, rfl, s1 _ _ hxs, fun v hv => (pl v hv).same s1, hlen, fun no H2 s2 => ?_, fun yes H2 s2 => ?_⟩
      · exact k0 (by rw [he', no]; rfl) H2 (s1.trans s2)
      obtain ⟨u, v, n, rfl, _⟩ := okP_at yes
      have ha2 := s2 _ _ (s1 _ _ hxs)
      refine ⟨_, rfl, a, _, _, _, rfl, rfl, SqT.of ha2, rfl, _, rfl, a, _, _, _, rfl, rfl, SqT.of ha2, rfl, by show 2 ≤ sizeLine; decide, fun tt htt => ?_⟩
      have u3 := Same.upd_new (o := .tup [V.int u, V.int v]) htt
      have hd3 := u3 _ _ (s2 _ _ hd1)
      refine ⟨_, rfl, _, rfl, d, _, rfl, DGet.t (k := [Sum.inl u, Sum.inl v]) hd3 upd_same, _, rfl, ?_⟩
      rw [dKeys_val]
      cases hc : ks.contains (u, v) with
      | true =>
        rw [if_pos rfl]
        refine iteT ⟨by show 1 ≤ sizeLine; decide, k0 ?_ _ ((s1.trans s2).trans u3)⟩
        rw [he', show keyP [V.int u, V.int v, V.int n] = (u, v) from rfl, hc, yes]
        rfl
      | false =>
        rw [if_neg Bool.false_ne_true]
        refine iteF ⟨_, rfl, _, rfl, d, _, rfl, DPut.t (k := [Sum.inl u, Sum.inl v]) hd3 upd_same (by unfold dKeys; rw [List.length_map]; exact small1000 (by omega)), ?_⟩
        refine ⟨((s1.trans s2).trans u3).upd_ne' hd, ⟨_, _, rfl⟩, ks ++ [(u, v)], by rw [List.length_append]; show _ + 1 ≤ _; omega, ?_, ?_⟩
        · rw [upd_same, putK_new _ (by rw [dKeys_val, hc]; rfl)]
          unfold dKeys
          rw [List.map_append]
          rfl
        · rw [he', show keyP [V.int u, V.int v, V.int n] = (u, v) from rfl, hc, yes]
          rfl
    · rintro σ' H' ⟨s1, ⟨o3, o4, rfl⟩, ks, hks, hd1, he⟩
      rw [List.length_map, List.drop_of_length_le (by rw [List.length_map]; exact Nat.le_refl _)] at he
      have he : okPs m (as.map (tupV H)) = true := he
      refine ⟨_, rfl, p, as, rfl, SqL.of (s1 _ _ hp), fun a ha => ?_, h64, fun l bs hl hb => k he l bs _ (s1.free hl) hb (s1.trans (.upd_new hl)) upd_same⟩
      obtain ⟨xs, hxs, _⟩ := ht a ha
      obtain ⟨u, v, n, e, _⟩ := okP_at (okFrom_all he xs (by rw [← tupV_at hxs]; exact List.mem_map.mpr ⟨a, ha, rfl⟩))
      subst e
      exact ⟨u, [v, n], s1 _ _ hxs⟩
/-! ### has_both -/
def both (g i j : Nat) : Bool := decide (g / 2 ^ i % 2 = 1) && decide (g / 2 ^ j % 2 = 1)
theorem both_eq : ∀ (g : _root_.Fin 64) (i j : _root_.Fin 6), decide (Builtin.bitAnd (g.1 : Int) (Builtin.bitOr (alone i.1) (alone j.1)) = Builtin.bitOr (alone i.1) (alone j.1)) = both g.1 i.1 j.1 := by decide +kernel
def spHB : Sp := fun vs H Q _ => ∃ g i j : Nat, vs = [.int (g : Int), .int (i : Int), .int (j : Int)] ∧ g < 64 ∧ i < 6 ∧ j < 6 ∧ Q (.bl (both g i j)) H
theorem scHB : FnScope ["group", "one", "other", "both"] ["group", "one", "other"] (defScope sHB) := ⟨rfl, rfl, rfl, by decide +kernel, rfl, by decide +kernel, by decide +kernel⟩
theorem ok_hb (t : Tx K mg "has_both" sHB ["group", "one", "other"] f fd) (T : T K mg AL LN RU OW PL PA VO CO fE fH rR rO rP rA rV iR iO iP iA iV iC cH cE cT SE NG NN NO NR NL NS NT NX NV TM UL) : Df P w K mg base CX0 1 "has_both" ["group", "one", "other"] spHB f fd := by
  refine t.df0 scHB (fun vs H Q E h => ?_) (fun cdv A outer s H vs Q E hr h => ?_)
  · obtain ⟨g, i, j, rfl, _⟩ := h
    rfl
  · obtain ⟨g, i, j, rfl, hg, hi, hj, k⟩ := h
    refine ⟨_, (pss_cons (ps_set (i := 3) scHB.nd rfl (Or.inl rfl) (pe_op op_or (pe_ix ix_tup (pe_glob (v := .ref AL) (by rfl) T.mAL rfl) (pv 1) (fun _ _ => rfl)) (pe_ix ix_tup (pe_glob (v := .ref AL) (by rfl) T.mAL rfl) (pv 2) (fun _ _ => rfl))))
      (pss_one (ps_ret (pe_cmpR op_eq (pe_op op_and (pv 0) (pv 3)) (pv 3) (nomark _))))), ?_⟩
    have a1 := alone_at (i := (i : Int)) (by omega) (by omega)
    have a2 := alone_at (i := (j : Int)) (by omega) (by omega)
    refine ⟨_, rfl, AL, _, _, _, rfl, rfl, T.al _, a1, _, rfl, AL, _, _, _, rfl, rfl, T.al _, a2, _, _, rfl, rfl, ?_⟩
    refine ⟨_, rfl, _, rfl, _, _, rfl, rfl, _, rfl, rfl, ?_⟩
    have e := both_eq ⟨g, hg⟩ ⟨i, hi⟩ ⟨j, hj⟩
    have e' : decide (V.int (Builtin.bitAnd (g : Int) (Builtin.bitOr (alone i) (alone j))) = V.int (Builtin.bitOr (alone i) (alone j))) = both g i j := by
      rw [← e]
      exact decide_eq_decide.mpr ⟨V.int.inj, congrArg V.int⟩
    show Q (.bl (decide (V.int (Builtin.bitAnd (g : Int) (Builtin.bitOr (alone i) (alone j))) = V.int (Builtin.bitOr (alone i) (alone j))))) H
    rw [e']
    exact k
/-! ### sum_of_hands -/
def spSoH : Sp := fun vs H Q _ => ∃ (l : Addr) (ns : List Int) (g : Nat), vs = [.ref l, .int (g : Int)] ∧ H l = some (.lst (ns.map V.int)) ∧ ns.length ≤ 6 ∧ g < 2 ^ ns.length ∧ ∀ H', Same H H' → Q (.int (sumH ns g)) H'
theorem scSoH : FnScope ["numbers", "group"] ["numbers", "group"] (defScope sSoH) := ⟨rfl, rfl, rfl, by decide +kernel, rfl, by decide +kernel, by decide +kernel⟩
theorem ok_soh {f1 : Addr} {fd1 : FuncData} (t : Tx K mg "sum_of_hands" sSoH ["numbers", "group"] f fd) (T : T K mg AL LN RU OW PL PA VO CO fE fH rR rO rP rA rV iR iO iP iA iV iC cH cE cT SE NG NN NO NR NL NS NT NX NV TM UL) (D_hands_of : Df P w K mg base (CX1 P w) 4 "hands_of" ["group"] (spHnd K NG) f1 fd1) :
    Df P w K mg base CX0 5 "sum_of_hands" ["numbers", "group"] spSoH f fd := by
  refine t.df0 scSoH (fun vs H Q E h => ?_) (fun cdv A outer s H vs Q E hr h => ?_)
  · obtain ⟨l, ns, g, rfl, _⟩ := h
    rfl
  · obtain ⟨l, ns, g, rfl, hl, h6, hg, k⟩ := h
    have hg64 : g < 64 := Nat.lt_of_lt_of_le hg (pow6 h6)
    refine ⟨_, (pss_one (ps_ret (pe_callB (call_sum rfl) (by rfl) T.b_sum bt_sum (pa_cons (pe_comp (NB := ["hand", "numbers"]) (pick := [none, some 0]) (blk_mk (by with_unfolding_all rfl) (by exact (And.intro rfl trivial)) rfl (by decide +kernel) (by decide +kernel) (by rfl) (by rfl)) rfl
          (pi_list (pe_d1 pass_no D_hands_of hr (by decide) (by rfl) (pa_cons (pv 1) pa_nil))) (fun _ _ _ => pg_name (i := 0) (show (["hand", "numbers"] : List Str).Nodup from by decide +kernel) rfl (Or.inl rfl))
          (fun _ _ _ => pif_nil) (fun _ _ _ => (pe_ix (ix_listK K) (pv 1) (pv 0) (fun _ _ => rfl)))) pa_nil)))), ?_⟩
    refine ⟨_, rfl, _, rfl, .int _, fun no => ?_, fun g' q H1 hv _ hq s1 h1 => ?_⟩
    · exact absurd no (by rw [nat_inB (m := 6) hg64]; decide)
    · have eg : g' = g := by have := V.int.inj hv; omega
      subst eg
      refine ⟨q, rfl, ⟨_, SqL.of h1⟩, ?_⟩
      refine comp_lst (xs := (hands g').map V.int) (fun _ x => match x with | .int i => some (.int (ns.getD i.toNat 0)) | _ => none) (SqL.of h1) ?_ (fun i x H2 kk kk0 s2 hx h1 h2 => ?_) fun D H2 hD s2 hd => ?_
      · rw [List.length_map]
        exact Nat.le_of_lt (small1000 (Nat.le_trans (hN_len g' 6) (by decide)))
      · obtain ⟨j, hj, rfl⟩ := List.mem_map.mp (List.mem_of_getElem? hx)
        obtain ⟨j0, jl⟩ := hN_in2 hg 6 j hj
        have hjn : j.toNat < ns.length := by omega
        have hat : atI (ns.map V.int) j = some (.int (ns.getD j.toNat 0)) := by
          have z := atI_nat (xs := ns.map V.int) (j := j.toNat) (v := .int (ns.getD j.toNat 0)) (by rw [List.getElem?_map, List.getD_eq_getElem?_getD, List.getElem?_eq_getElem hjn]; rfl)
          rw [Int.toNat_of_nonneg j0] at z
          exact z
        exact ⟨_, rfl, _, rfl, l, _, _, _, rfl, rfl, SqL.of (s2 _ _ (s1 _ _ hl)), hat, h1 _ rfl _ (.refl _)⟩
      · have ed : ((List.range ((hands g').map V.int).length).filterMap fun i => (((hands g').map V.int)[i]?).bind fun x => match x with | .int i => some (V.int (ns.getD i.toNat 0)) | _ => none) = ((hands g').map fun h => ns.getD h.toNat 0).map V.int := by
          rw [fm_bind, List.filterMap_map, List.map_map]
          show (hands g').filterMap (fun i => some (V.int (ns.getD i.toNat 0))) = _
          rw [List.filterMap_eq_map']
          rfl
        rw [ed] at hd
        refine ⟨D, _, rfl, .inl (SqL.of hd), ?_⟩
        rw [sumH_hands h6 hg]
        exact k H2 (s1.trans s2)
/-! ### Rule.__init__ -/
def spRI (K : PySem.W.Frag) (NL : Addr) : Sp := fun vs H Q E => ∃ (x C dx : Addr) (v : V), vs = [.ref x, v] ∧ H x = some (.ins C dx []) ∧ Cls K C ∧ NoAttr K C "many" ∧ Pl K H v ∧ (inB 1 6 v = false → E (.ref NL) none H) ∧ (inB 1 6 v = true → Q .non (upd H x (.ins C dx [("many", v)])))
theorem scRI : FnScope ["self", "many"] ["self", "many"] (defScope sRI) := ⟨rfl, rfl, rfl, by decide +kernel, rfl, by decide +kernel, by decide +kernel⟩
theorem ok_ri {f1 : Addr} {fd1 : FuncData} (t : Mx K "__init__" "Rule.__init__" sRI ["self", "many"] f fd) (T : T K mg AL LN RU OW PL PA VO CO fE fH rR rO rP rA rV iR iO iP iA iV iC cH cE cT SE NG NN NO NR NL NS NT NX NV TM UL) (D_check_many : Df P w K mg base (CX1 P w) 3 "check_many" ["many"] (spChM K NL) f1 fd1) :
    Md P w K mg base 4 ["self", "many"] (spRI K NL) f := by
  refine t.md1 scRI (fun vs H Q E h => ?_) (fun cdv A outer s H vs Q E hr h => ?_)
  · obtain ⟨x, C, dx, v, rfl, _⟩ := h
    rfl
  · obtain ⟨x, C, dx, v, rfl, hx, c, n, pl, k0, k⟩ := h
    refine ⟨_, (pss_cons (ps_expr (pe_d1 rais_def.toPass D_check_many hr (by decide) (by rfl) (pa_cons (pv 1) pa_nil)))
      (pss_one (ps_fld (pv 0) (pv 1) rfl))), ?_⟩
    refine ⟨_, rfl, v, rfl, pl, ?_⟩
    cases e : inB 1 6 v with
    | false => rw [if_neg Bool.false_ne_true]; exact k0 e
    | true =>
      rw [if_pos rfl]
      exact ⟨_, rfl, _, rfl, x, C, dx, [], rfl, hx, c, n, by decide, k e⟩
/-! ### Rule.hands -/
def spHs (K : PySem.W.Frag) : Sp := fun vs H Q _ => ∃ (a C dx : Addr) (fs : List (Str × V)) (v : V), vs = [.ref a] ∧ H a = some (.ins C dx fs) ∧ Cls K C ∧ NoAttr K C "many" ∧ fs.lookup ("many" : Str) = some v ∧ Q v H
theorem scHs : FnScope ["self"] ["self"] (defScope sHs) := ⟨rfl, rfl, rfl, by decide +kernel, rfl, by decide +kernel, by decide +kernel⟩
theorem ok_hs (t : Mx K "hands" "Rule.hands" sHs ["self"] f fd) : Md P w K mg base 1 ["self"] (spHs K) f := by
  refine t.md0 scHs (fun vs H Q E h => ?_) (fun cdv A outer s H vs Q E hr h => ?_)
  · obtain ⟨a, C, dx, fs, v, rfl, _⟩ := h
    rfl
  · obtain ⟨a, C, dx, fs, v, rfl, ha, c, n, hl, k⟩ := h
    refine ⟨_, (pss_one (ps_ret (pe_fld (pv 0) rfl))), ?_⟩
    exact ⟨_, rfl, a, C, dx, fs, v, rfl, ha, c, n, hl, k⟩
/-! ### Rule.reckon -/
def spRR : Sp := fun vs H Q _ => ∃ u v, vs = [u, v] ∧ Q (.int 0) H
theorem scRR : FnScope ["self", "group"] ["self", "group"] (defScope sRR) := ⟨rfl, rfl, rfl, by decide +kernel, rfl, by decide +kernel, by decide +kernel⟩
theorem ok_rr (t : Mx K "reckon" "Rule.reckon" sRR ["self", "group"] f fd) : Md P w K mg base 1 ["self", "group"] spRR f := by
  refine t.md0 scRR (fun vs H Q E h => ?_) (fun cdv A outer s H vs Q E hr h => ?_)
  · obtain ⟨u, v, rfl, _⟩ := h
    rfl
  · obtain ⟨u, v, rfl, k⟩ := h
    exact ⟨_, (pss_one (ps_ret pe_int)), k⟩
/-! ### Rule.earn -/
def spErn (P : Program) (w : World) (K : PySem.W.Frag) (mg : Str → Option Value) (base : Heap) (fE fH RU NG : Addr) : Sp := fun vs H Q E => ∃ (a : Addr) (m : Nat) (e : Nat → Int) (v : V), vs = [.ref a, v] ∧ RObj P w K mg base fE fH RU H a m e ∧ Pl K H v ∧
  (inB 0 (2 ^ m - 1) v = false → ∀ H', Same H H' → E (.ref NG) none H') ∧ ∀ (g : Nat), v = .int (g : Int) → g < 2 ^ m → ∀ H', Same H H' → Q (.int (e g)) H'
theorem scErn : FnScope ["self", "group"] ["self", "group"] (defScope sErn) := ⟨rfl, rfl, rfl, by decide +kernel, rfl, by decide +kernel, by decide +kernel⟩
theorem ok_ern {f1 : Addr} {fd1 : FuncData} (t : Mx K "earn" "Rule.earn" sErn ["self", "group"] f fd) (T : T K mg AL LN RU OW PL PA VO CO fE fH rR rO rP rA rV iR iO iP iA iV iC cH cE cT SE NG NN NO NR NL NS NT NX NV TM UL) (D_check_group : Df P w K mg base (CX1 P w) 3 "check_group" ["group", "many"] (spChk K NG) f1 fd1) :
    Md P w K mg base 7 ["self", "group"] (spErn P w K mg base fE fH RU NG) f := by
  refine t.md1 scErn (fun vs H Q E h => ?_) (fun cdv A outer s H vs Q E hr h => ?_)
  · obtain ⟨a, m, e, v, rfl, _⟩ := h
    rfl
  · obtain ⟨a, m, e, v, rfl, ro, pl, k0, k⟩ := h
    refine ⟨_, (pss_cons (ps_expr (pe_d1 rais_def.toPass D_check_group hr (by decide) (by rfl) (pa_cons (pv 1) (pa_cons (pe_fld (pv 0) rfl) pa_nil))))
      (pss_one (ps_ret (pe_methX (k := 6) rais_def.toPass (pv 0) hr (by decide) (pa_cons (pv 1) pa_nil))))), ?_⟩
    obtain ⟨C, dx, g, fs, h1, h2, h3, h4, h5, h6, ps, h7⟩ := ro
    refine ⟨_, rfl, _, rfl, a, C, dx, fs, _, rfl, h1, h2.oc.cl, h2.nm, h3, v, m, rfl, h5, pl, k0, fun yes H1 s1 => ?_⟩
    obtain ⟨gr, rfl, hg⟩ := inB_natM yes
    refine ⟨_, rfl, a, C, dx, fs, g, _, rfl, s1 _ _ h1, h6.2.2, h2.oc.cl, h2.mr, ⟨ps, h7⟩, ?_⟩
    exact ⟨_, rfl, gr, rfl, hg, s1, fun H3 s3 => k gr rfl hg H3 (s1.trans s3)⟩
/-! ### Own.__init__ -/
def spOI (K : PySem.W.Frag) (NL OW : Addr) : Sp := fun vs H Q E => ∃ (x dx p : Addr) (xs : List V), vs = [.ref x, .ref p] ∧ H x = some (.ins OW dx []) ∧ H p = some (.lst xs) ∧ (∀ v ∈ xs, Pl K H v) ∧ xs.length ≤ 1000 ∧
  (okN xs = false → ∀ H', SameBut x H H' → E (.ref NL) none H') ∧
  (okN xs = true → ∀ l H', H l = none → SameBut x H H' → H' x = some (.ins OW dx [("many", .int (xs.length : Int)), ("numbers", .ref l)]) → H' l = some (.lst xs) → Q .non H')
theorem scOI : FnScope ["self", "numbers"] ["self", "numbers"] (defScope sOI) := ⟨rfl, rfl, rfl, by decide +kernel, rfl, by decide +kernel, by decide +kernel⟩
theorem ok_oi {f1 : Addr} {fd1 : FuncData} (t : Mx K "__init__" "Own.__init__" sOI ["self", "numbers"] f fd) (T : T K mg AL LN RU OW PL PA VO CO fE fH rR rO rP rA rV iR iO iP iA iV iC cH cE cT SE NG NN NO NR NL NS NT NX NV TM UL) (D_RI : Md P w K mg base 4 ["self", "many"] (spRI K NL) iR) (D_check_numbers : Df P w K mg base (CX1 P w) 2 "check_numbers" ["things"] (spCkN K NL) f1 fd1) :
    Md P w K mg base 5 ["self", "numbers"] (spOI K NL OW) f := by
  refine t.md1 scOI (fun vs H Q E h => ?_) (fun cdv A outer s H vs Q E hr h => ?_)
  · obtain ⟨x, dx, p, xs, rfl, _⟩ := h
    rfl
  · obtain ⟨x, dx, p, xs, rfl, hx, hp, pl, hlen, k0, k⟩ := h
    refine ⟨_, (pss_cons (ps_expr (pe_cm rais_def.toPass (by rfl) T.mRU T.cRI D_RI hr (by decide) (pa_cons (pv 0) (pa_cons (pe_callB call_len_seq (by rfl) T.b_len bt_len (pa_cons (pv 1) pa_nil)) pa_nil))))
      (pss_cons (ps_expr (pe_d1 rais_def.toPass D_check_numbers hr (by decide) (by rfl) (pa_cons (pv 1) pa_nil)))
      (pss_one (ps_fld (pv 0) (pe_callTy call_list_of (by rfl) T.b_list bt_list (pa_cons (pv 1) pa_nil)) rfl)))), ?_⟩
    refine ⟨_, rfl, _, rfl, p, _, rfl, .inl (SqL.of hp), x, OW, dx, _, rfl, hx, T.rOW.oc.cl, T.rOW.nm, .int _, fun no => ?_, fun yes => ?_⟩
    · refine k0 ?_ H ((Same.refl H).but x)
      unfold okN
      rw [inB_16] at no
      rw [no]; rfl
    have ne : p ≠ x := ne_of hp hx (by intro z; cases z)
    have hp1 : upd H x (.ins OW dx [("many", V.int (xs.length : Int))]) p = some (.lst xs) := by rw [upd_ne ne]; exact hp
    have sb : SameBut x H (upd H x (.ins OW dx [("many", V.int (xs.length : Int))])) := ((Same.refl H).but x).updx _
    have pl1 : ∀ v ∈ xs, Pl K (upd H x (.ins OW dx [("many", V.int (xs.length : Int))])) v := fun v hv => (pl v hv).upd_ins hx
    refine ⟨_, rfl, p, xs, rfl, .inl hp1, pl1, hlen, fun no H1 s1 => ?_, fun yes2 H1 s1 => ?_⟩
    · refine k0 ?_ H1 (sb.then s1)
      unfold okN
      rw [no, Bool.and_false]
    refine ⟨_, rfl, p, _, rfl, .inl (SqL.of (s1 _ _ hp1)), fun l hl => ?_⟩
    have u2 := Same.upd_new (o := .lst xs) hl
    have hx2 := u2 _ _ (s1 _ _ (upd_same (H := H) (a := x) (o := .ins OW dx [("many", V.int (xs.length : Int))])))
    refine ⟨_, rfl, x, OW, dx, _, rfl, hx2, T.rOW.oc.cl, T.nOW, (by show 1 < 1000; decide), ?_⟩
    have nl : l ≠ x := (ne_of_none (s1 _ _ (upd_same (H := H) (a := x) (o := .ins OW dx [("many", V.int (xs.length : Int))]))) hl).symm
    refine k ?_ l _ ?_ ((sb.then (s1.trans u2)).updx _) upd_same (by rw [upd_ne nl]; exact upd_same)
    · unfold okN
      rw [inB_16] at yes
      rw [yes, yes2]; rfl
    · cases e : H l with
      | none => rfl
      | some o =>
        have z := s1 l o (by rw [upd_ne nl]; exact e)
        rw [hl] at z
        cases z
/-! ### Own.reckon -/
def spOR (OW : Addr) : Sp := fun vs H Q _ => ∃ (a dx l : Addr) (ns : List Int) (g : Nat), vs = [.ref a, .int (g : Int)] ∧ H a = some (.ins OW dx [("many", .int (ns.length : Int)), ("numbers", .ref l)]) ∧ H l = some (.lst (ns.map V.int)) ∧ ns.length ≤ 6 ∧ g < 2 ^ ns.length ∧ ∀ H', Same H H' → Q (.int (sumH ns g)) H'
theorem scOR : FnScope ["self", "group"] ["self", "group"] (defScope sOR) := ⟨rfl, rfl, rfl, by decide +kernel, rfl, by decide +kernel, by decide +kernel⟩
theorem ok_or {f1 : Addr} {fd1 : FuncData} (t : Mx K "reckon" "Own.reckon" sOR ["self", "group"] f fd) (T : T K mg AL LN RU OW PL PA VO CO fE fH rR rO rP rA rV iR iO iP iA iV iC cH cE cT SE NG NN NO NR NL NS NT NX NV TM UL) (D_sum_of_hands : Df P w K mg base CX0 5 "sum_of_hands" ["numbers", "group"] spSoH f1 fd1) :
    Md P w K mg base 6 ["self", "group"] (spOR OW) f := by
  refine t.md0 scOR (fun vs H Q E h => ?_) (fun cdv A outer s H vs Q E hr h => ?_)
  · obtain ⟨a, dx, l, ns, g, rfl, _⟩ := h
    rfl
  · obtain ⟨a, dx, l, ns, g, rfl, ha, hl, h6, hg, k⟩ := h
    refine ⟨_, (pss_one (ps_ret (pe_d0 D_sum_of_hands hr (by decide) (by rfl) (pa_cons (pe_fld (pv 0) rfl) (pa_cons (pv 1) pa_nil))))), ?_⟩
    exact ⟨_, rfl, a, OW, dx, _, _, rfl, ha, T.rOW.oc.cl, T.nOW, rfl, _, rfl, l, ns, g, rfl, hl, h6, hg, k⟩
theorem own_obj (D : Md P w K mg base 6 ["self", "group"] (spOR OW) rO) (c : RC K fE fH RU OW rO) {H : Hp} {a dx l : Addr} {ns : List Int} (ha : H a = some (.ins OW dx [("many", .int (ns.length : Int)), ("numbers", .ref l)])) (hl : H l = some (.lst (ns.map V.int))) (h1 : 1 ≤ ns.length) (h6 : ns.length ≤ 6) :
    RObj P w K mg base fE fH RU H a ns.length (sumH ns) :=
  ⟨OW, dx, rO, _, ha, c, rfl, h1, h6, ⟨rfl, rfl, rfl⟩, _, D.imp fun vs H2 Q _ ⟨gr, e, hg, s, q⟩ => ⟨a, dx, l, ns, gr, e, s _ _ ha, s _ _ hl, h6, hg, q⟩⟩
/-! ### Plain.__init__ -/
def spPI (K : PySem.W.Frag) (NT PL : Addr) : Sp := fun vs H Q E => ∃ (x dx p : Addr) (xs : List V), vs = [.ref x, .ref p] ∧ H x = some (.ins PL dx []) ∧ H p = some (.lst xs) ∧ (∀ v ∈ xs, Pl K H v) ∧ xs.length ≤ 1000 ∧
  (tabB xs = false → ∀ H', SameBut x H H' → E (.ref NT) none H') ∧
  (tabB xs = true → ∀ (m : Nat) l H', 1 ≤ m → m ≤ 6 → xs.length = 2 ^ m → H l = none → SameBut x H H' → H' x = some (.ins PL dx [("many", .int (m : Int)), ("earnings", .ref l)]) → H' l = some (.lst xs) → Q .non H')
theorem scPI : FnScope ["self", "table"] ["self", "table"] (defScope sPI) := ⟨rfl, rfl, rfl, by decide +kernel, rfl, by decide +kernel, by decide +kernel⟩
theorem ok_pi {f1 : Addr} {fd1 : FuncData} (t : Mx K "__init__" "Plain.__init__" sPI ["self", "table"] f fd) (T : T K mg AL LN RU OW PL PA VO CO fE fH rR rO rP rA rV iR iO iP iA iV iC cH cE cT SE NG NN NO NR NL NS NT NX NV TM UL) (D_RI : Md P w K mg base 4 ["self", "many"] (spRI K NL) iR) (D_hands_in : Df P w K mg base (CX1 P w) 3 "hands_in" ["table"] (spHin K NT) f1 fd1) :
    Md P w K mg base 5 ["self", "table"] (spPI K NT PL) f := by
  refine t.md1 scPI (fun vs H Q E h => ?_) (fun cdv A outer s H vs Q E hr h => ?_)
  · obtain ⟨x, dx, p, xs, rfl, _⟩ := h
    rfl
  · obtain ⟨x, dx, p, xs, rfl, hx, hp, pl, hlen, k0, k⟩ := h
    refine ⟨_, (pss_cons (ps_expr (pe_cm rais_def.toPass (by rfl) T.mRU T.cRI D_RI hr (by decide) (pa_cons (pv 0) (pa_cons (pe_d1 rais_def.toPass D_hands_in hr (by decide) (by rfl) (pa_cons (pv 1) pa_nil)) pa_nil))))
      (pss_one (ps_fld (pv 0) (pe_callTy call_list_of (by rfl) T.b_list bt_list (pa_cons (pv 1) pa_nil)) rfl))), ?_⟩
    refine ⟨_, rfl, _, rfl, p, xs, rfl, hp, pl, hlen, fun no H1 s1 => k0 no H1 (s1.but x), fun m h1 h6 hm yes H1 s1 => ?_⟩
    have i16 : inB 1 6 (.int (m : Int)) = true := by rw [inB_16, decide_eq_true h1, decide_eq_true h6]; rfl
    refine ⟨x, PL, dx, _, rfl, s1 _ _ hx, T.rPL.oc.cl, T.rPL.nm, .int _, fun no => ?_, fun _ => ?_⟩
    · rw [i16] at no
      cases no
    have ne : p ≠ x := ne_of hp hx (by intro z; cases z)
    have hp1 : upd H1 x (.ins PL dx [("many", V.int (m : Int))]) p = some (.lst xs) := by rw [upd_ne ne]; exact s1 _ _ hp
    refine ⟨_, rfl, p, _, rfl, .inl (SqL.of hp1), fun l hl => ?_⟩
    have u2 := Same.upd_new (o := .lst xs) hl
    have hx2 := u2 _ _ (upd_same (H := H1) (a := x) (o := .ins PL dx [("many", V.int (m : Int))]))
    refine ⟨_, rfl, x, PL, dx, _, rfl, hx2, T.rPL.oc.cl, T.nPL, (by show 1 < 1000; decide), ?_⟩
    have nl : l ≠ x := (ne_of_none (upd_same (H := H1) (a := x) (o := .ins PL dx [("many", V.int (m : Int))])) hl).symm
    refine k yes m l _ h1 h6 hm ?_ ((((s1.but x).updx _).then u2).updx _) upd_same (by rw [upd_ne nl]; exact upd_same)
    rw [upd_ne nl] at hl
    exact s1.free hl
/-! ### Plain.reckon -/
def spPR (PL : Addr) : Sp := fun vs H Q _ => ∃ (a dx l : Addr) (m : Nat) (ns : List Int) (g : Nat), vs = [.ref a, .int (g : Int)] ∧ H a = some (.ins PL dx [("many", .int (m : Int)), ("earnings", .ref l)]) ∧ H l = some (.lst (ns.map V.int)) ∧ g < ns.length ∧ ∀ H', Same H H' → Q (.int (ns.getD g 0)) H'
theorem scPR : FnScope ["self", "group"] ["self", "group"] (defScope sPR) := ⟨rfl, rfl, rfl, by decide +kernel, rfl, by decide +kernel, by decide +kernel⟩
theorem ok_pr (t : Mx K "reckon" "Plain.reckon" sPR ["self", "group"] f fd) (T : T K mg AL LN RU OW PL PA VO CO fE fH rR rO rP rA rV iR iO iP iA iV iC cH cE cT SE NG NN NO NR NL NS NT NX NV TM UL) : Md P w K mg base 1 ["self", "group"] (spPR PL) f := by
  refine t.md0 scPR (fun vs H Q E h => ?_) (fun cdv A outer s H vs Q E hr h => ?_)
  · obtain ⟨a, dx, l, m, ns, g, rfl, _⟩ := h
    rfl
  · obtain ⟨a, dx, l, m, ns, g, rfl, ha, hl, hg, k⟩ := h
    refine ⟨_, (pss_one (ps_ret (pe_ix ix_list (pe_fld (pv 0) rfl) (pv 1) (fun _ _ => rfl)))), ?_⟩
    have hat : atI (ns.map V.int) (g : Int) = some (.int (ns.getD g 0)) := atI_nat (by rw [List.getElem?_map, List.getD_eq_getElem?_getD, List.getElem?_eq_getElem hg]; rfl)
    exact ⟨_, rfl, a, PL, dx, _, _, rfl, ha, T.rPL.oc.cl, T.nPL, rfl, _, rfl, l, _, _, _, rfl, rfl, SqL.of hl, hat, k H (.refl H)⟩
theorem plain_obj (D : Md P w K mg base 1 ["self", "group"] (spPR PL) rP) (c : RC K fE fH RU PL rP) {H : Hp} {a dx l : Addr} {m : Nat} {ns : List Int} (ha : H a = some (.ins PL dx [("many", .int (m : Int)), ("earnings", .ref l)])) (hl : H l = some (.lst (ns.map V.int))) (hn : ns.length = 2 ^ m) (h1 : 1 ≤ m) (h6 : m ≤ 6) :
    RObj P w K mg base fE fH RU H a m (fun g => ns.getD g 0) :=
  ⟨PL, dx, rP, _, ha, c, rfl, h1, h6, ⟨rfl, rfl, rfl⟩, _, (D.up (by decide)).imp fun vs H2 Q _ ⟨gr, e, hg, s, q⟩ => ⟨a, dx, l, m, ns, gr, e, s _ _ ha, s _ _ hl, by omega, q⟩⟩
theorem rule_obj (D : Md P w K mg base 1 ["self", "group"] spRR rR) (c : RC K fE fH RU RU rR) {H : Hp} {a dx : Addr} {m : Nat} (ha : H a = some (.ins RU dx [("many", .int (m : Int))])) (h1 : 1 ≤ m) (h6 : m ≤ 6) :
    RObj P w K mg base fE fH RU H a m (fun _ => 0) :=
  ⟨RU, dx, rR, _, ha, c, rfl, h1, h6, ⟨rfl, rfl, rfl⟩, _, (D.up (by decide)).imp fun vs H2 Q _ ⟨gr, e, hg, s, q⟩ => ⟨_, _, e, q H2 (.refl _)⟩⟩
/-! ### Pairs.__init__ -/
def spPaI (K : PySem.W.Frag) (NL PA : Addr) : Sp := fun vs H Q E => ∃ (x dx p : Addr) (v : V) (as : List Addr), vs = [.ref x, v, .ref p] ∧ H x = some (.ins PA dx []) ∧ Pl K H v ∧ H p = some (.lst (as.map V.ref)) ∧ Tups K H as ∧ as.length < 64 ∧
  (inB 1 6 v = false → ∀ H', SameBut x H H' → E (.ref NL) none H') ∧ ∀ m : Int, v = .int m → inB 1 6 v = true →
    (okPs m (as.map (tupV H)) = false → ∀ H', SameBut x H H' → E (.ref NL) none H') ∧
    (okPs m (as.map (tupV H)) = true → ∀ (l : Addr) (bs : List Addr) (H' : Hp), H l = none → bs.Perm as → SameBut x H H' → H' x = some (.ins PA dx [("many", v), ("pairs", .ref l)]) → H' l = some (.lst (bs.map V.ref)) → Q .non H')
theorem scPaI : FnScope ["self", "many", "pairs"] ["self", "many", "pairs"] (defScope sPaI) := ⟨rfl, rfl, rfl, by decide +kernel, rfl, by decide +kernel, by decide +kernel⟩
theorem ok_pai {f1 : Addr} {fd1 : FuncData} (t : Mx K "__init__" "Pairs.__init__" sPaI ["self", "many", "pairs"] f fd) (T : T K mg AL LN RU OW PL PA VO CO fE fH rR rO rP rA rV iR iO iP iA iV iC cH cE cT SE NG NN NO NR NL NS NT NX NV TM UL) (D_RI : Md P w K mg base 4 ["self", "many"] (spRI K NL) iR) (D_sorted_pairs : Df P w K mg base (CX1 P w) 4 "sorted_pairs" ["many", "pairs"] (spSrt K NL) f1 fd1) :
    Md P w K mg base 5 ["self", "many", "pairs"] (spPaI K NL PA) f := by
  refine t.md1 scPaI (fun vs H Q E h => ?_) (fun cdv A outer s H vs Q E hr h => ?_)
  · obtain ⟨x, dx, p, v, as, rfl, _⟩ := h
    rfl
  · obtain ⟨x, dx, p, v, as, rfl, hx, pl, hp, ht, h64, k0, k⟩ := h
    refine ⟨_, (pss_cons (ps_expr (pe_cm rais_def.toPass (by rfl) T.mRU T.cRI D_RI hr (by decide) (pa_cons (pv 0) (pa_cons (pv 1) pa_nil))))
      (pss_one (ps_fld (pv 0) (pe_d1 rais_def.toPass D_sorted_pairs hr (by decide) (by rfl) (pa_cons (pv 1) (pa_cons (pv 2) pa_nil))) rfl))), ?_⟩
    refine ⟨_, rfl, _, rfl, x, PA, dx, v, rfl, hx, T.rPA.oc.cl, T.rPA.nm, pl, fun no => k0 no H ((Same.refl H).but x), fun yes => ?_⟩
    obtain ⟨m, rfl⟩ : ∃ m, v = .int m := by
      cases v <;> first | (exact ⟨_, rfl⟩) | (exact absurd yes Bool.false_ne_true)
    obtain ⟨k1, k2⟩ := k m rfl yes
    have at_ : ∀ b o, (∀ C dx fs, o ≠ HO.ins C dx fs) → H b = some o → upd H x (.ins PA dx [("many", V.int m)]) b = some o := fun b o n e => by
      rw [upd_ne]
      · exact e
      · rintro rfl
        rw [hx] at e
        exact n _ _ _ (Option.some.inj e).symm
    have hp1 := at_ _ _ (by intro _ _ _ z; cases z) hp
    have ht1 : Tups K (upd H x (.ins PA dx [("many", V.int m)])) as := fun a ha => by
      obtain ⟨xs, h1, h2, h3⟩ := ht a ha
      exact ⟨xs, at_ _ _ (by intro _ _ _ z; cases z) h1, fun v hv => (h2 v hv).upd_ins hx, h3⟩
    have eqm : as.map (tupV (upd H x (.ins PA dx [("many", V.int m)]))) = as.map (tupV H) := ht.eq fun a xs e => at_ _ _ (by intro _ _ _ z; cases z) e
    have sb : SameBut x H (upd H x (.ins PA dx [("many", V.int m)])) := ((Same.refl H).but x).updx _
    refine ⟨_, rfl, _, rfl, m, p, as, rfl, hp1, ht1, h64, fun no H1 s1 => ?_, fun ok l bs H1 hl hb s1 h1 => ?_⟩
    · rw [eqm] at no
      exact k1 no H1 (sb.then s1)
    rw [eqm] at ok
    have hx1 := s1 _ _ (upd_same (H := H) (a := x) (o := .ins PA dx [("many", V.int m)]))
    have nl : l ≠ x := (ne_of_none (upd_same (H := H) (a := x) (o := .ins PA dx [("many", V.int m)])) hl).symm
    refine ⟨_, rfl, x, PA, dx, _, rfl, hx1, T.rPA.oc.cl, T.nPA, (by show 1 < 1000; decide), ?_⟩
    refine k2 ok l bs _ ?_ hb ((sb.then s1).updx _) upd_same (by rw [upd_ne nl]; exact h1)
    rw [upd_ne nl] at hl
    exact hl
/-! ### Pairs.reckon -/
def pNum (t : List Int) (g : Nat) : Option Int := if both g (t.getD 0 0).toNat (t.getD 1 0).toNat = true then some (t.getD 2 0) else none
def sumP (H : Hp) (bs : List Addr) (g : Nat) : Int := (bs.filterMap fun b => pNum (tupOf H b) g).sum
theorem sum_permI {l l' : List Int} (h : l.Perm l') : l.sum = l'.sum := by
  induction h with
  | nil => rfl
  | cons x _ ih => rw [List.sum_cons, List.sum_cons, ih]
  | swap x y l => rw [List.sum_cons, List.sum_cons, List.sum_cons, List.sum_cons]; omega
  | trans _ _ h1 h2 => exact h1.trans h2
theorem sumP_perm {H : Hp} {bs as : List Addr} (h : bs.Perm as) (g : Nat) : sumP H bs g = sumP H as g := sum_permI (h.filterMap _)
/-- pairs of two hands of six and a number -/
def PairT (H : Hp) (b : Addr) : Prop := ∃ (i j : Nat) (n : Int), H b = some (.tup [.int (i : Int), .int (j : Int), .int n]) ∧ i < 6 ∧ j < 6
theorem PairT.same {H H' : Hp} {b : Addr} (h : PairT H b) (s : Same H H') : PairT H' b := let ⟨i, j, n, e, z⟩ := h; ⟨i, j, n, s _ _ e, z⟩
theorem sumP_same {H H' : Hp} {bs : List Addr} (h : ∀ b ∈ bs, PairT H b) (s : ∀ b ∈ bs, ∀ o, H b = some o → H' b = some o) (g : Nat) : sumP H' bs g = sumP H bs g := by
  unfold sumP
  congr 1
  refine fm_congr fun b hb => ?_
  obtain ⟨i, j, n, e, _⟩ := h b hb
  rw [tupOf_at (ns := [(i : Int), j, n]) e, tupOf_at (ns := [(i : Int), j, n]) (s b hb _ e)]
def spPaR (PA : Addr) : Sp := fun vs H Q _ => ∃ (a dx l : Addr) (m : Int) (bs : List Addr) (g : Nat), vs = [.ref a, .int (g : Int)] ∧ H a = some (.ins PA dx [("many", .int m), ("pairs", .ref l)]) ∧ H l = some (.lst (bs.map V.ref)) ∧ bs.length ≤ 1000 ∧ (∀ b ∈ bs, PairT H b) ∧ g < 64 ∧ ∀ H', Same H H' → Q (.int (sumP H bs g)) H'
theorem scPaR : FnScope ["self", "group"] ["self", "group"] (defScope sPaR) := ⟨rfl, rfl, rfl, by decide +kernel, rfl, by decide +kernel, by decide +kernel⟩
theorem ok_par {f1 : Addr} {fd1 : FuncData} (t : Mx K "reckon" "Pairs.reckon" sPaR ["self", "group"] f fd) (T : T K mg AL LN RU OW PL PA VO CO fE fH rR rO rP rA rV iR iO iP iA iV iC cH cE cT SE NG NN NO NR NL NS NT NX NV TM UL) (D_has_both : Df P w K mg base CX0 1 "has_both" ["group", "one", "other"] spHB f1 fd1) :
    Md P w K mg base 2 ["self", "group"] (spPaR PA) f := by
  refine t.md0 scPaR (fun vs H Q E h => ?_) (fun cdv A outer s H vs Q E hr h => ?_)
  · obtain ⟨a, dx, l, m, bs, g, rfl, _⟩ := h
    rfl
  · obtain ⟨a, dx, l, m, bs, g, rfl, ha, hl, hlen, hb, hg, k⟩ := h
    refine ⟨_, (pss_one (ps_ret (pe_callB (call_sum rfl) (by rfl) T.b_sum bt_sum (pa_cons (pe_comp (NB := ["one", "other", "number", "group"]) (pick := [none, none, none, some 1]) (blk_mk (by with_unfolding_all rfl) (by exact (And.intro rfl trivial)) rfl (by decide +kernel) (by decide +kernel) (by rfl) (by rfl)) rfl
          (pi_list (pe_fld (pv 0) rfl)) (fun _ _ _ => (show PG _ _ (gTup K 3 (gCons (gName 0) (gCons (gName 1) (gCons (gName 2) gNil)))) from pg_tup rfl (pgs_cons (pg_name (i := 0) (show (["one", "other", "number", "group"] : List Str).Nodup from by decide +kernel) rfl (Or.inl rfl)) (pgs_cons (pg_name (i := 1) (show (["one", "other", "number", "group"] : List Str).Nodup from by decide +kernel) rfl (Or.inl rfl)) (pgs_cons (pg_name (i := 2) (show (["one", "other", "number", "group"] : List Str).Nodup from by decide +kernel) rfl (Or.inl rfl)) pgs_nil)))))
          (fun _ _ _ => pif_one (pt_val (pe_d0 D_has_both hr (by decide) (by rfl) (pa_cons (pv 3) (pa_cons (pv 0) (pa_cons (pv 1) pa_nil)))))) (fun _ _ _ => (pv 2))) pa_nil)))), ?_⟩
    refine ⟨_, rfl, a, PA, dx, _, _, rfl, ha, T.rPA.oc.cl, T.nPA, rfl, l, rfl, ⟨_, SqL.of hl⟩, ?_⟩
    refine comp_lstG (xs := bs.map V.ref) (fun σ' => ∃ o0 o1 o2 : Option V, σ' = [o0, o1, o2, some (.int (g : Int))]) (fun _ x => match x with | .ref b => (pNum (tupOf H b) g).map V.int | _ => none) ⟨_, _, _, rfl⟩ (SqL.of hl) (by rw [List.length_map]; exact Nat.le_of_lt (small1000 hlen)) (fun i x σ1 H2 kk kk0 hσ s2 hx h1 h2 => ?_) fun D H2 hD s2 hd => ?_
    · obtain ⟨o0, o1, o2, rfl⟩ := hσ
      obtain ⟨b, hbm, rfl⟩ := List.mem_map.mp (List.mem_of_getElem? hx)
      obtain ⟨u, v, n, e, hu, hv⟩ := hb b hbm
      have et : pNum (tupOf H b) g = if both g u v = true then some n else none := by rw [tupOf_at (ns := [(u : Int), v, n]) e]; rfl
      refine ⟨b, _, rfl, SqT.of (s2 _ _ e), rfl, _, _, rfl, _, _, rfl, _, _, rfl, rfl, ?_⟩
      refine ⟨_, rfl, _, rfl, _, rfl, g, u, v, rfl, hg, hu, hv, _, rfl, ?_⟩
      cases eb : both g u v with
      | true => exact iteT ⟨_, rfl, h1 _ _ ⟨_, _, _, rfl⟩ (by show (pNum (tupOf H b) g).map V.int = _; rw [et, eb]; rfl) _ (.refl _)⟩
      | false => exact iteF (h2 _ ⟨_, _, _, rfl⟩ (by show (pNum (tupOf H b) g).map V.int = _; rw [et, eb]; rfl) _ (.refl _))
    · have ed : H2 D = some (.lst ((bs.filterMap fun b => pNum (tupOf H b) g).map V.int)) := by
        rw [hd, fm_bind, List.filterMap_map, List.map_filterMap]
        rfl
      refine ⟨D, _, rfl, .inl (SqL.of ed), k H2 s2⟩
theorem pairs_obj (D : Md P w K mg base 2 ["self", "group"] (spPaR PA) rA) (c : RC K fE fH RU PA rA) {H : Hp} {a dx l : Addr} {m : Nat} {bs : List Addr} (ha : H a = some (.ins PA dx [("many", .int (m : Int)), ("pairs", .ref l)])) (hl : H l = some (.lst (bs.map V.ref))) (hlen : bs.length ≤ 1000) (hb : ∀ b ∈ bs, PairT H b) (h1 : 1 ≤ m) (h6 : m ≤ 6) :
    RObj P w K mg base fE fH RU H a m (sumP H bs) :=
  ⟨PA, dx, rA, _, ha, c, rfl, h1, h6, ⟨rfl, rfl, rfl⟩, _, (D.up (by decide)).imp fun vs H2 Q _ ⟨gr, e, hg, s, q⟩ => ⟨a, dx, l, _, bs, gr, e, s _ _ ha, s _ _ hl, hlen, fun b hb' => (hb b hb').same s, Nat.lt_of_lt_of_le hg (pow6 h6), by
    rw [sumP_same hb fun b _ o e => s b o e]; exact q⟩⟩
/-! ### Votes.__init__ -/
def okV (vq vp : V) (xs : List V) : Bool := okN xs && isI vq && isI vp && (match vq with | .int q => decide (1 ≤ q) | _ => false)
def spVI (K : PySem.W.Frag) (NL VO : Addr) : Sp := fun vs H Q E => ∃ (x dx p : Addr) (vq vp : V) (xs : List V), vs = [.ref x, vq, vp, .ref p] ∧ H x = some (.ins VO dx []) ∧ Pl K H vq ∧ Pl K H vp ∧ H p = some (.lst xs) ∧ (∀ v ∈ xs, Pl K H v) ∧ xs.length ≤ 1000 ∧
  (okV vq vp xs = false → ∀ H', SameBut x H H' → E (.ref NL) none H') ∧
  (okV vq vp xs = true → ∀ l H', H l = none → SameBut x H H' → H' x = some (.ins VO dx [("many", .int (xs.length : Int)), ("quota", vq), ("prize", vp), ("weights", .ref l)]) → H' l = some (.lst xs) → Q .non H')
theorem scVI : FnScope ["self", "quota", "prize", "weights"] ["self", "quota", "prize", "weights"] (defScope sVI) := ⟨rfl, rfl, rfl, by decide +kernel, rfl, by decide +kernel, by decide +kernel⟩
theorem ok_vi {f1 : Addr} {fd1 : FuncData} (t : Mx K "__init__" "Votes.__init__" sVI ["self", "quota", "prize", "weights"] f fd) (T : T K mg AL LN RU OW PL PA VO CO fE fH rR rO rP rA rV iR iO iP iA iV iC cH cE cT SE NG NN NO NR NL NS NT NX NV TM UL) (D_RI : Md P w K mg base 4 ["self", "many"] (spRI K NL) iR) (D_check_numbers : Df P w K mg base (CX1 P w) 2 "check_numbers" ["things"] (spCkN K NL) f1 fd1) :
    Md P w K mg base 5 ["self", "quota", "prize", "weights"] (spVI K NL VO) f := by
  refine t.md1 scVI (fun vs H Q E h => ?_) (fun cdv A outer s H vs Q E hr h => ?_)
  · obtain ⟨x, dx, p, vq, vp, xs, rfl, _⟩ := h
    rfl
  · obtain ⟨x, dx, p, vq, vp, xs, rfl, hx, plq, plp, hp, pl, hlen, k0, k⟩ := h
    refine ⟨_, (pss_cons (ps_expr (pe_cm rais_def.toPass (by rfl) T.mRU T.cRI D_RI hr (by decide) (pa_cons (pv 0) (pa_cons (pe_callB call_len_seq (by rfl) T.b_len bt_len (pa_cons (pv 3) pa_nil)) pa_nil))))
      (pss_cons (ps_expr (pe_d1 rais_def.toPass D_check_numbers hr (by decide) (by rfl) (pa_cons (pe_lst (pa_cons (pv 1) (pa_cons (pv 2) pa_nil))) pa_nil)))
      (pss_cons (ps_expr (pe_d1 rais_def.toPass D_check_numbers hr (by decide) (by rfl) (pa_cons (pv 3) pa_nil)))
      (pss_cons (ps_if (pt_cmpR op_lt (pv 1) pe_int (nomark _)) (pss_one (ps_raise rais_def rfl (by rfl) T.mNL T.xNL (pa_cons pe_str pa_nil))) pss_nil)
      (pss_cons (ps_fld (pv 0) (pv 1) rfl)
      (pss_cons (ps_fld (pv 0) (pv 2) rfl)
      (pss_one (ps_fld (pv 0) (pe_callTy call_list_of (by rfl) T.b_list bt_list (pa_cons (pv 3) pa_nil)) rfl)))))))), ?_⟩
    refine ⟨_, rfl, _, rfl, p, _, rfl, .inl (SqL.of hp), x, VO, dx, _, rfl, hx, T.rVO.oc.cl, T.rVO.nm, .int _, fun no => ?_, fun yes => ?_⟩
    · refine k0 ?_ H ((Same.refl H).but x)
      unfold okV okN
      rw [inB_16] at no
      rw [no]; rfl
    rw [inB_16] at yes
    have ne : p ≠ x := ne_of hp hx (by intro z; cases z)
    have hp1 : upd H x (.ins VO dx [("many", V.int (xs.length : Int))]) p = some (.lst xs) := by rw [upd_ne ne]; exact hp
    have hx1 : upd H x (.ins VO dx [("many", V.int (xs.length : Int))]) x = some (.ins VO dx [("many", V.int (xs.length : Int))]) := upd_same
    have sb : SameBut x H (upd H x (.ins VO dx [("many", V.int (xs.length : Int))])) := ((Same.refl H).but x).updx _
    have pl1 : ∀ v ∈ xs, Pl K (upd H x (.ins VO dx [("many", V.int (xs.length : Int))])) v := fun v hv => (pl v hv).upd_ins hx
    have plq1 : Pl K (upd H x (.ins VO dx [("many", V.int (xs.length : Int))])) vq := plq.upd_ins hx
    have plp1 : Pl K (upd H x (.ins VO dx [("many", V.int (xs.length : Int))])) vp := plp.upd_ins hx
    generalize upd H x (.ins VO dx [("many", V.int (xs.length : Int))]) = H0 at hp1 hx1 sb pl1 plq1 plp1 ⊢
    refine ⟨_, rfl, _, rfl, by show 2 ≤ sizeLine; decide, fun c hc => ?_⟩
    have u1 := Same.upd_new (o := .lst [vq, vp]) hc
    refine ⟨c, _, rfl, .inl upd_same, fun v hv => ?_, by show 2 ≤ 1000; decide, fun no H1 s1 => ?_, fun yes2 H1 s1 => ?_⟩
    · simp only [List.mem_cons, List.not_mem_nil, or_false] at hv
      rcases hv with rfl | rfl
      · exact plq1.same u1
      · exact plp1.same u1
    · refine k0 ?_ H1 (sb.then (u1.trans s1))
      have z : (isI vq && (isI vp && true)) = false := no
      unfold okV
      rw [Bool.and_true] at z
      rw [Bool.and_assoc (okN xs), z, Bool.and_false, Bool.false_and]
    have z : (isI vq && (isI vp && true)) = true := yes2
    rw [Bool.and_true, Bool.and_eq_true] at z
    have t1 := u1.trans s1
    refine ⟨_, rfl, p, xs, rfl, .inl (t1 _ _ hp1), fun v hv => (pl1 v hv).same t1, hlen, fun no H2 s2 => ?_, fun yes3 H2 s2 => ?_⟩
    · refine k0 ?_ H2 (sb.then (t1.trans s2))
      unfold okV okN
      rw [no, Bool.and_false, Bool.false_and, Bool.false_and, Bool.false_and]
    have t2 := t1.trans s2
    obtain ⟨q, rfl⟩ : ∃ q, vq = .int q := by
      cases vq <;> first | (exact ⟨_, rfl⟩) | (exact absurd z.1 Bool.false_ne_true)
    refine ⟨_, rfl, _, _, rfl, rfl, _, rfl, ?_⟩
    cases hq : decide (q < 1) with
    | true =>
      refine iteT ⟨by show 1 ≤ sizeLine; decide, k0 ?_ H2 (sb.then t2)⟩
      have : ¬ 1 ≤ q := by have := of_decide_eq_true hq; omega
      unfold okV
      show (_ && decide (1 ≤ q)) = false
      rw [decide_eq_false this, Bool.and_false]
    | false =>
      have hq1 : 1 ≤ q := by have := of_decide_eq_false hq; omega
      refine iteF ?_
      have hx2 := t2 _ _ hx1
      refine ⟨_, rfl, _, rfl, x, VO, dx, _, rfl, hx2, T.rVO.oc.cl, T.nVO, (by show 1 < 1000; decide), ?_⟩
      refine ⟨_, rfl, _, rfl, x, VO, dx, _, rfl, upd_same, T.rVO.oc.cl, T.nVO1, (by show 2 < 1000; decide), ?_⟩
      have ne2 : p ≠ x := ne
      have hp3 : upd (upd H2 x (.ins VO dx [("many", V.int (xs.length : Int)), ("quota", .int q)])) x (.ins VO dx [("many", V.int (xs.length : Int)), ("quota", .int q), ("prize", vp)]) p = some (.lst xs) := by rw [upd_ne ne2, upd_ne ne2]; exact t2 _ _ hp1
      refine ⟨_, rfl, p, _, rfl, .inl (SqL.of hp3), fun l hl => ?_⟩
      have hx3 : upd (upd H2 x (.ins VO dx [("many", V.int (xs.length : Int)), ("quota", .int q)])) x (.ins VO dx [("many", V.int (xs.length : Int)), ("quota", .int q), ("prize", vp)]) x = some (.ins VO dx [("many", V.int (xs.length : Int)), ("quota", .int q), ("prize", vp)]) := upd_same
      have u4 := Same.upd_new (o := .lst xs) hl
      have nl : l ≠ x := (ne_of_none hx3 hl).symm
      refine ⟨_, rfl, x, VO, dx, _, rfl, u4 _ _ hx3, T.rVO.oc.cl, T.nVO2, (by show 3 < 1000; decide), ?_⟩
      refine k ?_ l _ ?_ (((((sb.then t2).updx _).updx _).then u4).updx _) upd_same (by rw [upd_ne nl]; exact upd_same)
      · unfold okV okN
        show (_ && _ && decide (1 ≤ q)) = true
        rw [yes, yes3, z.2, decide_eq_true hq1]
        rfl
      · rw [upd_ne nl, upd_ne nl] at hl
        cases e : H l with
        | none => rfl
        | some o =>
          have z := (sb.then t2) l o nl e
          rw [hl] at z
          cases z
/-! ### Votes.reckon -/
def votN (q pz : Int) (ws : List Int) (g : Nat) : Int := if q ≤ sumH ws g then pz else 0
def spVR (VO : Addr) : Sp := fun vs H Q _ => ∃ (a dx l : Addr) (q pz : Int) (ws : List Int) (g : Nat), vs = [.ref a, .int (g : Int)] ∧ H a = some (.ins VO dx [("many", .int (ws.length : Int)), ("quota", .int q), ("prize", .int pz), ("weights", .ref l)]) ∧ H l = some (.lst (ws.map V.int)) ∧ ws.length ≤ 6 ∧ g < 2 ^ ws.length ∧ ∀ H', Same H H' → Q (.int (votN q pz ws g)) H'
theorem scVR : FnScope ["self", "group"] ["self", "group"] (defScope sVR) := ⟨rfl, rfl, rfl, by decide +kernel, rfl, by decide +kernel, by decide +kernel⟩
theorem ok_vr {f1 : Addr} {fd1 : FuncData} (t : Mx K "reckon" "Votes.reckon" sVR ["self", "group"] f fd) (T : T K mg AL LN RU OW PL PA VO CO fE fH rR rO rP rA rV iR iO iP iA iV iC cH cE cT SE NG NN NO NR NL NS NT NX NV TM UL) (D_sum_of_hands : Df P w K mg base CX0 5 "sum_of_hands" ["numbers", "group"] spSoH f1 fd1) :
    Md P w K mg base 6 ["self", "group"] (spVR VO) f := by
  refine t.md0 scVR (fun vs H Q E h => ?_) (fun cdv A outer s H vs Q E hr h => ?_)
  · obtain ⟨a, dx, l, q, pz, ws, g, rfl, _⟩ := h
    rfl
  · obtain ⟨a, dx, l, q, pz, ws, g, rfl, ha, hl, h6, hg, k⟩ := h
    refine ⟨_, (pss_one (ps_ret (pe_ifExp (pt_cmpR op_ge (pe_d0 D_sum_of_hands hr (by decide) (by rfl) (pa_cons (pe_fld (pv 0) rfl) (pa_cons (pv 1) pa_nil))) (pe_fld (pv 0) rfl) (nomark _)) (pe_fld (pv 0) rfl) pe_int))), ?_⟩
    refine ⟨_, rfl, a, VO, dx, _, _, rfl, ha, T.rVO.oc.cl, T.nVO2, rfl, _, rfl, l, ws, g, rfl, hl, h6, hg, fun H1 s1 => ?_⟩
    refine ⟨_, rfl, a, VO, dx, _, _, rfl, s1 _ _ ha, T.rVO.oc.cl, T.nVO, rfl, _, _, rfl, rfl, _, rfl, ?_⟩
    have z := k H1 s1
    unfold votN at z
    refine ite2 (fun h1 => ?_) (fun h1 => ?_)
    · rw [if_pos (of_decide_eq_true h1)] at z
      exact ⟨_, rfl, a, VO, dx, _, _, rfl, s1 _ _ ha, T.rVO.oc.cl, T.nVO1, rfl, z⟩
    · rw [if_neg (fun q => h1 (decide_eq_true q))] at z
      exact z
theorem votes_obj (D : Md P w K mg base 6 ["self", "group"] (spVR VO) rV) (c : RC K fE fH RU VO rV) {H : Hp} {a dx l : Addr} {q pz : Int} {ws : List Int} (ha : H a = some (.ins VO dx [("many", .int (ws.length : Int)), ("quota", .int q), ("prize", .int pz), ("weights", .ref l)])) (hl : H l = some (.lst (ws.map V.int))) (h1 : 1 ≤ ws.length) (h6 : ws.length ≤ 6) :
    RObj P w K mg base fE fH RU H a ws.length (votN q pz ws) :=
  ⟨VO, dx, rV, _, ha, c, rfl, h1, h6, ⟨rfl, rfl, rfl⟩, _, D.imp fun vs H2 Q _ ⟨gr, e, hg, s, z⟩ => ⟨a, dx, l, q, pz, ws, gr, e, s _ _ ha, s _ _ hl, h6, hg, z⟩⟩
-- SPLIT
/-! ### Company.__init__ -/
/-- rules that were handed in: where, for how many hands, what groups earn -/
abbrev Ru := Addr × Nat × (Nat → Int)
def RusAt (P : Program) (w : World) (K : PySem.W.Frag) (mg : Str → Option Value) (base : Heap) (fE fH RU : Addr) (H : Hp) (os : List Ru) : Prop := ∀ o ∈ os, RObj P w K mg base fE fH RU H o.1 o.2.1 o.2.2
theorem RusAt.same {fE fH RU : Addr} {H H' : Hp} {os : List Ru} (h : RusAt P w K mg base fE fH RU H os) (s : Same H H') : RusAt P w K mg base fE fH RU H' os := fun o ho => (h o ho).same s
def refs (os : List Ru) : List V := os.map fun o => V.ref o.1
def badC (v : V) (os : List Ru) : Bool := !(inB 1 6 v) || decide (12 < os.length) || (os.any fun o => !(decide (V.int (o.2.1 : Int) = v)))
def spCI (P : Program) (w : World) (K : PySem.W.Frag) (mg : Str → Option Value) (base : Heap) (fE fH RU CO NL : Addr) : Sp := fun vs H Q E => ∃ (x dx p : Addr) (v : V) (os : List Ru), vs = [.ref x, v, .ref p] ∧ H x = some (.ins CO dx []) ∧ H p = some (.lst (refs os)) ∧ os.length ≤ 60 ∧ RusAt P w K mg base fE fH RU H os ∧ Pl K H v ∧
  (badC v os = true → ∀ H', Same H H' → E (.ref NL) none H') ∧
  (badC v os = false → ∀ l H', H l = none → SameBut x H H' → H' x = some (.ins CO dx [("many", v), ("rules", .ref l)]) → H' l = some (.lst (refs os)) → Q .non H')
theorem scCI : FnScope ["self", "many", "rules"] ["self", "many", "rules"] (defScope sCI) := ⟨rfl, rfl, rfl, by decide +kernel, rfl, by decide +kernel, by decide +kernel⟩
theorem ok_ci {f1 : Addr} {fd1 : FuncData} (t : Mx K "__init__" "Company.__init__" sCI ["self", "many", "rules"] f fd) (T : T K mg AL LN RU OW PL PA VO CO fE fH rR rO rP rA rV iR iO iP iA iV iC cH cE cT SE NG NN NO NR NL NS NT NX NV TM UL) (D_check_many : Df P w K mg base (CX1 P w) 3 "check_many" ["many"] (spChM K NL) f1 fd1) (D_Hs : Md P w K mg base 1 ["self"] (spHs K) fH) :
    Md P w K mg base 4 ["self", "many", "rules"] (spCI P w K mg base fE fH RU CO NL) f := by
  refine t.md1 scCI (fun vs H Q E h => ?_) (fun cdv A outer s H vs Q E hr h => ?_)
  · obtain ⟨x, dx, p, v, os, rfl, _⟩ := h
    rfl
  · obtain ⟨x, dx, p, v, os, rfl, hx, hp, ol, ro, pl, k0, k⟩ := h
    obtain ⟨tkMR, hMR⟩ := T.mr
    have rl : (refs os).length = os.length := by unfold refs; rw [List.length_map]
    refine ⟨_, (pss_cons (ps_expr (pe_d1 rais_def.toPass D_check_many hr (by decide) (by rfl) (pa_cons (pv 1) pa_nil)))
      (pss_cons (ps_if (pt_cmpR op_gt (pe_callB call_len_seq (by rfl) T.b_len bt_len (pa_cons (pv 2) pa_nil)) (pe_glob (v := .int 12) (by rfl) hMR ⟨tkMR, rfl⟩) (nomark _)) (pss_one (ps_raise rais_def rfl (by rfl) T.mNL T.xNL (pa_cons pe_str pa_nil))) pss_nil)
      (pss_cons (ps_if (pt_val (pe_callB (call_any rfl) (by rfl) T.b_any bt_any (pa_cons (pe_comp (NB := ["rule", "many"]) (pick := [none, some 1]) (blk_mk (by with_unfolding_all rfl) (by exact (And.intro rfl trivial)) rfl (by decide +kernel) (by decide +kernel) (by rfl) (by rfl)) rfl
          (pi_list (pv 2)) (fun _ _ _ => pg_name (i := 0) (show (["rule", "many"] : List Str).Nodup from by decide +kernel) rfl (Or.inl rfl))
          (fun _ _ _ => pif_nil) (fun _ _ _ => (pe_cmpR op_ne (pe_methX0K P w K mg base rfl rfl rfl rfl rfl (k := 1) pass_no (pv 0) hr (by decide)) (pv 1) (nomark _)))) pa_nil))) (pss_one (ps_raise rais_def rfl (by rfl) T.mNL T.xNL (pa_cons pe_str pa_nil))) pss_nil)
      (pss_cons (ps_fld (pv 0) (pv 1) rfl)
      (pss_one (ps_fld (pv 0) (pe_callTy call_list_of (by rfl) T.b_list bt_list (pa_cons (pv 2) pa_nil)) rfl)))))), ?_⟩
    refine ⟨_, rfl, v, rfl, pl, ?_⟩
    cases e1 : inB 1 6 v with
    | false =>
      rw [if_neg Bool.false_ne_true]
      exact k0 (by unfold badC; rw [e1]; rfl) H (.refl _)
    | true =>
      rw [if_pos rfl]
      refine ⟨_, rfl, p, _, rfl, .inl (SqL.of hp), _, _, rfl, rfl, _, rfl, ?_⟩
      have ec : decide (((refs os).length : Int) > 12) = decide (12 < os.length) := by
        rw [rl]
        by_cases z : 12 < os.length
        · rw [decide_eq_true z, decide_eq_true (by omega)]
        · rw [decide_eq_false z, decide_eq_false (by omega)]
      show if decide (((refs os).length : Int) > 12) = true then _ else _
      rw [ec]
      cases e2 : decide (12 < os.length) with
      | true => exact iteT ⟨by show 1 ≤ sizeLine; decide, k0 (by unfold badC; rw [e1, e2]; rfl) H (.refl _)⟩
      | false =>
        refine iteF ?_
        obtain ⟨m, rfl⟩ : ∃ m : Int, v = .int m := by
          cases v with
          | int i => exact ⟨i, rfl⟩
          | _ => cases e1
        refine ⟨_, rfl, p, rfl, ⟨_, SqL.of hp⟩, ?_⟩
        refine comp_lst (xs := refs os) (fun i _ => (os[i]?).map fun o => V.bl (!decide (V.int (o.2.1 : Int) = V.int m))) (SqL.of hp) (by rw [rl]; exact Nat.le_of_lt (small1000 (by omega))) (fun i y H2 kk kk0 s2 hy g1 g2 => ?_) fun D H2 hD s2 hd => ?_
        · have hi : i < os.length := by
            obtain ⟨z, _⟩ := List.getElem?_eq_some_iff.mp hy
            rw [rl] at z
            exact z
          obtain rfl : V.ref os[i].1 = y := by
            unfold refs at hy
            rw [List.getElem?_map, List.getElem?_eq_getElem hi] at hy
            exact Option.some.inj hy
          obtain ⟨C, dx', g, fs, h1, h2, h3, h4, h5, h6, ps, h7⟩ := ro os[i] (List.getElem_mem hi)
          have h1 := s2 _ _ h1
          refine ⟨_, rfl, os[i].1, C, dx', fs, fH, spHs K, rfl, h1, h6.2.1, h2.oc.cl, h2.mh, ⟨_, D_Hs⟩, ?_⟩
          refine ⟨os[i].1, C, dx', fs, _, rfl, h1, h2.oc.cl, h2.nm, h3, _, rfl, rfl, g1 _ ?_ _ (.refl _)⟩
          rw [List.getElem?_eq_getElem hi]
          rfl
        have ed : ((List.range (refs os).length).filterMap fun i => ((refs os)[i]?).bind fun _ => (os[i]?).map fun o => V.bl (!decide (V.int (o.2.1 : Int) = V.int m))) = (os.map fun o => !decide (V.int (o.2.1 : Int) = V.int m)).map V.bl := by
          rw [rl, List.map_map]
          refine Eq.trans (fm_congr (g := fun i => (os[i]?).bind fun o => some (V.bl (!decide (V.int (o.2.1 : Int) = V.int m)))) fun i hi => ?_) ?_
          · have hi := List.mem_range.mp hi
            rw [List.getElem?_eq_getElem (l := refs os) (by rw [rl]; exact hi), List.getElem?_eq_getElem hi]
            rfl
          · rw [fm_bind, List.filterMap_eq_map']
            rfl
        rw [ed] at hd
        refine ⟨D, _, rfl, SqL.of hd, _, rfl, ?_⟩
        have ea : (os.map fun o => !decide (V.int (o.2.1 : Int) = V.int m)).any id = os.any fun o => !(decide (V.int (o.2.1 : Int) = V.int m)) := by rw [List.any_map]; rfl
        rw [ea]
        cases e3 : os.any fun o => !(decide (V.int (o.2.1 : Int) = V.int m)) with
        | true => exact iteT ⟨by show 1 ≤ sizeLine; decide, k0 (by unfold badC; rw [e1, e2, e3]; rfl) H2 s2⟩
        | false =>
          refine iteF ?_
          have hx2 := s2 _ _ hx
          have hp2 := s2 _ _ hp
          refine ⟨_, rfl, _, rfl, x, CO, dx, [], rfl, hx2, T.rCO.oc.cl, T.rCO.nm, by decide, ?_⟩
          have ne : p ≠ x := ne_of hp hx (by intro z; cases z)
          have hp3 : upd H2 x (.ins CO dx [("many", V.int m)]) p = some (.lst (refs os)) := by rw [upd_ne ne]; exact hp2
          have sb : SameBut x H (upd H2 x (.ins CO dx [("many", V.int m)])) := (s2.but x).updx _
          have hx3 : upd H2 x (.ins CO dx [("many", V.int m)]) x = some (.ins CO dx [("many", V.int m)]) := upd_same
          rw [show putF ("many" : Str) (V.int m) [] = [(("many" : Str), V.int m)] from rfl]
          generalize upd H2 x (.ins CO dx [("many", V.int m)]) = H3 at hp3 sb hx3 ⊢
          refine ⟨_, rfl, p, _, rfl, .inl (SqL.of hp3), fun l hl => ?_⟩
          have u4 := Same.upd_new (o := .lst (refs os)) hl
          have nl : l ≠ x := (ne_of_none hx3 hl).symm
          refine ⟨_, rfl, x, CO, dx, _, rfl, u4 _ _ hx3, T.rCO.oc.cl, T.rCO.nr, (by show 1 < 1000; decide), ?_⟩
          refine k (by unfold badC; rw [e1, e2, e3]; rfl) l _ ?_ ((sb.then u4).updx _) upd_same (by rw [upd_ne nl]; exact upd_same)
          cases e : H l with
          | none => rfl
          | some o =>
            have z := sb l o nl e
            rw [hl] at z
            cases z
/-! ### Company.hands -/
theorem scCH : FnScope ["self"] ["self"] (defScope sCH) := ⟨rfl, rfl, rfl, by decide +kernel, rfl, by decide +kernel, by decide +kernel⟩
theorem ok_ch (t : Mx K "hands" "Company.hands" sCH ["self"] f fd) : Md P w K mg base 1 ["self"] (spHs K) f := by
  refine t.md0 scCH (fun vs H Q E h => ?_) (fun cdv A outer s H vs Q E hr h => ?_)
  · obtain ⟨a, C, dx, fs, v, rfl, _⟩ := h
    rfl
  · obtain ⟨a, C, dx, fs, v, rfl, ha, c, n, hl, k⟩ := h
    refine ⟨_, (pss_one (ps_ret (pe_fld (pv 0) rfl))), ?_⟩
    exact ⟨_, rfl, a, C, dx, fs, v, rfl, ha, c, n, hl, k⟩
/-! ### Company.earn -/
/-- a company of these rules -/
def CObj (P : Program) (w : World) (K : PySem.W.Frag) (mg : Str → Option Value) (base : Heap) (fE fH RU CO : Addr) (H : Hp) (a : Addr) (m : Nat) (os : List Ru) : Prop :=
  ∃ (dx l : Addr), H a = some (.ins CO dx [("many", .int (m : Int)), ("rules", .ref l)]) ∧ H l = some (.lst (refs os)) ∧ os.length ≤ 12 ∧ 1 ≤ m ∧ m ≤ 6 ∧ RusAt P w K mg base fE fH RU H os ∧ ∀ o ∈ os, o.2.1 = m
theorem CObj.same {fE fH RU CO : Addr} {H H' : Hp} {a : Addr} {m : Nat} {os : List Ru} (h : CObj P w K mg base fE fH RU CO H a m os) (s : Same H H') : CObj P w K mg base fE fH RU CO H' a m os := by
  obtain ⟨dx, l, h1, h2, h3, h4, h5, h6, h7⟩ := h
  exact ⟨dx, l, s _ _ h1, s _ _ h2, h3, h4, h5, h6.same s, h7⟩
def earnC (os : List Ru) (g : Nat) : Int := (os.map fun o => o.2.2 g).sum
def spCE (P : Program) (w : World) (K : PySem.W.Frag) (mg : Str → Option Value) (base : Heap) (fE fH RU CO NG : Addr) : Sp := fun vs H Q E => ∃ (a : Addr) (m : Nat) (os : List Ru) (v : V), vs = [.ref a, v] ∧ CObj P w K mg base fE fH RU CO H a m os ∧ Pl K H v ∧
  (inB 0 (2 ^ m - 1) v = false → ∀ H', Same H H' → E (.ref NG) none H') ∧ ∀ (g : Nat), v = .int (g : Int) → g < 2 ^ m → ∀ H', Same H H' → Q (.int (earnC os g)) H'
theorem scCE : FnScope ["self", "group"] ["self", "group"] (defScope sCE) := ⟨rfl, rfl, rfl, by decide +kernel, rfl, by decide +kernel, by decide +kernel⟩
theorem ok_ce {f1 : Addr} {fd1 : FuncData} (t : Mx K "earn" "Company.earn" sCE ["self", "group"] f fd) (T : T K mg AL LN RU OW PL PA VO CO fE fH rR rO rP rA rV iR iO iP iA iV iC cH cE cT SE NG NN NO NR NL NS NT NX NV TM UL) (D_check_group : Df P w K mg base (CX1 P w) 3 "check_group" ["group", "many"] (spChk K NG) f1 fd1) (D_Ern : Md P w K mg base 7 ["self", "group"] (spErn P w K mg base fE fH RU NG) fE) :
    Md P w K mg base 8 ["self", "group"] (spCE P w K mg base fE fH RU CO NG) f := by
  refine t.md1 scCE (fun vs H Q E h => ?_) (fun cdv A outer s H vs Q E hr h => ?_)
  · obtain ⟨a, m, os, v, rfl, _⟩ := h
    rfl
  · obtain ⟨a, m, os, v, rfl, co, pl, k0, k⟩ := h
    obtain ⟨dx, l, h1, h2, h3, h4, h5, h6, h7⟩ := id co
    have rl : (refs os).length = os.length := by unfold refs; rw [List.length_map]
    refine ⟨_, (pss_cons (ps_expr (pe_d1 rais_def.toPass D_check_group hr (by decide) (by rfl) (pa_cons (pv 1) (pa_cons (pe_fld (pv 0) rfl) pa_nil))))
      (pss_one (ps_ret (pe_callB (call_sum rfl) (by rfl) T.b_sum bt_sum (pa_cons (pe_comp (NB := ["rule", "group"]) (pick := [none, some 1]) (blk_mk (by with_unfolding_all rfl) (by exact (And.intro rfl trivial)) rfl (by decide +kernel) (by decide +kernel) (by rfl) (by rfl)) rfl
          (pi_list (pe_fld (pv 0) rfl)) (fun _ _ _ => pg_name (i := 0) (show (["rule", "group"] : List Str).Nodup from by decide +kernel) rfl (Or.inl rfl))
          (fun _ _ _ => pif_nil) (fun _ _ _ => (pe_methXK P w K mg base rfl rfl rfl rfl rfl (k := 7) pass_no (pv 0) hr (by decide) (pa_cons (pv 1) pa_nil)))) pa_nil))))), ?_⟩
    refine ⟨_, rfl, _, rfl, a, CO, dx, _, _, rfl, h1, T.rCO.oc.cl, T.rCO.nm, rfl, v, m, rfl, h5, pl, k0, fun yes H1 s1 => ?_⟩
    obtain ⟨gr, rfl, hg⟩ := inB_natM yes
    have hl1 := s1 _ _ h2
    refine ⟨_, rfl, a, CO, dx, _, _, rfl, s1 _ _ h1, T.rCO.oc.cl, T.rCO.nr, rfl, l, rfl, ⟨_, SqL.of hl1⟩, ?_⟩
    refine comp_lst (xs := refs os) (fun i _ => (os[i]?).map fun o => V.int (o.2.2 gr)) (SqL.of hl1) (by rw [rl]; exact Nat.le_of_lt (small1000 (by omega))) (fun i y H2 kk kk0 s2 hy g1 g2 => ?_) fun D H2 hD s2 hd => ?_
    · have hi : i < os.length := by
        obtain ⟨z, _⟩ := List.getElem?_eq_some_iff.mp hy
        rw [rl] at z
        exact z
      obtain rfl : V.ref os[i].1 = y := by
        unfold refs at hy
        rw [List.getElem?_map, List.getElem?_eq_getElem hi] at hy
        exact Option.some.inj hy
      have ro := (h6 os[i] (List.getElem_mem hi)).same (s1.trans s2)
      have hm := h7 os[i] (List.getElem_mem hi)
      rw [hm] at ro
      obtain ⟨C, dx', g, fs, r1, r2, r3, r4, r5, r6, ps, r7⟩ := id ro
      refine ⟨_, rfl, os[i].1, C, dx', fs, fE, _, rfl, r1, r6.1, r2.oc.cl, r2.me, ⟨_, D_Ern⟩, ?_⟩
      refine ⟨_, rfl, os[i].1, m, _, _, rfl, ro, .int _, (fun no => ?_), fun g' eg hg' H3 s3 => ?_⟩
      · rw [yes] at no
        cases no
      · obtain rfl : gr = g' := by have := V.int.inj eg; omega
        refine g1 _ ?_ _ s3
        rw [List.getElem?_eq_getElem hi]
        rfl
    have ed : ((List.range (refs os).length).filterMap fun i => ((refs os)[i]?).bind fun _ => (os[i]?).map fun o => V.int (o.2.2 gr)) = (os.map fun o => o.2.2 gr).map V.int := by
      rw [rl, List.map_map]
      refine Eq.trans (fm_congr (g := fun i => (os[i]?).bind fun o => some (V.int (o.2.2 gr))) fun i hi => ?_) ?_
      · have hi := List.mem_range.mp hi
        rw [List.getElem?_eq_getElem (l := refs os) (by rw [rl]; exact hi), List.getElem?_eq_getElem hi]
        rfl
      · rw [fm_bind, List.filterMap_eq_map']
        rfl
    rw [ed] at hd
    exact ⟨D, _, rfl, .inl (SqL.of hd), k gr rfl hg H2 (s1.trans s2)⟩
/-! ### Company.table -/
def tabC (m : Nat) (os : List Ru) : List Int := (List.range (2 ^ m)).map (earnC os)
def spCT (P : Program) (w : World) (K : PySem.W.Frag) (mg : Str → Option Value) (base : Heap) (fE fH RU CO : Addr) : Sp := fun vs H Q _ => ∃ (a : Addr) (m : Nat) (os : List Ru), vs = [.ref a] ∧ CObj P w K mg base fE fH RU CO H a m os ∧ ∀ D H', H D = none → Same H H' → H' D = some (.lst ((tabC m os).map V.int)) → Q (.ref D) H'
theorem scCT : FnScope ["self"] ["self"] (defScope sCT) := ⟨rfl, rfl, rfl, by decide +kernel, rfl, by decide +kernel, by decide +kernel⟩
theorem ok_ct {f1 : Addr} {fd1 : FuncData} (t : Mx K "table" "Company.table" sCT ["self"] f fd) (T : T K mg AL LN RU OW PL PA VO CO fE fH rR rO rP rA rV iR iO iP iA iV iC cH cE cT SE NG NN NO NR NL NS NT NX NV TM UL) (D_whole_company : Df P w K mg base CX0 1 "whole_company" ["many"] spWC f1 fd1) (D_CE : Md P w K mg base 8 ["self", "group"] (spCE P w K mg base fE fH RU CO NG) cE) :
    Md P w K mg base 9 ["self"] (spCT P w K mg base fE fH RU CO) f := by
  refine t.md0 scCT (fun vs H Q E h => ?_) (fun cdv A outer s H vs Q E hr h => ?_)
  · obtain ⟨a, m, os, rfl, _⟩ := h
    rfl
  · obtain ⟨a, m, os, rfl, co, k⟩ := h
    obtain ⟨dx, l, h1, h2, h3, h4, h5, h6, h7⟩ := id co
    have h64 : 2 ^ m ≤ 64 := Nat.pow_le_pow_right (n := 2) (by decide) h5
    have hpos : 0 < 2 ^ m := Nat.pow_pos (by decide)
    refine ⟨_, (pss_one (ps_ret (pe_comp (NB := ["group", "self"]) (pick := [none, some 0]) (blk_mk (by with_unfolding_all rfl) (by exact (And.intro rfl trivial)) rfl (by decide +kernel) (by decide +kernel) (by rfl) (by rfl)) rfl
          (pi_range1 (by rfl) T.b_range (pa_cons (pe_op op_add (pe_d0 D_whole_company hr (by decide) (by rfl) (pa_cons (pe_fld (pv 0) rfl) pa_nil)) pe_int) pa_nil)) (fun _ _ _ => pg_name (i := 0) (show (["group", "self"] : List Str).Nodup from by decide +kernel) rfl (Or.inl rfl))
          (fun _ _ _ => pif_nil) (fun _ _ _ => (pe_methXK P w K mg base rfl rfl rfl rfl rfl (k := 8) pass_no (pv 1) hr (by decide) (pa_cons (pv 0) pa_nil)))))), ?_⟩
    refine ⟨_, rfl, a, CO, dx, _, _, rfl, h1, T.rCO.oc.cl, T.rCO.nm, rfl, m, rfl, h5, fun H1 s1 => ?_⟩
    refine ⟨_, _, rfl, rfl, ((2 ^ m : Nat) : Int), (by show [V.int ((2 : Int) ^ m - 1 + 1)] = _; rw [Int.sub_add_cancel]; push_cast; rfl), by omega, by omega, ?_⟩
    refine comp_rng (lo := 0) (n := 2 ^ m) (fun g => some (.int (earnC os g))) (Nat.le_of_lt (small1000 (by omega))) (fun i H2 kk kk0 s2 hi g1 g2 => ?_) fun D H2 hD s2 hd => ?_
    · rw [Int.zero_add (i : Int)]
      have co2 := co.same (s1.trans s2)
      refine ⟨_, rfl, a, CO, dx, _, cE, _, rfl, (s1.trans s2) _ _ h1, rfl, T.rCO.oc.cl, T.rCO.me, ⟨_, D_CE⟩, _, rfl, a, m, os, _, rfl, co2, .int _, (fun no => ?_), fun g' eg hg' H3 s3 => ?_⟩
      · exact absurd no (by rw [nat_inB hi]; decide)
      · obtain rfl : i = g' := by have := V.int.inj eg; omega
        exact g1 _ rfl _ s3
    have ed : (List.range (2 ^ m)).filterMap (fun g => some (V.int (earnC os g))) = (tabC m os).map V.int := by
      unfold tabC
      rw [List.map_map, ← List.filterMap_eq_map]
      rfl
    rw [ed] at hd
    exact k D H2 (s1.free hD) (s1.trans s2) hd
theorem at_of {rs : List Int} {j : Nat} (hj : j < rs.length) : atI (rs.map V.int) (j : Int) = some (.int (rs.getD j 0)) := atI_nat (by rw [List.getElem?_map, List.getD_eq_getElem?_getD, List.getElem?_eq_getElem hj]; rfl)
theorem abs_eq (i : Int) : (if i < 0 then -i else i) = (i.natAbs : Int) := by split <;> omega
/-! ### _law_cell -/
def spCel (K : PySem.W.Frag) : Sp := fun vs H Q _ => ∃ (a : Addr) (ns : List Int) (k : Nat), vs = [.ref a, .int (k : Int)] ∧ SqL K H a (ns.map V.int) ∧ k ≤ 10000 ∧ ∀ c : Int, Q (.int c) H
theorem scCel : FnScope ["_law_script", "_law_k", "_law_number_here"] ["_law_script", "_law_k"] (defScope sCel) := ⟨rfl, rfl, rfl, by decide +kernel, rfl, by decide +kernel, by decide +kernel⟩
theorem ok_cel (t : Tx K mg "_law_cell" sCel ["_law_script", "_law_k"] f fd) (T : T K mg AL LN RU OW PL PA VO CO fE fH rR rO rP rA rV iR iO iP iA iV iC cH cE cT SE NG NN NO NR NL NS NT NX NV TM UL) : Df P w K mg base CX0 1 "_law_cell" ["_law_script", "_law_k"] (spCel K) f fd := by
  refine t.df0 scCel (fun vs H Q E h => ?_) (fun cdv A outer s H vs Q E hr h => ?_)
  · obtain ⟨a, ns, k, rfl, _⟩ := h
    rfl
  · obtain ⟨a, ns, j, rfl, hq, hj, k⟩ := h
    refine ⟨_, (pss_cons (ps_if (pt_cmpR op_lt (pv 1) (pe_callB call_len_seq (by rfl) T.b_len bt_len (pa_cons (pv 0) pa_nil)) (nomark _)) (pss_one (ps_ret (pe_ix ix_list (pv 0) (pv 1) (fun _ _ => rfl)))) pss_nil)
      (pss_cons (ps_set (i := 2) scCel.nd rfl (Or.inl rfl) (pe_op op_add (pe_op op_mul (pe_op op_mul (pv 1) (pv 1)) pe_int) pe_int))
      (pss_cons (ps_if (pt_cmpR op_gt (pe_callB call_len_seq (by rfl) T.b_len bt_len (pa_cons (pv 0) pa_nil)) pe_int (nomark _)) (pss_one (ps_set (i := 2) scCel.nd rfl (Or.inl rfl) (pe_op op_add (pv 2) (pe_op op_mul (pe_op op_mod (pe_ix ix_list (pv 0) (pe_op op_mod (pe_op op_mul (pv 1) pe_int) (pe_callB call_len_seq (by rfl) T.b_len bt_len (pa_cons (pv 0) pa_nil))) (fun _ _ => rfl)) pe_int) pe_int)))) pss_nil)
      (pss_one (ps_ret (pe_op op_mod (pe_op op_mul (pv 2) pe_int) pe_int)))))), ?_⟩
    have hjj : (j : Int) * (j : Int) ≤ 10000 * 10000 := Int.mul_le_mul (by omega) (by omega) (by omega) (by omega)
    have hj0 : 0 ≤ (j : Int) * (j : Int) := Int.mul_nonneg (by omega) (by omega)
    refine ⟨_, rfl, _, rfl, a, _, rfl, .inl hq, _, _, rfl, rfl, _, rfl, ite2 (fun h => ?_) (fun _ => ?_)⟩
    · have hlt : j < ns.length := by
        have z := of_decide_eq_true h
        rw [List.length_map] at z
        omega
      have hat : atI (ns.map V.int) (j : Int) = some (.int ns[j]) := atI_nat (by rw [List.getElem?_map, List.getElem?_eq_getElem hlt]; rfl)
      exact ⟨_, rfl, _, rfl, a, _, _, _, rfl, rfl, hq, hat, k _⟩
    · refine ⟨_, rfl, _, rfl, _, _, rfl, rfl, .inl ⟨by omega, by omega⟩, _, _, rfl, rfl, .inr ⟨by decide, by decide⟩, _, _, rfl, rfl, ?_⟩
      dsimp only
      refine if_joinN (fun σ2 H2 => H2 = H ∧ ∃ z : Int, σ2 = [some (.ref a), some (.int (j : Int)), some (.int z)]) ?_ fun tail => ?_
      · rintro σ2 H2 ⟨rfl, z, rfl⟩
        exact ⟨_, rfl, _, _, rfl, rfl, .inr ⟨by decide, by decide⟩, _, _, rfl, rfl, (by show (0 : Int) < 2147483647; decide), k _⟩
      · refine ⟨_, rfl, a, _, rfl, .inl hq, _, _, rfl, rfl, _, rfl, ite2 (fun h2 => ?_) (fun _ => tail _ _ ⟨rfl, _, rfl⟩)⟩
        have hpos : 0 < ns.length := by
          have z := of_decide_eq_true h2
          rw [List.length_map] at z
          omega
        have hlen : 0 < ((ns.map V.int).length : Int) := by rw [List.length_map]; omega
        obtain ⟨x, hx, hxm⟩ := atI_in (xs := ns.map V.int) (i := (j : Int) * 5 % ((ns.map V.int).length : Int)) (Int.emod_nonneg _ (by omega)) (Int.emod_lt_of_pos _ hlen)
        obtain ⟨z, _, rfl⟩ := List.mem_map.mp hxm
        refine ⟨_, rfl, _, rfl, _, rfl, _, _, rfl, rfl, .inr ⟨by decide, by decide⟩, _, rfl, a, _, rfl, .inl hq, _, _, rfl, rfl, hlen, a, _, _, _, rfl, rfl, hq, hx, _, _, rfl, rfl, (by show (0 : Int) < 2147483629; decide), _, _, rfl, rfl, .inr ⟨by decide, by decide⟩, _, _, rfl, rfl, ?_⟩
        exact tail _ _ ⟨rfl, _, rfl⟩
/-! ### _law_number -/
def spNb : Sp := fun vs H Q _ => ∃ c : Int, vs = [.int c] ∧ ∀ n : Int, Q (.int n) H
theorem scNb : FnScope ["_law_cell_here"] ["_law_cell_here"] (defScope sNb) := ⟨rfl, rfl, rfl, by decide +kernel, rfl, by decide +kernel, by decide +kernel⟩
theorem ok_nb (t : Tx K mg "_law_number" sNb ["_law_cell_here"] f fd) (T : T K mg AL LN RU OW PL PA VO CO fE fH rR rO rP rA rV iR iO iP iA iV iC cH cE cT SE NG NN NO NR NL NS NT NX NV TM UL) : Df P w K mg base CX0 1 "_law_number" ["_law_cell_here"] spNb f fd := by
  refine t.df0 scNb (fun vs H Q E h => ?_) (fun cdv A outer s H vs Q E hr h => ?_)
  · obtain ⟨c, rfl, _⟩ := h
    rfl
  · obtain ⟨c, rfl, k⟩ := h
    refine ⟨_, (pss_cons (ps_if (pt_cmpR op_eq (pe_op op_mod (pv 0) pe_int) pe_int (nomark _)) (pss_one (ps_ret (pe_op op_sub (pe_op op_mod (pe_op op_fdiv (pv 0) pe_int) pe_int) pe_int))) pss_nil)
      (pss_one (ps_ret (pe_op op_sub (pe_op op_mod (pe_op op_mul (pe_op op_fdiv (pv 0) pe_int) pe_int) (pe_op op_add (pe_op op_mul pe_int (pe_op op_pow pe_int pe_int)) pe_int)) (pe_op op_pow pe_int pe_int))))), ?_⟩
    refine ⟨_, rfl, _, _, rfl, rfl, (by show (0 : Int) < 2; decide), rfl, _, rfl, ite2 (fun _ => ?_) (fun _ => ?_)⟩
    · exact ⟨_, rfl, _, _, rfl, rfl, ⟨by decide, by decide⟩, _, _, rfl, rfl, (by show (0 : Int) < 19; decide), _, _, rfl, rfl, k _⟩
    · exact ⟨_, rfl, _, _, rfl, rfl, ⟨by decide, by decide⟩, _, _, rfl, rfl, .inr ⟨by decide, by decide⟩, _, _, rfl, rfl, ⟨by decide, by decide, by decide⟩, _, _, rfl, rfl, .inl ⟨by decide, by decide⟩, _, _, rfl, rfl, _, _, rfl, rfl, (by show (0 : Int) < 2 * 10 ^ 18 + 1; decide), _, _, rfl, rfl, ⟨by decide, by decide, by decide⟩, _, _, rfl, rfl, k _⟩
/-! ### rows -/
def PsOk (m : Nat) (H : Hp) (bs : List Addr) : Prop := (∀ b ∈ bs, ∃ (u v : Nat) (n : Int), H b = some (.tup [.int (u : Int), .int (v : Int), .int n]) ∧ u < v ∧ v < m) ∧ (bs.map fun b => keyP (tupV H b)).Nodup ∧ bs.length ≤ 15
theorem PsOk.same {m : Nat} {H H' : Hp} {bs : List Addr} (h : PsOk m H bs) (s : ∀ b ∈ bs, ∀ o, H b = some o → H' b = some o) : PsOk m H' bs := by
  refine ⟨fun b hb => ?_, ?_, h.2.2⟩
  · obtain ⟨u, v, n, e, z⟩ := h.1 b hb
    exact ⟨u, v, n, s b hb _ e, z⟩
  · have e : (bs.map fun b => keyP (tupV H' b)) = bs.map fun b => keyP (tupV H b) := List.map_congr_left fun b hb => by
      obtain ⟨u, v, n, e, _⟩ := h.1 b hb
      rw [tupV_at e, tupV_at (s b hb _ e)]
    rw [e]
    exact h.2.1
theorem PsOk.of_perm {m : Nat} {H : Hp} {bs cs : List Addr} (h : PsOk m H bs) (p : cs.Perm bs) : PsOk m H cs :=
  ⟨fun b hb => h.1 b (p.mem_iff.mp hb), ((p.map _).nodup_iff).mpr h.2.1, by rw [p.length_eq]; exact h.2.2⟩
theorem PsOk.pair {m : Nat} {H : Hp} {bs : List Addr} (h : PsOk m H bs) (h6 : m ≤ 6) : ∀ b ∈ bs, PairT H b := fun b hb => by
  obtain ⟨u, v, n, e, z⟩ := h.1 b hb
  exact ⟨u, v, n, e, by omega, by omega⟩
theorem okFrom_of {m : Int} : ∀ {xss : List (List V)} {seen : List (Int × Int)}, (∀ xs ∈ xss, okP m xs = true) → (xss.map keyP).Nodup → (∀ k ∈ xss.map keyP, seen.contains k = false) → okFrom m seen xss = true
  | [], _, _, _, _ => rfl
  | xs :: r, seen, h, hn, hs => by
    show (okP m xs && !(seen.contains (keyP xs)) && okFrom m (seen ++ [keyP xs]) r) = true
    rw [List.map_cons, List.nodup_cons] at hn
    have ih : okFrom m (seen ++ [keyP xs]) r = true := okFrom_of (fun x hx => h x (List.mem_cons_of_mem _ hx)) hn.2 fun k hk => by
      have a := hs k (by rw [List.map_cons]; exact List.mem_cons_of_mem _ hk)
      have ne : k ≠ keyP xs := fun z => hn.1 (z ▸ hk)
      rw [Bool.eq_false_iff] at a ⊢
      intro z
      rw [List.contains_iff_mem, List.mem_append] at z
      rcases z with z | z
      · exact a (List.contains_iff_mem.mpr z)
      · exact ne (by simpa using z)
    rw [h xs (by simp), hs (keyP xs) (by simp), ih]
    rfl
theorem PsOk.ok {m : Nat} {H : Hp} {bs : List Addr} (h : PsOk m H bs) : okPs (m : Int) (bs.map (tupV H)) = true := by
  refine okFrom_of (fun xs hx => ?_) (by rw [List.map_map]; exact h.2.1) (fun k _ => rfl)
  obtain ⟨b, hb, rfl⟩ := List.mem_map.mp hx
  obtain ⟨u, v, n, e, z1, z2⟩ := h.1 b hb
  rw [tupV_at e]
  show (decide ((0 : Int) ≤ u) && decide ((u : Int) < v) && decide ((v : Int) < m)) = true
  rw [decide_eq_true (by omega), decide_eq_true (by omega), decide_eq_true (by omega)]
  rfl
theorem PsOk.tups {K : PySem.W.Frag} {m : Nat} {H : Hp} {bs : List Addr} (h : PsOk m H bs) : Tups K H bs := fun b hb => by
  obtain ⟨u, v, n, e, _⟩ := h.1 b hb
  refine ⟨_, e, fun x hx => ?_, by show 3 ≤ 1000; decide⟩
  simp only [List.mem_cons, List.not_mem_nil, or_false] at hx
  rcases hx with rfl | rfl | rfl
  · exact .int _
  · exact .int _
  · exact .int _
def RowIs (H : Hp) (m kd : Nat) (ns : List Int) (bs : List Addr) (e : Nat → Int) : Prop :=
  (kd = 0 ∧ ∀ g, e g = 0) ∨ (kd = 1 ∧ ns.length = m ∧ ∀ g, e g = sumH ns g) ∨ (kd = 2 ∧ ∀ g, e g = sumP H bs g) ∨ (kd = 3 ∧ ns.length = m + 2 ∧ 1 ≤ ns.getD 0 0 ∧ ∀ g, e g = votN (ns.getD 0 0) (ns.getD 1 0) (ns.drop 2) g) ∨ (kd = 4 ∧ ns.length = 2 ^ m - 1 ∧ ∀ g, e g = (0 :: ns).getD g 0)
/-- the row at p: a kind, numbers, pairs, for m hands; its groups earn e -/
def RowAt (H : Hp) (p : Addr) (m : Nat) (e : Nat → Int) : Prop := ∃ (kd : Nat) (ln lp : Addr) (ns : List Int) (bs : List Addr), H p = some (.tup [.int (kd : Int), .ref ln, .ref lp]) ∧ H ln = some (.lst (ns.map V.int)) ∧ H lp = some (.lst (bs.map V.ref)) ∧ PsOk m H bs ∧ ns.length ≤ 70 ∧ RowIs H m kd ns bs e
theorem PsOk.sumP {m : Nat} {H H' : Hp} {bs : List Addr} (h : PsOk m H bs) (m6 : m ≤ 6) (s : ∀ b ∈ bs, ∀ o, H b = some o → H' b = some o) (g : Nat) : sumP H' bs g = sumP H bs g := sumP_same (h.pair m6) s g
theorem RowIs.same {H H' : Hp} {m kd : Nat} {ns : List Int} {bs : List Addr} {e : Nat → Int} (h : RowIs H m kd ns bs e) (ok : PsOk m H bs) (m6 : m ≤ 6) (s : ∀ b ∈ bs, ∀ o, H b = some o → H' b = some o) : RowIs H' m kd ns bs e := by
  rcases h with h | h | h | h | h
  · exact .inl h
  · exact .inr (.inl h)
  · exact .inr (.inr (.inl ⟨h.1, fun g => (h.2 g).trans (ok.sumP m6 s g).symm⟩))
  · exact .inr (.inr (.inr (.inl h)))
  · exact .inr (.inr (.inr (.inr h)))
theorem RowAt.same {H H' : Hp} {p : Addr} {m : Nat} {e : Nat → Int} (h : RowAt H p m e) (m6 : m ≤ 6) (s : Same H H') : RowAt H' p m e := by
  obtain ⟨kd, ln, lp, ns, bs, h1, h2, h3, h4, h5, h6⟩ := h
  exact ⟨kd, ln, lp, ns, bs, s _ _ h1, s _ _ h2, s _ _ h3, h4.same fun b _ o e => s _ _ e, h5, h6.same h4 m6 fun b _ o e => s _ _ e⟩
/-! ### _law_rule -/
def triM (m : Nat) : Nat → Nat
  | 0 => 0
  | i + 1 => triM m i + (m - 1 - i)
theorem triM_le : ∀ m : _root_.Fin 7, triM m.1 m.1 ≤ 15 := by decide
theorem triM_at : ∀ (m : _root_.Fin 7) (i : _root_.Fin 7), i.1 ≤ m.1 → triM m.1 i.1 ≤ triM m.1 m.1 := by decide
def QsTo (m i j : Nat) (H : Hp) (bs : List Addr) : Prop := (∀ b ∈ bs, ∃ (u v : Nat) (n : Int), H b = some (.tup [.int (u : Int), .int (v : Int), .int n]) ∧ u < v ∧ v < m ∧ (u < i ∨ (u = i ∧ v < j))) ∧ (bs.map fun b => keyP (tupV H b)).Nodup ∧ bs.length ≤ triM m i + (j - (i + 1))
theorem QsTo.keep {m i j : Nat} {H H' : Hp} {bs : List Addr} (h : QsTo m i j H bs) (s : ∀ b xs, H b = some (.tup xs) → H' b = some (.tup xs)) : QsTo m i j H' bs := by
  refine ⟨fun b hb => ?_, ?_, h.2.2⟩
  · obtain ⟨u, v, n, e, z⟩ := h.1 b hb
    exact ⟨u, v, n, s b _ e, z⟩
  · have e : (bs.map fun b => keyP (tupV H' b)) = bs.map fun b => keyP (tupV H b) := List.map_congr_left fun b hb => by
      obtain ⟨u, v, n, e, _⟩ := h.1 b hb
      rw [tupV_at e, tupV_at (s b _ e)]
    rw [e]
    exact h.2.1
theorem QsTo.go {m i j : Nat} {H : Hp} {bs : List Addr} (h : QsTo m i j H bs) : QsTo m i (j + 1) H bs :=
  ⟨fun b hb => let ⟨u, v, n, e, z1, z2, z3⟩ := h.1 b hb; ⟨u, v, n, e, z1, z2, by omega⟩, h.2.1, by have := h.2.2; omega⟩
theorem QsTo.up {m i j : Nat} {H : Hp} {bs : List Addr} (h : QsTo m i j H bs) (hj : j ≤ m) : QsTo m (i + 1) (i + 2) H bs :=
  ⟨fun b hb => let ⟨u, v, n, e, z1, z2, z3⟩ := h.1 b hb; ⟨u, v, n, e, z1, z2, by omega⟩, h.2.1, by have := h.2.2; show _ ≤ triM m i + (m - 1 - i) + _; omega⟩
theorem QsTo.add {m i j : Nat} {n : Int} {H : Hp} {bs : List Addr} {b : Addr} (h : QsTo m i j H bs) (hb : H b = some (.tup [.int (i : Int), .int (j : Int), .int n])) (hj : i < j) (hm : j < m) : QsTo m i (j + 1) H (bs ++ [b]) := by
  refine ⟨fun c hc => ?_, ?_, by rw [List.length_append]; have := h.2.2; show _ + 1 ≤ _; omega⟩
  · rcases List.mem_append.mp hc with hc | hc
    · exact h.go.1 c hc
    · have : c = b := by simpa using hc
      subst this
      exact ⟨i, j, n, hb, hj, hm, .inr ⟨rfl, by omega⟩⟩
  · rw [List.map_append, List.nodup_append]
    refine ⟨h.2.1, by simp, fun x hx y hy e => ?_⟩
    subst e
    obtain ⟨c, hc, rfl⟩ := List.mem_map.mp hx
    obtain ⟨u, v, n', e, z1, z2, z3⟩ := h.1 c hc
    have hy : keyP (tupV H c) = keyP (tupV H b) := by simpa using hy
    rw [tupV_at e, tupV_at hb] at hy
    have y1 : (u : Int) = i := (Prod.mk.inj hy).1
    have y2 : (v : Int) = j := (Prod.mk.inj hy).2
    omega
theorem QsTo.ps {m i j : Nat} {H : Hp} {bs : List Addr} (h : QsTo m i j H bs) (hb : bs.length ≤ 15) : PsOk m H bs :=
  ⟨fun b hb => let ⟨u, v, n, e, z1, z2, _⟩ := h.1 b hb; ⟨u, v, n, e, z1, z2⟩, h.2.1, hb⟩
theorem kind_size {m : Nat} {c : Int} (m1 : 1 ≤ m) (m6 : m ≤ 6) : ∃ (kd z : Nat), c % 5 = (kd : Int) ∧ atI [V.int 0, V.int (m : Int), V.int 0, V.int ((m : Int) + 2), V.int (((2 ^ m : Nat) : Int) - 1)] (c % 5) = some (.int (z : Int)) ∧ z ≤ 63 ∧ ((kd = 0 ∧ z = 0) ∨ (kd = 1 ∧ z = m) ∨ (kd = 2 ∧ z = 0) ∨ (kd = 3 ∧ z = m + 2) ∨ (kd = 4 ∧ z = 2 ^ m - 1)) := by
  have h64 : 2 ^ m ≤ 64 := Nat.pow_le_pow_right (n := 2) (by decide) m6
  have hpos : 0 < 2 ^ m := Nat.pow_pos (by decide)
  have e0 := Int.emod_nonneg c (b := 5) (by decide)
  have e1 := Int.emod_lt_of_pos c (b := 5) (by decide)
  have : c % 5 = 0 ∨ c % 5 = 1 ∨ c % 5 = 2 ∨ c % 5 = 3 ∨ c % 5 = 4 := by omega
  rcases this with e | e | e | e | e
  · exact ⟨0, 0, e, by rw [e]; rfl, by omega, .inl ⟨rfl, rfl⟩⟩
  · exact ⟨1, m, e, by rw [e]; rfl, by omega, .inr (.inl ⟨rfl, rfl⟩)⟩
  · exact ⟨2, 0, e, by rw [e]; rfl, by omega, .inr (.inr (.inl ⟨rfl, rfl⟩))⟩
  · exact ⟨3, m + 2, e, by rw [e]; rfl, by omega, .inr (.inr (.inr (.inl ⟨rfl, rfl⟩)))⟩
  · refine ⟨4, 2 ^ m - 1, e, ?_, by omega, .inr (.inr (.inr (.inr ⟨rfl, rfl⟩)))⟩
    rw [e, show ((2 ^ m - 1 : Nat) : Int) = ((2 ^ m : Nat) : Int) - 1 by omega]
    rfl
theorem ints_of {ys : List V} (h : ∀ (i : Nat) (y : V), ys[i]? = some y → ∃ n : Int, y = .int n) : ∃ ns : List Int, ys = ns.map V.int ∧ ns.length = ys.length := by
  induction ys with
  | nil => exact ⟨[], rfl, rfl⟩
  | cons y r ih =>
    obtain ⟨n, rfl⟩ := h 0 y rfl
    obtain ⟨ns, e, l⟩ := ih fun i y e => h (i + 1) y e
    exact ⟨n :: ns, by rw [e]; rfl, by rw [List.length_cons, l]; rfl⟩
def NewKept (H H' H'' : Hp) : Prop := ∀ b o, H b = none → H' b = some o → H'' b = some o
def spLRu (K : PySem.W.Frag) : Sp := fun vs H Q _ => ∃ (a : Addr) (ns : List Int) (at_ m : Nat), vs = [.ref a, .int (at_ : Int), .int (m : Int)] ∧ SqL K H a (ns.map V.int) ∧ at_ ≤ 1000 ∧ 1 ≤ m ∧ m ≤ 6 ∧ ∀ (p : Addr) (e : Nat → Int) H', Same H H' → (∀ H'', NewKept H H' H'' → RowAt H'' p m e) → Q (.ref p) H'
theorem scLRu : FnScope ["_law_script", "_law_at", "_law_many", "_law_cell_here", "_law_size", "_law_numbers", "_law_pairs", "_law_one", "_law_other"] ["_law_script", "_law_at", "_law_many"] (defScope sLRu) := ⟨rfl, rfl, rfl, by decide +kernel, rfl, by decide +kernel, by decide +kernel⟩
theorem ok_lru {f1 f2 : Addr} {fd1 fd2 : FuncData} (t : Tx K mg "_law_rule" sLRu ["_law_script", "_law_at", "_law_many"] f fd) (T : T K mg AL LN RU OW PL PA VO CO fE fH rR rO rP rA rV iR iO iP iA iV iC cH cE cT SE NG NN NO NR NL NS NT NX NV TM UL) (D_law_cell : Df P w K mg base CX0 1 "_law_cell" ["_law_script", "_law_k"] (spCel K) f1 fd1)
    (D_law_number : Df P w K mg base CX0 1 "_law_number" ["_law_cell_here"] spNb f2 fd2) : Df P w K mg base CX0 2 "_law_rule" ["_law_script", "_law_at", "_law_many"] (spLRu K) f fd := by
  refine t.df0 scLRu (fun vs H Q E h => ?_) (fun cdv A outer s H vs Q E hr h => ?_)
  · obtain ⟨a, ns, at_, m, rfl, _⟩ := h
    rfl
  · obtain ⟨a, sc, at_, m, rfl, ha, hat, m1, m6, k⟩ := h
    have h64 : 2 ^ m ≤ 64 := Nat.pow_le_pow_right (n := 2) (by decide) m6
    have hpos : 0 < 2 ^ m := Nat.pow_pos (by decide)
    refine ⟨_, (pss_cons (ps_set (i := 3) scLRu.nd rfl (Or.inl rfl) (pe_op op_mod (pe_op op_mul (pe_op op_mod (pe_d0 D_law_cell hr (by decide) (by rfl) (pa_cons (pv 0) (pa_cons (pv 1) pa_nil))) pe_int) pe_int) pe_int))
      (pss_cons (ps_set (i := 4) scLRu.nd rfl (by first | exact Or.inl rfl | exact Or.inr rfl) (pe_ix ix_list (pe_lst (pa_cons pe_int (pa_cons (pv 2) (pa_cons pe_int (pa_cons (pe_op op_add (pv 2) pe_int) (pa_cons (pe_op op_sub (pe_op op_shl pe_int (pv 2)) pe_int) pa_nil)))))) (pe_op op_mod (pv 3) pe_int) (fun _ _ => rfl)))
      (pss_cons (ps_setC (NB := ["_law_k", "_law_at", "_law_script"]) (pick := [none, some 1, some 0]) (i := 5) scLRu.nd rfl (Or.inl rfl) (by rfl) (blk_mk (by with_unfolding_all rfl) (by exact (And.intro rfl (And.intro rfl trivial))) rfl (by decide +kernel) (by decide +kernel) (by rfl) (by rfl)) rfl
          (pi_range1 (by rfl) T.b_range (pa_cons (pv 4) pa_nil)) (fun _ _ _ => pg_name (i := 0) (show (["_law_k", "_law_at", "_law_script"] : List Str).Nodup from by decide +kernel) rfl (Or.inl rfl))
          (fun _ _ _ => pif_nil) (fun _ _ _ => (pe_d0 D_law_number hr (by decide) (by rfl) (pa_cons (pe_d0 D_law_cell hr (by decide) (by rfl) (pa_cons (pv 2) (pa_cons (pe_op op_add (pe_op op_add (pv 1) pe_int) (pv 0)) pa_nil))) pa_nil))))
      (pss_cons (ps_set (i := 6) scLRu.nd rfl (Or.inl rfl) (pe_lst pa_nil))
      (pss_cons (ps_if (pt_cmpR op_eq (pe_op op_mod (pv 3) pe_int) pe_int (nomark _)) (pss_one (ps_for PassesOwn.never rfl (pi_range1 (by rfl) T.b_range (pa_cons (pv 2) pa_nil)) (pg_name (i := 7) scLRu.nd rfl (Or.inl rfl))
          (pss_one (ps_for PassesOwn.never rfl (pi_range2 (by rfl) T.b_range (pa_cons (pe_op op_add (pv 7) pe_int) (pa_cons (pv 2) pa_nil))) (pg_name (i := 8) scLRu.nd rfl (Or.inl rfl))
            (pss_one (ps_if (pt_cmpR op_eq (pe_op op_and (pe_op op_shr (pe_op op_fdiv (pv 3) pe_int) (pe_op op_add (pv 7) (pe_op op_fdiv (pe_op op_mul (pv 8) (pe_op op_sub (pv 8) pe_int)) pe_int))) pe_int) pe_int (nomark _)) (pss_one (ps_expr (pe_bm PySem.F.plainAttrs_list PySem.F.slot_list_append PySem.F.type_list_append mt_appendR (pv 6) (pa_cons (pe_tup (pa_cons (pv 7) (pa_cons (pv 8) (pa_cons (pe_d0 D_law_number hr (by decide) (by rfl) (pa_cons (pe_d0 D_law_cell hr (by decide) (by rfl) (pa_cons (pv 0) (pa_cons (pe_op op_add (pe_op op_add (pv 1) pe_int) (pe_callB call_len_seq (by rfl) T.b_len bt_len (pa_cons (pv 6) pa_nil))) pa_nil))) pa_nil)) pa_nil)))) pa_nil)))) pss_nil)))))) pss_nil)
      (pss_cons (ps_if (pt_cmpR op_eq (pe_op op_mod (pv 3) pe_int) pe_int (nomark _)) (pss_one (ps_asg (pe_callB (call_max2 rfl) (by rfl) T.b_max bt_max (pa_cons pe_int (pa_cons (pe_callB call_abs (by rfl) T.b_abs bt_abs (pa_cons (pe_ix ix_list (pv 5) pe_int (fun _ _ => rfl)) pa_nil)) pa_nil))) (pg_sub (pv 5) pe_int set_list))) pss_nil)
      (pss_one (ps_ret (pe_tup (pa_cons (pe_op op_mod (pv 3) pe_int) (pa_cons (pv 5) (pa_cons (pv 6) pa_nil)))))))))))), ?_⟩
    refine ⟨_, rfl, _, rfl, a, sc, at_, rfl, ha, by omega, fun c0 => ⟨_, _, rfl, rfl, (by show (0 : Int) < 1000003; decide), _, _, rfl, rfl, .inr ⟨by decide, by decide⟩, _, _, rfl, rfl, (by show (0 : Int) < 2147483629; decide), ?_⟩⟩
    obtain ⟨c, hc, c0', c1'⟩ : ∃ c : Int, c0 % 1000003 * 48271 % 2147483629 = c ∧ 0 ≤ c ∧ c < 2147483629 := ⟨_, rfl, Int.emod_nonneg _ (by decide), Int.emod_lt_of_pos _ (by decide)⟩
    show gName 3 (V.int (c0 % 1000003 * 48271 % 2147483629)) _ _ _
    rw [hc]
    obtain ⟨kd, z, ekd, eat, z63, hkz⟩ := kind_size (c := c) m1 m6
    have sh : (1 : Int) * 2 ^ (m : Int).toNat = ((2 ^ m : Nat) : Int) := by rw [Int.toNat_natCast, Int.one_mul]; push_cast; rfl
    refine ⟨_, rfl, _, rfl, _, _, rfl, rfl, _, rfl, _, _, rfl, rfl, ⟨(by show 0 ≤ (m : Int); omega), (by show (m : Int) ≤ 1000000; omega), by decide⟩, _, _, rfl, rfl, by show 5 ≤ sizeLine; decide, fun lz hlz => ?_⟩
    have u1 := Same.upd_new (o := .lst [V.int 0, V.int (m : Int), V.int 0, V.int ((m : Int) + 2), V.int (1 * 2 ^ (m : Int).toNat - 1)]) hlz
    have hz1 : upd H lz (.lst [V.int 0, V.int (m : Int), V.int 0, V.int ((m : Int) + 2), V.int (1 * 2 ^ (m : Int).toNat - 1)]) lz = some (.lst [V.int 0, V.int (m : Int), V.int 0, V.int ((m : Int) + 2), V.int (1 * 2 ^ (m : Int).toNat - 1)]) := upd_same
    generalize upd H lz (.lst [V.int 0, V.int (m : Int), V.int 0, V.int ((m : Int) + 2), V.int (1 * 2 ^ (m : Int).toNat - 1)]) = H1 at u1 hz1 ⊢
    rw [sh] at hz1
    refine ⟨_, rfl, _, _, rfl, rfl, (by show (0 : Int) < 5; decide), lz, _, _, _, rfl, rfl, SqL.of hz1, eat, ?_⟩
    -- numbers
    refine ⟨_, rfl, (z : Int), rfl, by omega, by omega, ?_⟩
    refine comp_rngR (n := z) (fun _ y _ => ∃ n : Int, y = .int n) (fun i y G G' _ h => h) (Nat.le_of_lt (small1000 (by omega))) (fun i H3 kk kk0 s3 hi h1 => ?_) fun ln ys H2 hln s2 hy hR hd2 => ?_
    · exact ⟨_, rfl, _, rfl, _, _, rfl, rfl, _, rfl, _, _, rfl, rfl, a, sc, at_ + 1 + i, (by show [V.ref a, V.int ((at_ : Int) + 1 + (0 + (i : Int)))] = _; rw [Int.zero_add]; push_cast; rfl), (u1.trans s3).seq ha, by omega, fun c => ⟨c, rfl, fun n => h1 _ _ (.refl _) ⟨n, rfl⟩⟩⟩
    obtain ⟨ns, rfl, nl⟩ := ints_of hR
    rw [hy] at nl
    have u2 := u1.trans s2
    have fln := u1.free hln
    clear s2 hz1 u1 hlz hR hy
    -- pairs
    refine ⟨by show 0 ≤ sizeLine; decide, fun lp hlp => ?_⟩
    have u3 := u2.trans (Same.upd_new (o := .lst []) hlp)
    have hn3 := Same.upd_new (o := .lst []) hlp _ _ hd2
    have hp3 : upd H2 lp (.lst []) lp = some (.lst ((([] : List Addr)).map V.ref)) := upd_same
    have nnp : ln ≠ lp := ne_of_none hd2 hlp
    have flp := u2.free hlp
    generalize upd H2 lp (.lst []) = H3 at u3 hn3 hp3 ⊢
    dsimp only
    refine if_joinN (fun σ2 H4 => Same H H4 ∧ H4 ln = some (.lst (ns.map V.int)) ∧ ∃ (bs : List Addr) (o7 o8 : Option V), H4 lp = some (.lst (bs.map V.ref)) ∧ PsOk m H4 bs ∧ (∀ b ∈ bs, H b = none) ∧ σ2 = [some (.ref a), some (.int (at_ : Int)), some (.int (m : Int)), some (.int c), some (.int (z : Int)), some (.ref ln), some (.ref lp), o7, o8]) ?_ fun tail => ?_
    · rintro σ2 H4 ⟨u4, hn4, bs, o7, o8, hp4, ok4, fb, rfl⟩
      refine if_joinS (fun σ2 H5 => Same H H5 ∧ ∃ (ns' : List Int) (o7 o8 : Option V), H5 ln = some (.lst (ns'.map V.int)) ∧ ns'.length = z ∧ (kd = 3 → 1 ≤ ns'.getD 0 0) ∧ H5 lp = some (.lst (bs.map V.ref)) ∧ PsOk m H5 bs ∧ σ2 = [some (.ref a), some (.int (at_ : Int)), some (.int (m : Int)), some (.int c), some (.int (z : Int)), some (.ref ln), some (.ref lp), o7, o8]) ?_ fun tail => ?_
      · rintro σ2 H5 ⟨u5, ns', o7, o8, hn5, nl5, h3, hp5, ok5, rfl⟩
        refine ⟨_, rfl, _, _, rfl, rfl, (by show (0 : Int) < 5; decide), _, rfl, _, rfl, by show 3 ≤ sizeLine; decide, fun p hp => ?_⟩
        have v6 := Same.upd_new (o := .tup [V.int (c % 5), V.ref ln, V.ref lp]) hp
        have fp := u5.free hp
        have mk : ∀ e : Nat → Int, RowIs H5 m kd ns' bs e → Q (.ref p) (upd H5 p (.tup [V.int (c % 5), V.ref ln, V.ref lp])) := fun e ri => k p e _ (u5.trans v6) fun H'' nk => by
          have kb : ∀ b ∈ bs, ∀ o, H5 b = some o → H'' b = some o := fun b hb o e => nk b o (fb b hb) (v6 _ _ e)
          exact ⟨kd, ln, lp, ns', bs, nk _ _ fp (by rw [upd_same, ekd]), nk _ _ fln (v6 _ _ hn5), nk _ _ flp (v6 _ _ hp5), ok5.same kb, by omega, ri.same ok5 m6 kb⟩
        rcases hkz with ⟨e1, e2⟩ | ⟨e1, e2⟩ | ⟨e1, e2⟩ | ⟨e1, e2⟩ | ⟨e1, e2⟩
        · exact mk (fun _ => 0) (.inl ⟨e1, fun _ => rfl⟩)
        · exact mk (sumH ns') (.inr (.inl ⟨e1, by omega, fun _ => rfl⟩))
        · exact mk _ (.inr (.inr (.inl ⟨e1, fun _ => rfl⟩)))
        · exact mk _ (.inr (.inr (.inr (.inl ⟨e1, by omega, h3 e1, fun _ => rfl⟩))))
        · exact mk _ (.inr (.inr (.inr (.inr ⟨e1, by omega, fun _ => rfl⟩))))
      · refine ⟨_, rfl, _, _, rfl, rfl, (by show (0 : Int) < 5; decide), rfl, _, rfl, ite2 (fun h => ?_) (fun h => tail _ _ ⟨u4, ns, _, _, hn4, nl, (fun e => absurd ?_ h), hp4, ok4, rfl⟩)⟩
        · have e3 : c % 5 = 3 := V.int.inj (of_decide_eq_true h)
          have z3 : z = m + 2 := by omega
          have h0 : 0 < ns.length := by omega
          have hat0 : atI (ns.map V.int) 0 = some (.int (ns.getD 0 0)) := at_of (j := 0) h0
          have hix0 : ixN (ns.map V.int).length 0 = some 0 := by
            unfold ixN
            rw [List.length_map, if_pos (by decide), if_pos (by omega)]
            rfl
          refine ⟨_, rfl, ln, _, _, _, rfl, rfl, SqL.of hn4, hat0, _, rfl, _, _, rfl, ?_⟩
          rw [abs_eq]
          refine ⟨_, rfl, ln, _, _, 0, rfl, rfl, hn4, hix0, ?_⟩
          obtain ⟨w, hw, w1⟩ : ∃ w : Int, (if ((ns.getD 0 0).natAbs : Int) > 1 then ((ns.getD 0 0).natAbs : Int) else 1) = w ∧ 1 ≤ w := ⟨_, rfl, by split <;> omega⟩
          refine tail _ _ ⟨u4.upd_ne' ?_, ns.set 0 w, _, _, ?_, by rw [List.length_set]; exact nl, (fun _ => ?_), ?_, ok4.same ?_, rfl⟩
          · exact fln
          · rw [upd_same]
            exact congrArg (fun x => some (HO.lst x)) (by rw [← hw, List.map_set])
          · rw [List.getD_eq_getElem?_getD, List.getElem?_set_self h0]
            exact w1
          · rw [upd_ne nnp.symm]
            exact hp4
          · intro b hb o e
            obtain ⟨u, v, n, eb, _⟩ := ok4.1 b hb
            rw [upd_ne fun y => by rw [y, hn4] at eb; cases eb]
            exact e
        · show decide (V.int (c % 5) = V.int 3) = true
          rw [ekd, e]
          rfl
    · refine ⟨_, rfl, _, _, rfl, rfl, (by show (0 : Int) < 5; decide), rfl, _, rfl, ite2 (fun _ => ?_) (fun _ => tail _ _ ⟨u3, hn3, [], _, _, hp3, ⟨(fun b hb => by cases hb), List.nodup_nil, by decide⟩, (fun b hb => by cases hb), rfl⟩)⟩
      refine ⟨_, rfl, (m : Int), rfl, by omega, by omega, ?_⟩
      refine for_range (n := m) (fun i σ' H' => Same H H' ∧ H' ln = some (.lst (ns.map V.int)) ∧ ∃ (bs : List Addr) (o7 o8 : Option V), H' lp = some (.lst (bs.map V.ref)) ∧ QsTo m i (i + 1) H' bs ∧ (∀ b ∈ bs, H b = none) ∧ σ' = [some (.ref a), some (.int (at_ : Int)), some (.int (m : Int)), some (.int c), some (.int (z : Int)), some (.ref ln), some (.ref lp), o7, o8]) ⟨u3, hn3, [], _, _, hp3, ⟨(fun b hb => by cases hb), List.nodup_nil, Nat.zero_le _⟩, (fun b hb => by cases hb), rfl⟩ ?_ ?_
      · rintro i σ' H4 hi ⟨u4, hn4, bs, o7, o8, hp4, q4, fb4, rfl⟩
        rw [Int.zero_add (i : Int)]
        refine ⟨_, rfl, _, _, rfl, rfl, _, rfl, (i : Int) + 1, (m : Int), rfl, ⟨by omega, by omega, by omega, by omega⟩, ?_⟩
        refine for_range (lo := (i : Int) + 1) (n := ((m : Int) - ((i : Int) + 1)).toNat) (fun j σ' H' => Same H H' ∧ H' ln = some (.lst (ns.map V.int)) ∧ ∃ (bs : List Addr) (o8 : Option V), H' lp = some (.lst (bs.map V.ref)) ∧ QsTo m i (i + 1 + j) H' bs ∧ (∀ b ∈ bs, H b = none) ∧ σ' = [some (.ref a), some (.int (at_ : Int)), some (.int (m : Int)), some (.int c), some (.int (z : Int)), some (.ref ln), some (.ref lp), some (.int (i : Int)), o8]) ⟨u4, hn4, bs, _, hp4, q4, fb4, rfl⟩ ?_ ?_
        · rintro j σ' H5 hj ⟨u5, hn5, bs, o8, hp5, q5, fb5, rfl⟩
          obtain ⟨o, ho, hio, hom, eo⟩ : ∃ o : Nat, (i : Int) + 1 + (j : Int) = (o : Int) ∧ i < o ∧ o < m ∧ i + 1 + j = o := ⟨i + 1 + j, by omega, by omega, by omega, rfl⟩
          show gName 8 (V.int ((i : Int) + 1 + (j : Int))) _ _ _
          rw [ho]
          rw [eo] at q5
          have hbl := q5.2.2
          have t1 : triM m m ≤ 15 := triM_le ⟨m, by omega⟩
          have t2 : triM m i ≤ triM m m := triM_at ⟨m, by omega⟩ ⟨i, by omega⟩ (by show i ≤ m; omega)
          have b1 : 0 ≤ (o : Int) * ((o : Int) - 1) := Int.mul_nonneg (by omega) (by omega)
          have b2 : 0 ≤ (o : Int) * ((o : Int) - 1) / 2 := Int.ediv_nonneg b1 (by decide)
          refine ⟨_, rfl, _, _, rfl, rfl, ⟨by decide, by decide⟩, _, rfl, _, rfl, _, rfl, _, _, rfl, rfl, _, _, rfl, rfl, .inl ⟨by omega, by omega⟩, _, _, rfl, rfl, ⟨by decide, by decide⟩, _, _, rfl, rfl, _, _, rfl, rfl, (by show 0 ≤ (i : Int) + (o : Int) * ((o : Int) - 1) / 2; omega), _, _, rfl, rfl, rfl, _, rfl, ite2 (fun _ => ?_) (fun _ => ⟨u5, hn5, bs, _, hp5, (by rw [show i + 1 + (j + 1) = o + 1 by omega]; exact q5.go), fb5, rfl⟩)⟩
          refine ⟨_, rfl, .inl ⟨rfl, _, SqL.of hp5⟩, _, rfl, _, rfl, _, rfl, _, rfl, _, _, rfl, rfl, _, rfl, lp, _, rfl, .inl (SqL.of hp5), _, _, rfl, rfl, a, sc, at_ + 1 + bs.length, (by show [V.ref a, V.int ((at_ : Int) + 1 + ((bs.map V.ref).length : Int))] = _; rw [List.length_map]; push_cast; rfl), u5.seq ha, by omega, fun cc => ⟨cc, rfl, fun n => ⟨by show 3 ≤ sizeLine; decide, fun p hp => ?_⟩⟩⟩
          have v6 := Same.upd_new (o := .tup [V.int (i : Int), V.int (o : Int), V.int n]) hp
          have hp6 : upd H5 p (.tup [V.int (i : Int), V.int (o : Int), V.int n]) p = some (.tup [V.int (i : Int), V.int (o : Int), V.int n]) := upd_same
          generalize upd H5 p (.tup [V.int (i : Int), V.int (o : Int), V.int n]) = H6 at v6 hp6 ⊢
          have hl6 := v6 _ _ hp5
          refine ⟨lp, _, _, rfl, rfl, hl6, by rw [List.length_map]; exact small1000 (by omega), ?_⟩
          have kt : ∀ (b : Addr) (us : List V), H6 b = some (.tup us) → upd H6 lp (.lst (bs.map V.ref ++ [V.ref p])) b = some (.tup us) := fun b us e => by
            rw [upd_ne fun z => by rw [z, hl6] at e; cases e]
            exact e
          refine ⟨(u5.trans v6).upd_ne' flp, ?_, bs ++ [p], _, ?_, ?_, fun b hb => ?_, rfl⟩
          · rw [upd_ne nnp]
            exact v6 _ _ hn5
          · rw [upd_same, List.map_append]
            rfl
          · rw [show i + 1 + (j + 1) = o + 1 by omega]
            exact ((q5.keep fun b us e => v6 _ _ e).add hp6 hio hom).keep kt
          · rcases List.mem_append.mp hb with y | y
            · exact fb5 b y
            · rw [List.mem_singleton] at y
              rw [y]
              exact u5.free hp
        · rintro σ' H5 ⟨u5, hn5, bs, o8, hp5, q5, fb5, rfl⟩
          have q6 := q5.up (by omega)
          exact ⟨u5, hn5, bs, _, _, hp5, q6, fb5, rfl⟩
      · rintro σ' H5 ⟨u5, hn5, bs, o7, o8, hp5, q5, fb5, rfl⟩
        have hl := q5.2.2
        have t1 : triM m m ≤ 15 := triM_le ⟨m, by omega⟩
        exact tail _ _ ⟨u5, hn5, bs, _, _, hp5, q5.ps (by omega), fb5, rfl⟩
/-! ### _law_rules -/
theorem at_lastV (xs : List V) (y : V) : atI (xs ++ [y]) (-1) = some y := by
  unfold atI ixN
  rw [List.length_append, if_neg (by decide), if_pos (by show -(((xs.length + 1 : Nat)) : Int) ≤ -1; omega)]
  show (xs ++ [y])[(-1 + ((xs.length + 1 : Nat) : Int)).toNat]? = _
  rw [show (-1 + ((xs.length + 1 : Nat) : Int)).toNat = xs.length by omega, List.getElem?_append_right (Nat.le_refl _), Nat.sub_self]
  rfl
/-- a row and what its groups earn -/
abbrev Rw_ := Addr × (Nat → Int)
def rrefs (rows : List Rw_) : List V := rows.map fun r => V.ref r.1
def RowsAt (H : Hp) (m : Nat) (rows : List Rw_) : Prop := ∀ r ∈ rows, RowAt H r.1 m r.2
theorem RowsAt.same {H H' : Hp} {m : Nat} {rows : List Rw_} (h : RowsAt H m rows) (m6 : m ≤ 6) (s : Same H H') : RowsAt H' m rows := fun r hr => (h r hr).same m6 s
/-- a row that stays one whatever becomes of the list at l -/
def RowX (l : Addr) (H : Hp) (p : Addr) (m : Nat) (e : Nat → Int) : Prop := ∀ H'', (∀ b o, b ≠ l → H b = some o → H'' b = some o) → RowAt H'' p m e
theorem RowX.keep {l : Addr} {H H' : Hp} {p : Addr} {m : Nat} {e : Nat → Int} (h : RowX l H p m e) (s : ∀ b o, b ≠ l → H b = some o → H' b = some o) : RowX l H' p m e := fun H'' k => h H'' fun b o n e => k b o n (s b o n e)
def spLRs (K : PySem.W.Frag) : Sp := fun vs H Q _ => ∃ (a : Addr) (ns : List Int) (m : Nat), vs = [.ref a, .int (m : Int)] ∧ SqL K H a (ns.map V.int) ∧ ns.length ≤ 63 ∧ 1 ≤ m ∧ m ≤ 6 ∧ ∀ (l : Addr) (rows : List Rw_) H', H l = none → Same H H' → H' l = some (.lst (rrefs rows)) → rows.length ≤ 12 → RowsAt H' m rows → Q (.ref l) H'
theorem scLRs : FnScope ["_law_script", "_law_many", "_law_some", "_law_at", "_law_most"] ["_law_script", "_law_many"] (defScope sLRs) := ⟨rfl, rfl, rfl, by decide +kernel, rfl, by decide +kernel, by decide +kernel⟩
theorem ok_lrs {f1 : Addr} {fd1 : FuncData} (t : Tx K mg "_law_rules" sLRs ["_law_script", "_law_many"] f fd) (T : T K mg AL LN RU OW PL PA VO CO fE fH rR rO rP rA rV iR iO iP iA iV iC cH cE cT SE NG NN NO NR NL NS NT NX NV TM UL) (D_law_rule : Df P w K mg base CX0 2 "_law_rule" ["_law_script", "_law_at", "_law_many"] (spLRu K) f1 fd1) :
    Df P w K mg base CX0 3 "_law_rules" ["_law_script", "_law_many"] (spLRs K) f fd := by
  refine t.df0 scLRs (fun vs H Q E h => ?_) (fun cdv A outer s H vs Q E hr h => ?_)
  · obtain ⟨a, ns, m, rfl, _⟩ := h
    rfl
  · obtain ⟨a, ns, m, rfl, ha, hns, m1, m6, k⟩ := h
    refine ⟨_, (pss_cons (ps_set (i := 2) scLRs.nd rfl (Or.inl rfl) (pe_lst pa_nil))
      (pss_cons (ps_set (i := 3) scLRs.nd rfl (Or.inl rfl) pe_int)
      (pss_cons (ps_set (i := 4) scLRs.nd rfl (Or.inl rfl) (pe_ix ix_list (pe_lst (pa_cons pe_int (pa_cons pe_int pa_nil))) (pe_callTy call_int1 (by rfl) T.b_int bt_int (pa_cons (pe_cmpR op_gt (pv 1) pe_int (nomark _)) pa_nil)) (fun _ _ => rfl)))
      (pss_cons (ps_while PassesOwn.never (PW.pt (pw_and (pt_cmpR op_lt (pv 3) (pe_callB (call_min2 rfl) (by rfl) T.b_min bt_min (pa_cons (pe_callB call_len_seq (by rfl) T.b_len bt_len (pa_cons (pv 0) pa_nil)) (pa_cons pe_int pa_nil))) (nomark _)) (pw_and1 (pt_cmpR op_lt (pe_callB call_len_seq (by rfl) T.b_len bt_len (pa_cons (pv 2) pa_nil)) (pv 4) (nomark _)))))
        (pss_cons (ps_expr (pe_bm PySem.F.plainAttrs_list PySem.F.slot_list_append PySem.F.type_list_append mt_appendR (pv 2) (pa_cons (pe_d0 D_law_rule hr (by decide) (by rfl) (pa_cons (pv 0) (pa_cons (pv 3) (pa_cons (pv 1) pa_nil)))) pa_nil)))
        (pss_one (ps_set (i := 3) scLRs.nd rfl (Or.inl rfl) (pe_op op_add (pe_op op_add (pe_op op_add (pv 3) pe_int) (pe_callB call_len_seq (by rfl) T.b_len bt_len (pa_cons (pe_ix ix_tup (pe_ix ix_list (pv 2) (pe_un un_neg pe_int) (fun _ _ => rfl)) pe_int (fun _ _ => rfl)) pa_nil))) (pe_callB call_len_seq (by rfl) T.b_len bt_len (pa_cons (pe_ix ix_tup (pe_ix ix_list (pv 2) (pe_un un_neg pe_int) (fun _ _ => rfl)) pe_int (fun _ _ => rfl)) pa_nil)))))))
      (pss_one (ps_ret (pv 2))))))), ?_⟩
    refine ⟨by show 0 ≤ sizeLine; decide, fun ls hls => ?_⟩
    have u1 := Same.upd_new (o := .lst []) hls
    have h1 : upd H ls (.lst []) ls = some (.lst (rrefs [])) := upd_same
    generalize upd H ls (.lst []) = H1 at u1 h1 ⊢
    refine ⟨by show 2 ≤ sizeLine; decide, fun lz hlz => ?_⟩
    have u2 := u1.trans (Same.upd_new (o := .lst [V.int 12, V.int 5]) hlz)
    have h2 := Same.upd_new (o := .lst [V.int 12, V.int 5]) hlz _ _ h1
    have hz2 : upd H1 lz (.lst [V.int 12, V.int 5]) lz = some (.lst [V.int 12, V.int 5]) := upd_same
    generalize upd H1 lz (.lst [V.int 12, V.int 5]) = H2 at u2 h2 hz2 ⊢
    refine ⟨_, rfl, _, _, rfl, rfl, .inr ⟨_, rfl, ?_⟩⟩
    obtain ⟨w, hw, w12⟩ : ∃ w : Nat, atI [V.int 12, V.int 5] (if decide ((m : Int) > 4) = true then (1 : Int) else 0) = some (.int (w : Int)) ∧ w ≤ 12 := by
      cases decide ((m : Int) > 4) with
      | true => exact ⟨5, rfl, by decide⟩
      | false => exact ⟨12, rfl, by decide⟩
    refine ⟨lz, _, _, _, rfl, rfl, SqL.of hz2, hw, ?_⟩
    refine ⟨fun q σ' H' => ∃ (rows : List Rw_) (at_ : Nat), q = 1000 - at_ ∧ at_ ≤ 300 ∧ Same H H' ∧ H' ls = some (.lst (rrefs rows)) ∧ rows.length ≤ 12 ∧ (∀ r ∈ rows, RowX ls H' r.1 m r.2) ∧ σ' = [some (.ref a), some (.int (m : Int)), some (.ref ls), some (.int (at_ : Int)), some (.int (w : Int))], ⟨_, [], 1, rfl, by decide, u2, h2, by decide, (fun r hr => by cases hr), rfl⟩, ?_⟩
    rintro q σ' H3 ⟨rows, at_, rfl, a300, u3, h3, r12, ra, rfl⟩
    have rl : (rrefs rows).length = rows.length := by unfold rrefs; rw [List.length_map]
    have ha3 := u3.seq ha
    have fin : Q (.ref ls) H3 := k ls rows H3 hls u3 h3 r12 fun r hr => ra r hr H3 fun b o _ e => e
    refine ⟨_, rfl, _, rfl, a, _, rfl, .inl ha3, _, _, rfl, _, _, rfl, rfl, _, rfl, ite2 (fun h4 => ?_) (fun h4 => iteF ⟨_, rfl, fin⟩)⟩
    have hat : (at_ : Int) < 64 := by
      have z := of_decide_eq_true h4
      rw [List.length_map] at z
      revert z
      split <;> intro z <;> omega
    refine ⟨_, rfl, ls, _, rfl, .inl (SqL.of h3), _, rfl, _, _, rfl, rfl, _, rfl, ite2 (fun h5 => ?_) (fun h5 => ⟨_, rfl, fin⟩)⟩
    have hlt : rows.length < 12 := by
      have z := of_decide_eq_true h5
      rw [rl] at z
      omega
    refine ⟨fun σ' H' => ∃ (rows : List Rw_) (at' : Nat), at_ < at' ∧ at' ≤ 300 ∧ Same H H' ∧ H' ls = some (.lst (rrefs rows)) ∧ rows.length ≤ 12 ∧ (∀ r ∈ rows, RowX ls H' r.1 m r.2) ∧ σ' = [some (.ref a), some (.int (m : Int)), some (.ref ls), some (.int (at' : Int)), some (.int (w : Int))], fun σ' H' ⟨rows, at', x1, x2, x3, x4, x5, x6, x7⟩ => ⟨1000 - at', by omega, rows, at', rfl, x2, x3, x4, x5, x6, x7⟩, ?_⟩
    refine ⟨_, rfl, .inl ⟨rfl, _, SqL.of h3⟩, _, rfl, _, rfl, _, rfl, a, ns, at_, m, rfl, ha3, by omega, m1, m6, fun p e H4 s4 nk => ?_⟩
    have h4' := s4 _ _ h3
    refine ⟨ls, _, _, rfl, rfl, h4', by rw [rl]; exact small1000 (by omega), ?_⟩
    have kp : ∀ b o, b ≠ ls → H4 b = some o → upd H4 ls (.lst (rrefs rows ++ [V.ref p])) b = some o := fun b o n e => by rw [upd_ne n]; exact e
    have newX : RowX ls H4 p m e := fun H'' kk => nk H'' fun b o n e => kk b o (fun z => by rw [z, h3] at n; cases n) e
    have rx5 : ∀ r ∈ rows ++ [(p, e)], RowX ls (upd H4 ls (.lst (rrefs rows ++ [V.ref p]))) r.1 m r.2 := fun r hr => by
      rcases List.mem_append.mp hr with y | y
      · exact ((ra r y).keep fun b o _ e => s4 _ _ e).keep kp
      · rw [List.mem_singleton] at y
        rw [y]
        exact newX.keep kp
    have h5' : upd H4 ls (.lst (rrefs rows ++ [V.ref p])) ls = some (.lst (rrefs (rows ++ [(p, e)]))) := by
      rw [upd_same]
      unfold rrefs
      rw [List.map_append]
      rfl
    have u5 := (u3.trans s4).upd_ne' (o := .lst (rrefs rows ++ [V.ref p])) hls
    have row5 := rx5 (p, e) (List.mem_append_right _ List.mem_cons_self) (upd H4 ls (.lst (rrefs rows ++ [V.ref p]))) fun b o _ e => e
    have h5'' : upd H4 ls (.lst (rrefs rows ++ [V.ref p])) ls = some (.lst (rrefs rows ++ [V.ref p])) := upd_same
    generalize upd H4 ls (.lst (rrefs rows ++ [V.ref p])) = H5 at rx5 h5' h5'' u5 row5 ⊢
    obtain ⟨kd, ln, lp, ms, bs, q1, q2, q3, q4, q5, _⟩ := row5
    have a1 : atI [V.int (kd : Int), V.ref ln, V.ref lp] 1 = some (.ref ln) := rfl
    have a2 : atI [V.int (kd : Int), V.ref ln, V.ref lp] 2 = some (.ref lp) := rfl
    have b15 := q4.2.2
    refine ⟨_, rfl, _, _, rfl, rfl, _, rfl, _, rfl, ls, _, _, _, rfl, rfl, SqL.of h5'', at_lastV _ _, p, _, _, _, rfl, rfl, SqT.of q1, a1, ln, _, rfl, .inl (SqL.of q2), _, _, rfl, rfl, ?_⟩
    refine ⟨_, rfl, _, rfl, ls, _, _, _, rfl, rfl, SqL.of h5'', at_lastV _ _, p, _, _, _, rfl, rfl, SqT.of q1, a2, lp, _, rfl, .inl (SqL.of q3), _, _, rfl, rfl, ?_⟩
    refine ⟨rows ++ [(p, e)], at_ + 1 + ms.length + bs.length, by omega, by omega, u5, h5', by rw [List.length_append]; show _ + 1 ≤ _; omega, rx5, ?_⟩
    show [some (V.ref a), some (V.int (m : Int)), some (V.ref ls), some (V.int ((at_ : Int) + 1 + ((ms.map V.int).length : Int) + ((bs.map V.ref).length : Int))), some (V.int (w : Int))] = _
    rw [List.length_map, List.length_map]
    push_cast
    rfl
theorem bit_of (g i : Nat) : Builtin.bitAnd ((g : Int) / 2 ^ i) 1 = ((g / 2 ^ i % 2 : Nat) : Int) := by
  have e : (g : Int) / 2 ^ i = ((g / 2 ^ i : Nat) : Int) := by push_cast; rfl
  rw [e]
  show ((g / 2 ^ i &&& 1 : Nat) : Int) = _
  rw [Nat.and_one_is_mod]
/-! ### _law_earned -/
def selN (ns : List Int) (g n : Nat) : List Int := ((List.range n).filter fun i => decide (g / 2 ^ i % 2 = 1)).map fun i => ns.getD i 0
theorem sel_pre (ns : List Int) (g : Nat) : ∀ n, (selN ns g n).sum = preS ns g n
  | 0 => rfl
  | n + 1 => by
    have ih := sel_pre ns g n
    unfold selN at ih ⊢
    rw [List.range_succ, List.filter_append, List.map_append, List.sum_append, ih]
    show preS ns g n + _ = if g / 2 ^ n % 2 = 1 then preS ns g n + ns.getD n 0 else preS ns g n
    by_cases h : g / 2 ^ n % 2 = 1
    · rw [if_pos h, List.filter_cons_of_pos (by simpa using h)]
      simp
    · rw [if_neg h, List.filter_cons_of_neg (by simpa using h)]
      simp
theorem sel_fm (ns : List Int) (g : Nat) : ((List.range (ns.map V.int).length).filterMap fun i => ((ns.map V.int)[i]?).bind fun x => if g / 2 ^ i % 2 = 1 then some x else none) = (selN ns g ns.length).map V.int := by
  unfold selN
  rw [List.length_map]
  have key : ∀ l : List Nat, (∀ i ∈ l, i < ns.length) → (l.filterMap fun i => ((ns.map V.int)[i]?).bind fun x => if g / 2 ^ i % 2 = 1 then some x else none) = ((l.filter fun i => decide (g / 2 ^ i % 2 = 1)).map fun i => ns.getD i 0).map V.int := by
    intro l hl
    induction l with
    | nil => rfl
    | cons a r ih =>
      have ha := hl a List.mem_cons_self
      rw [List.filterMap_cons, List.filter_cons, List.getElem?_map, List.getElem?_eq_getElem ha]
      have e0 : ns.getD a 0 = ns[a] := by rw [List.getD_eq_getElem?_getD, List.getElem?_eq_getElem ha]; rfl
      have ih := ih fun i hi => hl i (List.mem_cons_of_mem _ hi)
      by_cases h : g / 2 ^ a % 2 = 1
      · rw [if_pos (decide_eq_true h), List.map_cons, List.map_cons, e0, ← ih]
        rw [show ((Option.map V.int (some ns[a])).bind fun x => if g / 2 ^ a % 2 = 1 then some x else none) = some (V.int ns[a]) from if_pos h]
      · rw [if_neg (by simpa using h), ← ih]
        rw [show ((Option.map V.int (some ns[a])).bind fun x => if g / 2 ^ a % 2 = 1 then some x else none) = none from if_neg h]
  exact key _ fun i hi => List.mem_range.mp hi
theorem both_and : ∀ (g : _root_.Fin 64) (u v : _root_.Fin 6), (g.1 / 2 ^ u.1 &&& g.1 / 2 ^ v.1) &&& 1 = if both g.1 u.1 v.1 = true then 1 else 0 := by decide +kernel
def spLEa (K : PySem.W.Frag) : Sp := fun vs H Q _ => ∃ (p : Addr) (m g : Nat) (e : Nat → Int), vs = [.ref p, .int (g : Int)] ∧ RowAt H p m e ∧ 1 ≤ m ∧ m ≤ 6 ∧ g < 2 ^ m ∧ ∀ H', Same H H' → Q (.int (e g)) H'
theorem scLEa : FnScope ["_law_row", "_law_group", "_law_kind", "_law_numbers", "_law_pairs", "_law_weight"] ["_law_row", "_law_group"] (defScope sLEa) := ⟨rfl, rfl, rfl, by decide +kernel, rfl, by decide +kernel, by decide +kernel⟩
theorem ok_lea (t : Tx K mg "_law_earned" sLEa ["_law_row", "_law_group"] f fd) (T : T K mg AL LN RU OW PL PA VO CO fE fH rR rO rP rA rV iR iO iP iA iV iC cH cE cT SE NG NN NO NR NL NS NT NX NV TM UL) : Df P w K mg base CX0 1 "_law_earned" ["_law_row", "_law_group"] (spLEa K) f fd := by
  refine t.df0 scLEa (fun vs H Q E h => ?_) (fun cdv A outer s H vs Q E hr h => ?_)
  · obtain ⟨p, m, g, e, rfl, _⟩ := h
    rfl
  · obtain ⟨p, m, g, e, rfl, ⟨kd, ln, lp, ns, bs, q1, q2, q3, q4, q5, q6⟩, m1, m6, hg, k⟩ := h
    have h64 : 2 ^ m ≤ 64 := Nat.pow_le_pow_right (n := 2) (by decide) m6
    refine ⟨_, (pss_cons (ps_asg (pv 0) (pg_tup rfl (pgs_cons (pg_name (i := 2) scLEa.nd rfl (Or.inl rfl)) (pgs_cons (pg_name (i := 3) scLEa.nd rfl (by first | exact Or.inl rfl | exact Or.inr rfl)) (pgs_cons (pg_name (i := 4) scLEa.nd rfl (by first | exact Or.inl rfl | exact Or.inr rfl)) pgs_nil)))))
      (pss_cons (ps_if (pt_cmpR op_eq (pv 2) pe_int (nomark _)) (pss_one (ps_ret (pe_callB (call_sum rfl) (by rfl) T.b_sum bt_sum (pa_cons (pe_comp (NB := ["_law_k", "_law_number_here", "_law_group"]) (pick := [none, none, some 1]) (blk_mk (by with_unfolding_all rfl) (by exact (And.intro rfl trivial)) rfl (by decide +kernel) (by decide +kernel) (by rfl) (by rfl)) rfl
          (pi_enum (by rfl) T.b_enum (pa_cons (pv 3) pa_nil)) (fun _ _ _ => (show PG _ _ (gTup K 2 (gCons (gName 0) (gCons (gName 1) gNil))) from pg_tup rfl (pgs_cons (pg_name (i := 0) (show (["_law_k", "_law_number_here", "_law_group"] : List Str).Nodup from by decide +kernel) rfl (Or.inl rfl)) (pgs_cons (pg_name (i := 1) (show (["_law_k", "_law_number_here", "_law_group"] : List Str).Nodup from by decide +kernel) rfl (Or.inl rfl)) pgs_nil))))
          (fun _ _ _ => pif_one (pt_cmpR op_eq (pe_op op_and (pe_op op_shr (pv 2) (pv 0)) pe_int) pe_int (nomark _))) (fun _ _ _ => (pv 1))) pa_nil)))) pss_nil)
      (pss_cons (ps_if (pt_cmpR op_eq (pv 2) pe_int (nomark _)) (pss_one (ps_ret (pe_callB (call_sum rfl) (by rfl) T.b_sum bt_sum (pa_cons (pe_comp (NB := ["_law_one", "_law_other", "_law_number_here", "_law_group"]) (pick := [none, none, none, some 1]) (blk_mk (by with_unfolding_all rfl) (by exact (And.intro rfl trivial)) rfl (by decide +kernel) (by decide +kernel) (by rfl) (by rfl)) rfl
          (pi_list (pv 4)) (fun _ _ _ => (show PG _ _ (gTup K 3 (gCons (gName 0) (gCons (gName 1) (gCons (gName 2) gNil)))) from pg_tup rfl (pgs_cons (pg_name (i := 0) (show (["_law_one", "_law_other", "_law_number_here", "_law_group"] : List Str).Nodup from by decide +kernel) rfl (Or.inl rfl)) (pgs_cons (pg_name (i := 1) (show (["_law_one", "_law_other", "_law_number_here", "_law_group"] : List Str).Nodup from by decide +kernel) rfl (Or.inl rfl)) (pgs_cons (pg_name (i := 2) (show (["_law_one", "_law_other", "_law_number_here", "_law_group"] : List Str).Nodup from by decide +kernel) rfl (Or.inl rfl)) pgs_nil)))))
          (fun _ _ _ => pif_one (pt_cmpR op_eq (pe_op op_and (pe_op op_and (pe_op op_shr (pv 3) (pv 0)) (pe_op op_shr (pv 3) (pv 1))) pe_int) pe_int (nomark _))) (fun _ _ _ => (pv 2))) pa_nil)))) pss_nil)
      (pss_cons (ps_if (pt_cmpR op_eq (pv 2) pe_int (nomark _)) (pss_cons (ps_set (i := 5) scLEa.nd rfl (Or.inl rfl) (pe_callB (call_sum rfl) (by rfl) T.b_sum bt_sum (pa_cons (pe_comp (NB := ["_law_k", "_law_number_here", "_law_group"]) (pick := [none, none, some 1]) (blk_mk (by with_unfolding_all rfl) (by exact (And.intro rfl trivial)) rfl (by decide +kernel) (by decide +kernel) (by rfl) (by rfl)) rfl
          (pi_enum (by rfl) T.b_enum (pa_cons (pe_slice sl_list (pv 3) (po_some pe_int) po_none) pa_nil)) (fun _ _ _ => (show PG _ _ (gTup K 2 (gCons (gName 0) (gCons (gName 1) gNil))) from pg_tup rfl (pgs_cons (pg_name (i := 0) (show (["_law_k", "_law_number_here", "_law_group"] : List Str).Nodup from by decide +kernel) rfl (Or.inl rfl)) (pgs_cons (pg_name (i := 1) (show (["_law_k", "_law_number_here", "_law_group"] : List Str).Nodup from by decide +kernel) rfl (Or.inl rfl)) pgs_nil))))
          (fun _ _ _ => pif_one (pt_cmpR op_eq (pe_op op_and (pe_op op_shr (pv 2) (pv 0)) pe_int) pe_int (nomark _))) (fun _ _ _ => (pv 1))) pa_nil)))
        (pss_one (ps_ret (pe_ix ix_list (pe_lst (pa_cons pe_int (pa_cons (pe_ix ix_list (pv 3) pe_int (fun _ _ => rfl)) pa_nil))) (pe_callTy call_int1 (by rfl) T.b_int bt_int (pa_cons (pe_cmpR op_ge (pv 5) (pe_ix ix_list (pv 3) pe_int (fun _ _ => rfl)) (nomark _)) pa_nil)) (fun _ _ => rfl))))) pss_nil)
      (pss_cons (ps_if (PW.pt (pw_and (pt_cmpR op_eq (pv 2) pe_int (nomark _)) (pw_and1 (pt_cmpR op_gt (pv 1) pe_int (nomark _))))) (pss_one (ps_ret (pe_ix ix_list (pv 3) (pe_op op_sub (pv 1) pe_int) (fun _ _ => rfl)))) pss_nil)
      (pss_one (ps_ret pe_int))))))), ?_⟩
    refine ⟨_, rfl, p, _, rfl, SqT.of q1, rfl, _, _, rfl, _, _, rfl, _, _, rfl, rfl, ?_⟩
    have bit : ∀ i : Nat, Builtin.bitAnd ((g : Int) / 2 ^ (i : Int).toNat) 1 = ((g / 2 ^ i % 2 : Nat) : Int) := fun i => by rw [Int.toNat_natCast, bit_of]
    -- 1
    refine ⟨_, rfl, rfl, _, rfl, ite2 (fun h => ?_) (fun n1 => ?_)⟩
    · have hk : kd = 1 := by have := V.int.inj (of_decide_eq_true h); omega
      have he : e g = sumH ns g := by
        rcases q6 with ⟨z, _⟩ | ⟨_, _, z⟩ | ⟨z, _⟩ | ⟨z, _⟩ | ⟨z, _⟩
        · omega
        · exact z g
        · omega
        · omega
        · omega
      refine ⟨_, rfl, ln, rfl, ⟨_, SqL.of q2⟩, ?_⟩
      refine comp_enumG (xs := ns.map V.int) (fun σ' => ∃ o0 o1 : Option V, σ' = [o0, o1, some (.int (g : Int))]) (fun i x => if g / 2 ^ i % 2 = 1 then some x else none) ⟨_, _, rfl⟩ (SqL.of q2) (by rw [List.length_map]; exact Nat.le_of_lt (small1000 (by omega))) (fun i x t σ1 H3 kk kk0 hσ s3 hx ht g1 g2 => ?_) fun D H3 hD s3 hd => ?_
      · obtain ⟨o0, o1, rfl⟩ := hσ
        refine ⟨t, _, rfl, SqT.of ht, rfl, _, _, rfl, _, _, rfl, rfl, ?_⟩
        refine ⟨_, rfl, _, rfl, _, _, rfl, rfl, (by show 0 ≤ (i : Int); omega), _, _, rfl, rfl, rfl, _, rfl, ite2 (fun h3 => ?_) (fun h3 => g2 _ ⟨_, _, rfl⟩ ?_ _ (.refl _))⟩
        · have z := V.int.inj (of_decide_eq_true h3)
          rw [bit] at z
          exact ⟨_, rfl, g1 _ _ ⟨_, _, rfl⟩ (if_pos (by omega)) _ (.refl _)⟩
        · refine if_neg fun z => h3 ?_
          show decide (V.int (Builtin.bitAnd ((g : Int) / 2 ^ (i : Int).toNat) 1) = V.int 1) = true
          rw [bit, z]
          rfl
      rw [sel_fm] at hd
      refine ⟨D, _, rfl, .inl (SqL.of hd), ?_⟩
      rw [sel_pre, show preS ns g ns.length = e g from he.symm]
      exact k H3 s3
    -- 2
    refine ⟨_, rfl, rfl, _, rfl, ite2 (fun h => ?_) (fun n2 => ?_)⟩
    · have hk : kd = 2 := by have := V.int.inj (of_decide_eq_true h); omega
      have he : e g = sumP H bs g := by
        rcases q6 with ⟨z, _⟩ | ⟨z, _⟩ | ⟨_, z⟩ | ⟨z, _⟩ | ⟨z, _⟩
        · omega
        · omega
        · exact z g
        · omega
        · omega
      have hb := q4.pair m6
      refine ⟨_, rfl, lp, rfl, ⟨_, SqL.of q3⟩, ?_⟩
      refine comp_lstG (xs := bs.map V.ref) (fun σ' => ∃ o0 o1 o2 : Option V, σ' = [o0, o1, o2, some (.int (g : Int))]) (fun _ x => match x with | .ref b => (pNum (tupOf H b) g).map V.int | _ => none) ⟨_, _, _, rfl⟩ (SqL.of q3) (by rw [List.length_map]; exact Nat.le_of_lt (small1000 (by have := q4.2.2; omega))) (fun i x σ1 H2 kk kk0 hσ s2 hx h1 h2 => ?_) fun D H2 hD s2 hd => ?_
      · obtain ⟨o0, o1, o2, rfl⟩ := hσ
        obtain ⟨b, hbm, rfl⟩ := List.mem_map.mp (List.mem_of_getElem? hx)
        obtain ⟨u, v, n, eb, hu, hv⟩ := hb b hbm
        have et : pNum (tupOf H b) g = if both g u v = true then some n else none := by rw [tupOf_at (ns := [(u : Int), v, n]) eb]; rfl
        have ez : Builtin.bitAnd (Builtin.bitAnd ((g : Int) / 2 ^ (u : Int).toNat) ((g : Int) / 2 ^ (v : Int).toNat)) 1 = (if both g u v = true then 1 else 0 : Int) := by
          have z : (g / 2 ^ u &&& g / 2 ^ v) &&& 1 = if both g u v = true then 1 else 0 := both_and ⟨g, by omega⟩ ⟨u, hu⟩ ⟨v, hv⟩
          rw [Int.toNat_natCast, Int.toNat_natCast, show (g : Int) / 2 ^ u = ((g / 2 ^ u : Nat) : Int) by push_cast; rfl, show (g : Int) / 2 ^ v = ((g / 2 ^ v : Nat) : Int) by push_cast; rfl]
          show (((g / 2 ^ u &&& g / 2 ^ v) &&& 1 : Nat) : Int) = _
          rw [z]
          split <;> rfl
        refine ⟨b, _, rfl, SqT.of (s2 _ _ eb), rfl, _, _, rfl, _, _, rfl, _, _, rfl, rfl, ?_⟩
        refine ⟨_, rfl, _, rfl, _, _, rfl, rfl, (by show 0 ≤ (u : Int); omega), _, rfl, _, rfl, _, _, rfl, rfl, (by show 0 ≤ (v : Int); omega), _, _, rfl, rfl, _, _, rfl, rfl, rfl, _, rfl, ?_⟩
        show if decide (V.int (Builtin.bitAnd (Builtin.bitAnd ((g : Int) / 2 ^ (u : Int).toNat) ((g : Int) / 2 ^ (v : Int).toNat)) 1) = V.int 1) = true then _ else _
        rw [ez]
        cases ebo : both g u v with
        | true => exact iteT ⟨_, rfl, h1 _ _ ⟨_, _, _, rfl⟩ (by show (pNum (tupOf H b) g).map V.int = _; rw [et, ebo]; rfl) _ (.refl _)⟩
        | false => exact iteF (h2 _ ⟨_, _, _, rfl⟩ (by show (pNum (tupOf H b) g).map V.int = _; rw [et, ebo]; rfl) _ (.refl _))
      have ed : H2 D = some (.lst ((bs.filterMap fun b => pNum (tupOf H b) g).map V.int)) := by
        rw [hd, fm_bind, List.filterMap_map, List.map_filterMap]
        rfl
      refine ⟨D, _, rfl, .inl (SqL.of ed), ?_⟩
      rw [show (bs.filterMap fun b => pNum (tupOf H b) g).sum = e g from he.symm]
      exact k H2 s2
    -- 3
    refine ⟨_, rfl, rfl, _, rfl, ite2 (fun h => ?_) (fun n3 => ?_)⟩
    · have hk : kd = 3 := by have := V.int.inj (of_decide_eq_true h); omega
      obtain ⟨nl, he⟩ : ns.length = m + 2 ∧ e g = votN (ns.getD 0 0) (ns.getD 1 0) (ns.drop 2) g := by
        rcases q6 with ⟨z, _⟩ | ⟨z, _⟩ | ⟨z, _⟩ | ⟨_, z1, _, z2⟩ | ⟨z, _⟩
        · omega
        · omega
        · omega
        · exact ⟨z1, z2 g⟩
        · omega
      refine ⟨_, rfl, _, rfl, ln, _, rfl, SqL.of q2, fun l2 hl2 => ?_⟩
      have ec : cutV (ns.map V.int) (some 2) none = (ns.drop 2).map V.int := by rw [show (2 : Int) = ((2 : Nat) : Int) from rfl, cut_lo, ← List.map_drop]
      rw [ec]
      have u1 := Same.upd_new (o := .lst ((ns.drop 2).map V.int)) hl2
      have h2' : upd H l2 (.lst ((ns.drop 2).map V.int)) l2 = some (.lst ((ns.drop 2).map V.int)) := upd_same
      generalize upd H l2 (.lst ((ns.drop 2).map V.int)) = H1 at u1 h2' ⊢
      refine ⟨l2, rfl, ⟨_, SqL.of h2'⟩, ?_⟩
      refine comp_enumG (xs := (ns.drop 2).map V.int) (fun σ' => ∃ o0 o1 : Option V, σ' = [o0, o1, some (.int (g : Int))]) (fun i x => if g / 2 ^ i % 2 = 1 then some x else none) ⟨_, _, rfl⟩ (SqL.of h2') (by rw [List.length_map, List.length_drop]; exact Nat.le_of_lt (small1000 (by omega))) (fun i x t σ1 H3 kk kk0 hσ s3 hx ht g1 g2 => ?_) fun D H3 hD s3 hd => ?_
      · obtain ⟨o0, o1, rfl⟩ := hσ
        refine ⟨t, _, rfl, SqT.of ht, rfl, _, _, rfl, _, _, rfl, rfl, ?_⟩
        refine ⟨_, rfl, _, rfl, _, _, rfl, rfl, (by show 0 ≤ (i : Int); omega), _, _, rfl, rfl, rfl, _, rfl, ite2 (fun h3 => ?_) (fun h3 => g2 _ ⟨_, _, rfl⟩ ?_ _ (.refl _))⟩
        · have z := V.int.inj (of_decide_eq_true h3)
          rw [bit] at z
          exact ⟨_, rfl, g1 _ _ ⟨_, _, rfl⟩ (if_pos (by omega)) _ (.refl _)⟩
        · refine if_neg fun z => h3 ?_
          show decide (V.int (Builtin.bitAnd ((g : Int) / 2 ^ (i : Int).toNat) 1) = V.int 1) = true
          rw [bit, z]
          rfl
      rw [sel_fm] at hd
      refine ⟨D, _, rfl, .inl (SqL.of hd), ?_⟩
      rw [sel_pre, show preS (ns.drop 2) g (ns.drop 2).length = sumH (ns.drop 2) g from rfl]
      have u3 := u1.trans s3
      have q2' := u3 _ _ q2
      have at1 : atI (ns.map V.int) 1 = some (.int (ns.getD 1 0)) := at_of (j := 1) (by omega)
      have at0 : atI (ns.map V.int) 0 = some (.int (ns.getD 0 0)) := at_of (j := 0) (by omega)
      refine ⟨_, rfl, ln, _, _, _, rfl, rfl, SqL.of q2', at1, by show 2 ≤ sizeLine; decide, fun lz hlz => ?_⟩
      have u4 := Same.upd_new (o := .lst [V.int 0, V.int (ns.getD 1 0)]) hlz
      refine ⟨_, rfl, _, rfl, ln, _, _, _, rfl, rfl, SqL.of (u4 _ _ q2'), at0, _, _, rfl, rfl, .inr ⟨_, rfl, ?_⟩⟩
      refine ⟨lz, _, _, .int (e g), rfl, rfl, SqL.of upd_same, ?_, k _ (u3.trans u4)⟩
      rw [he]
      unfold votN
      show atI [V.int 0, V.int (ns.getD 1 0)] (if decide (sumH (ns.drop 2) g ≥ ns.getD 0 0) = true then (1 : Int) else 0) = _
      by_cases hq : ns.getD 0 0 ≤ sumH (ns.drop 2) g
      · rw [if_pos hq, decide_eq_true (show sumH (ns.drop 2) g ≥ ns.getD 0 0 from hq)]
        rfl
      · rw [if_neg hq, decide_eq_false (show ¬ sumH (ns.drop 2) g ≥ ns.getD 0 0 from hq)]
        rfl
    -- 4
    refine ⟨_, rfl, rfl, _, rfl, ite2 (fun h => ?_) (fun n4 => iteF ?_)⟩
    · have hk : kd = 4 := by have := V.int.inj (of_decide_eq_true h); omega
      obtain ⟨nl, he⟩ : ns.length = 2 ^ m - 1 ∧ e g = (0 :: ns).getD g 0 := by
        rcases q6 with ⟨z, _⟩ | ⟨z, _⟩ | ⟨z, _⟩ | ⟨z, _⟩ | ⟨_, z1, z2⟩
        · omega
        · omega
        · omega
        · omega
        · exact ⟨z1, z2 g⟩
      refine ⟨_, rfl, _, _, rfl, rfl, _, rfl, ite2 (fun h2 => ?_) (fun h2 => ?_)⟩
      · have g0 : 0 < g := by have := of_decide_eq_true h2; omega
        obtain ⟨j, rfl⟩ : ∃ j, g = j + 1 := ⟨g - 1, by omega⟩
        refine ⟨_, rfl, _, rfl, _, _, rfl, rfl, ln, _, _, _, rfl, rfl, SqL.of q2, (by show atI (ns.map V.int) (((j + 1 : Nat) : Int) - 1) = _; rw [show ((j + 1 : Nat) : Int) - 1 = (j : Int) by omega]; exact at_of (by omega)), ?_⟩
        have z : e (j + 1) = ns.getD j 0 := he
        rw [← z]
        exact k H (.refl _)
      · have g0 : g = 0 := by
          rcases Nat.eq_zero_or_pos g with z | z
          · exact z
          · exact absurd (decide_eq_true (by omega)) h2
        subst g0
        have z : e 0 = 0 := he
        rw [z] at k
        exact k H (.refl _)
    · have z : e g = 0 := by
        have x1 : kd ≠ 1 := fun z => n1 (by rw [z]; rfl)
        have x2 : kd ≠ 2 := fun z => n2 (by rw [z]; rfl)
        have x3 : kd ≠ 3 := fun z => n3 (by rw [z]; rfl)
        have x4 : kd ≠ 4 := fun z => n4 (by rw [z]; rfl)
        rcases q6 with ⟨_, z⟩ | ⟨z, _⟩ | ⟨z, _⟩ | ⟨z, _⟩ | ⟨z, _⟩
        · exact z g
        · exact absurd z x1
        · exact absurd z x2
        · exact absurd z x3
        · exact absurd z x4
      rw [z] at k
      exact k H (.refl _)
/-! ### _law_object -/
theorem made_at {H : Hp} {q x dx : Addr} {o u v : HO} (hq : H q = some o) (hx : H x = none) (hd : H dx = none) : upd (upd H dx u) x v q = some o := by
  rw [upd_ne (ne_of_none hq hx), upd_ne (ne_of_none hq hd)]
  exact hq
theorem mk_own {K : PySem.W.Frag} {NL OW : Addr} {H : Hp} {q : Addr} {ns : List Int} {x dx : Addr} {R : VK} {E : XK} (hx : H x = none) (hd : H dx = none) (ne : dx ≠ x) (hq : H q = some (.lst (ns.map V.int))) (h1 : 1 ≤ ns.length) (h6 : ns.length ≤ 6)
    (k : ∀ l H', H l = none → Same H H' → H' x = some (.ins OW dx [("many", .int (ns.length : Int)), ("numbers", .ref l)]) → H' l = some (.lst (ns.map V.int)) → R .non H') :
    spOI K NL OW [.ref x, .ref q] (upd (upd H dx (.own x)) x (.ins OW dx [])) R E := by
  refine ⟨x, dx, q, _, rfl, upd_same, made_at hq hx hd, pl_ints, by rw [List.length_map]; omega, fun no => ?_, fun _ l H' hl sb e1 e2 => ?_⟩
  · unfold okN at no
    rw [List.length_map, decide_eq_true h1, decide_eq_true h6, all_ints] at no
    cases no
  · have nl : l ≠ x := fun z => by rw [z, upd_same] at hl; cases hl
    have nd : l ≠ dx := fun z => by rw [z, upd_ne ne, upd_same] at hl; cases hl
    rw [upd_ne nl, upd_ne nd] at hl
    rw [List.length_map] at e1
    exact k l H' hl (sb.made hx hd ne) e1 e2
theorem tabB_ok {ns : List Int} {m : Nat} (hn : (0 :: ns).length = 2 ^ m) (h1 : 1 ≤ m) (h6 : m ≤ 6) : tabB ((0 :: ns).map V.int) = true := by
  unfold tabB
  rw [all_ints, List.length_map, hn]
  have : ∀ m : _root_.Fin 7, 1 ≤ m.1 → [2, 4, 8, 16, 32, 64].contains (2 ^ m.1) = true := by decide
  rw [this ⟨m, by omega⟩ h1]
  rfl
theorem mk_plain {K : PySem.W.Frag} {NT PL : Addr} {H : Hp} {q : Addr} {ns : List Int} {m : Nat} {x dx : Addr} {R : VK} {E : XK} (hx : H x = none) (hd : H dx = none) (ne : dx ≠ x) (hq : H q = some (.lst ((0 :: ns).map V.int))) (hn : (0 :: ns).length = 2 ^ m) (h1 : 1 ≤ m) (h6 : m ≤ 6)
    (k : ∀ l H', H l = none → Same H H' → H' x = some (.ins PL dx [("many", .int (m : Int)), ("earnings", .ref l)]) → H' l = some (.lst ((0 :: ns).map V.int)) → R .non H') :
    spPI K NT PL [.ref x, .ref q] (upd (upd H dx (.own x)) x (.ins PL dx [])) R E := by
  have h64 := pow6 h6
  have ok := tabB_ok hn h1 h6
  refine ⟨x, dx, q, _, rfl, upd_same, made_at hq hx hd, pl_ints, by rw [List.length_map]; omega, fun no => ?_, fun _ m' l H' m1 m6 hm' hl sb e1 e2 => ?_⟩
  · rw [ok] at no
    cases no
  · have nl : l ≠ x := fun z => by rw [z, upd_same] at hl; cases hl
    have nd : l ≠ dx := fun z => by rw [z, upd_ne ne, upd_same] at hl; cases hl
    rw [upd_ne nl, upd_ne nd] at hl
    have em : m' = m := by
      rw [List.length_map, hn] at hm'
      have inj : ∀ a b : _root_.Fin 7, 2 ^ a.1 = 2 ^ b.1 → b.1 = a.1 := by decide
      exact inj ⟨m, by omega⟩ ⟨m', by omega⟩ hm'
    subst em
    exact k l H' hl (sb.made hx hd ne) e1 e2
theorem mk_rule {K : PySem.W.Frag} {NL RU : Addr} (c : OCls K RU) (n : NoAttr K RU "many") {H : Hp} {m : Nat} {x dx : Addr} {R : VK} {E : XK} (hx : H x = none) (hd : H dx = none) (ne : dx ≠ x) (h1 : 1 ≤ m) (h6 : m ≤ 6)
    (k : ∀ H', Same H H' → H' x = some (.ins RU dx [("many", .int (m : Int))]) → R .non H') :
    spRI K NL [.ref x, .int (m : Int)] (upd (upd H dx (.own x)) x (.ins RU dx [])) R E := by
  have ok : inB 1 6 (.int (m : Int)) = true := by rw [inB_16, decide_eq_true h1, decide_eq_true h6]; rfl
  refine ⟨x, RU, dx, _, rfl, upd_same, c.cl, n, .int _, fun no => ?_, fun _ => ?_⟩
  · rw [ok] at no
    cases no
  · refine k _ (SameBut.made hx hd ne (((Same.refl _).but x).updx _)) upd_same

theorem mk_pairs {K : PySem.W.Frag} {NL PA : Addr} {H : Hp} {q : Addr} {m : Nat} {bs : List Addr} {x dx : Addr} {R : VK} {E : XK} (hx : H x = none) (hd : H dx = none) (ne : dx ≠ x) (hq : H q = some (.lst (bs.map V.ref))) (ok : PsOk m H bs) (h1 : 1 ≤ m) (h6 : m ≤ 6)
    (k : ∀ (l : Addr) (cs : List Addr) (H' : Hp), H l = none → cs.Perm bs → Same H H' → H' x = some (.ins PA dx [("many", .int (m : Int)), ("pairs", .ref l)]) → H' l = some (.lst (cs.map V.ref)) → R .non H') :
    spPaI K NL PA [.ref x, .int (m : Int), .ref q] (upd (upd H dx (.own x)) x (.ins PA dx [])) R E := by
  have ok' : PsOk m (upd (upd H dx (.own x)) x (.ins PA dx [])) bs := ok.same fun b _ o e => made_at e hx hd
  have i16 : inB 1 6 (.int (m : Int)) = true := by rw [inB_16, decide_eq_true h1, decide_eq_true h6]; rfl
  refine ⟨x, dx, q, _, bs, rfl, upd_same, .int _, made_at hq hx hd, ok'.tups, by have := ok.2.2; omega, fun no => ?_, fun m' e _ => ⟨fun no => ?_, fun _ l cs H' hl p sb e1 e2 => ?_⟩⟩
  · rw [i16] at no
    cases no
  · have e := V.int.inj e
    subst e
    rw [ok'.ok] at no
    cases no
  · have nl : l ≠ x := fun z => by rw [z, upd_same] at hl; cases hl
    have nd : l ≠ dx := fun z => by rw [z, upd_ne ne, upd_same] at hl; cases hl
    rw [upd_ne nl, upd_ne nd] at hl
    exact k l cs H' hl p (sb.made hx hd ne) e1 e2
theorem mk_votes {K : PySem.W.Frag} {NL VO : Addr} {H : Hp} {p : Addr} {q pz : Int} {ws : List Int} {x dx : Addr} {R : VK} {E : XK} (hx : H x = none) (hd : H dx = none) (ne : dx ≠ x) (hp : H p = some (.lst (ws.map V.int))) (hq : 1 ≤ q) (h1 : 1 ≤ ws.length) (h6 : ws.length ≤ 6)
    (k : ∀ (l : Addr) (H' : Hp), H l = none → Same H H' → H' x = some (.ins VO dx [("many", .int (ws.length : Int)), ("quota", .int q), ("prize", .int pz), ("weights", .ref l)]) → H' l = some (.lst (ws.map V.int)) → R .non H') :
    spVI K NL VO [.ref x, .int q, .int pz, .ref p] (upd (upd H dx (.own x)) x (.ins VO dx [])) R E := by
  refine ⟨x, dx, p, _, _, _, rfl, upd_same, .int _, .int _, made_at hp hx hd, pl_ints, by rw [List.length_map]; omega, fun no => ?_, fun _ l H' hl sb e1 e2 => ?_⟩
  · have ok : okV (.int q) (.int pz) (ws.map V.int) = true := by
      unfold okV okN
      rw [List.length_map, all_ints, decide_eq_true h1, decide_eq_true h6]
      show decide (1 ≤ q) = true
      exact decide_eq_true hq
    rw [ok] at no
    cases no
  · have nl : l ≠ x := fun z => by rw [z, upd_same] at hl; cases hl
    have nd : l ≠ dx := fun z => by rw [z, upd_ne ne, upd_same] at hl; cases hl
    rw [upd_ne nl, upd_ne nd] at hl
    rw [List.length_map] at e1
    exact k l H' hl (sb.made hx hd ne) e1 e2
/-- a rule that stays one as long as these things stay -/
def ObF (P : Program) (w : World) (K : PySem.W.Frag) (mg : Str → Option Value) (base : Heap) (fE fH RU : Addr) (H : Hp) (F : List Addr) (x : Addr) (m : Nat) (e : Nat → Int) : Prop := ∀ H'', (∀ b ∈ F, ∀ o, H b = some o → H'' b = some o) → RObj P w K mg base fE fH RU H'' x m e
def spLOb (P : Program) (w : World) (K : PySem.W.Frag) (mg : Str → Option Value) (base : Heap) (fE fH RU : Addr) : Sp := fun vs H Q _ => ∃ (p lh : Addr) (m : Nat) (e : Nat → Int) (ws : List V), vs = [.ref p, .int (m : Int), .ref lh] ∧ RowAt H p m e ∧ 1 ≤ m ∧ m ≤ 6 ∧ H lh = some (.lst ws) ∧ ws.length ≤ 60 ∧
  (∀ kd ln lp, H p = some (.tup [.int (kd : Int), .ref ln, .ref lp]) → ln ≠ lh ∧ lp ≠ lh) ∧
  ∀ (x l : Addr) (F : List Addr) (ys : List V) H', (∀ b o, b ≠ lh → H b = some o → H' b = some o) → H' lh = some (.lst (ws ++ [.ref l])) → H l = none → H' l = some (.lst ys) → ys.length ≤ 100 → H x = none → ObF P w K mg base fE fH RU H' F x m e → (∀ b ∈ F, b ≠ lh ∧ b ≠ l ∧ (H b = none ∨ ∃ us, H b = some (.tup us))) → Q (.ref x) H'
theorem scLOb : FnScope ["_law_row", "_law_many", "_law_handed", "_law_kind", "_law_numbers", "_law_pairs"] ["_law_row", "_law_many", "_law_handed"] (defScope sLOb) := ⟨rfl, rfl, rfl, by decide +kernel, rfl, by decide +kernel, by decide +kernel⟩
theorem ok_lob (t : Tx K mg "_law_object" sLOb ["_law_row", "_law_many", "_law_handed"] f fd) (T : T K mg AL LN RU OW PL PA VO CO fE fH rR rO rP rA rV iR iO iP iA iV iC cH cE cT SE NG NN NO NR NL NS NT NX NV TM UL) (D_RI : Md P w K mg base 4 ["self", "many"] (spRI K NL) iR) (D_OI : Md P w K mg base 5 ["self", "numbers"] (spOI K NL OW) iO) (D_PI : Md P w K mg base 5 ["self", "table"] (spPI K NT PL) iP)
    (D_PaI : Md P w K mg base 5 ["self", "many", "pairs"] (spPaI K NL PA) iA) (D_VI : Md P w K mg base 5 ["self", "quota", "prize", "weights"] (spVI K NL VO) iV)
    (D_OR : Md P w K mg base 6 ["self", "group"] (spOR OW) rO) (D_PR : Md P w K mg base 1 ["self", "group"] (spPR PL) rP) (D_PaR : Md P w K mg base 2 ["self", "group"] (spPaR PA) rA) (D_VR : Md P w K mg base 6 ["self", "group"] (spVR VO) rV) (D_RR : Md P w K mg base 1 ["self", "group"] spRR rR) :
    Df P w K mg base CX0 7 "_law_object" ["_law_row", "_law_many", "_law_handed"] (spLOb P w K mg base fE fH RU) f fd := by
  refine t.df0 scLOb (fun vs H Q E h => ?_) (fun cdv A outer s H vs Q E hr h => ?_)
  · obtain ⟨p, lh, m, e, ws, rfl, _⟩ := h
    rfl
  · obtain ⟨p, lh, m, e, ws, rfl, ⟨kd, ln, lp, ns, bs, q1, q2, q3, q4, q5, q6⟩, m1, m6, hlh, wl, hnlh, k⟩ := h
    have h64 : 2 ^ m ≤ 64 := Nat.pow_le_pow_right (n := 2) (by decide) m6
    obtain ⟨nln, nlp⟩ := hnlh kd ln lp q1
    have npl : p ≠ lh := fun z => by rw [z, hlh] at q1; cases q1
    refine ⟨_, (pss_cons (ps_asg (pv 0) (pg_tup rfl (pgs_cons (pg_name (i := 3) scLOb.nd rfl (Or.inl rfl)) (pgs_cons (pg_name (i := 4) scLOb.nd rfl (Or.inl rfl)) (pgs_cons (pg_name (i := 5) scLOb.nd rfl (Or.inl rfl)) pgs_nil)))))
      (pss_cons (ps_expr (pe_bm PySem.F.plainAttrs_list PySem.F.slot_list_append PySem.F.type_list_append mt_appendR (pv 2) (pa_cons (pe_callTy call_list_of (by rfl) T.b_list bt_list (pa_cons (pv 4) pa_nil)) pa_nil)))
      (pss_cons (ps_if (pt_cmpR op_eq (pv 3) pe_int (nomark _)) (pss_one (ps_ret (pe_makeX pass_no T.kOW D_OI hr (by decide) (by rfl) T.mOW (pa_cons (pe_ix ix_list (pv 2) (pe_un un_neg pe_int) (fun _ _ => rfl)) pa_nil)))) pss_nil)
      (pss_cons (ps_if (pt_cmpR op_eq (pv 3) pe_int (nomark _)) (pss_cons (ps_asg (pe_callTy call_list_of (by rfl) T.b_list bt_list (pa_cons (pv 5) pa_nil)) (pg_sub (pv 2) (pe_un un_neg pe_int) set_list))
        (pss_one (ps_ret (pe_makeX pass_no T.kPA D_PaI hr (by decide) (by rfl) T.mPA (pa_cons (pv 1) (pa_cons (pe_ix ix_list (pv 2) (pe_un un_neg pe_int) (fun _ _ => rfl)) pa_nil)))))) pss_nil)
      (pss_cons (ps_if (pt_cmpR op_eq (pv 3) pe_int (nomark _)) (pss_cons (ps_asg (pe_slice sl_list (pv 4) (po_some pe_int) po_none) (pg_sub (pv 2) (pe_un un_neg pe_int) set_list))
        (pss_one (ps_ret (pe_makeX pass_no T.kVO D_VI hr (by decide) (by rfl) T.mVO (pa_cons (pe_ix ix_list (pv 4) pe_int (fun _ _ => rfl)) (pa_cons (pe_ix ix_list (pv 4) pe_int (fun _ _ => rfl)) (pa_cons (pe_ix ix_list (pv 2) (pe_un un_neg pe_int) (fun _ _ => rfl)) pa_nil))))))) pss_nil)
      (pss_cons (ps_if (pt_cmpR op_eq (pv 3) pe_int (nomark _)) (pss_cons (ps_asg (pe_op op_catQ (pe_lst (pa_cons pe_int pa_nil)) (pv 4)) (pg_sub (pv 2) (pe_un un_neg pe_int) set_list))
        (pss_one (ps_ret (pe_makeX pass_no T.kPL D_PI hr (by decide) (by rfl) T.mPL (pa_cons (pe_ix ix_list (pv 2) (pe_un un_neg pe_int) (fun _ _ => rfl)) pa_nil))))) pss_nil)
      (pss_one (ps_ret (pe_makeX pass_no T.kRU D_RI hr (by decide) (by rfl) T.mRU (pa_cons (pv 1) pa_nil)))))))))), ?_⟩
    refine ⟨_, rfl, p, _, rfl, SqT.of q1, rfl, _, _, rfl, _, _, rfl, _, _, rfl, rfl, ?_⟩
    refine ⟨_, rfl, .inl ⟨rfl, _, SqL.of hlh⟩, _, rfl, ln, _, rfl, .inl (SqL.of q2), fun l1 hl1 => ?_⟩
    have v1 := Same.upd_new (o := .lst (ns.map V.int)) hl1
    have k1 : upd H l1 (.lst (ns.map V.int)) l1 = some (.lst (ns.map V.int)) := upd_same
    have n1h : l1 ≠ lh := (ne_of_none hlh hl1).symm
    have hlh1 := v1 _ _ hlh
    generalize upd H l1 (.lst (ns.map V.int)) = H1 at v1 k1 hlh1 ⊢
    refine ⟨lh, _, _, rfl, rfl, hlh1, small1000 (by omega), ?_⟩
    have kp : ∀ b o, b ≠ lh → H1 b = some o → upd H1 lh (.lst (ws ++ [V.ref l1])) b = some o := fun b o n e => by rw [upd_ne n]; exact e
    have k2 := kp _ _ n1h k1
    have hlh2 : upd H1 lh (.lst (ws ++ [V.ref l1])) lh = some (.lst (ws ++ [V.ref l1])) := upd_same
    have kb2 : ∀ b o, b ≠ lh → H b = some o → upd H1 lh (.lst (ws ++ [V.ref l1])) b = some o := fun b o n e => kp _ _ n (v1 _ _ e)
    have fr2 : ∀ b, upd H1 lh (.lst (ws ++ [V.ref l1])) b = none → H b = none ∧ b ≠ lh ∧ b ≠ l1 := fun b hb => by
      have n : b ≠ lh := fun z => by rw [z, upd_same] at hb; cases hb
      rw [upd_ne n] at hb
      exact ⟨v1.free hb, n, fun z => by rw [z, k1] at hb; cases hb⟩
    generalize upd H1 lh (.lst (ws ++ [V.ref l1])) = H2 at k2 hlh2 kb2 fr2 ⊢
    clear kp hlh1
    have ok2 : PsOk m H2 bs := q4.same fun b hb o eb => kb2 _ _ (fun z => by
      obtain ⟨u, v, n, e', _⟩ := q4.1 b hb
      rw [z, hlh] at e'
      cases e') eb
    -- 1
    refine ⟨_, rfl, rfl, _, rfl, ite2 (fun h => ?_) (fun n1 => ?_)⟩
    · have hk : kd = 1 := by have := V.int.inj (of_decide_eq_true h); omega
      obtain ⟨nl, he⟩ : ns.length = m ∧ e = sumH ns := by
        rcases q6 with ⟨z, _⟩ | ⟨_, z1, z⟩ | ⟨z, _⟩ | ⟨z, _⟩ | ⟨z, _⟩
        · omega
        · exact ⟨z1, funext z⟩
        · omega
        · omega
        · omega
      refine ⟨_, rfl, _, rfl, lh, _, _, _, rfl, rfl, SqL.of hlh2, at_lastV _ _, fun x dx hx hd ne => mk_own hx hd ne k2 (by omega) (by omega) fun l' H3 hl' s3 hx3 hl3 => ⟨rfl, ?_⟩⟩
      refine k x l1 [x, l'] _ H3 (fun b o n e => s3 _ _ (kb2 b o n e)) (s3 _ _ hlh2) hl1 (s3 _ _ k2) (by rw [List.length_map]; omega) (fr2 x hx).1 (fun H'' kk => ?_) fun b hb => ?_
      · rw [he, ← nl]
        exact own_obj D_OR T.rOW (kk _ (by simp) _ hx3) (kk _ (by simp) _ hl3) (by omega) (by omega)
      · rcases List.mem_cons.mp hb with z | z
        · rw [z]
          exact ⟨(fr2 x hx).2.1, (fr2 x hx).2.2, .inl (fr2 x hx).1⟩
        · rw [List.mem_singleton] at z
          rw [z]
          exact ⟨(fr2 l' hl').2.1, (fr2 l' hl').2.2, .inl (fr2 l' hl').1⟩
    have hix : ixN (ws ++ [V.ref l1]).length (-1) = some ws.length := by
      unfold ixN
      rw [List.length_append, if_neg (by decide), if_pos (by show -(((ws.length + 1 : Nat)) : Int) ≤ -1; omega)]
      exact congrArg some (by show (-1 + ((ws.length + 1 : Nat) : Int)).toNat = _; omega)
    have put : ∀ (Hx : Hp) (l2 : Addr) (o : List V), Same H2 Hx → Hx l2 = none → let H4 := upd (upd Hx l2 (.lst o)) lh (.lst ((ws ++ [V.ref l1]).set ws.length (V.ref l2))); H4 lh = some (.lst (ws ++ [V.ref l2])) ∧ H4 l2 = some (.lst o) ∧ (∀ b u, b ≠ lh → H2 b = some u → H4 b = some u) ∧ (∀ b, H4 b = none → H b = none ∧ b ≠ lh ∧ b ≠ l2) ∧ H l2 = none := by
      intro Hx l2 o sx hl2
      have n2 : l2 ≠ lh := (ne_of_none (sx _ _ hlh2) hl2).symm
      have f2 : H2 l2 = none := sx.free hl2
      refine ⟨?_, ?_, fun b u n e => ?_, fun b hb => ?_, (fr2 l2 f2).1⟩
      · rw [upd_same, List.set_append_right _ _ (Nat.le_refl _), Nat.sub_self]
        rfl
      · rw [upd_ne n2, upd_same]
      · rw [upd_ne n, upd_ne (ne_of_none (sx _ _ e) hl2)]
        exact sx _ _ e
      · have n : b ≠ lh := fun z => by rw [z, upd_same] at hb; cases hb
        rw [upd_ne n] at hb
        have n' : b ≠ l2 := fun z => by rw [z, upd_same] at hb; cases hb
        rw [upd_ne n'] at hb
        exact ⟨(fr2 b (sx.free hb)).1, n, n'⟩
    -- 2
    refine ⟨_, rfl, rfl, _, rfl, ite2 (fun h => ?_) (fun n2 => ?_)⟩
    · have hk : kd = 2 := by have := V.int.inj (of_decide_eq_true h); omega
      have he : e = sumP H bs := by
        rcases q6 with ⟨z, _⟩ | ⟨z, _⟩ | ⟨_, z⟩ | ⟨z, _⟩ | ⟨z, _⟩
        · omega
        · omega
        · exact funext z
        · omega
        · omega
      refine ⟨_, rfl, lp, _, rfl, .inl (SqL.of (kb2 _ _ nlp q3)), fun l2 hl2 => ?_⟩
      obtain ⟨p1, p2, p3, p4, p5⟩ := put H2 l2 (bs.map V.ref) (.refl _) hl2
      have w2 := Same.upd_new (o := .lst (bs.map V.ref)) hl2
      refine ⟨_, rfl, _, rfl, lh, _, _, ws.length, rfl, rfl, w2 _ _ hlh2, hix, ?_⟩
      generalize upd (upd H2 l2 (.lst (bs.map V.ref))) lh (.lst ((ws ++ [V.ref l1]).set ws.length (V.ref l2))) = H4 at p1 p2 p3 p4 ⊢
      have nbl : ∀ b ∈ bs, b ≠ lh := fun b hb z => by
        obtain ⟨u, v, n, e', _⟩ := q4.1 b hb
        rw [z, hlh] at e'
        cases e'
      have kB : ∀ b ∈ bs, ∀ o, H b = some o → H4 b = some o := fun b hb o eb => p3 _ _ (nbl b hb) (kb2 _ _ (nbl b hb) eb)
      have ok4 : PsOk m H4 bs := q4.same kB
      refine ⟨_, rfl, _, rfl, _, rfl, lh, _, _, _, rfl, rfl, SqL.of p1, at_lastV _ _, fun x dx hx hd ne => mk_pairs hx hd ne p2 ok4 m1 m6 fun l' cs H5 hl' pm s5 hx5 hl5 => ⟨rfl, ?_⟩⟩
      have fb : ∀ b ∈ bs, ∃ us, H b = some (.tup us) := fun b hb => by
        obtain ⟨u, v, n, e', _⟩ := q4.1 b hb
        exact ⟨_, e'⟩
      refine k x l2 (x :: l' :: cs) _ H5 (fun b o n e => s5 _ _ (p3 _ _ n (kb2 b o n e))) (s5 _ _ p1) p5 (s5 _ _ p2) (by rw [List.length_map]; have := q4.2.2; omega) (p4 x hx).1 (fun H'' kk => ?_) fun b hb => ?_
      · have kc : ∀ b ∈ cs, ∀ o, H b = some o → H'' b = some o := fun b hb o eb => kk b (List.mem_cons_of_mem _ (List.mem_cons_of_mem _ hb)) o (s5 _ _ (kB b (pm.mem_iff.mp hb) o eb))
        have okc : PsOk m H cs := q4.of_perm pm
        have z : e = sumP H'' cs := by
          rw [he]
          funext g
          rw [okc.sumP m6 kc g]
          exact (sumP_perm pm g).symm
        rw [z]
        exact pairs_obj D_PaR T.rPA (kk _ (by simp) _ hx5) (kk _ (by simp) _ hl5) (by have := okc.2.2; omega) ((okc.same kc).pair m6) m1 m6
      · rcases List.mem_cons.mp hb with z | z
        · rw [z]
          exact ⟨(p4 x hx).2.1, (p4 x hx).2.2, .inl (p4 x hx).1⟩
        · rcases List.mem_cons.mp z with z | z
          · rw [z]
            exact ⟨(p4 l' hl').2.1, (p4 l' hl').2.2, .inl (p4 l' hl').1⟩
          · have zb := pm.mem_iff.mp z
            obtain ⟨us, eu⟩ := fb b zb
            exact ⟨nbl b zb, (fun y => by rw [y, p5] at eu; cases eu), .inr ⟨us, eu⟩⟩
    -- 3
    refine ⟨_, rfl, rfl, _, rfl, ite2 (fun h => ?_) (fun n3 => ?_)⟩
    · have hk : kd = 3 := by have := V.int.inj (of_decide_eq_true h); omega
      obtain ⟨nl, hq1, he⟩ : ns.length = m + 2 ∧ 1 ≤ ns.getD 0 0 ∧ e = votN (ns.getD 0 0) (ns.getD 1 0) (ns.drop 2) := by
        rcases q6 with ⟨z, _⟩ | ⟨z, _⟩ | ⟨z, _⟩ | ⟨_, z1, z2, z3⟩ | ⟨z, _⟩
        · omega
        · omega
        · omega
        · exact ⟨z1, z2, funext z3⟩
        · omega
      have q22 := kb2 _ _ nln q2
      refine ⟨_, rfl, _, rfl, ln, _, rfl, SqL.of q22, fun l2 hl2 => ?_⟩
      have ec : cutV (ns.map V.int) (some 2) none = (ns.drop 2).map V.int := by rw [show (2 : Int) = ((2 : Nat) : Int) from rfl, cut_lo, ← List.map_drop]
      rw [ec]
      obtain ⟨p1, p2, p3, p4, p5⟩ := put H2 l2 ((ns.drop 2).map V.int) (.refl _) hl2
      have w2 := Same.upd_new (o := .lst ((ns.drop 2).map V.int)) hl2
      refine ⟨_, rfl, _, rfl, lh, _, _, ws.length, rfl, rfl, w2 _ _ hlh2, hix, ?_⟩
      generalize upd (upd H2 l2 (.lst ((ns.drop 2).map V.int))) lh (.lst ((ws ++ [V.ref l1]).set ws.length (V.ref l2))) = H4 at p1 p2 p3 p4 ⊢
      have q24 := p3 _ _ nln q22
      have at1 : atI (ns.map V.int) 1 = some (.int (ns.getD 1 0)) := at_of (j := 1) (by omega)
      have at0 : atI (ns.map V.int) 0 = some (.int (ns.getD 0 0)) := at_of (j := 0) (by omega)
      have dl : (ns.drop 2).length = m := by rw [List.length_drop]; omega
      refine ⟨_, rfl, ln, _, _, _, rfl, rfl, SqL.of q24, at0, _, rfl, ln, _, _, _, rfl, rfl, SqL.of q24, at1, _, rfl, _, rfl, lh, _, _, _, rfl, rfl, SqL.of p1, at_lastV _ _, fun x dx hx hd ne => mk_votes hx hd ne p2 hq1 (by omega) (by omega) fun l' H5 hl' s5 hx5 hl5 => ⟨rfl, ?_⟩⟩
      refine k x l2 [x, l'] _ H5 (fun b o n e => s5 _ _ (p3 _ _ n (kb2 b o n e))) (s5 _ _ p1) p5 (s5 _ _ p2) (by rw [List.length_map]; omega) (p4 x hx).1 (fun H'' kk => ?_) fun b hb => ?_
      · rw [he]
        have z := votes_obj D_VR T.rVO (kk _ (by simp) _ hx5) (kk _ (by simp) _ hl5) (by omega) (by omega)
        rw [dl] at z
        exact z
      · rcases List.mem_cons.mp hb with z | z
        · rw [z]
          exact ⟨(p4 x hx).2.1, (p4 x hx).2.2, .inl (p4 x hx).1⟩
        · rw [List.mem_singleton] at z
          rw [z]
          exact ⟨(p4 l' hl').2.1, (p4 l' hl').2.2, .inl (p4 l' hl').1⟩
    -- 4
    refine ⟨_, rfl, rfl, _, rfl, ite2 (fun h => ?_) (fun n4 => ?_)⟩
    · have hk : kd = 4 := by have := V.int.inj (of_decide_eq_true h); omega
      obtain ⟨nl, he⟩ : ns.length = 2 ^ m - 1 ∧ e = fun g => (0 :: ns).getD g 0 := by
        rcases q6 with ⟨z, _⟩ | ⟨z, _⟩ | ⟨z, _⟩ | ⟨z, _⟩ | ⟨_, z1, z2⟩
        · omega
        · omega
        · omega
        · omega
        · exact ⟨z1, funext z2⟩
      have hpos : 0 < 2 ^ m := Nat.pow_pos (by decide)
      have hn : (0 :: ns).length = 2 ^ m := by rw [List.length_cons]; omega
      have q22 := kb2 _ _ nln q2
      refine ⟨by show 1 ≤ sizeLine; decide, fun lz hlz => ?_⟩
      have wz := Same.upd_new (o := .lst [V.int 0]) hlz
      have kz : upd H2 lz (.lst [V.int 0]) lz = some (.lst [V.int 0]) := upd_same
      generalize upd H2 lz (.lst [V.int 0]) = Hz at wz kz ⊢
      refine ⟨_, rfl, lz, ln, _, _, rfl, rfl, SqL.of kz, SqL.of (wz _ _ q22), (by rw [List.length_map]; exact Nat.le_of_lt (small1000 (by show 1 + _ ≤ _; omega))), fun l2 hl2 => ?_⟩
      rw [show [V.int 0] ++ ns.map V.int = (0 :: ns).map V.int from rfl]
      obtain ⟨p1, p2, p3, p4, p5⟩ := put Hz l2 ((0 :: ns).map V.int) wz hl2
      have w2 := wz.trans (Same.upd_new (o := .lst ((0 :: ns).map V.int)) hl2)
      refine ⟨_, rfl, _, rfl, lh, _, _, ws.length, rfl, rfl, w2 _ _ hlh2, hix, ?_⟩
      generalize upd (upd Hz l2 (.lst ((0 :: ns).map V.int))) lh (.lst ((ws ++ [V.ref l1]).set ws.length (V.ref l2))) = H4 at p1 p2 p3 p4 ⊢
      refine ⟨_, rfl, _, rfl, lh, _, _, _, rfl, rfl, SqL.of p1, at_lastV _ _, fun x dx hx hd ne => mk_plain hx hd ne p2 hn m1 m6 fun l' H5 hl' s5 hx5 hl5 => ⟨rfl, ?_⟩⟩
      refine k x l2 [x, l'] _ H5 (fun b o n e => s5 _ _ (p3 _ _ n (kb2 b o n e))) (s5 _ _ p1) p5 (s5 _ _ p2) (by rw [List.length_map, hn]; omega) (p4 x hx).1 (fun H'' kk => ?_) fun b hb => ?_
      · rw [he]
        exact plain_obj D_PR T.rPL (kk _ (by simp) _ hx5) (kk _ (by simp) _ hl5) hn m1 m6
      · rcases List.mem_cons.mp hb with z | z
        · rw [z]
          exact ⟨(p4 x hx).2.1, (p4 x hx).2.2, .inl (p4 x hx).1⟩
        · rw [List.mem_singleton] at z
          rw [z]
          exact ⟨(p4 l' hl').2.1, (p4 l' hl').2.2, .inl (p4 l' hl').1⟩
    -- 0
    have he : e = fun _ => 0 := by
      have x1 : kd ≠ 1 := fun z => n1 (by rw [z]; rfl)
      have x2 : kd ≠ 2 := fun z => n2 (by rw [z]; rfl)
      have x3 : kd ≠ 3 := fun z => n3 (by rw [z]; rfl)
      have x4 : kd ≠ 4 := fun z => n4 (by rw [z]; rfl)
      rcases q6 with ⟨_, z⟩ | ⟨z, _⟩ | ⟨z, _⟩ | ⟨z, _⟩ | ⟨z, _⟩
      · exact funext z
      · exact absurd z x1
      · exact absurd z x2
      · exact absurd z x3
      · exact absurd z x4
    refine ⟨_, rfl, fun x dx hx hd ne => mk_rule T.rRU.oc T.rRU.nm hx hd ne m1 m6 fun H5 s5 hx5 => ⟨rfl, ?_⟩⟩
    refine k x l1 [x] _ H5 (fun b o n e => s5 _ _ (kb2 b o n e)) (s5 _ _ hlh2) hl1 (s5 _ _ k2) (by rw [List.length_map]; omega) (fr2 x hx).1 (fun H'' kk => ?_) fun b hb => ?_
    · rw [he]
      exact rule_obj D_RR T.rRU (kk _ (by simp) _ hx5) m1 m6
    · rw [List.mem_singleton] at hb
      rw [hb]
      exact ⟨(fr2 x hx).2.1, (fr2 x hx).2.2, .inl (fr2 x hx).1⟩
theorem at_lastI {rs : List Int} (h : 1 ≤ rs.length) : atI (rs.map V.int) (-1) = some (.int (rs.getD (rs.length - 1) 0)) := by
  unfold atI ixN
  rw [List.length_map, if_neg (by decide), if_pos (by omega)]
  show (rs.map V.int)[(-1 + (rs.length : Int)).toNat]? = _
  rw [show (-1 + (rs.length : Int)).toNat = rs.length - 1 by omega, List.getElem?_map, List.getD_eq_getElem?_getD, List.getElem?_eq_getElem (by omega)]
  rfl
/-! ### _law_holds -/
theorem tabC_len (m : Nat) (os : List Ru) : (tabC m os).length = 2 ^ m := by unfold tabC; rw [List.length_map, List.length_range]
theorem tabC_get {m g : Nat} {os : List Ru} (h : g < 2 ^ m) : (tabC m os).getD g 0 = earnC os g := by
  unfold tabC
  rw [List.getD_eq_getElem?_getD, List.getElem?_map, List.getElem?_range h]
  rfl
def spLHo (P : Program) (w : World) (K : PySem.W.Frag) (mg : Str → Option Value) (base : Heap) (fE fH RU CO : Addr) : Sp := fun vs H Q _ => ∃ (a ld : Addr) (m : Nat) (os : List Ru), vs = [.ref a, .ref ld] ∧ CObj P w K mg base fE fH RU CO H a m os ∧ H ld = some (.lst ((tabC m os).map V.int)) ∧ ∀ H', Same H H' → Q (.bl true) H'
theorem scLHo : FnScope ["_law_company", "_law_due", "_law_many", "_law_found", "_law_group", "_law_told"] ["_law_company", "_law_due"] (defScope sLHo) := ⟨rfl, rfl, rfl, by decide +kernel, rfl, by decide +kernel, by decide +kernel⟩
theorem ok_lho {f1 : Addr} {fd1 : FuncData} (t : Tx K mg "_law_holds" sLHo ["_law_company", "_law_due"] f fd) (T : T K mg AL LN RU OW PL PA VO CO fE fH rR rO rP rA rV iR iO iP iA iV iC cH cE cT SE NG NN NO NR NL NS NT NX NV TM UL) (D_law_whole : Df P w K mg base CX0 1 "_law_whole" ["_law_found"] (spNum K) f1 fd1) (D_CH : Md P w K mg base 1 ["self"] (spHs K) cH) (D_CE : Md P w K mg base 8 ["self", "group"] (spCE P w K mg base fE fH RU CO NG) cE) (D_CT : Md P w K mg base 9 ["self"] (spCT P w K mg base fE fH RU CO) cT) :
    Df P w K mg base CX0 10 "_law_holds" ["_law_company", "_law_due"] (spLHo P w K mg base fE fH RU CO) f fd := by
  refine t.df0 scLHo (fun vs H Q E h => ?_) (fun cdv A outer s H vs Q E hr h => ?_)
  · obtain ⟨a, ld, m, os, rfl, _⟩ := h
    rfl
  · obtain ⟨a, ld, m, os, rfl, co, hd, k⟩ := h
    obtain ⟨dx, l, h1, h2, h3, m1, m6, h6, h7⟩ := id co
    have h64 : 2 ^ m ≤ 64 := Nat.pow_le_pow_right (n := 2) (by decide) m6
    have hpos : 2 ≤ 2 ^ m := Nat.pow_le_pow_right (n := 2) (i := 1) (by decide) m1
    have tl := tabC_len m os
    have el : (((tabC m os).map V.int).length : Int) = ((2 ^ m : Nat) : Int) := by rw [List.length_map, tl]
    refine ⟨_, (pss_cons (ps_set (i := 2) scLHo.nd rfl (Or.inl rfl) (pe_methX0 (k := 1) pass_no (pv 0) hr (by decide)))
      (pss_cons (ps_set (i := 3) scLHo.nd rfl (Or.inl rfl) (pe_methX0 (k := 9) pass_no (pv 0) hr (by decide)))
      (pss_cons (ps_if (PW.pt (pw_or (pt_not (pt_val (pe_d0 D_law_whole hr (by decide) (by rfl) (pa_cons (pv 2) pa_nil)))) (pw_or (pt_cmpR op_ne (pe_op op_shl pe_int (pv 2)) (pe_callB call_len_seq (by rfl) T.b_len bt_len (pa_cons (pv 1) pa_nil)) (nomark _)) (pw_or (pt_not (pt_val (pe_callB call_isi (by rfl) T.b_isi bt_isi (pa_cons (pv 3) (pa_cons (pe_bltn (v := .ty "list") (by rfl) T.b_list bt_list rfl) pa_nil))))) (pw_or1 (pt_cmpR op_ne (pe_callB call_len_seq (by rfl) T.b_len bt_len (pa_cons (pv 3) pa_nil)) (pe_callB call_len_seq (by rfl) T.b_len bt_len (pa_cons (pv 1) pa_nil)) (nomark _))))))) (pss_one (ps_ret pe_bl)) pss_nil)
      (pss_cons (ps_for PassesOwn.never rfl (pi_range1 (by rfl) T.b_range (pa_cons (pe_callB call_len_seq (by rfl) T.b_len bt_len (pa_cons (pv 1) pa_nil)) pa_nil)) (pg_name (i := 4) scLHo.nd rfl (Or.inl rfl))
        (pss_one (ps_if (PW.pt (pw_or (pt_not (pt_val (pe_d0 D_law_whole hr (by decide) (by rfl) (pa_cons (pe_ix ix_list (pv 3) (pv 4) (fun _ _ => rfl)) pa_nil)))) (pw_or1 (pt_cmpR op_ne (pe_ix ix_list (pv 3) (pv 4) (fun _ _ => rfl)) (pe_ix ix_list (pv 1) (pv 4) (fun _ _ => rfl)) (nomark _))))) (pss_one (ps_ret pe_bl)) pss_nil)))
      (pss_cons (ps_expr (pe_bm PySem.F.plainAttrs_list PySem.F.slot_list_append PySem.F.type_list_append mt_appendR (pv 3) (pa_cons pe_int pa_nil)))
      (pss_cons (ps_for PassesOwn.never rfl (pi_list (pe_lst (pa_cons pe_int (pa_cons (pe_op op_sub (pe_callB call_len_seq (by rfl) T.b_len bt_len (pa_cons (pv 1) pa_nil)) pe_int) (pa_cons (pe_op op_fdiv (pe_callB call_len_seq (by rfl) T.b_len bt_len (pa_cons (pv 1) pa_nil)) pe_int) (pa_cons (pe_op op_mod (pe_ix ix_list (pv 1) (pe_un un_neg pe_int) (fun _ _ => rfl)) (pe_callB call_len_seq (by rfl) T.b_len bt_len (pa_cons (pv 1) pa_nil))) pa_nil)))))) (pg_name (i := 4) scLHo.nd rfl (Or.inl rfl))
        (pss_cons (ps_set (i := 5) scLHo.nd rfl (Or.inl rfl) (pe_methX (k := 8) pass_no (pv 0) hr (by decide) (pa_cons (pv 4) pa_nil)))
        (pss_one (ps_if (PW.pt (pw_or (pt_not (pt_val (pe_d0 D_law_whole hr (by decide) (by rfl) (pa_cons (pv 5) pa_nil)))) (pw_or1 (pt_cmpR op_ne (pv 5) (pe_ix ix_list (pv 1) (pv 4) (fun _ _ => rfl)) (nomark _))))) (pss_one (ps_ret pe_bl)) pss_nil))))
      (pss_one (ps_ret pe_bl)))))))), ?_⟩
    refine ⟨_, rfl, a, CO, dx, _, cH, spHs K, rfl, h1, rfl, T.rCO.oc.cl, T.rCO.mh, ⟨_, D_CH⟩, a, CO, dx, _, _, rfl, h1, T.rCO.oc.cl, T.rCO.nm, rfl, ?_⟩
    refine ⟨_, rfl, a, CO, dx, _, cT, _, rfl, h1, rfl, T.rCO.oc.cl, T.rCO.mt, ⟨_, D_CT⟩, a, m, os, rfl, co, fun lf H1 hlf s1 hf1 => ?_⟩
    have hd1 := s1 _ _ hd
    have e2m : (1 : Int) * 2 ^ ((m : Nat) : Int).toNat = (((tabC m os).map V.int).length : Int) := by
      rw [Int.toNat_natCast, el, Int.one_mul]
      push_cast
      rfl
    refine ⟨_, rfl, _, rfl, .int _, _, rfl, iteF ?_⟩
    refine ⟨_, rfl, _, _, rfl, rfl, ⟨by omega, by omega, by decide⟩, _, rfl, ld, _, rfl, .inl (SqL.of hd1), rfl, _, rfl, iteNS (by show V.int ((1 : Int) * 2 ^ ((m : Nat) : Int).toNat) = _; rw [e2m]) ?_⟩
    refine ⟨_, rfl, .ref lf, .ty "list", _, _, _, rfl, rfl, .of (.lst hf1), Kd.lst.list_ K, _, rfl, iteF ?_⟩
    refine ⟨_, rfl, lf, _, rfl, .inl (SqL.of hf1), _, rfl, ld, _, rfl, .inl (SqL.of hd1), rfl, _, rfl, iteNS rfl ?_⟩
    refine ⟨_, rfl, ld, _, rfl, .inl (SqL.of hd1), ((2 ^ m : Nat) : Int), (by show [V.int (((tabC m os).map V.int).length : Int)] = _; rw [el]), by omega, by omega, ?_⟩
    refine for_range (n := 2 ^ m) (fun i σ' H' => H1 = H' ∧ ∃ o4 : Option V, σ' = [some (.ref a), some (.ref ld), some (.int (m : Int)), some (.ref lf), o4, none]) ⟨rfl, _, rfl⟩ ?_ ?_
    · rintro g σ' H' hg ⟨rfl, o4, rfl⟩
      rw [Int.zero_add (g : Int)]
      have hat : atI ((tabC m os).map V.int) (g : Int) = some (.int ((tabC m os).getD g 0)) := at_of (by rw [tl]; exact hg)
      refine ⟨_, rfl, _, rfl, lf, _, _, _, rfl, rfl, SqL.of hf1, hat, _, rfl, .int _, _, rfl, iteF ?_⟩
      refine ⟨_, rfl, _, rfl, lf, _, _, _, rfl, rfl, SqL.of hf1, hat, _, rfl, _, rfl, ld, _, _, _, rfl, rfl, SqL.of hd1, hat, rfl, _, rfl, ?_⟩
      rw [decide_eq_true rfl]
      exact iteF ⟨rfl, _, rfl⟩
    · rintro σ' H' ⟨rfl, o4, rfl⟩
      refine ⟨_, rfl, .inl ⟨rfl, _, SqL.of hf1⟩, lf, _, _, rfl, rfl, hf1, by rw [List.length_map, tl]; exact small1000 (by omega), ?_⟩
      have u2 := s1.upd_ne' (o := .lst ((tabC m os).map V.int ++ [V.int 1])) hlf
      generalize upd H1 lf (.lst ((tabC m os).map V.int ++ [V.int 1])) = H2 at u2 ⊢
      have hd2 := u2 _ _ hd
      have co2 := co.same u2
      obtain ⟨w, hw, wl⟩ : ∃ w : Nat, (tabC m os).getD ((tabC m os).length - 1) 0 % ((2 ^ m : Nat) : Int) = (w : Int) ∧ w < 2 ^ m := by
        have e0 := Int.emod_nonneg ((tabC m os).getD ((tabC m os).length - 1) 0) (b := ((2 ^ m : Nat) : Int)) (by omega)
        have e1 := Int.emod_lt_of_pos ((tabC m os).getD ((tabC m os).length - 1) 0) (b := ((2 ^ m : Nat) : Int)) (by omega)
        exact ⟨((tabC m os).getD ((tabC m os).length - 1) 0 % ((2 ^ m : Nat) : Int)).toNat, by omega, by omega⟩
      have atl : atI ((tabC m os).map V.int) (-1) = some (.int ((tabC m os).getD ((tabC m os).length - 1) 0)) := at_lastI (by omega)
      refine ⟨_, rfl, ld, _, rfl, .inl (SqL.of hd2), _, _, rfl, rfl, _, rfl, ld, _, rfl, .inl (SqL.of hd2), _, _, rfl, rfl, ⟨by decide, by decide⟩, _, rfl, _, rfl, ld, _, _, _, rfl, rfl, SqL.of hd2, atl, _, rfl, ld, _, rfl, .inl (SqL.of hd2), _, _, rfl, rfl, (by show (0 : Int) < (((tabC m os).map V.int).length : Int); rw [el]; omega), by show 4 ≤ sizeLine; decide, fun lw hlw => ?_⟩
      obtain ⟨n, hn⟩ : ∃ n : Int, (((tabC m os).map V.int).length : Int) = n := ⟨_, rfl⟩
      obtain ⟨z, hz⟩ : ∃ z : Int, (tabC m os).getD ((tabC m os).length - 1) 0 = z := ⟨_, rfl⟩
      have v3 := Same.upd_new (o := .lst [V.int 0, V.int ((((tabC m os).map V.int).length : Int) - 1), V.int ((((tabC m os).map V.int).length : Int) / 2), V.int ((tabC m os).getD ((tabC m os).length - 1) 0 % (((tabC m os).map V.int).length : Int))]) hlw
      have hw3 : upd H2 lw (.lst [V.int 0, V.int ((((tabC m os).map V.int).length : Int) - 1), V.int ((((tabC m os).map V.int).length : Int) / 2), V.int ((tabC m os).getD ((tabC m os).length - 1) 0 % (((tabC m os).map V.int).length : Int))]) lw = some (.lst [V.int 0, V.int ((((tabC m os).map V.int).length : Int) - 1), V.int ((((tabC m os).map V.int).length : Int) / 2), V.int ((tabC m os).getD ((tabC m os).length - 1) 0 % (((tabC m os).map V.int).length : Int))]) := upd_same
      refine ⟨lw, rfl, ⟨_, SqL.of hw3⟩, ?_⟩
      have u3 := u2.trans v3
      have hd3 := v3 _ _ hd2
      have co3 := co2.same v3
      refine for_list (xs := [V.int 0, V.int ((((tabC m os).map V.int).length : Int) - 1), V.int ((((tabC m os).map V.int).length : Int) / 2), V.int ((tabC m os).getD ((tabC m os).length - 1) 0 % (((tabC m os).map V.int).length : Int))]) (fun i σ' H' => Same (upd H2 lw (.lst [V.int 0, V.int ((((tabC m os).map V.int).length : Int) - 1), V.int ((((tabC m os).map V.int).length : Int) / 2), V.int ((tabC m os).getD ((tabC m os).length - 1) 0 % (((tabC m os).map V.int).length : Int))])) H' ∧ ∃ o4 o5 : Option V, σ' = [some (.ref a), some (.ref ld), some (.int (m : Int)), some (.ref lf), o4, o5]) ⟨.refl _, _, _, rfl⟩ ?_ ?_ ?_
      · rintro i σ' H' _ ⟨s4, _⟩
        exact SqL.of (s4 _ _ hw3)
      · rintro i x σ' H4 hx ⟨s4, o4', o5, rfl⟩
        obtain ⟨g, rfl, hg⟩ : ∃ g : Nat, x = .int (g : Int) ∧ g < 2 ^ m := by
          have hm := List.mem_of_getElem? hx
          rw [el] at hm
          simp only [List.mem_cons, List.not_mem_nil, or_false] at hm
          rcases hm with e | e | e | e
          · exact ⟨0, e, by omega⟩
          · exact ⟨2 ^ m - 1, by rw [e]; congr 1; omega, by omega⟩
          · exact ⟨2 ^ m / 2, by rw [e]; congr 1, by omega⟩
          · exact ⟨w, by rw [e, hw], wl⟩
        have co4 := co3.same s4
        obtain ⟨dx4, l4, c1, c2, _⟩ := id co4
        refine ⟨_, rfl, a, CO, dx4, _, cE, _, rfl, c1, rfl, T.rCO.oc.cl, T.rCO.me, ⟨_, D_CE⟩, _, rfl, a, m, os, _, rfl, co4, .int _, (fun no => absurd no (by rw [nat_inB hg]; decide)), fun g' eg hg' H5 s5 => ?_⟩
        obtain rfl : g = g' := by have := V.int.inj eg; omega
        have hat : atI ((tabC m os).map V.int) (g : Int) = some (.int (earnC os g)) := by rw [← tabC_get hg]; exact at_of (by rw [tl]; exact hg)
        refine ⟨_, rfl, _, rfl, .int _, _, rfl, iteF ?_⟩
        refine ⟨_, rfl, _, rfl, _, rfl, ld, _, _, _, rfl, rfl, SqL.of ((s4.trans s5) _ _ hd3), hat, rfl, _, rfl, ?_⟩
        rw [decide_eq_true rfl]
        exact iteF ⟨s4.trans s5, _, _, rfl⟩
      · rintro σ' H4 ⟨s4, o4', o5, rfl⟩
        exact k H4 (u3.trans s4)
/-! ### _law_no_group, _law_no_rule -/
def spNoG (P : Program) (w : World) (K : PySem.W.Frag) (mg : Str → Option Value) (base : Heap) (fE fH RU CO : Addr) : Sp := fun vs H Q _ => ∃ (a : Addr) (m : Nat) (os : List Ru) (v : V), vs = [.ref a, v] ∧ CObj P w K mg base fE fH RU CO H a m os ∧ Pl K H v ∧ inB 0 (2 ^ m - 1) v = false ∧ ∀ H', Same H H' → Q (.bl true) H'
theorem scNoG : FnScope ["_law_company", "_law_group", "_law_told", "_law_other", "error"] ["_law_company", "_law_group"] (defScope sNoG) := ⟨rfl, rfl, rfl, by decide +kernel, rfl, by decide +kernel, by decide +kernel⟩
theorem ok_nog (t : Tx K mg "_law_no_group" sNoG ["_law_company", "_law_group"] f fd) (T : T K mg AL LN RU OW PL PA VO CO fE fH rR rO rP rA rV iR iO iP iA iV iC cH cE cT SE NG NN NO NR NL NS NT NX NV TM UL) (D_CE : Md P w K mg base 8 ["self", "group"] (spCE P w K mg base fE fH RU CO NG) cE) : Df P w K mg base CX0 9 "_law_no_group" ["_law_company", "_law_group"] (spNoG P w K mg base fE fH RU CO) f fd := by
  refine t.df0 scNoG (fun vs H Q E h => ?_) (fun cdv A outer s H vs Q E hr h => ?_)
  · obtain ⟨a, m, os, v, rfl, _⟩ := h
    rfl
  · obtain ⟨a, m, os, v, rfl, co, pl, no, k⟩ := h
    obtain ⟨dx, l, c1, c2, _⟩ := id co
    refine ⟨_, (pss_cons (ps_set (i := 2) scNoG.nd rfl (Or.inl rfl) pe_bl)
      (pss_cons (ps_set (i := 3) scNoG.nd rfl (Or.inl rfl) pe_bl)
      (pss_cons (ps_try (i := 4) (tb := fun Ex => tDrop (tMethX K (fun g sp => ∃ ps, Md P w K mg base 8 ps sp g) "earn" Ex (tVar 0) (tCons (tVar 1) tNil))) ⟨rfl, rfl, rfl⟩ rfl (fun pins Ex => (pss_one (ps_expr (pe_methX (k := 8) pass_try (pv 0) hr (by decide) (pa_cons (pv 1) pa_nil))))) (by rfl) T.mSE T.cSE scNoG.nd rfl rfl
        (fun e => (pss_cons (ps_set (i := 2) scNoG.nd rfl (Or.inl rfl) (pe_and (pe_callB (call_isiK K) (by rfl) T.b_isi bt_isi (pa_cons (pv 4) (pa_cons (pe_glob (v := .ref NG) (by rfl) T.mNG rfl) pa_nil))) (pe_one (pe_callB (call_isiK K) (by rfl) T.b_isi bt_isi (pa_cons (pv 4) (pa_cons (pe_bltn (v := .ty "ValueError") (by rfl) T.b_ve bt_ve rfl) pa_nil))))))
        (pss_cons (ps_set (i := 3) scNoG.nd rfl (Or.inl rfl) (pe_callB (call_isiTK K) (by rfl) T.b_isi bt_isi (pa_cons (pv 4) (pa_cons (pe_tup (pa_cons (pe_glob (v := .ref NN) (by rfl) T.mNN rfl) (pa_cons (pe_glob (v := .ref NO) (by rfl) T.mNO rfl) (pa_cons (pe_glob (v := .ref NR) (by rfl) T.mNR rfl) (pa_cons (pe_glob (v := .ref NL) (by rfl) T.mNL rfl) (pa_cons (pe_glob (v := .ref NS) (by rfl) T.mNS rfl) pa_nil)))))) pa_nil))))
        (pss_one (ps_set (i := 3) scNoG.nd rfl (Or.inl rfl) (pe_or (pv 3) (pe_one (pe_callB (call_isiTK K) (by rfl) T.b_isi bt_isi (pa_cons (pv 4) (pa_cons (pe_tup (pa_cons (pe_glob (v := .ref NT) (by rfl) T.mNT rfl) (pa_cons (pe_glob (v := .ref NX) (by rfl) T.mNX rfl) (pa_cons (pe_glob (v := .ref NV) (by rfl) T.mNV rfl) (pa_cons (pe_glob (v := .ref TM) (by rfl) T.mTM rfl) (pa_cons (pe_glob (v := .ref UL) (by rfl) T.mUL rfl) pa_nil)))))) pa_nil)))))))))))
      (pss_one (ps_ret (pe_and (pv 2) (pe_one (pe_not (pv 3))))))))), ?_⟩
    refine ⟨_, rfl, a, CO, dx, _, cE, _, rfl, c1, rfl, T.rCO.oc.cl, T.rCO.me, ⟨_, D_CE⟩, _, rfl, a, m, os, v, rfl, co, pl, (fun _ H1 s1 => ⟨NG, rfl, T.up, fun e he => ?_⟩), fun g hv hg => ?_⟩
    · have hE : upd H1 e (excO e NG) e = some (excO e NG) := upd_same
      have sE : Same H1 (upd H1 e (excO e NG)) := .upd_new he
      generalize upd H1 e (excO e NG) = H2 at hE sE
      refine ⟨_, rfl, .ref e, .ref NG, _, _, _, rfl, rfl, .exc hE T.cNG, T.k1, _, rfl, ?_⟩
      refine iteT ⟨_, rfl, .ref e, .ty "ValueError", _, _, _, rfl, rfl, .exc hE T.cNG, T.k2, ?_⟩
      refine ⟨_, rfl, by show 5 ≤ sizeLine; decide, fun p hp => ?_⟩
      have s3 := Same.upd_new (o := .tup [.ref NN, .ref NO, .ref NR, .ref NL, .ref NS]) hp
      refine ⟨.ref e, p, _, _, _, _, rfl, upd_same, rfl, .exc (s3 _ _ hE) T.cNG, T.k3, ?_⟩
      refine ⟨_, rfl, _, rfl, iteF ⟨_, rfl, by show 5 ≤ sizeLine; decide, fun p2 hp2 => ?_⟩⟩
      have s4 := Same.upd_new (o := .tup [.ref NT, .ref NX, .ref NV, .ref TM, .ref UL]) hp2
      refine ⟨.ref e, p2, _, _, _, _, rfl, upd_same, rfl, .exc (s4 _ _ (s3 _ _ hE)) T.cNG, T.k4, ?_⟩
      exact ⟨_, rfl, _, rfl, iteT ⟨_, rfl, _, rfl, k _ (((s1.trans sE).trans s3).trans s4)⟩⟩
    · subst hv
      rw [nat_inB hg] at no
      cases no
def spNoR (P : Program) (w : World) (K : PySem.W.Frag) (mg : Str → Option Value) (base : Heap) (fE fH RU : Addr) : Sp := fun vs H Q _ => ∃ (p : Addr) (v : V) (os : List Ru), vs = [v, .ref p] ∧ H p = some (.lst (refs os)) ∧ os.length ≤ 60 ∧ RusAt P w K mg base fE fH RU H os ∧ Pl K H v ∧ ∀ H', Same H H' → Q (.bl (badC v os)) H'
theorem scNoR : FnScope ["_law_many", "_law_some", "_law_told", "_law_other", "error"] ["_law_many", "_law_some"] (defScope sNoR) := ⟨rfl, rfl, rfl, by decide +kernel, rfl, by decide +kernel, by decide +kernel⟩
theorem ok_nor {fE fH RU : Addr} (t : Tx K mg "_law_no_rule" sNoR ["_law_many", "_law_some"] f fd) (T : T K mg AL LN RU OW PL PA VO CO fE fH rR rO rP rA rV iR iO iP iA iV iC cH cE cT SE NG NN NO NR NL NS NT NX NV TM UL) (D_CI : Md P w K mg base 4 ["self", "many", "rules"] (spCI P w K mg base fE fH RU CO NL) iC) : Df P w K mg base CX0 6 "_law_no_rule" ["_law_many", "_law_some"] (spNoR P w K mg base fE fH RU) f fd := by
  refine t.df0 scNoR (fun vs H Q E h => ?_) (fun cdv A outer s H vs Q E hr h => ?_)
  · obtain ⟨p, v, os, rfl, _⟩ := h
    rfl
  · obtain ⟨p, v, os, rfl, hp, ol, ro, pl, k⟩ := h
    refine ⟨_, (pss_cons (ps_set (i := 2) scNoR.nd rfl (Or.inl rfl) pe_bl)
      (pss_cons (ps_set (i := 3) scNoR.nd rfl (Or.inl rfl) pe_bl)
      (pss_cons (ps_try (i := 4) (tb := fun Ex => tDrop (tMakeX CO (spCI P w K mg base fE fH RU CO NL) Ex (tCons (tVar 0) (tCons (tVar 1) tNil)))) ⟨rfl, rfl, rfl⟩ rfl (fun pins Ex => (pss_one (ps_expr (pe_makeX pass_try T.kCO D_CI hr (by decide) (by rfl) T.mCO (pa_cons (pv 0) (pa_cons (pv 1) pa_nil)))))) (by rfl) T.mSE T.cSE scNoR.nd rfl rfl
        (fun e => (pss_cons (ps_set (i := 2) scNoR.nd rfl (Or.inl rfl) (pe_and (pe_callB (call_isiK K) (by rfl) T.b_isi bt_isi (pa_cons (pv 4) (pa_cons (pe_glob (v := .ref NL) (by rfl) T.mNL rfl) pa_nil))) (pe_one (pe_callB (call_isiK K) (by rfl) T.b_isi bt_isi (pa_cons (pv 4) (pa_cons (pe_bltn (v := .ty "ValueError") (by rfl) T.b_ve bt_ve rfl) pa_nil))))))
        (pss_cons (ps_set (i := 3) scNoR.nd rfl (Or.inl rfl) (pe_callB (call_isiTK K) (by rfl) T.b_isi bt_isi (pa_cons (pv 4) (pa_cons (pe_tup (pa_cons (pe_glob (v := .ref NG) (by rfl) T.mNG rfl) (pa_cons (pe_glob (v := .ref NN) (by rfl) T.mNN rfl) (pa_cons (pe_glob (v := .ref NO) (by rfl) T.mNO rfl) (pa_cons (pe_glob (v := .ref NR) (by rfl) T.mNR rfl) (pa_cons (pe_glob (v := .ref NS) (by rfl) T.mNS rfl) pa_nil)))))) pa_nil))))
        (pss_one (ps_set (i := 3) scNoR.nd rfl (Or.inl rfl) (pe_or (pv 3) (pe_one (pe_callB (call_isiTK K) (by rfl) T.b_isi bt_isi (pa_cons (pv 4) (pa_cons (pe_tup (pa_cons (pe_glob (v := .ref NT) (by rfl) T.mNT rfl) (pa_cons (pe_glob (v := .ref NX) (by rfl) T.mNX rfl) (pa_cons (pe_glob (v := .ref NV) (by rfl) T.mNV rfl) (pa_cons (pe_glob (v := .ref TM) (by rfl) T.mTM rfl) (pa_cons (pe_glob (v := .ref UL) (by rfl) T.mUL rfl) pa_nil)))))) pa_nil)))))))))))
      (pss_one (ps_ret (pe_and (pv 2) (pe_one (pe_not (pv 3))))))))), ?_⟩
    refine ⟨_, rfl, _, rfl, fun x dx hx hd ne => ?_⟩
    have sm : Same H (upd (upd H dx (.own x)) x (.ins CO dx [])) := SameBut.made hx hd ne ((Same.refl _).but x)
    refine ⟨x, dx, p, v, os, rfl, upd_same, sm _ _ hp, ol, ro.same sm, pl.same sm, (fun bad H1 s1 => ⟨NL, rfl, T.upL, fun e he => ?_⟩), fun bad l H' hl sb e1 e2 => ⟨rfl, _, rfl, _, rfl, iteF (by rw [bad] at k; exact k H' (sb.made hx hd ne))⟩⟩
    rw [bad] at k
    have hE : upd H1 e (excO e NL) e = some (excO e NL) := upd_same
    have sE : Same H1 (upd H1 e (excO e NL)) := .upd_new he
    generalize upd H1 e (excO e NL) = H2 at hE sE
    refine ⟨_, rfl, .ref e, .ref NL, _, _, _, rfl, rfl, .exc hE T.cNL, T.k1L, _, rfl, ?_⟩
    refine iteT ⟨_, rfl, .ref e, .ty "ValueError", _, _, _, rfl, rfl, .exc hE T.cNL, T.k2L, ?_⟩
    refine ⟨_, rfl, by show 5 ≤ sizeLine; decide, fun p hp => ?_⟩
    have s3 := Same.upd_new (o := .tup [.ref NG, .ref NN, .ref NO, .ref NR, .ref NS]) hp
    refine ⟨.ref e, p, _, _, _, _, rfl, upd_same, rfl, .exc (s3 _ _ hE) T.cNL, T.k3L, ?_⟩
    refine ⟨_, rfl, _, rfl, iteF ⟨_, rfl, by show 5 ≤ sizeLine; decide, fun p2 hp2 => ?_⟩⟩
    have s4 := Same.upd_new (o := .tup [.ref NT, .ref NX, .ref NV, .ref TM, .ref UL]) hp2
    refine ⟨.ref e, p2, _, _, _, _, rfl, upd_same, rfl, .exc (s4 _ _ (s3 _ _ hE)) T.cNL, T.k4L, ?_⟩
    exact ⟨_, rfl, _, rfl, iteT ⟨_, rfl, _, rfl, k _ (sm.trans (((s1.trans sE).trans s3).trans s4))⟩⟩
/-! ### _law_refusals -/
theorem menu7g {K : PySem.W.Frag} {H : Hp} {m : Nat} {b i : Int} {l : Addr} {ls : List V} (hb : 0 ≤ b) (h2 : H l = some (.lst ls)) (i0 : 0 ≤ i) (i7 : i < 7) :
    ∃ v, atI [V.int (-1), V.int ((2 ^ m : Nat) : Int), V.int (((2 ^ m : Nat) : Int) + b), .non, .bl true, .str "1", .ref l] i = some v ∧ Pl K H v ∧ inB 0 (2 ^ m - 1) v = false := by
  have e : ((2 ^ m : Nat) : Int) = 2 ^ m := by push_cast; rfl
  obtain ⟨v, hv, hm⟩ := atI_in (xs := [V.int (-1), V.int ((2 ^ m : Nat) : Int), V.int (((2 ^ m : Nat) : Int) + b), .non, .bl true, .str "1", .ref l]) i0 i7
  refine ⟨v, hv, ?_⟩
  simp only [List.mem_cons, List.not_mem_nil, or_false] at hm
  rcases hm with rfl | rfl | rfl | rfl | rfl | rfl | rfl
  · exact ⟨.int _, rfl⟩
  · refine ⟨.int _, ?_⟩
    show (decide (0 ≤ ((2 ^ m : Nat) : Int)) && decide (((2 ^ m : Nat) : Int) ≤ 2 ^ m - 1)) = false
    rw [decide_eq_false (by omega : ¬ (((2 ^ m : Nat) : Int) ≤ 2 ^ m - 1)), Bool.and_false]
  · refine ⟨.int _, ?_⟩
    show (decide (0 ≤ ((2 ^ m : Nat) : Int) + b) && decide (((2 ^ m : Nat) : Int) + b ≤ 2 ^ m - 1)) = false
    rw [decide_eq_false (by omega : ¬ (((2 ^ m : Nat) : Int) + b ≤ 2 ^ m - 1)), Bool.and_false]
  · exact ⟨⟨_, .non, .non⟩, rfl⟩
  · exact ⟨⟨_, .bl _, .bl⟩, rfl⟩
  · exact ⟨⟨_, .str _, .str⟩, rfl⟩
  · exact ⟨⟨_, .lst h2, .lst⟩, rfl⟩
theorem menu7m {K : PySem.W.Frag} {H : Hp} {b i : Int} (hb : 0 ≤ b) (i0 : 0 ≤ i) (i7 : i < 7) :
    ∃ v, atI [V.int 0, V.int 7, V.int (-1), .non, .bl true, .str "2", V.int (7 + b)] i = some v ∧ Pl K H v ∧ inB 1 6 v = false := by
  obtain ⟨v, hv, hm⟩ := atI_in (xs := [V.int 0, V.int 7, V.int (-1), .non, .bl true, .str "2", V.int (7 + b)]) i0 i7
  refine ⟨v, hv, ?_⟩
  simp only [List.mem_cons, List.not_mem_nil, or_false] at hm
  rcases hm with rfl | rfl | rfl | rfl | rfl | rfl | rfl
  · exact ⟨.int _, rfl⟩
  · exact ⟨.int _, rfl⟩
  · exact ⟨.int _, rfl⟩
  · exact ⟨⟨_, .non, .non⟩, rfl⟩
  · exact ⟨⟨_, .bl _, .bl⟩, rfl⟩
  · exact ⟨⟨_, .str _, .str⟩, rfl⟩
  · refine ⟨.int _, ?_⟩
    show (decide (1 ≤ 7 + b) && decide (7 + b ≤ 6)) = false
    rw [decide_eq_false (by omega : ¬ (7 + b ≤ 6)), Bool.and_false]
theorem refs_app (a b : List Ru) : refs (a ++ b) = refs a ++ refs b := by unfold refs; rw [List.map_append]
theorem refs_rep (n : Nat) (o : Ru) : (List.replicate (n : Int).toNat [V.ref o.1]).flatten = refs (List.replicate n o) := by
  rw [Int.toNat_natCast]
  unfold refs
  induction n with
  | zero => rfl
  | succ j ih => rw [List.replicate_succ, List.flatten_cons, ih, List.replicate_succ, List.map_cons]; rfl
def spRef (P : Program) (w : World) (K : PySem.W.Frag) (mg : Str → Option Value) (base : Heap) (fE fH RU CO : Addr) : Sp := fun vs H Q _ => ∃ (a c lo : Addr) (ns : List Int) (m : Nat) (os : List Ru), vs = [.ref a, .ref c, .ref lo, .int (m : Int)] ∧ SqL K H a (ns.map V.int) ∧ CObj P w K mg base fE fH RU CO H c m os ∧ H lo = some (.lst (refs os)) ∧ ∀ H', Same H H' → Q (.bl true) H'
theorem scRef : FnScope ["_law_script", "_law_company", "_law_objects", "_law_many", "_law_cell_here", "_law_strange", "_law_at", "_law_strangers"] ["_law_script", "_law_company", "_law_objects", "_law_many"] (defScope sRef) := ⟨rfl, rfl, rfl, by decide +kernel, rfl, by decide +kernel, by decide +kernel⟩
theorem ok_ref {f1 f2 f3 : Addr} {fd1 fd2 fd3 : FuncData} (t : Tx K mg "_law_refusals" sRef ["_law_script", "_law_company", "_law_objects", "_law_many"] f fd) (T : T K mg AL LN RU OW PL PA VO CO fE fH rR rO rP rA rV iR iO iP iA iV iC cH cE cT SE NG NN NO NR NL NS NT NX NV TM UL) (D_law_cell : Df P w K mg base CX0 1 "_law_cell" ["_law_script", "_law_k"] (spCel K) f1 fd1)
    (D_law_no_group : Df P w K mg base CX0 9 "_law_no_group" ["_law_company", "_law_group"] (spNoG P w K mg base fE fH RU CO) f2 fd2) (D_law_no_rule : Df P w K mg base CX0 6 "_law_no_rule" ["_law_many", "_law_some"] (spNoR P w K mg base fE fH RU) f3 fd3)
    (D_RI : Md P w K mg base 4 ["self", "many"] (spRI K NL) iR) (D_RR : Md P w K mg base 1 ["self", "group"] spRR rR) :
    Df P w K mg base CX0 10 "_law_refusals" ["_law_script", "_law_company", "_law_objects", "_law_many"] (spRef P w K mg base fE fH RU CO) f fd := by
  refine t.df0 scRef (fun vs H Q E h => ?_) (fun cdv A outer s H vs Q E hr h => ?_)
  · obtain ⟨a, c, lo, ns, m, os, rfl, _⟩ := h
    rfl
  · obtain ⟨a, c, lo, ns, m, os, rfl, ha, co, ho, k⟩ := h
    obtain ⟨dx, l, c1, c2, o12, m1, m6, ro, om⟩ := id co
    have rl : (refs os).length = os.length := by unfold refs; rw [List.length_map]
    have sh : (1 : Int) * 2 ^ (m : Int).toNat = ((2 ^ m : Nat) : Int) := by rw [Int.toNat_natCast, Int.one_mul]; push_cast; rfl
    refine ⟨_, (pss_cons (ps_set (i := 4) scRef.nd rfl (Or.inl rfl) (pe_op op_mod (pe_op op_mul (pe_op op_mod (pe_d0 D_law_cell hr (by decide) (by rfl) (pa_cons (pv 0) (pa_cons pe_int pa_nil))) pe_int) pe_int) pe_int))
      (pss_cons (ps_set (i := 5) scRef.nd rfl (Or.inl rfl) (pe_lst (pa_cons (pe_un un_neg pe_int) (pa_cons (pe_op op_shl pe_int (pv 3)) (pa_cons (pe_op op_add (pe_op op_shl pe_int (pv 3)) (pe_op op_mod (pv 4) pe_int)) (pa_cons pe_non (pa_cons pe_bl (pa_cons pe_str (pa_cons (pe_lst (pa_cons pe_int pa_nil)) pa_nil)))))))))
      (pss_cons (ps_if (pt_not (pt_val (pe_d0 D_law_no_group hr (by decide) (by rfl) (pa_cons (pv 1) (pa_cons (pe_ix ix_list (pv 5) (pe_op op_mod (pe_op op_fdiv (pv 4) pe_int) pe_int) (fun _ _ => rfl)) pa_nil))))) (pss_one (ps_ret pe_bl)) pss_nil)
      (pss_cons (ps_if (pt_not (pt_val (pe_d0 D_law_no_rule hr (by decide) (by rfl) (pa_cons (pe_ix ix_list (pe_lst (pa_cons pe_int (pa_cons pe_int (pa_cons (pe_un un_neg pe_int) (pa_cons pe_non (pa_cons pe_bl (pa_cons pe_str (pa_cons (pe_op op_add pe_int (pe_op op_mod (pv 4) pe_int)) pa_nil)))))))) (pe_op op_mod (pe_op op_fdiv (pv 4) pe_int) pe_int) (fun _ _ => rfl)) (pa_cons (pe_lst pa_nil) pa_nil))))) (pss_one (ps_ret pe_bl)) pss_nil)
      (pss_cons (ps_if (pt_not (pt_val (pe_d0 D_law_no_rule hr (by decide) (by rfl) (pa_cons (pv 3) (pa_cons (pe_op op_catQ (pv 2) (pe_op op_rep (pe_lst (pa_cons (pe_makeX pass_no T.kRU D_RI hr (by decide) (by rfl) T.mRU (pa_cons (pv 3) pa_nil)) pa_nil)) (pe_op op_sub pe_int (pe_callB call_len_seq (by rfl) T.b_len bt_len (pa_cons (pv 2) pa_nil))))) pa_nil))))) (pss_one (ps_ret pe_bl)) pss_nil)
      (pss_cons (ps_set (i := 6) scRef.nd rfl (Or.inl rfl) (pe_op op_mod (pe_op op_fdiv (pv 4) pe_int) (pe_op op_add (pe_callB call_len_seq (by rfl) T.b_len bt_len (pa_cons (pv 2) pa_nil)) pe_int)))
      (pss_cons (ps_set (i := 7) scRef.nd rfl (Or.inl rfl) (pe_op op_catQ (pe_op op_catQ (pe_slice sl_list (pv 2) po_none (po_some (pv 6))) (pe_lst (pa_cons (pe_makeX pass_no T.kRU D_RI hr (by decide) (by rfl) T.mRU (pa_cons (pe_op op_add pe_int (pe_op op_mod (pe_op op_add (pv 3) (pe_op op_mod (pe_op op_fdiv (pv 4) pe_int) pe_int)) pe_int)) pa_nil)) pa_nil))) (pe_slice sl_list (pv 2) (po_some (pv 6)) po_none)))
      (pss_one (ps_ret (pe_or (pe_d0 D_law_no_rule hr (by decide) (by rfl) (pa_cons (pv 3) (pa_cons (pe_slice sl_list (pv 7) po_none (po_some pe_int)) pa_nil))) (pe_one (pe_cmpR op_eq (pv 6) pe_int (nomark _))))))))))))), ?_⟩
    refine ⟨_, rfl, a, ns, 2, rfl, ha, by decide, fun c2' => ⟨_, _, rfl, rfl, (by show (0 : Int) < 1000003; decide), _, _, rfl, rfl, .inr ⟨by decide, by decide⟩, _, _, rfl, rfl, (by show (0 : Int) < 2147483629; decide), ?_⟩⟩
    obtain ⟨v, hv⟩ : ∃ v : Int, c2' % 1000003 * 69621 % 2147483629 = v := ⟨_, rfl⟩
    show gName 4 (V.int (c2' % 1000003 * 69621 % 2147483629)) _ _ _
    rw [hv]
    -- strange
    have shc : (0 : Int) ≤ (m : Int) ∧ (m : Int) ≤ 1000000 ∧ (1 : Int).natAbs < 2 ^ 64 := ⟨by omega, by omega, by decide⟩
    refine ⟨_, rfl, _, rfl, _, _, rfl, rfl, ⟨by omega, by omega, by decide⟩, _, rfl, _, _, rfl, rfl, ⟨by omega, by omega, by decide⟩, _, rfl, _, _, rfl, rfl, (by show (0 : Int) < 100; decide), _, _, rfl, rfl, by show 1 ≤ sizeLine; decide, fun lz hlz => ?_⟩
    have u1 := Same.upd_new (o := .lst [V.int 0]) hlz
    have hz1 : upd H lz (.lst [V.int 0]) lz = some (.lst [V.int 0]) := upd_same
    generalize upd H lz (.lst [V.int 0]) = H1 at u1 hz1 ⊢
    refine ⟨by show 7 ≤ sizeLine; decide, fun ls hls => ?_⟩
    have u2 := u1.trans (Same.upd_new (o := .lst [V.int (-1), V.int (1 * 2 ^ (m : Int).toNat), V.int (1 * 2 ^ (m : Int).toNat + v % 100), .non, .bl true, .str "1", .ref lz]) hls)
    have hz2 := Same.upd_new (o := .lst [V.int (-1), V.int (1 * 2 ^ (m : Int).toNat), V.int (1 * 2 ^ (m : Int).toNat + v % 100), .non, .bl true, .str "1", .ref lz]) hls _ _ hz1
    have hs2 : upd H1 ls (.lst [V.int (-1), V.int (1 * 2 ^ (m : Int).toNat), V.int (1 * 2 ^ (m : Int).toNat + v % 100), .non, .bl true, .str "1", .ref lz]) ls = some (.lst [V.int (-1), V.int (1 * 2 ^ (m : Int).toNat), V.int (1 * 2 ^ (m : Int).toNat + v % 100), .non, .bl true, .str "1", .ref lz]) := upd_same
    generalize upd H1 ls (.lst [V.int (-1), V.int (1 * 2 ^ (m : Int).toNat), V.int (1 * 2 ^ (m : Int).toNat + v % 100), .non, .bl true, .str "1", .ref lz]) = H2 at u2 hz2 hs2 ⊢
    rw [sh] at hs2
    obtain ⟨y, hy, ply, noy⟩ := menu7g (K := K) (H := H2) (m := m) (b := v % 100) (i := v / 100 % 7) (Int.emod_nonneg _ (by decide)) hz2 (Int.emod_nonneg _ (by decide)) (Int.emod_lt_of_pos _ (by decide))
    refine ⟨_, rfl, _, rfl, _, rfl, _, _, rfl, rfl, ⟨by decide, by decide⟩, _, _, rfl, rfl, (by show (0 : Int) < 7; decide), ls, _, _, y, rfl, rfl, SqL.of hs2, hy, c, m, os, y, rfl, co.same u2, ply, noy, fun H3 s3 => ⟨_, rfl, iteF ?_⟩⟩
    have u3 := u2.trans s3
    -- no number of hands
    refine ⟨_, rfl, _, rfl, _, _, rfl, rfl, (by show (0 : Int) < 100; decide), _, _, rfl, rfl, by show 7 ≤ sizeLine; decide, fun lq hlq => ?_⟩
    have w4 := Same.upd_new (o := .lst [V.int 0, V.int 7, V.int (-1), .non, .bl true, .str "2", V.int (7 + v % 100)]) hlq
    have hq4 : upd H3 lq (.lst [V.int 0, V.int 7, V.int (-1), .non, .bl true, .str "2", V.int (7 + v % 100)]) lq = some (.lst [V.int 0, V.int 7, V.int (-1), .non, .bl true, .str "2", V.int (7 + v % 100)]) := upd_same
    have u4 := u3.trans w4
    generalize upd H3 lq (.lst [V.int 0, V.int 7, V.int (-1), .non, .bl true, .str "2", V.int (7 + v % 100)]) = H4 at w4 hq4 u4 ⊢
    obtain ⟨z, hz, plz, noz⟩ := menu7m (K := K) (H := H4) (b := v % 100) (i := v / 700 % 7) (Int.emod_nonneg _ (by decide)) (Int.emod_nonneg _ (by decide)) (Int.emod_lt_of_pos _ (by decide))
    refine ⟨_, rfl, _, _, rfl, rfl, ⟨by decide, by decide⟩, _, _, rfl, rfl, (by show (0 : Int) < 7; decide), lq, _, _, z, rfl, rfl, SqL.of hq4, hz, by show 0 ≤ sizeLine; decide, fun le hle => ?_⟩
    have w5 := Same.upd_new (o := .lst []) hle
    refine ⟨le, z, [], rfl, upd_same, by decide, (fun o ho => by cases ho), plz.same w5, fun H5 s5 => ?_⟩
    have bz : badC z [] = true := by unfold badC; rw [noz]; rfl
    rw [bz]
    refine ⟨_, rfl, iteF ?_⟩
    have u5 := u4.trans (w5.trans s5)
    have ho5 := u5 _ _ ho
    clear w5 w4 s5 hq4 hz plz noz hs2 hy ply noy u4 u3 s3 u2 hz2 u1
    -- too many
    refine ⟨_, rfl, _, rfl, _, rfl, fun x dx' hx hd ne => mk_rule T.rRU.oc T.rRU.nm hx hd ne m1 m6 fun H6 s6 hx6 => ⟨rfl, by show 1 ≤ sizeLine; decide, fun l1 hl1 => ?_⟩⟩
    have w7 := Same.upd_new (o := .lst [V.ref x]) hl1
    have h17 : upd H6 l1 (.lst [V.ref x]) l1 = some (.lst [V.ref x]) := upd_same
    generalize upd H6 l1 (.lst [V.ref x]) = H7 at w7 h17 ⊢
    have s57 := s6.trans w7
    obtain ⟨n, hn, hn13⟩ : ∃ n : Nat, (13 : Int) - ((refs os).length : Int) = (n : Int) ∧ os.length + n = 13 := ⟨13 - os.length, by rw [rl]; omega, by omega⟩
    refine ⟨_, rfl, lo, _, rfl, .inl (SqL.of (s57 _ _ ho5)), _, _, rfl, rfl, ?_⟩
    show rRep (V.ref l1) (V.int ((13 : Int) - ((refs os).length : Int))) _ _
    rw [hn]
    refine ⟨l1, (n : Int), [.ref x], rfl, rfl, h17, by omega, by omega, (by show 1 * ((n : Nat) : Int).toNat ≤ sizeLine; rw [Nat.one_mul]; exact Nat.le_of_lt (small1000 (by omega))), fun l2 hl2 => ?_⟩
    rw [refs_rep n (x, m, fun _ => 0)]
    have w8 := Same.upd_new (o := .lst (refs (List.replicate n ((x, m, fun _ => 0) : Ru)))) hl2
    have h28 : upd H7 l2 (.lst (refs (List.replicate n ((x, m, fun _ => 0) : Ru)))) l2 = some (.lst (refs (List.replicate n ((x, m, fun _ => 0) : Ru)))) := upd_same
    generalize upd H7 l2 (.lst (refs (List.replicate n ((x, m, fun _ => 0) : Ru)))) = H8 at w8 h28 ⊢
    have s58 := s57.trans w8
    refine ⟨lo, l2, _, _, rfl, rfl, SqL.of (s58 _ _ ho5), SqL.of h28, (by unfold refs; rw [List.length_map, List.length_map, List.length_replicate]; exact Nat.le_of_lt (small1000 (by omega))), fun l3 hl3 => ?_⟩
    rw [← refs_app]
    have w9 := Same.upd_new (o := .lst (refs (os ++ List.replicate n ((x, m, fun _ => 0) : Ru)))) hl3
    have h39 : upd H8 l3 (.lst (refs (os ++ List.replicate n ((x, m, fun _ => 0) : Ru)))) l3 = some (.lst (refs (os ++ List.replicate n ((x, m, fun _ => 0) : Ru)))) := upd_same
    generalize upd H8 l3 (.lst (refs (os ++ List.replicate n ((x, m, fun _ => 0) : Ru)))) = H9 at w9 h39 ⊢
    have s59 := s58.trans w9
    have u9 := u5.trans s59
    have ru9 : RusAt P w K mg base fE fH RU H9 (os ++ List.replicate n ((x, m, fun _ => 0) : Ru)) := fun o ho' => by
      rcases List.mem_append.mp ho' with q | q
      · exact (ro o q).same u9
      · rw [(List.mem_replicate.mp q).2]
        exact rule_obj D_RR T.rRU ((w7.trans (w8.trans w9)) _ _ hx6) m1 m6
    refine ⟨l3, _, _, rfl, h39, by rw [List.length_append, List.length_replicate]; omega, ru9, .int _, fun H10 s10 => ?_⟩
    have b9 : badC (.int (m : Int)) (os ++ List.replicate n ((x, m, fun _ => 0) : Ru)) = true := by
      unfold badC
      rw [List.length_append, List.length_replicate, decide_eq_true (show 12 < os.length + n by omega), Bool.or_true]
      rfl
    rw [b9]
    refine ⟨_, rfl, iteF ?_⟩
    have u10 := u9.trans s10
    have ho10 := u10 _ _ ho
    clear s10 u9 ru9 s59 w9 h39 s58 w8 h28 s57 w7 h17 hx6 s6 u5 ho5 b9
    -- at
    refine ⟨_, rfl, _, _, rfl, rfl, ⟨by decide, by decide⟩, _, rfl, lo, _, rfl, .inl (SqL.of ho10), _, _, rfl, rfl, _, _, rfl, rfl, (by show (0 : Int) < ((refs os).length : Int) + 1; omega), ?_⟩
    obtain ⟨j, hj, jl⟩ : ∃ j : Nat, v / 4900 % (((refs os).length : Int) + 1) = (j : Int) ∧ j ≤ os.length := by
      rw [rl]
      have e0 := Int.emod_nonneg (v / 4900) (b := (os.length : Int) + 1) (by omega)
      have e1 := Int.emod_lt_of_pos (v / 4900) (b := (os.length : Int) + 1) (by omega)
      exact ⟨(v / 4900 % ((os.length : Int) + 1)).toNat, by omega, by omega⟩
    show gName 6 (V.int (v / 4900 % (((refs os).length : Int) + 1))) _ _ _
    rw [hj]
    obtain ⟨m', hm', m1', m6', mne⟩ : ∃ m' : Nat, 1 + ((m : Int) + v / 7 % 5) % 6 = (m' : Int) ∧ 1 ≤ m' ∧ m' ≤ 6 ∧ m' ≠ m := ⟨(1 + ((m : Int) + v / 7 % 5) % 6).toNat, by omega, by omega, by omega, by omega⟩
    refine ⟨_, rfl, _, rfl, _, rfl, lo, _, rfl, SqL.of ho10, fun l1 hl1 => ?_⟩
    rw [cut_hi]
    have w11 := Same.upd_new (o := .lst ((refs os).take j)) hl1
    have h11 : upd H10 l1 (.lst ((refs os).take j)) l1 = some (.lst ((refs os).take j)) := upd_same
    generalize upd H10 l1 (.lst ((refs os).take j)) = H11 at w11 h11 ⊢
    refine ⟨_, rfl, _, rfl, _, _, rfl, rfl, ⟨by decide, by decide⟩, _, _, rfl, rfl, (by show (0 : Int) < 5; decide), _, _, rfl, rfl, _, _, rfl, rfl, (by show (0 : Int) < 6; decide), _, _, rfl, rfl, fun x' dx2 hx' hd' ne' => ?_⟩
    show spRI K NL [.ref x', V.int (1 + ((m : Int) + v / 7 % 5) % 6)] _ _ _
    rw [hm']
    refine mk_rule T.rRU.oc T.rRU.nm hx' hd' ne' m1' m6' fun H12 s12 hx12 => ⟨rfl, by show 1 ≤ sizeLine; decide, fun l2 hl2 => ?_⟩
    have w13 := Same.upd_new (o := .lst [V.ref x']) hl2
    have h13 : upd H12 l2 (.lst [V.ref x']) l2 = some (.lst [V.ref x']) := upd_same
    generalize upd H12 l2 (.lst [V.ref x']) = H13 at w13 h13 ⊢
    have tk : ((refs os).take j).length ≤ 12 := by rw [List.length_take, rl]; omega
    refine ⟨l1, l2, _, _, rfl, rfl, SqL.of ((s12.trans w13) _ _ h11), SqL.of h13, (by exact Nat.le_of_lt (small1000 (by show _ + 1 ≤ _; omega))), fun l3 hl3 => ?_⟩
    have w14 := Same.upd_new (o := .lst ((refs os).take j ++ [V.ref x'])) hl3
    have h14 : upd H13 l3 (.lst ((refs os).take j ++ [V.ref x'])) l3 = some (.lst ((refs os).take j ++ [V.ref x'])) := upd_same
    generalize upd H13 l3 (.lst ((refs os).take j ++ [V.ref x'])) = H14 at w14 h14 ⊢
    have s14 := w11.trans (s12.trans (w13.trans w14))
    refine ⟨_, rfl, _, rfl, _, rfl, lo, _, rfl, SqL.of (s14 _ _ ho10), fun l4 hl4 => ?_⟩
    rw [cut_lo]
    have w15 := Same.upd_new (o := .lst ((refs os).drop j)) hl4
    have h15 : upd H14 l4 (.lst ((refs os).drop j)) l4 = some (.lst ((refs os).drop j)) := upd_same
    generalize upd H14 l4 (.lst ((refs os).drop j)) = H15 at w15 h15 ⊢
    refine ⟨l3, l4, _, _, rfl, rfl, SqL.of (w15 _ _ h14), SqL.of h15, (by rw [List.length_append, List.length_drop, rl]; exact Nat.le_of_lt (small1000 (by show _ + 1 + _ ≤ _; omega))), fun l5 hl5 => ?_⟩
    obtain ⟨st, hst⟩ : ∃ st : List Ru, os.take j ++ [(x', m', fun _ => 0)] ++ os.drop j = st := ⟨_, rfl⟩
    have est : (refs os).take j ++ [V.ref x'] ++ (refs os).drop j = refs st := by
      rw [← hst, refs_app, refs_app]
      unfold refs
      rw [List.map_take, List.map_drop]
      rfl
    have stl : st.length = os.length + 1 := by
      rw [← hst, List.length_append, List.length_append, List.length_take, List.length_drop]
      show min j os.length + 1 + _ = _
      omega
    rw [est]
    have w16 := Same.upd_new (o := .lst (refs st)) hl5
    have h16 : upd H15 l5 (.lst (refs st)) l5 = some (.lst (refs st)) := upd_same
    generalize upd H15 l5 (.lst (refs st)) = H16 at w16 h16 ⊢
    refine ⟨_, rfl, _, rfl, _, rfl, l5, _, rfl, SqL.of h16, fun l6 hl6 => ?_⟩
    have e12 : cutV (refs st) none (some 12) = refs (st.take 12) := by
      rw [show (12 : Int) = ((12 : Nat) : Int) from rfl, cut_hi]
      unfold refs
      rw [List.map_take]
    rw [e12]
    have w17 := Same.upd_new (o := .lst (refs (st.take 12))) hl6
    have h17 : upd H16 l6 (.lst (refs (st.take 12))) l6 = some (.lst (refs (st.take 12))) := upd_same
    generalize upd H16 l6 (.lst (refs (st.take 12))) = H17 at w17 h17 ⊢
    have s17 := s14.trans (w15.trans (w16.trans w17))
    have u17 := u10.trans s17
    have ru : RusAt P w K mg base fE fH RU H17 (st.take 12) := fun o ho' => by
      have q := List.mem_of_mem_take ho'
      rw [← hst] at q
      rcases List.mem_append.mp q with q | q
      · rcases List.mem_append.mp q with q | q
        · exact (ro o (List.mem_of_mem_take q)).same u17
        · rw [List.mem_singleton] at q
          rw [q]
          exact rule_obj D_RR T.rRU ((w13.trans (w14.trans (w15.trans (w16.trans w17)))) _ _ hx12) m1' m6'
      · exact (ro o (List.mem_of_mem_drop q)).same u17
    refine ⟨l6, _, st.take 12, rfl, h17, by rw [List.length_take]; omega, ru, .int _, fun H18 s18 => ?_⟩
    have u18 := u17.trans s18
    rcases Nat.lt_or_ge j 12 with j12 | j12
    · have mem : ((x', m', fun _ => 0) : Ru) ∈ st.take 12 := by
        refine List.mem_of_getElem? (i := j) ?_
        rw [List.getElem?_take, if_pos j12, ← hst, List.getElem?_append_left (by rw [List.length_append, List.length_take]; show j < min j os.length + 1; omega), List.getElem?_append_right (by rw [List.length_take]; omega), List.length_take, Nat.min_eq_left jl, Nat.sub_self]
        rfl
      have b : badC (.int (m : Int)) (st.take 12) = true := by
        unfold badC
        have ea : ((st.take 12).any fun o => !(decide (V.int (o.2.1 : Int) = V.int (m : Int)))) = true := List.any_eq_true.mpr ⟨_, mem, by
          show (!decide (V.int (m' : Int) = V.int (m : Int))) = true
          rw [decide_eq_false fun z => mne (by have := V.int.inj z; omega)]
          rfl⟩
        rw [ea, Bool.or_true]
      rw [b]
      exact ⟨_, rfl, iteT (k H18 u18)⟩
    · have e : st.take 12 = os := by
        have ej : j = os.length := by omega
        have el : os.length = 12 := by omega
        rw [← hst, ej, List.take_length, List.drop_length, List.append_nil, List.take_append_of_le_length (by omega), ← el, List.take_length]
      have b : badC (.int (m : Int)) (st.take 12) = false := by
        rw [e]
        unfold badC
        have i16 : inB 1 6 (.int (m : Int)) = true := by rw [inB_16, decide_eq_true m1, decide_eq_true m6]; rfl
        have ea : (os.any fun o => !(decide (V.int (o.2.1 : Int) = V.int (m : Int)))) = false := List.any_eq_false.mpr fun o ho' => by
          rw [om o ho', decide_eq_true rfl]
          decide
        rw [i16, ea, decide_eq_false (by omega)]
        rfl
      rw [b]
      refine ⟨_, rfl, iteF ⟨_, rfl, rfl, ?_⟩⟩
      rw [show decide (V.int (j : Int) = V.int 12) = true from decide_eq_true (by rw [show j = 12 by omega]; rfl)]
      exact k H18 u18
-- SPLIT2
/-! ### the law -/
/-- the objects made so far (os) and the lists that were handed in (hs); each object stays as long as all but lh, D and those lists stays -/
def PvO (P : Program) (w : World) (K : PySem.W.Frag) (mg : Str → Option Value) (base : Heap) (fE fH RU : Addr) (H2 : Hp) (lh : Addr) (m : Nat) (rows : List Rw_) (D : Addr) (i : Nat) (H : Hp) : Prop :=
  Same H2 H ∧ ∃ (os : List Ru) (hs : List Addr), os.length = i ∧ hs.length = i ∧ (os.map fun o => o.2.2) = (rows.take i).map (fun r => r.2) ∧ H2 D = none ∧ H D = some (.lst (refs os)) ∧ H lh = some (.lst (hs.map V.ref)) ∧ D ≠ lh ∧
    (∀ h ∈ hs, ∃ ys : List V, H h = some (.lst ys) ∧ ys.length ≤ 100 ∧ H2 h = none ∧ h ≠ D ∧ h ≠ lh) ∧
    ∀ o ∈ os, o.2.1 = m ∧ ∀ H'', (∀ b u, H b = some u → b ≠ lh → b ∉ hs → b ≠ D → H'' b = some u) → RObj P w K mg base fE fH RU H'' o.1 m o.2.2
theorem mk_comp {fE fH RU CO NL : Addr} {H : Hp} {q : Addr} {m : Nat} {os : List Ru} {x dx : Addr} {R : VK} {E : XK} (hx : H x = none) (hd : H dx = none) (ne : dx ≠ x) (hq : H q = some (.lst (refs os))) (o12 : os.length ≤ 12) (ro : RusAt P w K mg base fE fH RU H os) (om : ∀ o ∈ os, o.2.1 = m) (h1 : 1 ≤ m) (h6 : m ≤ 6)
    (k : ∀ l H', H l = none → Same H H' → H' x = some (.ins CO dx [("many", .int (m : Int)), ("rules", .ref l)]) → H' l = some (.lst (refs os)) → R .non H') :
    spCI P w K mg base fE fH RU CO NL [.ref x, .int (m : Int), .ref q] (upd (upd H dx (.own x)) x (.ins CO dx [])) R E := by
  have sm : Same H (upd (upd H dx (.own x)) x (.ins CO dx [])) := SameBut.made hx hd ne ((Same.refl _).but x)
  have b : badC (.int (m : Int)) os = false := by
    unfold badC
    have i16 : inB 1 6 (.int (m : Int)) = true := by rw [inB_16, decide_eq_true h1, decide_eq_true h6]; rfl
    have ea : (os.any fun o => !(decide (V.int (o.2.1 : Int) = V.int (m : Int)))) = false := List.any_eq_false.mpr fun o ho' => by
      rw [om o ho', decide_eq_true rfl]
      decide
    rw [i16, ea, decide_eq_false (by omega)]
    rfl
  refine ⟨x, dx, q, _, os, rfl, upd_same, sm _ _ hq, by omega, ro.same sm, .int _, (fun bad => ?_), fun _ l H' hl sb e1 e2 => k l H' (sm.free hl) (sb.made hx hd ne) e1 e2⟩
  rw [b] at bad
  cases bad
def dueL (m : Nat) (rows : List Rw_) : List Int := (List.range (2 ^ m)).map fun g => (rows.map fun r => r.2 g).sum
def spLaw (K : PySem.W.Frag) : Sp := fun vs H Q _ => ∃ (a : Addr) (ns : List Int), vs = [.ref a] ∧ SqL K H a (ns.map V.int) ∧ ns.length ≤ 63 ∧ ∀ H', Q (.bl true) H'
theorem scLaw : FnScope ["_law_script", "_law_many", "_law_some", "_law_due", "_law_handed", "_law_objects", "_law_given", "_law_company", "_law_others", "_law_second", "_law_sums", "_law_first", "_law_row", "_law_more"] ["_law_script"] (defScope sLaw) := ⟨rfl, rfl, rfl, by decide +kernel, rfl, by decide +kernel, by decide +kernel⟩
theorem ok_law {f1 f2 f3 f4 f5 f6 : Addr} {fd1 fd2 fd3 fd4 fd5 fd6 : FuncData} (t : Tx K mg "law" sLaw ["_law_script"] f fd) (T : T K mg AL LN RU OW PL PA VO CO fE fH rR rO rP rA rV iR iO iP iA iV iC cH cE cT SE NG NN NO NR NL NS NT NX NV TM UL)
    (D_law_cell : Df P w K mg base CX0 1 "_law_cell" ["_law_script", "_law_k"] (spCel K) f1 fd1) (D_law_rules : Df P w K mg base CX0 3 "_law_rules" ["_law_script", "_law_many"] (spLRs K) f2 fd2)
    (D_law_earned : Df P w K mg base CX0 1 "_law_earned" ["_law_row", "_law_group"] (spLEa K) f3 fd3) (D_law_object : Df P w K mg base CX0 7 "_law_object" ["_law_row", "_law_many", "_law_handed"] (spLOb P w K mg base fE fH RU) f4 fd4)
    (D_law_holds : Df P w K mg base CX0 10 "_law_holds" ["_law_company", "_law_due"] (spLHo P w K mg base fE fH RU CO) f5 fd5) (D_law_refusals : Df P w K mg base CX0 10 "_law_refusals" ["_law_script", "_law_company", "_law_objects", "_law_many"] (spRef P w K mg base fE fH RU CO) f6 fd6)
    (D_CI : Md P w K mg base 4 ["self", "many", "rules"] (spCI P w K mg base fE fH RU CO NL) iC) (D_OI : Md P w K mg base 5 ["self", "numbers"] (spOI K NL OW) iO) (D_RI : Md P w K mg base 4 ["self", "many"] (spRI K NL) iR) (D_OR : Md P w K mg base 6 ["self", "group"] (spOR OW) rO) (D_RR : Md P w K mg base 1 ["self", "group"] spRR rR) (D_CT : Md P w K mg base 9 ["self"] (spCT P w K mg base fE fH RU CO) cT) :
    Df P w K mg base CX0 12 "law" ["_law_script"] (spLaw K) f fd := by
  refine t.df0 scLaw (fun vs H Q E h => ?_) (fun cdv A outer s H vs Q E hr h => ?_)
  · obtain ⟨a, ns, rfl, _⟩ := h
    rfl
  · obtain ⟨a, ns, rfl, hq, hns, k⟩ := h
    refine ⟨_, (pss_cons (ps_set (i := 1) scLaw.nd rfl (by first | exact Or.inl rfl | exact Or.inr rfl) (pe_op op_add pe_int (pe_op op_mod (pe_d0 D_law_cell hr (by decide) (by rfl) (pa_cons (pv 0) (pa_cons pe_int pa_nil))) pe_int)))
      (pss_cons (ps_set (i := 2) scLaw.nd rfl (by first | exact Or.inl rfl | exact Or.inr rfl) (pe_d0 D_law_rules hr (by decide) (by rfl) (pa_cons (pv 0) (pa_cons (pv 1) pa_nil))))
      (pss_cons (ps_setCC (y0 := "_law_group") (NB := ["_law_group", "_law_some"]) (pick := [none, some 2]) (i := 3) scLaw.nd rfl (Or.inl rfl) (by rfl) (blkC_mk (by with_unfolding_all rfl) (by exact (And.intro rfl trivial)) rfl (fun _ => rfl) (fun _ => rfl) (by decide +kernel) (fun _ => rfl) (by rfl) (by rfl)) rfl
          (pi_range1 (by rfl) T.b_range (pa_cons (pe_op op_shl pe_int (pv 1)) pa_nil)) (fun _ _ _ => pg_name (i := 0) (show (["_law_group", "_law_some"] : List Str).Nodup from by decide +kernel) rfl (Or.inr rfl))
          (fun _ _ _ => pif_nil) (fun _ _ _ => (pe_callB (call_sumK K rfl) (by rfl) T.b_sum bt_sum (pa_cons (pe_comp (NB := ["_law_row", "_law_group"]) (pick := [none, some 0]) (blk_mk (by with_unfolding_all rfl) (by exact (And.intro rfl trivial)) rfl (by decide +kernel) (by decide +kernel) (by rfl) (by rfl)) rfl
          (pi_listK K (pv 1)) (fun _ _ _ => pg_name (i := 0) (show (["_law_row", "_law_group"] : List Str).Nodup from by decide +kernel) rfl (Or.inl rfl))
          (fun _ _ _ => pif_nil) (fun _ _ _ => (pe_d0 D_law_earned hr (by decide) (by rfl) (pa_cons (pv 0) (pa_cons (pv 1) pa_nil))))) pa_nil))))
      (pss_cons (ps_set (i := 4) scLaw.nd rfl (by first | exact Or.inl rfl | exact Or.inr rfl) (pe_lst pa_nil))
      (pss_cons (ps_setC (NB := ["_law_row", "_law_handed", "_law_many"]) (pick := [none, some 4, some 1]) (i := 5) scLaw.nd rfl (Or.inl rfl) (by rfl) (blk_mk (by with_unfolding_all rfl) (by exact (And.intro rfl (And.intro rfl trivial))) rfl (by decide +kernel) (by decide +kernel) (by rfl) (by rfl)) rfl
          (pi_list (pv 2)) (fun _ _ _ => pg_name (i := 0) (show (["_law_row", "_law_handed", "_law_many"] : List Str).Nodup from by decide +kernel) rfl (Or.inl rfl))
          (fun _ _ _ => pif_nil) (fun _ _ _ => (pe_d0 D_law_object hr (by decide) (by rfl) (pa_cons (pv 0) (pa_cons (pv 2) (pa_cons (pv 1) pa_nil))))))
      (pss_cons (ps_set (i := 6) scLaw.nd rfl (Or.inl rfl) (pe_callTy call_list_of (by rfl) T.b_list bt_list (pa_cons (pv 5) pa_nil)))
      (pss_cons (ps_set (i := 7) scLaw.nd rfl (Or.inl rfl) (pe_makeX pass_no T.kCO D_CI hr (by decide) (by rfl) T.mCO (pa_cons (pv 1) (pa_cons (pv 6) pa_nil))))
      (pss_cons (ps_set (i := 8) scLaw.nd rfl (by first | exact Or.inl rfl | exact Or.inr rfl) (pe_comp (NB := ["_law_k", "_law_script"]) (pick := [none, some 0]) (blk_mk (by with_unfolding_all rfl) (by exact (And.intro rfl trivial)) rfl (by decide +kernel) (by decide +kernel) (by rfl) (by rfl)) rfl
          (pi_range1 (by rfl) T.b_range (pa_cons (pv 1) pa_nil)) (fun _ _ _ => pg_name (i := 0) (show (["_law_k", "_law_script"] : List Str).Nodup from by decide +kernel) rfl (Or.inl rfl))
          (fun _ _ _ => pif_nil) (fun _ _ _ => (pe_op op_mod (pe_d0 D_law_cell hr (by decide) (by rfl) (pa_cons (pv 1) (pa_cons (pe_op op_add pe_int (pv 0)) pa_nil))) pe_int))))
      (pss_cons (ps_set (i := 9) scLaw.nd rfl (Or.inl rfl) (pe_makeX pass_no T.kCO D_CI hr (by decide) (by rfl) T.mCO (pa_cons (pv 1) (pa_cons (pe_lst (pa_cons (pe_makeX pass_no T.kOW D_OI hr (by decide) (by rfl) T.mOW (pa_cons (pe_callTy call_list_of (by rfl) T.b_list bt_list (pa_cons (pv 8) pa_nil)) pa_nil)) (pa_cons (pe_makeX pass_no T.kRU D_RI hr (by decide) (by rfl) T.mRU (pa_cons (pv 1) pa_nil)) pa_nil))) pa_nil))))
      (pss_cons (ps_setC (NB := ["_law_group", "_law_others"]) (pick := [none, some 8]) (i := 10) scLaw.nd rfl (Or.inl rfl) (by rfl) (blk_mk (by with_unfolding_all rfl) (by exact (And.intro rfl trivial)) rfl (by decide +kernel) (by decide +kernel) (by rfl) (by rfl)) rfl
          (pi_range1 (by rfl) T.b_range (pa_cons (pe_op op_shl pe_int (pv 1)) pa_nil)) (fun _ _ _ => pg_name (i := 0) (show (["_law_group", "_law_others"] : List Str).Nodup from by decide +kernel) rfl (Or.inl rfl))
          (fun _ _ _ => pif_nil) (fun _ _ _ => (pe_d0 D_law_earned hr (by decide) (by rfl) (pa_cons (pe_tup (pa_cons pe_int (pa_cons (pv 1) (pa_cons (pe_lst pa_nil) pa_nil)))) (pa_cons (pv 0) pa_nil)))))
      (pss_cons (ps_if (PW.pt (pw_or (pt_val (pe_callB call_isi (by rfl) T.b_isi bt_isi (pa_cons (pv 7) (pa_cons (pe_glob (v := .ref RU) (by rfl) T.mRU rfl) pa_nil)))) (pw_or (pt_cmpR (op_neR hr.units) (pv 6) (pv 5) (nomark _)) (pw_or (pt_not (pt_val (pe_d0 D_law_holds hr (by decide) (by rfl) (pa_cons (pv 7) (pa_cons (pv 3) pa_nil))))) (pw_or1 (pt_not (pt_val (pe_d0 D_law_holds hr (by decide) (by rfl) (pa_cons (pv 9) (pa_cons (pv 10) pa_nil)))))))))) (pss_one (ps_ret pe_bl)) pss_nil)
      (pss_cons (ps_set (i := 11) scLaw.nd rfl (Or.inl rfl) (pe_methX0 (k := 9) pass_no (pv 7) hr (by decide)))
      (pss_cons (ps_expr (pe_bm PySem.F.plainAttrs_list PySem.F.slot_list_append PySem.F.type_list_append mt_appendR (pv 11) (pa_cons pe_int pa_nil)))
      (pss_cons (ps_expr (pe_bm0 PySem.F.plainAttrs_list PySem.F.slot_list_clear PySem.F.type_list_clear mt_clearR (pv 6)))
      (pss_cons (ps_for PassesOwn.never rfl (pi_list (pv 4)) (pg_name (i := 12) scLaw.nd rfl (by first | exact Or.inl rfl | exact Or.inr rfl))
        (pss_one (ps_expr (pe_bm0 PySem.F.plainAttrs_list PySem.F.slot_list_clear PySem.F.type_list_clear mt_clearR (pv 12)))))
      (pss_cons (ps_if (pt_not (pt_val (pe_d0 D_law_refusals hr (by decide) (by rfl) (pa_cons (pv 0) (pa_cons (pv 7) (pa_cons (pv 5) (pa_cons (pv 1) pa_nil))))))) (pss_one (ps_ret pe_bl)) pss_nil)
      (pss_cons (ps_set (i := 13) scLaw.nd rfl (Or.inl rfl) (pe_op op_catQ (pv 5) (pe_op op_rep (pe_lst (pa_cons (pe_makeX pass_no T.kRU D_RI hr (by decide) (by rfl) T.mRU (pa_cons (pv 1) pa_nil)) pa_nil)) (pe_op op_sub pe_int (pe_callB call_len_seq (by rfl) T.b_len bt_len (pa_cons (pv 5) pa_nil))))))
      (pss_cons (ps_if (PW.pt (pw_and (pt_cmpR op_lt (pv 1) pe_int (nomark _)) (pw_and1 (pt_not (pt_val (pe_d0 D_law_holds hr (by decide) (by rfl) (pa_cons (pe_makeX pass_no T.kCO D_CI hr (by decide) (by rfl) T.mCO (pa_cons (pv 1) (pa_cons (pv 13) pa_nil))) (pa_cons (pv 3) pa_nil)))))))) (pss_one (ps_ret pe_bl)) pss_nil)
      (pss_one (ps_ret (pe_and (pe_d0 D_law_holds hr (by decide) (by rfl) (pa_cons (pv 7) (pa_cons (pv 3) pa_nil))) (pe_one (pe_cmpR (op_eqL hr.units) (pv 11) (pe_op op_catQ (pv 3) (pe_lst (pa_cons pe_int pa_nil))) (nomark _)))))))))))))))))))))))), ?_⟩
    refine ⟨_, rfl, a, ns, 0, rfl, hq, by decide, fun c0 => ⟨_, _, rfl, rfl, (by show (0 : Int) < 6; decide), _, _, rfl, rfl, ?_⟩⟩
    obtain ⟨m, hm, m1, m6⟩ : ∃ m : Nat, 1 + c0 % 6 = (m : Int) ∧ 1 ≤ m ∧ m ≤ 6 := ⟨(1 + c0 % 6).toNat, by omega, by omega, by omega⟩
    show gName 1 (V.int (1 + c0 % 6)) _ _ _
    rw [hm]
    have h64 : 2 ^ m ≤ 64 := Nat.pow_le_pow_right (n := 2) (by decide) m6
    have hpos : 2 ≤ 2 ^ m := Nat.pow_le_pow_right (n := 2) (i := 1) (by decide) m1
    have sh : (1 : Int) * 2 ^ (m : Int).toNat = ((2 ^ m : Nat) : Int) := by rw [Int.toNat_natCast, Int.one_mul]; push_cast; rfl
    refine ⟨_, rfl, _, rfl, a, ns, m, rfl, hq, hns, m1, m6, fun lS rows H1 hlS s1 hS1 r12 rows1 => ?_⟩
    have rrl : (rrefs rows).length = rows.length := by unfold rrefs; rw [List.length_map]
    -- due
    refine ⟨_, rfl, _, _, rfl, rfl, ⟨by omega, by omega, by decide⟩, ((2 ^ m : Nat) : Int), (by show [V.int ((1 : Int) * 2 ^ (m : Int).toNat)] = _; rw [sh]), by omega, by omega, ?_⟩
    refine comp_rng (lo := 0) (n := 2 ^ m) (fun g => some (.int (rows.map fun r => r.2 g).sum)) (Nat.le_of_lt (small1000 (by omega))) (fun g H3 kk kk0 s3 hg g1 g2 => ?_) fun ld H2 hld s2 hd2 => ?_
    · rw [Int.zero_add (g : Int)]
      refine ⟨_, rfl, lS, rfl, ⟨_, SqL.of (s3 _ _ hS1)⟩, ?_⟩
      refine comp_lst (xs := rrefs rows) (fun i _ => (rows[i]?).map fun r => V.int (r.2 g)) (SqL.of (s3 _ _ hS1)) (by rw [rrl]; exact Nat.le_of_lt (small1000 (by omega))) (fun i y H4 kk' kk0' s4 hy g1' g2' => ?_) fun D H4 hD s4 hd => ?_
      · have hi : i < rows.length := by
          obtain ⟨z, _⟩ := List.getElem?_eq_some_iff.mp hy
          rw [rrl] at z
          exact z
        obtain rfl : V.ref rows[i].1 = y := by
          unfold rrefs at hy
          rw [List.getElem?_map, List.getElem?_eq_getElem hi] at hy
          exact Option.some.inj hy
        refine ⟨_, rfl, _, rfl, rows[i].1, m, g, rows[i].2, rfl, (rows1 _ (List.getElem_mem hi)).same m6 (s3.trans s4), m1, m6, hg, fun H5 s5 => g1' _ ?_ _ s5⟩
        rw [List.getElem?_eq_getElem hi]
        rfl
      have ed : ((List.range (rrefs rows).length).filterMap fun i => ((rrefs rows)[i]?).bind fun _ => (rows[i]?).map fun r => V.int (r.2 g)) = (rows.map fun r => r.2 g).map V.int := by
        rw [rrl, List.map_map]
        refine Eq.trans (fm_congr (g := fun i => (rows[i]?).bind fun r => some (V.int (r.2 g))) fun i hi => ?_) ?_
        · have hi := List.mem_range.mp hi
          rw [List.getElem?_eq_getElem (l := rrefs rows) (by rw [rrl]; exact hi), List.getElem?_eq_getElem hi]
          rfl
        · rw [fm_bind, List.filterMap_eq_map']
          rfl
      rw [ed] at hd
      exact ⟨D, _, rfl, .inl (SqL.of hd), g1 _ rfl _ s4⟩
    have ed : (List.range (2 ^ m)).filterMap (fun g => some (V.int (rows.map fun r => r.2 g).sum)) = (dueL m rows).map V.int := by
      unfold dueL
      rw [List.map_map, ← List.filterMap_eq_map]
      rfl
    rw [ed] at hd2
    have u2 := s1.trans s2
    have rows2 := rows1.same m6 s2
    have hS2 := s2 _ _ hS1
    clear ed s2 rows1 hS1 s1
    -- handed, objects
    refine ⟨by show 0 ≤ sizeLine; decide, fun lh hlh => ?_⟩
    have hS3 := Same.upd_new (o := .lst []) hlh _ _ hS2
    refine ⟨_, rfl, lS, rfl, ⟨_, SqL.of hS3⟩, ?_⟩
    refine comp_lstI (xs := rrefs rows) (PvO P w K mg base fE fH RU H2 lh m rows) (fun D hD => ?_) (fun D i H' hp => SqL.of (hp.1 _ _ hS2)) (fun D i x H4 kk kk0 hx hp hk => ?_) fun lo H4 hp => ?_
    · have nD : D ≠ lh := fun z => by rw [z, upd_same] at hD; cases hD
      have v := (Same.upd_new (o := .lst []) hlh).trans (Same.upd_new (o := .lst []) hD)
      refine ⟨v, [], [], rfl, rfl, rfl, ?_, upd_same, ?_, nD, (fun h hh => by cases hh), (fun o ho => by cases ho)⟩
      · have z := hD
        rw [upd_ne nD] at z
        exact z
      · rw [upd_ne nD.symm, upd_same]
        rfl
    · have hi : i < rows.length := by
        obtain ⟨z, _⟩ := List.getElem?_eq_some_iff.mp hx
        rw [rrl] at z
        exact z
      obtain rfl : V.ref rows[i].1 = x := by
        unfold rrefs at hx
        rw [List.getElem?_map, List.getElem?_eq_getElem hi] at hx
        exact Option.some.inj hx
      obtain ⟨s4, os, hs, ol, hl, oe, fD, hD, hlh4, nD, hhs, hos⟩ := hp
      have row2 := rows2 _ (List.getElem_mem hi)
      refine ⟨_, rfl, _, rfl, _, rfl, rows[i].1, lh, m, rows[i].2, hs.map V.ref, rfl, row2.same m6 s4, m1, m6, hlh4, by rw [List.length_map]; omega, (fun kd ln lp e => ?_), fun x l F ys H5 k5 hlh5 fl hl5 yl fx ob hF => ?_⟩
      · obtain ⟨kd', ln', lp', ns', bs', q1, q2, q3, _⟩ := row2
        have z := (s4 _ _ q1).symm.trans e
        injection z with z
        injection z with z
        injection z with z1 z
        injection z with z2 z
        injection z with z3 z
        injection z2 with z2
        injection z3 with z3
        subst z2 z3
        exact ⟨ne_of_none q2 hlh, ne_of_none q3 hlh⟩
      · have hD5 := k5 _ _ nD hD
        have nlD : l ≠ D := (ne_of_none hD fl).symm
        have nlh : l ≠ lh := (ne_of_none hlh4 fl).symm
        refine hk _ _ _ hD5 (by unfold refs; rw [List.length_map]; exact small1000 (by omega)) ?_
        have k6 : ∀ b o, b ≠ D → H5 b = some o → upd H5 D (.lst (refs os ++ [V.ref x])) b = some o := fun b o n e => by rw [upd_ne n]; exact e
        have hD6 : upd H5 D (.lst (refs os ++ [V.ref x])) D = some (.lst (refs (os ++ [(x, m, rows[i].2)]))) := by rw [upd_same, refs_app]; rfl
        generalize upd H5 D (.lst (refs os ++ [V.ref x])) = H6 at k6 hD6 ⊢
        refine ⟨fun b o e => k6 _ _ (fun z => by rw [z, fD] at e; cases e) (k5 _ _ (fun z => by rw [z, hlh] at e; cases e) (s4 _ _ e)), os ++ [(x, m, rows[i].2)], hs ++ [l], by rw [List.length_append, ol]; rfl, by rw [List.length_append, hl]; rfl, ?_, fD, hD6, ?_, nD, fun h hh => ?_, fun o ho => ?_⟩
        · rw [List.map_append, oe, List.take_succ, List.getElem?_eq_getElem hi, List.map_append]
          rfl
        · rw [List.map_append]
          exact k6 _ _ nD.symm hlh5
        · rcases List.mem_append.mp hh with z | z
          · obtain ⟨zs, e1, e2, e3, e4, e5⟩ := hhs h z
            exact ⟨zs, k6 _ _ e4 (k5 _ _ e5 e1), e2, e3, e4, e5⟩
          · rw [List.mem_singleton] at z
            rw [z]
            exact ⟨ys, k6 _ _ nlD hl5, yl, s4.free fl, nlD, nlh⟩
        · rcases List.mem_append.mp ho with z | z
          · obtain ⟨e1, e2⟩ := hos o z
            refine ⟨e1, fun H'' kp => e2 H'' fun b u eb n1 n2 n3 => kp b u (k6 _ _ n3 (k5 _ _ n1 eb)) n1 (fun y => ?_) n3⟩
            rcases List.mem_append.mp y with y | y
            · exact n2 y
            · rw [List.mem_singleton] at y
              rw [y, fl] at eb
              cases eb
          · rw [List.mem_singleton] at z
            rw [z]
            refine ⟨rfl, fun H'' kp => ob H'' fun b hb u eb => ?_⟩
            obtain ⟨n1, n2, n3⟩ := hF b hb
            have nb : b ≠ D := fun y => by
              rcases n3 with n3 | ⟨us, n3⟩ <;> rw [y, hD] at n3 <;> cases n3
            refine kp b u (k6 _ _ nb eb) n1 (fun y => ?_) nb
            rcases List.mem_append.mp y with y | y
            · obtain ⟨zs, e1, _⟩ := hhs b y
              rcases n3 with n3 | ⟨us, n3⟩ <;> rw [e1] at n3 <;> cases n3
            · rw [List.mem_singleton] at y
              exact n2 y
    rw [rrl] at hp
    obtain ⟨s4, os, hs, ol, hl, oe, fD, hlo4, hlh4, nD, hhs, hos⟩ := hp
    have due : dueL m rows = tabC m os := by
      refine congrArg (fun f => (List.range (2 ^ m)).map f) (funext fun g => ?_)
      show (rows.map fun r => r.2 g).sum = (os.map fun o => o.2.2 g).sum
      rw [List.take_length] at oe
      have z := congrArg (fun l : List (Nat → Int) => (l.map fun e => e g).sum) oe
      simp only [List.map_map] at z
      exact z.symm
    rw [due] at hd2
    have om : ∀ o ∈ os, o.2.1 = m := fun o ho => (hos o ho).1
    have ro4 : RusAt P w K mg base fE fH RU H4 os := fun o ho => by
      rw [om o ho]
      exact (hos o ho).2 H4 fun b u e _ _ _ => e
    -- given, company
    refine ⟨_, rfl, lo, _, rfl, .inl (SqL.of hlo4), fun lg hlg => ?_⟩
    have w5 := Same.upd_new (o := .lst (refs os)) hlg
    have hg5 : upd H4 lg (.lst (refs os)) lg = some (.lst (refs os)) := upd_same
    generalize upd H4 lg (.lst (refs os)) = H5 at w5 hg5 ⊢
    refine ⟨_, rfl, _, rfl, fun c dc hc hdc ne => mk_comp hc hdc ne hg5 (by omega) (ro4.same w5) om m1 m6 fun lc H6 hlc s6 hc6 hlc6 => ⟨rfl, ?_⟩⟩
    -- others
    have u4 := u2.trans s4
    refine ⟨_, rfl, (m : Int), rfl, by omega, by omega, ?_⟩
    refine comp_rngR (n := m) (fun _ y _ => ∃ n : Int, y = .int n) (fun i y G G' _ h => h) (Nat.le_of_lt (small1000 (by omega))) (fun i H7 kk kk0 s7 hi h1 => ?_) fun lt ys H7 hlt s7 hy hR ht7 => ?_
    · exact ⟨_, rfl, _, rfl, _, _, rfl, rfl, a, ns, 3 + i, (by show [V.ref a, V.int (3 + (0 + (i : Int)))] = _; rw [Int.zero_add]; push_cast; rfl), ((u4.trans w5).trans (s6.trans s7)).seq hq, by omega, fun c => ⟨_, _, rfl, rfl, (by show (0 : Int) < 1000; decide), h1 _ _ (.refl _) ⟨_, rfl⟩⟩⟩
    obtain ⟨ts, rfl, tl⟩ := ints_of hR
    rw [hy] at tl
    have s57 := s6.trans s7
    -- second
    refine ⟨_, rfl, _, rfl, lt, _, rfl, .inl (SqL.of ht7), fun l8 hl8 => ?_⟩
    have w8 := Same.upd_new (o := .lst (ts.map V.int)) hl8
    have h88 : upd H7 l8 (.lst (ts.map V.int)) l8 = some (.lst (ts.map V.int)) := upd_same
    generalize upd H7 l8 (.lst (ts.map V.int)) = H8 at w8 h88 ⊢
    refine fun x1 dx1 hx1 hdx1 ne1 => mk_own hx1 hdx1 ne1 h88 (by omega) (by omega) fun l9 H9 hl9 s9 hx9 hl9' => ⟨rfl, _, rfl, fun x2 dx2 hx2 hdx2 ne2 => mk_rule T.rRU.oc T.rRU.nm hx2 hdx2 ne2 m1 m6 fun H10 s10 hx10 => ⟨rfl, by show 2 ≤ sizeLine; decide, fun l11 hl11 => ?_⟩⟩
    obtain ⟨o2, ho2⟩ : ∃ o2 : List Ru, [(x1, m, sumH ts), (x2, m, fun _ => 0)] = o2 := ⟨_, rfl⟩
    have er2 : [V.ref x1, V.ref x2] = refs o2 := by rw [← ho2]; rfl
    have w11 := Same.upd_new (o := .lst [V.ref x1, V.ref x2]) hl11
    have h11 : upd H10 l11 (.lst [V.ref x1, V.ref x2]) l11 = some (.lst (refs o2)) := by rw [upd_same, er2]
    have om2 : ∀ o ∈ o2, o.2.1 = m := by
      rw [← ho2]
      intro o ho
      simp only [List.mem_cons, List.not_mem_nil, or_false] at ho
      rcases ho with rfl | rfl <;> rfl
    have ro2 : RusAt P w K mg base fE fH RU (upd H10 l11 (.lst [V.ref x1, V.ref x2])) o2 := by
      rw [← ho2]
      intro o ho
      simp only [List.mem_cons, List.not_mem_nil, or_false] at ho
      rcases ho with rfl | rfl
      · have z := own_obj D_OR T.rOW (((s10.trans w11)) _ _ hx9) ((s10.trans w11) _ _ hl9') (by omega) (by omega)
        rw [tl] at z
        exact z
      · exact rule_obj D_RR T.rRU (w11 _ _ hx10) m1 m6
    generalize upd H10 l11 (.lst [V.ref x1, V.ref x2]) = H11 at w11 h11 ro2 ⊢
    refine fun c2 dc2 hc2 hdc2 ne2 => mk_comp hc2 hdc2 ne2 h11 (by rw [← ho2]; show 2 ≤ 12; decide) ro2 om2 m1 m6 fun lc2 H12 hlc2 s12 hc12 hlc12 => ⟨rfl, ?_⟩
    have s712 := w8.trans (s9.trans (s10.trans (w11.trans s12)))
    have ht12 := s712 _ _ ht7
    have co2 : CObj P w K mg base fE fH RU CO H12 c2 m o2 := ⟨dc2, lc2, hc12, hlc12, by rw [← ho2]; show 2 ≤ 12; decide, m1, m6, ro2.same s12, om2⟩
    have s512 := s57.trans s712
    clear s9 hx9 hl9' s10 hx10 w11 h11 ro2 s12 hc12 hlc12 w8 h88 hl8 hx1 hdx1 hx2 hdx2 hl11 hc2 hdc2
    -- sums
    refine ⟨_, rfl, _, _, rfl, rfl, ⟨by omega, by omega, by decide⟩, ((2 ^ m : Nat) : Int), (by show [V.int ((1 : Int) * 2 ^ (m : Int).toNat)] = _; rw [sh]), by omega, by omega, ?_⟩
    refine comp_rng (lo := 0) (n := 2 ^ m) (fun g => some (.int (sumH ts g))) (Nat.le_of_lt (small1000 (by omega))) (fun g H13 kk kk0 s13 hg g1 g2 => ?_) fun lm H13 hlm s13 hm13 => ?_
    · rw [Int.zero_add (g : Int)]
      refine ⟨_, rfl, by show 0 ≤ sizeLine; decide, fun le hle => ?_⟩
      have v1 := Same.upd_new (o := .lst []) hle
      have e1 : upd H13 le (.lst []) le = some (.lst (([] : List Addr).map V.ref)) := upd_same
      generalize upd H13 le (.lst []) = H14 at v1 e1 ⊢
      refine ⟨by show 3 ≤ sizeLine; decide, fun p hp => ?_⟩
      have v2 := Same.upd_new (o := .tup [V.int 1, V.ref lt, V.ref le]) hp
      have e2 : upd H14 p (.tup [V.int 1, V.ref lt, V.ref le]) p = some (.tup [V.int ((1 : Nat) : Int), V.ref lt, V.ref le]) := upd_same
      generalize upd H14 p (.tup [V.int 1, V.ref lt, V.ref le]) = H15 at v2 e2 ⊢
      refine ⟨_, rfl, p, m, g, sumH ts, rfl, ⟨1, lt, le, ts, [], e2, (v1.trans v2) _ _ (s13 _ _ ht12), v2 _ _ e1, ⟨(fun b hb => by cases hb), List.nodup_nil, by decide⟩, by omega, .inr (.inl ⟨rfl, tl, fun _ => rfl⟩)⟩, m1, m6, hg, fun H16 s16 => g1 _ rfl _ (v1.trans (v2.trans s16))⟩
    have es : (List.range (2 ^ m)).filterMap (fun g => some (V.int (sumH ts g))) = (tabC m o2).map V.int := by
      unfold tabC
      rw [List.map_map, ← List.filterMap_eq_map, ← ho2]
      refine fm_congr fun g _ => congrArg (fun z => some (V.int z)) ?_
      show sumH ts g = sumH ts g + (0 + 0)
      omega
    rw [es] at hm13
    clear es
    have co1 : CObj P w K mg base fE fH RU CO H13 c m os := ⟨dc, lc, (s7.trans (s712.trans s13)) _ _ hc6, (s7.trans (s712.trans s13)) _ _ hlc6, by omega, m1, m6, ro4.same (w5.trans (s512.trans s13)), om⟩
    have co2 := co2.same s13
    have s513 := s512.trans s13
    have s413 := w5.trans s513
    have er : refs os = (os.map fun o => o.1).map V.ref := by unfold refs; rw [List.map_map]; rfl
    have s713 := s712.trans s13
    have hc13 := (s7.trans s713) _ _ hc6
    have hlc13 := (s7.trans s713) _ _ hlc6
    refine ⟨_, rfl, .ref c, .ref RU, _, _, _, rfl, rfl, T.rCO.oc.ty hc13, T.rCO.noR, _, rfl, iteF ?_⟩
    refine ⟨_, rfl, _, rfl, lg, lo, _, rfl, rfl, (by rw [← er]; exact SqL.of (s513 _ _ hg5)), (by rw [← er]; exact SqL.of (s413 _ _ hlo4)), _, rfl, iteF ?_⟩
    refine ⟨_, rfl, _, rfl, c, ld, m, os, rfl, co1, (s4.trans s413) _ _ hd2, fun H14 s14 => ⟨_, rfl, iteF ?_⟩⟩
    refine ⟨_, rfl, _, rfl, c2, lm, m, o2, rfl, co2.same s14, s14 _ _ hm13, fun H15 s15 => ⟨_, rfl, iteF ?_⟩⟩
    have s515 := s513.trans (s14.trans s15)
    have s415 := w5.trans s515
    have hc15 := (s14.trans s15) _ _ hc13
    have hlc15 := (s14.trans s15) _ _ hlc13
    have co15 := co1.same (s14.trans s15)
    clear co1 co2 s14 s15 hm13 s13 s712 s513 s413 hc13 hlc13 s512 s713 s57 s7 ht12 ht7
    -- first
    refine ⟨_, rfl, c, CO, dc, _, cT, _, rfl, hc15, rfl, T.rCO.oc.cl, T.rCO.mt, ⟨_, D_CT⟩, c, m, os, rfl, co15, fun lf H16 hlf s16 hf16 => ?_⟩
    have tl16 := tabC_len m os
    refine ⟨_, rfl, .inl ⟨rfl, _, SqL.of hf16⟩, lf, _, _, rfl, rfl, hf16, by rw [List.length_map, tl16]; exact small1000 (by omega), ?_⟩
    have u17 := s16.upd_ne' (o := .lst ((tabC m os).map V.int ++ [V.int 1])) hlf
    have hf17 : upd H16 lf (.lst ((tabC m os).map V.int ++ [V.int 1])) lf = some (.lst ((tabC m os ++ [1]).map V.int)) := by rw [upd_same, List.map_append]; rfl
    generalize upd H16 lf (.lst ((tabC m os).map V.int ++ [V.int 1])) = H17 at u17 hf17 ⊢
    -- clear
    have s417 := s415.trans u17
    have hg17 := (s515.trans u17) _ _ hg5
    have nhs : ∀ b, H4 b = none → b ∉ hs := fun b e z => by
      obtain ⟨ys, e1, _⟩ := hhs b z
      rw [e1] at e
      cases e
    have ng : ∀ b u, H4 b = some u → b ≠ lg := fun b u e z => by
      rw [z, hlg] at e
      cases e
    have nlh : lh ∉ hs := fun z => by
      obtain ⟨ys, _, _, _, _, e⟩ := hhs lh z
      exact e rfl
    refine ⟨_, rfl, .inl ⟨rfl, _, SqL.of hg17⟩, lg, _, rfl, rfl, hg17, ?_⟩
    have k18 : ∀ b u, H17 b = some u → b ≠ lg → upd H17 lg (.lst []) b = some u := fun b u e n => by rw [upd_ne n]; exact e
    generalize upd H17 lg (.lst []) = H18 at k18 ⊢
    have hlh18 := k18 _ _ (s417 _ _ hlh4) (ng _ _ hlh4)
    refine ⟨_, rfl, lh, rfl, ⟨_, SqL.of hlh18⟩, ?_⟩
    refine for_list (xs := hs.map V.ref) (fun i σ' H' => (∀ b u, H17 b = some u → b ≠ lg → b ∉ hs → H' b = some u) ∧ (∀ h ∈ hs, ∃ ys : List V, H' h = some (.lst ys)) ∧ ∃ o12 : Option V, σ' = [some (.ref a), some (.int (m : Int)), some (.ref lS), some (.ref ld), some (.ref lh), some (.ref lo), some (.ref lg), some (.ref c), some (.ref lt), some (.ref c2), some (.ref lm), some (.ref lf), o12, none]) ⟨fun b u e n _ => k18 _ _ e n, fun h hh => ?_, _, rfl⟩ ?_ ?_ ?_
    · obtain ⟨ys, e, _⟩ := hhs h hh
      exact ⟨ys, k18 _ _ (s417 _ _ e) (ng _ _ e)⟩
    · rintro i σ' H' _ ⟨kp, _⟩
      exact SqL.of (kp _ _ (s417 _ _ hlh4) (ng _ _ hlh4) nlh)
    · rintro i x σ' H' hx ⟨kp, kh, o12, rfl⟩
      obtain ⟨h, hh, rfl⟩ := List.mem_map.mp (List.mem_of_getElem? hx)
      obtain ⟨ys, e⟩ := kh h hh
      refine ⟨_, rfl, .inl ⟨rfl, _, SqL.of e⟩, h, _, rfl, rfl, e, fun b u e1 n1 n2 => ?_, fun h' hh' => ?_, _, rfl⟩
      · rw [upd_ne fun z => n2 (by rw [z]; exact hh)]
        exact kp b u e1 n1 n2
      · by_cases z : h' = h
        · rw [z]
          exact ⟨[], upd_same⟩
        · rw [upd_ne z]
          exact kh h' hh'
    rintro σ' H19 ⟨kp, _, o12, rfl⟩
    have s219 : Same H2 H19 := fun b u e => kp b u (s417 _ _ (s4 _ _ e)) (ng _ _ (s4 _ _ e)) fun z => by
      obtain ⟨ys, _, _, e1, _⟩ := hhs b z
      rw [e1] at e
      cases e
    have new : ∀ b u, H5 b = none → H17 b = some u → H19 b = some u := fun b u e e1 => kp b u e1 (fun z => by rw [z, hg5] at e; cases e) (nhs b (w5.free e))
    have hlo19 := kp _ _ (s417 _ _ hlo4) (ng _ _ hlo4) fun z => by
      obtain ⟨ys, _, _, _, e, _⟩ := hhs lo z
      exact e rfl
    have ro19 : RusAt P w K mg base fE fH RU H19 os := fun o ho => by
      rw [om o ho]
      exact (hos o ho).2 H19 fun b u e _ n _ => kp b u (s417 _ _ e) (ng _ _ e) n
    have co19 : CObj P w K mg base fE fH RU CO H19 c m os := ⟨dc, lc, new _ _ hc (u17 _ _ hc15), new _ _ hlc (u17 _ _ hlc15), by omega, m1, m6, ro19, om⟩
    have hf19 := new _ _ (s515.free hlf) hf17
    have hd19 := s219 _ _ hd2
    have hq19 := (u2.trans s219).seq hq
    clear new s219 kp k18 hlh18 hg17 s417 u17 hf17 ro4 s415 hc15 hlc15 co15 hlf s16 hf16 s515
    -- refusals
    refine ⟨_, rfl, _, rfl, _, rfl, _, rfl, a, c, lo, ns, m, os, rfl, hq19, co19, hlo19, fun H20 s20 => ⟨_, rfl, iteF ?_⟩⟩
    have hlo20 := s20 _ _ hlo19
    -- more
    refine ⟨_, rfl, _, rfl, fun x dx' hx hd ne => mk_rule T.rRU.oc T.rRU.nm hx hd ne m1 m6 fun H21 s21 hx21 => ⟨rfl, by show 1 ≤ sizeLine; decide, fun l1 hl1 => ?_⟩⟩
    have w22 := Same.upd_new (o := .lst [V.ref x]) hl1
    have h122 : upd H21 l1 (.lst [V.ref x]) l1 = some (.lst [V.ref x]) := upd_same
    generalize upd H21 l1 (.lst [V.ref x]) = H22 at w22 h122 ⊢
    have rl : (refs os).length = os.length := by unfold refs; rw [List.length_map]
    obtain ⟨n, hn, hn12⟩ : ∃ n : Nat, (12 : Int) - ((refs os).length : Int) = (n : Int) ∧ os.length + n = 12 := ⟨12 - os.length, by rw [rl]; omega, by omega⟩
    refine ⟨_, rfl, lo, _, rfl, .inl (SqL.of ((s21.trans w22) _ _ hlo20)), _, _, rfl, rfl, ?_⟩
    show rRep (V.ref l1) (V.int ((12 : Int) - ((refs os).length : Int))) _ _
    rw [hn]
    refine ⟨l1, (n : Int), [.ref x], rfl, rfl, h122, by omega, by omega, (by show 1 * ((n : Nat) : Int).toNat ≤ sizeLine; rw [Nat.one_mul]; exact Nat.le_of_lt (small1000 (by omega))), fun l2 hl2 => ?_⟩
    rw [refs_rep n (x, m, fun _ => 0)]
    obtain ⟨o3, ho3⟩ : ∃ o3 : List Ru, os ++ List.replicate n ((x, m, fun _ => 0) : Ru) = o3 := ⟨_, rfl⟩
    have w23 := Same.upd_new (o := .lst (refs (List.replicate n ((x, m, fun _ => 0) : Ru)))) hl2
    have h223 : upd H22 l2 (.lst (refs (List.replicate n ((x, m, fun _ => 0) : Ru)))) l2 = some (.lst (refs (List.replicate n ((x, m, fun _ => 0) : Ru)))) := upd_same
    generalize upd H22 l2 (.lst (refs (List.replicate n ((x, m, fun _ => 0) : Ru)))) = H23 at w23 h223 ⊢
    have s2023 := s21.trans (w22.trans w23)
    refine ⟨lo, l2, _, _, rfl, rfl, SqL.of (s2023 _ _ hlo20), SqL.of h223, (by unfold refs; rw [List.length_map, List.length_map, List.length_replicate]; exact Nat.le_of_lt (small1000 (by omega))), fun l3 hl3 => ?_⟩
    rw [← refs_app, ho3]
    have w24 := Same.upd_new (o := .lst (refs o3)) hl3
    have h324 : upd H23 l3 (.lst (refs o3)) l3 = some (.lst (refs o3)) := upd_same
    generalize upd H23 l3 (.lst (refs o3)) = H24 at w24 h324 ⊢
    have s1924 := s20.trans (s2023.trans w24)
    have l3o : o3.length = 12 := by rw [← ho3, List.length_append, List.length_replicate]; exact hn12
    have om3 : ∀ o ∈ o3, o.2.1 = m := fun o ho' => by
      rw [← ho3] at ho'
      rcases List.mem_append.mp ho' with q | q
      · exact om o q
      · rw [(List.mem_replicate.mp q).2]
    have ro3 : RusAt P w K mg base fE fH RU H24 o3 := fun o ho' => by
      rw [← ho3] at ho'
      rcases List.mem_append.mp ho' with q | q
      · exact (ro19 o q).same s1924
      · rw [(List.mem_replicate.mp q).2]
        exact rule_obj D_RR T.rRU ((w22.trans (w23.trans w24)) _ _ hx21) m1 m6
    have tab3 : tabC m o3 = tabC m os := by
      refine congrArg (fun f => (List.range (2 ^ m)).map f) (funext fun g => ?_)
      unfold earnC
      rw [← ho3, List.map_append, List.sum_append, List.map_replicate]
      have z : ∀ n : Nat, (List.replicate n (0 : Int)).sum = 0 := fun n => by
        induction n with
        | zero => rfl
        | succ j ih => rw [List.replicate_succ, List.sum_cons, ih]; rfl
      show _ + (List.replicate n (0 : Int)).sum = _
      rw [z]
      omega
    dsimp only [gName]
    refine if_joinS (fun σ2 H25 => Same H24 H25 ∧ σ2 = [some (.ref a), some (.int (m : Int)), some (.ref lS), some (.ref ld), some (.ref lh), some (.ref lo), some (.ref lg), some (.ref c), some (.ref lt), some (.ref c2), some (.ref lm), some (.ref lf), o12, some (.ref l3)]) ?_ fun tail => ?_
    · rintro σ2 H25 ⟨s25, rfl⟩
      have s1925 := s1924.trans s25
      refine ⟨_, rfl, _, rfl, c, ld, m, os, rfl, co19.same s1925, s1925 _ _ hd19, fun H26 s26 => ⟨_, rfl, iteT ⟨_, rfl, _, rfl, by show 1 ≤ sizeLine; decide, fun l4 hl4 => ?_⟩⟩⟩
      have s1926 := s1925.trans s26
      have w27 := Same.upd_new (o := .lst [V.int 1]) hl4
      have h427 : upd H26 l4 (.lst [V.int 1]) l4 = some (.lst [V.int 1]) := upd_same
      generalize upd H26 l4 (.lst [V.int 1]) = H27 at w27 h427 ⊢
      refine ⟨ld, l4, _, _, rfl, rfl, SqL.of ((s1926.trans w27) _ _ hd19), SqL.of h427, (by rw [List.length_map, tl16]; exact Nat.le_of_lt (small1000 (by show _ + 1 ≤ _; omega))), fun l5 hl5 => ?_⟩
      have e1 : (tabC m os).map V.int ++ [V.int 1] = (tabC m os ++ [1]).map V.int := by rw [List.map_append]; rfl
      rw [e1]
      have w28 := Same.upd_new (o := .lst ((tabC m os ++ [1]).map V.int)) hl5
      refine ⟨lf, l5, tabC m os ++ [1], tabC m os ++ [1], rfl, rfl, SqL.of (((s1926.trans w27).trans w28) _ _ hf19), SqL.of upd_same, ?_⟩
      rw [decide_eq_true rfl]
      exact k _
    · refine ⟨_, rfl, _, _, rfl, rfl, _, rfl, ite2 (fun _ => ?_) (fun _ => iteF (tail _ _ ⟨.refl _, rfl⟩))⟩
      refine ⟨_, rfl, _, rfl, fun c3 dc3 hc3 hdc3 ne3 => mk_comp hc3 hdc3 ne3 h324 (by omega) ro3 om3 m1 m6 fun lc3 H25 hlc3 s25 hc25 hlc25 => ⟨rfl, _, rfl, ?_⟩⟩
      exact ⟨c3, ld, m, o3, rfl, ⟨dc3, lc3, hc25, hlc25, by omega, m1, m6, ro3.same s25, om3⟩, (by rw [tab3]; exact (s1924.trans s25) _ _ hd19), fun H26 s26 => ⟨_, rfl, iteF (tail _ _ ⟨s25.trans s26, rfl⟩)⟩⟩
end
end K12

def PySem.W.Fast.tw8995654271212599241 : Unit := ()
def PySem.W.Fast.tw15077679397585601834 : Unit := ()
def PySem.W.Fast.tw6409671793406839981 : Unit := ()
def PySem.W.Fast.tw8580331157992875104 : Unit := ()
def PySem.W.Fast.tw501482708173024565 : Unit := ()
def PySem.W.Fast.tw4079814306175464352 : Unit := ()
def PySem.W.Fast.tw17134182315221704273 : Unit := ()
def PySem.W.Fast.tw8846483983887601178 : Unit := ()
def PySem.W.Fast.tw10889813409155677367 : Unit := ()
def PySem.W.Fast.tw8969829032152372559 : Unit := ()
def PySem.W.Fast.tw5724118335430485724 : Unit := ()
def PySem.W.Fast.tw15914593963828518976 : Unit := ()
def PySem.W.Fast.tw14335153004945769360 : Unit := ()
def PySem.W.Fast.tw11512313294737946410 : Unit := ()
def PySem.W.Fast.tw18055689758385742054 : Unit := ()
def PySem.W.Fast.tw16066560284290917613 : Unit := ()
def PySem.W.Fast.tw1677357490376657262 : Unit := ()
def PySem.W.Fast.tw9005558449206750523 : Unit := ()
def PySem.W.Fast.tw17999233945844804372 : Unit := ()
def PySem.W.Fast.tw10224511170541991988 : Unit := ()
def PySem.W.Fast.tw14378978609212168294 : Unit := ()
def PySem.W.Fast.tw50564787156549865 : Unit := ()
set_option Elab.async false
set_option linter.all false
set_option maxRecDepth 100000
set_option maxHeartbeats 8000000
namespace K12
open PySem L2
/-! ### the head -/
theorem T_mk {K : PySem.W.Frag} {mg : Str → Option Value} {h : Heap} {AL LN RU OW PL PA VO CO fE fH rR rO rP rA rV iR iO iP iA iV iC cH cE cT SE NG NN NO NR NL NS NT NX NV TM UL : Addr}  {n_AL : Nat} {osl_AL : Array (Option Value)} {t_AL0 t_AL1 t_AL2 t_AL3 t_AL4 t_AL5 : Tok}  {n_LN : Nat} {osl_LN : Array (Option Value)} {t_LN0 t_LN1 t_LN2 t_LN3 t_LN4 t_LN5 t_LN6 : Tok}  {tk_mr : Tok}                         {oc_RI kV_RI doc_RI pm_RI cdv_RI ct_RI : Value} {od_RI an_RI : Option Addr} {osl_RI : Array (Option Value)} {oc_H kV_H doc_H pm_H cdv_H ct_H : Value} {od_H an_H : Option Addr} {osl_H : Array (Option Value)} {oc_E kV_E doc_E pm_E cdv_E ct_E : Value} {od_E an_E : Option Addr} {osl_E : Array (Option Value)} {oc_RR kV_RR doc_RR pm_RR cdv_RR ct_RR : Value} {od_RR an_RR : Option Addr} {osl_RR : Array (Option Value)} {oc_OI kV_OI doc_OI pm_OI cdv_OI ct_OI : Value} {od_OI an_OI : Option Addr} {osl_OI : Array (Option Value)} {oc_OR kV_OR doc_OR pm_OR cdv_OR ct_OR : Value} {od_OR an_OR : Option Addr} {osl_OR : Array (Option Value)} {oc_PI kV_PI doc_PI pm_PI cdv_PI ct_PI : Value} {od_PI an_PI : Option Addr} {osl_PI : Array (Option Value)} {oc_PR kV_PR doc_PR pm_PR cdv_PR ct_PR : Value} {od_PR an_PR : Option Addr} {osl_PR : Array (Option Value)} {oc_PaI kV_PaI doc_PaI pm_PaI cdv_PaI ct_PaI : Value} {od_PaI an_PaI : Option Addr} {osl_PaI : Array (Option Value)} {oc_PaR kV_PaR doc_PaR pm_PaR cdv_PaR ct_PaR : Value} {od_PaR an_PaR : Option Addr} {osl_PaR : Array (Option Value)} {oc_VI kV_VI doc_VI pm_VI cdv_VI ct_VI : Value} {od_VI an_VI : Option Addr} {osl_VI : Array (Option Value)} {oc_VR kV_VR doc_VR pm_VR cdv_VR ct_VR : Value} {od_VR an_VR : Option Addr} {osl_VR : Array (Option Value)} {oc_CI kV_CI doc_CI pm_CI cdv_CI ct_CI : Value} {od_CI an_CI : Option Addr} {osl_CI : Array (Option Value)} {oc_CHs kV_CHs doc_CHs pm_CHs cdv_CHs ct_CHs : Value} {od_CHs an_CHs : Option Addr} {osl_CHs : Array (Option Value)} {oc_CEn kV_CEn doc_CEn pm_CEn cdv_CEn ct_CEn : Value} {od_CEn an_CEn : Option Addr} {osl_CEn : Array (Option Value)} {oc_CTb kV_CTb doc_CTb pm_CTb cdv_CTb ct_CTb : Value} {od_CTb an_CTb : Option Addr} {osl_CTb : Array (Option Value)}  (X : K.In h) (G : h.Ns mainGlobals mg)
    (b_isi : PySem.W.nsIn K mainGlobals "isinstance" = some none)
    (b_int : PySem.W.nsIn K mainGlobals "int" = some none)
    (b_bool : PySem.W.nsIn K mainGlobals "bool" = some none)
    (b_range : PySem.W.nsIn K mainGlobals "range" = some none)
    (b_len : PySem.W.nsIn K mainGlobals "len" = some none)
    (b_list : PySem.W.nsIn K mainGlobals "list" = some none)
    (b_ve : PySem.W.nsIn K mainGlobals "ValueError" = some none)
    (b_sum : PySem.W.nsIn K mainGlobals "sum" = some none)
    (b_all : PySem.W.nsIn K mainGlobals "all" = some none)
    (b_any : PySem.W.nsIn K mainGlobals "any" = some none)
    (b_sorted : PySem.W.nsIn K mainGlobals "sorted" = some none)
    (b_tuple : PySem.W.nsIn K mainGlobals "tuple" = some none)
    (b_max : PySem.W.nsIn K mainGlobals "max" = some none)
    (b_min : PySem.W.nsIn K mainGlobals "min" = some none)
    (b_abs : PySem.W.nsIn K mainGlobals "abs" = some none)
    (b_enum : PySem.W.nsIn K mainGlobals "enumerate" = some none)
    (mAL : PySem.W.nsIn K mainGlobals "ALONE" = some (some (.ref AL)))
    (lkAL : K.lookup AL = some ⟨.type "tuple", none, .seq #[.int 1 t_AL0, .int 2 t_AL1, .int 4 t_AL2, .int 8 t_AL3, .int 16 t_AL4, .int 32 t_AL5] n_AL, osl_AL⟩)
    (mLN : PySem.W.nsIn K mainGlobals "LENGTHS" = some (some (.ref LN)))
    (lkLN : K.lookup LN = some ⟨.type "tuple", none, .seq #[.int 1 t_LN0, .int 2 t_LN1, .int 4 t_LN2, .int 8 t_LN3, .int 16 t_LN4, .int 32 t_LN5, .int 64 t_LN6] n_LN, osl_LN⟩)
    (mr : PySem.W.nsIn K mainGlobals "MOST_RULES" = some (some (.int 12 tk_mr)))
    (mRU : PySem.W.nsIn K mainGlobals "Rule" = some (some (.ref RU)))
    (pgRU : PySem.W.plainGet K RU Str.empty = true)
    (hdRU : PySem.W.hasDictIn K RU = true)
    (poRU : PySem.W.plainOver K RU = true)
    (saRU : PySem.W.findIn K (.ref RU) "__setattr__" = some (some (.builtin "object.__setattr__")))
    (caRU : PySem.W.findIn K (.ref RU) "__class__" = some (some (.builtin "object.__class__")))
    (moRU : PySem.W.mroIn K RU (.type "object") = some true)
    (nmRU : PySem.W.findIn K (.ref RU) "many" = some none)
    (feRU : PySem.W.findIn K (.ref RU) "earn" = some (some (.ref fE)))
    (fhRU : PySem.W.findIn K (.ref RU) "hands" = some (some (.ref fH)))
    (frRU : PySem.W.findIn K (.ref RU) "reckon" = some (some (.ref rR)))
    (irRU : PySem.W.kitOne K (.ref RU) (.ref RU) = some true)
    (mkRU : PySem.W.makesIn K RU = true)
    (fiRU : PySem.W.findIn K (.ref RU) "__init__" = some (some (.ref iR)))
    (kkRU : PySem.W.keepIn K (.ref RU) = true)
    (mOW : PySem.W.nsIn K mainGlobals "Own" = some (some (.ref OW)))
    (pgOW : PySem.W.plainGet K OW Str.empty = true)
    (hdOW : PySem.W.hasDictIn K OW = true)
    (poOW : PySem.W.plainOver K OW = true)
    (saOW : PySem.W.findIn K (.ref OW) "__setattr__" = some (some (.builtin "object.__setattr__")))
    (caOW : PySem.W.findIn K (.ref OW) "__class__" = some (some (.builtin "object.__class__")))
    (moOW : PySem.W.mroIn K OW (.type "object") = some true)
    (nmOW : PySem.W.findIn K (.ref OW) "many" = some none)
    (feOW : PySem.W.findIn K (.ref OW) "earn" = some (some (.ref fE)))
    (fhOW : PySem.W.findIn K (.ref OW) "hands" = some (some (.ref fH)))
    (frOW : PySem.W.findIn K (.ref OW) "reckon" = some (some (.ref rO)))
    (irOW : PySem.W.kitOne K (.ref OW) (.ref RU) = some true)
    (mkOW : PySem.W.makesIn K OW = true)
    (fiOW : PySem.W.findIn K (.ref OW) "__init__" = some (some (.ref iO)))
    (kkOW : PySem.W.keepIn K (.ref OW) = true)
    (nf0OW : PySem.W.findIn K (.ref OW) "numbers" = some none)
    (mPL : PySem.W.nsIn K mainGlobals "Plain" = some (some (.ref PL)))
    (pgPL : PySem.W.plainGet K PL Str.empty = true)
    (hdPL : PySem.W.hasDictIn K PL = true)
    (poPL : PySem.W.plainOver K PL = true)
    (saPL : PySem.W.findIn K (.ref PL) "__setattr__" = some (some (.builtin "object.__setattr__")))
    (caPL : PySem.W.findIn K (.ref PL) "__class__" = some (some (.builtin "object.__class__")))
    (moPL : PySem.W.mroIn K PL (.type "object") = some true)
    (nmPL : PySem.W.findIn K (.ref PL) "many" = some none)
    (fePL : PySem.W.findIn K (.ref PL) "earn" = some (some (.ref fE)))
    (fhPL : PySem.W.findIn K (.ref PL) "hands" = some (some (.ref fH)))
    (frPL : PySem.W.findIn K (.ref PL) "reckon" = some (some (.ref rP)))
    (irPL : PySem.W.kitOne K (.ref PL) (.ref RU) = some true)
    (mkPL : PySem.W.makesIn K PL = true)
    (fiPL : PySem.W.findIn K (.ref PL) "__init__" = some (some (.ref iP)))
    (kkPL : PySem.W.keepIn K (.ref PL) = true)
    (nf0PL : PySem.W.findIn K (.ref PL) "earnings" = some none)
    (mPA : PySem.W.nsIn K mainGlobals "Pairs" = some (some (.ref PA)))
    (pgPA : PySem.W.plainGet K PA Str.empty = true)
    (hdPA : PySem.W.hasDictIn K PA = true)
    (poPA : PySem.W.plainOver K PA = true)
    (saPA : PySem.W.findIn K (.ref PA) "__setattr__" = some (some (.builtin "object.__setattr__")))
    (caPA : PySem.W.findIn K (.ref PA) "__class__" = some (some (.builtin "object.__class__")))
    (moPA : PySem.W.mroIn K PA (.type "object") = some true)
    (nmPA : PySem.W.findIn K (.ref PA) "many" = some none)
    (fePA : PySem.W.findIn K (.ref PA) "earn" = some (some (.ref fE)))
    (fhPA : PySem.W.findIn K (.ref PA) "hands" = some (some (.ref fH)))
    (frPA : PySem.W.findIn K (.ref PA) "reckon" = some (some (.ref rA)))
    (irPA : PySem.W.kitOne K (.ref PA) (.ref RU) = some true)
    (mkPA : PySem.W.makesIn K PA = true)
    (fiPA : PySem.W.findIn K (.ref PA) "__init__" = some (some (.ref iA)))
    (kkPA : PySem.W.keepIn K (.ref PA) = true)
    (nf0PA : PySem.W.findIn K (.ref PA) "pairs" = some none)
    (mVO : PySem.W.nsIn K mainGlobals "Votes" = some (some (.ref VO)))
    (pgVO : PySem.W.plainGet K VO Str.empty = true)
    (hdVO : PySem.W.hasDictIn K VO = true)
    (poVO : PySem.W.plainOver K VO = true)
    (saVO : PySem.W.findIn K (.ref VO) "__setattr__" = some (some (.builtin "object.__setattr__")))
    (caVO : PySem.W.findIn K (.ref VO) "__class__" = some (some (.builtin "object.__class__")))
    (moVO : PySem.W.mroIn K VO (.type "object") = some true)
    (nmVO : PySem.W.findIn K (.ref VO) "many" = some none)
    (feVO : PySem.W.findIn K (.ref VO) "earn" = some (some (.ref fE)))
    (fhVO : PySem.W.findIn K (.ref VO) "hands" = some (some (.ref fH)))
    (frVO : PySem.W.findIn K (.ref VO) "reckon" = some (some (.ref rV)))
    (irVO : PySem.W.kitOne K (.ref VO) (.ref RU) = some true)
    (mkVO : PySem.W.makesIn K VO = true)
    (fiVO : PySem.W.findIn K (.ref VO) "__init__" = some (some (.ref iV)))
    (kkVO : PySem.W.keepIn K (.ref VO) = true)
    (nf0VO : PySem.W.findIn K (.ref VO) "quota" = some none)
    (nf1VO : PySem.W.findIn K (.ref VO) "prize" = some none)
    (nf2VO : PySem.W.findIn K (.ref VO) "weights" = some none)
    (mCO : PySem.W.nsIn K mainGlobals "Company" = some (some (.ref CO)))
    (pgCO : PySem.W.plainGet K CO Str.empty = true)
    (hdCO : PySem.W.hasDictIn K CO = true)
    (poCO : PySem.W.plainOver K CO = true)
    (saCO : PySem.W.findIn K (.ref CO) "__setattr__" = some (some (.builtin "object.__setattr__")))
    (caCO : PySem.W.findIn K (.ref CO) "__class__" = some (some (.builtin "object.__class__")))
    (moCO : PySem.W.mroIn K CO (.type "object") = some true)
    (nmCO : PySem.W.findIn K (.ref CO) "many" = some none)
    (nrCO : PySem.W.findIn K (.ref CO) "rules" = some none)
    (feCO : PySem.W.findIn K (.ref CO) "earn" = some (some (.ref cE)))
    (fhCO : PySem.W.findIn K (.ref CO) "hands" = some (some (.ref cH)))
    (ftCO : PySem.W.findIn K (.ref CO) "table" = some (some (.ref cT)))
    (irCO : PySem.W.kitOne K (.ref CO) (.ref RU) = some false)
    (mkCO : PySem.W.makesIn K CO = true)
    (fiCO : PySem.W.findIn K (.ref CO) "__init__" = some (some (.ref iC)))
    (kkCO : PySem.W.keepIn K (.ref CO) = true)
    (lRI : K.lookup iR = some ⟨oc_RI, od_RI, .func (PySem.W.fnOf "__init__" "Rule.__init__" (defArgs sRI) (defBody sRI) (defScope sRI) .none kV_RI doc_RI pm_RI an_RI cdv_RI ct_RI), osl_RI⟩)
    (cdRI : PySem.W.codeIn K cdv_RI "Rule.__init__" = true)
    (kpRI : PySem.W.keepIn K (.ref iR) = true)
    (fnRI : PySem.W.isFn K (.ref iR) = true)
    (lH : K.lookup fH = some ⟨oc_H, od_H, .func (PySem.W.fnOf "hands" "Rule.hands" (defArgs sHs) (defBody sHs) (defScope sHs) .none kV_H doc_H pm_H an_H cdv_H ct_H), osl_H⟩)
    (cdH : PySem.W.codeIn K cdv_H "Rule.hands" = true)
    (kpH : PySem.W.keepIn K (.ref fH) = true)
    (fnH : PySem.W.isFn K (.ref fH) = true)
    (lE : K.lookup fE = some ⟨oc_E, od_E, .func (PySem.W.fnOf "earn" "Rule.earn" (defArgs sErn) (defBody sErn) (defScope sErn) .none kV_E doc_E pm_E an_E cdv_E ct_E), osl_E⟩)
    (cdE : PySem.W.codeIn K cdv_E "Rule.earn" = true)
    (kpE : PySem.W.keepIn K (.ref fE) = true)
    (fnE : PySem.W.isFn K (.ref fE) = true)
    (lRR : K.lookup rR = some ⟨oc_RR, od_RR, .func (PySem.W.fnOf "reckon" "Rule.reckon" (defArgs sRR) (defBody sRR) (defScope sRR) .none kV_RR doc_RR pm_RR an_RR cdv_RR ct_RR), osl_RR⟩)
    (cdRR : PySem.W.codeIn K cdv_RR "Rule.reckon" = true)
    (kpRR : PySem.W.keepIn K (.ref rR) = true)
    (fnRR : PySem.W.isFn K (.ref rR) = true)
    (lOI : K.lookup iO = some ⟨oc_OI, od_OI, .func (PySem.W.fnOf "__init__" "Own.__init__" (defArgs sOI) (defBody sOI) (defScope sOI) .none kV_OI doc_OI pm_OI an_OI cdv_OI ct_OI), osl_OI⟩)
    (cdOI : PySem.W.codeIn K cdv_OI "Own.__init__" = true)
    (kpOI : PySem.W.keepIn K (.ref iO) = true)
    (fnOI : PySem.W.isFn K (.ref iO) = true)
    (lOR : K.lookup rO = some ⟨oc_OR, od_OR, .func (PySem.W.fnOf "reckon" "Own.reckon" (defArgs sOR) (defBody sOR) (defScope sOR) .none kV_OR doc_OR pm_OR an_OR cdv_OR ct_OR), osl_OR⟩)
    (cdOR : PySem.W.codeIn K cdv_OR "Own.reckon" = true)
    (kpOR : PySem.W.keepIn K (.ref rO) = true)
    (fnOR : PySem.W.isFn K (.ref rO) = true)
    (lPI : K.lookup iP = some ⟨oc_PI, od_PI, .func (PySem.W.fnOf "__init__" "Plain.__init__" (defArgs sPI) (defBody sPI) (defScope sPI) .none kV_PI doc_PI pm_PI an_PI cdv_PI ct_PI), osl_PI⟩)
    (cdPI : PySem.W.codeIn K cdv_PI "Plain.__init__" = true)
    (kpPI : PySem.W.keepIn K (.ref iP) = true)
    (fnPI : PySem.W.isFn K (.ref iP) = true)
    (lPR : K.lookup rP = some ⟨oc_PR, od_PR, .func (PySem.W.fnOf "reckon" "Plain.reckon" (defArgs sPR) (defBody sPR) (defScope sPR) .none kV_PR doc_PR pm_PR an_PR cdv_PR ct_PR), osl_PR⟩)
    (cdPR : PySem.W.codeIn K cdv_PR "Plain.reckon" = true)
    (kpPR : PySem.W.keepIn K (.ref rP) = true)
    (fnPR : PySem.W.isFn K (.ref rP) = true)
    (lPaI : K.lookup iA = some ⟨oc_PaI, od_PaI, .func (PySem.W.fnOf "__init__" "Pairs.__init__" (defArgs sPaI) (defBody sPaI) (defScope sPaI) .none kV_PaI doc_PaI pm_PaI an_PaI cdv_PaI ct_PaI), osl_PaI⟩)
    (cdPaI : PySem.W.codeIn K cdv_PaI "Pairs.__init__" = true)
    (kpPaI : PySem.W.keepIn K (.ref iA) = true)
    (fnPaI : PySem.W.isFn K (.ref iA) = true)
    (lPaR : K.lookup rA = some ⟨oc_PaR, od_PaR, .func (PySem.W.fnOf "reckon" "Pairs.reckon" (defArgs sPaR) (defBody sPaR) (defScope sPaR) .none kV_PaR doc_PaR pm_PaR an_PaR cdv_PaR ct_PaR), osl_PaR⟩)
    (cdPaR : PySem.W.codeIn K cdv_PaR "Pairs.reckon" = true)
    (kpPaR : PySem.W.keepIn K (.ref rA) = true)
    (fnPaR : PySem.W.isFn K (.ref rA) = true)
    (lVI : K.lookup iV = some ⟨oc_VI, od_VI, .func (PySem.W.fnOf "__init__" "Votes.__init__" (defArgs sVI) (defBody sVI) (defScope sVI) .none kV_VI doc_VI pm_VI an_VI cdv_VI ct_VI), osl_VI⟩)
    (cdVI : PySem.W.codeIn K cdv_VI "Votes.__init__" = true)
    (kpVI : PySem.W.keepIn K (.ref iV) = true)
    (fnVI : PySem.W.isFn K (.ref iV) = true)
    (lVR : K.lookup rV = some ⟨oc_VR, od_VR, .func (PySem.W.fnOf "reckon" "Votes.reckon" (defArgs sVR) (defBody sVR) (defScope sVR) .none kV_VR doc_VR pm_VR an_VR cdv_VR ct_VR), osl_VR⟩)
    (cdVR : PySem.W.codeIn K cdv_VR "Votes.reckon" = true)
    (kpVR : PySem.W.keepIn K (.ref rV) = true)
    (fnVR : PySem.W.isFn K (.ref rV) = true)
    (lCI : K.lookup iC = some ⟨oc_CI, od_CI, .func (PySem.W.fnOf "__init__" "Company.__init__" (defArgs sCI) (defBody sCI) (defScope sCI) .none kV_CI doc_CI pm_CI an_CI cdv_CI ct_CI), osl_CI⟩)
    (cdCI : PySem.W.codeIn K cdv_CI "Company.__init__" = true)
    (kpCI : PySem.W.keepIn K (.ref iC) = true)
    (fnCI : PySem.W.isFn K (.ref iC) = true)
    (lCHs : K.lookup cH = some ⟨oc_CHs, od_CHs, .func (PySem.W.fnOf "hands" "Company.hands" (defArgs sCH) (defBody sCH) (defScope sCH) .none kV_CHs doc_CHs pm_CHs an_CHs cdv_CHs ct_CHs), osl_CHs⟩)
    (cdCHs : PySem.W.codeIn K cdv_CHs "Company.hands" = true)
    (kpCHs : PySem.W.keepIn K (.ref cH) = true)
    (fnCHs : PySem.W.isFn K (.ref cH) = true)
    (lCEn : K.lookup cE = some ⟨oc_CEn, od_CEn, .func (PySem.W.fnOf "earn" "Company.earn" (defArgs sCE) (defBody sCE) (defScope sCE) .none kV_CEn doc_CEn pm_CEn an_CEn cdv_CEn ct_CEn), osl_CEn⟩)
    (cdCEn : PySem.W.codeIn K cdv_CEn "Company.earn" = true)
    (kpCEn : PySem.W.keepIn K (.ref cE) = true)
    (fnCEn : PySem.W.isFn K (.ref cE) = true)
    (lCTb : K.lookup cT = some ⟨oc_CTb, od_CTb, .func (PySem.W.fnOf "table" "Company.table" (defArgs sCT) (defBody sCT) (defScope sCT) .none kV_CTb doc_CTb pm_CTb an_CTb cdv_CTb ct_CTb), osl_CTb⟩)
    (cdCTb : PySem.W.codeIn K cdv_CTb "Company.table" = true)
    (kpCTb : PySem.W.keepIn K (.ref cT) = true)
    (fnCTb : PySem.W.isFn K (.ref cT) = true)
    (cgcRI : PySem.W.specialIn K (.ref RU) "__getattribute__" = some (some (.builtin "type.__getattribute__")))
    (crcRI : PySem.W.readsIn K RU (.type "type") = true)
    (cfcRI : PySem.W.findCls K (.ref RU) (.type "type") "__init__" = some (.val (.ref iR)))
    (mSE : PySem.W.nsIn K mainGlobals "ShareError" = some (some (.ref SE)))
    (mNG : PySem.W.nsIn K mainGlobals "NoGroup" = some (some (.ref NG)))
    (mNN : PySem.W.nsIn K mainGlobals "NoNumber" = some (some (.ref NN)))
    (mNO : PySem.W.nsIn K mainGlobals "NoOrder" = some (some (.ref NO)))
    (mNR : PySem.W.nsIn K mainGlobals "NoRows" = some (some (.ref NR)))
    (mNL : PySem.W.nsIn K mainGlobals "NoRule" = some (some (.ref NL)))
    (mNS : PySem.W.nsIn K mainGlobals "NoShares" = some (some (.ref NS)))
    (mNT : PySem.W.nsIn K mainGlobals "NoTable" = some (some (.ref NT)))
    (mNX : PySem.W.nsIn K mainGlobals "NoText" = some (some (.ref NX)))
    (mNV : PySem.W.nsIn K mainGlobals "NoVotes" = some (some (.ref NV)))
    (mTM : PySem.W.nsIn K mainGlobals "TooMany" = some (some (.ref TM)))
    (mUL : PySem.W.nsIn K mainGlobals "Unlike" = some (some (.ref UL)))
    (c6 : PySem.W.specialIn K (.builtin "object.__class__") "__get__" = some (some (.builtin "getset_descriptor.__get__")))
    (c7 : PySem.W.takesIn K (.builtin "object.__class__") = some true)
    (SE2 : PySem.W.typeIn K (.ref SE) = some (.type "type"))
    (SE3 : PySem.W.findIn K (.ref SE) "__getattribute__" = some (some (.builtin "BaseException.__getattribute__")))
    (SE4 : PySem.W.findIn K (.ref SE) "__getattr__" = some none)
    (SE5 : PySem.W.findIn K (.ref SE) "__class__" = some (some (.builtin "object.__class__")))
    (SE8 : PySem.W.mroIn K SE (.type "object") = some true)
    (SE9 : PySem.W.mroIn K SE (.type "BaseException") = some true)
    (NG2 : PySem.W.typeIn K (.ref NG) = some (.type "type"))
    (NG3 : PySem.W.findIn K (.ref NG) "__getattribute__" = some (some (.builtin "BaseException.__getattribute__")))
    (NG4 : PySem.W.findIn K (.ref NG) "__getattr__" = some none)
    (NG5 : PySem.W.findIn K (.ref NG) "__class__" = some (some (.builtin "object.__class__")))
    (NG8 : PySem.W.mroIn K NG (.type "object") = some true)
    (NG9 : PySem.W.mroIn K NG (.type "BaseException") = some true)
    (NL2 : PySem.W.typeIn K (.ref NL) = some (.type "type"))
    (NL3 : PySem.W.findIn K (.ref NL) "__getattribute__" = some (some (.builtin "BaseException.__getattribute__")))
    (NL4 : PySem.W.findIn K (.ref NL) "__getattr__" = some none)
    (NL5 : PySem.W.findIn K (.ref NL) "__class__" = some (some (.builtin "object.__class__")))
    (NL8 : PySem.W.mroIn K NL (.type "object") = some true)
    (NL9 : PySem.W.mroIn K NL (.type "BaseException") = some true)
    (xNG : PySem.W.excIn K NG bmV "ValueError.__new__" = true)
    (up : PySem.W.mroIn K NG (.ref SE) = some true)
    (k1 : PySem.W.kitOne K (.ref NG) (.ref NG) = some true)
    (k2 : PySem.W.kitOne K (.ref NG) (.type "ValueError") = some true)
    (k3 : PySem.W.kitAny K (.ref NG) [.ref NN, .ref NO, .ref NR, .ref NL, .ref NS] = some false)
    (k4 : PySem.W.kitAny K (.ref NG) [.ref NT, .ref NX, .ref NV, .ref TM, .ref UL] = some false)
    (xNL : PySem.W.excIn K NL bmV "ValueError.__new__" = true)
    (upL : PySem.W.mroIn K NL (.ref SE) = some true)
    (k1L : PySem.W.kitOne K (.ref NL) (.ref NL) = some true)
    (k2L : PySem.W.kitOne K (.ref NL) (.type "ValueError") = some true)
    (k3L : PySem.W.kitAny K (.ref NL) [.ref NG, .ref NN, .ref NO, .ref NR, .ref NS] = some false)
    (k4L : PySem.W.kitAny K (.ref NL) [.ref NT, .ref NX, .ref NV, .ref TM, .ref UL] = some false)
    (xNT : PySem.W.excIn K NT bmV "ValueError.__new__" = true) :
    ∃ AL LN RU OW PL PA VO CO fE fH rR rO rP rA rV iR iO iP iA iV iC cH cE cT SE NG NN NO NR NL NS NT NX NV TM UL, T K mg AL LN RU OW PL PA VO CO fE fH rR rO rP rA rV iR iO iP iA iV iC cH cE cT SE NG NN NO NR NL NS NT NX NV TM UL :=
  ⟨AL, LN, RU, OW, PL, PA, VO, CO, fE, fH, rR, rO, rP, rA, rV, iR, iO, iP, iA, iV, iC, cH, cE, cT, SE, NG, NN, NO, NR, NL, NS, NT, NX, NV, TM, UL, PySem.W.mg_none_of X G b_isi, PySem.W.mg_none_of X G b_int, PySem.W.mg_none_of X G b_bool, PySem.W.mg_none_of X G b_range, PySem.W.mg_none_of X G b_len, PySem.W.mg_none_of X G b_list, PySem.W.mg_none_of X G b_ve, PySem.W.mg_none_of X G b_sum, PySem.W.mg_none_of X G b_all, PySem.W.mg_none_of X G b_any, PySem.W.mg_none_of X G b_sorted, PySem.W.mg_none_of X G b_tuple, PySem.W.mg_none_of X G b_max, PySem.W.mg_none_of X G b_min, PySem.W.mg_none_of X G b_abs, PySem.W.mg_none_of X G b_enum, PySem.W.mg_of X G mAL, fun _ => .inr ⟨_, _, _, lkAL, rfl, rfl, by show 6 ≤ sizeLine; decide, .cons ⟨_, rfl⟩ (.cons ⟨_, rfl⟩ (.cons ⟨_, rfl⟩ (.cons ⟨_, rfl⟩ (.cons ⟨_, rfl⟩ (.cons ⟨_, rfl⟩ .nil)))))⟩, PySem.W.mg_of X G mLN, fun _ => .inr ⟨_, _, _, lkLN, rfl, rfl, by show 7 ≤ sizeLine; decide, .cons ⟨_, rfl⟩ (.cons ⟨_, rfl⟩ (.cons ⟨_, rfl⟩ (.cons ⟨_, rfl⟩ (.cons ⟨_, rfl⟩ (.cons ⟨_, rfl⟩ (.cons ⟨_, rfl⟩ .nil))))))⟩, ⟨_, lkLN, rfl, rfl⟩, ⟨tk_mr, PySem.W.mg_of X G mr⟩, PySem.W.mg_of X G mRU, ⟨⟨⟨pgRU, hdRU, poRU, saRU⟩, caRU, c6, c7, moRU⟩, nmRU, ⟨feRU, fnE, kpE⟩, ⟨fhRU, fnH, kpH⟩, ⟨frRU, fnRR, kpRR⟩, irRU⟩, ⟨mkRU, fiRU, fnRI, kkRU⟩, PySem.W.mg_of X G mOW, ⟨⟨⟨pgOW, hdOW, poOW, saOW⟩, caOW, c6, c7, moOW⟩, nmOW, ⟨feOW, fnE, kpE⟩, ⟨fhOW, fnH, kpH⟩, ⟨frOW, fnOR, kpOR⟩, irOW⟩, ⟨mkOW, fiOW, fnOI, kkOW⟩, nf0OW, PySem.W.mg_of X G mPL, ⟨⟨⟨pgPL, hdPL, poPL, saPL⟩, caPL, c6, c7, moPL⟩, nmPL, ⟨fePL, fnE, kpE⟩, ⟨fhPL, fnH, kpH⟩, ⟨frPL, fnPR, kpPR⟩, irPL⟩, ⟨mkPL, fiPL, fnPI, kkPL⟩, nf0PL, PySem.W.mg_of X G mPA, ⟨⟨⟨pgPA, hdPA, poPA, saPA⟩, caPA, c6, c7, moPA⟩, nmPA, ⟨fePA, fnE, kpE⟩, ⟨fhPA, fnH, kpH⟩, ⟨frPA, fnPaR, kpPaR⟩, irPA⟩, ⟨mkPA, fiPA, fnPaI, kkPA⟩, nf0PA, PySem.W.mg_of X G mVO, ⟨⟨⟨pgVO, hdVO, poVO, saVO⟩, caVO, c6, c7, moVO⟩, nmVO, ⟨feVO, fnE, kpE⟩, ⟨fhVO, fnH, kpH⟩, ⟨frVO, fnVR, kpVR⟩, irVO⟩, ⟨mkVO, fiVO, fnVI, kkVO⟩, nf0VO, nf1VO, nf2VO, PySem.W.mg_of X G mCO, ⟨⟨⟨pgCO, hdCO, poCO, saCO⟩, caCO, c6, c7, moCO⟩, nmCO, nrCO, ⟨feCO, fnCEn, kpCEn⟩, ⟨fhCO, fnCHs, kpCHs⟩, ⟨ftCO, fnCTb, kpCTb⟩, irCO⟩, ⟨mkCO, fiCO, fnCI, kkCO⟩, mx_mk lRI cdRI kpRI (fun _ _ _ _ _ _ us hl => match us, hl with | [_, _], _ => rfl), mx_mk lH cdH kpH (fun _ _ _ _ _ _ us hl => match us, hl with | [_], _ => rfl), mx_mk lE cdE kpE (fun _ _ _ _ _ _ us hl => match us, hl with | [_, _], _ => rfl), mx_mk lRR cdRR kpRR (fun _ _ _ _ _ _ us hl => match us, hl with | [_, _], _ => rfl), mx_mk lOI cdOI kpOI (fun _ _ _ _ _ _ us hl => match us, hl with | [_, _], _ => rfl), mx_mk lOR cdOR kpOR (fun _ _ _ _ _ _ us hl => match us, hl with | [_, _], _ => rfl), mx_mk lPI cdPI kpPI (fun _ _ _ _ _ _ us hl => match us, hl with | [_, _], _ => rfl), mx_mk lPR cdPR kpPR (fun _ _ _ _ _ _ us hl => match us, hl with | [_, _], _ => rfl), mx_mk lPaI cdPaI kpPaI (fun _ _ _ _ _ _ us hl => match us, hl with | [_, _, _], _ => rfl), mx_mk lPaR cdPaR kpPaR (fun _ _ _ _ _ _ us hl => match us, hl with | [_, _], _ => rfl), mx_mk lVI cdVI kpVI (fun _ _ _ _ _ _ us hl => match us, hl with | [_, _, _, _], _ => rfl), mx_mk lVR cdVR kpVR (fun _ _ _ _ _ _ us hl => match us, hl with | [_, _], _ => rfl), mx_mk lCI cdCI kpCI (fun _ _ _ _ _ _ us hl => match us, hl with | [_, _, _], _ => rfl), mx_mk lCHs cdCHs kpCHs (fun _ _ _ _ _ _ us hl => match us, hl with | [_], _ => rfl), mx_mk lCEn cdCEn kpCEn (fun _ _ _ _ _ _ us hl => match us, hl with | [_, _], _ => rfl), mx_mk lCTb cdCTb kpCTb (fun _ _ _ _ _ _ us hl => match us, hl with | [_], _ => rfl), ⟨cgcRI, crcRI, cfcRI, kpRI⟩, PySem.W.mg_of X G mSE, PySem.W.mg_of X G mNG, PySem.W.mg_of X G mNN, PySem.W.mg_of X G mNO, PySem.W.mg_of X G mNR, PySem.W.mg_of X G mNL, PySem.W.mg_of X G mNS, PySem.W.mg_of X G mNT, PySem.W.mg_of X G mNX, PySem.W.mg_of X G mNV, PySem.W.mg_of X G mTM, PySem.W.mg_of X G mUL, exc_mk SE2 SE3 SE4 SE5 c6 c7 SE8 SE9, exc_mk NG2 NG3 NG4 NG5 c6 c7 NG8 NG9, exc_mk NL2 NL3 NL4 NL5 c6 c7 NL8 NL9, xNG, up, k1, k2, k3, k4, xNL, upL, k1L, k2L, k3L, k4L, xNT⟩
theorem walk {l : PySem.W.OpenLaw} {q : Program} {loose : List Str} {XP : (Str → Option Value) → Heap → Prop} {YP : World → Heap → Prop} {d : DefRec} {K : Params → PySem.W.Frag} (hn : l.most = some 63) (hdf : d.params.defaults = [])
    (hY : ∀ (w : World) (h : Heap), YP w h → (K w.params).In h)
    (F : ∀ (w : World) (mg : Str → Option Value) (fa : Addr) (h : Heap), (K w.params).In h → h.Ns mainGlobals mg → mg d.name = some (.ref fa) →
      ∃ fd : FuncData, (∀ (s : Shared) (u : Value), BindsTo s fd ⟨[u], []⟩ [("_law_script", u)]) ∧ ∀ base : Heap, (K w.params).In base → base.Ns mainGlobals mg → FnOk l.prog w (K w.params) mg base CX0 12 fa fd ["_law_script"] (spLaw (K w.params))) :
    PySem.W.WalkO q loose XP YP l.row.toRowW d [] (fun f vs => PySem.call f vs) :=
  L2.walk_of (n := 63) (k := 12) (x := "_law_script") (CX := fun _ => CX0) (sp := fun w => spLaw (K w.params)) hn (by decide) hdf ⟨rfl, by decide, by decide⟩ hY F (fun _ _ a ns hl _ hS => ⟨a, ns, rfl, hS, hl, fun _ => rfl⟩) fun _ _ _ _ _ z => z
theorem all_ok {P : Program} {w : World} {K : PySem.W.Frag} {mg : Str → Option Value} {fa : Addr} (hfa : mg "law" = some (.ref fa)) (hT : ∃ AL LN RU OW PL PA VO CO fE fH rR rO rP rA rV iR iO iP iA iV iC cH cE cT SE NG NN NO NR NL NS NT NX NV TM UL, T K mg AL LN RU OW PL PA VO CO fE fH rR rO rP rA rV iR iO iP iA iV iC cH cE cT SE NG NN NO NR NL NS NT NX NV TM UL)
    (t_sNum : ∃ f fd, Tx K mg "is_number" sNum ["thing"] f fd)
    (t_sWith : ∃ f fd, Tx K mg "is_number_within" sWith ["thing", "least", "most"] f fd)
    (t_sChM : ∃ f fd, Tx K mg "check_many" sChM ["many"] f fd)
    (t_sWC : ∃ f fd, Tx K mg "whole_company" sWC ["many"] f fd)
    (t_sChk : ∃ f fd, Tx K mg "check_group" sChk ["group", "many"] f fd)
    (t_sHnd : ∃ f fd, Tx K mg "hands_of" sHnd ["group"] f fd)
    (t_sIsT : ∃ f fd, Tx K mg "is_table" sIsT ["thing"] f fd)
    (t_sHin : ∃ f fd, Tx K mg "hands_in" sHin ["table"] f fd)
    (t_sCkN : ∃ f fd, Tx K mg "check_numbers" sCkN ["things"] f fd)
    (t_sCkP : ∃ f fd, Tx K mg "check_pair" sCkP ["many", "pair"] f fd)
    (t_sSrt : ∃ f fd, Tx K mg "sorted_pairs" sSrt ["many", "pairs"] f fd)
    (t_sHB : ∃ f fd, Tx K mg "has_both" sHB ["group", "one", "other"] f fd)
    (t_sSoH : ∃ f fd, Tx K mg "sum_of_hands" sSoH ["numbers", "group"] f fd)
    (t_sWho : ∃ f fd, Tx K mg "_law_whole" sWho ["_law_found"] f fd)
    (t_sCel : ∃ f fd, Tx K mg "_law_cell" sCel ["_law_script", "_law_k"] f fd)
    (t_sNb : ∃ f fd, Tx K mg "_law_number" sNb ["_law_cell_here"] f fd)
    (t_sLRu : ∃ f fd, Tx K mg "_law_rule" sLRu ["_law_script", "_law_at", "_law_many"] f fd)
    (t_sLRs : ∃ f fd, Tx K mg "_law_rules" sLRs ["_law_script", "_law_many"] f fd)
    (t_sLEa : ∃ f fd, Tx K mg "_law_earned" sLEa ["_law_row", "_law_group"] f fd)
    (t_sLOb : ∃ f fd, Tx K mg "_law_object" sLOb ["_law_row", "_law_many", "_law_handed"] f fd)
    (t_sLHo : ∃ f fd, Tx K mg "_law_holds" sLHo ["_law_company", "_law_due"] f fd)
    (t_sNoG : ∃ f fd, Tx K mg "_law_no_group" sNoG ["_law_company", "_law_group"] f fd)
    (t_sNoR : ∃ f fd, Tx K mg "_law_no_rule" sNoR ["_law_many", "_law_some"] f fd)
    (t_sRef : ∃ f fd, Tx K mg "_law_refusals" sRef ["_law_script", "_law_company", "_law_objects", "_law_many"] f fd)
    (t_sLaw : ∃ f fd, Tx K mg "law" sLaw ["_law_script"] f fd)
    : ∃ fd : FuncData, (∀ (s : Shared) (u : Value), BindsTo s fd ⟨[u], []⟩ [("_law_script", u)]) ∧ ∀ base : Heap, K.In base → base.Ns mainGlobals mg → FnOk P w K mg base CX0 12 fa fd ["_law_script"] (spLaw K) := by
  obtain ⟨AL, LN, RU, OW, PL, PA, VO, CO, fE, fH, rR, rO, rP, rA, rV, iR, iO, iP, iA, iV, iC, cH, cE, cT, SE, NG, NN, NO, NR, NL, NS, NT, NX, NV, TM, UL, T⟩ := hT
  obtain ⟨f_sNum, fd_sNum, t_sNum⟩ := t_sNum
  obtain ⟨f_sWith, fd_sWith, t_sWith⟩ := t_sWith
  obtain ⟨f_sChM, fd_sChM, t_sChM⟩ := t_sChM
  obtain ⟨f_sWC, fd_sWC, t_sWC⟩ := t_sWC
  obtain ⟨f_sChk, fd_sChk, t_sChk⟩ := t_sChk
  obtain ⟨f_sHnd, fd_sHnd, t_sHnd⟩ := t_sHnd
  obtain ⟨f_sIsT, fd_sIsT, t_sIsT⟩ := t_sIsT
  obtain ⟨f_sHin, fd_sHin, t_sHin⟩ := t_sHin
  obtain ⟨f_sCkN, fd_sCkN, t_sCkN⟩ := t_sCkN
  obtain ⟨f_sCkP, fd_sCkP, t_sCkP⟩ := t_sCkP
  obtain ⟨f_sSrt, fd_sSrt, t_sSrt⟩ := t_sSrt
  obtain ⟨f_sHB, fd_sHB, t_sHB⟩ := t_sHB
  obtain ⟨f_sSoH, fd_sSoH, t_sSoH⟩ := t_sSoH
  obtain ⟨f_sWho, fd_sWho, t_sWho⟩ := t_sWho
  obtain ⟨f_sCel, fd_sCel, t_sCel⟩ := t_sCel
  obtain ⟨f_sNb, fd_sNb, t_sNb⟩ := t_sNb
  obtain ⟨f_sLRu, fd_sLRu, t_sLRu⟩ := t_sLRu
  obtain ⟨f_sLRs, fd_sLRs, t_sLRs⟩ := t_sLRs
  obtain ⟨f_sLEa, fd_sLEa, t_sLEa⟩ := t_sLEa
  obtain ⟨f_sLOb, fd_sLOb, t_sLOb⟩ := t_sLOb
  obtain ⟨f_sLHo, fd_sLHo, t_sLHo⟩ := t_sLHo
  obtain ⟨f_sNoG, fd_sNoG, t_sNoG⟩ := t_sNoG
  obtain ⟨f_sNoR, fd_sNoR, t_sNoR⟩ := t_sNoR
  obtain ⟨f_sRef, fd_sRef, t_sRef⟩ := t_sRef
  obtain ⟨f_sLaw, fd_sLaw, t_sLaw⟩ := t_sLaw
  have e := hfa.symm.trans t_sLaw.at_
  cases e
  refine ⟨fd_sLaw, fun s u => .of_eq (t_sLaw.bd [u] rfl), fun base _ _ => ?_⟩
  obtain ⟨m1, x1⟩ := T.xRI
  obtain ⟨m2, x2⟩ := T.xH
  obtain ⟨m3, x3⟩ := T.xE
  obtain ⟨m4, x4⟩ := T.xRR
  obtain ⟨m5, x5⟩ := T.xOI
  obtain ⟨m6, x6⟩ := T.xOR
  obtain ⟨m7, x7⟩ := T.xPI
  obtain ⟨m8, x8⟩ := T.xPR
  obtain ⟨m9, x9⟩ := T.xPaI
  obtain ⟨m10, x10⟩ := T.xPaR
  obtain ⟨m11, x11⟩ := T.xVI
  obtain ⟨m12, x12⟩ := T.xVR
  obtain ⟨m13, x13⟩ := T.xCI
  obtain ⟨m14, x14⟩ := T.xCHs
  obtain ⟨m15, x15⟩ := T.xCEn
  obtain ⟨m16, x16⟩ := T.xCTb
  have d0 := ok_num (P := P) (w := w) (base := base) t_sNum T
  have d1 := ok_with (P := P) (w := w) (base := base) t_sWith d0
  have d2 := ok_chm t_sChM T d1
  have d3 := ok_wc (P := P) (w := w) (base := base) t_sWC T
  have d4 := ok_chk t_sChk T d1 d3
  have d5 := ok_hnd t_sHnd T d4
  have d6 := ok_hin t_sHin T (ok_ist t_sIsT T d0)
  have d7 := ok_ckn t_sCkN T d0
  have d8 := ok_soh t_sSoH T d5
  have d9 := ok_srt t_sSrt T (ok_ckp t_sCkP T d7)
  have d10 := ok_hb (P := P) (w := w) (base := base) t_sHB T
  have eRI := ok_ri x1 T d2
  have eH := ok_hs (P := P) (w := w) (mg := mg) (base := base) x2
  have eE := ok_ern x3 T d4
  have eRR := ok_rr (P := P) (w := w) (mg := mg) (base := base) x4
  have eOI := ok_oi x5 T eRI d7
  have eOR := ok_or x6 T d8
  have ePI := ok_pi x7 T eRI d6
  have ePR := ok_pr (P := P) (w := w) (mg := mg) (base := base) x8 T
  have ePaI := ok_pai x9 T eRI d9
  have ePaR := ok_par x10 T d10
  have eVI := ok_vi x11 T eRI d7
  have eVR := ok_vr x12 T d8
  have eCI := ok_ci x13 T d2 eH
  have eCH := ok_ch (P := P) (w := w) (mg := mg) (base := base) x14
  have eCE := ok_ce x15 T d4 eE
  have eCT := ok_ct x16 T d3 eCE
  have l1 := ok_who (P := P) (w := w) (base := base) t_sWho T
  have l2 := ok_cel (P := P) (w := w) (base := base) t_sCel T
  have l3 := ok_lru t_sLRu T l2 (ok_nb t_sNb T)
  exact (ok_law t_sLaw T l2 (ok_lrs t_sLRs T l3) (ok_lea t_sLEa T) (ok_lob t_sLOb T eRI eOI ePI ePaI eVI eOR ePR ePaR eVR eRR) (ok_lho t_sLHo T l1 eCH eCE eCT) (ok_ref t_sRef T l2 (ok_nog t_sNoG T eCE) (ok_nor t_sNoR T eCI) eRI eRR) eCI eOI eRI eOR eRR eCT).ok

end K12
open PySem PySem.W PyProof.Rows
set_option maxRecDepth 100000 in
set_option maxHeartbeats 0 in
theorem PySem.Challenge.cw_shareparley_k12_a_company_holds : PySem.Challenge.rw_shareparley_k12_a_company.Holds := by
  w_on; o_law; k_head; (case hw => w_witness2)
  k_fill
  refine K12.walk (l := PySem.Challenge.rw_shareparley_k12_a_company) rfl rfl (fun w h Y => PySem.W.kIn_of Y) ?F
  case F =>
    intro w mg fa h KX G hmg
    refine K12.all_ok hmg ?T ?t_sNum ?t_sWith ?t_sChM ?t_sWC ?t_sChk ?t_sHnd ?t_sIsT ?t_sHin ?t_sCkN ?t_sCkP ?t_sSrt ?t_sHB ?t_sSoH ?t_sWho ?t_sCel ?t_sNb ?t_sLRu ?t_sLRs ?t_sLEa ?t_sLOb ?t_sLHo ?t_sNoG ?t_sNoR ?t_sRef ?t_sLaw
    case T =>
      refine' K12.T_mk KX G ?b_isi ?b_int ?b_bool ?b_range ?b_len ?b_list ?b_ve ?b_sum ?b_all ?b_any ?b_sorted ?b_tuple ?b_max ?b_min ?b_abs ?b_enum ?mAL ?lkAL ?mLN ?lkLN ?mr ?mRU ?pgRU ?hdRU ?poRU ?saRU ?caRU ?moRU ?nmRU ?feRU ?fhRU ?frRU ?irRU ?mkRU ?fiRU ?kkRU ?mOW ?pgOW ?hdOW ?poOW ?saOW ?caOW ?moOW ?nmOW ?feOW ?fhOW ?frOW ?irOW ?mkOW ?fiOW ?kkOW ?nf0OW ?mPL ?pgPL ?hdPL ?poPL ?saPL ?caPL ?moPL ?nmPL ?fePL ?fhPL ?frPL ?irPL ?mkPL ?fiPL ?kkPL ?nf0PL ?mPA ?pgPA ?hdPA ?poPA ?saPA ?caPA ?moPA ?nmPA ?fePA ?fhPA ?frPA ?irPA ?mkPA ?fiPA ?kkPA ?nf0PA ?mVO ?pgVO ?hdVO ?poVO ?saVO ?caVO ?moVO ?nmVO ?feVO ?fhVO ?frVO ?irVO ?mkVO ?fiVO ?kkVO ?nf0VO ?nf1VO ?nf2VO ?mCO ?pgCO ?hdCO ?poCO ?saCO ?caCO ?moCO ?nmCO ?nrCO ?feCO ?fhCO ?ftCO ?irCO ?mkCO ?fiCO ?kkCO ?lRI ?cdRI ?kpRI ?fnRI ?lH ?cdH ?kpH ?fnH ?lE ?cdE ?kpE ?fnE ?lRR ?cdRR ?kpRR ?fnRR ?lOI ?cdOI ?kpOI ?fnOI ?lOR ?cdOR ?kpOR ?fnOR ?lPI ?cdPI ?kpPI ?fnPI ?lPR ?cdPR ?kpPR ?fnPR ?lPaI ?cdPaI ?kpPaI ?fnPaI ?lPaR ?cdPaR ?kpPaR ?fnPaR ?lVI ?cdVI ?kpVI ?fnVI ?lVR ?cdVR ?kpVR ?fnVR ?lCI ?cdCI ?kpCI ?fnCI ?lCHs ?cdCHs ?kpCHs ?fnCHs ?lCEn ?cdCEn ?kpCEn ?fnCEn ?lCTb ?cdCTb ?kpCTb ?fnCTb ?cgcRI ?crcRI ?cfcRI ?mSE ?mNG ?mNN ?mNO ?mNR ?mNL ?mNS ?mNT ?mNX ?mNV ?mTM ?mUL ?c6 ?c7 ?SE2 ?SE3 ?SE4 ?SE5 ?SE8 ?SE9 ?NG2 ?NG3 ?NG4 ?NG5 ?NG8 ?NG9 ?NL2 ?NL3 ?NL4 ?NL5 ?NL8 ?NL9 ?xNG ?up ?k1 ?k2 ?k3 ?k4 ?xNL ?upL ?k1L ?k2L ?k3L ?k4L ?xNT
      (case b_isi => k_is)
      (case b_int => k_is)
      (case b_bool => k_is)
      (case b_range => k_is)
      (case b_len => k_is)
      (case b_list => k_is)
      (case b_ve => k_is)
      (case b_sum => k_is)
      (case b_all => k_is)
      (case b_any => k_is)
      (case b_sorted => k_is)
      (case b_tuple => k_is)
      (case b_max => k_is)
      (case b_min => k_is)
      (case b_abs => k_is)
      (case b_enum => k_is)
      (case mAL => k_is)
      (case lkAL => k_is)
      (case mLN => k_is)
      (case lkLN => k_is)
      (case mr => k_is)
      (case mRU => k_is)
      (case pgRU => k_is)
      (case hdRU => k_is)
      (case poRU => k_is)
      (case saRU => k_is)
      (case caRU => k_is)
      (case moRU => k_is)
      (case nmRU => k_is)
      (case feRU => k_is)
      (case fhRU => k_is)
      (case frRU => k_is)
      (case irRU => kit_is)
      (case mkRU => k_is)
      (case fiRU => k_is)
      (case kkRU => k_is)
      (case mOW => k_is)
      (case pgOW => k_is)
      (case hdOW => k_is)
      (case poOW => k_is)
      (case saOW => k_is)
      (case caOW => k_is)
      (case moOW => k_is)
      (case nmOW => k_is)
      (case feOW => k_is)
      (case fhOW => k_is)
      (case frOW => k_is)
      (case irOW => kit_is)
      (case mkOW => k_is)
      (case fiOW => k_is)
      (case kkOW => k_is)
      (case nf0OW => k_is)
      (case mPL => k_is)
      (case pgPL => k_is)
      (case hdPL => k_is)
      (case poPL => k_is)
      (case saPL => k_is)
      (case caPL => k_is)
      (case moPL => k_is)
      (case nmPL => k_is)
      (case fePL => k_is)
      (case fhPL => k_is)
      (case frPL => k_is)
      (case irPL => kit_is)
      (case mkPL => k_is)
      (case fiPL => k_is)
      (case kkPL => k_is)
      (case nf0PL => k_is)
      (case mPA => k_is)
      (case pgPA => k_is)
      (case hdPA => k_is)
      (case poPA => k_is)
      (case saPA => k_is)
      (case caPA => k_is)
      (case moPA => k_is)
      (case nmPA => k_is)
      (case fePA => k_is)
      (case fhPA => k_is)
      (case frPA => k_is)
      (case irPA => kit_is)
      (case mkPA => k_is)
      (case fiPA => k_is)
      (case kkPA => k_is)
      (case nf0PA => k_is)
      (case mVO => k_is)
      (case pgVO => k_is)
      (case hdVO => k_is)
      (case poVO => k_is)
      (case saVO => k_is)
      (case caVO => k_is)
      (case moVO => k_is)
      (case nmVO => k_is)
      (case feVO => k_is)
      (case fhVO => k_is)
      (case frVO => k_is)
      (case irVO => kit_is)
      (case mkVO => k_is)
      (case fiVO => k_is)
      (case kkVO => k_is)
      (case nf0VO => k_is)
      (case nf1VO => k_is)
      (case nf2VO => k_is)
      (case mCO => k_is)
      (case pgCO => k_is)
      (case hdCO => k_is)
      (case poCO => k_is)
      (case saCO => k_is)
      (case caCO => k_is)
      (case moCO => k_is)
      (case nmCO => k_is)
      (case nrCO => k_is)
      (case feCO => k_is)
      (case fhCO => k_is)
      (case ftCO => k_is)
      (case irCO => kit_is)
      (case mkCO => k_is)
      (case fiCO => k_is)
      (case kkCO => k_is)
      (case lRI => k_is)
      (case cdRI => k_is)
      (case kpRI => k_is)
      (case fnRI => k_is)
      (case lH => k_is)
      (case cdH => k_is)
      (case kpH => k_is)
      (case fnH => k_is)
      (case lE => k_is)
      (case cdE => k_is)
      (case kpE => k_is)
      (case fnE => k_is)
      (case lRR => k_is)
      (case cdRR => k_is)
      (case kpRR => k_is)
      (case fnRR => k_is)
      (case lOI => k_is)
      (case cdOI => k_is)
      (case kpOI => k_is)
      (case fnOI => k_is)
      (case lOR => k_is)
      (case cdOR => k_is)
      (case kpOR => k_is)
      (case fnOR => k_is)
      (case lPI => k_is)
      (case cdPI => k_is)
      (case kpPI => k_is)
      (case fnPI => k_is)
      (case lPR => k_is)
      (case cdPR => k_is)
      (case kpPR => k_is)
      (case fnPR => k_is)
      (case lPaI => k_is)
      (case cdPaI => k_is)
      (case kpPaI => k_is)
      (case fnPaI => k_is)
      (case lPaR => k_is)
      (case cdPaR => k_is)
      (case kpPaR => k_is)
      (case fnPaR => k_is)
      (case lVI => k_is)
      (case cdVI => k_is)
      (case kpVI => k_is)
      (case fnVI => k_is)
      (case lVR => k_is)
      (case cdVR => k_is)
      (case kpVR => k_is)
      (case fnVR => k_is)
      (case lCI => k_is)
      (case cdCI => k_is)
      (case kpCI => k_is)
      (case fnCI => k_is)
      (case lCHs => k_is)
      (case cdCHs => k_is)
      (case kpCHs => k_is)
      (case fnCHs => k_is)
      (case lCEn => k_is)
      (case cdCEn => k_is)
      (case kpCEn => k_is)
      (case fnCEn => k_is)
      (case lCTb => k_is)
      (case cdCTb => k_is)
      (case kpCTb => k_is)
      (case fnCTb => k_is)
      (case cgcRI => k_is)
      (case crcRI => k_is)
      (case cfcRI => k_is)
      (case mSE => k_is)
      (case mNG => k_is)
      (case mNN => k_is)
      (case mNO => k_is)
      (case mNR => k_is)
      (case mNL => k_is)
      (case mNS => k_is)
      (case mNT => k_is)
      (case mNX => k_is)
      (case mNV => k_is)
      (case mTM => k_is)
      (case mUL => k_is)
      (case c6 => k_is)
      (case c7 => k_is)
      (case SE2 => k_is)
      (case SE3 => k_is)
      (case SE4 => k_is)
      (case SE5 => k_is)
      (case SE8 => k_is)
      (case SE9 => k_is)
      (case NG2 => k_is)
      (case NG3 => k_is)
      (case NG4 => k_is)
      (case NG5 => k_is)
      (case NG8 => k_is)
      (case NG9 => k_is)
      (case NL2 => k_is)
      (case NL3 => k_is)
      (case NL4 => k_is)
      (case NL5 => k_is)
      (case NL8 => k_is)
      (case NL9 => k_is)
      (case xNG => k_exc)
      (case up => k_is)
      (case k1 => kit_is)
      (case k2 => kit_is)
      (case k3 => kit_is)
      (case k4 => kit_is)
      (case xNL => k_exc)
      (case upL => k_is)
      (case k1L => kit_is)
      (case k2L => kit_is)
      (case k3L => kit_is)
      (case k4L => kit_is)
      (case xNT => k_exc)
    case t_sNum =>
      refine' L2.tx_mk KX G ?a ?l ?c ?k (fun _ _ _ _ _ _ us hl => match us, hl with | [_], _ => rfl)
      (case a => k_is); (case l => k_is); (case c => k_is); (case k => k_is)
    case t_sWith =>
      refine' L2.tx_mk KX G ?a ?l ?c ?k (fun _ _ _ _ _ _ us hl => match us, hl with | [_, _, _], _ => rfl)
      (case a => k_is); (case l => k_is); (case c => k_is); (case k => k_is)
    case t_sChM =>
      refine' L2.tx_mk KX G ?a ?l ?c ?k (fun _ _ _ _ _ _ us hl => match us, hl with | [_], _ => rfl)
      (case a => k_is); (case l => k_is); (case c => k_is); (case k => k_is)
    case t_sWC =>
      refine' L2.tx_mk KX G ?a ?l ?c ?k (fun _ _ _ _ _ _ us hl => match us, hl with | [_], _ => rfl)
      (case a => k_is); (case l => k_is); (case c => k_is); (case k => k_is)
    case t_sChk =>
      refine' L2.tx_mk KX G ?a ?l ?c ?k (fun _ _ _ _ _ _ us hl => match us, hl with | [_, _], _ => rfl)
      (case a => k_is); (case l => k_is); (case c => k_is); (case k => k_is)
    case t_sHnd =>
      refine' L2.tx_mk KX G ?a ?l ?c ?k (fun _ _ _ _ _ _ us hl => match us, hl with | [_], _ => rfl)
      (case a => k_is); (case l => k_is); (case c => k_is); (case k => k_is)
    case t_sIsT =>
      refine' L2.tx_mk KX G ?a ?l ?c ?k (fun _ _ _ _ _ _ us hl => match us, hl with | [_], _ => rfl)
      (case a => k_is); (case l => k_is); (case c => k_is); (case k => k_is)
    case t_sHin =>
      refine' L2.tx_mk KX G ?a ?l ?c ?k (fun _ _ _ _ _ _ us hl => match us, hl with | [_], _ => rfl)
      (case a => k_is); (case l => k_is); (case c => k_is); (case k => k_is)
    case t_sCkN =>
      refine' L2.tx_mk KX G ?a ?l ?c ?k (fun _ _ _ _ _ _ us hl => match us, hl with | [_], _ => rfl)
      (case a => k_is); (case l => k_is); (case c => k_is); (case k => k_is)
    case t_sCkP =>
      refine' L2.tx_mk KX G ?a ?l ?c ?k (fun _ _ _ _ _ _ us hl => match us, hl with | [_, _], _ => rfl)
      (case a => k_is); (case l => k_is); (case c => k_is); (case k => k_is)
    case t_sSrt =>
      refine' L2.tx_mk KX G ?a ?l ?c ?k (fun _ _ _ _ _ _ us hl => match us, hl with | [_, _], _ => rfl)
      (case a => k_is); (case l => k_is); (case c => k_is); (case k => k_is)
    case t_sHB =>
      refine' L2.tx_mk KX G ?a ?l ?c ?k (fun _ _ _ _ _ _ us hl => match us, hl with | [_, _, _], _ => rfl)
      (case a => k_is); (case l => k_is); (case c => k_is); (case k => k_is)
    case t_sSoH =>
      refine' L2.tx_mk KX G ?a ?l ?c ?k (fun _ _ _ _ _ _ us hl => match us, hl with | [_, _], _ => rfl)
      (case a => k_is); (case l => k_is); (case c => k_is); (case k => k_is)
    case t_sWho =>
      refine' L2.tx_mk KX G ?a ?l ?c ?k (fun _ _ _ _ _ _ us hl => match us, hl with | [_], _ => rfl)
      (case a => k_is); (case l => k_is); (case c => k_is); (case k => k_is)
    case t_sCel =>
      refine' L2.tx_mk KX G ?a ?l ?c ?k (fun _ _ _ _ _ _ us hl => match us, hl with | [_, _], _ => rfl)
      (case a => k_is); (case l => k_is); (case c => k_is); (case k => k_is)
    case t_sNb =>
      refine' L2.tx_mk KX G ?a ?l ?c ?k (fun _ _ _ _ _ _ us hl => match us, hl with | [_], _ => rfl)
      (case a => k_is); (case l => k_is); (case c => k_is); (case k => k_is)
    case t_sLRu =>
      refine' L2.tx_mk KX G ?a ?l ?c ?k (fun _ _ _ _ _ _ us hl => match us, hl with | [_, _, _], _ => rfl)
      (case a => k_is); (case l => k_is); (case c => k_is); (case k => k_is)
    case t_sLRs =>
      refine' L2.tx_mk KX G ?a ?l ?c ?k (fun _ _ _ _ _ _ us hl => match us, hl with | [_, _], _ => rfl)
      (case a => k_is); (case l => k_is); (case c => k_is); (case k => k_is)
    case t_sLEa =>
      refine' L2.tx_mk KX G ?a ?l ?c ?k (fun _ _ _ _ _ _ us hl => match us, hl with | [_, _], _ => rfl)
      (case a => k_is); (case l => k_is); (case c => k_is); (case k => k_is)
    case t_sLOb =>
      refine' L2.tx_mk KX G ?a ?l ?c ?k (fun _ _ _ _ _ _ us hl => match us, hl with | [_, _, _], _ => rfl)
      (case a => k_is); (case l => k_is); (case c => k_is); (case k => k_is)
    case t_sLHo =>
      refine' L2.tx_mk KX G ?a ?l ?c ?k (fun _ _ _ _ _ _ us hl => match us, hl with | [_, _], _ => rfl)
      (case a => k_is); (case l => k_is); (case c => k_is); (case k => k_is)
    case t_sNoG =>
      refine' L2.tx_mk KX G ?a ?l ?c ?k (fun _ _ _ _ _ _ us hl => match us, hl with | [_, _], _ => rfl)
      (case a => k_is); (case l => k_is); (case c => k_is); (case k => k_is)
    case t_sNoR =>
      refine' L2.tx_mk KX G ?a ?l ?c ?k (fun _ _ _ _ _ _ us hl => match us, hl with | [_, _], _ => rfl)
      (case a => k_is); (case l => k_is); (case c => k_is); (case k => k_is)
    case t_sRef =>
      refine' L2.tx_mk KX G ?a ?l ?c ?k (fun _ _ _ _ _ _ us hl => match us, hl with | [_, _, _, _], _ => rfl)
      (case a => k_is); (case l => k_is); (case c => k_is); (case k => k_is)
    case t_sLaw =>
      refine' L2.tx_mk KX G ?a ?l ?c ?k (fun _ _ _ _ _ _ us hl => match us, hl with | [_], _ => rfl)
      (case a => k_is); (case l => k_is); (case c => k_is); (case k => k_is)

