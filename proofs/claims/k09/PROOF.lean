import PyProof.Rows.All
import Wide.All
import OpenK.AllK
import Wide.FinOn
import Lean
import PyProof.EqAt
import PyProof.EqKinds
import PyProof.TupleCall
import PySem.Challenge.RW_shareparley_k09_whole_nets
import KE.IntBitsLaws
import OpenK.KEqL
import KE.LcSums
import KE.KTupSum
import PyProof.Rows.EqDataRows
import PyProof.EnumMake
import KE.KSortTup
import KE.KDictOf
import KE.KMinKey
-- CHANGE: your row's module here, as the last of these rows
set_option Elab.async false
set_option linter.all false
set_option maxRecDepth 100000
/-! THE HAND LAYER, for ints, bools, texts, own classes, LISTS and tuples (index, slices, in, append, pop ..), calls, loops. Paste it whole ahead of your own text; what your proof does not reach may be deleted. -/
namespace L2
open PySem PySem.Spec PyProof.Rows

/-- a key: an int or a str -/
abbrev Key := Sum Int Str
def keyIs : Key → Value → Bool
  | .inl k, v => Value.isInt k v
  | .inr x, v => Value.isStrOf x v
def keyH (w : World) : Key → Int
  | .inl k => hashInt k
  | .inr x => hashStr w x
theorem keyIs_shape : ∀ {k : Key} {v : Value}, keyIs k v = true → (∃ i t, k = Sum.inl i ∧ v = Value.int i t) ∨ (∃ x t, k = Sum.inr x ∧ v = Value.str x t)
  | .inl i, v, h => by
    obtain ⟨t, e⟩ := Value.isInt_shape (k := i) (v := v) h
    exact .inl ⟨i, t, rfl, e⟩
  | .inr x, v, h => by
    obtain ⟨t, e⟩ := Value.isStrOf_shape (x := x) (v := v) h
    exact .inr ⟨x, t, rfl, e⟩
theorem keyIs_int (i : Int) (t : Tok) : keyIs (.inl i) (.int i t) = true := by simp [keyIs, Value.isInt]
theorem keyIs_str (x : Str) (t : Tok) : keyIs (.inr x) (.str x t) = true := by simp [keyIs, Value.isStrOf]
theorem key_ll (a b : Int) : decide ((Sum.inl a : Key) = Sum.inl b) = (a == b) := by
  by_cases e : a = b
  · subst e; simp
  · have h : ¬ (Sum.inl a : Key) = Sum.inl b := fun q => e (Sum.inl.inj q)
    rw [decide_eq_false h]
    exact (beq_eq_false_iff_ne.mpr e).symm
theorem key_rr (a b : Str) : decide ((Sum.inr a : Key) = Sum.inr b) = decide (a = b) := by
  by_cases e : a = b
  · subst e; simp
  · have h : ¬ (Sum.inr a : Key) = Sum.inr b := fun q => e (Sum.inr.inj q)
    rw [decide_eq_false h, decide_eq_false e]
theorem key_lr (a : Int) (b : Str) : decide ((Sum.inl a : Key) = Sum.inr b) = false := decide_eq_false (fun q => nomatch q)
theorem key_rl (a : Str) (b : Int) : decide ((Sum.inr a : Key) = Sum.inl b) = false := decide_eq_false (fun q => nomatch q)

def mixKind (prog : Program) (w : World) : PySem.KeyKind prog w Key where
  is := keyIs
  hash := keyH w
  inj := fun v a b ha hb => by
    rcases keyIs_shape ha with ⟨i, t, rfl, rfl⟩ | ⟨x, t, rfl, rfl⟩
    · rcases keyIs_shape hb with ⟨j, u, rfl, e⟩ | ⟨y, u, rfl, e⟩
      · injection e with e1 _; rw [e1]
      · exact nomatch e
    · rcases keyIs_shape hb with ⟨j, u, rfl, e⟩ | ⟨y, u, rfl, e⟩
      · exact nomatch e
      · injection e with e1 _; rw [e1]
  byValue := fun k v h => by
    rcases keyIs_shape h with ⟨i, t, rfl, rfl⟩ | ⟨x, t, rfl, rfl⟩ <;> rfl
  pyHash := fun hv h => by
    rcases keyIs_shape hv with ⟨i, t, rfl, rfl⟩ | ⟨x, t, rfl, rfl⟩
    · exact wpAny_pyHash_int h
    · exact wpAny_pyHash_str h
  eqBool := fun hu hv h => by
    rcases keyIs_shape hu with ⟨i, t, rfl, rfl⟩ | ⟨x, t, rfl, rfl⟩
    · rcases keyIs_shape hv with ⟨j, u, rfl, rfl⟩ | ⟨y, u, rfl, rfl⟩
      · rw [key_ll] at h; exact wpAny_eqBool_int h
      · rw [key_lr] at h; exact SeqAt.EqAt.int_str i t y u _ _ _ _ h
    · rcases keyIs_shape hv with ⟨j, u, rfl, rfl⟩ | ⟨y, u, rfl, rfl⟩
      · rw [key_rl] at h; exact SeqAt.EqAt.str_int x t j u _ _ _ _ h
      · rw [key_rr] at h; exact wpAny_eqBool_str h
  «strs» := fun k x t v h => by
    rcases keyIs_shape h with ⟨i, u, rfl, e⟩ | ⟨y, u, rfl, e⟩
    · exact nomatch e
    · injection e with e1 _
      subst e1
      cases v <;> rfl

theorem mixKind_int (prog : Program) (w : World) (i : Int) (t : Tok) : (mixKind prog w).is (.inl i) (.int i t) = true := keyIs_int i t
theorem mixKind_str (prog : Program) (w : World) (x : Str) (t : Tok) : (mixKind prog w).is (.inr x) (.str x t) = true := keyIs_str x t
end L2

namespace L2
open PySem PySem.Spec PyProof.Rows

/-- a value, without the heap -/
inductive V where
  | non | bl (b : Bool) | int (i : Int) | str (x : Str) | byt (b : Array UInt8) | flt (b : UInt64) | ref (a : Addr) | ty (n : String)
  deriving DecidableEq

def RelV : V → Value → Prop
  | .non, u => u = Value.none
  | .bl b, u => u = Value.bool b
  | .int i, u => ∃ t, u = Value.int i t
  | .str x, u => ∃ t, u = Value.str x t
  | .byt b, u => ∃ t, u = Value.bytes b t
  | .flt b, u => ∃ t, u = Value.float b t
  | .ref a, u => u = Value.ref a
  | .ty n, u => u = Value.type n

abbrev Vals : List V → List Value → Prop := Paired RelV
theorem Vals.length {xs : List V} {us : List Value} (r : Vals xs us) : xs.length = us.length := Paired.length r
theorem Vals.get : ∀ {xs : List V} {us : List Value} {i : Nat} {x : V}, Vals xs us → xs[i]? = some x → ∃ u, us[i]? = some u ∧ RelV x u
  | _, _, _, _, .nil, e => by simp at e
  | _, _, 0, _, .cons r _, e => by simp at e; subst e; exact ⟨_, rfl, r⟩
  | _, _, i + 1, x, .cons _ t, e => by
    obtain ⟨u, h1, h2⟩ := Vals.get (i := i) (x := x) t (by simpa using e)
    exact ⟨u, by simpa using h1, h2⟩
theorem Vals.set {x : V} {u : Value} (r : RelV x u) : ∀ {xs : List V} {us : List Value} (i : Nat), Vals xs us → Vals (xs.set i x) (us.set i u)
  | _, _, _, .nil => .nil
  | _, _, 0, .cons _ t => .cons r t
  | _, _, i + 1, .cons q t => .cons q (Vals.set r i t)
theorem Vals.append : ∀ {xs ys : List V} {us ws : List Value}, Vals xs us → Vals ys ws → Vals (xs ++ ys) (us ++ ws)
  | _, _, _, _, .nil, s => s
  | _, _, _, _, .cons r t, s => .cons r (Vals.append t s)
theorem Vals.take : ∀ {xs : List V} {us : List Value} (n : Nat), Vals xs us → Vals (xs.take n) (us.take n)
  | _, _, 0, _ => .nil
  | _, _, _ + 1, .nil => .nil
  | _, _, n + 1, .cons r t => .cons r (Vals.take n t)
theorem Vals.drop : ∀ {xs : List V} {us : List Value} (n : Nat), Vals xs us → Vals (xs.drop n) (us.drop n)
  | _, _, 0, r => r
  | _, _, _ + 1, .nil => .nil
  | _, _, n + 1, .cons _ t => Vals.drop n t
def RelO : Option V → Option Value → Prop
  | some v, some u => RelV v u
  | none, none => True
  | _, _ => False
def KV {κ : Type} : List (κ × V) → List (κ × Value) → Prop := Paired fun (p : κ × V) (q : κ × Value) => p.1 = q.1 ∧ RelV p.2 q.2

/-- a key of a dict (00_mix): an int or a text -/
def kV : Key → V
  | .inl i => .int i
  | .inr x => .str x

/-- what stands at a tracked address -/
inductive HO where
  /-- a list -/
  | lst (xs : List V)
  /-- a tuple (never changes) -/
  | tup (xs : List V)
  /-- a dict whose keys are ints and texts; one whose keys are tuples of ints and texts (the empty one is both) -/
  | dK (kvs : List (Key × V)) | dT (kvs : List (List Key × V))
  /-- a set of ints: its members, its size -/
  | set (S : Int → Bool) (n : Nat)
  /-- an instance of the class at C, its dict at dx, its attributes -/
  | ins (C dx : Addr) (fs : List (Str × V))
  /-- the dict of the instance at x -/
  | own (x : Addr)
  /-- the dict of an exception -/
  | xd (fs : List (Str × V))
  /-- a bound method, f of x -/
  | met (f x : Addr)
  /-- a range object lo, lo + 1, .. below hi -/
  | rng (lo hi : Int)
  /-- a thing that is known to the object (the script; a dict while a loop walks it): read, never written while it is so -/
  | frz (o : Obj) (u : HO)
  /-- a code object's table -/
  | tbl (ps : Array Value)
  /-- any other thing, by what is true of its one object (a def of one's own: SetO a S n := HO.ext fun h => ..) -/
  | ext (φ : Heap → Prop)

abbrev Hp := Addr → Option HO
def upd (H : Hp) (a : Addr) (o : HO) : Hp := fun b => if b = a then some o else H b
theorem upd_same {H : Hp} {a : Addr} {o : HO} : upd H a o a = some o := by unfold upd; rw [if_pos rfl]
theorem upd_ne {H : Hp} {a b : Addr} {o : HO} (h : b ≠ a) : upd H a o b = H b := by unfold upd; rw [if_neg h]
/-- two objects of different content stand apart -/
theorem ne_of {H : Hp} {a b : Addr} {o u : HO} (h : H a = some o) (h' : H b = some u) (d : o ≠ u) : a ≠ b := by
  intro e; subst e; rw [h] at h'; exact d (Option.some.inj h')
theorem ne_of_none {H : Hp} {a b : Addr} {o : HO} (h : H a = some o) (h' : H b = none) : a ≠ b := by
  intro e; subst e; rw [h] at h'; cases h'

section
variable (P : Program) (w : World)
def ObjOk (H : Hp) (h : Heap) (a : Addr) : HO → Prop
  | .lst xs => xs.length ≤ sizeLine ∧ ∃ (its : List Value) (n : Nat), Vals xs its ∧ h.get? a = some { cls := .type "list", data := .seq its.toArray n }
  | .tup xs => xs.length ≤ sizeLine ∧ ∃ its : List Value, Vals xs its ∧ IsTup h a its.toArray
  | .dK kvs => kvs.length ≤ sizeLine ∧ (a == sysModules) = false ∧ ∃ vs, KV kvs vs ∧ h.DictOf (mixKind P w) a vs
  | .dT kvs => kvs.length ≤ sizeLine ∧ (a == sysModules) = false ∧ ∃ xs : List (List Key × Addr × Value),
      Paired (fun (p : List Key × V) (q : List Key × Addr × Value) => p.1 = q.1 ∧ H q.2.1 = some (.tup (p.1.map kV)) ∧ RelV p.2 q.2.2) kvs xs ∧
      ∃ o es ep, h.get? a = some o ∧ o.ExactDict ∧ o.data = .dict es ep ∧ es.toList = xs.map (entryOfKey (tupleKind (mixKind P w))) ∧ (xs.map (·.1)).Nodup
  | .set S n => h.SetOf (intKind P w) a S n
  | .ins C dx fs => H dx = some (.own a) ∧ fs.length ≤ 1000 ∧ dx ≠ a ∧ h.get? a = some (PySem.W.instObj C dx) ∧
      ∃ mA, h.Ns1 dx mA ∧ (∀ f, RelO (fs.lookup f) (mA f)) ∧ PySem.Within mA (fs.map (·.1))
  | .own _ => ∃ o, h.get? a = some o
  | .xd fs => ∃ mA, h.Ns1 a mA ∧ ∀ f, RelO (fs.lookup f) (mA f)
  | .rng lo hi => ∃ t u v, h.get? a = some { cls := .type "range", data := .fields #[.int lo t, .int hi u, .int 1 v] }
  | .frz o u => h.get? a = some o ∧ ObjOk H h a u
  | .tbl ps => h.get? a = some { cls := .none, data := .fields ps }
  | .met f x => h.get? a = some (PySem.W.methodObj (.ref f) (.ref x))
  | .ext φ => φ h ∧ (∃ o, h.get? a = some o) ∧ ∀ h1 h2 : Heap, φ h1 → (∀ o, h1.get? a = some o → h2.get? a = some o) → φ h2
/-- the abstract heap is held -/
def HOk (H : Hp) (h : Heap) : Prop := ∀ a o, H a = some o → ObjOk P w H h a o
end

section
variable {P : Program} {w : World} {H H' : Hp} {h h' : Heap} {a : Addr} {o : HO}
theorem ObjOk.lt (x : ObjOk P w H h a o) : a < h.objs.size := by
  cases o with
  | lst xs => obtain ⟨_, _, _, _, e⟩ := x; exact Heap.lt_size e
  | tup xs => obtain ⟨_, _, _, p⟩ := x; exact p.lt
  | dK kvs => obtain ⟨_, _, _, _, o, _, _, e, _⟩ := x; exact Heap.lt_size e
  | dT kvs => obtain ⟨_, _, _, _, o, _, _, e, _⟩ := x; exact Heap.lt_size e
  | set S n => obtain ⟨o, _, _, _, e, _⟩ := x; exact Heap.lt_size e
  | ins C dx fs => obtain ⟨_, _, _, e, _⟩ := x; exact Heap.lt_size e
  | own y => obtain ⟨_, e⟩ := x; exact Heap.lt_size e
  | xd fs => obtain ⟨_, ⟨_, _, _, e, _⟩, _⟩ := x; exact Heap.lt_size e
  | rng lo hi => obtain ⟨_, _, _, e⟩ := x; exact Heap.lt_size e
  | frz ob u => obtain ⟨e, _⟩ := x; exact Heap.lt_size e
  | tbl ps => exact Heap.lt_size (show h.get? a = some _ from x)
  | met f y => exact Heap.lt_size (show h.get? a = some _ from x)
  | ext φ => obtain ⟨_, ⟨_, e⟩, _⟩ := x; exact Heap.lt_size e
theorem Paired.mapP {α β : Type} {F G : α → β → Prop} : ∀ {l₁ : List α} {l₂ : List β}, Paired F l₁ l₂ → (∀ a b, F a b → G a b) → Paired G l₁ l₂
  | _, _, .nil, _ => .nil
  | _, _, .cons r t, f => .cons (f _ _ r) (Paired.mapP t f)
/-- what an object's description leans on: its own object, its own dict, the tuples -/
theorem ObjOk.stay (x : ObjOk P w H h a o) (k : ∀ b u, (b = a ∨ H b = some (.own a)) → h.get? b = some u → h'.get? b = some u)
    (ho : ∀ b, H b = some (.own a) → H' b = some (.own a)) (ht : ∀ b xs, H b = some (.tup xs) → H' b = some (.tup xs)) : ObjOk P w H' h' a o := by
  induction o with
  | lst xs => obtain ⟨z, its, n, r, e⟩ := x; exact ⟨z, its, n, r, k _ _ (.inl rfl) e⟩
  | tup xs => obtain ⟨z, its, r, ob, e, c⟩ := x; exact ⟨z, its, r, ob, k _ _ (.inl rfl) e, c⟩
  | dK kvs => obtain ⟨z, y, vs, r, ob, es, ep, e, c⟩ := x; exact ⟨z, y, vs, r, ob, es, ep, k _ _ (.inl rfl) e, c⟩
  | dT kvs =>
    obtain ⟨z, y, xs, r, ob, es, ep, e, c⟩ := x
    exact ⟨z, y, xs, Paired.mapP r fun p q z => ⟨z.1, ht _ _ z.2.1, z.2.2⟩, ob, es, ep, k _ _ (.inl rfl) e, c⟩
  | set S n => obtain ⟨ob, es, ep, t, e, c⟩ := x; exact ⟨ob, es, ep, t, k _ _ (.inl rfl) e, c⟩
  | ins C dx fs =>
    obtain ⟨d, z, ne, e, mA, ⟨od, es, ep, e2, c⟩, r⟩ := x
    exact ⟨ho _ d, z, ne, k _ _ (.inl rfl) e, mA, ⟨od, es, ep, k _ _ (.inr d) e2, c⟩, r⟩
  | own y => obtain ⟨ob, e⟩ := x; exact ⟨ob, k _ _ (.inl rfl) e⟩
  | xd fs => obtain ⟨mA, ⟨od, es, ep, e, c⟩, r⟩ := x; exact ⟨mA, ⟨od, es, ep, k _ _ (.inl rfl) e, c⟩, r⟩
  | rng lo hi => obtain ⟨t, u, v, e⟩ := x; exact ⟨t, u, v, k _ _ (.inl rfl) e⟩
  | frz ob u ih => obtain ⟨e, q⟩ := x; exact ⟨k _ _ (.inl rfl) e, ih q⟩
  | tbl ps =>
    have e : h.get? a = some { cls := .none, data := .fields ps } := x
    show h'.get? a = some { cls := .none, data := .fields ps }
    exact k a _ (.inl rfl) e
  | met f y =>
    have e : h.get? a = some (PySem.W.methodObj (.ref f) (.ref y)) := x
    show h'.get? a = some (PySem.W.methodObj (.ref f) (.ref y))
    exact k a _ (.inl rfl) e
  | ext φ => obtain ⟨p, ⟨o, e⟩, st⟩ := x; exact ⟨st _ _ p fun o q => k _ _ (.inl rfl) q, ⟨o, k _ _ (.inl rfl) e⟩, st⟩
theorem HOk.lt (x : HOk P w H h) (e : H a = some o) : a < h.objs.size := (x a o e).lt
theorem HOk.fresh (x : HOk P w H h) (e : h.objs.size ≤ a) : H a = none := by
  cases q : H a with
  | none => rfl
  | some u => exact absurd (Nat.lt_of_lt_of_le (x.lt q) e) (Nat.lt_irrefl _)
/-- every object of the heap is kept -/
theorem HOk.kept (x : HOk P w H h) (k : ∀ b u, h.get? b = some u → h'.get? b = some u) : HOk P w H h' := fun a o e =>
  (x a o e).stay (fun b u _ q => k b u q) (fun _ q => q) fun _ _ q => q
/-- a new object is laid and tracked -/
theorem HOk.laid (x : HOk P w H h) (k : ∀ b u, h.get? b = some u → h'.get? b = some u) (hp : h.objs.size ≤ a) (new : ObjOk P w (upd H a o) h' a o) : HOk P w (upd H a o) h' := fun b u e => by
  have hn := x.fresh hp
  by_cases hb : b = a
  · subst hb; rw [upd_same] at e; cases e; exact new
  · rw [upd_ne hb] at e
    exact (x b u e).stay (fun c v _ q => k c v q) (fun c q => by rw [upd_ne (ne_of_none q hn)]; exact q) fun c xs q => by rw [upd_ne (ne_of_none q hn)]; exact q
end

/-- what may be read as u: it is u, or a known u -/
def Rd (H : Hp) (a : Addr) (u : HO) : Prop := H a = some u ∨ ∃ o, H a = some (.frz o u)
theorem Rd.ok {P : Program} {w : World} {H : Hp} {h : Heap} {a : Addr} {u : HO} (r : Rd H a u) (x : HOk P w H h) : ObjOk P w H h a u := by
  rcases r with r | ⟨o, r⟩
  · exact x a u r
  · obtain ⟨_, q⟩ := x a _ r
    exact q
/-- what may be written -/
def Mut : Option HO → Prop
  | some (.lst _) => True
  | some (.dK _) => True
  | some (.dT _) => True
  | some (.set _ _) => True
  | some (.ins _ _ _) => True
  | some (.ext _) => True
  | _ => False
section
variable {P : Program} {w : World} {H : Hp} {h h' : Heap} {x e : Addr} {o' : HO}
/-- the object at e is changed: x itself, or the dict of the instance x -/
theorem HOk.write (ok : HOk P w H h) (mu : Mut (H x)) (he : e = x ∨ H e = some (.own x)) (k : ∀ b u, b ≠ e → h.get? b = some u → h'.get? b = some u) (heo : ∃ u, h'.get? e = some u)
    (new : ObjOk P w (upd H x o') h' x o') : HOk P w (upd H x o') h' := fun b u q => by
  have nown : ∀ c y, H c = some (.own y) → c ≠ x := fun c y r z => by subst z; rw [r] at mu; exact mu
  have ntup : ∀ c xs, H c = some (.tup xs) → c ≠ x := fun c xs r z => by subst z; rw [r] at mu; exact mu
  by_cases hb : b = x
  · subst hb; rw [upd_same] at q; cases q; exact new
  · rw [upd_ne hb] at q
    by_cases hbe : b = e
    · have q' : H b = some (.own x) := by
        rcases he with z | z
        · exact absurd (hbe.trans z) hb
        · rw [hbe]; exact z
      rw [q] at q'; cases q'
      obtain ⟨v, hv⟩ := heo
      exact ⟨v, by rw [hbe]; exact hv⟩
    · refine (ok b u q).stay (fun c v hc r => k c v ?_ r) (fun c r => by rw [upd_ne (nown c b r)]; exact r) fun c xs r => by rw [upd_ne (ntup c xs r)]; exact r
      rcases hc with rfl | hc
      · exact hbe
      · rintro rfl
        rcases he with z | z
        · exact nown c b hc z
        · rw [hc] at z; cases z; exact hb rfl
end

/-! ### kept unless tracked; of the frames at fs (the callers') the slots may change (an exception that passes writes there); of the records at ex (iterators) nothing is said -/
structure Un (fs ex : List Addr) (H H' : Hp) (h h' : Heap) : Prop where
  keep : ∀ b o, h.get? b = some o → H b = none → b ∉ fs → b ∉ ex → h'.get? b = some o
  slot : ∀ b o, h.get? b = some o → H b = none → b ∈ fs → b ∉ ex → ∃ sl, h'.get? b = some { o with slots := sl }
  free : ∀ b o, h.get? b = some o → H b = none → b ∉ ex → H' b = none
  there : ∀ b o, h.get? b = some o → b ∉ ex → ∃ o', h'.get? b = some o'
  tups : ∀ b xs, H b = some (.tup xs) → H' b = some (.tup xs)
  frzs : ∀ b o u, H b = some (.frz o u) → H' b = some (.frz o u)
  tbls : ∀ b ps, H b = some (.tbl ps) → ∃ more, H' b = some (.tbl (ps ++ more))
section
variable {fs fs' ex ex' : List Addr} {H H1 H2 : Hp} {h h1 h2 h' : Heap} {a x e : Addr} {o : HO}
theorem Un.any (u : Un fs ex H H1 h h1) {b : Addr} {ob : Obj} (q : h.get? b = some ob) (n : H b = none) (hx : b ∉ ex) : ∃ sl, h1.get? b = some { ob with slots := sl } := by
  by_cases hb : b ∈ fs
  · exact u.slot b ob q n hb hx
  · exact ⟨ob.slots, u.keep b ob q n hb hx⟩
theorem Un.kept (k : ∀ b u, h.get? b = some u → h'.get? b = some u) : Un fs ex H H h h' :=
  ⟨fun b ob q _ _ _ => k b ob q, fun b ob q _ _ _ => ⟨ob.slots, k b ob q⟩, fun _ _ _ n _ => n, fun b ob q _ => ⟨ob, k b ob q⟩, fun _ _ q => q, fun _ _ _ q => q, fun _ ps q => ⟨#[], by rw [q]; simp⟩⟩
theorem Un.refl : Un fs ex H H h h := Un.kept fun _ _ q => q
theorem Un.laid (k : ∀ b u, h.get? b = some u → h'.get? b = some u) (hp : h.objs.size ≤ a) (hn : H a = none) : Un fs ex H (upd H a o) h h' where
  keep := fun b u q _ _ _ => k b u q
  slot := fun b u q _ _ _ => ⟨u.slots, k b u q⟩
  free := fun b u q n _ => by rw [upd_ne (Nat.ne_of_lt (Nat.lt_of_lt_of_le (Heap.lt_size q) hp))]; exact n
  there := fun b u q _ => ⟨u, k b u q⟩
  tups := fun b xs q => by rw [upd_ne (ne_of_none q hn)]; exact q
  frzs := fun b u xs q => by rw [upd_ne (ne_of_none q hn)]; exact q
  tbls := fun b ps q => ⟨#[], by rw [upd_ne (ne_of_none q hn), q]; simp⟩
theorem Un.write (mu : Mut (H x)) (he : e = x ∨ H e = some (.own x)) (k : ∀ b u, b ≠ e → h.get? b = some u → h'.get? b = some u) (heo : ∃ u, h'.get? e = some u) : Un fs ex H (upd H x o) h h' := by
  have hx : ∀ b, H b = none → b ≠ x := fun b n z => by subst z; rw [n] at mu; exact mu
  have hb : ∀ b, H b = none → b ≠ e := fun b n z => by
    subst z
    rcases he with r | r
    · exact hx b n r
    · rw [n] at r; cases r
  have hm : ∀ b u, H b = some u → ¬ Mut (some u) → b ≠ x := fun b u q nm z => by subst z; rw [q] at mu; exact nm mu
  refine ⟨fun b u q n _ _ => k b u (hb b n) q, fun b u q n _ _ => ⟨u.slots, k b u (hb b n) q⟩, fun b u q n _ => by rw [upd_ne (hx b n)]; exact n, fun b u q _ => ?_,
    fun b xs q => by rw [upd_ne (hm b _ q fun z => z)]; exact q, fun b u xs q => by rw [upd_ne (hm b _ q fun z => z)]; exact q, fun b ps q => ⟨#[], by rw [upd_ne (hm b _ q fun z => z), q]; simp⟩⟩
  by_cases hbe : b = e
  · subst hbe; exact heo
  · exact ⟨u, k b u hbe q⟩
end

/-! ### the heap without what is tracked -/
def trk (h : Heap) (H : Hp) : List Addr := (List.range h.objs.size).filter fun a => (H a).isSome
def hidT (h : Heap) (H : Hp) : Heap := PySem.W.hideAll h (trk h H)
theorem hidT_size (h : Heap) (H : Hp) : (hidT h H).objs.size = h.objs.size := PySem.W.hideAll_size _ _
theorem hidT_get {h : Heap} {H : Hp} {b : Addr} {o : Obj} (e : h.get? b = some o) (n : H b = none) : (hidT h H).get? b = some o :=
  PySem.W.hideAll_get _ e fun hm => by
    have q : (H b).isSome = true := (List.mem_filter.mp hm).2
    rw [n] at q; simp at q
theorem of_hidT {h : Heap} {H : Hp} {b : Addr} {o : Obj} (e : (hidT h H).get? b = some o) : h.get? b = some o ∧ H b = none := by
  have e' : h.get? b = some o := PySem.W.of_hideAll (trk h H) e
  refine ⟨e', ?_⟩
  cases q : H b with
  | none => rfl
  | some x =>
    have hm : b ∈ trk h H := List.mem_filter.mpr ⟨List.mem_range.mpr (Heap.lt_size e'), by simp [q]⟩
    have z : (hidT h H).get? b = none := PySem.W.hideAll_none (trk h H) hm
    rw [z] at e; cases e

/-! ### OpenK's ledger, filled with every new object but one -/
def allNews (g h : Heap) (L : Addr) : List (Addr × Obj) := (List.range h.objs.size).filterMap fun a => if a = L ∨ (g.get? a).isSome = true then none else (h.get? a).map fun o => (a, o)
def rest (g h : Heap) (L d : Addr) : List (Addr × Obj) := (allNews g h L).filter fun p => decide (p.1 ≠ d)
end L2

namespace L2
open PySem PySem.Spec PyProof.Rows

/-- the module's facts, over the base: the heap at the law's entry without what is tracked there -/
structure Mod (K : PySem.W.Frag) (mg : Str → Option Value) (base : Heap) : Prop where
  kin : K.In base
  glob : base.Ns mainGlobals mg
  blt : ∃ mb, base.Ns builtinsNs mb ∧ ∀ x : Str, x ≠ "__name__" → mb x = bootBuiltins x
  nolimit : base.NoLimit

/-- the context: a def's body (or a comprehension's block) running. base: fixed through the whole law; s₀, H₀: the entry; outer: the frames whose slots others may change (a def's callers); stack: all frames that run;
   ex: iterators that were made ahead of the entry and are walked here (a comprehension's); fn: the names whose cells were made at the entry (a def: all; a comprehension's block: its own); calm: not within an except suite; pn: pins that every state bears; xe: what is wanted of an exception that leaves the code -/
structure Cx where
  prog : Program
  w : World
  K : PySem.W.Frag
  mg : Str → Option Value
  base : Heap
  A : Around
  N : List Str
  s₀ : Shared
  H₀ : Hp
  env : Env
  outer : List Env
  stack : List Env
  ex : List Addr
  fn : Str → Bool
  calm : Bool
  pn : List (Addr × Obj)
  xe : Value → Shared → Prop
/-- the callers' frames -/
def frs (l : List Env) : List Addr := l.filterMap (·.frame)
abbrev Cx.fs (X : Cx) : List Addr := frs X.outer

def Vis (sc : Scope) (x : Str) : Prop := sc.names.lookup x = some .local ∨ sc.names.lookup x = some .cell ∨ sc.names.lookup x = some .free
def Loc (sc : Scope) (x : Str) : Prop := sc.names.lookup x = some .local ∨ sc.names.lookup x = some .cell
def Look (env : Env) (h : Heap) (m : Str → Option Value) (x : Str) (u : Value) : Prop :=
  (env.kindOf x = some .local ∧ m x = some u) ∨ ((env.kindOf x = some .cell ∨ env.kindOf x = some .free) ∧ ∃ c, env.cells.lookup x = some c ∧ h.IsCell c (some u))

structure Cx.Ok (X : Cx) : Prop where
  mod : Mod X.K X.mg X.base
  kind : X.env.scope.kind = .function
  glob : X.env.globals = mainGlobals
  blt : X.env.builtins = builtinsNs
  above : X.s₀.heap.objs.size ≤ X.env.locals
  inj : ∀ x y c, X.env.cells.lookup x = some c → X.env.cells.lookup y = some c → x = y
  has : ∀ x, (X.env.kindOf x = some .cell ∨ X.env.kindOf x = some .free) → ∃ c, X.env.cells.lookup x = some c
  cab : ∀ x c, X.fn x = true → X.env.cells.lookup x = some c → X.s₀.heap.objs.size ≤ c
  hd : X.calm = true → X.A.handled = none
  frames : X.A.frames = some X.stack
  stk : X.stack = X.outer ∨ (X.stack = X.env :: X.outer ∧ X.env.frame = some X.env.locals)
  exf : ∀ b ∈ X.ex, b ≠ X.env.locals ∧ ∀ x c, X.env.cells.lookup x = some c → c ≠ b
  bs : ∀ b o, X.base.get? b = some o → X.s₀.heap.get? b = some o ∧ X.H₀ b = none
  bsz : X.base.objs.size ≤ X.s₀.heap.objs.size
  noex : ∀ b o, X.base.get? b = some o → b ∉ X.ex
  exfs : ∀ b ∈ X.ex, b ∉ X.fs
  funs : X.s₀.heap.FunFrames X.base X.outer
  frf : ∀ b ∈ X.fs, X.H₀ b = none

structure Inv (X : Cx) (pins : List (Addr × Obj)) (σ : List (Option V)) (H : Hp) (s : Shared) : Prop where
  ok : X.Ok
  os : s.os = X.s₀.os
  bare : AllBare s.gens
  base : Un X.fs X.ex X.H₀ H X.s₀.heap s.heap
  loc : ∃ m, s.heap.Ns X.env.locals m ∧ ∀ (i : Nat) (x : Str) (v : V), X.N[i]? = some x → σ[i]? = some (some v) → Vis X.env.scope x → ∃ u, RelV v u ∧ Look X.env s.heap m x u
  cell : ∀ x c, X.env.cells.lookup x = some c → ∃ v, s.heap.IsCell c v
  free : H X.env.locals = none
  freeC : ∀ x c, X.env.cells.lookup x = some c → H c = none
  pin : ∀ p ∈ X.pn ++ pins, s.heap.get? p.1 = some p.2 ∧ H p.1 = none ∧ p.1 ≠ X.env.locals ∧ p.1 ∉ X.fs ∧ ∀ v, p.2.data ≠ .cell v
  hok : HOk X.prog X.w H s.heap
  len : σ.length = X.N.length

section
variable {X : Cx} {pins : List (Addr × Obj)} {σ : List (Option V)} {H H' : Hp} {s : Shared} {h' : Heap}

theorem Cx.Ok.nofr (ok : X.Ok) {b : Addr} {o : Obj} (e : X.base.get? b = some o) : b ∉ X.fs := fun hb => by
  have := (ok.funs.mem hb).1
  rw [e] at this; cases this
theorem Inv.bs (I : Inv X pins σ H s) : ∀ b o, X.base.get? b = some o → s.heap.get? b = some o ∧ H b = none := fun b o e =>
  ⟨I.base.keep b o (I.ok.bs b o e).1 (I.ok.bs b o e).2 (I.ok.nofr e) (I.ok.noex b o e), I.base.free b o (I.ok.bs b o e).1 (I.ok.bs b o e).2 (I.ok.noex b o e)⟩
theorem Inv.bk (I : Inv X pins σ H s) : ∀ b o, X.base.get? b = some o → s.heap.get? b = some o := fun b o e => (I.bs b o e).1
theorem Inv.mod (I : Inv X pins σ H s) : Mod X.K X.mg X.base := I.ok.mod
theorem Inv.kIn (I : Inv X pins σ H s) : X.K.In s.heap := I.ok.mod.kin.keeps I.bk
theorem Inv.lt (I : Inv X pins σ H s) : X.env.locals < s.heap.objs.size := let ⟨_, hn, _⟩ := I.loc; hn.lt
theorem Inv.sz (I : Inv X pins σ H s) : X.s₀.heap.objs.size ≤ s.heap.objs.size := Nat.le_trans I.ok.above (Nat.le_of_lt I.lt)
theorem Inv.nofs (I : Inv X pins σ H s) {a : Addr} (h : s.heap.objs.size ≤ a) : a ∉ X.fs := fun hb => by
  obtain ⟨_, o, ho, _⟩ := I.ok.funs.mem hb
  exact absurd (Nat.lt_of_lt_of_le (Heap.lt_size ho) (Nat.le_trans I.sz h)) (Nat.lt_irrefl _)
theorem Inv.cne (I : Inv X pins σ H s) : ∀ x c, X.env.cells.lookup x = some c → c ≠ X.env.locals := fun x c e z => by
  obtain ⟨v, o, ho, hd⟩ := I.cell x c e
  obtain ⟨m, ⟨o', es, ep, ho', hd', _⟩, _⟩ := I.loc
  rw [z, ho'] at ho; cases ho; rw [hd'] at hd; cases hd
theorem Inv.funs (I : Inv X pins σ H s) : s.heap.FunFrames X.base X.outer := by
  have all : ∀ (l : List Env), (∀ b ∈ frs l, b ∈ X.fs) → X.s₀.heap.FunFrames X.base l → s.heap.FunFrames X.base l := by
    intro l
    induction l with
    | nil => intro _ _; trivial
    | cons env r ih =>
      intro hs hl
      obtain ⟨hk, ⟨L, o, hf, hn, ho, hd⟩, hr⟩ := hl
      have hL : L ∈ X.fs := hs L (by unfold frs; rw [List.filterMap_cons, hf]; exact List.mem_cons_self)
      obtain ⟨sl, e⟩ := I.base.slot L o ho (I.ok.frf L hL) hL fun z => I.ok.exfs L z hL
      exact ⟨hk, ⟨L, _, hf, hn, e, hd⟩, ih (fun b hb => hs b (by unfold frs; rw [List.filterMap_cons, hf]; exact List.mem_cons_of_mem _ hb)) hr⟩
  exact all X.outer (fun _ hb => hb) I.ok.funs

/-- the frames that run, for a call -/
theorem Inv.stack (I : Inv X pins σ H s) : s.heap.FunFrames X.base X.stack := by
  rcases I.ok.stk with e | ⟨e, hf⟩
  · rw [e]; exact I.funs
  · rw [e]
    obtain ⟨m, hn, _⟩ := I.loc
    refine .cons (by rw [I.ok.kind]; decide) hf hn ?_ I.funs
    exact Heap.get?_none_of_le (Nat.le_trans I.ok.bsz I.ok.above)
theorem Inv.stkSub (I : Inv X pins σ H s) : ∀ b ∈ frs X.stack, b ∈ X.env.locals :: X.fs := fun b hb => by
  rcases I.ok.stk with e | ⟨e, hf⟩
  · rw [e] at hb; exact List.mem_cons_of_mem _ hb
  · rw [e] at hb
    unfold frs at hb
    rw [List.filterMap_cons, hf] at hb
    exact hb
theorem Inv.stkFree (I : Inv X pins σ H s) : ∀ b ∈ frs X.stack, H b = none := fun b hb => by
  rcases List.mem_cons.mp (I.stkSub b hb) with e | hb
  · rw [e]; exact I.free
  · obtain ⟨_, o, ho, _⟩ := I.ok.funs.mem hb
    exact I.base.free b o ho (I.ok.frf b hb) fun z => I.ok.exfs b z hb

/-- THE STEP: the untracked objects but the frame and the records at ch are kept (the callers' frames up to slots), the frame's map is kept, the new abstract heap is held -/
theorem Inv.step {g' : Array GenState} {t' : Nat} {d' : Drawn} {ch : List Addr} (I : Inv X pins σ H s)
    (hch : ∀ b ∈ ch, (b ∈ X.ex ∨ X.s₀.heap.objs.size ≤ b) ∧ b ≠ X.env.locals ∧ (∀ x c, X.env.cells.lookup x = some c → c ≠ b) ∧ ∀ p ∈ X.pn ++ pins, p.1 ≠ b)
    (keep : ∀ b o, b ≠ X.env.locals → b ∉ X.fs → b ∉ ch → s.heap.get? b = some o → H b = none → h'.get? b = some o)
    (slot : ∀ b o, b ≠ X.env.locals → b ∈ X.fs → b ∉ ch → s.heap.get? b = some o → H b = none → ∃ sl, h'.get? b = some { o with slots := sl }) (free : ∀ b o, b ∉ ch → s.heap.get? b = some o → H b = none → H' b = none)
    (there : ∀ b o, b ∉ ch → s.heap.get? b = some o → ∃ o', h'.get? b = some o')
    (tups : ∀ b xs, H b = some (.tup xs) → H' b = some (.tup xs)) (frzs : ∀ b o u, H b = some (.frz o u) → H' b = some (.frz o u)) (tbls : ∀ b ps, H b = some (.tbl ps) → ∃ more, H' b = some (.tbl (ps ++ more)))
    (ns : ∀ m, s.heap.Ns X.env.locals m → h'.Ns X.env.locals m) (hok : HOk X.prog X.w H' h') (hg : AllBare g') :
    Inv X pins σ H' { s with heap := h', gens := g', drawn := d', toks := t' } := by
  have neL : ∀ b o, X.s₀.heap.get? b = some o → b ≠ X.env.locals := fun b o e => Nat.ne_of_lt (Nat.lt_of_lt_of_le (Heap.lt_size e) I.ok.above)
  have neC : ∀ b o, X.s₀.heap.get? b = some o → b ∉ X.ex → b ∉ ch := fun b o e hx hb => by
    rcases (hch b hb).1 with z | z
    · exact hx z
    · exact absurd (Nat.lt_of_lt_of_le (Heap.lt_size e) z) (Nat.lt_irrefl _)
  have cellK : ∀ x c, X.env.cells.lookup x = some c → ∀ v, s.heap.IsCell c v → h'.IsCell c v := fun x c e v ⟨o, ho, hd⟩ => by
    have nch : c ∉ ch := fun z => (hch c z).2.2.1 x c e rfl
    by_cases hc : c ∈ X.fs
    · obtain ⟨sl, q⟩ := slot c o (I.cne x c e) hc nch ho (I.freeC x c e)
      exact ⟨_, q, hd⟩
    · exact ⟨o, keep c o (I.cne x c e) hc nch ho (I.freeC x c e), hd⟩
  refine ⟨I.ok, I.os, hg, ⟨fun b o e n hb hx => ?_, fun b o e n hb hx => ?_, fun b o e n hx => ?_, fun b o e hx => ?_, fun b xs e => tups b xs (I.base.tups b xs e), fun b o xs e => frzs b o xs (I.base.frzs b o xs e), fun b ps e => ?_⟩, ?_, fun x c e => ?_, ?_, fun x c e => ?_, fun p hp => ?_, hok, I.len⟩
  · exact keep b o (neL b o e) hb (neC b o e hx) (I.base.keep b o e n hb hx) (I.base.free b o e n hx)
  · obtain ⟨sl, e1⟩ := I.base.slot b o e n hb hx
    obtain ⟨sl', e2⟩ := slot b _ (neL b o e) hb (neC b o e hx) e1 (I.base.free b o e n hx)
    exact ⟨sl', e2⟩
  · obtain ⟨o', e1⟩ := I.base.there b o e hx
    exact free b o' (neC b o e hx) e1 (I.base.free b o e n hx)
  · obtain ⟨o', e1⟩ := I.base.there b o e hx
    exact there b o' (neC b o e hx) e1
  · obtain ⟨m1, e1⟩ := I.base.tbls b ps e
    obtain ⟨m2, e2⟩ := tbls b _ e1
    exact ⟨m1 ++ m2, by rw [e2, Array.append_assoc]⟩
  · obtain ⟨m, hn, hl⟩ := I.loc
    refine ⟨m, ns m hn, fun i x v e1 e2 e3 => ?_⟩
    obtain ⟨u, r, l⟩ := hl i x v e1 e2 e3
    refine ⟨u, r, ?_⟩
    rcases l with l | ⟨k, c, e, z⟩
    · exact .inl l
    · exact .inr ⟨k, c, e, cellK x c e _ z⟩
  · obtain ⟨v, z⟩ := I.cell x c e
    exact ⟨v, cellK x c e v z⟩
  · obtain ⟨m, ⟨o, _, _, ho, _⟩, _⟩ := I.loc
    exact free _ o (fun z => (hch _ z).2.1 rfl) ho I.free
  · obtain ⟨v, o, ho, hd⟩ := I.cell x c e
    exact free c o (fun z => (hch c z).2.2.1 x c e rfl) ho (I.freeC x c e)
  · obtain ⟨e, n, ne, nf, d⟩ := I.pin p hp
    have nch : p.1 ∉ ch := fun z => (hch p.1 z).2.2.2 p hp rfl
    exact ⟨keep p.1 p.2 ne nf nch e n, free p.1 p.2 nch e n, ne, nf, d⟩
/-- .. where the frame's own object is kept too -/
theorem Inv.un {t' : Nat} (I : Inv X pins σ H s) (u : Un X.fs [] H H' s.heap h') (hok : HOk X.prog X.w H' h') : Inv X pins σ H' { s with heap := h', toks := t' } := by
  obtain ⟨m, ⟨o, es, ep, ho, r⟩, _⟩ := id I.loc
  obtain ⟨sl, hL⟩ := u.any ho I.free (by simp)
  exact I.step (g' := s.gens) (d' := s.drawn) (ch := []) (fun _ z => nomatch z) (fun b o _ hb _ e n => u.keep b o e n hb (by simp)) (fun b o _ hb _ e n => u.slot b o e n hb (by simp)) (fun b o _ e n => u.free b o e n (by simp)) (fun b o _ e => u.there b o e (by simp)) u.tups u.frzs u.tbls (fun m' hm => by
    obtain ⟨o', es', ep', ho', r'⟩ := hm
    rw [ho] at ho'; cases ho'
    exact ⟨_, es', ep', hL, r'⟩) hok I.bare
/-- behind a call (or a comprehension's block): the slots of this frame may have changed too, the records at ch may have turned -/
theorem Inv.call {g' : Array GenState} {t' : Nat} {d' : Drawn} {ch : List Addr} (I : Inv X pins σ H s) (u : Un (frs X.stack) ch H H' s.heap h') (hok : HOk X.prog X.w H' h') (hg : AllBare g')
    (hch : ∀ b ∈ ch, (b ∈ X.ex ∨ X.s₀.heap.objs.size ≤ b) ∧ b ≠ X.env.locals ∧ (∀ x c, X.env.cells.lookup x = some c → c ≠ b) ∧ ∀ p ∈ X.pn ++ pins, p.1 ≠ b) :
    Inv X pins σ H' { s with heap := h', gens := g', drawn := d', toks := t' } := by
  obtain ⟨m, ⟨o, es, ep, ho, r⟩, _⟩ := id I.loc
  obtain ⟨sl, hL⟩ := u.any ho I.free fun z => (hch _ z).2.1 rfl
  exact I.step (ch := ch) hch (fun b o hL hb hc e n => u.keep b o e n (fun z => (List.mem_cons.mp (I.stkSub b z)).elim hL hb) hc) (fun b o _ _ hc e n => u.any e n hc) (fun b o hc e n => u.free b o e n hc) (fun b o hc e => u.there b o e hc) u.tups u.frzs u.tbls (fun m' hm => by
    obtain ⟨o', es', ep', ho', r'⟩ := hm
    rw [ho] at ho'; cases ho'
    exact ⟨_, es', ep', hL, r'⟩) hok hg
/-- an untracked record of ours (an iterator) has turned -/
theorem Inv.turned {t' : Nat} {it : Addr} (I : Inv X pins σ H s) (k : ∀ b o, b ≠ it → s.heap.get? b = some o → h'.get? b = some o) (hn : H it = none) (hL : it ≠ X.env.locals)
    (h1 : it ∈ X.ex ∨ X.s₀.heap.objs.size ≤ it) (h2 : ∀ x c, X.env.cells.lookup x = some c → c ≠ it) (h3 : ∀ p ∈ X.pn ++ pins, p.1 ≠ it) : Inv X pins σ H { s with heap := h', toks := t' } := by
  have nit : ∀ b u, H b = some u → b ≠ it := fun b u e z => by rw [z, hn] at e; cases e
  refine I.step (g' := s.gens) (d' := s.drawn) (ch := [it]) (fun b hb => ?_) (fun b o _ _ hc e _ => k b o (fun z => hc (by simp [z])) e) (fun b o _ _ hc e _ => ⟨o.slots, k b o (fun z => hc (by simp [z])) e⟩) (fun _ _ _ _ n => n)
    (fun b o hc e => ⟨o, k b o (fun z => hc (by simp [z])) e⟩) (fun _ _ e => e) (fun _ _ _ e => e) (fun b ps e => ⟨#[], by rw [e]; simp⟩) (fun m hm => ?_) (fun b u e => ?_) I.bare
  · have e : b = it := by simpa using hb
    subst e
    exact ⟨h1, hL, h2, h3⟩
  · obtain ⟨o, es, ep, ho, r⟩ := hm
    exact ⟨o, es, ep, k _ o (Ne.symm hL) ho, r⟩
  · refine (I.hok b u e).stay (fun c v hc q => k c v ?_ q) (fun _ q => q) fun _ _ q => q
    rcases hc with z | z
    · rw [z]; exact nit b u e
    · exact nit c _ z
theorem Inv.tok (I : Inv X pins σ H s) (t : Nat) : Inv X pins σ H { s with toks := t } := I.un (h' := s.heap) (t' := t) Un.refl I.hok
/-- all objects kept -/
theorem Inv.kept {t' : Nat} (I : Inv X pins σ H s) (k : ∀ b u, s.heap.get? b = some u → h'.get? b = some u) : Inv X pins σ H { s with heap := h', toks := t' } := I.un (Un.kept k) (I.hok.kept k)
/-- a new object laid and tracked -/
theorem Inv.laid {a : Addr} {o : HO} {t' : Nat} (I : Inv X pins σ H s) (k : ∀ b u, s.heap.get? b = some u → h'.get? b = some u) (hp : s.heap.objs.size ≤ a) (new : ObjOk X.prog X.w (upd H a o) h' a o) :
    Inv X pins σ (upd H a o) { s with heap := h', toks := t' } := I.un (Un.laid k hp (I.hok.fresh hp)) (I.hok.laid k hp new)
/-- an object written -/
theorem Inv.write {x e : Addr} {o : HO} {t' : Nat} (I : Inv X pins σ H s) (mu : Mut (H x)) (he : e = x ∨ H e = some (.own x)) (k : ∀ b u, b ≠ e → s.heap.get? b = some u → h'.get? b = some u) (heo : ∃ u, h'.get? e = some u)
    (new : ObjOk X.prog X.w (upd H x o) h' x o) : Inv X pins σ (upd H x o) { s with heap := h', toks := t' } := I.un (Un.write mu he k heo) (I.hok.write mu he k heo new)
theorem Inv.pins_of {pins' : List (Addr × Obj)} (I : Inv X pins σ H s) (h : ∀ p ∈ pins', s.heap.get? p.1 = some p.2 ∧ H p.1 = none ∧ p.1 ≠ X.env.locals ∧ p.1 ∉ X.fs ∧ ∀ v, p.2.data ≠ .cell v) : Inv X pins' σ H s :=
  ⟨I.ok, I.os, I.bare, I.base, I.loc, I.cell, I.free, I.freeC, fun p hp => (List.mem_append.mp hp).elim (fun z => I.pin p (List.mem_append_left _ z)) (h p), I.hok, I.len⟩

theorem nodup_ix {N : List Str} (hN : N.Nodup) {i j : Nat} {x : Str} (a : N[i]? = some x) (b : N[j]? = some x) : i = j := by
  obtain ⟨h1, e1⟩ := List.getElem?_eq_some_iff.mp a
  obtain ⟨h2, e2⟩ := List.getElem?_eq_some_iff.mp b
  exact (List.getElem_inj hN).mp (e1.trans e2.symm)

/-- a name is stored; what changed -/
theorem store_ok2 {M : Model} {A : Around} {E : Value → Shared → Prop} {i : Nat} {x : Str} {v : V} {u : Value} {Q : Unit → Shared → Prop} (I : Inv X pins σ H s) (hN : X.N.Nodup) (hi : X.N[i]? = some x) (hx : Loc X.env.scope x) (r : RelV v u)
    (h : ∀ s', Inv X pins (σ.set i (some v)) H s' → (∃ a, Heap.SameBut a s.heap s'.heap ∧ (a = X.env.locals ∨ X.env.cells.lookup x = some a)) → Q () s') (hf : X.fn x = true ∨ X.env.scope.names.lookup x = some .local := by first | exact .inl rfl | exact .inr rfl | assumption) : wpAny M A (storeName X.env x u) Q E s := by
  obtain ⟨m, hn, hl⟩ := id I.loc
  have hcls : (X.env.scope.kind == .class || (X.env.scope.kind == .module && X.env.locals != X.env.globals)) = false := by rw [I.ok.kind]; rfl
  have hiσ : i < σ.length := by rw [I.len]; exact (List.getElem?_eq_some_iff.mp hi).1
  have cne := I.cne
  have tracked : ∀ {a : Addr} {h' : Heap}, (∃ o, s.heap.get? a = some o ∧ H a = none) → Heap.SameBut a s.heap h' → HOk X.prog X.w H h' := fun {a h'} ha hs b ob e => by
    obtain ⟨_, _, hfree⟩ := ha
    refine (I.hok b ob e).stay (fun c w' hc q => (hs.2 c ?_).trans q) (fun _ q => q) fun _ _ q => q
    rintro rfl
    rcases hc with rfl | hc
    · rw [hfree] at e; cases e
    · rw [hfree] at hc; cases hc
  rcases hx with hk | hk
  · refine wpAny_storeName_local hk hn (fun h' hn' hs => ?_) hcls
    obtain ⟨oL, _, _, hoL, _⟩ := id hn
    refine h _ ⟨I.ok, I.os, I.bare, ⟨fun b o e n hb hx => ?_, fun b o e n hb hx => ?_, I.base.free, fun b o e hx => ?_, I.base.tups, I.base.frzs, I.base.tbls⟩, ⟨_, hn', fun j y v' e1 e2 e3 => ?_⟩, fun y c e => ?_, I.free, I.freeC, fun p hp => ?_, tracked ⟨oL, hoL, I.free⟩ hs, by simpa using I.len⟩ ⟨_, hs, .inl rfl⟩
    · exact (hs.2 b (Nat.ne_of_lt (Nat.lt_of_lt_of_le (Heap.lt_size e) I.ok.above))).trans (I.base.keep b o e n hb hx)
    · obtain ⟨sl, e1⟩ := I.base.slot b o e n hb hx
      exact ⟨sl, (hs.2 b (Nat.ne_of_lt (Nat.lt_of_lt_of_le (Heap.lt_size e) I.ok.above))).trans e1⟩
    · obtain ⟨o', e1⟩ := I.base.there b o e hx
      exact ⟨o', (hs.2 b (Nat.ne_of_lt (Nat.lt_of_lt_of_le (Heap.lt_size e) I.ok.above))).trans e1⟩
    · by_cases hj : j = i
      · subst hj
        rw [hi] at e1; cases e1
        rw [List.getElem?_set_self hiσ] at e2
        cases e2
        exact ⟨u, r, .inl ⟨hk, by simp⟩⟩
      · rw [List.getElem?_set_ne (Ne.symm hj)] at e2
        obtain ⟨u', r', q⟩ := hl j y v' e1 e2 e3
        refine ⟨u', r', ?_⟩
        rcases q with ⟨k, e⟩ | ⟨k, c, e, z⟩
        · refine .inl ⟨k, ?_⟩
          have : y ≠ x := fun e => hj (nodup_ix hN e1 (e ▸ hi))
          simp [this, e]
        · exact .inr ⟨k, c, e, z.sameBut hs (cne y c e)⟩
    · obtain ⟨w', z⟩ := I.cell y c e
      exact ⟨w', z.sameBut hs (cne y c e)⟩
    · obtain ⟨e, n, ne, nf, d⟩ := I.pin p hp
      exact ⟨(hs.2 p.1 ne).trans e, n, ne, nf, d⟩
  · have hfn : X.fn x = true := by
      rcases hf with z | z
      · exact z
      · rw [z] at hk; cases hk
    obtain ⟨c, hc⟩ := I.ok.has x (.inl hk)
    obtain ⟨w', z⟩ := I.cell x c hc
    refine wpAny_storeName_cell I.ok.kind hk hc z (fun h' hc' hs => ?_)
    obtain ⟨oc, hoc, hocd⟩ := id z
    refine h { s with heap := h' } ⟨I.ok, I.os, I.bare, ⟨fun b o e n hb hx => ?_, fun b o e n hb hx => ?_, I.base.free, fun b o e hx => ?_, I.base.tups, I.base.frzs, I.base.tbls⟩, ⟨m, hn.sameBut hs (Ne.symm (cne x c hc)), fun j y v' e1 e2 e3 => ?_⟩, fun y c' e => ?_, I.free, I.freeC, fun p hp => ?_, tracked ⟨oc, hoc, I.freeC x c hc⟩ hs, by simpa using I.len⟩ ⟨c, hs, .inr hc⟩
    · exact (hs.2 b (Nat.ne_of_lt (Nat.lt_of_lt_of_le (Heap.lt_size e) (I.ok.cab x c hfn hc)))).trans (I.base.keep b o e n hb hx)
    · obtain ⟨sl, e1⟩ := I.base.slot b o e n hb hx
      exact ⟨sl, (hs.2 b (Nat.ne_of_lt (Nat.lt_of_lt_of_le (Heap.lt_size e) (I.ok.cab x c hfn hc)))).trans e1⟩
    · obtain ⟨o', e1⟩ := I.base.there b o e hx
      exact ⟨o', (hs.2 b (Nat.ne_of_lt (Nat.lt_of_lt_of_le (Heap.lt_size e) (I.ok.cab x c hfn hc)))).trans e1⟩
    · by_cases hj : j = i
      · subst hj
        rw [hi] at e1; cases e1
        rw [List.getElem?_set_self hiσ] at e2
        cases e2
        exact ⟨u, r, .inr ⟨.inl hk, c, hc, hc'⟩⟩
      · rw [List.getElem?_set_ne (Ne.symm hj)] at e2
        obtain ⟨u', r', q⟩ := hl j y v' e1 e2 e3
        refine ⟨u', r', ?_⟩
        rcases q with q | ⟨k, c', e, z'⟩
        · exact .inl q
        · refine .inr ⟨k, c', e, z'.sameBut hs ?_⟩
          rintro rfl
          exact hj (nodup_ix hN e1 (I.ok.inj _ _ _ e hc ▸ hi))
    · by_cases hcc : c' = c
      · subst hcc; exact ⟨_, hc'⟩
      · obtain ⟨w2, z2⟩ := I.cell y c' e
        exact ⟨w2, z2.sameBut hs hcc⟩
    · obtain ⟨e, n, ne, nf, d⟩ := I.pin p hp
      refine ⟨(hs.2 p.1 ?_).trans e, n, ne, nf, d⟩
      intro q
      rw [q, hoc] at e
      have q' : oc = p.2 := Option.some.inj e
      exact d w' (by rw [← q']; exact hocd)
theorem store_ok {M : Model} {A : Around} {E : Value → Shared → Prop} {i : Nat} {x : Str} {v : V} {u : Value} {Q : Unit → Shared → Prop} (I : Inv X pins σ H s) (hN : X.N.Nodup) (hi : X.N[i]? = some x) (hx : Loc X.env.scope x) (r : RelV v u)
    (h : ∀ s', Inv X pins (σ.set i (some v)) H s' → Q () s') (hf : X.fn x = true ∨ X.env.scope.names.lookup x = some .local := by first | exact .inl rfl | exact .inr rfl | assumption) : wpAny M A (storeName X.env x u) Q E s :=
  store_ok2 I hN hi hx r (fun s' I' _ => h s' I') hf
/-- behind a call or a block, the state as it is -/
theorem Inv.call' {s' : Shared} {ch : List Addr} (I : Inv X pins σ H s) (ho : s'.os = s.os) (u : Un (frs X.stack) ch H H' s.heap s'.heap) (hok : HOk X.prog X.w H' s'.heap) (hg : AllBare s'.gens)
    (hch : ∀ b ∈ ch, (b ∈ X.ex ∨ X.s₀.heap.objs.size ≤ b) ∧ b ≠ X.env.locals ∧ (∀ x c, X.env.cells.lookup x = some c → c ≠ b) ∧ ∀ p ∈ X.pn ++ pins, p.1 ≠ b) : Inv X pins σ H' s' := by
  obtain ⟨h', g', d', t', o'⟩ := s'
  have e : o' = s.os := ho
  subst e
  exact I.call (g' := g') (t' := t') (d' := d') u hok hg hch
end

/-! ### the judgements -/
/-- an exception: its class, its own dict's address (where it has one), the abstract heap behind it -/
abbrev XK := Value → Option Addr → Hp → Prop
abbrev St := List (Option V)
abbrev VK := V → Hp → Prop
/-- an expression's reading; a test's; an argument list's -/
abbrev TE := St → Hp → VK → Prop
abbrev TT := St → Hp → (Bool → Hp → Prop) → Prop
abbrev TA := St → Hp → (List V → Hp → Prop) → Prop
/-- what is wanted behind a statement -/
structure Ends where
  nx : St → Hp → Prop
  rt : VK
  bk : St → Hp → Prop := fun _ _ => False
  ct : St → Hp → Prop := fun _ _ => False
abbrev TS := Ends → St → Hp → Prop

def EP (X : Cx) (pins : List (Addr × Obj)) (σ : St) (Q : VK) (u : Value) (s' : Shared) : Prop := ∃ v H', Inv X pins σ H' s' ∧ RelV v u ∧ Q v H'
def TP (X : Cx) (pins : List (Addr × Obj)) (σ : St) (Q : Bool → Hp → Prop) (b : Bool) (s' : Shared) : Prop := ∃ H', Inv X pins σ H' s' ∧ Q b H'
def AP (X : Cx) (pins : List (Addr × Obj)) (σ : St) (Q : List V → Hp → Prop) (us : List Value) (s' : Shared) : Prop := ∃ vs H', Inv X pins σ H' s' ∧ Vals vs us ∧ Q vs H'
def SP (X : Cx) (pins : List (Addr × Obj)) (D : Ends) (f : Flow) (s' : Shared) : Prop :=
  match f with
  | .next => ∃ σ' H', Inv X pins σ' H' s' ∧ D.nx σ' H'
  | .brk => ∃ σ' H', Inv X pins σ' H' s' ∧ D.bk σ' H'
  | .cont => ∃ σ' H', Inv X pins σ' H' s' ∧ D.ct σ' H'
  | .ret u => ∃ v σ' H', Inv X pins σ' H' s' ∧ RelV v u ∧ D.rt v H'

def PE (X : Cx) (e : Expr) (t : TE) : Prop :=
  ∀ (pins : List (Addr × Obj)) (s : Shared) (σ : St) (H : Hp) (Q : VK), Inv X pins σ H s → t σ H Q → wpAny (model X.prog X.w) X.A (eval e X.env) (EP X pins σ Q) X.xe s
def PT (X : Cx) (e : Expr) (t : TT) : Prop :=
  ∀ (pins : List (Addr × Obj)) (s : Shared) (σ : St) (H : Hp) (Q : Bool → Hp → Prop), Inv X pins σ H s → t σ H Q → wpAny (model X.prog X.w) X.A (isTrue e X.env (eval e X.env)) (TP X pins σ Q) X.xe s
/-- a test whatever its 'whole' is (and, or) -/
def PW (X : Cx) (e : Expr) (t : TT) : Prop :=
  ∀ (whole : Sem Value) (pins : List (Addr × Obj)) (s : Shared) (σ : St) (H : Hp) (Q : Bool → Hp → Prop), Inv X pins σ H s → t σ H Q → wpAny (model X.prog X.w) X.A (isTrue e X.env whole) (TP X pins σ Q) X.xe s
theorem PW.pt {X : Cx} {e : Expr} {t : TT} (h : PW X e t) : PT X e t := h _
/-- an argument list (no star), from the left -/
def PA (X : Cx) (es : List Expr) (t : TA) : Prop :=
  ∀ (pos : Pos) (pins : List (Addr × Obj)) (s : Shared) (σ : St) (H : Hp) (Q : List V → Hp → Prop), Inv X pins σ H s → t σ H Q → wpAny (model X.prog X.w) X.A (spliced (backTo pos (starEach es X.env))) (AP X pins σ Q) X.xe s
def PS (X : Cx) (st : Stmt) (t : TS) : Prop :=
  ∀ (pins : List (Addr × Obj)) (s : Shared) (σ : St) (H : Hp) (D : Ends), Inv X pins σ H s → t D σ H → wpAny (model X.prog X.w) X.A (exec st X.env) (SP X pins D) X.xe s
def PSs (X : Cx) (st : List Stmt) (t : TS) : Prop :=
  ∀ (pins : List (Addr × Obj)) (s : Shared) (σ : St) (H : Hp) (D : Ends), Inv X pins σ H s → t D σ H → wpAny (model X.prog X.w) X.A (execs st X.env) (SP X pins D) X.xe s
/-- weaken the end -/
theorem thn {α : Type} {t : Sem α} {Q Q' : α → Shared → Prop} {M : Model} {A : Around} {E : Value → Shared → Prop} {s : Shared} (h : wpAny M A t Q E s) (hQ : ∀ a s, Q a s → Q' a s) : wpAny M A t Q' E s := wpAny_mono h hQ fun _ _ x => x
end L2

namespace L2
open PySem PySem.Spec PyProof.Rows
section
variable {X : Cx}

/-! ### names and constants -/
def tVar (i : Nat) : TE := fun σ H Q => ∃ v, σ[i]? = some (some v) ∧ Q v H
def tC (v : V) : TE := fun _ H Q => Q v H
theorem pe_var {i : Nat} {x : Str} {pos : Pos} (hN : X.N[i]? = some x) (hv : Vis X.env.scope x) (hd : (x == ("__debug__" : Str)) = false := by decide) (hcd : (x == ("__classdict__" : Str)) = false := by decide) : PE X (.Name x pos) (tVar i) := by
  intro pins s σ H Q I h
  obtain ⟨v, e, h⟩ := h
  obtain ⟨m, hn, hl⟩ := I.loc
  obtain ⟨u, r, l⟩ := hl i x v hN e hv
  have fin : EP X pins σ Q u s := ⟨v, H, I, r, h⟩
  rcases l with ⟨hk, hm⟩ | ⟨hk, c, hc, hcell⟩
  · exact wpAny_Name (wpAny_loadName_local I.ok.kind hk hn hm fin) hd
  · rcases hk with hk | hk
    · exact wpAny_Name (wpAny_loadName_cell I.ok.kind hk hc hcell fin) hd
    · exact wpAny_Name (wpAny_loadName_free I.ok.kind hk hc hcell fin hcd) hd
theorem pe_int {i j pos} : PE X (.Constant (.int i) j pos) (tC (.int i)) := fun _ _ _ H _ I h => wpAny_Constant_int ⟨.int i, H, I.tok _, ⟨_, rfl⟩, h⟩
theorem pe_bl {b j pos} : PE X (.Constant (.bool b) j pos) (tC (.bl b)) := fun _ _ _ H _ I h => Constant_bool ⟨.bl b, H, I, rfl, h⟩
theorem pe_non {j pos} : PE X (.Constant .none j pos) (tC .non) := fun _ _ _ H _ I h => Constant_none ⟨.non, H, I, rfl, h⟩
theorem pe_str {x j pos} : PE X (.Constant (.str x) j pos) (tC (.str x)) := fun _ _ _ H _ I h => Calls.Constant_str ⟨.str x, H, I.tok _, ⟨_, rfl⟩, h⟩

/-- a global name of the def -/
def Gl (X : Cx) (x : Str) : Prop := X.env.kindOf x = some .globalImplicit
theorem ld_glob {E : Value → Shared → Prop} {pins : List (Addr × Obj)} {s : Shared} {σ : St} {H : Hp} {x : Str} {u : Value} {pos : Pos} {Q : Value → Shared → Prop} (I : Inv X pins σ H s) (hg : Gl X x) (hm : X.mg x = some u) (h : Q u s)
    (hd : (x == ("__debug__" : Str)) = false := by decide) : wpAny (model X.prog X.w) X.A (eval (.Name x pos) X.env) Q E s :=
  Calls.Name_function_global I.ok.kind hg (Calls.loadGlobal_global (by rw [I.ok.glob]; exact I.mod.glob.keeps I.bk) hm h) hd
theorem ld_blt {E : Value → Shared → Prop} {pins : List (Addr × Obj)} {s : Shared} {σ : St} {H : Hp} {x : Str} {u : Value} {pos : Pos} {Q : Value → Shared → Prop} (I : Inv X pins σ H s) (hg : Gl X x) (hm : X.mg x = none) (hv : bootBuiltins x = some u) (h : Q u s)
    (hn : x ≠ "__name__" := by decide) (hd : (x == ("__debug__" : Str)) = false := by decide) : wpAny (model X.prog X.w) X.A (eval (.Name x pos) X.env) Q E s := by
  obtain ⟨mb, h1, h2⟩ := I.mod.blt
  exact Calls.Name_function_global I.ok.kind hg (Calls.loadGlobal_builtin (by rw [I.ok.glob]; exact I.mod.glob.keeps I.bk) hm (by rw [I.ok.blt]; exact h1.keeps I.bk) ((h2 x hn).trans hv) h) hd
/-- a module's constant, a class, a function, as a value -/
theorem pe_glob {x : Str} {v : V} {u : Value} {pos : Pos} (hg : Gl X x) (hm : X.mg x = some u) (r : RelV v u) (hd : (x == ("__debug__" : Str)) = false := by decide) : PE X (.Name x pos) (tC v) :=
  fun _ _ _ H _ I h => ld_glob I hg hm ⟨v, H, I, r, h⟩ hd
theorem pe_bltn {x : Str} {v : V} {u : Value} {pos : Pos} (hg : Gl X x) (hm : X.mg x = none) (hv : bootBuiltins x = some u) (r : RelV v u) (hn : x ≠ "__name__" := by decide) (hd : (x == ("__debug__" : Str)) = false := by decide) : PE X (.Name x pos) (tC v) :=
  fun _ _ _ H _ I h => ld_blt I hg hm hv ⟨v, H, I, r, h⟩ hn hd

/-! ### arithmetic -/
/-- two ints -/
def t2I (ta tb : TE) (k : Int → Int → Hp → Prop) : St → Hp → Prop := fun σ H => ta σ H fun x H1 => tb σ H1 fun y H2 => ∃ i j, x = .int i ∧ y = .int j ∧ k i j H2
def tAdd (ta tb : TE) : TE := fun σ H Q => t2I ta tb (fun i j H2 => Q (.int (i + j)) H2) σ H
def tSub (ta tb : TE) : TE := fun σ H Q => t2I ta tb (fun i j H2 => Q (.int (i - j)) H2) σ H
/-- the left factor below 2^64 -/
def tMul (ta tb : TE) : TE := fun σ H Q => t2I ta tb (fun i j H2 => (-(2 ^ 64) < i ∧ i < 2 ^ 64) ∧ Q (.int (i * j)) H2) σ H
variable {a b : Expr} {ta tb : TE} {pos : Pos}
/-! ### comparisons -/
def PC (X : Cx) (op : CmpOp) (a b : Expr) (t : TE) : Prop :=
  ∀ (pins : List (Addr × Obj)) (s : Shared) (σ : St) (H : Hp) (Q : VK), Inv X pins σ H s → t σ H Q →
    wpAny (model X.prog X.w) X.A (eval a X.env) (fun v s₁ => wpAny (model X.prog X.w) X.A (eval b X.env) (fun u s₂ => wpAny (model X.prog X.w) X.A (compareOp op v u) (EP X pins σ Q) X.xe s₂) X.xe s₁) X.xe s
def tCmp (p : Int → Int → Bool) (ta tb : TE) : TE := fun σ H Q => t2I ta tb (fun i j H2 => Q (.bl (p i j)) H2) σ H
abbrev tLt : TE → TE → TE := tCmp fun i j => decide (i < j)
abbrev tLe : TE → TE → TE := tCmp fun i j => decide (i ≤ j)
abbrev tGt : TE → TE → TE := tCmp fun i j => decide (j < i)
abbrev tGe : TE → TE → TE := tCmp fun i j => decide (j ≤ i)
abbrev tEqI : TE → TE → TE := tCmp fun i j => decide (i = j)
abbrev tNeI : TE → TE → TE := tCmp fun i j => !decide (i = j)
/-- is None -/
def tIsN (ta : TE) : TE := fun σ H Q => ta σ H fun x H1 => Q (.bl (decide (x = .non))) H1
def tNotN (ta : TE) : TE := fun σ H Q => ta σ H fun x H1 => Q (.bl (!decide (x = .non))) H1
/-- a comparison as a value, as a test -/
def tB (t : TE) : TT := fun σ H Q => t σ H fun x H1 => ∃ c, x = .bl c ∧ Q c H1
theorem pt_cmp {op : CmpOp} {t : TE} (h : PC X op a b t) (h1 : behindInMarks op b = false := by first | exact nobehind _ (by decide) (by decide) | rfl) : PT X (.Compare a [op] [b] pos) (tB t) := by
  intro pins s σ H Q I hw
  refine wpAny_isTrue_Compare1 (thn (h pins s σ H _ I hw) fun v s1 h1 => thn h1 fun u s2 h2 => thn h2 fun c s3 ⟨x, H1, I1, r1, q1⟩ => ?_) h1
  obtain ⟨d, rfl, q⟩ := q1
  cases r1
  exact wpAny_truthy_bool ⟨H1, I1, q⟩
/-- an expression whose value is a bool, as a test -/
theorem pt_val {e : Expr} {t : TE} (h : PE X e t) (he : ∀ whole, isTrue e X.env whole = (do let v ← whole; standAt e.pos; holding [v] (truthy v)) := by intro _; rfl) : PT X e (tB t) := by
  intro pins s σ H Q I hw
  refine isTrue_plain (thn (h pins s σ H _ I hw) fun v s1 ⟨x, H1, I1, r1, q1⟩ => ?_) (he _)
  obtain ⟨d, rfl, q⟩ := q1
  cases r1
  exact wpAny_truthy_bool ⟨H1, I1, q⟩

/-! ### and, or, not -/
variable {tA tB' : TT} {rest : List Expr}
def tAnd (t u : TT) : TT := fun σ H Q => t σ H fun c H1 => if c = true then u σ H1 Q else Q false H1
def tOr (t u : TT) : TT := fun σ H Q => t σ H fun c H1 => if c = true then Q true H1 else u σ H1 Q
def tNot (t : TT) : TT := fun σ H Q => t σ H fun c H1 => Q (!c) H1
theorem pw_and1 (ha : PT X a tA) : PW X (.BoolOp .And [a] pos) tA := by
  intro wh pins s σ H Q I h
  refine isTrue_and (thn (ha pins s σ H Q I h) fun c s1 e => ?_)
  cases c with
  | true => exact isTrue_and_nil e
  | false => exact e
theorem pw_or1 (ha : PT X a tA) : PW X (.BoolOp .Or [a] pos) tA := by
  intro wh pins s σ H Q I h
  refine isTrue_or (thn (ha pins s σ H Q I h) fun c s1 e => ?_)
  cases c with
  | false => exact isTrue_or_nil e
  | true => exact e
theorem pw_and (ha : PT X a tA) (hb : PW X (.BoolOp .And (b :: rest) pos) tB') : PW X (.BoolOp .And (a :: b :: rest) pos) (tAnd tA tB') := by
  intro wh pins s σ H Q I h
  refine isTrue_and (thn (ha pins s σ H _ I h) fun c s1 ⟨H1, I1, q1⟩ => ?_)
  cases c with
  | true => exact hb wh pins s1 σ H1 Q I1 q1
  | false => exact ⟨H1, I1, q1⟩
theorem pw_or (ha : PT X a tA) (hb : PW X (.BoolOp .Or (b :: rest) pos) tB') : PW X (.BoolOp .Or (a :: b :: rest) pos) (tOr tA tB') := by
  intro wh pins s σ H Q I h
  refine isTrue_or (thn (ha pins s σ H _ I h) fun c s1 ⟨H1, I1, q1⟩ => ?_)
  cases c with
  | true => exact ⟨H1, I1, q1⟩
  | false => exact hb wh pins s1 σ H1 Q I1 q1
theorem pt_not (ha : PT X a tA) : PT X (.UnaryOp .Not a pos) (tNot tA) := by
  intro pins s σ H Q I h
  exact isTrue_not (ha pins s σ H (fun c H1 => Q (!c) H1) I h)
/-- .. as values (bools) -/
def tAndV (ta tb : TE) : TE := fun σ H Q => ta σ H fun x H1 => ∃ c, x = .bl c ∧ if c = true then tb σ H1 Q else Q (.bl false) H1
def tOrV (ta tb : TE) : TE := fun σ H Q => ta σ H fun x H1 => ∃ c, x = .bl c ∧ if c = true then Q (.bl true) H1 else tb σ H1 Q
def tNotV (ta : TE) : TE := fun σ H Q => ta σ H fun x H1 => ∃ c, x = .bl c ∧ Q (.bl (!c)) H1
theorem pe_one {op} {t : TE} (h : PE X a t) : PE X (.BoolOp op [a] pos) t := fun pins s σ H Q I hw => BoolOp_one (h pins s σ H Q I hw)
theorem pe_and (ha : PE X a ta) (hb : PE X (.BoolOp .And (b :: rest) pos) tb) : PE X (.BoolOp .And (a :: b :: rest) pos) (tAndV ta tb) := by
  intro pins s σ H Q I h
  refine BoolOp_and (thn (ha pins s σ H _ I h) fun v s1 ⟨x, H1, I1, r1, q1⟩ => ?_)
  obtain ⟨c, rfl, q1⟩ := q1
  cases r1
  refine wpAny_truthy_bool ?_
  cases c with
  | true => exact hb pins s1 σ H1 Q I1 q1
  | false => exact ⟨.bl false, H1, I1, rfl, q1⟩
theorem pe_not (ha : PE X a ta) : PE X (.UnaryOp .Not a pos) (tNotV ta) := by
  intro pins s σ H Q I h
  refine UnaryOp_ (thn (ha pins s σ H _ I h) fun v s1 ⟨x, H1, I1, r1, q1⟩ => ?_)
  obtain ⟨c, rfl, q1⟩ := q1
  cases r1
  exact not_of (wpAny_truthy_bool ⟨.bl (!c), H1, I1, rfl, q1⟩)
/-- a if t else b -/
def tIf (t : TT) (ta tb : TE) : TE := fun σ H Q => t σ H fun c H1 => if c = true then ta σ H1 Q else tb σ H1 Q
end
end L2

namespace L2
open PySem PySem.Spec PyProof.Rows

/-! ### a list, a tuple that is read: tracked, frozen, or an object of the module -/
def SqL (K : PySem.W.Frag) (H : Hp) (a : Addr) (xs : List V) : Prop :=
  Rd H a (.lst xs) ∨
    ∃ (o : Obj) (its : Array Value) (n : Nat), K.lookup a = some o ∧ o.cls = .type "list" ∧ o.dict = none ∧ o.data = .seq its n ∧ its.size ≤ sizeLine ∧ Vals xs its.toList
def SqT (K : PySem.W.Frag) (H : Hp) (a : Addr) (xs : List V) : Prop :=
  Rd H a (.tup xs) ∨
    ∃ (o : Obj) (its : Array Value) (n : Nat), K.lookup a = some o ∧ o.cls = .type "tuple" ∧ o.data = .seq its n ∧ its.size ≤ sizeLine ∧ Vals xs its.toList
def absV : Value → Option V
  | .none => some .non
  | .bool b => some (.bl b)
  | .int i _ => some (.int i)
  | .str x _ => some (.str x)
  | .bytes b _ => some (.byt b)
  | .float b _ => some (.flt b)
  | .ref a => some (.ref a)
  | .type n => some (.ty n)
  | _ => none
theorem RelV.abs {x : V} {u : Value} (r : RelV x u) : absV u = some x := by
  cases x with
  | non => cases r; rfl
  | bl _ => cases r; rfl
  | int _ => obtain ⟨t, rfl⟩ := r; rfl
  | str _ => obtain ⟨t, rfl⟩ := r; rfl
  | byt _ => obtain ⟨t, rfl⟩ := r; rfl
  | flt _ => obtain ⟨t, rfl⟩ := r; rfl
  | ref _ => cases r; rfl
  | ty _ => cases r; rfl
theorem RelV.inj {x y : V} {u : Value} (r : RelV x u) (q : RelV y u) : x = y := Option.some.inj (r.abs.symm.trans q.abs)
theorem Vals.inj : ∀ {xs ys : List V} {us : List Value}, Vals xs us → Vals ys us → xs = ys
  | _, _, _, .nil, .nil => rfl
  | _, _, _, .cons r t, .cons r' t' => by rw [r.inj r', Vals.inj t t']
section
variable {X : Cx} {pins : List (Addr × Obj)} {σ : St} {H : Hp} {s : Shared} {a : Addr} {xs ys : List V}
theorem SqL.of {K : PySem.W.Frag} (h : H a = some (.lst xs)) : SqL K H a xs := .inl (.inl h)
theorem SqT.of {K : PySem.W.Frag} (h : H a = some (.tup xs)) : SqT K H a xs := .inl (.inl h)
theorem Inv.list (I : Inv X pins σ H s) (h : SqL X.K H a xs) : ∃ its : List Value, Vals xs its ∧ PlainL s.heap a its.toArray ∧ xs.length ≤ sizeLine := by
  rcases h with h | ⟨o, its, n, hk, hc, hd, hs, hz, r⟩
  · obtain ⟨z, its, n, r, e⟩ := h.ok I.hok
    exact ⟨its, r, ⟨_, n, e, rfl, rfl, rfl⟩, z⟩
  · refine ⟨its.toList, r, ⟨o, n, I.kIn a o hk, hc, hd, by simpa using hs⟩, ?_⟩
    have e := r.length
    simp only [Array.length_toList] at e
    omega
theorem Inv.tuple (I : Inv X pins σ H s) (h : SqT X.K H a xs) : ∃ its : List Value, Vals xs its ∧ IsTup s.heap a its.toArray ∧ xs.length ≤ sizeLine := by
  rcases h with h | ⟨o, its, n, hk, hc, hs, hz, r⟩
  · obtain ⟨z, its, r, p⟩ := h.ok I.hok
    exact ⟨its, r, p, z⟩
  · refine ⟨its.toList, r, ⟨o, I.kIn a o hk, hc, n, by simpa using hs⟩, ?_⟩
    have e := r.length
    simp only [Array.length_toList] at e
    omega
theorem Inv.list_inj (I : Inv X pins σ H s) (h : SqL X.K H a xs) (h' : SqL X.K H a ys) : xs = ys := by
  obtain ⟨its, r, ⟨o, n, e, _, _, d⟩, _⟩ := I.list h
  obtain ⟨its', r', ⟨o', n', e', _, _, d'⟩, _⟩ := I.list h'
  rw [e] at e'; cases e'
  rw [d] at d'
  injection d' with d1 _
  have : its = its' := by simpa using congrArg Array.toList d1
  subst this
  exact r.inj r'
theorem Inv.tuple_inj (I : Inv X pins σ H s) (h : SqT X.K H a xs) (h' : SqT X.K H a ys) : xs = ys := by
  obtain ⟨its, r, ⟨o, e, _, n, d⟩, _⟩ := I.tuple h
  obtain ⟨its', r', ⟨o', e', _, n', d'⟩, _⟩ := I.tuple h'
  rw [e] at e'; cases e'
  rw [d] at d'
  injection d' with d1 _
  have : its = its' := by simpa using congrArg Array.toList d1
  subst this
  exact r.inj r'
end

/-! ### another wish about exceptions -/
abbrev Cx.wish (X : Cx) (E : Value → Shared → Prop) : Cx := { X with xe := E }
/-- no exception leaves -/
abbrev Cx.nox (X : Cx) : Cx := X.wish fun _ _ => False
theorem Cx.Ok.wish {X : Cx} (ok : X.Ok) (E : Value → Shared → Prop) : (X.wish E).Ok :=
  ⟨ok.mod, ok.kind, ok.glob, ok.blt, ok.above, ok.inj, ok.has, ok.cab, ok.hd, ok.frames, ok.stk, ok.exf, ok.bs, ok.bsz, ok.noex, ok.exfs, ok.funs, ok.frf⟩
theorem Cx.Ok.unwish {X : Cx} {E : Value → Shared → Prop} (ok : (X.wish E).Ok) : X.Ok :=
  ⟨ok.mod, ok.kind, ok.glob, ok.blt, ok.above, ok.inj, ok.has, ok.cab, ok.hd, ok.frames, ok.stk, ok.exf, ok.bs, ok.bsz, ok.noex, ok.exfs, ok.funs, ok.frf⟩
section
variable {X : Cx} {pins : List (Addr × Obj)} {σ : St} {H : Hp} {s : Shared} {E : Value → Shared → Prop}
theorem Inv.wish (I : Inv X pins σ H s) (E : Value → Shared → Prop) : Inv (X.wish E) pins σ H s := ⟨I.ok.wish E, I.os, I.bare, I.base, I.loc, I.cell, I.free, I.freeC, I.pin, I.hok, I.len⟩
theorem Inv.unwish (I : Inv (X.wish E) pins σ H s) : Inv X pins σ H s := ⟨I.ok.unwish, I.os, I.bare, I.base, I.loc, I.cell, I.free, I.freeC, I.pin, I.hok, I.len⟩
theorem SP.unwish {D : Ends} {f : Flow} {s' : Shared} (h : SP (X.wish E) pins D f s') : SP X pins D f s' := by
  cases f with
  | next => obtain ⟨σ', H', I, q⟩ := h; exact ⟨σ', H', I.unwish, q⟩
  | brk => obtain ⟨σ', H', I, q⟩ := h; exact ⟨σ', H', I.unwish, q⟩
  | cont => obtain ⟨σ', H', I, q⟩ := h; exact ⟨σ', H', I.unwish, q⟩
  | ret u => obtain ⟨v, σ', H', I, r, q⟩ := h; exact ⟨v, σ', H', I.unwish, r, q⟩
theorem PSs.nox {st : List Stmt} {t : TS} (h : PSs X.nox st t) : PSs X st t := fun pins s σ H D I hw =>
  wpAny_mono (h pins s σ H D (I.wish _) hw) (fun _ _ q => q.unwish) fun _ _ z => False.elim z
end

/-! ### blocks and small statements -/
section
variable {X : Cx} {st : Stmt} {rest : List Stmt} {t u : TS} {e : Expr} {te : TE} {pos : Pos}
def tNext : TS := fun D σ H => D.nx σ H
def tSeq (t u : TS) : TS := fun D σ H => t { D with nx := u D } σ H
theorem pss_nil : PSs X [] tNext := fun _ _ σ H _ I h => wpAny_execs_nil ⟨σ, H, I, h⟩
theorem pss_cons (h1 : PS X st t) (h2 : PSs X rest u) : PSs X (st :: rest) (tSeq t u) := by
  intro pins s σ H D I h
  refine wpAny_execs_cons (thn (h1 pins s σ H { D with nx := u D } I h) fun f s1 q => ?_)
  cases f with
  | next =>
    obtain ⟨σ', H', I', q⟩ := q
    exact h2 pins s1 σ' H' D I' q
  | ret v => exact q
  | brk => exact q
  | cont => exact q
theorem pss_one (h1 : PS X st t) : PSs X [st] t := by
  intro pins s σ H D I h
  refine wpAny_execs_cons (thn (h1 pins s σ H D I h) fun f s1 q => ?_)
  cases f with
  | next => exact wpAny_execs_nil q
  | ret v => exact q
  | brk => exact q
  | cont => exact q
def tBreak : TS := fun D σ H => D.bk σ H
def tCont : TS := fun D σ H => D.ct σ H
/-- in a def's body nothing is shown -/
theorem Inv.quiet {pins : List (Addr × Obj)} {σ : St} {H : Hp} {s : Shared} (I : Inv X pins σ H s) : interactive X.env = false := by simp [interactive, I.ok.kind]
/-- an expression whose value is dropped -/
def tDrop (te : TE) : TS := fun D σ H => te σ H fun _ H1 => D.nx σ H1
theorem ps_expr (he : PE X e te) (hs : swapsWith e none pos.line X.env = pure false := by rfl) : PS X (.Expr e pos) (tDrop te) := by
  intro pins s σ H D I h
  exact wpAny_Expr_any (thn (he pins s σ H _ I h) fun v s1 ⟨x, H1, I1, r1, q1⟩ => ⟨σ, H1, I1, q1⟩) I.quiet hs
def tRet (te : TE) : TS := fun D σ H => te σ H D.rt
theorem ps_ret (he : PE X e te) : PS X (.Return (some e) pos) (tRet te) := by
  intro pins s σ H D I h
  exact wpAny_Return_some (thn (he pins s σ H _ I h) fun v s1 ⟨x, H1, I1, r1, q1⟩ => ⟨x, σ, H1, I1, r1, q1⟩)
def tRetN : TS := fun D _ H => D.rt .non H
def tIfS (c : TT) (t u : TS) : TS := fun D σ H => c σ H fun b H1 => if b = true then t D σ H1 else u D σ H1
theorem ps_if {c : Expr} {a b : List Stmt} {tc : TT} (hc : PT X c tc) (ha : PSs X a t) (hb : PSs X b u) : PS X (.If c a b pos) (tIfS tc t u) := by
  intro pins s σ H D I h
  refine wpAny_If (thn (hc pins s σ H _ I h) fun d s1 ⟨H1, I1, q1⟩ => ?_)
  cases d with
  | true => exact ha pins s1 σ H1 D I1 q1
  | false => exact hb pins s1 σ H1 D I1 q1
/-- code that the proof never comes to -/
def tNever : TS := fun _ _ _ => False
end

/-! ### targets -/
abbrev TG := V → St → Hp → (St → Hp → Prop) → Prop
abbrev TGs := List V → St → Hp → (St → Hp → Prop) → Prop
def PG (X : Cx) (target : Expr) (t : TG) : Prop :=
  ∀ (pins : List (Addr × Obj)) (s : Shared) (σ : St) (H : Hp) (v : V) (u : Value) (Q : St → Hp → Prop), Inv X pins σ H s → RelV v u → t v σ H Q →
    wpAny (model X.prog X.w) X.A (assign target X.env u) (fun _ s' => ∃ σ' H', Inv X pins σ' H' s' ∧ Q σ' H') X.xe s
/-- several targets, one after another -/
def PGs (X : Cx) (ts : List Expr) (t : TGs) : Prop :=
  ∀ (pins : List (Addr × Obj)) (s : Shared) (σ : St) (H : Hp) (vs : List V) (us : List Value) (Q : St → Hp → Prop), Inv X pins σ H s → Vals vs us → t vs σ H Q →
    wpAny (model X.prog X.w) X.A (assignInOrder ((assignEach ts X.env).map (·.2)) us) (fun _ s' => ∃ σ' H', Inv X pins σ' H' s' ∧ Q σ' H') X.xe s
/-- o[i] = v, by values -/
abbrev TSet := V → V → V → Hp → (Hp → Prop) → Prop
def PSet (X : Cx) (t : TSet) : Prop :=
  ∀ (pins : List (Addr × Obj)) (s : Shared) (σ : St) (H : Hp) (o i v : V) (ov iv u : Value) (Q : Hp → Prop), Inv X pins σ H s → RelV o ov → RelV i iv → RelV v u → t o i v H Q →
    wpAny (model X.prog X.w) X.A (setItem ov iv u) (fun _ s' => ∃ H', Inv X pins σ H' s' ∧ Q H') X.xe s
/-- a op= b, by values -/
abbrev TIp := V → V → Hp → VK → Prop
def PIp (X : Cx) (op : Operator) (t : TIp) : Prop :=
  ∀ (pins : List (Addr × Obj)) (s : Shared) (σ : St) (H : Hp) (x y : V) (v u : Value) (Q : VK), Inv X pins σ H s → RelV x v → RelV y u → t x y H Q →
    wpAny (model X.prog X.w) X.A (inplaceOp op v u) (EP X pins σ Q) X.xe s
section
variable {X : Cx} {pos : Pos}
def gName (i : Nat) : TG := fun v σ H Q => Q (σ.set i (some v)) H
theorem pg_name {i : Nat} {x : Str} (hN : X.N.Nodup) (hi : X.N[i]? = some x) (hx : Loc X.env.scope x) (hf : X.fn x = true ∨ X.env.scope.names.lookup x = some .local := by first | exact .inl rfl | exact .inr rfl | assumption) : PG X (.Name x pos) (gName i) := by
  intro pins s σ H v u Q I r h
  exact wpAny_assign_Name (store_ok I hN hi hx r (fun s' I' => ⟨_, H, I', h⟩) hf)
def gNil : TGs := fun vs σ H Q => vs = [] ∧ Q σ H
def gCons (t : TG) (u : TGs) : TGs := fun vs σ H Q => ∃ v r, vs = v :: r ∧ t v σ H fun σ' H' => u r σ' H' Q
theorem pgs_nil : PGs X [] gNil := by
  intro pins s σ H vs us Q I r h
  obtain ⟨e, h⟩ := h
  subst e
  cases r
  exact assignInOrder_nil ⟨σ, H, I, h⟩
theorem pgs_cons {e : Expr} {es : List Expr} {t : TG} {u : TGs} (h1 : PG X e t) (h2 : PGs X es u)
    (hs : (assignEach (e :: es) X.env).map (·.2) = assign e X.env :: (assignEach es X.env).map (·.2) := by rfl) : PGs X (e :: es) (gCons t u) := by
  intro pins s σ H vs us Q I r h
  obtain ⟨v, vr, e1, h⟩ := h
  subst e1
  cases r with
  | cons r rr =>
    rw [hs]
    refine assignInOrder_cons (thn (h1 pins s σ H _ _ _ I r h) fun _ s1 ⟨σ1, H1, I1, q1⟩ => ?_)
    exact h2 pins s1 σ1 H1 _ _ Q I1 rr q1
/-- (a, b, ..) = a tuple of that length -/
def gTup (K : PySem.W.Frag) (n : Nat) (t : TGs) : TG := fun v σ H Q => ∃ a xs, v = .ref a ∧ SqT K H a xs ∧ xs.length = n ∧ t xs σ H Q
theorem pg_tup {es : List Expr} {k : Nat} {t : TGs} {n : Nat} (hc : X.calm = true) (h : PGs X es t)
    (hn : (assignEach es X.env).length = n := by rfl) (hst : (assignEach es X.env).findIdx? (·.1) = none := by rfl) : PG X (.Tuple es k pos) (gTup X.K n t) := by
  intro pins s σ H v u Q I r hw
  obtain ⟨a, xs, e1, hq, hl, hw⟩ := hw
  subst e1
  cases r
  obtain ⟨its, rv, ht, hz⟩ := I.tuple hq
  refine assign_Tuple_tuple (I.ok.hd hc) ht (by simp [hn, ← hl, rv.length]) hst fun h' hx => ?_
  have I1 : Inv X pins σ H { s with heap := h' } := I.kept (t' := s.toks) fun b o e => hx b o (Nat.ne_of_lt (Heap.lt_size e)) e
  exact h pins _ σ H xs _ Q I1 (by simpa using rv) hw
/-- o[i] = .. -/
def gSub (to ti : TE) (t : TSet) : TG := fun v σ H Q => to σ H fun o H1 => ti σ H1 fun i H2 => t o i v H2 fun H3 => Q σ H3
theorem pg_sub {o i : Expr} {to ti : TE} {t : TSet} (ho : PE X o to) (hi : PE X i ti) (hs : PSet X t)
    (ha : ∀ v, assign (.Subscript o i pos) X.env v = (do
      let ov ← holding [v] (eval o X.env)
      let iv ← holding [v, ov] (eval i X.env)
      standAt pos
      holding [v, ov, iv] (setItem ov iv v)
      release [v, ov, iv] []) := by intro _; rfl) : PG X (.Subscript o i pos) (gSub to ti t) := by
  intro pins s σ H v u Q I r h
  rw [ha]
  refine wpAny_bind (wpAny_holding (thn (ho pins s σ H _ I h) fun ov s1 ⟨x, H1, I1, r1, q1⟩ => ?_))
  refine wpAny_bind (wpAny_holding (thn (hi pins s1 σ H1 _ I1 q1) fun iv s2 ⟨y, H2, I2, r2, q2⟩ => ?_))
  refine wpAny_bind (wpAny_standAt (wpAny_bind (wpAny_holding (thn (hs pins s2 σ H2 x y v ov iv u _ I2 r1 r2 r q2) fun _ s3 ⟨H3, I3, q3⟩ => ?_))))
  exact wpAny_release ⟨σ, H3, I3, q3⟩
/-- target = value -/
def tAsg (te : TE) (g : TG) : TS := fun D σ H => te σ H fun x H1 => g x σ H1 D.nx
theorem ps_asg {tg e : Expr} {te : TE} {g : TG} (he : PE X e te) (hg : PG X tg g) (hs : swapsWithSole [tg] e pos.line X.env = pure false := by rfl) (hw : swappedStores [tg] e X.env = pure none := by rfl)
    (h1 : (assignEach [tg] X.env).map (·.2) = [assign tg X.env] := by rfl) : PS X (.Assign [tg] e pos) (tAsg te g) := by
  intro pins s σ H D I h
  refine wpAny_Assign_stores (thn (he pins s σ H _ I h) fun v s1 ⟨x, H1, I1, r1, q1⟩ => ?_) hs hw
  rw [h1]
  exact thn (hg pins s1 σ H1 x v _ I1 r1 q1) fun _ s2 q => q
/-- name = value -/
theorem ps_set {i : Nat} {x : Str} {e : Expr} {te : TE} {pos' : Pos} (hN : X.N.Nodup) (hi : X.N[i]? = some x) (hx : Loc X.env.scope x) (he : PE X e te) (hs : swapsWith e (some (.Name x pos')) pos.line X.env = pure false := by rfl) (hf : X.fn x = true ∨ X.env.scope.names.lookup x = some .local := by first | exact .inl rfl | exact .inr rfl | assumption) :
    PS X (.Assign [.Name x pos'] e pos) (tAsg te (gName i)) := by
  intro pins s σ H D I h
  refine wpAny_Assign_Name (thn (he pins s σ H _ I h) fun v s1 ⟨y, H1, I1, r1, q1⟩ => ?_) hs
  exact store_ok I1 hN hi hx r1 (fun s2 I2 => ⟨_, H1, I2, q1⟩) hf
/-- a, b = x, y with plain local names: stored from the right; the pair itself is not tracked (the opening rows as in PyProof/Rows/TupAssign.lean:23) -/
def tPar (i j : Nat) (ta : TA) : TS := fun D σ H => ta σ H fun vs H1 => ∃ v w, vs = [v, w] ∧ D.nx ((σ.set i (some v)).set j (some w)) H1
/-- name op= e -/
def tAug (i : Nat) (te : TE) (ti : TIp) : TS := fun D σ H => ∃ x, σ[i]? = some (some x) ∧ te σ H fun y H1 => ti x y H1 fun z H2 => D.nx (σ.set i (some z)) H2
/-- o[i] op= e -/
def tAugS (to ti te : TE) (tget : V → V → Hp → VK → Prop) (tip : TIp) (tset : TSet) : TS := fun D σ H => to σ H fun o H1 => ti σ H1 fun i H2 => tget o i H2 fun x H3 => te σ H3 fun y H4 => tip x y H4 fun z H5 => tset o i z H5 fun H6 => D.nx σ H6
/-- o[i], by values -/
def PGet (X : Cx) (t : V → V → Hp → VK → Prop) : Prop :=
  ∀ (pins : List (Addr × Obj)) (s : Shared) (σ : St) (H : Hp) (o i : V) (ov iv : Value) (Q : VK), Inv X pins σ H s → RelV o ov → RelV i iv → t o i H Q →
    wpAny (model X.prog X.w) X.A (getItem ov iv) (EP X pins σ Q) X.xe s
/-- ints -/
def ipI (f : Int → Int → Int) : TIp := fun x y H Q => ∃ i j, x = .int i ∧ y = .int j ∧ Q (.int (f i j)) H
end

/-! ### while -/
section
variable {X : Cx} {pos : Pos}
/-- the invariant W with its measure -/
def tWhile (c : TT) (tb : TS) : TS := fun D σ H => ∃ W : Nat → St → Hp → Prop, (∃ m, W m σ H) ∧ ∀ m σ H, W m σ H →
  c σ H fun b H1 => if b = true then ∃ N : St → Hp → Prop, (∀ σ' H', N σ' H' → ∃ m', m' < m ∧ W m' σ' H') ∧ tb { D with nx := N, ct := N, bk := D.nx } σ H1 else D.nx σ H1
theorem ps_while {c : Expr} {body : List Stmt} {tc : TT} {tb : TS} (hp : PassesOwn (model X.prog X.w) X.A X.env X.xe) (hc : PT X c tc) (hb : PSs X body tb) : PS X (.While c body [] pos) (tWhile tc tb) := by
  intro pins s σ H D I h
  obtain ⟨W, ⟨m0, w0⟩, turn⟩ := h
  refine wpAny_While (codeAny_whileLoop (fun n s' => ∃ σ' H', Inv X pins σ' H' s' ∧ W n σ' H') ?_ m0 ⟨σ, H, I, w0⟩)
  rintro n s1 ⟨σ1, H1, I1, w1⟩
  refine wpAny_passesOwn hp (thn (hc pins s1 σ1 H1 _ I1 (turn n σ1 H1 w1)) fun b s2 ⟨H2, I2, q2⟩ => ?_)
  cases b with
  | true =>
    obtain ⟨N, hN, q2⟩ := q2
    rw [if_pos rfl]
    refine wpAny_passesOwn hp (thn (hb pins s2 σ1 H2 _ I2 q2) fun f s3 q3 => ?_)
    cases f with
    | next =>
      obtain ⟨σ3, H3, I3, n3⟩ := q3
      obtain ⟨m', hm, w3⟩ := hN σ3 H3 n3
      exact ⟨m', hm, σ3, H3, I3, w3⟩
    | cont =>
      obtain ⟨σ3, H3, I3, n3⟩ := q3
      obtain ⟨m', hm, w3⟩ := hN σ3 H3 n3
      exact ⟨m', hm, σ3, H3, I3, w3⟩
    | brk => exact q3
    | ret v => exact q3
  | false =>
    rw [if_neg Bool.false_ne_true]
    exact wpAny_execs_nil ⟨σ1, H2, I2, q2⟩
end

/-! ### what a loop or a comprehension walks -/
/-- at turn i: it yields x (the heap may grow), or it stops -/
structure It where
  go : Nat → Hp → Prop
  yld : Nat → Hp → V → Hp → Prop
  stop : Nat → Hp → Prop
/-- the iterator's own objects may turn: they are not the frame's, not pinned, younger than the entry (or a comprehension's own) -/
def FpOk (X : Cx) (pins : List (Addr × Obj)) (H : Hp) (b : Addr) : Prop :=
  H b = none ∧ b ≠ X.env.locals ∧ b ∉ X.fs ∧ (b ∈ X.ex ∨ X.s₀.heap.objs.size ≤ b) ∧ (∀ x c, X.env.cells.lookup x = some c → c ≠ b) ∧ ∀ p ∈ X.pn ++ pins, p.1 ≠ b
theorem Inv.fpOk {X : Cx} {pins : List (Addr × Obj)} {σ : St} {H H' : Hp} {s : Shared} {b : Addr} (I : Inv X pins σ H s) (hb : s.heap.objs.size ≤ b) (hn : H' b = none) : FpOk X pins H' b := by
  refine ⟨hn, Nat.ne_of_gt (Nat.lt_of_lt_of_le I.lt hb), I.nofs hb, .inr (Nat.le_trans I.sz hb), fun x c e z => ?_, fun p hp z => ?_⟩
  · obtain ⟨v, q⟩ := I.cell x c e
    exact absurd (Nat.lt_of_lt_of_le q.lt (by rw [z]; exact hb)) (Nat.lt_irrefl _)
  · exact absurd (Nat.lt_of_lt_of_le (Heap.lt_size (I.pin p hp).1) (by rw [z]; exact hb)) (Nat.lt_irrefl _)
structure Turn (P : Program) (w : World) (K : PySem.W.Frag) (tg : Expr) (J : It) (fp : List Addr) (it : Addr) (tn : Nat → Heap → Prop) : Prop where
  mem : it ∈ fp
  obj : ∀ i h, tn i h → ∀ b ∈ fp, ∃ o, h.get? b = some o ∧ ∀ v, o.data ≠ .cell v
  keep : ∀ i h h', tn i h → (∀ b ∈ fp, ∀ o, h.get? b = some o → h'.get? b = some o) → tn i h'
  item : ∀ (X : Cx), X.prog = P → X.w = w → X.K = K → X.calm = true → ∀ (i : Nat) (pins : List (Addr × Obj)) (s : Shared) (σ : St) (H : Hp) (E : Value → Shared → Prop), Inv X pins σ H s → (∀ b ∈ fp, FpOk X pins H b) → tn i s.heap → J.go i H →
    wpAny (model P w) X.A (pyNext (.ref it)) (fun r s1 => ∃ u, r = some u ∧
      wpAny (model P w) X.A (letOwnedTupleGo tg (.ref it) u) (fun _ s2 => ∃ x H', Inv X pins σ H' s2 ∧ RelV x u ∧ J.yld i H x H' ∧ tn (i + 1) s2.heap ∧ ∀ b ∈ fp, H' b = none) E s1) E s
  done : ∀ (X : Cx), X.prog = P → X.w = w → X.K = K → X.calm = true → ∀ (i : Nat) (pins : List (Addr × Obj)) (s : Shared) (σ : St) (H : Hp) (E : Value → Shared → Prop), Inv X pins σ H s → (∀ b ∈ fp, FpOk X pins H b) → tn i s.heap → J.stop i H →
    wpAny (model P w) X.A (pyNext (.ref it)) (fun r s1 => r = none ∧ Inv X pins σ H s1) E s
  self : ∀ (A : Around) (i : Nat) (s : Shared) (Q : Value → Shared → Prop) (E : Value → Shared → Prop), tn i s.heap → Q (.ref it) s → wpAny (model P w) A (pyIter (.ref it)) Q E s
abbrev TI := St → Hp → (It → Hp → Prop) → Prop
/-- an iterator has come -/
def PIE (X : Cx) (pins : List (Addr × Obj)) (σ : St) (tg : Expr) (R : It → Hp → Prop) (itv : Value) (s2 : Shared) : Prop :=
  ∃ (it : Addr) (fp : List Addr) (tn : Nat → Heap → Prop) (J : It) (H' : Hp), itv = .ref it ∧ Inv X pins σ H' s2 ∧ Turn X.prog X.w X.K tg J fp it tn ∧ tn 0 s2.heap ∧ (∀ b ∈ fp, FpOk X pins H' b) ∧ R J H'
def PI (X : Cx) (tg iter : Expr) (wi : TI) : Prop :=
  ∀ (pins : List (Addr × Obj)) (s : Shared) (σ : St) (H : Hp) (R : It → Hp → Prop), Inv X pins σ H s → wi σ H R →
    wpAny (model X.prog X.w) X.A (eval iter X.env) (fun v s1 => wpAny (model X.prog X.w) X.A (pyIter v) (PIE X pins σ tg R) X.xe s1) X.xe s

/-- the step ahead of the store is nothing for an iterator that keeps no tuple -/
theorem go_of {M : Model} {A : Around} {E : Value → Shared → Prop} {s : Shared} {tg : Expr} {it : Addr} {u : Value} {o : Obj} {n : String} {vs : Array Value} {Q : Unit → Shared → Prop} (ho : s.heap.get? it = some o) (hc : o.cls = .type n) (hd : o.data = .fields vs)
    (hn : ["enumerate", "zip", "dict_itemiterator", "dict_reverseitemiterator", "odict_iterator", "itertools.zip_longest", "itertools.pairwise"].contains n = false) (hQ : Q () s) : wpAny M A (letOwnedTupleGo tg (.ref it) u) Q E s := by
  unfold letOwnedTupleGo
  cases tg <;> first
    | exact wpAny_pure hQ
    | (cases u <;> first
        | exact wpAny_pure hQ
        | (refine wpAny_bind (wpAny_load ho ?_)
           rw [hc, hd]
           show wpAny M A (if (["enumerate", "zip", "dict_itemiterator", "dict_reverseitemiterator", "odict_iterator", "itertools.zip_longest", "itertools.pairwise"].contains n && vs[0]? == some (rawInt _)) = true then _ else _) Q E s
           rw [if_neg (by intro h; rw [hn, Bool.false_and] at h; cases h)]
           exact wpAny_pure hQ))

/-- the list at a, as it stands at each turn (a loop may append to it) -/
def Itl (K : PySem.W.Frag) (a : Addr) : It :=
  ⟨fun i H => ∃ xs x, SqL K H a xs ∧ xs[i]? = some x, fun i H x H' => H' = H ∧ ∀ xs, SqL K H a xs → xs[i]? = some x, fun i H => ∃ xs, SqL K H a xs ∧ xs.length ≤ i⟩
def Itt (K : PySem.W.Frag) (a : Addr) : It :=
  ⟨fun i H => ∃ xs x, SqT K H a xs ∧ xs[i]? = some x, fun i H x H' => H' = H ∧ ∀ xs, SqT K H a xs → xs[i]? = some x, fun i H => ∃ xs, SqT K H a xs ∧ xs.length ≤ i⟩
/-- lo, lo + 1, .. (n of them) -/
def Itr (lo : Int) (n : Nat) : It := ⟨fun i _ => i < n, fun i H x H' => H' = H ∧ x = .int (lo + i), fun i _ => n ≤ i⟩
theorem turn_list {P : Program} {w : World} {K : PySem.W.Frag} {tg : Expr} (a it : Addr) : Turn P w K tg (Itl K a) [it] it (fun i h => h.IsListIter it a i) where
  mem := by simp
  obj := fun i h st b hb => by
    have e : b = it := by simpa using hb
    subst e
    obtain ⟨o, e, c, d⟩ := st
    exact ⟨o, e, fun v z => by rw [d] at z; cases z⟩
  keep := fun i h h' st k => st.at fun o e => k it (by simp) o e
  item := by
    intro X hP hw hK hc i pins s σ H E I hf st hg
    subst hP hw hK
    obtain ⟨xs, x, hq, hx⟩ := hg
    obtain ⟨its, rv, p, hz⟩ := I.list hq
    obtain ⟨u, hu, ru⟩ := rv.get hx
    obtain ⟨f0, f1, f2, f3, f4, f5⟩ := hf it (by simp)
    refine wpAny_pyNext_list_item st p.isList (x := u) (by simpa using hu) fun h' st' sb => ?_
    have I1 : Inv X pins σ H { s with heap := h' } := I.turned (t' := s.toks) (fun b o hb e => (sb.2 b hb).trans e) f0 f1 f3 f4 f5
    obtain ⟨o, e, c, d⟩ := id st'
    exact ⟨u, rfl, go_of (s := { s with heap := h' }) e c d (by decide) ⟨x, H, I1, ru, ⟨rfl, fun ys hy => by rw [I.list_inj hy hq]; exact hx⟩, st', fun b hb => (hf b hb).1⟩⟩
  done := by
    intro X hP hw hK hc i pins s σ H E I hf st hg
    subst hP hw hK
    obtain ⟨xs, hq, hx⟩ := hg
    obtain ⟨its, rv, p, hz⟩ := I.list hq
    obtain ⟨f0, f1, f2, f3, f4, f5⟩ := hf it (by simp)
    have hl := rv.length
    exact wpAny_pyNext_list_end (I.ok.hd hc) st p.isList (by simp; omega) fun h' eb => ⟨rfl, I.turned (t' := s.toks) (fun b o hb e => eb b o hb e) f0 f1 f3 f4 f5⟩
  self := fun _ _ _ _ _ st h => wpAny_pyIter_listiter st h
theorem turn_tuple {P : Program} {w : World} {K : PySem.W.Frag} {tg : Expr} (a it : Addr) : Turn P w K tg (Itt K a) [it] it (fun i h => h.IsTupleIter it a i) where
  mem := by simp
  obj := fun i h st b hb => by
    have e : b = it := by simpa using hb
    subst e
    obtain ⟨o, e, c, d⟩ := st
    exact ⟨o, e, fun v z => by rw [d] at z; cases z⟩
  keep := fun i h h' st k => st.at fun o e => k it (by simp) o e
  item := by
    intro X hP hw hK hc i pins s σ H E I hf st hg
    subst hP hw hK
    obtain ⟨xs, x, hq, hx⟩ := hg
    obtain ⟨its, rv, p, hz⟩ := I.tuple hq
    obtain ⟨u, hu, ru⟩ := rv.get hx
    obtain ⟨f0, f1, f2, f3, f4, f5⟩ := hf it (by simp)
    refine wpAny_pyNext_tuple_item st (show s.heap.IsTuple a its.toArray from p) (x := u) (by simpa using hu) fun h' st' sb => ?_
    have I1 : Inv X pins σ H { s with heap := h' } := I.turned (t' := s.toks) (fun b o hb e => (sb.2 b hb).trans e) f0 f1 f3 f4 f5
    obtain ⟨o, e, c, d⟩ := id st'
    exact ⟨u, rfl, go_of (s := { s with heap := h' }) e c d (by decide) ⟨x, H, I1, ru, ⟨rfl, fun ys hy => by rw [I.tuple_inj hy hq]; exact hx⟩, st', fun b hb => (hf b hb).1⟩⟩
  done := by
    intro X hP hw hK hc i pins s σ H E I hf st hg
    subst hP hw hK
    obtain ⟨xs, hq, hx⟩ := hg
    obtain ⟨its, rv, p, hz⟩ := I.tuple hq
    obtain ⟨f0, f1, f2, f3, f4, f5⟩ := hf it (by simp)
    have hl := rv.length
    exact wpAny_pyNext_tuple_end (I.ok.hd hc) st (show s.heap.IsTuple a its.toArray from p) (by simp; omega) fun h' eb => ⟨rfl, I.turned (t' := s.toks) (fun b o hb e => eb b o hb e) f0 f1 f3 f4 f5⟩
  self := fun _ _ _ _ _ st h => wpAny_pyIter_tupleiter st h
theorem turn_range {P : Program} {w : World} {K : PySem.W.Frag} {tg : Expr} (it : Addr) (lo : Int) (n : Nat) : Turn P w K tg (Itr lo n) [it] it (fun i h => IsRangeIter h it (lo + (i : Nat) * 1) ((n : Int) - (i : Nat)) 1) where
  mem := by simp
  obj := fun i h st b hb => by
    have e : b = it := by simpa using hb
    subst e
    exact ⟨_, st, fun v z => by
      have z' : Data.fields _ = Data.cell v := z
      cases z'⟩
  keep := fun i h h' st k => k it (by simp) _ st
  item := by
    intro X hP hw hK hc i pins s σ H E I hf st hg
    subst hP hw hK
    obtain ⟨f0, f1, f2, f3, f4, f5⟩ := hf it (by simp)
    have W := Walks.range (prog := X.prog) (w := X.w) (I.ok.hd hc) it lo 1 n
    refine W.item i s _ _ hg st fun v h' tk hv st' kk => ?_
    obtain ⟨t, rfl⟩ := hv
    have I1 : Inv X pins σ H { s with heap := h', toks := tk } := I.turned (fun b o hb e => kk b o (by simpa using hb) e) f0 f1 f3 f4 f5
    refine ⟨_, rfl, go_of (s := { s with heap := h', toks := tk }) (n := "range_iterator") st' rfl rfl (by decide) ⟨.int (lo + i), H, I1, ⟨t, ?_⟩, ⟨rfl, rfl⟩, st', fun b hb => (hf b hb).1⟩⟩
    rw [Int.mul_one]
  done := by
    intro X hP hw hK hc i pins s σ H E I hf st hg
    subst hP hw hK
    obtain ⟨f0, f1, f2, f3, f4, f5⟩ := hf it (by simp)
    exact wpAny_pyNext_range_end (I.ok.hd hc) st (by have : n ≤ i := hg; omega) fun h' eb => ⟨rfl, I.turned (t' := s.toks) (fun b o hb e => eb b o hb e) f0 f1 f3 f4 f5⟩
  self := fun _ _ _ _ _ st h => wpAny_pyIter_rangeiter st h
end L2

namespace L2
open PySem PySem.Spec PyProof.Rows
section
variable {X : Cx} {tg : Expr}
def iList (K : PySem.W.Frag) (tl : TE) : TI := fun σ H R => tl σ H fun x H1 => ∃ a, x = .ref a ∧ (∃ xs, SqL K H1 a xs) ∧ R (Itl K a) H1
def iTup (K : PySem.W.Frag) (tl : TE) : TI := fun σ H R => tl σ H fun x H1 => ∃ a, x = .ref a ∧ (∃ xs, SqT K H1 a xs) ∧ R (Itt K a) H1
theorem pi_list {l : Expr} {tl : TE} (hl : PE X l tl) : PI X tg l (iList X.K tl) := by
  intro pins s σ H R I h
  refine thn (hl pins s σ H _ I h) fun v s1 ⟨x, H1, I1, r1, q1⟩ => ?_
  obtain ⟨a, e, ⟨xs, hq⟩, q⟩ := q1
  subst e
  cases r1
  obtain ⟨its, rv, p, hz⟩ := I1.list hq
  refine wpAny_pyIter_list p.isList ?_
  refine ⟨s1.heap.objs.size, [s1.heap.objs.size], _, _, H1, rfl, I1.kept (t' := s1.toks) fun b o e => Heap.get?_push_of_some _ e, turn_list a _, ⟨_, Heap.get?_push_size _ rfl, rfl, rfl⟩, fun b hb => ?_, q⟩
  have e : b = s1.heap.objs.size := by simpa using hb
  subst e
  exact I1.fpOk (Nat.le_refl _) (I1.hok.fresh (Nat.le_refl _))
/-- a range object just made, walked -/
theorem range_it {pins : List (Addr × Obj)} {σ : St} {H : Hp} {s : Shared} {R : It → Hp → Prop} {E : Value → Shared → Prop} {lo hi : Int} {t u v : Tok} {tk : Nat} (I : Inv X pins σ H s) (h1 : -(2 ^ 62) ≤ lo) (h2 : lo < 2 ^ 62) (h3 : -(2 ^ 62) ≤ hi) (h4 : hi < 2 ^ 62)
    (q : R (Itr lo (hi - lo).toNat) H) : wpAny (model X.prog X.w) X.A (pyIter (.ref s.heap.objs.size)) (PIE X pins σ tg R) E { s with heap := s.heap.push { cls := .type "range", data := .fields #[.int lo t, .int hi u, .int 1 v] }, toks := tk } := by
  refine wpAny_pyIter_range (IsRange.new ..) (small_one h1 h2 h3 h4) ?_
  have I1 : Inv X pins σ H { s with heap := s.heap.push { cls := .type "range", data := .fields #[.int lo t, .int hi u, .int 1 v] }, toks := tk } := I.kept fun b o e => Heap.get?_push_of_some _ e
  refine ⟨(s.heap.push { cls := .type "range", data := .fields #[.int lo t, .int hi u, .int 1 v] }).objs.size, [(s.heap.push { cls := .type "range", data := .fields #[.int lo t, .int hi u, .int 1 v] }).objs.size], _, _, H, rfl,
    I1.kept (t' := tk) fun b o e => Heap.get?_push_of_some _ e, turn_range _ lo (hi - lo).toNat, ?_, fun b hb => ?_, q⟩
  · have e1 : lo + ((0 : Nat) : Int) * 1 = lo := by simp
    have e2 : (((hi - lo).toNat : Nat) : Int) - ((0 : Nat) : Int) = Builtin.Range.rangeSize lo hi 1 := by rw [rangeSize_one]; split <;> omega
    show IsRangeIter _ _ (lo + ((0 : Nat) : Int) * 1) ((((hi - lo).toNat : Nat) : Int) - ((0 : Nat) : Int)) 1
    rw [e1, e2]
    exact Heap.get?_push_size _ rfl
  · have e : b = (s.heap.push { cls := .type "range", data := .fields #[.int lo t, .int hi u, .int 1 v] }).objs.size := by simpa using hb
    subst e
    exact I1.fpOk (Nat.le_refl _) (I1.hok.fresh (Nat.le_refl _))
def iRng1 (ta : TA) : TI := fun σ H R => ta σ H fun vs H1 => ∃ j : Int, vs = [.int j] ∧ -(2 ^ 62) ≤ j ∧ j < 2 ^ 62 ∧ R (Itr 0 j.toNat) H1
def iRng2 (ta : TA) : TI := fun σ H R => ta σ H fun vs H1 => ∃ i j : Int, vs = [.int i, .int j] ∧ (-(2 ^ 62) ≤ i ∧ i < 2 ^ 62 ∧ -(2 ^ 62) ≤ j ∧ j < 2 ^ 62) ∧ R (Itr i (j - i).toNat) H1
theorem pi_range1 {a : Expr} {ta : TA} {p pos : Pos} (hg : Gl X "range") (hm : X.mg "range" = none) (ha : PA X [a] ta) (hs : starEach [a] X.env = [(false, eval a X.env)] := by rfl) : PI X tg (.Call (.Name "range" p) [a] [] pos) (iRng1 ta) := by
  intro pins s σ H R I h
  refine Call_ (ld_blt I hg hm boot_range (PyProof.Rows.callWith_type1 (thn (ha pos pins s σ H _ I h) fun us s1 ⟨vs, H1, I1, r1, q1⟩ => ?_) hs rfl))
  obtain ⟨j, e, q1, q2, q⟩ := q1
  subst e
  cases r1 with
  | cons r rr =>
    cases rr
    obtain ⟨t, rfl⟩ := r
    exact call_range_1 (range_it I1 (by omega) (by omega) q1 q2 (by simpa using q))
theorem pi_range2 {a b : Expr} {ta : TA} {p pos : Pos} (hg : Gl X "range") (hm : X.mg "range" = none) (ha : PA X [a, b] ta) (hs : starEach [a, b] X.env = [(false, eval a X.env), (false, eval b X.env)] := by rfl) (hs2 : starEach [b] X.env = [(false, eval b X.env)] := by rfl) :
    PI X tg (.Call (.Name "range" p) [a, b] [] pos) (iRng2 ta) := by
  intro pins s σ H R I h
  refine Call_ (ld_blt I hg hm boot_range (PyProof.Rows.callWith_type1 (thn (ha pos pins s σ H _ I h) fun us s1 ⟨vs, H1, I1, r1, q1⟩ => ?_) (by rw [hs, hs2]) (by rw [hs2]; rfl)))
  obtain ⟨i, j, e, ⟨q1, q2, q3, q4⟩, q⟩ := q1
  subst e
  cases r1 with
  | cons r rr =>
    cases rr with
    | cons r' rr =>
      cases rr
      obtain ⟨t, rfl⟩ := r
      obtain ⟨t', rfl⟩ := r'
      exact call_range_2 (range_it I1 q1 q2 q3 q4 q)

/-! ### for -/
/-- W: the invariant by the turn and a measure; N: what the body is to reach -/
def tFor (wi : TI) (g : TG) (tb : TS) : TS := fun D σ H => wi σ H fun J H1 => ∃ W : Nat → Nat → St → Hp → Prop, (∃ m, W 0 m σ H1) ∧ ∀ i m σ H, W i m σ H →
  (J.stop i H ∧ D.nx σ H) ∨ (J.go i H ∧ ∃ N : St → Hp → Prop, (∀ σ' H', N σ' H' → ∃ m', m' < m ∧ W (i + 1) m' σ' H') ∧ ∀ x H', J.yld i H x H' → g x σ H' fun σ2 H2 => tb { D with nx := N, ct := N, bk := D.nx } σ2 H2)
/-- the records at fp as they stand -/
def pinsAt (fp : List Addr) (h : Heap) : List (Addr × Obj) := fp.filterMap fun b => (h.get? b).map fun o => (b, o)
theorem mem_pinsAt {fp : List Addr} {h : Heap} {b : Addr} {o : Obj} (hb : b ∈ fp) (e : h.get? b = some o) : (b, o) ∈ pinsAt fp h := List.mem_filterMap.mpr ⟨b, hb, by rw [e]; rfl⟩
theorem of_pinsAt {fp : List Addr} {h : Heap} {p : Addr × Obj} (hp : p ∈ pinsAt fp h) : p.1 ∈ fp ∧ h.get? p.1 = some p.2 := by
  obtain ⟨b, hb, e⟩ := List.mem_filterMap.mp hp
  cases q : h.get? b with
  | none => rw [q] at e; cases e
  | some o =>
    rw [q] at e
    have e' : (b, o) = p := Option.some.inj e
    subst e'
    exact ⟨hb, q⟩
theorem Inv.pinned {pins : List (Addr × Obj)} {σ : St} {H : Hp} {s : Shared} {fp : List Addr} (I : Inv X pins σ H s) (hf : ∀ b ∈ fp, FpOk X pins H b) (ho : ∀ b ∈ fp, ∃ o, s.heap.get? b = some o ∧ ∀ v, o.data ≠ .cell v) : Inv X (pins ++ pinsAt fp s.heap) σ H s :=
  I.pins_of fun p hp => (List.mem_append.mp hp).elim (fun z => I.pin p (List.mem_append_right _ z)) fun z => by
    obtain ⟨hb, e⟩ := of_pinsAt z
    obtain ⟨f0, f1, f2, _⟩ := hf p.1 hb
    obtain ⟨o, e', d⟩ := ho p.1 hb
    rw [e] at e'; cases e'
    exact ⟨e, f0, f1, f2, d⟩
theorem Inv.unpinned {pins pl : List (Addr × Obj)} {σ : St} {H : Hp} {s : Shared} (I : Inv X (pins ++ pl) σ H s) : Inv X pins σ H s := I.pins_of fun p hp => I.pin p (List.mem_append_right _ (List.mem_append_left _ hp))
theorem ps_for {iter : Expr} {body : List Stmt} {wi : TI} {g : TG} {tb : TS} {pos : Pos} (hp : PassesOwn (model X.prog X.w) X.A X.env X.xe) (hc : X.calm = true) (hi : PI X tg iter wi) (hg : PG X tg g) (hb : PSs X body tb)
    (hs : ∀ x, foldedSetIterable iter X.env x = pure x := by intro _; rfl) : PS X (.For tg iter body [] pos) (tFor wi g tb) := by
  intro pins s σ H D I h
  refine wpAny_For (thn (hi pins s σ H _ I h) fun v s1 h1 => thn h1 fun itv s2 h2 => ?_) hs
  obtain ⟨it, fp, tn, J, H2, e, I2, T, st2, f2, W, ⟨m0, w0⟩, turn⟩ := h2
  subst e
  -- what stays true of the iterator's objects through the loop
  have stat : ∀ {H' : Hp}, (∀ b ∈ fp, H' b = none) → ∀ b ∈ fp, FpOk X pins H' b := fun hn b hb => ⟨hn b hb, (f2 b hb).2⟩
  refine codeAny_forLoop_any (fun n s' => ∃ i σ' H', Inv X pins σ' H' s' ∧ tn i s'.heap ∧ (∀ b ∈ fp, H' b = none) ∧ W i n σ' H') ?_ m0 ⟨0, σ, H2, I2, st2, fun b hb => (f2 b hb).1, w0⟩
  rintro n s3 ⟨i, σ3, H3, I3, st3, fr3, w3⟩
  rcases turn i n σ3 H3 w3 with ⟨stop, qn⟩ | ⟨go, N, hN, step⟩
  · refine wpAny_passesOwn hp (thn (T.done X rfl rfl rfl hc i pins s3 σ3 H3 X.xe I3 (stat fr3) st3 stop) fun r s4 ⟨hr, I4⟩ => ?_)
    subst hr
    exact wpAny_execs_nil ⟨σ3, H3, I4, qn⟩
  · refine wpAny_passesOwn hp (thn (T.item X rfl rfl rfl hc i pins s3 σ3 H3 X.xe I3 (stat fr3) st3 go) fun r s4 ⟨u, hr, h4⟩ => ?_)
    subst hr
    refine wpAny_passesOwn hp (thn h4 fun _ s5 ⟨x, H5, I5, r5, y5, st5, fr5⟩ => ?_)
    have I5' := I5.pinned (stat fr5) (T.obj _ _ st5)
    refine wpAny_passesOwn hp (thn (hg _ s5 σ3 H5 x u _ I5' r5 (step x H5 y5)) fun _ s6 ⟨σ6, H6, I6, q6⟩ => ?_)
    refine wpAny_passesOwn hp (thn (hb _ s6 σ6 H6 _ I6 q6) fun f s7 q7 => ?_)
    have again : ∀ {σ7 : St} {H7 : Hp}, Inv X (pins ++ pinsAt fp s5.heap) σ7 H7 s7 → N σ7 H7 → ∃ m, m < n ∧ ∃ i σ' H', Inv X pins σ' H' s7 ∧ tn i s7.heap ∧ (∀ b ∈ fp, H' b = none) ∧ W i m σ' H' := fun {σ7 H7} I7 n7 => by
      obtain ⟨m', hm, w7⟩ := hN σ7 H7 n7
      refine ⟨m', hm, i + 1, σ7, H7, I7.unpinned, T.keep _ _ _ st5 fun b hb o e => (I7.pin (b, o) (List.mem_append_right _ (List.mem_append_right _ (mem_pinsAt hb e)))).1, fun b hb => ?_, w7⟩
      obtain ⟨o, e, d⟩ := T.obj _ _ st5 b hb
      exact (I7.pin (b, o) (List.mem_append_right _ (List.mem_append_right _ (mem_pinsAt hb e)))).2.1
    cases f with
    | next => obtain ⟨σ7, H7, I7, n7⟩ := q7; exact again I7 n7
    | cont => obtain ⟨σ7, H7, I7, n7⟩ := q7; exact again I7 n7
    | brk => obtain ⟨σ7, H7, I7, q7⟩ := q7; exact ⟨σ7, H7, I7.unpinned, q7⟩
    | ret v => obtain ⟨x7, σ7, H7, I7, r7, q7⟩ := q7; exact ⟨x7, σ7, H7, I7.unpinned, r7, q7⟩
end

/-! ### the forms one uses -/
/-- over a list that the body leaves as it is -/
theorem for_list {K : PySem.W.Frag} {a : Addr} {xs : List V} {g : TG} {tb : TS} {D : Ends} {σ : St} {H : Hp} (Pv : Nat → St → Hp → Prop) (h0 : Pv 0 σ H) (hl : ∀ i σ H, i ≤ xs.length → Pv i σ H → SqL K H a xs)
    (hs : ∀ i x σ H, xs[i]? = some x → Pv i σ H → g x σ H fun σ2 H2 => tb { D with nx := Pv (i + 1), ct := Pv (i + 1), bk := D.nx } σ2 H2) (hd : ∀ σ H, Pv xs.length σ H → D.nx σ H) :
    ∃ W : Nat → Nat → St → Hp → Prop, (∃ m, W 0 m σ H) ∧ ∀ i m σ H, W i m σ H →
      ((Itl K a).stop i H ∧ D.nx σ H) ∨ ((Itl K a).go i H ∧ ∃ N : St → Hp → Prop, (∀ σ' H', N σ' H' → ∃ m', m' < m ∧ W (i + 1) m' σ' H') ∧ ∀ x H', (Itl K a).yld i H x H' → g x σ H' fun σ2 H2 => tb { D with nx := N, ct := N, bk := D.nx } σ2 H2) := by
  refine ⟨fun i m σ H => m = xs.length - i ∧ i ≤ xs.length ∧ Pv i σ H, ⟨xs.length, by simp, Nat.zero_le _, h0⟩, ?_⟩
  rintro i m σ H ⟨rfl, hi, p⟩
  have q := hl i σ H hi p
  by_cases hlt : i < xs.length
  · refine .inr ⟨⟨xs, xs[i], q, by simp [hlt]⟩, Pv (i + 1), fun σ' H' p' => ⟨xs.length - (i + 1), by omega, rfl, hlt, p'⟩, fun x H' y => ?_⟩
    obtain ⟨e, y⟩ := y
    subst e
    exact hs i x σ _ (y xs q) p
  · have e : i = xs.length := by omega
    subst e
    exact .inl ⟨⟨xs, q, Nat.le_refl _⟩, hd σ H p⟩
theorem for_range {lo : Int} {n : Nat} {g : TG} {tb : TS} {D : Ends} {σ : St} {H : Hp} (Pv : Nat → St → Hp → Prop) (h0 : Pv 0 σ H)
    (hs : ∀ i σ H, i < n → Pv i σ H → g (.int (lo + i)) σ H fun σ2 H2 => tb { D with nx := Pv (i + 1), ct := Pv (i + 1), bk := D.nx } σ2 H2) (hd : ∀ σ H, Pv n σ H → D.nx σ H) :
    ∃ W : Nat → Nat → St → Hp → Prop, (∃ m, W 0 m σ H) ∧ ∀ i m σ H, W i m σ H →
      ((Itr lo n).stop i H ∧ D.nx σ H) ∨ ((Itr lo n).go i H ∧ ∃ N : St → Hp → Prop, (∀ σ' H', N σ' H' → ∃ m', m' < m ∧ W (i + 1) m' σ' H') ∧ ∀ x H', (Itr lo n).yld i H x H' → g x σ H' fun σ2 H2 => tb { D with nx := N, ct := N, bk := D.nx } σ2 H2) := by
  refine ⟨fun i m σ H => m = n - i ∧ i ≤ n ∧ Pv i σ H, ⟨n, by simp, Nat.zero_le _, h0⟩, ?_⟩
  rintro i m σ H ⟨rfl, hi, p⟩
  by_cases hlt : i < n
  · refine .inr ⟨hlt, Pv (i + 1), fun σ' H' p' => ⟨n - (i + 1), by omega, rfl, hlt, p'⟩, fun x H' y => ?_⟩
    obtain ⟨e, y⟩ := y
    subst e y
    exact hs i σ _ hlt p
  · have e : i = n := by omega
    subst e
    exact .inl ⟨Nat.le_refl _, hd σ H p⟩
end L2

namespace L2
open PySem PySem.Spec PyProof.Rows

abbrev R2 := V → V → Hp → VK → Prop
/-- a two-place operation on values: f is binaryOp op, inplaceOp op or compareOp op -/
def OpR (X : Cx) (f : Value → Value → Sem Value) (r : R2) : Prop :=
  ∀ (pins : List (Addr × Obj)) (s : Shared) (σ : St) (H : Hp) (x y : V) (v u : Value) (Q : VK), Inv X pins σ H s → RelV x v → RelV y u → r x y H Q →
    wpAny (model X.prog X.w) X.A (f v u) (EP X pins σ Q) X.xe s
/-- a one-place operation -/
def UnR (X : Cx) (f : Value → Sem Value) (r : V → Hp → VK → Prop) : Prop :=
  ∀ (pins : List (Addr × Obj)) (s : Shared) (σ : St) (H : Hp) (x : V) (v : Value) (Q : VK), Inv X pins σ H s → RelV x v → r x H Q →
    wpAny (model X.prog X.w) X.A (f v) (EP X pins σ Q) X.xe s
/-- a call of a value that is known (a builtin, a type) with values -/
def CallR (X : Cx) (f : Value) (r : List V → Hp → VK → Prop) : Prop :=
  ∀ (pins : List (Addr × Obj)) (s : Shared) (σ : St) (H : Hp) (xs : List V) (us : List Value) (Q : VK), Inv X pins σ H s → Vals xs us → r xs H Q →
    wpAny (model X.prog X.w) X.A (call f us) (EP X pins σ Q) X.xe s
/-- a value's truth -/
def TruR (X : Cx) (r : V → Hp → (Bool → Hp → Prop) → Prop) : Prop :=
  ∀ (pins : List (Addr × Obj)) (s : Shared) (σ : St) (H : Hp) (x : V) (v : Value) (Q : Bool → Hp → Prop), Inv X pins σ H s → RelV x v → r x H Q →
    wpAny (model X.prog X.w) X.A (truthy v) (TP X pins σ Q) X.xe s

def tOp (r : R2) (ta tb : TE) : TE := fun σ H Q => ta σ H fun x H1 => tb σ H1 fun y H2 => r x y H2 Q
def tUn (r : V → Hp → VK → Prop) (ta : TE) : TE := fun σ H Q => ta σ H fun x H1 => r x H1 Q
/-- ints in, under C, and a value out -/
def rI (C : Int → Int → Prop) (g : Int → Int → V) : R2 := fun x y H Q => ∃ i j, x = .int i ∧ y = .int j ∧ C i j ∧ Q (g i j) H
def rI0 (g : Int → Int → V) : R2 := fun x y H Q => ∃ i j, x = .int i ∧ y = .int j ∧ Q (g i j) H
def rU (g : Int → V) : V → Hp → VK → Prop := fun x H Q => ∃ i, x = .int i ∧ Q (g i) H

section
variable {X : Cx} {a b c : Expr} {ta tb tc : TE} {pos : Pos}

theorem binT (ha : PE X a ta) (hb : PE X b tb) {pins : List (Addr × Obj)} {s : Shared} {σ : St} {H : Hp} {R : V → V → Hp → Prop} (I : Inv X pins σ H s)
    (h : ta σ H fun x H1 => tb σ H1 fun y H2 => R x y H2) {Q : Value → Shared → Prop} {f : Value → Value → Sem Value}
    (hf : ∀ v u s2 x y H2, Inv X pins σ H2 s2 → RelV x v → RelV y u → R x y H2 → wpAny (model X.prog X.w) X.A (f v u) Q X.xe s2) :
    wpAny (model X.prog X.w) X.A (eval a X.env) (fun v s₁ => wpAny (model X.prog X.w) X.A (eval b X.env) (fun u s₂ => wpAny (model X.prog X.w) X.A (f v u) Q X.xe s₂) X.xe s₁) X.xe s := by
  refine thn (ha pins s σ H _ I h) fun v s1 ⟨x, H1, I1, r1, q1⟩ => ?_
  refine thn (hb pins s1 σ H1 _ I1 q1) fun u s2 ⟨y, H2, I2, r2, q2⟩ => ?_
  exact hf v u s2 x y H2 I2 r1 r2 q2

theorem pe_op {op : Operator} {r : R2} (ho : OpR X (binaryOp op) r) (ha : PE X a ta) (hb : PE X b tb) : PE X (.BinOp a op b pos) (tOp r ta tb) := by
  intro pins s σ H Q I h
  exact wpAny_BinOp (binT ha hb I h fun v u s2 x y H2 I2 rx ry q => ho pins s2 σ H2 x y v u Q I2 rx ry q)
theorem pe_un {op : UnaryOp} {r : V → Hp → VK → Prop} (ho : UnR X (unaryOp op) r) (ha : PE X a ta) : PE X (.UnaryOp op a pos) (tUn r ta) := by
  intro pins s σ H Q I h
  exact UnaryOp_ (thn (ha pins s σ H _ I h) fun v s1 ⟨x, H1, I1, r1, q1⟩ => ho pins s1 σ H1 x v Q I1 r1 q1)
/-! ### ints -/
theorem opI {f : Value → Value → Sem Value} {C : Int → Int → Prop} {g : Int → Int → Int}
    (rule : ∀ (i j : Int) (t u : Tok) (s : Shared) (Q : Value → Shared → Prop) (E : Value → Shared → Prop), C i j → Q (.int (g i j) s.toks) { s with toks := s.toks + 1 } → wpAny (model X.prog X.w) X.A (f (.int i t) (.int j u)) Q E s) :
    OpR X f (rI C fun i j => .int (g i j)) := by
  intro pins s σ H x y v u Q I rx ry h
  obtain ⟨i, j, rfl, rfl, hc, q⟩ := h
  obtain ⟨t, rfl⟩ := rx
  obtain ⟨t', rfl⟩ := ry
  exact rule i j t t' s _ _ hc ⟨.int (g i j), H, I.tok _, ⟨_, rfl⟩, q⟩
theorem opI0 {f : Value → Value → Sem Value} {g : Int → Int → Int}
    (rule : ∀ (i j : Int) (t u : Tok) (s : Shared) (Q : Value → Shared → Prop) (E : Value → Shared → Prop), Q (.int (g i j) s.toks) { s with toks := s.toks + 1 } → wpAny (model X.prog X.w) X.A (f (.int i t) (.int j u)) Q E s) :
    OpR X f (rI0 fun i j => .int (g i j)) := by
  intro pins s σ H x y v u Q I rx ry h
  obtain ⟨i, j, rfl, rfl, q⟩ := h
  obtain ⟨t, rfl⟩ := rx
  obtain ⟨t', rfl⟩ := ry
  exact rule i j t t' s _ _ ⟨.int (g i j), H, I.tok _, ⟨_, rfl⟩, q⟩
theorem opB0 {f : Value → Value → Sem Value} {g : Int → Int → Bool}
    (rule : ∀ (i j : Int) (t u : Tok) (s : Shared) (Q : Value → Shared → Prop) (E : Value → Shared → Prop), Q (.bool (g i j)) s → wpAny (model X.prog X.w) X.A (f (.int i t) (.int j u)) Q E s) :
    OpR X f (rI0 fun i j => .bl (g i j)) := by
  intro pins s σ H x y v u Q I rx ry h
  obtain ⟨i, j, rfl, rfl, q⟩ := h
  obtain ⟨t, rfl⟩ := rx
  obtain ⟨t', rfl⟩ := ry
  exact rule i j t t' s _ _ ⟨.bl (g i j), H, I, rfl, q⟩

def CDiv (i j : Int) : Prop := 0 < j ∧ j < 1073741824
def CDivN (i j : Int) : Prop := j ≠ 0 ∧ j.natAbs < 1073741824
def CPow (i j : Int) : Prop := 0 ≤ j ∧ j ≤ 1000000 ∧ i.natAbs < 2 ^ 64
def CMul (i j : Int) : Prop := (-(2 ^ 64) < i ∧ i < 2 ^ 64) ∨ (-(2 ^ 64) < j ∧ j < 2 ^ 64)
theorem CMul.ok {i j : Int} (h : CMul i j) : IntMulOk i j := by
  rcases h with ⟨h1, h2⟩ | ⟨h1, h2⟩
  · exact .of_left (intBits_le_64 h1 h2)
  · exact .of_right (intBits_le_64 h1 h2)
theorem op_add : OpR X (binaryOp .Add) (rI0 fun i j => .int (i + j)) := opI0 fun _ _ _ _ _ _ _ q => add_int q
theorem op_sub : OpR X (binaryOp .Sub) (rI0 fun i j => .int (i - j)) := opI0 fun _ _ _ _ _ _ _ q => sub_int q
theorem op_mul : OpR X (binaryOp .Mult) (rI CMul fun i j => .int (i * j)) := opI fun _ _ _ _ _ _ _ hc q => mul_int q hc.ok
/-- // by a positive divisor -/
theorem op_fdiv : OpR X (binaryOp .FloorDiv) (rI CDiv fun i j => .int (i / j)) := opI fun i j _ _ _ _ _ hc q => by
  have h1 : (0 : Int) < j := hc.1
  have h2 : j < 1073741824 := hc.2
  exact floordiv_int (by omega) (by rw [Int.fdiv_eq_ediv_of_nonneg i (by omega)]; exact q) (.inl (PyProof.noPylong_small (by omega)))
/-- % by a positive divisor of any size -/
theorem op_mod : OpR X (binaryOp .Mod) (rI (fun _ j => 0 < j) fun i j => .int (i % j)) := opI fun i j _ _ _ _ _ hc q => by
  have h1 : (0 : Int) < j := hc
  exact mod_int' (by omega) (by rw [Int.fmod_eq_emod_of_nonneg i (by omega)]; exact q)
theorem op_pow : OpR X (binaryOp .Pow) (rI CPow fun i j => .int (i ^ j.toNat)) := opI fun _ _ _ _ _ _ _ hc q => pow_int_small hc.1 hc.2.1 hc.2.2 q
theorem op_and : OpR X (binaryOp .BitAnd) (rI0 fun i j => .int (Builtin.bitAnd i j)) := opI0 fun _ _ _ _ _ _ _ q => and_int q
theorem op_or : OpR X (binaryOp .BitOr) (rI0 fun i j => .int (Builtin.bitOr i j)) := opI0 fun _ _ _ _ _ _ _ q => or_int q
theorem unI {f : Value → Sem Value} {g : Int → Int}
    (rule : ∀ (i : Int) (t : Tok) (s : Shared) (Q : Value → Shared → Prop) (E : Value → Shared → Prop), Q (.int (g i) s.toks) { s with toks := s.toks + 1 } → wpAny (model X.prog X.w) X.A (f (.int i t)) Q E s) :
    UnR X f (rU fun i => .int (g i)) := by
  intro pins s σ H x v Q I rx h
  obtain ⟨i, rfl, q⟩ := h
  obtain ⟨t, rfl⟩ := rx
  exact rule i t s _ _ ⟨.int (g i), H, I.tok _, ⟨_, rfl⟩, q⟩
theorem un_neg : UnR X (unaryOp .USub) (rU fun i => .int (-i)) := unI fun _ _ _ _ _ q => neg_int q
/-! ### bools among ints: n += (a < b) -/
end

/-! ### comparisons -/
/-- the scalars that == tells apart as data does -/
def scal : V → V → Bool
  | .non, .non => true | .non, .int _ => true | .int _, .non => true | .non, .bl _ => true | .bl _, .non => true | .non, .str _ => true | .str _, .non => true
  | .int _, .int _ => true | .bl _, .bl _ => true | .str _, .str _ => true | .byt _, .byt _ => true
  | .int _, .str _ => true | .str _, .int _ => true | .bl _, .str _ => true | .str _, .bl _ => true
  | _, _ => false
def rEq : R2 := fun x y H Q => scal x y = true ∧ Q (.bl (decide (x = y))) H
def rNe : R2 := fun x y H Q => scal x y = true ∧ Q (.bl (!decide (x = y))) H

theorem dec_int {i j : Int} : decide (V.int i = V.int j) = (i == j) := by
  rw [Bool.eq_iff_iff]
  simp
theorem dec_bl {i j : Bool} : decide (V.bl i = V.bl j) = (i == j) := by
  rw [Bool.eq_iff_iff]
  simp
theorem dec_str {i j : Str} : decide (V.str i = V.str j) = (i == j) := by
  rw [Bool.eq_iff_iff]
  simp
theorem dec_byt {i j : Array UInt8} : decide (V.byt i = V.byt j) = (i.toList == j.toList) := by
  rw [Bool.eq_iff_iff]
  cases i
  cases j
  simp

section
variable {X : Cx} {a b c : Expr} {ta tb tc : TE} {pos : Pos}
theorem fin_bl {pins : List (Addr × Obj)} {σ : St} {H : Hp} {s : Shared} {Q : VK} {k k' : Bool} (I : Inv X pins σ H s) (q : Q (.bl k) H) (e : k = k') : EP X pins σ Q (.bool k') s := by
  subst e
  exact ⟨.bl k, H, I, rfl, q⟩
theorem op_eq : OpR X (compareOp .Eq) rEq := by
  intro pins s σ H x y v u Q I rx ry h
  obtain ⟨hs, q⟩ := h
  cases x with
  | non =>
    cases rx
    cases y with
    | non => cases ry; exact PySem.EqNone.eq_none_none (fin_bl I q (by simp))
    | bl j => cases ry; exact PySem.EqNone.eq_none_bool (fin_bl I q (by simp))
    | int j => obtain ⟨t', rfl⟩ := ry; exact PySem.EqNone.eq_none_int (fin_bl I q (by simp))
    | str j => obtain ⟨t', rfl⟩ := ry; exact PySem.EqNone.eq_none_str (fin_bl I q (by simp))
    | _ => exact absurd (show false = true from hs) Bool.false_ne_true
  | bl i =>
    cases rx
    cases y with
    | non => cases ry; exact PySem.EqNone.eq_bool_none (fin_bl I q (by simp))
    | bl j => cases ry; exact eq_bool (fin_bl I q dec_bl)
    | str j => obtain ⟨t', rfl⟩ := ry; exact PySem.EqMixed.eq_bool_str (fin_bl I q (by simp))
    | _ => exact absurd (show false = true from hs) Bool.false_ne_true
  | int i =>
    obtain ⟨t, rfl⟩ := rx
    cases y with
    | non => cases ry; exact PySem.EqNone.eq_int_none (fin_bl I q (by simp))
    | int j => obtain ⟨t', rfl⟩ := ry; exact eq_int (fin_bl I q dec_int)
    | str j => obtain ⟨t', rfl⟩ := ry; exact PySem.EqMixed.eq_int_str (fin_bl I q (by simp))
    | _ => exact absurd (show false = true from hs) Bool.false_ne_true
  | str i =>
    obtain ⟨t, rfl⟩ := rx
    cases y with
    | non => cases ry; exact PySem.EqNone.eq_str_none (fin_bl I q (by simp))
    | bl j => cases ry; exact PySem.EqMixed.eq_str_bool (fin_bl I q (by simp))
    | int j => obtain ⟨t', rfl⟩ := ry; exact PySem.EqMixed.eq_str_int (fin_bl I q (by simp))
    | str j => obtain ⟨t', rfl⟩ := ry; exact eq_str (fin_bl I q dec_str)
    | _ => exact absurd (show false = true from hs) Bool.false_ne_true
  | byt i =>
    obtain ⟨t, rfl⟩ := rx
    cases y with
    | byt j => obtain ⟨t', rfl⟩ := ry; exact PySem.W.eq_bytes (fin_bl I q dec_byt)
    | _ => exact absurd (show false = true from hs) Bool.false_ne_true
  | _ => cases y <;> exact absurd (show false = true from hs) Bool.false_ne_true
theorem op_ne : OpR X (compareOp .NotEq) rNe := by
  intro pins s σ H x y v u Q I rx ry h
  obtain ⟨hs, q⟩ := h
  cases x with
  | non =>
    cases rx
    cases y with
    | non => cases ry; exact PySem.EqNone.ne_none_none (fin_bl I q (by simp))
    | bl j => cases ry; exact PySem.EqNone.ne_none_bool (fin_bl I q (by simp))
    | int j => obtain ⟨t', rfl⟩ := ry; exact PySem.EqNone.ne_none_int (fin_bl I q (by simp))
    | str j => obtain ⟨t', rfl⟩ := ry; exact PySem.EqNone.ne_none_str (fin_bl I q (by simp))
    | _ => exact absurd (show false = true from hs) Bool.false_ne_true
  | bl i =>
    cases rx
    cases y with
    | non => cases ry; exact PySem.EqNone.ne_bool_none (fin_bl I q (by simp))
    | bl j => cases ry; exact ne_bool (fin_bl I q (congrArg not dec_bl))
    | str j => obtain ⟨t', rfl⟩ := ry; exact PySem.EqMixed.ne_bool_str (fin_bl I q (by simp))
    | _ => exact absurd (show false = true from hs) Bool.false_ne_true
  | int i =>
    obtain ⟨t, rfl⟩ := rx
    cases y with
    | non => cases ry; exact PySem.EqNone.ne_int_none (fin_bl I q (by simp))
    | int j => obtain ⟨t', rfl⟩ := ry; exact ne_int (fin_bl I q (congrArg not dec_int))
    | str j => obtain ⟨t', rfl⟩ := ry; exact PySem.EqMixed.ne_int_str (fin_bl I q (by simp))
    | _ => exact absurd (show false = true from hs) Bool.false_ne_true
  | str i =>
    obtain ⟨t, rfl⟩ := rx
    cases y with
    | non => cases ry; exact PySem.EqNone.ne_str_none (fin_bl I q (by simp))
    | bl j => cases ry; exact PySem.EqMixed.ne_str_bool (fin_bl I q (by simp))
    | int j => obtain ⟨t', rfl⟩ := ry; exact PySem.EqMixed.ne_str_int (fin_bl I q (by simp))
    | str j => obtain ⟨t', rfl⟩ := ry; exact ne_str (fin_bl I q (congrArg not dec_str))
    | _ => exact absurd (show false = true from hs) Bool.false_ne_true
  | byt i =>
    obtain ⟨t, rfl⟩ := rx
    cases y with
    | byt j => obtain ⟨t', rfl⟩ := ry; exact PySem.W.ne_bytes (fin_bl I q (congrArg not dec_byt))
    | _ => exact absurd (show false = true from hs) Bool.false_ne_true
  | _ => cases y <;> exact absurd (show false = true from hs) Bool.false_ne_true

theorem op_lt : OpR X (compareOp .Lt) (rI0 fun i j => .bl (decide (i < j))) := opB0 fun _ _ _ _ _ _ _ q => lt_int q
theorem op_le : OpR X (compareOp .LtE) (rI0 fun i j => .bl (decide (i ≤ j))) := opB0 fun _ _ _ _ _ _ _ q => le_int q
theorem op_gt : OpR X (compareOp .Gt) (rI0 fun i j => .bl (decide (j < i))) := opB0 fun _ _ _ _ _ _ _ q => gt_int q
/-- is, is not of two objects that are tracked lists or instances -/
def isObj : HO → Bool
  | .lst _ => true
  | .ins _ _ _ => true
  | _ => false
theorem nomark (b : Expr) {op : CmpOp} (h : op ≠ .In := by decide) (h2 : op ≠ .NotIn := by decide) : behindInMarks op b = false := by
  have e1 : (op == CmpOp.In) = false := by cases op <;> first | rfl | exact absurd rfl h
  have e2 : (op == CmpOp.NotIn) = false := by cases op <;> first | rfl | exact absurd rfl h2
  cases b <;> simp [behindInMarks, e1, e2]
/-- a comparison as a value; hm: nomark b, or (for in, not in) by with_unfolding_all rfl -/
theorem pe_cmpR {op : CmpOp} {r : R2} (ho : OpR X (compareOp op) r) (ha : PE X a ta) (hb : PE X b tb) (hm : behindInMarks op b = false) : PE X (.Compare a [op] [b] pos) (tOp r ta tb) := by
  intro pins s σ H Q I h
  exact wpAny_Compare1 (binT ha hb I h fun v u s2 x y H2 I2 rx ry q => ho pins s2 σ H2 x y v u Q I2 rx ry q) hm
/-- a reading of a value as a test -/
def tTest (t : TE) : TT := fun σ H Q => t σ H fun x H' => ∃ k, x = .bl k ∧ Q k H'
theorem pt_cmpR {op : CmpOp} {r : R2} (ho : OpR X (compareOp op) r) (ha : PE X a ta) (hb : PE X b tb) (hm : behindInMarks op b = false) : PT X (.Compare a [op] [b] pos) (tTest (tOp r ta tb)) := by
  intro pins s σ H Q I h
  refine wpAny_isTrue_Compare1 (thn (ha pins s σ H _ I h) fun v s1 ⟨x, H1, I1, r1, q1⟩ => thn (hb pins s1 σ H1 _ I1 q1) fun u s2 ⟨y, H2, I2, r2, q2⟩ =>
    thn (ho pins s2 σ H2 x y v u _ I2 r1 r2 q2) fun c s3 ⟨z, H3, I3, r3, k, e, q3⟩ => ?_) hm
  subst e
  cases r3
  exact wpAny_truthy_bool ⟨H3, I3, q3⟩
/-- a op1 b op2 c -/
def tChain (r r' : R2) (ta tb tc : TE) : TE := fun σ H Q => ta σ H fun x H1 => tb σ H1 fun y H2 => r x y H2 fun z H3 => ∃ k, z = .bl k ∧
  (if k = true then tc σ H3 fun w' H4 => r' y w' H4 Q else Q (.bl false) H3)
theorem pe_chain {op op' : CmpOp} {r r' : R2} (ho : OpR X (compareOp op) r) (ho' : OpR X (compareOp op') r') (ha : PE X a ta) (hb : PE X b tb) (hc : PE X c tc)
    (hm : lastMarks [op, op'] [b, c] = false := by with_unfolding_all rfl) : PE X (.Compare a [op, op'] [b, c] pos) (tChain r r' ta tb tc) := by
  intro pins s σ H Q I h
  refine Compare_chain (thn (ha pins s σ H _ I h) fun v s1 ⟨x, H1, I1, r1, q1⟩ => chain_link (thn (hb pins s1 σ H1 _ I1 q1) fun u s2 ⟨y, H2, I2, r2, q2⟩ =>
    thn (ho pins s2 σ H2 x y v u _ I2 r1 r2 q2) fun d s3 ⟨z, H3, I3, r3, k, e, q3⟩ => ?_)) hm
  subst e
  cases r3
  refine wpAny_truthy_bool ?_
  cases k with
  | false => exact ite_ff ⟨.bl false, H3, I3, rfl, q3⟩
  | true => exact ite_tt (chain_last (thn (hc pins s3 σ H3 _ I3 q3) fun w' s4 ⟨z', H4, I4, r4, q4⟩ => ho' pins s4 σ H4 y z' u w' Q I4 r2 r4 q4))
/-! ### truth -/
/-- a value's truth by the abstract heap -/
def TruV (K : PySem.W.Frag) (x : V) (H : Hp) (k : Bool) : Prop :=
  match x with
  | .non => k = false
  | .bl b => k = b
  | .int i => k = (i != 0)
  | .str y => y.length ≤ sizeLine ∧ k = ((y.length : Int) != 0)
  | .byt y => y.size ≤ sizeLine ∧ k = ((y.size : Int) != 0)
  | .ref p => (∃ xs, SqL K H p xs ∧ k = !xs.isEmpty) ∨ (∃ xs, SqT K H p xs ∧ k = !xs.isEmpty) ∨ ∃ kvs, H p = some (.dK kvs) ∧ k = !kvs.isEmpty
  | _ => False
theorem line63 : (sizeLine : Nat) < 2 ^ 63 := by rw [sizeLine_eq]; decide
/-! ### strs and bytes -/
def PlainIxT (b : Expr) : Prop := ∀ o i, subscripted b false o i = operate [o, i] (getItem o i)
/-! ### scalar builtins, by CallR -/
theorem vals1 {x : V} {us : List Value} (r : Vals [x] us) : ∃ u, us = [u] ∧ RelV x u := by
  cases r with
  | cons r1 r2 => cases r2; exact ⟨_, rfl, r1⟩
theorem vals2 {x y : V} {us : List Value} (r : Vals [x, y] us) : ∃ u w', us = [u, w'] ∧ RelV x u ∧ RelV y w' := by
  cases r with
  | cons r1 r2 =>
    cases r2 with
    | cons r3 r4 => cases r4; exact ⟨_, _, rfl, r1, r3⟩
theorem call_max2 (hc : X.calm = true) : CallR X (.builtin "max") (fun xs H Q => ∃ i j, xs = [.int i, .int j] ∧ Q (.int (if j > i then j else i)) H) := by
  intro pins s σ H xs us Q I r h
  obtain ⟨i, j, rfl, q⟩ := h
  obtain ⟨u, w', rfl, ⟨t, rfl⟩, ⟨t', rfl⟩⟩ := vals2 r
  refine max_two_ints (I.ok.hd hc) fun h' tk k => ⟨_, H, I.kept k, ?_, q⟩
  by_cases hj : j > i
  · rw [if_pos hj, if_pos hj]; exact ⟨_, rfl⟩
  · rw [if_neg hj, if_neg hj]; exact ⟨_, rfl⟩
theorem call_min2 (hc : X.calm = true) : CallR X (.builtin "min") (fun xs H Q => ∃ i j, xs = [.int i, .int j] ∧ Q (.int (if j < i then j else i)) H) := by
  intro pins s σ H xs us Q I r h
  obtain ⟨i, j, rfl, q⟩ := h
  obtain ⟨u, w', rfl, ⟨t, rfl⟩, ⟨t', rfl⟩⟩ := vals2 r
  refine min_two_ints (I.ok.hd hc) fun h' tk k => ⟨_, H, I.kept k, ?_, q⟩
  by_cases hj : j < i
  · rw [if_pos hj, if_pos hj]; exact ⟨_, rfl⟩
  · rw [if_neg hj, if_neg hj]; exact ⟨_, rfl⟩
/-- len of a str, a bytes, a list, a tuple -/
def LenV (K : PySem.W.Frag) (x : V) (H : Hp) (n : Nat) : Prop :=
  match x with
  | .str y => y.length ≤ sizeLine ∧ n = y.length
  | .byt y => y.size ≤ sizeLine ∧ n = y.size
  | .ref p => (∃ xs, SqL K H p xs ∧ n = xs.length) ∨ ∃ xs, SqT K H p xs ∧ n = xs.length
  | _ => False
end
end L2

namespace L2
open PySem PySem.Spec PyProof.Rows

/-! ### an instance, its attributes a map -/
structure ObjM (h : Heap) (x dx C : Addr) (mA : Str → Option Value) : Prop where
  obj : h.get? x = some (PySem.W.instObj C dx)
  ns : h.Ns1 dx mA
  ne : dx ≠ x

theorem lookIn_ns {h : Heap} {dx : Addr} {mA : Str → Option Value} (n : h.Ns1 dx mA) : ∃ od, h.get? dx = some od ∧ ∀ name, PySem.W.lookIn name od = some (mA name) := by
  obtain ⟨o, es, ep, ho, hd, hk, _, hm⟩ := n
  refine ⟨o, ho, fun name => ?_⟩
  have e := hm name
  unfold nsFind findBy at e
  rw [← Array.find?_toList] at e
  unfold PySem.W.lookIn
  rw [hd]
  dsimp only
  split
  · rename_i y q
    rw [q] at e
    exact congrArg some e
  · rename_i q
    rw [q] at e
    have a : es.toList.any (·.refKey) = false := by
      rw [List.any_eq_false]
      intro y hy
      obtain ⟨z, t, hkey⟩ := hk y (Array.mem_toList_iff.mp hy)
      simp [DictEntry.refKey, hkey]
    have a' : ¬ es.toList.any (·.refKey) = true := by rw [a]; exact Bool.false_ne_true
    rw [if_neg a']
    exact congrArg some e

theorem ObjM.look {h : Heap} {x dx C : Addr} {mA : Str → Option Value} (I : ObjM h x dx C mA) : ∃ od, PySem.W.InstAt h x (PySem.W.instObj C dx) C (some od) ∧ ∀ name, PySem.W.lookIn name od = some (mA name) :=
  let ⟨od, ho, hl⟩ := lookIn_ns I.ns
  ⟨od, ⟨I.obj, rfl, rfl, ho⟩, hl⟩

section
variable {prog : Program} {w : World} {A : Around} {E : Value → Shared → Prop} {s : Shared} {K : PySem.W.Frag} {x dx C f : Addr} {mA : Str → Option Value} {name : Str} {v : Value}

theorem get_map {expr : Bool} {Q : Value → Shared → Prop} (X : K.In s.heap) (I : ObjM s.heap x dx C mA) (hg : PySem.W.plainGet K C name = true) (hh : PySem.W.hasDictIn K C = true)
    (ha : PySem.W.findIn K (.ref C) name = some none) (hv : mA name = some v) (hv' : PySem.W.handedIn v = true) (h : Q v { s with toks := s.toks + 1 }) :
    wpAny (model prog w) A (getAttr (.ref x) name expr) Q E s := by
  obtain ⟨od, J, hl⟩ := I.look
  exact PySem.W.get_value X J (PySem.W.plainGet_of hg).1 (PySem.W.findObj_own hh ha rfl (by rw [hl, hv])) hv' h

theorem get_meth {pl : Sem Bool} {Q : Value × List Value → Shared → Prop} (X : K.In s.heap) (I : ObjM s.heap x dx C mA) (hg : PySem.W.plainGet K C name = true)
    (hf : PySem.W.findIn K (.ref C) name = some (some (.ref f))) (ht : PySem.W.isFn K (.ref f) = true) (hv : mA name = none) (h : Q (.ref f, [.ref x]) s) :
    wpAny (model prog w) A (getMethod (.ref x) name pl) Q E s := by
  obtain ⟨od, J, hl⟩ := I.look
  exact PySem.W.method_fn X J (PySem.W.plainGet_of hg).1 (PySem.W.plainGet_of hg).2 hf (beq_iff_eq.mp ht) (by show (PySem.W.lookIn name od).map (·.isSome) = some false; rw [hl, hv]; rfl) h

theorem set_map {ns : List Str} {Q : Unit → Shared → Prop} (X : K.In s.heap) (I : ObjM s.heap x dx C mA)
    (hs : PySem.W.findIn K (.ref C) "__setattr__" = some (some (.builtin "object.__setattr__"))) (hp : PySem.W.plainOver K C = true) (ht : PySem.W.takerIn K C name = some none) (hh : PySem.W.hasDictIn K C = true)
    (hw : PySem.Within mA ns) (hsz : ns.length ≤ sizeLine)
    (h : ∀ h', ObjM h' x dx C (fun y => if y = name then some v else mA y) → Heap.SameBut dx s.heap h' → Q () { s with heap := h', toks := s.toks + 2 }) :
    wpAny (model prog w) A (setAttr (.ref x) name v) Q E s := by
  obtain ⟨od, J, hl⟩ := I.look
  refine PySem.W.set_plain X J hs (PySem.W.osa_open (s := { s with toks := s.toks + 1 }) (r := none) X J hp ht fun b => ?_)
  obtain ⟨cd, hc, hd'⟩ := PySem.W.any_some hh
  have hx : s.heap.get? x = some ⟨.ref C, some dx, .plain, #[]⟩ := I.obj
  refine wpAny_bind (wpAny_pure (wpAny_bind (wpAny_bind (wpAny_loadPart hx (wpAny_bind (PySem.W.Looks.here (s := { s with toks := s.toks + 1 }) (PySem.W.looks_clsIn X hc) ?_))))))
  rw [hd']
  refine wpAny_pure (a := some dx) (wpAny_bind (wpAny_pure (wpAny_bind ?_)))
  refine wpAny_nsSet1 (s := { s with toks := s.toks + 1 }) I.ns fun h' hn2 hs2 => ?_
  obtain ⟨oD, esD, epD, hoD, hdD, hcD⟩ := hn2.count (PySem.Within.cons name v hw)
  refine wpAny_bind (wpAny_lookBehind hoD (by rw [hdD]; exact pastItsLine_dict (Nat.le_trans hcD (by rw [List.length_cons]; omega))) ?_)
  exact wpAny_pure (h _ ⟨(hs2.2 _ (Ne.symm I.ne)).trans I.obj, hn2, I.ne⟩ hs2)

/-- C(..): the dict at the heap's end, the instance behind it; then its __init__ -/
theorem make_map {R : Result → Shared → Prop} {vs : List Value} {kw : List (Str × Value)} (X : K.In s.heap) (hm : PySem.W.makesIn K C = true)
    (hi : PySem.W.findIn K (.ref C) "__init__" = some (some (.ref f))) (hf : PySem.W.typeIn K (.ref f) = some (.type "function"))
    (h : codeAny (model prog w) (A.under (.builtin "type.__call__" ⟨.ref C :: vs, kw⟩)) (.call (.ref f) ⟨.ref (s.heap.objs.size + 1) :: vs, kw⟩) (PySem.W.InitBack (s.heap.objs.size + 1) R)
      { s with heap := (s.heap.push PySem.W.emptyDict).push (PySem.W.instObj C s.heap.objs.size) }) :
    codeAny (model prog w) A (.call (.ref C) ⟨vs, kw⟩) R s := by
  obtain ⟨hh, g, d, t, os⟩ := s
  exact PySem.W.make_core (PySem.W.makes_of X hm) (PySem.W.looks_findIn X hi) (fun self => PySem.W.bind_fn X self hf) (.inl rfl) h
end

/-! ### the attributes as a list of pairs -/
def putF (f : Str) (v : V) : List (Str × V) → List (Str × V)
  | [] => [(f, v)]
  | (g, x) :: r => if g = f then (g, v) :: r else (g, x) :: putF f v r
theorem lookup_putF (f g : Str) (v : V) : ∀ fs : List (Str × V), (putF f v fs).lookup g = if g = f then some v else fs.lookup g
  | [] => by
    show List.lookup g [(f, v)] = _
    by_cases h : g = f
    · have hb : (g == f) = true := beq_iff_eq.mpr h
      simp only [List.lookup, hb, if_pos h]
    · have hb : (g == f) = false := beq_eq_false_iff_ne.mpr h
      simp only [List.lookup, hb, if_neg h]
  | (k, x) :: r => by
    have ih := lookup_putF f g v r
    rw [show putF f v ((k, x) :: r) = (if k = f then (k, v) :: r else (k, x) :: putF f v r) from rfl]
    by_cases hk : k = f
    · rw [if_pos hk]
      by_cases h : g = k
      · have hb : (g == k) = true := beq_iff_eq.mpr h
        simp only [List.lookup, hb, if_pos (h.trans hk)]
      · have hb : (g == k) = false := beq_eq_false_iff_ne.mpr h
        simp only [List.lookup, hb, if_neg (fun e : g = f => h (e.trans hk.symm))]
    · rw [if_neg hk]
      by_cases h : g = k
      · have hb : (g == k) = true := beq_iff_eq.mpr h
        simp only [List.lookup, hb, if_neg (fun e : g = f => hk (h.symm.trans e))]
      · have hb : (g == k) = false := beq_eq_false_iff_ne.mpr h
        simp only [List.lookup, hb]
        exact ih
theorem keys_putF (f : Str) (v : V) : ∀ fs : List (Str × V), f ∈ (putF f v fs).map (·.1) ∧ ∀ g, g ∈ fs.map (·.1) → g ∈ (putF f v fs).map (·.1)
  | [] => ⟨by simp [putF], fun g h => by simp at h⟩
  | (k, x) :: r => by
    obtain ⟨i1, i2⟩ := keys_putF f v r
    rw [show putF f v ((k, x) :: r) = (if k = f then (k, v) :: r else (k, x) :: putF f v r) from rfl]
    by_cases hk : k = f
    · rw [if_pos hk]
      subst hk
      exact ⟨by simp, fun g h => by simpa using h⟩
    · rw [if_neg hk]
      refine ⟨?_, fun g h => ?_⟩
      · rw [List.map_cons]
        exact List.mem_cons_of_mem _ i1
      · rw [List.map_cons] at h ⊢
        rcases List.mem_cons.mp h with e | e
        · exact List.mem_cons.mpr (.inl e)
        · exact List.mem_cons_of_mem _ (i2 g e)
theorem length_putF (f : Str) (v : V) : ∀ fs : List (Str × V), (putF f v fs).length ≤ fs.length + 1
  | [] => by simp [putF]
  | (k, x) :: r => by
    have ih := length_putF f v r
    rw [show putF f v ((k, x) :: r) = (if k = f then (k, v) :: r else (k, x) :: putF f v r) from rfl]
    by_cases hk : k = f
    · rw [if_pos hk, List.length_cons, List.length_cons]; omega
    · rw [if_neg hk, List.length_cons, List.length_cons]; omega

theorem RelO.some_of {v : V} {o : Option Value} (r : RelO (some v) o) : ∃ u, o = some u ∧ RelV v u := by
  cases o with
  | none => exact (show False from r).elim
  | some u => exact ⟨u, rfl, r⟩
theorem RelO.none_of {o : Option Value} (r : RelO none o) : o = none := by
  cases o with
  | none => rfl
  | some u => exact (show False from r).elim
theorem handed_of {v : V} {u : Value} (r : RelV v u) : PySem.W.handedIn u = true := by
  cases v with
  | non => cases (show u = Value.none from r); rfl
  | bl b => cases (show u = Value.bool b from r); rfl
  | int i => obtain ⟨t, e⟩ := (show ∃ t, u = Value.int i t from r); cases e; rfl
  | str x => obtain ⟨t, e⟩ := (show ∃ t, u = Value.str x t from r); cases e; rfl
  | byt b => obtain ⟨t, e⟩ := (show ∃ t, u = Value.bytes b t from r); cases e; rfl
  | flt b => obtain ⟨t, e⟩ := (show ∃ t, u = Value.float b t from r); cases e; rfl
  | ref a => cases (show u = Value.ref a from r); rfl
  | ty n => cases (show u = Value.type n from r); rfl

section
variable {P : Program} {w : World} {H H' : Hp} {h h' : Heap} {a C dx : Addr} {fs fs' : List (Str × V)}
theorem ins_get (hok : HOk P w H h) (e : H a = some (.ins C dx fs)) : ∃ mA, ObjM h a dx C mA ∧ (∀ f, RelO (fs.lookup f) (mA f)) ∧ PySem.Within mA (fs.map (·.1)) ∧ fs.length ≤ 1000 ∧ H dx = some (.own a) := by
  obtain ⟨d, z, ne, ob, mA, n, r, q⟩ := (show ObjOk P w H h a (.ins C dx fs) from hok a _ e)
  exact ⟨mA, ⟨ob, n, ne⟩, r, q, z, d⟩
end

/-! ### what of the text a class must have -/
structure Cls (K : PySem.W.Frag) (C : Addr) : Prop where
  pg : PySem.W.plainGet K C Str.empty = true
  hd : PySem.W.hasDictIn K C = true
  po : PySem.W.plainOver K C = true
  sa : PySem.W.findIn K (.ref C) "__setattr__" = some (some (.builtin "object.__setattr__"))
theorem Cls.get {K : PySem.W.Frag} {C : Addr} (c : Cls K C) (f : Str) : PySem.W.plainGet K C f = true := c.pg
/-- no class of it has the name -/
def NoAttr (K : PySem.W.Frag) (C : Addr) (f : Str) : Prop := PySem.W.findIn K (.ref C) f = some none
theorem NoAttr.taker {K : PySem.W.Frag} {C : Addr} {f : Str} (n : NoAttr K C f) : PySem.W.takerIn K C f = some none := by
  unfold PySem.W.takerIn
  rw [show PySem.W.findIn K (.ref C) f = some none from n]
  rfl
/-- a constant of the class -/
structure Con (K : PySem.W.Frag) (C : Addr) (f : Str) (v : V) (u : Value) : Prop where
  at_ : PySem.W.findIn K (.ref C) f = some (some u)
  rel : RelV v u
  get : PySem.W.specialIn K u "__get__" = some none
  cp : PySem.W.copiedNames.contains f = false
/-- a method: a plain def of the class or of one above it -/
structure Meth (K : PySem.W.Frag) (C : Addr) (m : Str) (f : Addr) : Prop where
  at_ : PySem.W.findIn K (.ref C) m = some (some (.ref f))
  fn : PySem.W.isFn K (.ref f) = true
  kp : PySem.W.keepIn K (.ref f) = true

section
variable {X : Cx} {pins : List (Addr × Obj)} {σ : St} {H : Hp} {s : Shared} {a C dx : Addr} {fs : List (Str × V)} {f : Str} {v : V} {A : Around} {E : Value → Shared → Prop}

theorem getattr_ok {b : Bool} {Q : Value → Shared → Prop} (I : Inv X pins σ H s) (e : H a = some (.ins C dx fs)) (c : Cls X.K C) (n : NoAttr X.K C f) (l : fs.lookup f = some v)
    (h : ∀ u s', Inv X pins σ H s' → RelV v u → Q u s') : wpAny (model X.prog X.w) A (getAttr (.ref a) f b) Q E s := by
  obtain ⟨mA, O, r, _, _, _⟩ := ins_get I.hok e
  obtain ⟨u, hu, ru⟩ := RelO.some_of (v := v) (o := mA f) (by rw [← l]; exact r f)
  exact get_map I.kIn O (c.get f) c.hd n hu (handed_of ru) (h u _ (I.tok _) ru)

theorem getmeth_ok {m : Str} {g : Addr} {pl : Sem Bool} {Q : Value × List Value → Shared → Prop} (I : Inv X pins σ H s) (e : H a = some (.ins C dx fs)) (c : Cls X.K C) (k : Meth X.K C m g) (l : fs.lookup m = none)
    (h : Q (.ref g, [.ref a]) s) : wpAny (model X.prog X.w) A (getMethod (.ref a) m pl) Q E s := by
  obtain ⟨mA, O, r, _, _, _⟩ := ins_get I.hok e
  have hn : mA m = none := RelO.none_of (by rw [← l]; exact r m)
  exact get_meth I.kIn O (c.get m) k.at_ k.fn hn h

theorem setattr_ok {y : V} {u : Value} {Q : Unit → Shared → Prop} (I : Inv X pins σ H s) (e : H a = some (.ins C dx fs)) (c : Cls X.K C) (n : NoAttr X.K C f) (hl : fs.length < 1000) (ry : RelV y u)
    (h : ∀ s', Inv X pins σ (upd H a (.ins C dx (putF f y fs))) s' → Q () s') : wpAny (model X.prog X.w) A (setAttr (.ref a) f u) Q E s := by
  obtain ⟨mA, O, r, wi, _, ho⟩ := ins_get I.hok e
  have hz : (fs.map (·.1)).length ≤ sizeLine := by rw [List.length_map, sizeLine_eq]; omega
  refine set_map I.kIn O c.sa c.po n.taker c.hd wi hz fun h' O' sb => h _ ?_
  have hd : ∃ o, h'.get? dx = some o := let ⟨o, _, _, e', _⟩ := O'.ns; ⟨o, e'⟩
  refine I.write (x := a) (e := dx) (by rw [e]; exact True.intro) (.inr ho) (fun b q hb z => (sb.2 b hb).trans z) hd ?_
  refine ⟨by rw [upd_ne O.ne]; exact ho, ?_, O.ne, O'.obj, _, O'.ns, fun g => ?_, fun g hg => ?_⟩
  · have := length_putF f y fs; omega
  · show RelO ((putF f y fs).lookup g) (if g = f then some u else mA g)
    rw [lookup_putF]
    by_cases q : g = f
    · rw [if_pos q, if_pos q]; exact ry
    · rw [if_neg q, if_neg q]; exact r g
  · by_cases q : g = f
    · rw [q]; exact (keys_putF f y fs).1
    · refine (keys_putF f y fs).2 g (wi g fun z => hg ?_)
      show (if g = f then some u else mA g) = none
      rw [if_neg q]; exact z

/-- a new instance, tracked, without attributes -/
theorem Inv.made (I : Inv X pins σ H s) : Inv X pins σ (upd (upd H s.heap.objs.size (.own (s.heap.objs.size + 1))) (s.heap.objs.size + 1) (.ins C s.heap.objs.size []))
    { s with heap := (s.heap.push PySem.W.emptyDict).push (PySem.W.instObj C s.heap.objs.size) } := by
  have e1 : (s.heap.push PySem.W.emptyDict).get? s.heap.objs.size = some PySem.W.emptyDict := Heap.get?_push_size s.heap rfl
  have e2 : ((s.heap.push PySem.W.emptyDict).push (PySem.W.instObj C s.heap.objs.size)).get? (s.heap.objs.size + 1) = some (PySem.W.instObj C s.heap.objs.size) := by
    have := Heap.get?_push_size (s.heap.push PySem.W.emptyDict) (o := PySem.W.instObj C s.heap.objs.size) rfl
    rwa [Heap.size_push] at this
  have e3 : (s.heap.push PySem.W.emptyDict).Ns s.heap.objs.size (fun _ => none) := ⟨PySem.W.emptyDict, #[], _, e1, rfl, (fun e he => absurd he (by simp)), fun _ => rfl⟩
  have I1 := I.laid (a := s.heap.objs.size) (o := .own (s.heap.objs.size + 1)) (h' := s.heap.push PySem.W.emptyDict) (t' := s.toks) (fun b u q => Heap.get?_push_of_some _ q) (Nat.le_refl _) ⟨_, e1⟩
  refine I1.laid (a := s.heap.objs.size + 1) (o := .ins C s.heap.objs.size []) (t' := s.toks) (fun b u q => Heap.get?_push_of_some _ q) (Nat.le_of_eq (Heap.size_push _ _)) ?_
  have ne : s.heap.objs.size ≠ s.heap.objs.size + 1 := Nat.ne_of_lt (Nat.lt_succ_self _)
  refine ⟨by rw [upd_ne ne, upd_same], Nat.zero_le _, ne, e2, fun _ => none, (Heap.Ns1.of_empty e3).at fun o q => Heap.get?_push_of_some _ q, fun _ => True.intro, fun y hy => absurd rfl hy⟩

/-- e.f where nothing but the object is asked: through attributeBase (super) and the last hold -/
theorem attr_of {prog : Program} {w : World} {env : Env} {e : Expr} {f : Str} {pos : Pos} {s : Shared} {Q : Value → Shared → Prop} (hb : attributeBase e f env (eval e env) = eval e env)
    (h : wpAny (model prog w) A (eval e env) (fun o s₁ => wpAny (model prog w) A (getAttr o f true) Q E s₁) E s) : wpAny (model prog w) A (eval (.Attribute e f pos) env) Q E s :=
  Attribute_any_ h (by rw [arm_eval_Attribute, hb])
end

/-! ### readings and rules -/
/-- e.f, an attribute of the instance -/
def tFld (K : PySem.W.Frag) (ta : TE) (f : Str) : TE := fun σ H Q => ta σ H fun x H1 => ∃ a C dx fs v, x = .ref a ∧ H1 a = some (.ins C dx fs) ∧ Cls K C ∧ NoAttr K C f ∧ fs.lookup f = some v ∧ Q v H1
/-- e.f, a constant of the class -/
def tCon (K : PySem.W.Frag) (ta : TE) (f : Str) : TE := fun σ H Q => ta σ H fun x H1 => ∃ a C dx fs v u, x = .ref a ∧ H1 a = some (.ins C dx fs) ∧ Cls K C ∧ Con K C f v u ∧ fs.lookup f = none ∧ Q v H1
/-- e.f = value -/
def sFld (K : PySem.W.Frag) (ta tv : TE) (f : Str) : TS := fun D σ H => tv σ H fun y H1 => ta σ H1 fun x H2 => ∃ a C dx fs, x = .ref a ∧ H2 a = some (.ins C dx fs) ∧ Cls K C ∧ NoAttr K C f ∧ fs.length < 1000 ∧
  D.nx σ (upd H2 a (.ins C dx (putF f y fs)))
/-- an augmented operator on two values -/
def InOp (X : Cx) (op : Operator) (rd : V → V → Hp → VK → Prop) : Prop :=
  ∀ (pins : List (Addr × Obj)) (s : Shared) (σ : St) (H : Hp) (x y : V) (u v : Value) (Q : VK), Inv X pins σ H s → RelV x u → RelV y v → rd x y H Q → wpAny (model X.prog X.w) X.A (inplaceOp op u v) (EP X pins σ Q) X.xe s
/-- e.f op= value -/
def sFldAug (K : PySem.W.Frag) (ta tv : TE) (rd : V → V → Hp → VK → Prop) (f : Str) : TS := fun D σ H => ta σ H fun x H1 => ∃ a C dx fs v, x = .ref a ∧ H1 a = some (.ins C dx fs) ∧ Cls K C ∧ NoAttr K C f ∧ fs.lookup f = some v ∧
  tv σ H1 fun y H2 => rd v y H2 fun z H3 => ∃ dx' fs', H3 a = some (.ins C dx' fs') ∧ fs'.length < 1000 ∧ D.nx σ (upd H3 a (.ins C dx' (putF f z fs')))

section
variable {X : Cx} {o e value : Expr} {f : Str} {pos pos' tpos : Pos} {ta tv : TE}
theorem pe_fld (he : PE X e ta) (hb : attributeBase e f X.env (eval e X.env) = eval e X.env) : PE X (.Attribute e f pos) (tFld X.K ta f) := by
  intro pins s σ H Q I h
  refine attr_of hb (thn (he pins s σ H _ I h) fun u s1 ⟨x, H1, I1, rx, a, C, dx, fs, v, ex, ea, c, n, l, q⟩ => ?_)
  subst ex
  obtain rfl : u = Value.ref a := rx
  exact getattr_ok I1 ea c n l fun u' s2 I2 ru => ⟨v, H1, I2, ru, q⟩
theorem ps_fld (ha : PE X o ta) (hv : PE X value tv) (hs : swapsWith value (some (.Attribute o f pos')) pos.line X.env = pure false) : PS X (.Assign [.Attribute o f pos'] value pos) (sFld X.K ta tv f) := by
  intro pins s σ H D I h
  refine plainObj_wpAny_Assign_Attribute (thn (hv pins s σ H _ I h) fun u s1 ⟨y, H1, I1, ry, q⟩ => thn (ha pins s1 σ H1 _ I1 q) fun ov s2 ⟨x, H2, I2, rx, a, C, dx, fs, ex, ea, c, n, l, q2⟩ => ?_) hs
  subst ex
  obtain rfl : ov = Value.ref a := rx
  exact setattr_ok I2 ea c n l ry fun s3 I3 => ⟨σ, _, I3, q2⟩
def rAdd : V → V → Hp → VK → Prop := fun x y H Q => ∃ i j, x = .int i ∧ y = .int j ∧ Q (.int (i + j)) H
def rSub : V → V → Hp → VK → Prop := fun x y H Q => ∃ i j, x = .int i ∧ y = .int j ∧ Q (.int (i - j)) H
end

/-! ### isinstance -/
section
variable {X : Cx} {pins : List (Addr × Obj)} {σ : St} {H : Hp} {s : Shared} {A : Around} {E : Value → Shared → Prop} {Q : Value → Shared → Prop} {c : Value} {b : Bool}
/-- the type of a value, as the fragment's deciders take it; for an instance its class -/
inductive TyOf (K : PySem.W.Frag) (H : Hp) : V → Value → Prop where
  | non : TyOf K H .non (.type "NoneType")
  | bl (x : Bool) : TyOf K H (.bl x) (.type "bool")
  | int (i : Int) : TyOf K H (.int i) (.type "int")
  | str (x : Str) : TyOf K H (.str x) (.type "str")
  | flt (x : UInt64) : TyOf K H (.flt x) (.type "float")
  | lst {a : Addr} {xs : List V} (e : H a = some (.lst xs)) : TyOf K H (.ref a) (.type "list")
  | frz {a : Addr} {o : Obj} {xs : List V} (e : H a = some (.frz o (.lst xs))) : TyOf K H (.ref a) (.type "list")
  | tup {a : Addr} {xs : List V} (e : H a = some (.tup xs)) : TyOf K H (.ref a) (.type "tuple")
  | dK {a : Addr} {kvs : List (Key × V)} (e : H a = some (.dK kvs)) : TyOf K H (.ref a) (.type "dict")
  | dT {a : Addr} {kvs : List (List Key × V)} (e : H a = some (.dT kvs)) : TyOf K H (.ref a) (.type "dict")
  | ins {a C dx : Addr} {fs : List (Str × V)} (e : H a = some (.ins C dx fs)) (cl : Cls K C) (ha : PySem.W.findIn K (.ref C) "__class__" = some (some (.builtin "object.__class__")))
      (hn : PySem.W.specialIn K (.builtin "object.__class__") "__get__" = some (some (.builtin "getset_descriptor.__get__"))) (htk : PySem.W.takesIn K (.builtin "object.__class__") = some true)
      (hm : PySem.W.mroIn K C (.type "object") = some true) : TyOf K H (.ref a) (.ref C)
end
end L2

namespace L2
open PySem PySem.Spec PyProof.Rows

/-! ### room -/
structure Room (k : Nat) (A : Around) : Prop where
  hd : A.handled = none
  dp : A.depth + 3 * k + 5 < recursionLimit
  un : A.units + 16 * k + 200 < cLine
theorem Room.mono {j k : Nat} {A : Around} (r : Room k A) (h : j ≤ k) : Room j A := ⟨r.hd, by have := r.dp; omega, by have := r.un; omega⟩
theorem Room.deeper {k : Nat} {A : Around} (r : Room (k + 1) A) (env : Env) : Room k (A.deeper env) :=
  ⟨r.hd, by have := r.dp; show A.depth + 1 + 3 * k + 5 < _; omega, by have := r.un; show A.units + 3 + 16 * k + 200 < _; omega⟩
theorem Room.in1 {k : Nat} {A : Around} (r : Room (k + 1) A) : Room k A.in1 :=
  ⟨r.hd, by have := r.dp; show A.depth + 3 * k + 5 < _; omega, by have := r.un; show A.units + 1 + 16 * k + 200 < _; omega⟩
theorem make_depth {A : Around} {C : Addr} {us : List Value} {kw : List (Str × Value)} : (A.under (.builtin "type.__call__" ⟨.ref C :: us, kw⟩)).depth = A.depth + 1 := by
  first | rfl | simp [Around.under, Code.weight, Code.isCreation, Code.isGuard, Code.isCaller, Code.frames, Code.isFrame, guardIds]
theorem make_units {A : Around} {C : Addr} {us : List Value} {kw : List (Str × Value)} : (A.under (.builtin "type.__call__" ⟨.ref C :: us, kw⟩)).units = A.units + 1 := by
  first | rfl | simp [Around.under, Code.cUnits, Code.frames, Code.isFrame]
theorem Room.make {k : Nat} {A : Around} (r : Room (k + 1) A) (C : Addr) (us : List Value) (kw : List (Str × Value)) : Room k (A.under (.builtin "type.__call__" ⟨.ref C :: us, kw⟩)) :=
  ⟨r.hd, by have := r.dp; rw [make_depth]; omega, by have := r.un; rw [make_units]; omega⟩
theorem Room.depth {k : Nat} {A : Around} (r : Room k A) : A.depth < recursionLimit := by have := r.dp; omega
theorem Room.units {k : Nat} {A : Around} (r : Room k A) : A.units + 64 < cLine := by have := r.un; omega
/-! ### argument lists and displays -/
def tNil : TA := fun _ H Q => Q [] H
def tCons (ta : TE) (tr : TA) : TA := fun σ H Q => ta σ H fun x H1 => tr σ H1 fun xs H2 => Q (x :: xs) H2
section
variable {X : Cx} {e : Expr} {es : List Expr} {te : TE} {t : TA} {pos : Pos}
theorem pa_nil : PA X [] tNil := fun _ _ _ _ H Q I h => Calls.spliced_nil ⟨[], H, I, .nil, h⟩
theorem pa_cons (ha : PE X e te) (hr : PA X es t) (hs : starEach (e :: es) X.env = (false, eval e X.env) :: starEach es X.env := by rfl) : PA X (e :: es) (tCons te t) := by
  intro pos pins s σ H Q I h
  rw [hs]
  show wpAny _ _ (spliced ((false, eval e X.env) :: backTo pos (starEach es X.env))) _ _ s
  refine Calls.spliced_cons (thn (ha pins s σ H _ I h) fun u s1 ⟨x, H1, I1, r1, q1⟩ => ?_)
  exact thn (hr pos pins s1 σ H1 _ I1 q1) fun us s2 ⟨xs, H2, I2, r2, q2⟩ => ⟨x :: xs, H2, I2, .cons r1 r2, q2⟩

/-- a tuple, a list of written items -/
def tTup (t : TA) : TE := fun σ H Q => t σ H fun xs H1 => xs.length ≤ sizeLine ∧ ∀ p, H1 p = none → Q (.ref p) (upd H1 p (.tup xs))
def tLst (t : TA) : TE := fun σ H Q => t σ H fun xs H1 => xs.length ≤ sizeLine ∧ ∀ p, H1 p = none → Q (.ref p) (upd H1 p (.lst xs))
theorem pe_tup {x1} (h : PA X es t) : PE X (.Tuple es x1 pos) (tTup t) := by
  intro pins s σ H Q I hq
  refine wpAny_Tuple_spliced (thn (h pos pins s σ H _ I hq) fun us s1 ⟨xs, H1, I1, r, z, q⟩ => ⟨by rw [← r.length]; exact z, ?_⟩)
  have hf : H1 s1.heap.objs.size = none := I1.hok.fresh (Nat.le_refl _)
  refine ⟨.ref s1.heap.objs.size, upd H1 s1.heap.objs.size (.tup xs), I1.laid (t' := s1.toks) (fun b u e => Heap.get?_push_of_some _ e) (Nat.le_refl _) ?_, rfl, q _ hf⟩
  exact ⟨z, us, r, ⟨_, Heap.get?_push_size _ rfl, rfl, _, rfl⟩⟩
theorem pe_lst (h : PA X es t) : PE X (.List es pos) (tLst t) := by
  intro pins s σ H Q I hq
  refine wpAny_List_spliced (thn (h pos pins s σ H _ I hq) fun us s1 ⟨xs, H1, I1, r, z, q⟩ => ⟨by rw [← r.length]; exact z, ?_⟩)
  have hf : H1 s1.heap.objs.size = none := I1.hok.fresh (Nat.le_refl _)
  refine ⟨.ref s1.heap.objs.size, upd H1 s1.heap.objs.size (.lst xs), I1.laid (t' := s1.toks) (fun b u e => Heap.get?_push_of_some _ e) (Nat.le_refl _) ?_, rfl, q _ hf⟩
  exact ⟨z, us, 0, r, Heap.get?_push_size _ rfl⟩
end

/-! ### what a def promises -/
/-- a def's promise: the bound arguments in the parameters' order, the heap, the wanted end, the wanted exception -/
abbrev Sp := List V → Hp → VK → XK → Prop
/-- how an exception lies behind a call (file 08 gives it): the callers' frames, abstract heap and state ahead of the call, the wish, the exception, the state -/
abbrev CXT := List Env → Hp → Shared → XK → Value → Shared → Prop

/-- the state at a call -/
structure Env0 (P : Program) (w : World) (K : PySem.W.Frag) (mg : Str → Option Value) (base : Heap) (A : Around) (outer : List Env) (s : Shared) (H : Hp) : Prop where
  frames : A.frames = some outer
  mod : Mod K mg base
  bs : ∀ b o, base.get? b = some o → s.heap.get? b = some o ∧ H b = none
  bsz : base.objs.size ≤ s.heap.objs.size
  funs : s.heap.FunFrames base outer
  frf : ∀ b ∈ frs outer, H b = none
  hok : HOk P w H s.heap
  bare : AllBare s.gens
/-- a call's end -/
def CE (outer : List Env) (P : Program) (w : World) (H : Hp) (s : Shared) (Q : VK) (u : Value) (s' : Shared) : Prop :=
  ∃ v H', s'.os = s.os ∧ AllBare s'.gens ∧ Un (frs outer) [] H H' s.heap s'.heap ∧ HOk P w H' s'.heap ∧ RelV v u ∧ Q v H'
def CR (CX : CXT) (outer : List Env) (P : Program) (w : World) (H : Hp) (s : Shared) (Q : VK) (E : XK) (r : Result) (s' : Shared) : Prop :=
  match r with
  | .ok (.ret u) => CE outer P w H s Q u s'
  | .ok _ => False
  | .error e => CX outer H s E e s'
structure FnOk (P : Program) (w : World) (K : PySem.W.Frag) (mg : Str → Option Value) (base : Heap) (CX : CXT) (k : Nat) (f : Addr) (fd : FuncData) (ps : List Str) (sp : Sp) : Prop where
  len : ∀ vs H Q E, sp vs H Q E → vs.length = ps.length
  run : ∀ (A : Around) (outer : List Env) (s : Shared) (H : Hp) (args : Args) (us : List Value) (vs : List V) (Q : VK) (E : XK), Room k A → Env0 P w K mg base A outer s H → BindsTo s fd args (ps.zip us) → Vals vs us → sp vs H Q E →
    codeAny (model P w) A (.call (.ref f) args) (CR CX outer P w H s Q E) s
/-- a weaker promise -/
theorem FnOk.imp {P : Program} {w : World} {K : PySem.W.Frag} {mg : Str → Option Value} {base : Heap} {CX : CXT} {k : Nat} {f : Addr} {fd : FuncData} {ps : List Str} {sp sp' : Sp} (F : FnOk P w K mg base CX k f fd ps sp)
    (h : ∀ vs H Q E, sp' vs H Q E → sp vs H Q E) : FnOk P w K mg base CX k f fd ps sp' :=
  ⟨fun vs H Q E q => F.len vs H Q E (h _ _ _ _ q), fun A outer s H args us vs Q E hr he hb hv hs => F.run A outer s H args us vs Q E hr he hb hv (h _ _ _ _ hs)⟩

theorem Env0.make {P : Program} {w : World} {K : PySem.W.Frag} {mg : Str → Option Value} {base : Heap} {A : Around} {outer : List Env} {s : Shared} {H : Hp} (e : Env0 P w K mg base A outer s H) (C : Addr) (us : List Value) (kw : List (Str × Value)) :
    Env0 P w K mg base (A.under (.builtin "type.__call__" ⟨.ref C :: us, kw⟩)) outer s H := ⟨by first | exact e.frames | (simpa [Around.under, Code.envs, Code.isFrame, pushEnvs] using e.frames), e.mod, e.bs, e.bsz, e.funs, e.frf, e.hok, e.bare⟩
theorem Env0.in1 {P : Program} {w : World} {K : PySem.W.Frag} {mg : Str → Option Value} {base : Heap} {A : Around} {outer : List Env} {s : Shared} {H : Hp} (e : Env0 P w K mg base A outer s H) :
    Env0 P w K mg base A.in1 outer s H := ⟨e.frames, e.mod, e.bs, e.bsz, e.funs, e.frf, e.hok, e.bare⟩

section
variable {X : Cx} {pins : List (Addr × Obj)} {σ : St} {H : Hp} {s s' : Shared}
/-- from a body: what a callee wants -/
theorem Inv.env0 (I : Inv X pins σ H s) : Env0 X.prog X.w X.K X.mg X.base X.A X.stack s H :=
  ⟨I.ok.frames, I.ok.mod, I.bs, Nat.le_trans I.ok.bsz I.sz, I.stack, I.stkFree, I.hok, I.bare⟩
/-- behind a call -/
theorem Inv.after {Q : VK} {u : Value} (I : Inv X pins σ H s) (h : CE X.stack X.prog X.w H s Q u s') : EP X pins σ Q u s' := by
  obtain ⟨v, H', os, bare, un, hok, r, q⟩ := h
  obtain ⟨hh, g, d, t, os'⟩ := s'
  obtain rfl : os' = s.os := os
  exact ⟨v, H', I.call (h' := hh) (g' := g) (d' := d) (t' := t) (ch := []) un hok bare (fun b z => absurd z (by simp)), r, q⟩
end

/-! ### calls -/
/-- f(..): the written arguments, then the defaults dvs; E: what is wanted of an exception -/
def tCall (sp : Sp) (dvs : List V) (E : XK) (t : TA) : TE := fun σ H Q => t σ H fun vs H1 => sp (vs ++ dvs) H1 Q E
/-- o.m(..) of an instance of the class at C -/
def tMeth (C : Addr) (m : Str) (sp : Sp) (dvs : List V) (E : XK) (ta : TE) (t : TA) : TE := fun σ H Q => ta σ H fun x H1 => ∃ a dx fs, x = .ref a ∧ H1 a = some (.ins C dx fs) ∧ fs.lookup m = none ∧
  t σ H1 fun vs H2 => sp (x :: (vs ++ dvs)) H2 Q E
/-- C(..): a new instance and its dict, then __init__ -/
def tMake (C : Addr) (sp : Sp) (dvs : List V) (E : XK) (t : TA) : TE := fun σ H Q => t σ H fun vs H1 => ∀ x dx, H1 x = none → H1 dx = none → dx ≠ x →
  sp (.ref x :: (vs ++ dvs)) (upd (upd H1 dx (.own x)) x (.ins C dx [])) (fun v H2 => v = .non ∧ Q (.ref x) H2) E

/-- how the parameters are bound: us the positional arguments, kw the keywords' values by name, ds the defaults that fill up -/
def Binds (K : PySem.W.Frag) (fd : FuncData) (ps : List Str) (ds : List Value) : Prop :=
  ∀ (s : Shared) (us : List Value), K.In s.heap → (us ++ ds).length = ps.length → BindsTo s fd ⟨us, []⟩ (ps.zip (us ++ ds))
/-- every parameter is given -/
theorem Binds.all {K : PySem.W.Frag} {fd : FuncData} {ps : List Str} (h : ∀ us : List Value, us.length = ps.length → bindArgs fd ⟨us, []⟩ = pure (ps.zip us)) : Binds K fd ps [] := fun s us _ hl => by
  rw [List.append_nil] at hl ⊢
  exact .of_eq (h us hl)

/-- an exception of a callee reaches what this body wants of exceptions -/
def Passes (CX : CXT) (X : Cx) (E : XK) : Prop := ∀ (pins : List (Addr × Obj)) (σ : St) (H : Hp) (s : Shared) (e : Value) (s' : Shared), Inv X pins σ H s → CX X.stack H s E e s' → X.xe e s'

section
variable {X : Cx} {CX : CXT} {k : Nat} {f C : Addr} {fd : FuncData} {ps : List Str} {sp : Sp} {dvs : List V} {ds : List Value} {E : XK} {x m : Str} {p pos apos : Pos} {e o : Expr} {es : List Expr} {ta : TE} {t : TA}

/-- the callee runs -/
theorem run_fn {pins : List (Addr × Obj)} {σ : St} {H : Hp} {s : Shared} {Q : VK} {us : List Value} {vs : List V} (F : FnOk X.prog X.w X.K X.mg X.base CX k f fd ps sp) (hr : Room k X.A) (hb : Binds X.K fd ps ds) (hd : Vals dvs ds) (hx : Passes CX X E)
    (I : Inv X pins σ H s) (r : Vals vs us) (h : sp (vs ++ dvs) H Q E) : wpAny (model X.prog X.w) X.A (call (.ref f) us) (EP X pins σ Q) X.xe s := by
  have r2 : Vals (vs ++ dvs) (us ++ ds) := r.append hd
  have hl : (us ++ ds).length = ps.length := by rw [← r2.length]; exact F.len _ _ _ _ h
  refine wpAny_call (codeAny_mono (F.run X.A X.stack s H ⟨us, []⟩ (us ++ ds) (vs ++ dvs) Q E hr I.env0 (hb s us I.kIn hl) r2 h) fun r s' hq => ?_)
  cases r with
  | error e => exact hx pins σ H s e s' I hq
  | ok fl =>
    cases fl with
    | ret u => exact I.after hq
    | next => exact False.elim hq
    | brk => exact False.elim hq
    | cont => exact False.elim hq

theorem pe_call (F : FnOk X.prog X.w X.K X.mg X.base CX k f fd ps sp) (hr : Room k X.A) (hg : Gl X x) (hm : X.mg x = some (.ref f)) (hk : PySem.W.keepIn X.K (.ref f) = true) (hb : Binds X.K fd ps ds) (hd : Vals dvs ds) (hx : Passes CX X E)
    (ha : PA X (e :: es) t) (hdb : (x == ("__debug__" : Str)) = false := by decide) (he : starEach (e :: es) X.env = (false, eval e X.env) :: starEach es X.env := by rfl) (hpl : (backTo pos (starEach es X.env)).any (·.1) = false := by rfl) :
    PE X (.Call (.Name x p) (e :: es) [] pos) (tCall sp dvs E t) := by
  intro pins s σ H Q I h
  refine wpAny_Call_Name_kw (ld_glob I hg hm ?_ hdb)
  refine PySem.W.callWith_K (h₀ := X.base) I.ok.mod.kin hk (thn (ha pos pins s σ H _ I h) fun us s1 ⟨vs, H1, I1, r, q⟩ => ⟨I1.kIn, ?_⟩) he hpl
  exact run_fn F hr hb hd hx I1 r q
/-- what a class must have to be made -/
structure Mk (K : PySem.W.Frag) (C f : Addr) : Prop where
  makes : PySem.W.makesIn K C = true
  init : PySem.W.findIn K (.ref C) "__init__" = some (some (.ref f))
  fn : PySem.W.isFn K (.ref f) = true
  kp : PySem.W.keepIn K (.ref C) = true

end

/-! ### keywords -/
/-- the values of the keywords, from the left -/
def PK (X : Cx) (kws : List Keyword) (t : TA) : Prop :=
  ∀ (pos : Pos) (pins : List (Addr × Obj)) (s : Shared) (σ : St) (H : Hp) (Q : List V → Hp → Prop), Inv X pins σ H s → t σ H Q → wpAny (model X.prog X.w) X.A (evalAll ((backToKw pos (keywordEach kws X.env)).map (·.2))) (AP X pins σ Q) X.xe s
section
variable {X : Cx} {CX : CXT} {k : Nat} {f C : Addr} {fd : FuncData} {ps ks : List Str} {sp : Sp} {E : XK} {x m : Str} {p pos apos kpos : Pos} {e o : Expr} {es : List Expr} {kws : List Keyword} {te ta : TE} {t tk : TA} {nm : Option Str}
/-- how a call with keywords binds: g puts the positional values us and the keywords' values ws (names ks) in the parameters' order, defaults among them -/
structure KBinds (K : PySem.W.Frag) (fd : FuncData) (ps ks : List Str) (g : List Value → List Value → List Value) (gV : List V → List V → List V) : Prop where
  to : ∀ (s : Shared) (us ws : List Value), K.In s.heap → (g us ws).length = ps.length → BindsTo s fd ⟨us, ks.zip ws⟩ (ps.zip (g us ws))
  rel : ∀ {vs : List V} {us : List Value} {zs : List V} {ws : List Value}, Vals vs us → Vals zs ws → Vals (gV vs zs) (g us ws)
def tCallK (sp : Sp) (gV : List V → List V → List V) (E : XK) (t tk : TA) : TE := fun σ H Q => t σ H fun vs H1 => tk σ H1 fun zs H2 => sp (gV vs zs) H2 Q E
variable {g : List Value → List Value → List Value} {gV : List V → List V → List V}
end

/-! ### a def's body keeps its promise -/
/-- names: the parameters first -/
structure FnScope (N P : List Str) (sc : Scope) : Prop where
  kind : sc.kind = .function
  co : sc.isCoroutine = false
  gen : sc.isGenerator = false
  nd : N.Nodup
  pre : N.take P.length = P
  par : ∀ x ∈ P, sc.names.lookup x = some .local ∨ sc.names.lookup x = some .cell
  nofree : ∀ y ∈ sc.names, y.2 ≠ .free

theorem bindL_out {kindOf : Str → Option NameKind} {x : Str} : ∀ {binds : List (Str × Value)} {m : Str → Option Value}, (∀ v, (x, v) ∉ binds) → bindL kindOf binds m x = m x
  | [], _, _ => rfl
  | (n, v) :: r, m, h => by
    unfold bindL
    rw [bindL_out fun w hw => h w (List.mem_cons_of_mem _ hw)]
    split
    · have : x ≠ n := by rintro rfl; exact h v List.mem_cons_self
      simp [this]
    · rfl
theorem bindC_out {kindOf : Str → Option NameKind} {x : Str} : ∀ {binds : List (Str × Value)} {m : Str → Option Value}, (∀ v, (x, v) ∉ binds) → bindC kindOf binds m x = m x
  | [], _, _ => rfl
  | (n, v) :: r, m, h => by
    unfold bindC
    rw [bindC_out fun w hw => h w (List.mem_cons_of_mem _ hw)]
    split
    · rfl
    · have : x ≠ n := by rintro rfl; exact h v List.mem_cons_self
      simp [this]
theorem bindL_get {kindOf : Str → Option NameKind} {x : Str} {v : Value} : ∀ {P : List Str} {vs : List Value} {i : Nat} {m : Str → Option Value}, P.Nodup → P[i]? = some x → vs[i]? = some v → kindOf x = some .local →
    bindL kindOf (P.zip vs) m x = some v
  | [], _, _, _, _, h, _, _ => by simp at h
  | _ :: _, [], _, _, _, _, h, _ => by simp at h
  | p :: P, w :: vs, 0, m, nd, h1, h2, hk => by
    simp at h1 h2; subst h1; subst h2
    show bindL kindOf ((p, w) :: P.zip vs) m p = _
    unfold bindL
    rw [bindL_out fun v hv => (List.nodup_cons.mp nd).1 (List.of_mem_zip hv).1, if_pos hk]
    simp
  | p :: P, w :: vs, i + 1, m, nd, h1, h2, hk => by
    show bindL kindOf ((p, w) :: P.zip vs) m x = _
    unfold bindL
    exact bindL_get (i := i) (List.nodup_cons.mp nd).2 (by simpa using h1) (by simpa using h2) hk
theorem bindC_get {kindOf : Str → Option NameKind} {x : Str} {v : Value} : ∀ {P : List Str} {vs : List Value} {i : Nat} {m : Str → Option Value}, P.Nodup → P[i]? = some x → vs[i]? = some v → kindOf x ≠ some .local →
    bindC kindOf (P.zip vs) m x = some v
  | [], _, _, _, _, h, _, _ => by simp at h
  | _ :: _, [], _, _, _, _, h, _ => by simp at h
  | p :: P, w :: vs, 0, m, nd, h1, h2, hk => by
    simp at h1 h2; subst h1; subst h2
    show bindC kindOf ((p, w) :: P.zip vs) m p = _
    unfold bindC
    rw [bindC_out fun v hv => (List.nodup_cons.mp nd).1 (List.of_mem_zip hv).1, if_neg hk]
    simp
  | p :: P, w :: vs, i + 1, m, nd, h1, h2, hk => by
    show bindC kindOf ((p, w) :: P.zip vs) m x = _
    unfold bindC
    exact bindC_get (i := i) (List.nodup_cons.mp nd).2 (by simpa using h1) (by simpa using h2) hk

/-- the names' values at the entry -/
def start (N : List Str) (vs : List V) : St := vs.map some ++ List.replicate (N.length - vs.length) none

/-- the context of a def's body, at its entry; an exception leaves the frame, then lies as CX says -/
def cxOf (CX : CXT) (P : Program) (w : World) (K : PySem.W.Frag) (mg : Str → Option Value) (base : Heap) (N : List Str) (qual : Str) (scope : Scope) (f : Addr) (cd : Value) (A : Around) (outer : List Env) (s : Shared) (H : Hp) (E : XK) : Cx where
  prog := P
  w := w
  K := K
  mg := mg
  base := base
  A := A.deeper (envOfC qual scope s.heap.objs.size f cd)
  N := N
  s₀ := s
  H₀ := H
  env := envOfC qual scope s.heap.objs.size f cd
  outer := outer
  stack := envOfC qual scope s.heap.objs.size f cd :: outer
  ex := []
  calm := true
  fn := fun _ => true
  pn := []
  xe := fun e s' => wpAny (model P w) (A.deeper (envOfC qual scope s.heap.objs.size f cd)) (leaving (envOfC qual scope s.heap.objs.size f cd) e) (fun _ s'' => CX outer H s E e s'') (fun e' s'' => CX outer H s E e' s'') s'

theorem cell_has {sc : Scope} {n : Nat} {x : Str} (h : sc.names.lookup x = some .cell) : ∃ c, (cellsFrom n sc.names []).lookup x = some c := by
  have q := PySem.W.cellsFrom_some sc.names n [] (.inl h)
  exact Option.isSome_iff_exists.mp q

theorem inv_start {CX : CXT} {P : Program} {w : World} {K : PySem.W.Frag} {mg : Str → Option Value} {base : Heap} {N ps : List Str} {qual : Str} {scope : Scope} {f : Addr} {cd : Value} {A : Around} {outer : List Env} {s s1 : Shared} {H : Hp} {E : XK} {us : List Value} {vs : List V}
    (S : FnScope N ps scope) (hd : A.handled = none) (e0 : Env0 P w K mg base A outer s H) (hl : vs.length = ps.length) (r : Vals vs us)
    (x : InCallC s s.heap.objs.size (bindL (envOfC qual scope s.heap.objs.size f cd).kindOf (ps.zip us) fun _ => none) (cellsFrom (s.heap.objs.size + 1) scope.names []) (bindC (envOfC qual scope s.heap.objs.size f cd).kindOf (ps.zip us) fun _ => none) s1) :
    Inv (cxOf CX P w K mg base N qual scope f cd A outer s H E) [] (start N vs) H s1 := by
  have hpl : ps.length ≤ N.length := by have := congrArg List.length S.pre; rw [List.length_take] at this; omega
  obtain ⟨h1, tk, rfl, hk⟩ := x.done
  have noA : ∀ b : Addr, b ∉ (cxOf CX P w K mg base N qual scope f cd A outer s H E).ex := fun b z => absurd (show b ∈ ([] : List Addr) from z) (by simp)
  refine ⟨⟨e0.mod, S.kind, rfl, rfl, Nat.le_refl _, fun y z c h1 h2 => ?_, fun y hy => ?_, fun y c _ h => ?_, fun _ => hd, Around.frames_deeper e0.frames, .inr ⟨rfl, rfl⟩, fun b z => absurd z (noA b), e0.bs, e0.bsz, fun b _ _ => noA b, fun b z => absurd z (noA b), e0.funs, e0.frf⟩,
    rfl, e0.bare, Un.kept hk, ⟨_, x.toInCall.ns, fun i y v h1 h2 h3 => ?_⟩, fun y c h => ⟨_, x.cell y c h⟩, e0.hok.fresh (Nat.le_refl _), fun y c h => ?_, fun p hp => absurd (show p ∈ ([] : List (Addr × Obj)) from hp) (by simp), e0.hok.kept hk, ?_⟩
  · exact name_of_addr x.apart (PySem.mem_of_lookup h1) (PySem.mem_of_lookup h2)
  · have hy : scope.names.lookup y = some .cell ∨ scope.names.lookup y = some .free := hy
    rcases hy with hy | hy
    · exact cell_has hy
    · exact absurd rfl (S.nofree _ (PySem.mem_of_lookup hy))
  · exact Nat.le_of_lt (x.above y c (PySem.mem_of_lookup h))
  · have hi : i < vs.length := by
      unfold start at h2
      by_cases hi : i < vs.length
      · exact hi
      · rw [List.getElem?_append_right (by simpa using hi)] at h2
        rw [List.getElem?_replicate] at h2
        split at h2 <;> cases h2
    have ha : vs[i]? = some v := by
      unfold start at h2
      rw [List.getElem?_append_left (by simpa using hi), List.getElem?_map] at h2
      cases e : vs[i]? with
      | none => rw [e] at h2; cases h2
      | some a => rw [e] at h2; cases h2; rfl
    obtain ⟨u, hu, rv⟩ := r.get ha
    have hp : ps[i]? = some y := by
      rw [← S.pre, List.getElem?_take_of_lt (by omega)]; exact h1
    have ndP : ps.Nodup := by rw [← S.pre]; exact S.nd.sublist (List.take_sublist _ _)
    refine ⟨u, rv, ?_⟩
    rcases S.par y (List.mem_of_getElem? hp) with k | k
    · exact .inl ⟨k, bindL_get ndP hp hu k⟩
    · obtain ⟨c, e⟩ := cell_has (n := s.heap.objs.size + 1) k
      refine .inr ⟨.inl k, c, e, ?_⟩
      have q := x.cell y c e
      rw [bindC_get ndP hp hu (by show scope.names.lookup y ≠ _; rw [k]; decide)] at q
      exact q
  · exact e0.hok.fresh (Nat.le_of_lt (x.above y c (PySem.mem_of_lookup h)))
  · unfold start
    show _ = N.length
    rw [List.length_append, List.length_map, List.length_replicate]
    omega

/-- THE RULE: a def (or a method) of the text, by its body. The body's reading t is chosen for each entry; it is run at the parameters' values -/
theorem fn_of {CX : CXT} {P : Program} {w : World} {K : PySem.W.Frag} {mg : Str → Option Value} {base : Heap} {k : Nat} {f : Addr} {name qual : Str} {params : Arguments} {body : List Stmt} {scope : Scope} {dV kV doc pm cdv ct oc : Value} {an od : Option Addr}
    {osl : Array (Option Value)} {N ps : List Str} {sp : Sp} (lk : K.lookup f = some ⟨oc, od, .func (PySem.W.fnOf name qual params body scope dV kV doc pm an cdv ct), osl⟩) (hcd : PySem.W.codeIn K cdv qual = true) (S : FnScope N ps scope)
    (len : ∀ vs H Q E, sp vs H Q E → vs.length = ps.length)
    (hbody : ∀ (A : Around) (outer : List Env) (s : Shared) (H : Hp) (vs : List V) (Q : VK) (E : XK), Room k (A.deeper (envOfC qual scope s.heap.objs.size f cdv)) → sp vs H Q E →
      ∃ t, PSs (cxOf CX P w K mg base N qual scope f cdv A outer s H E) body t ∧ t { nx := fun _ H' => Q .non H', rt := Q } (start N vs) H) :
    FnOk P w K mg base CX (k + 1) f (PySem.W.fnOf name qual params body scope dV kV doc pm an cdv ct) ps sp := by
  refine ⟨len, fun A outer s H args us vs Q E hr e0 hb r hsp => ?_⟩
  have hl := len _ _ _ _ hsp
  have KX : K.In s.heap := e0.mod.kin.keeps fun b o e => (e0.bs b o e).1
  have lim : s.heap.NoLimit := e0.mod.nolimit.keeps fun b o e => (e0.bs b o e).1
  have hkind : ∀ y ∈ ps.zip us, scope.names.lookup y.1 = some .local ∨ (scope.names.lookup y.1 = some .cell ∧ ((cellsFrom (s.heap.objs.size + 1) scope.names []).lookup y.1).isSome = true) := fun ⟨n, v⟩ hy => by
    rcases S.par n (List.of_mem_zip hy).1 with q | q
    · exact .inl q
    · exact .inr ⟨q, PySem.W.cellsFrom_some _ _ _ (.inl q)⟩
  refine codeAny_call_function hr.depth (KX _ _ lk) rfl S.co S.gen rfl (PySem.W.codeRec_of KX hcd) (hb _ _ _ _ ?_)
  refine wpAny_newFunctionEnv_cells S.kind hkind fun env he s1 x => ?_
  subst he
  refine ⟨lim.keeps x.toInCall.keep, codeAny_func ?_⟩
  obtain ⟨t, ht, hq⟩ := hbody A outer s H vs Q E (hr.deeper _) hsp
  have I : Inv (cxOf CX P w K mg base N qual scope f cdv A outer s H E) [] (start N vs) H s1 := inv_start S hr.hd e0 hl r x
  refine wpAny_mono (ht [] s1 (start N vs) H _ I hq) (fun fl s' hs => ?_) fun e s' hs => hs
  have fin : ∀ {σ' : St} {H' : Hp} {v : V} {u : Value}, Inv (cxOf CX P w K mg base N qual scope f cdv A outer s H E) [] σ' H' s' → RelV v u → Q v H' → CE outer P w H s Q u s' :=
    fun {σ' H' v u} J rv q => ⟨v, H', J.os, J.bare, J.base, J.hok, rv, q⟩
  cases fl with
  | ret u =>
    obtain ⟨v, σ', H', J, rv, q⟩ := hs
    exact fin J rv q
  | next =>
    obtain ⟨σ', H', J, q⟩ := hs
    exact fin (v := V.non) (u := Value.none) J rfl q
  | brk =>
    obtain ⟨_, _, _, q⟩ := hs
    exact False.elim q
  | cont =>
    obtain ⟨_, _, _, q⟩ := hs
    exact False.elim q
end L2

namespace L2
open PySem PySem.Spec PyProof.Rows
section
variable {X : Cx} {x : Str} {p pos : Pos} {e : Expr} {es : List Expr} {t : TA} {id T : String} {r : List V → Hp → VK → Prop}

def tCB (r : List V → Hp → VK → Prop) (t : TA) : TE := fun σ H Q => t σ H fun vs H1 => r vs H1 Q
/-- f(e, ..), f a built-in function -/
theorem pe_callB (hc : CallR X (.builtin id) r) (hg : Gl X x) (hm : X.mg x = none) (hv : bootBuiltins x = some (.builtin id)) (ha : PA X (e :: es) t) (hn : x ≠ "__name__" := by decide) (hdb : (x == ("__debug__" : Str)) = false := by decide)
    (he : starEach (e :: es) X.env = (false, eval e X.env) :: starEach es X.env := by rfl) (hpl : (backTo pos (starEach es X.env)).any (·.1) = false := by rfl) : PE X (.Call (.Name x p) (e :: es) [] pos) (tCB r t) := by
  intro pins s σ H Q I h
  refine wpAny_Call_Name_kw (ld_blt I hg hm hv ?_ hn hdb)
  exact PyProof.Rows.callWith_builtin1 (thn (ha pos pins s σ H _ I h) fun us s1 ⟨vs, H1, I1, r1, q1⟩ => hc pins s1 σ H1 vs us Q I1 r1 q1) he hpl
/-- T(e, ..), T a built-in type -/
theorem pe_callTy (hc : CallR X (.type T) r) (hg : Gl X x) (hm : X.mg x = none) (hv : bootBuiltins x = some (.type T)) (ha : PA X (e :: es) t) (hn : x ≠ "__name__" := by decide) (hdb : (x == ("__debug__" : Str)) = false := by decide)
    (he : starEach (e :: es) X.env = (false, eval e X.env) :: starEach es X.env := by rfl) (hpl : (backTo pos (starEach es X.env)).any (·.1) = false := by rfl) : PE X (.Call (.Name x p) (e :: es) [] pos) (tCB r t) := by
  intro pins s σ H Q I h
  refine wpAny_Call_Name_kw (ld_blt I hg hm hv ?_ hn hdb)
  exact PyProof.Rows.callWith_type1 (thn (ha pos pins s σ H _ I h) fun us s1 ⟨vs, H1, I1, r1, q1⟩ => hc pins s1 σ H1 vs us Q I1 r1 q1) he hpl
end
end L2

namespace HT
open PySem PyProof.Rows

/-- t < u of tuples of ints -/
def lexLt : List Int → List Int → Bool
  | [], [] => false
  | [], _ :: _ => true
  | _ :: _, [] => false
  | x :: xs, y :: ys => if x = y then lexLt xs ys else decide (x < y)
theorem lexLt_cons (x y : Int) (xs ys : List Int) : lexLt (x :: xs) (y :: ys) = if x = y then lexLt xs ys else decide (x < y) := rfl
theorem eqAt_int (A : Around) (s : Shared) (a : Int) (t : Tok) (c : Int) (u : Tok) : ∃ e, SeqAt.EqAt A s (.int a t) (.int c u) e ∧ (e = true ↔ a = c) :=
  ⟨(a == c), SeqAt.EqAt.int_int a t c u, by simp⟩
section
open PySem.SeqAt
open PySem.AutoSeq1 (wpAny_loadPart')
open PySem.MeetsSeq PySem.MeetsSeq2 PySem.MeetsSeq3

end

section
variable {prog : Program} {w : World} {A : Around} {E : Value → Shared → Prop} {s : Shared}

/-! ### t[a:b], not the whole -/
/-- a slice's bound as a place among n (d where it is left out) -/
def sIx (n d : Nat) : Option Int → Nat
  | none => d
  | some v => if v < 0 then (v + (n : Int)).toNat else min v.toNat n
theorem sIx_none (n d : Nat) : sIx n d none = d := rfl
theorem sIx_nat (n d k : Nat) : sIx n d (some (k : Int)) = min k n := by
  show (if (k : Int) < 0 then ((k : Int) + (n : Int)).toNat else min (k : Int).toNat n) = min k n
  rw [if_neg (by omega), Int.toNat_natCast]
theorem sIx_le (n d : Nat) (hd : d ≤ n) (o : Option Int) : sIx n d o ≤ n := by
  cases o with
  | none => exact hd
  | some v =>
    show (if v < 0 then (v + (n : Int)).toNat else min v.toNat n) ≤ n
    by_cases hv : v < 0
    · rw [if_pos hv]; omega
    · rw [if_neg hv]; exact Nat.min_le_right _ _
theorem clip_eq (v : Int) (n d : Nat) : (if v < 0 then max (v + (n : Int)) 0 else min v (n : Int)) = ((sIx n d (some v) : Nat) : Int) := by
  show (if v < 0 then max (v + (n : Int)) 0 else min v (n : Int)) = (((if v < 0 then (v + (n : Int)).toNat else min v.toNat n) : Nat) : Int)
  by_cases hv : v < 0
  · simp only [if_pos hv]; omega
  · simp only [if_neg hv]; omega
theorem adjust_gen (lo hi : Option Int) (n : Nat) : Builtin.Slice.sliceAdjust lo hi 1 (n : Int) = (((sIx n 0 lo : Nat) : Int), ((sIx n n hi : Nat) : Int)) := by
  have h1 : ¬ ((1 : Int) < 0) := by omega
  unfold Builtin.Slice.sliceAdjust
  simp only [h1, if_false]
  refine Prod.ext ?_ ?_
  · cases lo with
    | none => rfl
    | some v => exact clip_eq v n 0
  · cases hi with
    | none => rfl
    | some v => exact clip_eq v n n
theorem places_gen (i j : Nat) : Builtin.Slice.slicePlaces (i : Int) (j : Int) 1 = j - i := by
  unfold Builtin.Slice.slicePlaces
  have h1 : (1 : Int) > 0 := by omega
  simp only [h1, if_true, Int.ediv_one]
  split <;> omega
theorem slicePart_ {v : Value} {o : Option Int} {Q : Option Int → Shared → Prop} (p : IsPart v o) (h : Q o s) : wpAny (model prog w) A (Builtin.Slice.slicePartIndex v) Q E s := by
  cases p with
  | none => exact slicePart_none h
  | int i t => exact slicePart_int h
theorem sliceApplied_gen {sl : Addr} {vl vu : Value} {lo hi : Option Int} {n : Nat} {Q : Int × Int × Nat → Shared → Prop} (hs : s.heap.IsSliceOf sl vl vu .none) (pl : IsPart vl lo) (pu : IsPart vu hi)
    (h : Q (((sIx n 0 lo : Nat) : Int), 1, sIx n n hi - sIx n 0 lo) s) : wpAny (model prog w) A (Builtin.Slice.sliceApplied (.ref sl) (pure (n : Int))) Q E s := by
  obtain ⟨os, hos, hcs, hds⟩ := id hs
  unfold Builtin.Slice.sliceApplied Builtin.Slice.sliceFields
  refine wpAny_bind (wpAny_bind (wpAny_field hos hds (x := vl) rfl (wpAny_bind (wpAny_field hos hds (x := vu) rfl (wpAny_bind (wpAny_field hos hds (x := .none) rfl (wpAny_pure ?_)))))))
  refine wpAny_bind (slicePart_none ?_)
  show wpAny _ _ (if ((1 : Int) == 0) = true then _ else _) _ _ s
  rw [if_neg (by decide)]
  refine wpAny_bind (slicePart_ pl (wpAny_bind (slicePart_ pu (wpAny_bind (wpAny_pure ?_)))))
  show wpAny _ _ (match Builtin.Slice.sliceAdjust lo hi 1 (n : Int) with | (lo, hi) => pure (lo, (1 : Int), Builtin.Slice.slicePlaces lo hi 1)) _ _ s
  rw [adjust_gen lo hi n]
  show wpAny _ _ (pure (((sIx n 0 lo : Nat) : Int), (1 : Int), Builtin.Slice.slicePlaces ((sIx n 0 lo : Nat) : Int) ((sIx n n hi : Nat) : Int) 1)) _ _ s
  rw [places_gen]
  exact wpAny_pure h
theorem pick_gen (xs : Array Value) (i k : Nat) : ((List.range k).filterMap fun (m : Nat) => xs[((i : Int) + (m : Int) * 1).toNat]?).toArray = ((xs.toList.drop i).take k).toArray := by
  have e : (fun (m : Nat) => xs[((i : Int) + (m : Int) * 1).toNat]?) = fun m => xs[i + m]? := by
    funext m
    have : ((i : Int) + (m : Int) * 1).toNat = i + m := by omega
    rw [this]
  rw [e]
  have := pick_run xs i k
  rw [List.filterMap_map] at this
  have e2 : ((fun x => xs[x]?) ∘ fun x => i + x) = fun m => xs[i + m]? := rfl
  rw [e2] at this
  rw [this]

theorem getItem_tuple_cut {t sl : Addr} {items : Array Value} {vl vu : Value} {lo hi : Option Int} {Q : Value → Shared → Prop} (ht : IsTup s.heap t items) (hs : s.heap.IsSliceOf sl vl vu .none) (pl : IsPart vl lo) (pu : IsPart vu hi)
    (hw : ¬ (sIx items.size 0 lo = 0 ∧ sIx items.size items.size hi = items.size))
    (h : Q (.ref s.heap.objs.size) { s with heap := s.heap.push { cls := .type "tuple", data := .seq ((items.toList.drop (sIx items.size 0 lo)).take (sIx items.size items.size hi - sIx items.size 0 lo)).toArray } })
    (hsz : items.size ≤ sizeLine) : wpAny (model prog w) A (getItem (.ref t) (.ref sl)) Q E s := by
  have htake : sizeOk (.seq ((items.toList.drop (sIx items.size 0 lo)).take (sIx items.size items.size hi - sIx items.size 0 lo)).toArray) := by
    show ((items.toList.drop (sIx items.size 0 lo)).take (sIx items.size items.size hi - sIx items.size 0 lo)).toArray.size ≤ sizeLine
    rw [List.size_toArray, List.length_take, List.length_drop, Array.length_toList]
    omega
  have hj : sIx items.size items.size hi ≤ items.size := sIx_le _ _ (Nat.le_refl _) hi
  obtain ⟨os, hos, hcs, hds⟩ := id hs
  have hTs : s.TypeIs (.ref sl) "slice" := ⟨os, hos, hcs⟩
  unfold getItem
  try with_reducible refine wpAny_holding ?_
  first | refine wpAny_bind (wpAny_pure ?_) | skip
  refine wpAny_bind (wpAny_sequenceKey ht.typeIs (by decide) ?_)
  refine wpAny_bind (wpAny_callSpecial?_slot (name := Str.ofString "__getitem__") ht.typeIs PyProof.Rows.slot_tuple_getitem
    (wpAny_call_entry PyProof.Rows.slot_tuple_getitem ht.typeIs entry_tuple_getitem ?_ (args_tuple_getitem _ _)))
  show wpAny _ _ (Builtin.Tuple.tupleItemsOf (.ref t) >>= _) _ _ s
  refine wpAny_bind (tupleItemsOf_ ht ?_)
  refine wpAny_bind (wpAny_typeOf hTs ?_)
  rw [if_pos (by decide)]
  refine wpAny_bind (sliceApplied_gen hs pl pu ?_)
  have hno : ¬ ((((sIx items.size 0 lo : Nat) : Int) == 0 && (1 : Int) == 1 && (sIx items.size items.size hi - sIx items.size 0 lo) == items.size) = true) := by
    intro q
    rw [Bool.and_eq_true, Bool.and_eq_true] at q
    have q1 : ((sIx items.size 0 lo : Nat) : Int) = 0 := eq_of_beq q.1.1
    have q2 : sIx items.size items.size hi - sIx items.size 0 lo = items.size := eq_of_beq q.2
    exact hw ⟨by omega, by omega⟩
  show wpAny _ _ (if (((sIx items.size 0 lo : Nat) : Int) == 0 && (1 : Int) == 1 && (sIx items.size items.size hi - sIx items.size 0 lo) == items.size) = true then _ else _) _ _ s
  rw [if_neg hno, pick_gen]
  first
    | exact wpAny_bind (m := Builtin.Tuple.tupleExact _) (wpAny_newObj_type (wpAny_pure ⟨_, rfl, wpAny_pure h⟩) htake)
    | exact wpAny_bind (m := Builtin.Tuple.tupleExact _) (wpAny_newObj_type (wpAny_bind (wpAny_pure (wpAny_pure ⟨_, rfl, wpAny_pure h⟩))) htake)
    | exact wpAny_bind (wpAny_bind (m := Builtin.Tuple.tupleExact _) (wpAny_newObj_type (wpAny_pure (wpAny_pure ⟨_, rfl, wpAny_pure h⟩)) htake))
    | exact wpAny_bind (wpAny_bind (m := Builtin.Tuple.tupleExact _) (wpAny_newObj_type (wpAny_pure ⟨_, rfl, wpAny_pure h⟩) htake))
end
end HT

namespace L2
open PySem PySem.Spec PyProof.Rows

/-! ### the parts of a slice -/
abbrev TO := St → Hp → (Option Int → Hp → Prop) → Prop
/-- a slice's part (left out, or an int) -/
def PO (X : Cx) (e : Option Expr) (t : TO) : Prop :=
  ∀ (pins : List (Addr × Obj)) (s : Shared) (σ : St) (H : Hp) (Q : Option Int → Hp → Prop), Inv X pins σ H s → t σ H Q →
    wpAny (model X.prog X.w) X.A (evalPart e X.env) (fun u s' => ∃ o H', Inv X pins σ H' s' ∧ IsPart u o ∧ Q o H') X.xe s
def tNoPart : TO := fun _ H Q => Q none H
def tPart (t : TE) : TO := fun σ H Q => t σ H fun x H1 => ∃ i, x = .int i ∧ Q (some i) H1

theorem intsAre_of {ns : List Int} : ∀ {us : List Value}, Vals (ns.map V.int) us → IntsAre us ns := by
  induction ns with
  | nil => intro us r; rw [List.map_nil] at r; cases r; exact .nil
  | cons n ns ih =>
    intro us r
    rw [List.map_cons] at r
    cases r with
    | cons r1 r2 =>
      obtain ⟨t, e⟩ := r1
      subst e
      exact .cons n t (ih r2)

section
variable {X : Cx} {e : Expr} {te : TE} {lo hi : Option Expr} {tl th : TO} {pos p2 : Pos}

theorem po_none : PO X none tNoPart := by
  intro pins s σ H Q I h
  rw [evalPart_none]
  exact wpAny_pure ⟨none, H, I, .none, h⟩
theorem po_some (h : PE X e te) : PO X (some e) (tPart te) := by
  intro pins s σ H Q I hw
  rw [evalPart_some]
  refine thn (h pins s σ H _ I hw) fun u s1 ⟨x, H1, I1, r1, q1⟩ => ?_
  obtain ⟨i, rfl, q⟩ := q1
  obtain ⟨t, rfl⟩ := r1
  exact ⟨some i, H1, I1, .int i t, q⟩

/-- what a slice of a value is, by values: the slice object stands at sl -/
def SlR (X : Cx) (r : V → Option Int → Option Int → Hp → VK → Prop) : Prop :=
  ∀ (pins : List (Addr × Obj)) (s : Shared) (σ : St) (H : Hp) (x : V) (v vl vu : Value) (lo hi : Option Int) (sl : Addr) (Q : VK), Inv X pins σ H s → RelV x v → s.heap.IsSliceOf sl vl vu .none → IsPart vl lo → IsPart vu hi → r x lo hi H Q →
    ∃ T id, typeLookup (.type T) "__getitem__" = pure (some (.builtin id)) ∧ s.TypeIs v T ∧ wpAny (model X.prog X.w) X.A (getItem v (.ref sl)) (EP X pins σ Q) X.xe s
def tSl (r : V → Option Int → Option Int → Hp → VK → Prop) (te : TE) (tl th : TO) : TE := fun σ H Q => te σ H fun x H1 => tl σ H1 fun l H2 => th σ H2 fun u H3 => r x l u H3 Q
/-- a[lo:hi], any a -/
theorem pe_slice {r : V → Option Int → Option Int → Hp → VK → Prop} (hr : SlR X r) (he : PE X e te) (hl : PO X lo tl) (hu : PO X hi th) : PE X (.Subscript e (.Slice lo hi none p2) pos) (tSl r te tl th) := by
  intro pins s σ H Q I h
  refine Subscript_ (thn (he pins s σ H _ I h) fun v s1 ⟨x, H1, I1, r1, q1⟩ => ?_)
  refine wpAny_Slice (thn (hl pins s1 σ H1 _ I1 q1) fun vl s2 ⟨l, H2, I2, pl, q2⟩ => thn (hu pins s2 σ H2 _ I2 q2) fun vu s3 ⟨u, H3, I3, pu, q3⟩ => ?_)
  rw [evalPart_none]
  refine wpAny_pure ?_
  have I4 : Inv X pins σ H3 { s3 with heap := s3.heap.push { cls := .type "slice", data := .fields #[vl, vu, .none] } } := I3.kept (t' := s3.toks) fun b ob q => Heap.get?_push_of_some _ q
  obtain ⟨T, id, hT, ht, hg⟩ := hr pins { s3 with heap := s3.heap.push { cls := .type "slice", data := .fields #[vl, vu, .none] } } σ H3 x v vl vu l u s3.heap.objs.size Q I4 r1 (Heap.IsSliceOf.new ..) pl pu q3
  show wpAny (model X.prog X.w) X.A (subscriptTail e (.Slice lo hi none p2) v (.ref s3.heap.objs.size)) (EP X pins σ Q) X.xe { s3 with heap := s3.heap.push { cls := .type "slice", data := .fields #[vl, vu, .none] } }
  exact tail_any (ops := [.ref s3.heap.objs.size, v]) ht hT hg (by with_unfolding_all rfl)

/-- the items of xs[lo:hi] -/
def cutV (xs : List V) (lo hi : Option Int) : List V := (xs.drop (HT.sIx xs.length 0 lo)).take (HT.sIx xs.length xs.length hi - HT.sIx xs.length 0 lo)
theorem cutV_length (xs : List V) (lo hi : Option Int) : (cutV xs lo hi).length ≤ xs.length := by
  unfold cutV
  rw [List.length_take, List.length_drop]
  omega
/-- t[lo:hi], not the whole of it (the whole would be t itself) -/
def rSlT (K : PySem.W.Frag) : V → Option Int → Option Int → Hp → VK → Prop := fun x lo hi H Q => ∃ a xs, x = .ref a ∧ SqT K H a xs ∧
  ¬ (HT.sIx xs.length 0 lo = 0 ∧ HT.sIx xs.length xs.length hi = xs.length) ∧ ∀ p, H p = none → Q (.ref p) (upd H p (.tup (cutV xs lo hi)))
theorem sl_tup : SlR X (rSlT X.K) := by
  intro pins s σ H x v vl vu lo hi sl Q I rx hs pl pu h
  obtain ⟨a, xs, rfl, hx, hw, q⟩ := h
  cases rx
  obtain ⟨its, r, ht, hz⟩ := I.tuple hx
  have hlen : its.toArray.size = xs.length := by rw [List.size_toArray]; exact r.length.symm
  refine ⟨"tuple", _, PyProof.Rows.slot_tuple_getitem.lookup, ht.typeIs, ?_⟩
  refine HT.getItem_tuple_cut ht hs pl pu (by rw [hlen]; exact hw) ?_ (by rw [hlen]; exact hz)
  rw [hlen]
  refine ⟨.ref s.heap.objs.size, _, I.laid (t' := s.toks) (o := .tup (cutV xs lo hi)) (fun b ob q => Heap.get?_push_of_some _ q) (Nat.le_refl _) ?_, rfl, q _ (I.hok.fresh (Nat.le_refl _))⟩
  exact ⟨Nat.le_trans (cutV_length xs lo hi) hz, _, (r.drop (HT.sIx xs.length 0 lo)).take (HT.sIx xs.length xs.length hi - HT.sIx xs.length 0 lo), IsTup.new _ _⟩

/-! ### t < u, t + u -/
def rLtT (K : PySem.W.Frag) : R2 := fun x y H Q => ∃ a b ns ms, x = .ref a ∧ y = .ref b ∧ SqT K H a (ns.map V.int) ∧ SqT K H b (ms.map V.int) ∧ Q (.bl (HT.lexLt ns ms)) H
/-- t + u, t not empty: u empty gives t itself -/
def rCatT (K : PySem.W.Frag) : R2 := fun x y H Q => ∃ a b xs ys, x = .ref a ∧ y = .ref b ∧ SqT K H a xs ∧ SqT K H b ys ∧ xs ≠ [] ∧ xs.length + ys.length ≤ sizeLine ∧
  (ys = [] → Q (.ref a) H) ∧ (ys ≠ [] → ∀ p, H p = none → Q (.ref p) (upd H p (.tup (xs ++ ys))))
end
end L2

namespace L2
open PySem PySem.Spec PyProof.Rows

/-! ### places -/
/-- the place that an index of any sign means -/
def ixN (n : Nat) (i : Int) : Option Nat := if 0 ≤ i then (if i < n then some i.toNat else none) else if -(n : Int) ≤ i then some (i + n).toNat else none
def atI {α : Type} (xs : List α) (i : Int) : Option α := (ixN xs.length i).bind fun j => xs[j]?
theorem ixN_seq {n : Nat} {i : Int} {j : Nat} (h : ixN n i = some j) : seqIndex? i n = some j ∧ j < n ∧ -(n : Int) ≤ i ∧ i < n := by
  unfold ixN at h
  by_cases h0 : 0 ≤ i
  · rw [if_pos h0] at h
    by_cases h1 : i < n
    · rw [if_pos h1] at h
      have e : i.toNat = j := Option.some.inj h
      exact ⟨by rw [seqIndex_of h0 h1, e], by omega, by omega, h1⟩
    · rw [if_neg h1] at h; cases h
  · rw [if_neg h0] at h
    by_cases h1 : -(n : Int) ≤ i
    · rw [if_pos h1] at h
      have e : (i + n).toNat = j := Option.some.inj h
      exact ⟨by rw [seqIndex_neg (by omega) h1, e], by omega, h1, by omega⟩
    · rw [if_neg h1] at h; cases h
theorem atI_get {α : Type} {xs : List α} {i : Int} {v : α} (h : atI xs i = some v) : ∃ j, seqIndex? i xs.length = some j ∧ xs[j]? = some v ∧ j < xs.length ∧ -(xs.length : Int) ≤ i ∧ i < xs.length := by
  unfold atI at h
  cases e : ixN xs.length i with
  | none => rw [e] at h; cases h
  | some j =>
    rw [e] at h
    obtain ⟨h1, h2, h3, h4⟩ := ixN_seq e
    exact ⟨j, h1, h, h2, h3, h4⟩
theorem atI_nat {α : Type} {xs : List α} {j : Nat} {v : α} (h : xs[j]? = some v) : atI xs (j : Int) = some v := by
  have hj : j < xs.length := (List.getElem?_eq_some_iff.mp h).1
  have e : ixN xs.length (j : Int) = some j := by
    unfold ixN
    rw [if_pos (by omega), if_pos (by omega)]; simp
  unfold atI; rw [e]; exact h
/-! ### what may be subscripted -/
/-- what stands as an index of a plain subscript -/
def PlainIx (b : Expr) : Prop := ∀ o i, subscripted b false o i = operate [o, i] (getItem o i)
/-- a subscript by values -/
def IxR (X : Cx) (r : R2) : Prop :=
  ∀ (value slice : Expr) (pins : List (Addr × Obj)) (s : Shared) (σ : St) (H : Hp) (x y : V) (v u : Value) (Q : VK), Inv X pins σ H s → RelV x v → RelV y u → r x y H Q →
    subscripted slice false v u = operate [v, u] (getItem v u) → wpAny (model X.prog X.w) X.A (subscriptTail value slice v u) (EP X pins σ Q) X.xe s
/-- a call of a builtin's method by values: the receiver, the arguments -/
def MtR (X : Cx) (id : String) (r : V → List V → Hp → VK → Prop) : Prop :=
  ∀ (pins : List (Addr × Obj)) (s : Shared) (σ : St) (H : Hp) (x : V) (xs : List V) (v : Value) (us : List Value) (Q : VK), Inv X pins σ H s → RelV x v → Vals xs us → r x xs H Q →
    wpAny (model X.prog X.w) X.A (call (.builtin id) (v :: us)) (EP X pins σ Q) X.xe s
section
variable {X : Cx} {a b : Expr} {ta tb : TE} {pos : Pos}
/-- a[b] -/
theorem pe_ix {r : R2} (hr : IxR X r) (ha : PE X a ta) (hb : PE X b tb) (hs : PlainIx b) : PE X (.Subscript a b pos) (tOp r ta tb) := by
  intro pins s σ H Q I h
  exact Subscript_ (binT ha hb I h fun v u s2 x y H2 I2 rx ry q => hr a b pins s2 σ H2 x y v u Q I2 rx ry q (hs _ _))

def rIxL (K : PySem.W.Frag) : R2 := fun x y H Q => ∃ p xs i v, x = .ref p ∧ y = .int i ∧ SqL K H p xs ∧ atI xs i = some v ∧ Q v H
def rIxT (K : PySem.W.Frag) : R2 := fun x y H Q => ∃ p xs i v, x = .ref p ∧ y = .int i ∧ SqT K H p xs ∧ atI xs i = some v ∧ Q v H
def rIxS : R2 := fun x y H Q => ∃ z i c, x = .str z ∧ y = .int i ∧ z.length ≤ sizeLine ∧ atI z.cps.toList i = some c ∧ Q (.str ⟨#[c]⟩) H
theorem ix_list : IxR X (rIxL X.K) := by
  intro value slice pins s σ H x y v u Q I rx ry h hs
  obtain ⟨p, xs, i, z, rfl, rfl, hq, he, q⟩ := h
  cases rx
  obtain ⟨t, rfl⟩ := ry
  obtain ⟨its, r, pl, hz⟩ := I.list hq
  obtain ⟨j, h1, h2, h3, h4, h5⟩ := atI_get he
  obtain ⟨w, ew, rw'⟩ := r.get h2
  have hl := r.length
  have hn := line63
  have fin : EP X pins σ Q w s := ⟨z, H, I, rw', q⟩
  by_cases h0 : 0 ≤ i
  · have hj : i.toNat = j := by
      rw [seqIndex_of h0 h5] at h1
      exact Option.some.inj h1
    exact item_listR pl.isList h0 (by omega) (by rw [hj]; simpa using ew) fin hs
  · have hj : (i + (its.toArray.size : Int)).toNat = j := by
      rw [seqIndex_neg (by omega) h4] at h1
      rw [List.size_toArray, ← hl]
      exact Option.some.inj h1
    exact subscriptTail_builtinR (x := w) pl.isList.typeIs slot_list_getitem.lookup
      (wpAny_getItem_list_neg (Q := fun r s' => r = w ∧ EP X pins σ Q r s') pl.isList (by omega) (by rw [List.size_toArray] <;> omega) (by omega) (by rw [hj]; simpa using ew) ⟨rfl, fin⟩) hs
theorem ix_tup : IxR X (rIxT X.K) := by
  intro value slice pins s σ H x y v u Q I rx ry h hs
  obtain ⟨p, xs, i, z, rfl, rfl, hq, he, q⟩ := h
  cases rx
  obtain ⟨t, rfl⟩ := ry
  obtain ⟨its, r, pl, hz⟩ := I.tuple hq
  obtain ⟨j, h1, h2, h3, h4, h5⟩ := atI_get he
  obtain ⟨w, ew, rw'⟩ := r.get h2
  have hl := r.length
  have hn := line63
  have fin : EP X pins σ Q w s := ⟨z, H, I, rw', q⟩
  exact subscriptTail_builtinR (x := w) pl.typeIs slot_tuple_getitem.lookup
    (getItem_tuple (j := j) (Q := fun r s' => r = w ∧ EP X pins σ Q r s') pl (by omega) (by omega) (by rw [List.size_toArray, ← hl]; exact h1) (by simpa using ew) ⟨rfl, fin⟩) hs
/-- list, tuple or str -/
def rIx (K : PySem.W.Frag) : R2 := fun x y H Q => rIxL K x y H Q ∨ rIxT K x y H Q ∨ rIxS x y H Q
/-! ### xs[i] = v, any sign -/
/-- the list's object behind a store -/
theorem mapSeq_set (its : List Value) (n j : Nat) (u : Value) : Obj.mapSeq (·.setIfInBounds j u) { cls := .type "list", data := .seq its.toArray n } = { cls := .type "list", data := .seq (its.set j u).toArray n } := by
  simp [Obj.mapSeq]
theorem Inv.lst {pins : List (Addr × Obj)} {σ : St} {H : Hp} {s : Shared} {p : Addr} {xs : List V} (I : Inv X pins σ H s) (h : H p = some (.lst xs)) :
    ∃ (its : List Value) (n : Nat), Vals xs its ∧ s.heap.get? p = some { cls := .type "list", data := .seq its.toArray n } ∧ xs.length ≤ sizeLine := by
  obtain ⟨z, its, n, r, e⟩ := I.hok p _ h
  exact ⟨its, n, r, e, z⟩
/-- the list at p is written by an update of its object -/
theorem Inv.lstUpd {pins : List (Addr × Obj)} {σ : St} {H : Hp} {s : Shared} {p : Addr} {xs ys : List V} {its its' : List Value} {n n' : Nat} {f : Obj → Obj} (I : Inv X pins σ H s) (h : H p = some (.lst xs))
    (ho : s.heap.get? p = some { cls := .type "list", data := .seq its.toArray n }) (hf : f { cls := .type "list", data := .seq its.toArray n } = { cls := .type "list", data := .seq its'.toArray n' }) (r : Vals ys its') (hz : ys.length ≤ sizeLine) (t : Nat) :
    Inv X pins σ (upd H p (.lst ys)) { s with heap := s.heap.update p f, toks := t } := by
  have e : (s.heap.update p f).get? p = some { cls := .type "list", data := .seq its'.toArray n' } := by
    rw [Heap.get?_update_self f ho (by rw [hf] <;> rfl), hf]
  refine I.write (x := p) (e := p) (by rw [h]; trivial) (.inl rfl) (fun b u hb q => (Heap.get?_update_other _ _ (Ne.symm hb)).trans q) ⟨_, e⟩ ?_
  exact ⟨hz, its', n', r, e⟩
def rSetL : V → V → V → Hp → (Hp → Prop) → Prop := fun o i v H Q => ∃ p xs k j, o = .ref p ∧ i = .int k ∧ H p = some (.lst xs) ∧ ixN xs.length k = some j ∧ Q (upd H p (.lst (xs.set j v)))
theorem set_list : PSet X rSetL := by
  intro pins s σ H o i v ov iv u Q I ro ri rv h
  obtain ⟨p, xs, k, j, rfl, rfl, hp, hj, q⟩ := h
  cases ro
  obtain ⟨t, rfl⟩ := ri
  obtain ⟨its, n, r, ho, hz⟩ := I.lst hp
  obtain ⟨h1, h2, h3, h4⟩ := ixN_seq hj
  have hl := r.length
  have hn := line63
  have I' : Inv X pins σ (upd H p (.lst (xs.set j v))) { s with heap := s.heap.update p (Obj.mapSeq (·.setIfInBounds j u)) } :=
    I.lstUpd hp ho (mapSeq_set its n j u) (r.set rv j) (by rw [List.length_set]; exact hz) s.toks
  by_cases h0 : 0 ≤ k
  · have hk : k.toNat = j := by
      rw [seqIndex_of h0 h4] at h1
      exact Option.some.inj h1
    exact PySem.W.ki_setAt ho h0 (by omega) (by rw [List.size_toArray, ← hl]; exact h4) (by rw [hk]; exact ⟨_, I', q⟩)
  · have hk : (k + (its.toArray.size : Int)).toNat = j := by
      rw [seqIndex_neg (by omega) h3] at h1
      rw [List.size_toArray, ← hl]
      exact Option.some.inj h1
    exact PySem.W.ki_setBack ho (by omega) (by rw [List.size_toArray, ← hl]; exact h3) (by omega) (by rw [hk]; exact ⟨_, I', q⟩)

/-! ### slices -/
theorem slice_bounds (lo hi : Option Int) (n : Nat) : (sliceBounds lo hi none n).1 = ((HT.sIx n 0 lo : Nat) : Int) ∧ (sliceBounds lo hi none n).2.1 = ((HT.sIx n n hi : Nat) : Int) ∧ (sliceBounds lo hi none n).2.2 = 1 := by
  refine ⟨?_, ?_, rfl⟩
  · cases lo with
    | none => simp [sliceBounds, HT.sIx]
    | some i =>
      simp only [sliceBounds, HT.sIx, Option.getD_none, show (1 : Int) > 0 by decide, if_true]
      by_cases h : i < 0
      · simp only [h, if_true] <;> omega
      · simp only [h, if_false] <;> omega
  · cases hi with
    | none => simp [sliceBounds, HT.sIx]
    | some i =>
      simp only [sliceBounds, HT.sIx, Option.getD_none, show (1 : Int) > 0 by decide, if_true]
      by_cases h : i < 0
      · simp only [h, if_true] <;> omega
      · simp only [h, if_false] <;> omega
theorem slicePick_cut (its : List Value) (lo hi : Option Int) : slicePick its.toArray lo hi none = ((its.drop (HT.sIx its.length 0 lo)).take (HT.sIx its.length its.length hi - HT.sIx its.length 0 lo)).toArray := by
  obtain ⟨h1, h2, h3⟩ := slice_bounds lo hi its.toArray.size
  unfold slicePick
  rw [h1, h2, h3]
  simp only [sliceRange_one, pick_run, List.size_toArray] <;> rfl
/-- xs[lo:hi] of a list: a new list -/
def rSlL (K : PySem.W.Frag) : V → Option Int → Option Int → Hp → VK → Prop := fun x lo hi H Q => ∃ a xs, x = .ref a ∧ SqL K H a xs ∧ ∀ p, H p = none → Q (.ref p) (upd H p (.lst (cutV xs lo hi)))
theorem sl_list : SlR X (rSlL X.K) := by
  intro pins s σ H x v vl vu lo hi sl Q I rx hs pl pu h
  obtain ⟨a, xs, rfl, hx, q⟩ := h
  cases rx
  obtain ⟨its, r, ht, hz⟩ := I.list hx
  have hlen := r.length
  refine ⟨"list", _, slot_list_getitem.lookup, ht.isList.typeIs, ?_⟩
  refine wpAny_getItem_list_slice ht.isList hs pl pu .none (by simp) ?_ (by rw [List.size_toArray] <;> omega)
  rw [slicePick_cut, ← hlen]
  refine ⟨.ref s.heap.objs.size, _, I.laid (t' := s.toks) (o := .lst (cutV xs lo hi)) (fun b ob q => Heap.get?_push_of_some _ q) (Nat.le_refl _) ?_, rfl, q _ (I.hok.fresh (Nat.le_refl _))⟩
  exact ⟨Nat.le_trans (cutV_length xs lo hi) hz, _, 0, (r.drop (HT.sIx xs.length 0 lo)).take (HT.sIx xs.length xs.length hi - HT.sIx xs.length 0 lo), Heap.get?_push_size _ rfl⟩

/-! ### in, not in: flat items -/
def flatV : V → Bool
  | .non => true
  | .bl _ => true
  | .int _ => true
  | .str _ => true
  | _ => false
/-- == of flat values -/
def eqV : V → V → Bool
  | .non, .non => true
  | .bl a, .bl b => a == b
  | .bl a, .int b => (if a then 1 else 0) == b
  | .int a, .bl b => a == (if b then 1 else 0)
  | .int a, .int b => a == b
  | .str a, .str b => a == b
  | _, _ => false
theorem eqAt_V {A : Around} {s : Shared} {y x : V} {u v : Value} (ry : RelV y u) (rx : RelV x v) (fy : flatV y = true) (fx : flatV x = true) : SeqAt.EqAt A s u v (eqV y x) := by
  cases y with
  | non =>
    cases ry
    cases x with
    | non => cases rx; exact SeqAt.EqAt.same _
    | bl b => cases rx; exact SeqAt.EqAt.none_bool b
    | int b => obtain ⟨t, rfl⟩ := rx; exact SeqAt.EqAt.none_int b t
    | str b => obtain ⟨t, rfl⟩ := rx; exact SeqAt.EqAt.none_str b t
    | _ => exact absurd (show false = true from fx) Bool.false_ne_true
  | bl a =>
    cases ry
    cases x with
    | non => cases rx; exact SeqAt.EqAt.bool_none a
    | bl b => cases rx; exact SeqAt.EqAt.bool_bool a b
    | int b => obtain ⟨t, rfl⟩ := rx; exact SeqAt.EqAt.bool_int a b t
    | str b => obtain ⟨t, rfl⟩ := rx; exact SeqAt.EqAt.bool_str a b t
    | _ => exact absurd (show false = true from fx) Bool.false_ne_true
  | int a =>
    obtain ⟨t', rfl⟩ := ry
    cases x with
    | non => cases rx; exact SeqAt.EqAt.int_none a t'
    | bl b => cases rx; exact SeqAt.EqAt.int_bool a t' b
    | int b => obtain ⟨t, rfl⟩ := rx; exact SeqAt.EqAt.int_int a t' b t
    | str b => obtain ⟨t, rfl⟩ := rx; exact SeqAt.EqAt.int_str a t' b t
    | _ => exact absurd (show false = true from fx) Bool.false_ne_true
  | str a =>
    obtain ⟨t', rfl⟩ := ry
    cases x with
    | non => cases rx; exact SeqAt.EqAt.str_none a t'
    | bl b => cases rx; exact SeqAt.EqAt.str_bool a t' b
    | int b => obtain ⟨t, rfl⟩ := rx; exact SeqAt.EqAt.str_int a t' b t
    | str b => obtain ⟨t, rfl⟩ := rx; exact SeqAt.EqAt.str_str a t' b t
    | _ => exact absurd (show false = true from fx) Bool.false_ne_true
  | _ => exact absurd (show false = true from fy) Bool.false_ne_true
/-- the items' answers, read off the values (a value's own answer does not lean on its token) -/
def eqU (x : V) (u : Value) : Bool := match u with
  | .none => eqV .non x
  | .bool b => eqV (.bl b) x
  | .int i _ => eqV (.int i) x
  | .str z _ => eqV (.str z) x
  | _ => false
theorem eqU_of {x y : V} {u : Value} (r : RelV y u) (f : flatV y = true) : eqU x u = eqV y x := by
  cases y with
  | non => cases r; rfl
  | bl b => cases r; rfl
  | int i => obtain ⟨t, rfl⟩ := r; rfl
  | str z => obtain ⟨t, rfl⟩ := r; rfl
  | _ => exact absurd (show false = true from f) Bool.false_ne_true
theorem any_eqU {x : V} : ∀ {xs : List V} {us : List Value}, Vals xs us → xs.all flatV = true → us.any (eqU x) = xs.any fun y => eqV y x
  | _, _, .nil, _ => rfl
  | y :: xs, u :: us, .cons r t, f => by
    rw [List.all_cons, Bool.and_eq_true] at f
    rw [List.any_cons, List.any_cons, eqU_of r f.1, any_eqU t f.2]
theorem mem_eqAt {A : Around} {s : Shared} {x : V} {v : Value} (rx : RelV x v) (fx : flatV x = true) : ∀ {xs : List V} {us : List Value}, Vals xs us → xs.all flatV = true → ∀ u ∈ us, SeqAt.EqAt A s u v (eqU x u)
  | _, _, .nil, _ => fun u hu => by cases hu
  | y :: xs, u :: us, .cons r t, f => fun u' hu => by
    rw [List.all_cons, Bool.and_eq_true] at f
    rcases List.mem_cons.mp hu with rfl | hu
    · rw [eqU_of r f.1]; exact eqAt_V r rx f.1 fx
    · exact mem_eqAt rx fx t f.2 u' hu
def inV (x : V) (xs : List V) : Bool := xs.any fun y => eqV y x
/-- x in a list or tuple of flat items -/
def rIn (K : PySem.W.Frag) (neg : Bool) : R2 := fun x y H Q => ∃ p xs, y = .ref p ∧ (SqL K H p xs ∨ SqT K H p xs) ∧ flatV x = true ∧ xs.all flatV = true ∧ Q (.bl (if neg then !inV x xs else inV x xs)) H
theorem op_in_seq : OpR X (compareOp .In) (rIn X.K false) := by
  intro pins s σ H x y v u Q I rx ry h
  obtain ⟨p, xs, rfl, hq, fx, fs, q⟩ := h
  cases ry
  rcases hq with hq | hq
  · obtain ⟨its, r, pl, hz⟩ := I.list hq
    refine SeqAt.in_listAt (eqU x) pl.isList (fun w hw => mem_eqAt rx fx r fs w (by simpa using hw)) ⟨.bl _, H, I, rfl, ?_⟩
    rw [show its.toArray.any (eqU x) = its.any (eqU x) by simp, any_eqU r fs]
    exact q
  · obtain ⟨its, r, pl, hz⟩ := I.tuple hq
    refine SeqAt.in_tupleAt (eqU x) pl (fun w hw => mem_eqAt rx fx r fs w (by simpa using hw)) ⟨.bl _, H, I, rfl, ?_⟩
    rw [show its.toArray.any (eqU x) = its.any (eqU x) by simp, any_eqU r fs]
    exact q
theorem op_notIn_seq : OpR X (compareOp .NotIn) (rIn X.K true) := by
  intro pins s σ H x y v u Q I rx ry h
  obtain ⟨p, xs, rfl, hq, fx, fs, q⟩ := h
  cases ry
  rcases hq with hq | hq
  · obtain ⟨its, r, pl, hz⟩ := I.list hq
    refine SeqAt.notIn_listAt (eqU x) pl.isList (fun w hw => mem_eqAt rx fx r fs w (by simpa using hw)) ⟨.bl _, H, I, rfl, ?_⟩
    rw [show its.toArray.any (eqU x) = its.any (eqU x) by simp, any_eqU r fs]
    exact q
  · obtain ⟨its, r, pl, hz⟩ := I.tuple hq
    refine SeqAt.notIn_tupleAt (eqU x) pl (fun w hw => mem_eqAt rx fx r fs w (by simpa using hw)) ⟨.bl _, H, I, rfl, ?_⟩
    rw [show its.toArray.any (eqU x) = its.any (eqU x) by simp, any_eqU r fs]
    exact q
/-! ### len, list(x), tuple(x) of any list or tuple that is read -/
theorem call_len_seq : CallR X (.builtin "len") (fun xs H Q => ∃ p ys, xs = [.ref p] ∧ (SqL X.K H p ys ∨ SqT X.K H p ys) ∧ Q (.int ys.length) H) := by
  intro pins s σ H xs us Q I r h
  obtain ⟨p, ys, rfl, hq, q⟩ := h
  obtain ⟨u, rfl, rx⟩ := vals1 r
  cases rx
  have hn := line63
  rcases hq with hq | hq
  · obtain ⟨its, r', pl, hz⟩ := I.list hq
    have hlen := r'.length
    exact Calls.call_len_list pl.isList (by simp only [List.size_toArray] <;> omega) ⟨.int ys.length, H, I.tok _, ⟨s.toks + 1, by rw [List.size_toArray, hlen]⟩, q⟩
  · obtain ⟨its, r', pl, hz⟩ := I.tuple hq
    have hlen := r'.length
    exact len_tuple pl (by simp only [List.size_toArray] <;> omega) ⟨.int ys.length, H, I.tok _, ⟨s.toks + 1, by rw [List.size_toArray, hlen]⟩, q⟩
theorem call_list_of : CallR X (.type "list") (fun xs H Q => ∃ p ys, xs = [.ref p] ∧ (SqL X.K H p ys ∨ SqT X.K H p ys) ∧ ∀ l, H l = none → Q (.ref l) (upd H l (.lst ys))) := by
  intro pins s σ H xs us Q I r h
  obtain ⟨p, ys, rfl, hq, q⟩ := h
  obtain ⟨u, rfl, rx⟩ := vals1 r
  cases rx
  have fin : ∀ (its : List Value), Vals ys its → ys.length ≤ sizeLine → ∀ (h' : Heap) (c' : Nat), (∀ b o', s.heap.get? b = some o' → h'.get? b = some o') →
      h'.get? s.heap.objs.size = some { cls := .type "list", dict := none, data := .seq its.toArray c', slots := #[] } → EP X pins σ Q (.ref s.heap.objs.size) { s with heap := h' } := fun its r' hz h' c' kp e =>
    ⟨.ref s.heap.objs.size, _, I.laid (t' := s.toks) kp (Nat.le_refl _) (show ObjOk X.prog X.w _ h' _ (.lst ys) from ⟨hz, its, c', r', e⟩), rfl, q _ (I.hok.fresh (Nat.le_refl _))⟩
  rcases hq with hq | hq
  · obtain ⟨its, r', pl, hz⟩ := I.list hq
    have hlen := r'.length
    obtain ⟨o, ho, hc, n, hd⟩ := pl.isList
    exact call_list_seq p (.inl rfl) ho hc hd (fun h' c' kp e => fin its r' hz h' c' kp e) (by simp only [List.size_toArray] <;> omega)
  · obtain ⟨its, r', pl, hz⟩ := I.tuple hq
    have hlen := r'.length
    obtain ⟨o, ho, hc, n, hd⟩ := pl
    exact call_list_seq p (.inr rfl) ho hc hd (fun h' c' kp e => fin its r' hz h' c' kp e) (by simp only [List.size_toArray] <;> omega)
/-! ### the call of a builtin's method: o.m(..) -/
/-- the value is of that builtin type -/
def tyV (K : PySem.W.Frag) (T : String) (x : V) (H : Hp) : Prop := match x with
  | .str _ => T = "str"
  | .int _ => T = "int"
  | .ref p => (T = "list" ∧ ∃ xs, SqL K H p xs) ∨ (T = "tuple" ∧ ∃ o, K.lookup p = some o ∧ o.cls = .type "tuple" ∧ o.dict = none) ∨
      (T = "dict" ∧ ((∃ kvs, H p = some (.dK kvs)) ∨ ∃ kvs, H p = some (.dT kvs))) ∨ (T = "set" ∧ ∃ S n, H p = some (.set S n))
  | _ => False
theorem tyV_is {pins : List (Addr × Obj)} {σ : St} {H : Hp} {s : Shared} {T : String} {x : V} {v : Value} (I : Inv X pins σ H s) (r : RelV x v) (ty : tyV X.K T x H) :
    s.TypeIs v T ∧ ∀ a, v = .ref a → ∃ ob, s.heap.get? a = some ob ∧ ob.dict = none := by
  cases x with
  | str z =>
    obtain ⟨t, rfl⟩ := r
    cases (show T = "str" from ty)
    exact ⟨typeIs_str s z t, fun _ e => nomatch e⟩
  | int i =>
    obtain ⟨t, rfl⟩ := r
    cases (show T = "int" from ty)
    exact ⟨typeIs_int s i t, fun _ e => nomatch e⟩
  | ref p =>
    cases r
    rcases ty with ⟨rfl, xs, hq⟩ | ⟨rfl, o, hk, hc, hd⟩ | ⟨rfl, hk⟩ | ⟨rfl, S, n, hk⟩
    · obtain ⟨its, _, pl, _⟩ := I.list hq
      refine ⟨pl.isList.typeIs, fun a e => ?_⟩
      cases e
      obtain ⟨o, n, e, c, hd, _⟩ := pl
      exact ⟨o, e, hd⟩
    · refine ⟨⟨o, I.kIn p o hk, hc⟩, fun a e => ?_⟩
      cases e
      exact ⟨o, I.kIn _ o hk, hd⟩
    · have z : ∃ o, s.heap.get? p = some o ∧ o.ExactDict := by
        rcases hk with ⟨kvs, hk⟩ | ⟨kvs, hk⟩
        · obtain ⟨_, _, _, _, o, _, _, e, ex, _⟩ := I.hok p _ hk
          exact ⟨o, e, ex⟩
        · obtain ⟨_, _, _, _, o, _, _, e, ex, _⟩ := I.hok p _ hk
          exact ⟨o, e, ex⟩
      obtain ⟨o, e, ex⟩ := z
      refine ⟨⟨o, e, ex.1⟩, fun a e2 => ?_⟩
      cases e2
      exact ⟨o, e, ex.2.1⟩
    · obtain ⟨o, _, _, _, e, ex, _⟩ := I.hok p _ hk
      refine ⟨⟨o, e, ex.1⟩, fun a e2 => ?_⟩
      cases e2
      exact ⟨o, e, ex.2.1⟩
  | _ => exact False.elim ty
def tBM0 (K : PySem.W.Frag) (T : String) (r : V → List V → Hp → VK → Prop) (to : TE) : TE := fun σ H Q => to σ H fun x H1 => tyV K T x H1 ∧ r x [] H1 Q
def tBM (K : PySem.W.Frag) (T : String) (r : V → List V → Hp → VK → Prop) (to : TE) (t : TA) : TE := fun σ H Q => to σ H fun x H1 => tyV K T x H1 ∧ t σ H1 fun xs H2 => r x xs H2 Q
variable {o e : Expr} {es : List Expr} {to : TE} {t : TA} {name : Str} {apos cpos : Pos} {T id : String} {r : V → List V → Hp → VK → Prop}
theorem pe_bm0 (pa : PlainAttrs T) (slot : Slot T name id) (hty : typeOf (.builtin id) = pure (.type "method_descriptor")) (hm : MtR X id r) (ho : PE X o to)
    (hbase : attributeBase o name X.env (eval o X.env) = eval o X.env := by rfl) (hline : (apos.endLine == cpos.line) = true := by rfl) : PE X (.Call (.Attribute o name apos) [] [] cpos) (tBM0 X.K T r to) := by
  intro pins s σ H Q I h
  refine wpAny_Call_method0_late hbase hline (thn (ho pins s σ H _ I h) fun v s1 ⟨x, H1, I1, r1, ty, q1⟩ => ?_)
  obtain ⟨h1, h2⟩ := tyV_is I1 r1 ty
  exact ⟨T, id, pa, slot, hty, h1, h2, Calls.callWith_builtin rfl (PySem.evalArgs_none (hm pins s1 σ H1 x [] v [] Q I1 r1 .nil q1))⟩
theorem pe_bm (pa : PlainAttrs T) (slot : Slot T name id) (hty : typeOf (.builtin id) = pure (.type "method_descriptor")) (hm : MtR X id r) (ho : PE X o to) (ha : PA X (e :: es) t)
    (hbase : attributeBase o name X.env (eval o X.env) = eval o X.env := by rfl)
    (hfew : ((backTo cpos (starEach (e :: es) X.env)).all (fun x => !x.1) && (backToKw cpos (keywordEach [] X.env)).all (fun x => x.1.isSome)
      && decide ((e :: es).length + ([] : List Keyword).length + (if ([] : List Keyword).isEmpty then 0 else 1) < 30)) = true := by rfl)
    (hline : (apos.endLine == cpos.line) = true := by rfl) (hs : starEach (e :: es) X.env = (false, eval e X.env) :: starEach es X.env := by rfl) (hplain : (backTo cpos (starEach es X.env)).any (·.1) = false := by rfl) :
    PE X (.Call (.Attribute o name apos) (e :: es) [] cpos) (tBM X.K T r to t) := by
  intro pins s σ H Q I h
  refine wpAny_Call_method_late hbase hfew hline rfl (thn (ho pins s σ H _ I h) fun v s1 ⟨x, H1, I1, r1, ty, q1⟩ => ?_)
  obtain ⟨h1, h2⟩ := tyV_is I1 r1 ty
  refine ⟨T, id, pa, slot, hty, h1, h2, ?_⟩
  have hA := ha cpos pins s1 σ H1 _ I1 q1
  rw [hs] at hA ⊢
  refine Calls.callWith_builtin (by show (false || (backTo cpos (starEach es X.env)).any (·.1)) = false; rw [hplain] <;> rfl) (Calls.evalArgs_plain ?_)
  exact thn hA fun us s2 ⟨vs, H2, I2, r2, q2⟩ => hm pins s2 σ H2 x vs v us Q I2 r1 r2 q2
/- xs.append(e), list.index on a module's tuple .. are MtR facts of 06m -/
end
end L2

namespace L2
open PySem PySem.Spec PyProof.Rows

def MtM (X : Cx) (id : String) (r : V → List V → Hp → VK → Prop) : Prop :=
  ∀ (pins : List (Addr × Obj)) (s : Shared) (σ : St) (H : Hp) (x : V) (xs : List V) (v : Value) (us : List Value) (Q : VK), Inv X pins σ H s → RelV x v → Vals xs us → r x xs H Q →
    wpAny (model X.prog X.w) X.A (call (.builtin id) (v :: us)) (EP X pins σ Q) X.xe s

/-! ### lists of values -/
theorem Vals.one : ∀ {x : V} {us : List Value}, Vals [x] us → ∃ u, us = [u] ∧ RelV x u
  | _, _, .cons r .nil => ⟨_, rfl, r⟩
theorem Vals.zero : ∀ {us : List Value}, Vals [] us → us = []
  | _, .nil => rfl
theorem Vals.dropLast {xs : List V} {us : List Value} (h : Vals xs us) : Vals xs.dropLast us.dropLast := by
  induction h with
  | nil => exact .nil
  | cons r t ih =>
    cases t with
    | nil => exact .nil
    | cons q t' => exact .cons r ih
theorem erase_last {α : Type} (l : List α) : l.eraseIdx (l.length - 1) = l.dropLast := by
  induction l with
  | nil => rfl
  | cons a r ih =>
    cases r with
    | nil => rfl
    | cons b r =>
      have e : (a :: b :: r).length - 1 = ((b :: r).length - 1) + 1 := by
        have h1 : (a :: b :: r).length = r.length + 2 := rfl
        have h2 : (b :: r).length = r.length + 1 := rfl
        omega
      rw [e, List.eraseIdx_cons_succ, ih]
      all_goals rfl
section
variable {X : Cx} {pins : List (Addr × Obj)} {σ : St} {H : Hp} {s : Shared} {l b : Addr} {xs ys zs : List V}

/-! ### the two steps: a tracked list is rewritten, a new list is laid -/
theorem Inv.lset {its its' : List Value} {n : Nat} {f : Array Value → Array Value} {t' : Nat} (I : Inv X pins σ H s) (hH : H l = some (.lst xs))
    (e : s.heap.get? l = some { cls := .type "list", data := .seq its.toArray n }) (hf : f its.toArray = its'.toArray) (hv : Vals ys its') (hz : ys.length ≤ sizeLine) :
    Inv X pins σ (upd H l (.lst ys)) { s with heap := s.heap.update l (Obj.mapSeq f), toks := t' } := by
  have q := PySem.IsL.update e f
  rw [hf] at q
  refine I.write (x := l) (e := l) (by rw [hH]; exact trivial) (.inl rfl) (fun b' u hb hu => (Heap.get?_update_other s.heap (Obj.mapSeq f) (Ne.symm hb)).trans hu) ⟨_, q⟩ ?_
  exact ⟨hz, its', _, hv, q⟩
theorem Inv.lnew {its : List Value} {t' : Nat} (I : Inv X pins σ H s) (hv : Vals ys its) (hz : ys.length ≤ sizeLine) :
    Inv X pins σ (upd H s.heap.objs.size (.lst ys)) { s with heap := s.heap.push { cls := .type "list", data := .seq its.toArray }, toks := t' } :=
  I.laid (fun _ _ q => Heap.get?_push_of_some _ q) (Nat.le_refl _) ⟨hz, its, 0, hv, Heap.get?_push_size _ rfl⟩
theorem Inv.fresh (I : Inv X pins σ H s) : H s.heap.objs.size = none := I.hok.fresh (Nat.le_refl _)
theorem Inv.lstM (I : Inv X pins σ H s) (hH : H l = some (.lst xs)) : xs.length ≤ sizeLine ∧ ∃ (its : List Value) (n : Nat), Vals xs its ∧ xs.length = its.length ∧ s.heap.get? l = some { cls := .type "list", data := .seq its.toArray n } := by
  obtain ⟨z, its, n, r, e⟩ := I.hok l _ hH
  exact ⟨z, its, n, r, r.length, e⟩

end

section
variable {X : Cx}

/-! ### methods -/
def rAppend : V → List V → Hp → VK → Prop := fun x vs H Q => ∃ l xs y, x = .ref l ∧ vs = [y] ∧ H l = some (.lst xs) ∧ xs.length < sizeLine ∧ Q .non (upd H l (.lst (xs ++ [y])))
theorem mt_append : MtM X "list.append" rAppend := by
  intro pins s σ H x vs v us Q I rx rv h
  obtain ⟨l, xs, y, rfl, rfl, hH, hz, q⟩ := h
  cases rx
  obtain ⟨u, rfl, ru⟩ := rv.one
  obtain ⟨z, its, n, r, hl, e⟩ := I.lstM hH
  refine call_meets F.slot_list_append ⟨_, e, rfl⟩ F.entry_list_append (F.args_list_append_2 _ _) (PySem.list_append l its.toArray n u (by rw [List.size_toArray]; omega)) ⟨e, ?_⟩
  refine ⟨.non, _, I.lset (its' := its ++ [u]) hH e (by simp) (r.append (.cons ru .nil)) ?_, rfl, q⟩
  rw [List.length_append, List.length_singleton]
  omega

def rExtend : V → List V → Hp → VK → Prop := fun x vs H Q => ∃ l b xs zs, x = .ref l ∧ vs = [.ref b] ∧ H l = some (.lst xs) ∧ H b = some (.lst zs) ∧ xs.length + zs.length ≤ sizeLine ∧ Q .non (upd H l (.lst (xs ++ zs)))
def rPop : V → List V → Hp → VK → Prop := fun x vs H Q => ∃ l xs y, x = .ref l ∧ vs = [] ∧ H l = some (.lst xs) ∧ xs[xs.length - 1]? = some y ∧ Q y (upd H l (.lst xs.dropLast))
theorem mt_pop : MtM X "list.pop" rPop := by
  intro pins s σ H x vs v us Q I rx rv h
  obtain ⟨l, xs, y, rfl, rfl, hH, hy, q⟩ := h
  cases rx
  have hus := rv.zero
  subst hus
  obtain ⟨z, its, n, r, hl, e⟩ := I.lstM hH
  obtain ⟨u, hu, ru⟩ := r.get hy
  have hy' : its.toArray[its.toArray.size - 1]? = some u := by
    show its.toArray[its.length - 1]? = some u
    rw [← Array.getElem?_toList, ← hl]
    exact hu
  refine call_meets F.slot_list_pop ⟨_, e, rfl⟩ F.entry_list_pop (F.args_list_pop_1 _) (MeetsSeq.list_pop_last l its.toArray n u hy' (by rw [List.size_toArray]; omega)) ⟨e, ?_⟩
  refine ⟨y, _, I.lset (its' := its.dropLast) hH e ?_ r.dropLast ?_, ru, q⟩
  · show its.toArray.eraseIdxIfInBounds (its.toArray.size - 1) = its.dropLast.toArray
    rw [List.size_toArray, List.eraseIdxIfInBounds_toArray, erase_last]
  · rw [List.length_dropLast]
    omega

def rPopAt : V → List V → Hp → VK → Prop := fun x vs H Q => ∃ l xs i k y, x = .ref l ∧ vs = [.int i] ∧ H l = some (.lst xs) ∧ -(2 ^ 63) ≤ i ∧ i < 2 ^ 63 ∧ seqIndex? i xs.length = some k ∧ xs[k]? = some y ∧ Q y (upd H l (.lst (xs.eraseIdx k)))
def rReverse : V → List V → Hp → VK → Prop := fun x vs H Q => ∃ l xs, x = .ref l ∧ vs = [] ∧ H l = some (.lst xs) ∧ Q .non (upd H l (.lst xs.reverse))
def rClear : V → List V → Hp → VK → Prop := fun x vs H Q => ∃ l xs, x = .ref l ∧ vs = [] ∧ H l = some (.lst xs) ∧ Q .non (upd H l (.lst []))
theorem mt_clear : MtM X "list.clear" rClear := by
  intro pins s σ H x vs v us Q I rx rv h
  obtain ⟨l, xs, rfl, rfl, hH, q⟩ := h
  cases rx
  have hus := rv.zero
  subst hus
  obtain ⟨z, its, n, r, hl, e⟩ := I.lstM hH
  refine call_meets F.slot_list_clear ⟨_, e, rfl⟩ F.entry_list_clear (F.args_list_clear_1 _) (AutoSeq1.list_clear_list_0 l its.toArray n (by rw [List.size_toArray]; omega)) ⟨e, ?_⟩
  exact ⟨.non, _, I.lset (its' := []) (ys := []) hH e rfl .nil (Nat.zero_le _), rfl, q⟩

/-! ### list + list, list += list, list * int -/
def rCat : R2 := fun x y H Q => ∃ l b xs zs, x = .ref l ∧ y = .ref b ∧ H l = some (.lst xs) ∧ H b = some (.lst zs) ∧ xs.length + zs.length ≤ sizeLine ∧ ∀ p, H p = none → Q (.ref p) (upd H p (.lst (xs ++ zs)))
/-- a list times an int (a negative one is nothing) -/
def rRep : R2 := fun x y H Q => ∃ l k xs, x = .ref l ∧ y = .int k ∧ H l = some (.lst xs) ∧ -(2 ^ 63) ≤ k ∧ k < 2 ^ 63 ∧ xs.length * k.toNat ≤ sizeLine ∧
  ∀ p, H p = none → Q (.ref p) (upd H p (.lst (List.replicate k.toNat xs).flatten))
/-! ### del xs[i] -/
end

/-! ### xs[a:b] = ys -/
section
variable {prog : Program} {w : World} {A : Around} {E : Value → Shared → Prop} {s : Shared}
set_option maxRecDepth 100000 in
end

section
variable {X : Cx}
end
end L2

namespace Att
open PySem PySem.W PySem.Calls PyProof.Rows

/-! ### the script -/
theorem ints_of_wellAll {P : Params} {h : Heap} : ∀ (ns : List Int) (vs : List Value), WellAll P h vs (ns.map WData.int) → IntsAre vs ns := by
  intro ns
  induction ns with
  | nil =>
    intro vs w
    rw [List.map_nil] at w
    cases w
    exact .nil
  | cons n ns ih =>
    intro vs w
    rw [List.map_cons] at w
    cases w with
    | cons a b =>
      cases a
      exact .cons _ _ (ih _ b)

theorem script_of {l : OpenLaw} {n : Nat} (hn : l.most = some n) {P : Params} {h : Heap} {args : List WData} {vals : List Value}
    (hpre : l.row.toRowW.claim.pre args = true) (hwl : WellAll P h vals args) :
    ∃ a vs ns, vals = [Value.ref a] ∧ args = [WData.list (ns.map WData.int)] ∧ h.get? a = some { cls := .type "list", data := .seq vs.toArray } ∧ IntsAre vs ns ∧ ns.length ≤ n := by
  have hsh : WShape.hasAll [] args [.list .int] = true := (pre_splitW hpre).1
  have hc : l.pre.holds [] { args := args } = true := (pre_splitW hpre).2
  obtain ⟨d, r, rfl, h1, h2⟩ := hasAllW_cons hsh
  obtain rfl := hasAllW_nil h2
  obtain ⟨xs, rfl, h3⟩ := hasW_list h1
  obtain ⟨ns, rfl⟩ := items_int h3
  have hlen : ns.length ≤ n := by
    unfold OpenLaw.pre at hc
    have h4 : (WTm.not (.lt (.lit (.int (n : Int))) (.len (.arg 0)))).holds [] { args := [.list (ns.map .int)] } = true := by
      have h4 := (holds_andW hc).1
      rw [hn] at h4
      exact h4
    have h5 := condW_of h4 (w_not (w_lt w_lit (w_len_list (w_arg rfl))))
    rw [List.length_map] at h5
    refine Nat.le_of_not_lt fun q => ?_
    have q' : (n : Int) < ((ns.length : Nat) : Int) := by omega
    first
      | (rw [decide_eq_true q'] at h5; exact absurd h5 (by decide))
      | (simp at h5; omega)
  cases hwl with
  | cons w1 w2 =>
    cases w2
    cases w1 with
    | list ho hall => exact ⟨_, _, ns, rfl, rfl, ho, ints_of_wellAll ns _ hall, hlen⟩

theorem post_true (l : OpenLaw) (args : List WData) : l.row.toRowW.claim.post args (.bool true) args = true :=
  postW_of (r := l.row.toRowW) (X := (true == true))
    (show WShape.has [] (.bool true) .bool = true by first | rfl | decide | simp [WShape.has, WShape.arms, WShape.armsAll])
    (show (WTm.eq .res (.lit (.bool true))).value [] { args := args, res := some (.bool true), after := args } = some (.bool (true == true)) from w_eq_bool (w_res rfl) w_lit) rfl

/-! ### the attachment: holds_open's last premise (the goal 'hc' behind k_head) from a wpAny of the law's body -/
/-- the same from a codeAny of the CALL (for a layer whose function contracts speak of calls) -/
theorem attach_call {l : OpenLaw} {n : Nat} {q : Program} {loose : List Str} {XP : (Str → Option Value) → Heap → Prop} {YP : World → Heap → Prop} {d : DefRec}
    (hn : l.most = some n) (hdf : d.params.defaults = [])
    (call : ∀ (w : World) (s₀ s₁ : Shared) (mg mb : Str → Option Value) (fa : Addr) (o : Obj) (pm cd doc : Value) (a : Addr) (vs : List Value) (ns : List Int),
      Ground q loose [] XP w s₀ mg mb s₁.heap → YP w s₁.heap →
      s₁.heap.get? fa = some o → o.data = .func (docDef d.name d.params d.body d.scope pm cd doc) → s₁.heap.CodeRec cd d.name → mg d.name = some (.ref fa) →
      s₁.heap.get? a = some { cls := .type "list", data := .seq vs.toArray } → IntsAre vs ns → ns.length ≤ n → s₁.gens = #[] →
      codeAny (model l.prog w) callerA (.call (.ref fa) ⟨[.ref a], []⟩) (fun r s' => r = .ok (.ret (.bool true)) ∧ OldK s₁.heap s'.heap ∧ s'.os = s₁.os ∧ AllBare s'.gens) s₁) :
    WalkO q loose XP YP l.row.toRowW d [] (fun f vs => PySem.call f vs) := by
  intro w s₀ s₁ mg mb G Y fa o pm cd doc dV kV ho hd hcd hD hmg hg args vals as hpre hlay hrd hwl hlo
  obtain rfl : dV = .none := Dflts.none hD hdf
  obtain rfl : kV = .none := Dflts.noKw hD
  obtain ⟨a, vs, ns, rfl, rfl, hobj, hints, hlen⟩ := script_of hn hpre hwl
  refine enter_call (codeAny_mono (call w s₀ s₁ mg mb fa o pm cd doc a vs ns G Y ho (fd_plain hd) hcd hmg hobj hints hlen hg) fun r s' hq => ?_)
  obtain ⟨rfl, h2, h3, h4⟩ := hq
  exact ⟨.inl ⟨.bool true, .bool true, [], rfl, fun _ => rfl, .bool true, post_true l _, fun _ => ⟨List.Pairwise.nil, fun _ hm => (nomatch hm)⟩⟩, h2, h3, h4⟩

/-! ### rules over ANY heap (no ledger) from facts about the written part K: the library's own take a ledger (News) for what they write -/
section
variable {prog : Program} {w : World} {A : Around} {E : Value → Shared → Prop} {s : Shared} {K : Frag}

/-! the whole heap as the ledger: makes every rule that writes through a ledger a rule over any heap -/
def noObjs (h : Heap) : Heap := { h with objs := #[] }
def ledger (h : Heap) (L d : Addr) : List (Addr × Obj) := (List.range h.objs.size).filterMap fun a => if a = L ∨ a = d then none else (h.get? a).map fun o => (a, o)
end
end Att

namespace L2
open PySem PySem.Spec PyProof.Rows

theorem vals_ints : ∀ {vs : List Value} {ns : List Int}, IntsAre vs ns → Vals (ns.map V.int) vs
  | _, _, .nil => .nil
  | _, _, .cons n t h => .cons ⟨t, rfl⟩ (vals_ints h)

/-- nothing is tracked but the script, known to the object (or it is an object of the module) -/
def Only (H : Hp) : Prop := ∀ b, H b = none ∨ ∃ o xs, H b = some (.frz o (.lst xs))

/-- THE HEAD: the law's promise, at the heap behind the top. F, the promise of the law's def, may use that base is part of the heap (so K.In base, base.Ns mainGlobals mg stand in Mod) -/
theorem law_call {P : Program} {w : World} {K : PySem.W.Frag} {mg mb : Str → Option Value} {CX : CXT} {k : Nat} {fa a : Addr} {fd : FuncData} {x : Str} {sp : Sp} {s₁ : Shared} {vs : List Value} {ns : List Int}
    (KX : K.In s₁.heap) (hns : s₁.heap.Ns mainGlobals mg) (hb : s₁.heap.Ns builtinsNs mb) (hbb : ∀ x : Str, x ≠ "__name__" → mb x = bootBuiltins x) (hlim : s₁.heap.NoLimit) (hg : s₁.gens = #[])
    (ha : s₁.heap.get? a = some { cls := .type "list", data := .seq vs.toArray }) (hi : IntsAre vs ns) (hl : ns.length ≤ sizeLine) (hr : Room k callerA)
    (F : ∀ base : Heap, K.In base → base.Ns mainGlobals mg → FnOk P w K mg base CX k fa fd [x] sp) (hbind : ∀ (s : Shared) (u : Value), BindsTo s fd ⟨[u], []⟩ [(x, u)])
    (hsp : ∀ H : Hp, Only H → SqL K H a (ns.map V.int) → sp [.ref a] H (fun v _ => v = .bl true) fun _ _ _ => False)
    (hCX : ∀ H e s', CX [] H s₁ (fun _ _ _ => False) e s' → False) :
    codeAny (model P w) callerA (.call (.ref fa) ⟨[.ref a], []⟩) (fun r s' => r = .ok (.ret (.bool true)) ∧ OldK s₁.heap s'.heap ∧ s'.os = s₁.os ∧ AllBare s'.gens) s₁ := by
  have rv := vals_ints hi
  have lenV := hi.length
  -- from an abstract heap in which nothing but the script may be tracked
  have core : ∀ H : Hp, Only H → SqL K H a (ns.map V.int) → HOk P w H s₁.heap → (∀ b, H b ≠ none → b = a) → (H a ≠ none → K.lookup a = none) →
      codeAny (model P w) callerA (.call (.ref fa) ⟨[.ref a], []⟩) (fun r s' => r = .ok (.ret (.bool true)) ∧ OldK s₁.heap s'.heap ∧ s'.os = s₁.os ∧ AllBare s'.gens) s₁ := by
    intro H hO hS hok hA hK
    have base_of : ∀ {b : Addr} {o : Obj}, s₁.heap.get? b = some o → H b = none → (hidT s₁.heap H).get? b = some o := fun e n => hidT_get e n
    have noA : ∀ {b : Addr} {o : Obj} {es : Array DictEntry} {ep : Nat}, s₁.heap.get? b = some o → o.data = .dict es ep → H b = none := fun {b o es ep} e d => by
      cases q : H b with
      | none => rfl
      | some u =>
        have e' : b = a := hA b (by rw [q]; simp)
        subst e'
        rw [ha] at e; cases e
        have d' : Data.seq vs.toArray _ = Data.dict es ep := d
        cases d'
    have nsK : ∀ {b : Addr} {m : Str → Option Value}, s₁.heap.Ns b m → (hidT s₁.heap H).Ns b m := fun {b m} ⟨o, es, ep, e, d, r⟩ => ⟨o, es, ep, base_of e (noA e d), d, r⟩
    have hKb : K.In (hidT s₁.heap H) := fun b o e => base_of (KX b o e) (by
      cases q : H b with
      | none => rfl
      | some u =>
        have e' : b = a := hA b (by rw [q]; simp)
        subst e'
        rw [hK (by rw [q]; simp)] at e; cases e)
    have hM : Mod K mg (hidT s₁.heap H) := ⟨hKb, nsK hns, ⟨mb, nsK hb, hbb⟩, let ⟨mc, h1, h2⟩ := hlim; ⟨mc, nsK h1, h2⟩⟩
    have e0 : Env0 P w K mg (hidT s₁.heap H) callerA [] s₁ H := ⟨rfl, hM, fun b o e => of_hidT e, Nat.le_of_eq (hidT_size _ _), trivial, fun b hb => absurd (show b ∈ ([] : List Addr) from hb) (by simp), hok, .of_eq hg⟩
    refine codeAny_mono ((F _ hKb (nsK hns)).run callerA [] s₁ H ⟨[.ref a], []⟩ [.ref a] [.ref a] _ _ hr e0 (hbind s₁ (.ref a)) (.cons rfl .nil) (hsp H hO hS)) fun r s' h => ?_
    cases r with
    | error e => exact (hCX H e s' h).elim
    | ok fl =>
      cases fl with
      | next => exact False.elim h
      | brk => exact False.elim h
      | cont => exact False.elim h
      | ret u =>
        obtain ⟨v, H', os, bare, un, hok', r', q⟩ := h
        have q' : v = .bl true := q
        subst q'
        obtain rfl : u = Value.bool true := r'
        refine ⟨rfl, OldK.of_keep fun b o e => ?_, os, bare⟩
        cases q : H b with
        | none => exact un.keep b o e q (by intro z; exact absurd (show b ∈ ([] : List Addr) from z) (by simp)) (by simp)
        | some u =>
          rcases hO b with z | ⟨ob, xs, z⟩
          · rw [q] at z; cases z
          · have z2 := un.frzs b ob _ z
            obtain ⟨e1, _⟩ := hok b _ z
            obtain ⟨e2, _⟩ := hok' b _ z2
            rw [e] at e1; cases e1
            exact e2
  cases hk : K.lookup a with
  | some o =>
    -- the script is one of the module's own objects
    have e := KX a o hk
    rw [ha] at e
    cases e
    refine core (fun _ => none) (fun _ => .inl rfl) (.inr ⟨_, vs.toArray, _, hk, rfl, rfl, rfl, by rw [List.size_toArray, lenV]; exact hl, by simpa using rv⟩) (fun b u z => by have z' : (none : Option HO) = some u := z; cases z') (fun b z => absurd rfl z) fun z => absurd rfl z
  | none =>
    refine core (fun b => if b = a then some (.frz { cls := .type "list", data := .seq vs.toArray } (.lst (ns.map V.int))) else none) (fun b => ?_) (.inl (.inr ⟨{ cls := .type "list", data := .seq vs.toArray }, if_pos rfl⟩)) (fun b u z => ?_) (fun b z => ?_) fun _ => hk
    · by_cases hb : b = a
      · exact .inr ⟨_, _, if_pos hb⟩
      · exact .inl (if_neg hb)
    · by_cases hb : b = a
      · have z' := (if_pos hb).symm.trans z
        cases z'
        subst hb
        exact ⟨ha, by rw [List.length_map]; exact hl, vs, _, rv, ha⟩
      · have z' := (if_neg hb).symm.trans z
        cases z'
    · by_cases hb : b = a
      · exact hb
      · exact absurd (if_neg hb) z
end L2

namespace L2
open PySem PySem.Spec PyProof.Rows

abbrev KOf {K : PySem.W.Frag} {h : Heap} (_ : K.In h) : PySem.W.Frag := K

/-- the goal that k_head leaves (case hc), from the law's promise. F gives the function object fd (K's own) once, then the promise over every base -/
theorem walk_of {l : PySem.W.OpenLaw} {n k : Nat} {q : Program} {loose : List Str} {XP : (Str → Option Value) → Heap → Prop} {YP : World → Heap → Prop} {d : DefRec} {K : Params → PySem.W.Frag} {CX : World → CXT} {sp : World → Sp} {x : Str}
    (hn : l.most = some n) (hn2 : n ≤ sizeLine) (hdf : d.params.defaults = []) (hr : Room k callerA)
    (hY : ∀ (w : World) (h : Heap), YP w h → (K w.params).In h)
    (F : ∀ (w : World) (mg : Str → Option Value) (fa : Addr) (h : Heap), (K w.params).In h → h.Ns mainGlobals mg → mg d.name = some (.ref fa) →
      ∃ fd : FuncData, (∀ (s : Shared) (u : Value), BindsTo s fd ⟨[u], []⟩ [(x, u)]) ∧
        ∀ base : Heap, (K w.params).In base → base.Ns mainGlobals mg → FnOk l.prog w (K w.params) mg base (CX w) k fa fd [x] (sp w))
    (hsp : ∀ (w : World) (H : Hp) (a : Addr) (ns : List Int), ns.length ≤ n → Only H → SqL (K w.params) H a (ns.map V.int) → sp w [.ref a] H (fun v _ => v = .bl true) fun _ _ _ => False)
    (hCX : ∀ (w : World) (H : Hp) (s : Shared) (e : Value) (s' : Shared), CX w [] H s (fun _ _ _ => False) e s' → False) :
    PySem.W.WalkO q loose XP YP l.row.toRowW d [] (fun f vs => PySem.call f vs) := by
  refine Att.attach_call hn hdf fun w s₀ s₁ mg mb fa o pm cd doc a vs ns G Y ho hd hcd hmg hobj hints hlen hg => ?_
  have KX := hY w _ Y
  obtain ⟨fd, hb, hF⟩ := F w mg fa _ KX G.T.g hmg
  exact law_call KX G.T.g G.T.b G.T.builtins G.T.nolimit hg hobj hints (Nat.le_trans hlen hn2) hr hF hb (fun H hO hS => hsp w H a ns hlen hO hS) fun H e s' => hCX w H s₁ e s'
end L2

/- THE LAST THEOREM (shape; LID, My.* are yours):
   My.Adr: a structure of the addresses that your layer names (classes, functions); My.Txt K t: a structure (Prop) of the equations over K;
   My.txt_mk : {K} {implicit addresses ..} (e1 : nsIn K mainGlobals "law" = some (some (.ref f))) (e2 : K.lookup f = some ⟨oc, od, .func (fnOf "law" "law" params body scope dV kV doc pm an cdv ct), sl⟩) (e3 : codeIn K cdv "law" = true) .. : ∃ t, My.Txt K t

set_option maxRecDepth 100000 in
set_option maxHeartbeats 0 in
(the tactic k_is has no namespace: write k_is) -/

/-! SHORT WORDS over the layer: a def of the text, its body, what a loop and a test want. -/
namespace L2
open PySem PySem.Spec PyProof.Rows

/-! ### the text by places -/
/-- the j-th statement of a class's body -/
def inClass (s : Stmt) (j : Nat) : Stmt := match s with
  | .ClassDef _ _ _ body _ _ _ _ _ _ _ => body.getD j (.Pass ⟨0, 0, 0, 0⟩)
  | _ => .Pass ⟨0, 0, 0, 0⟩
def defArgs (s : Stmt) : Arguments := match s with
  | .FunctionDef _ a _ _ _ _ _ _ _ _ => a
  | _ => { posonlyargs := [], args := [], vararg := none, kwonlyargs := [], kw_defaults := [], kwarg := none, defaults := [] }
def defBody (s : Stmt) : List Stmt := match s with
  | .FunctionDef _ _ b _ _ _ _ _ _ _ => b
  | _ => []
def defScope (s : Stmt) : Scope := match s with
  | .FunctionDef _ _ _ _ _ _ sc _ _ _ => sc
  | _ => { kind := .function, names := [], isGenerator := false, isCoroutine := false }

/-! ### no exception leaves a def -/
abbrev CX0 : CXT := fun _ _ _ _ _ _ => False
abbrev E0 : XK := fun _ _ _ => False
theorem pass0 {X : Cx} : Passes CX0 X E0 := fun _ _ _ _ _ _ _ h => h.elim

/-! ### a def (or method) of the text as it stands behind the top -/
structure Fun (K : PySem.W.Frag) (x qual : Str) (st : Stmt) (f : Addr) (fd : FuncData) : Prop where
  ex : ∃ (oc : Value) (od : Option Addr) (kV doc pm : Value) (an : Option Addr) (cdv ct : Value) (osl : Array (Option Value)),
    fd = PySem.W.fnOf x qual (defArgs st) (defBody st) (defScope st) .none kV doc pm an cdv ct ∧ K.lookup f = some ⟨oc, od, .func fd, osl⟩ ∧ PySem.W.codeIn K cdv qual = true
  kp : PySem.W.keepIn K (.ref f) = true
section
variable {P : Program} {w : World} {K : PySem.W.Frag} {mg : Str → Option Value} {base : Heap}
/-- THE RULE for a def: its body as a term of rules, and the reading of that term -/
theorem Fun.ok {x qual : Str} {st : Stmt} {f : Addr} {fd : FuncData} {N ps : List Str} {k : Nat} {sp : Sp} (F : Fun K x qual st f fd) (S : FnScope N ps (defScope st)) (len : ∀ vs H Q E, sp vs H Q E → vs.length = ps.length)
    (hbody : ∀ (cdv : Value) (A : Around) (outer : List Env) (s : Shared) (H : Hp) (vs : List V) (Q : VK) (E : XK), Room k (A.deeper (envOfC qual (defScope st) s.heap.objs.size f cdv)) → sp vs H Q E →
      ∃ t, PSs (cxOf CX0 P w K mg base N qual (defScope st) f cdv A outer s H E).nox (defBody st) t ∧ t { nx := fun _ H' => Q .non H', rt := Q } (start N vs) H) : FnOk P w K mg base CX0 (k + 1) f fd ps sp := by
  obtain ⟨oc, od, kV, doc, pm, an, cdv, ct, osl, rfl, lk, hcd⟩ := F.ex
  refine fn_of lk hcd S len fun A outer s H vs Q E hr hsp => ?_
  obtain ⟨t, h, q⟩ := hbody cdv A outer s H vs Q E hr hsp
  exact ⟨t, h.nox, q⟩
theorem fun_mk {x qual : Str} {st : Stmt} {f : Addr} {oc : Value} {od an : Option Addr} {osl : Array (Option Value)} {kV doc pm cdv ct : Value} (l : K.lookup f = some ⟨oc, od, .func (PySem.W.fnOf x qual (defArgs st) (defBody st) (defScope st) .none kV doc pm an cdv ct), osl⟩)
    (c : PySem.W.codeIn K cdv qual = true) (k : PySem.W.keepIn K (.ref f) = true) : Fun K x qual st f (PySem.W.fnOf x qual (defArgs st) (defBody st) (defScope st) .none kV doc pm an cdv ct) := ⟨⟨oc, od, kV, doc, pm, an, cdv, ct, osl, rfl, l, c⟩, k⟩
end
theorem hu_of {A : Around} {k : Nat} (hr : Room k A) : A.units + 1 < cLine := Nat.lt_of_le_of_lt (Nat.add_le_add_left (by decide : 1 ≤ 64) _) hr.units
theorem small1000 {n : Nat} (h : n ≤ 1000) : n < sizeLine := Nat.lt_of_le_of_lt h (by decide)

/-! ### expressions in short: the name that stands in the i-th slot -/
section
variable {X : Cx}
theorem pv (i : Nat) {x : Str} {pos : Pos} (hN : X.N[i]? = some x := by rfl) (hv : Vis X.env.scope x := by first | exact Or.inl rfl | exact Or.inr (Or.inl rfl) | exact Or.inr (Or.inr rfl)) (hd : (x == ("__debug__" : Str)) = false := by decide)
    (hcd : (x == ("__classdict__" : Str)) = false := by decide) : PE X (.Name x pos) (tVar i) := pe_var hN hv hd hcd
end

/-! ### tests -/
theorem iteF {A B : Prop} (h : B) : if false = true then A else B := by
  rw [if_neg Bool.false_ne_true]
  exact h
theorem iteT {A B : Prop} (h : A) : if true = true then A else B := by
  rw [if_pos rfl]
  exact h
theorem ite2 {c A B : Prop} [Decidable c] (h1 : c → A) (h2 : ¬ c → B) : if c then A else B := by
  by_cases h : c
  · rw [if_pos h]
    exact h1 h
  · rw [if_neg h]
    exact h2 h
/-! ### heaps -/
/-- all that was tracked is as it was -/
def Same (H H' : Hp) : Prop := ∀ b o, H b = some o → H' b = some o
theorem Same.refl (H : Hp) : Same H H := fun _ _ h => h
theorem Same.trans {H H1 H2 : Hp} (a : Same H H1) (b : Same H1 H2) : Same H H2 := fun c o h => b c o (a c o h)
theorem Same.free {H H' : Hp} (e : Same H H') {l : Addr} (h : H' l = Option.none) : H l = Option.none := by
  cases q : H l with
  | none => rfl
  | some o =>
    rw [e l o q] at h
    cases h
theorem Same.seq {K : PySem.W.Frag} {H H' : Hp} {a : Addr} {xs : List V} (e : Same H H') (h : SqL K H a xs) : SqL K H' a xs := by
  rcases h with (h | ⟨o, h⟩) | h
  · exact .inl (.inl (e _ _ h))
  · exact .inl (.inr ⟨o, e _ _ h⟩)
  · exact .inr h

end L2

set_option Elab.async false
set_option linter.all false
set_option maxRecDepth 100000
/-! a list comprehension of one clause, over the hand layer -/
namespace L2
open PySem PySem.Spec PyProof.Rows

/-- every pair of the block's cells is one of the frame's -/
def AllLk (cells : List (Str × Addr)) : List (Str × Addr) → Prop
  | [] => True
  | p :: r => cells.lookup p.1 = some p.2 ∧ AllLk cells r
theorem AllLk.of {cells : List (Str × Addr)} : ∀ {cl : List (Str × Addr)}, AllLk cells cl → ∀ x c, cl.lookup x = some c → cells.lookup x = some c
  | [], _, x, c, h => by cases h
  | (y, d) :: r, hl, x, c, h => by
    rw [List.lookup_cons] at h
    cases hx : x == y with
    | true =>
      rw [hx] at h
      have e : x = y := by simpa using hx
      subst e
      cases h
      exact hl.1
    | false =>
      rw [hx] at h
      exact AllLk.of hl.2 x c h

/-- the block's context -/
def blk (X : Cx) (NB : List Str) (sc : Scope) (cl : List (Str × Addr)) (s₃ : Shared) (H₃ : Hp) (fp : List Addr) : Cx :=
  { X with N := NB, s₀ := s₃, H₀ := H₃, env := compEnvC sc cl s₃.heap.objs.size X.env, outer := X.stack, stack := X.stack, ex := fp, fn := fun _ => false, pn := [], xe := fun _ _ => False }

/-- what of the text a block must have: its scope, what it closes over, and which slot of the frame each of its names is (none: its own) -/
structure Blk (X : Cx) (NB : List Str) (pick : List (Option Nat)) (sc : Scope) (cl : List (Str × Addr)) : Prop where
  clos : closureFor sc X.env = pure cl
  kind : sc.kind = .function
  nocell : ∀ y ∈ sc.names, y.2 ≠ .cell
  names : ∀ y ∈ sc.names, y.2 = .local → sc.names.lookup y.1 = some .local
  sub : AllLk X.env.cells cl
  has : ∀ x, ((relabel sc X.env).names.lookup x = some .cell ∨ (relabel sc X.env).names.lookup x = some .free) → ∃ c, cl.lookup x = some c
  len : pick.length = NB.length
  got : ∀ (j i : Nat) (x : Str), pick[j]? = some (some i) → NB[j]? = some x → X.N[i]? = some x ∧ (X.env.kindOf x = some .cell ∨ X.env.kindOf x = some .free) ∧ (relabel sc X.env).names.lookup x = some .cell

def hasB (cl : List (Str × Addr)) (L : List (Str × NameKind)) : Bool := L.all fun p => !(p.2 == .cell || p.2 == .free) || (cl.lookup p.1).isSome
theorem hasB_of {cl : List (Str × Addr)} {L : List (Str × NameKind)} (h : hasB cl L = true) (x : Str) (hx : L.lookup x = some .cell ∨ L.lookup x = some .free) : ∃ c, cl.lookup x = some c := by
  have get : ∀ k, L.lookup x = some k → (k == NameKind.cell || k == NameKind.free) = true → ∃ c, cl.lookup x = some c := fun k hk hb => by
    have z := List.all_eq_true.mp h (x, k) (PySem.mem_of_lookup hk)
    dsimp only at z
    rw [hb] at z
    exact Option.isSome_iff_exists.mp z
  rcases hx with hx | hx
  · exact get _ hx rfl
  · exact get _ hx rfl
def gotB (N : List Str) (k1 k2 : List (Str × NameKind)) : List (Option Nat) → List Str → Bool
  | some i :: p, x :: r => decide (N[i]? = some x) && (decide (k1.lookup x = some .cell) || decide (k1.lookup x = some .free)) && decide (k2.lookup x = some .cell) && gotB N k1 k2 p r
  | none :: p, _ :: r => gotB N k1 k2 p r
  | [], [] => true
  | _, _ => false
theorem gotB_len {N : List Str} {k1 k2 : List (Str × NameKind)} : ∀ {p : List (Option Nat)} {r : List Str}, gotB N k1 k2 p r = true → p.length = r.length
  | [], [], _ => rfl
  | [], _ :: _, h => by cases h
  | none :: _, [], h => by cases h
  | some _ :: _, [], h => by cases h
  | none :: p, _ :: r, h => congrArg Nat.succ (gotB_len (p := p) (r := r) h)
  | some i :: p, x :: r, h => by
    have h' : (decide (N[i]? = some x) && (decide (k1.lookup x = some .cell) || decide (k1.lookup x = some .free)) && decide (k2.lookup x = some .cell) && gotB N k1 k2 p r) = true := h
    rw [Bool.and_eq_true] at h'
    exact congrArg Nat.succ (gotB_len h'.2)
theorem gotB_of {N : List Str} {k1 k2 : List (Str × NameKind)} : ∀ {p : List (Option Nat)} {r : List Str}, gotB N k1 k2 p r = true → ∀ (j i : Nat) (x : Str), p[j]? = some (some i) → r[j]? = some x →
    N[i]? = some x ∧ (k1.lookup x = some .cell ∨ k1.lookup x = some .free) ∧ k2.lookup x = some .cell
  | [], _, _, j, i, x, h1, _ => by simp at h1
  | none :: _, [], h, _, _, _, _, _ => by cases h
  | some _ :: _, [], h, _, _, _, _, _ => by cases h
  | none :: p, _ :: r, h, j, i, x, h1, h2 => by
    cases j with
    | zero => simp at h1
    | succ j => exact gotB_of (p := p) (r := r) h j i x (by simpa using h1) (by simpa using h2)
  | some i' :: p, x' :: r, h, j, i, x, h1, h2 => by
    have h' : (decide (N[i']? = some x') && (decide (k1.lookup x' = some .cell) || decide (k1.lookup x' = some .free)) && decide (k2.lookup x' = some .cell) && gotB N k1 k2 p r) = true := h
    rw [Bool.and_eq_true, Bool.and_eq_true, Bool.and_eq_true, Bool.or_eq_true] at h'
    obtain ⟨⟨⟨a, b⟩, c⟩, d⟩ := h'
    cases j with
    | zero =>
      simp at h1 h2
      subst h1 h2
      exact ⟨of_decide_eq_true a, b.elim (fun z => .inl (of_decide_eq_true z)) fun z => .inr (of_decide_eq_true z), of_decide_eq_true c⟩
    | succ j => exact gotB_of d j i x (by simpa using h1) (by simpa using h2)
theorem blk_mk {X : Cx} {NB : List Str} {pick : List (Option Nat)} {sc : Scope} {cl : List (Str × Addr)} (clos : closureFor sc X.env = pure cl) (sub : AllLk X.env.cells cl) (kind : sc.kind = .function) (nocell : ∀ y ∈ sc.names, y.2 ≠ .cell)
    (names : ∀ y ∈ sc.names, y.2 = .local → sc.names.lookup y.1 = some .local) (has : hasB cl (relabel sc X.env).names = true) (got : gotB X.N X.env.scope.names (relabel sc X.env).names pick NB = true) : Blk X NB pick sc cl :=
  ⟨clos, kind, nocell, names, sub, hasB_of has, gotB_len got, fun j i x h1 h2 => gotB_of got j i x h1 h2⟩

def pickσ (pick : List (Option Nat)) (σ : St) : St := pick.map fun o => o.bind fun i => (σ[i]?).join

section
variable {X : Cx} {NB : List Str} {pick : List (Option Nat)} {sc : Scope} {cl : List (Str × Addr)} {pins : List (Addr × Obj)} {σ : St} {H : Hp} {s : Shared} {fp : List Addr}

theorem blk_ok (I : Inv X pins σ H s) (B : Blk X NB pick sc cl) (hf : ∀ b ∈ fp, FpOk X pins H b) (hex : ∀ b ∈ fp, ∃ o, s.heap.get? b = some o) : (blk X NB sc cl s H fp).Ok := by
  have nfs : ∀ b ∈ fp, b ∉ frs X.stack := fun b hb z => by
    rcases List.mem_cons.mp (I.stkSub b z) with e | e
    · exact (hf b hb).2.1 e
    · exact (hf b hb).2.2.1 e
  refine ⟨I.ok.mod, B.kind, I.ok.glob, I.ok.blt, Nat.le_refl _, fun x y c h1 h2 => ?_, fun x hx => B.has x hx, fun x c h _ => (Bool.false_ne_true h).elim, I.ok.hd, I.ok.frames, .inl rfl, fun b hb => ⟨?_, fun x c h e => ?_⟩, I.bs, Nat.le_trans I.ok.bsz I.sz, fun b o e hb => ?_, nfs, I.stack, I.stkFree⟩
  · exact I.ok.inj x y c (B.sub.of x c h1) (B.sub.of y c h2)
  · obtain ⟨o, ho⟩ := hex b hb
    exact Nat.ne_of_lt (Heap.lt_size ho)
  · exact (hf b hb).2.2.2.2.1 x c (B.sub.of x c h) e
  · rcases (hf b hb).2.2.2.1 with z | z
    · exact I.ok.noex b o e z
    · exact absurd (Nat.lt_of_lt_of_le (Heap.lt_size (I.ok.bs b o e).1) z) (Nat.lt_irrefl _)

theorem blk_start {h' : Heap} (I : Inv X pins σ H s) (B : Blk X NB pick sc cl) (hf : ∀ b ∈ fp, FpOk X pins H b) (hex : ∀ b ∈ fp, ∃ o, s.heap.get? b = some o)
    (hn : h'.Ns s.heap.objs.size (fun _ => none)) (hs : ∀ b o, s.heap.get? b = some o → h'.get? b = some o) (t : Nat) : Inv (blk X NB sc cl s H fp) [] (pickσ pick σ) H { s with heap := h', toks := t } := by
  refine ⟨blk_ok I B hf hex, rfl, I.bare, Un.kept hs, ⟨_, hn, fun j x v h1 h2 h3 => ?_⟩, fun x c e => ?_, I.hok.fresh (Nat.le_refl _), fun x c e => I.freeC x c (B.sub.of x c e), fun p hp => absurd (show p ∈ ([] : List (Addr × Obj)) from hp) (by simp), I.hok.kept hs, ?_⟩
  · have h2' : (pick.map fun o => o.bind fun i => (σ[i]?).join)[j]? = some (some v) := h2
    rw [List.getElem?_map] at h2'
    cases hp : pick[j]? with
    | none => rw [hp] at h2'; cases h2'
    | some o =>
      rw [hp] at h2'
      cases o with
      | none => cases h2'
      | some i =>
        have h2'' : (σ[i]?).join = some v := Option.some.inj h2'
        obtain ⟨g1, g2, g3⟩ := B.got j i x hp h1
        have hσ : σ[i]? = some (some v) := by
          cases hq : σ[i]? with
          | none => rw [hq] at h2''; cases h2''
          | some z => rw [hq] at h2''; have e : z = some v := h2''; rw [e]
        obtain ⟨m, _, hl⟩ := I.loc
        obtain ⟨u, r, L⟩ := hl i x v g1 hσ (.inr g2)
        refine ⟨u, r, ?_⟩
        rcases L with ⟨k, _⟩ | ⟨_, c, hc, ⟨o, ho, hd⟩⟩
        · rcases g2 with g2 | g2 <;> rw [k] at g2 <;> cases g2
        · obtain ⟨c', hc'⟩ := B.has x (.inl g3)
          have e : c' = c := Option.some.inj ((B.sub.of x c' hc').symm.trans hc)
          subst e
          exact .inr ⟨.inl g3, c', hc', o, hs _ _ ho, hd⟩
  · obtain ⟨v, o, ho, hd⟩ := I.cell x c (B.sub.of x c e)
    exact ⟨v, o, hs _ _ ho, hd⟩
  · show (pickσ pick σ).length = NB.length
    unfold pickσ
    rw [List.length_map]
    exact B.len

/-- behind the block: the frame's own state again -/
theorem blk_end {σ' : St} {H' : Hp} {s' : Shared} (I : Inv X pins σ H s) (hf : ∀ b ∈ fp, FpOk X pins H b) (J : Inv (blk X NB sc cl s H fp) [] σ' H' s') : Inv X pins σ H' s' := by
  refine I.call' (ch := fp) J.os J.base J.hok J.bare fun b hb => ?_
  obtain ⟨_, f1, _, f3, f4, f5⟩ := hf b hb
  exact ⟨f3, f1, f4, f5⟩
end

/-- the reading: W the invariant of the block by the turn and a measure; D where the new list stands -/
def tComp (wi : TI) (pick : List (Option Nat)) (g : TG) (c : TT) (te : TE) : St → Hp → (Addr → Hp → Prop) → Prop := fun σ H Q =>
  wi σ H fun J H1 => ∀ D, H1 D = none → ∃ W : Nat → Nat → St → Hp → Prop, (∃ m, W 0 m (pickσ pick σ) (upd H1 D (.lst []))) ∧ ∀ i m σ1 H2, W i m σ1 H2 →
    (J.stop i H2 ∧ Q D H2) ∨ (J.go i H2 ∧ ∃ N : St → Hp → Prop, (∀ σ' H', N σ' H' → ∃ m', m' < m ∧ W (i + 1) m' σ' H') ∧
      ∀ x H', J.yld i H2 x H' → g x σ1 H' fun σ2 H3 => c σ2 H3 fun b H4 => if b = true then te σ2 H4 fun y H5 => ∃ xs, H5 D = some (.lst xs) ∧ xs.length < sizeLine ∧ N σ2 (upd H5 D (.lst (xs ++ [y]))) else N σ2 H4)

section
variable {prog : Program} {w : World} {A : Around} {R : Result → Shared → Prop} {s : Shared}
/-- a turn of the block, whatever the target -/
theorem compLoop_any {elt target iter : Expr} {ifs : List Expr} {scope : Scope} {pos : Pos} {it acc : Value} {env : Env} (W : Nat → Shared → Prop)
    (turn : ∀ n s, W n s → wpAny (model prog w) A (pyNext it) (fun r s₁ => match r with
      | none => R (.ok .next) s₁
      | some v => wpAny (model prog w) A (letOwnedTupleGo target it v) (fun _ s₀ => wpAny (model prog w) A (assign target env v) (fun _ s₂ =>
          wpAny (model prog w) A (forIn ifs true fun c r => if r = true then do let ok ← isTrue c env (eval c env); pure (ForInStep.yield ok) else pure (ForInStep.yield r)) (fun ok s₃ =>
            if ok = true then wpAny (model prog w) A (eval elt env) (fun x s₄ =>
              wpAny (model prog w) A (call (.builtin "list.append") [acc, x]) (fun _ s₅ => ∃ m, m < n ∧ W m s₅) (fun _ _ => False) s₄) (fun _ _ => False) s₃
            else ∃ m, m < n ∧ W m s₃) (fun _ _ => False) s₂) (fun _ _ => False) s₀) (fun _ _ => False) s₁) (fun _ _ => False) s)
    (n : Nat) (h : W n s) :
    codeAny (model prog w) A (.compLoop (.ListComp elt [⟨target, iter, ifs, 0⟩] scope pos) 0 it acc env) R s := by
  refine codeAny_loop rfl W (fun n s hI => ?_) n h
  show wpAny _ A ((compTurn (.ListComp elt [⟨target, iter, ifs, 0⟩] scope pos) 0 it acc env).onRaise (fun x => do noteFrame x env; theTreesLotGoes x)) _ _ s
  refine wpAny_noted (wpAny_noRaise ?_)
  rw [compTurn_list]
  refine wpAny_bind (wpAny_standAt (wpAny_bind (thn (turn n s hI) fun r s₁ h₁ => ?_)))
  cases r with
  | none => exact wpAny_pure h₁
  | some v =>
    refine wpAny_bind (thn h₁ fun _ s₀ h₀ => wpAny_bind (thn h₀ fun _ s₂ h₂ => wpAny_bind (thn h₂ fun ok s₃ h₃ => ?_)))
    cases ok with
    | false => exact wpAny_pure ⟨rfl, h₃⟩
    | true => exact wpAny_bind (wpAny_bind (thn h₃ fun x s₄ h₄ => wpAny_bind (thn h₄ fun _ s₅ h₅ => wpAny_pure (wpAny_pure ⟨rfl, h₅⟩))))
end

/-- the tests of a clause: none or one -/
def PIfs (X : Cx) (ifs : List Expr) (c : TT) : Prop :=
  ∀ (pins : List (Addr × Obj)) (s : Shared) (σ : St) (H : Hp) (Q : Bool → Hp → Prop), Inv X pins σ H s → c σ H Q →
    wpAny (model X.prog X.w) X.A (forIn ifs true fun c r => if r = true then do let ok ← isTrue c X.env (eval c X.env); pure (ForInStep.yield ok) else pure (ForInStep.yield r)) (TP X pins σ Q) X.xe s
def tYes : TT := fun _ H Q => Q true H
theorem pif_nil {X : Cx} : PIfs X [] tYes := fun pins s σ H Q I h => wpAny_pure ⟨H, I, h⟩
theorem pif_one {X : Cx} {e : Expr} {c : TT} (hc : PT X e c) : PIfs X [e] c := fun pins s σ H Q I h => wpAny_tests_one (hc pins s σ H Q I h)

section
variable {X : Cx} {NB : List Str} {pick : List (Option Nat)} {sc : Scope} {cl : List (Str × Addr)} {elt target iter : Expr} {ifs : List Expr} {pos : Pos} {wi : TI} {g : TG} {c : TT} {te : TE}

/-- the block, run; use: what is done with the new list ahead of the block's end -/
theorem comp_run {pins : List (Addr × Obj)} {s : Shared} {σ : St} {H : Hp} {use : Option (Value → Sem Unit)} {Q : Addr → Hp → Prop} {QV : Value → Shared → Prop} (B : Blk X NB pick sc cl) (hc : X.calm = true) (hi : PI X target iter wi)
    (hg : ∀ s₃ H₃ fp, PG (blk X NB sc cl s₃ H₃ fp) target g) (ht : ∀ s₃ H₃ fp, PIfs (blk X NB sc cl s₃ H₃ fp) ifs c) (he : ∀ s₃ H₃ fp, PE (blk X NB sc cl s₃ H₃ fp) elt te)
    (hs : ∀ x, foldedSetIterable iter X.env x = pure x) (I : Inv X pins σ H s) (h : tComp wi pick g c te σ H Q)
    (fin : ∀ (D C : Addr) (s' : Shared) (H' : Hp), Inv X pins σ H' s' → Q D H' → H' C = none → C ≠ X.env.locals → X.s₀.heap.objs.size ≤ C → (∀ x a, X.env.cells.lookup x = some a → a ≠ C) → (∀ p ∈ X.pn ++ pins, p.1 ≠ C) → (∃ m, s'.heap.Ns C m) →
      compPost (model X.prog X.w) X.A X.xe use QV (.ref D) C (.ok .next) s') :
    wpAny (model X.prog X.w) X.A (comprehension (.ListComp elt [⟨target, iter, ifs, 0⟩] sc pos) sc X.env (firstIterPos [⟨target, iter, ifs, 0⟩] pos) (newList []) false (eval iter X.env) use) QV X.xe s := by
  refine wpAny_comprehension_free rfl hs B.clos B.kind B.names (thn (hi pins s σ H _ I h) fun v s1 h1 => thn h1 fun itv s2 h2 => ?_)
  obtain ⟨it, fp, tn, J, H2, e, I2, T, st2, f2, h2⟩ := h2
  subst e
  refine wpAny_newObj_type ?_
  have I3 : Inv X pins σ (upd H2 s2.heap.objs.size (.lst [])) { s2 with heap := s2.heap.push { cls := .type "list", dict := none, data := .seq ([] : List Value).toArray } } :=
    I2.laid (t' := s2.toks) (fun b u e => Heap.get?_push_of_some _ e) (Nat.le_refl _) ⟨Nat.zero_le _, [], 0, .nil, Heap.get?_push_size _ rfl⟩
  have hf : H2 s2.heap.objs.size = none := I2.hok.fresh (Nat.le_refl _)
  have lt : ∀ b ∈ fp, b ≠ s2.heap.objs.size := fun b hb => by
    obtain ⟨o, ho, _⟩ := T.obj _ _ st2 b hb
    exact Nat.ne_of_lt (Heap.lt_size ho)
  have f3 : ∀ b ∈ fp, FpOk X pins (upd H2 s2.heap.objs.size (.lst [])) b := fun b hb => ⟨by rw [upd_ne (lt b hb)]; exact (f2 b hb).1, (f2 b hb).2⟩
  generalize hs3 : ({ s2 with heap := s2.heap.push { cls := .type "list", dict := none, data := .seq ([] : List Value).toArray } } : Shared) = s3 at I3 ⊢
  have kp3 : ∀ b o, s2.heap.get? b = some o → s3.heap.get? b = some o := fun b o e => by
    rw [← hs3]
    exact Heap.get?_push_of_some _ e
  have hex : ∀ b ∈ fp, ∃ o, s3.heap.get? b = some o := fun b hb => by
    obtain ⟨o, ho, _⟩ := T.obj _ _ st2 b hb
    exact ⟨o, kp3 b o ho⟩
  have st3 : tn 0 s3.heap := T.keep _ _ _ st2 fun b _ o e => kp3 b o e
  obtain ⟨W, ⟨m0, w0⟩, turn⟩ := h2 _ hf
  refine wpAny_newFunctionEnv B.nocell (by intro y hy; simp at hy) (fun h₁ hns₁ hsb₁ => ?_) B.kind
  have kp4 : ∀ b o, s3.heap.get? b = some o → h₁.get? b = some o := fun b o e => (hsb₁.2 b (Nat.ne_of_lt (Heap.lt_size e))).trans (Heap.get?_push_of_some _ e)
  have J4 := blk_start I3 B f3 hex hns₁ kp4 (s3.toks + ([] : List (Str × Value)).length)
  have st4 : tn 0 h₁ := T.keep _ _ _ st3 fun b _ o e => kp4 b o e
  have stat : ∀ {H' : Hp}, (∀ b ∈ fp, H' b = none) → ∀ b ∈ fp, FpOk (blk X NB sc cl s3 (upd H2 s2.heap.objs.size (.lst [])) fp) [] H' b := fun {H'} hn b hb => by
    obtain ⟨o, ho⟩ := hex b hb
    refine ⟨hn b hb, Nat.ne_of_lt (Heap.lt_size ho), fun z => ?_, .inl hb, fun x a e => (f2 b hb).2.2.2.2.1 x a (B.sub.of x a e), fun p hp => absurd (show p ∈ ([] : List (Addr × Obj)) from hp) (by simp)⟩
    rcases List.mem_cons.mp (I2.stkSub b z) with e | e
    · exact (f2 b hb).2.1 e
    · exact (f2 b hb).2.2.1 e
  have loop : codeAny (model X.prog X.w) X.A (.compLoop (.ListComp elt [⟨target, iter, ifs, 0⟩] sc pos) 0 (.ref it) (.ref s2.heap.objs.size) (blk X NB sc cl s3 (upd H2 s2.heap.objs.size (.lst [])) fp).env)
      (compPost (model X.prog X.w) X.A X.xe use QV (.ref s2.heap.objs.size) s3.heap.objs.size) { s3 with heap := h₁, toks := s3.toks + ([] : List (Str × Value)).length } := by
    refine compLoop_any (fun n s' => ∃ i σ' H', Inv (blk X NB sc cl s3 (upd H2 s2.heap.objs.size (.lst [])) fp) [] σ' H' s' ∧ tn i s'.heap ∧ (∀ b ∈ fp, H' b = none) ∧ W i n σ' H') ?_ m0 ⟨0, _, _, J4, st4, fun b hb => (f3 b hb).1, w0⟩
    rintro n s5 ⟨i, σ5, H5, I5, st5, fr5, w5⟩
    rcases turn i n σ5 H5 w5 with ⟨stop, qn⟩ | ⟨go, N, hN, step⟩
    · refine thn (T.done (blk X NB sc cl s3 (upd H2 s2.heap.objs.size (.lst [])) fp) rfl rfl rfl hc i [] s5 σ5 H5 _ I5 (stat fr5) st5 stop) fun r s6 ⟨hr, I6⟩ => ?_
      subst hr
      refine fin s2.heap.objs.size s3.heap.objs.size s6 H5 (blk_end I3 f3 I6) qn I6.free (Nat.ne_of_lt I3.lt).symm I3.sz (fun x a e => ?_) (fun p hp => ?_) ?_
      · obtain ⟨v, o, ho, _⟩ := I3.cell x a e
        exact Nat.ne_of_lt (Heap.lt_size ho)
      · exact Nat.ne_of_lt (Heap.lt_size (I3.pin p hp).1)
      · obtain ⟨m, hn, _⟩ := I6.loc
        exact ⟨m, hn⟩
    · refine thn (T.item (blk X NB sc cl s3 (upd H2 s2.heap.objs.size (.lst [])) fp) rfl rfl rfl hc i [] s5 σ5 H5 _ I5 (stat fr5) st5 go) fun r s6 ⟨u, hr, h6⟩ => ?_
      subst hr
      refine thn h6 fun _ s7 ⟨x, H7, I7, r7, y7, st7, fr7⟩ => ?_
      have I7' := I7.pinned (stat fr7) (T.obj _ _ st7)
      have again : ∀ {s9 : Shared} {σ9 : St} {H9 : Hp}, Inv (blk X NB sc cl s3 (upd H2 s2.heap.objs.size (.lst [])) fp) ([] ++ pinsAt fp s7.heap) σ9 H9 s9 → N σ9 H9 →
          ∃ m, m < n ∧ ∃ i σ' H', Inv (blk X NB sc cl s3 (upd H2 s2.heap.objs.size (.lst [])) fp) [] σ' H' s9 ∧ tn i s9.heap ∧ (∀ b ∈ fp, H' b = none) ∧ W i m σ' H' := fun {s9 σ9 H9} I9 n9 => by
        obtain ⟨m', hm, w9⟩ := hN σ9 H9 n9
        refine ⟨m', hm, i + 1, σ9, H9, I9.unpinned, T.keep _ _ _ st7 fun b hb o e => (I9.pin (b, o) (List.mem_append_right _ (List.mem_append_right _ (mem_pinsAt hb e)))).1, fun b hb => ?_, w9⟩
        obtain ⟨o, e, d⟩ := T.obj _ _ st7 b hb
        exact (I9.pin (b, o) (List.mem_append_right _ (List.mem_append_right _ (mem_pinsAt hb e)))).2.1
      refine thn (hg _ _ _ _ s7 σ5 H7 x u _ I7' r7 (step x H7 y7)) fun _ s8 ⟨σ8, H8, I8, q8⟩ => ?_
      refine thn (ht _ _ _ _ s8 σ8 H8 _ I8 q8) fun b s9 ⟨H9, I9, q9⟩ => ?_
      cases b with
      | false =>
        rw [if_neg Bool.false_ne_true]
        exact again I9 (by rw [if_neg Bool.false_ne_true] at q9; exact q9)
      | true =>
        rw [if_pos rfl] at q9 ⊢
        refine thn (he _ _ _ _ s9 σ8 H9 _ I9 q9) fun y s10 ⟨vy, H10, I10, r10, xs, hD, hl, q10⟩ => ?_
        refine thn (mt_append _ s10 σ8 H10 (.ref s2.heap.objs.size) [vy] (.ref s2.heap.objs.size) [y] (fun _ H' => N σ8 H') I10 rfl (.cons r10 .nil) ⟨_, xs, vy, rfl, rfl, hD, hl, q10⟩) fun _ s11 ⟨_, H11, I11, _, q11⟩ => ?_
        exact again I11 q11
  refine codeAny_compStart_list loop (T.self _ 0 _ _ _ st4 loop)

/-- [elt for target in iter if ..] -/
theorem pe_comp (B : Blk X NB pick sc cl) (hc : X.calm = true) (hi : PI X target iter wi)
    (hg : ∀ s₃ H₃ fp, PG (blk X NB sc cl s₃ H₃ fp) target g) (ht : ∀ s₃ H₃ fp, PIfs (blk X NB sc cl s₃ H₃ fp) ifs c) (he : ∀ s₃ H₃ fp, PE (blk X NB sc cl s₃ H₃ fp) elt te)
    (hs : ∀ x, foldedSetIterable iter X.env x = pure x := by intro _; rfl) : PE X (.ListComp elt [⟨target, iter, ifs, 0⟩] sc pos) (fun σ H Q => tComp wi pick g c te σ H fun D H' => Q (.ref D) H') := by
  intro pins s σ H Q I h
  rw [eval_ListComp]
  refine comp_run (use := none) (QV := EP X pins σ Q) B hc hi hg ht he hs I h fun D C s' H' I' q c0 c1 c2 c3 c4 hn => ?_
  obtain ⟨m, hm⟩ := hn
  exact ⟨m, hm, fun hh hsb => ⟨.ref D, H', I'.turned (t' := s'.toks) (fun b o hb e => (hsb.2 b hb).trans e) c0 c1 (.inr c2) c3 c4, rfl, q⟩⟩

/-- name = [..], on one line: the name is stored ahead of the block's end -/
theorem ps_setC {i : Nat} {x : Str} {pos' spos : Pos} (hN : X.N.Nodup) (hx1 : X.N[i]? = some x) (hx2 : Loc X.env.scope x)
    (hsw : swapsWith (.ListComp elt [⟨target, iter, ifs, 0⟩] sc pos) (some (.Name x pos')) spos.line X.env = pure true) (B : Blk X NB pick sc cl) (hc : X.calm = true) (hi : PI X target iter wi)
    (hg : ∀ s₃ H₃ fp, PG (blk X NB sc cl s₃ H₃ fp) target g) (ht : ∀ s₃ H₃ fp, PIfs (blk X NB sc cl s₃ H₃ fp) ifs c) (he : ∀ s₃ H₃ fp, PE (blk X NB sc cl s₃ H₃ fp) elt te)
    (hs : ∀ x, foldedSetIterable iter X.env x = pure x := by intro _; rfl) (hfn : X.fn x = true ∨ X.env.scope.names.lookup x = some .local := by first | exact .inl rfl | exact .inr rfl | assumption) :
    PS X (.Assign [.Name x pos'] (.ListComp elt [⟨target, iter, ifs, 0⟩] sc pos) spos) (fun D σ H => tComp wi pick g c te σ H fun l H' => D.nx (σ.set i (some (.ref l))) H') := by
  intro pins s σ H D I h
  rw [exec_Assign_Name_used _ _ _ _ hsw]
  refine wpAny_bind (wpAny_standAt (wpAny_bind ?_))
  show wpAny _ _ (do let _ ← comprehension (.ListComp elt [⟨target, iter, ifs, 0⟩] sc pos) sc X.env _ (newList []) false (eval iter X.env) (some (assign (.Name x pos') X.env))) _ _ s
  refine wpAny_bind (thn (comp_run (use := some (assign (.Name x pos') X.env)) (QV := fun _ s' => SP X pins D .next s') B hc hi hg ht he hs I h fun l C s' H' I' q c0 c1 c2 c3 c4 hn => ?_) fun _ s' hq => wpAny_pure (wpAny_pure hq))
  obtain ⟨m, hm⟩ := hn
  show wpAny _ _ (assign (.Name x pos') X.env (.ref l)) _ _ _
  refine wpAny_assign_Name (store_ok2 (v := .ref l) I' hN hx1 hx2 rfl (fun s'' I'' ⟨a, hsb, ha⟩ => ?_) hfn)
  have ne : C ≠ a := by
    rcases ha with e | e
    · rw [e]; exact c1
    · exact (c3 x a e).symm
  refine ⟨m, hm.sameBut hsb ne, fun hh hsb2 => ?_⟩
  exact ⟨_, H', I''.turned (t' := s''.toks) (fun b o hb e => (hsb2.2 b hb).trans e) c0 c1 (.inr c2) c3 c4, q⟩
end
end L2

set_option Elab.async false
set_option linter.all false
set_option maxRecDepth 100000
/-! errors of the program's own, over the hand layer: raised, passed on, caught, asked for their class -/
namespace L2
open PySem PySem.Spec PyProof.Rows

theorem ObjOk.there {P : Program} {w : World} {H : Hp} {h : Heap} {a : Addr} {o : HO} (x : ObjOk P w H h a o) : ∃ ob, h.get? a = some ob := by
  induction o with
  | lst xs => obtain ⟨_, _, _, _, e⟩ := x; exact ⟨_, e⟩
  | tup xs => obtain ⟨_, _, _, ob, e, _⟩ := x; exact ⟨ob, e⟩
  | dK kvs => obtain ⟨_, _, _, _, ob, _, _, e, _⟩ := x; exact ⟨ob, e⟩
  | dT kvs => obtain ⟨_, _, _, _, ob, _, _, e, _⟩ := x; exact ⟨ob, e⟩
  | set S n => obtain ⟨ob, _, _, _, e, _⟩ := x; exact ⟨ob, e⟩
  | ins C dx fs => obtain ⟨_, _, _, e, _⟩ := x; exact ⟨_, e⟩
  | own y => exact x
  | xd fs => obtain ⟨_, ⟨ob, _, _, e, _⟩, _⟩ := x; exact ⟨ob, e⟩
  | rng lo hi => obtain ⟨_, _, _, e⟩ := x; exact ⟨_, e⟩
  | frz ob u ih => exact ⟨ob, x.1⟩
  | tbl ps => exact ⟨_, x⟩
  | met f y => exact ⟨_, x⟩
  | ext φ => exact x.2.1

/-- behind a call that an exception has left: e flies, of the class at C; H' is what stands -/
structure Fly (P : Program) (w : World) (outer : List Env) (H : Hp) (s : Shared) (e C : Addr) (H' : Hp) (s' : Shared) : Prop where
  os : s'.os = s.os
  bare : AllBare s'.gens
  ex : ∃ (a0 : Value) (B : Heap), Heap.FlyingW B outer e (.ref C) a0 s'.heap ∧ HOk P w H' B ∧ (∀ b o, s.heap.get? b = some o → b ∉ frs outer → ∃ o', B.get? b = some o') ∧
    ∀ b o, s.heap.get? b = some o → H b = none → b ∉ frs outer → B.get? b = some o
  slot : ∀ b o, s.heap.get? b = some o → H b = none → b ∈ frs outer → ∃ sl, s'.heap.get? b = some { o with slots := sl }
  free : ∀ b o, s.heap.get? b = some o → H b = none → H' b = none
  tups : ∀ b xs, H b = some (.tup xs) → H' b = some (.tup xs)
  frzs : ∀ b o u, H b = some (.frz o u) → H' b = some (.frz o u)
  tbls : ∀ b ps, H b = some (.tbl ps) → ∃ more, H' b = some (.tbl (ps ++ more))

/-- an exception behind a call: an own class's -/
def CX1 (P : Program) (w : World) : CXT := fun outer H s E ev s' => ∃ (e C : Addr) (H' : Hp), ev = .ref e ∧ Fly P w outer H s e C H' s' ∧ E (.ref C) none H'

section
variable {X : Cx} {pins : List (Addr × Obj)} {σ : St} {H H' : Hp} {s s' : Shared} {e C : Addr}

theorem Fly.un (F : Fly X.prog X.w X.stack H s e C H' s') (I : Inv X pins σ H s) : Un (frs X.stack) [] H H' s.heap s'.heap := by
  obtain ⟨a0, B, fl, hok, th, kp⟩ := F.ex
  refine ⟨fun b o q n h1 _ => fl.1 b o (kp b o q n h1), fun b o q n h1 _ => F.slot b o q n h1, fun b o q n _ => F.free b o q n, fun b o q _ => ?_, F.tups, F.frzs, F.tbls⟩
  by_cases hb : b ∈ frs X.stack
  · obtain ⟨sl, z⟩ := F.slot b o q (I.stkFree b hb) hb
    exact ⟨_, z⟩
  · obtain ⟨o', z⟩ := th b o q hb
    exact ⟨o', fl.1 b o' z⟩
theorem Fly.hok {P : Program} {w : World} {outer : List Env} (F : Fly P w outer H s e C H' s') : HOk P w H' s'.heap := by
  obtain ⟨a0, B, fl, hok, _⟩ := F.ex
  exact hok.kept fl.1
theorem Fly.inv (F : Fly X.prog X.w X.stack H s e C H' s') (I : Inv X pins σ H s) : Inv X pins σ H' s' :=
  I.call' (ch := []) F.os (F.un I) F.hok F.bare fun b hb => absurd hb (by simp)
/-- the exception stands nowhere where something stood -/
theorem Fly.new {P : Program} {w : World} {outer : List Env} (F : Fly P w outer H s e C H' s') : s.heap.get? e = none := by
  obtain ⟨a0, B, ⟨f1, f2, f3, oe, vs, T, oT, ts, he, hc, hd, _⟩, hok, th, _⟩ := F.ex
  cases q : s.heap.get? e with
  | none => rfl
  | some o =>
    by_cases hb : e ∈ frs outer
    · obtain ⟨_, o', ho', hnf⟩ := f3.mem hb
      rw [he] at ho'
      cases ho'
      exact absurd hd (hnf vs)
    · obtain ⟨o', z⟩ := th e o q hb
      rw [f2] at z
      cases z
theorem Fly.untracked {P : Program} {w : World} {outer : List Env} (F : Fly P w outer H s e C H' s') : H' e = none := by
  obtain ⟨a0, B, ⟨f1, f2, _⟩, hok, _⟩ := F.ex
  cases q : H' e with
  | none => rfl
  | some o =>
    obtain ⟨ob, z⟩ := (hok e o q).there
    rw [f2] at z
    cases z
theorem Fly.obj {P : Program} {w : World} {outer : List Env} (F : Fly P w outer H s e C H' s') : ∃ oe vs, s'.heap.get? e = some oe ∧ oe.cls = .ref C ∧ oe.data = .fields vs := by
  obtain ⟨a0, B, ⟨f1, f2, f3, oe, vs, T, oT, ts, he, hc, hd, _⟩, _⟩ := F.ex
  exact ⟨oe, vs, he, hc.1, hd⟩
/-- the heap goes on, all but the records kept -/
theorem Fly.go {P : Program} {w : World} {outer : List Env} (F : Fly P w outer H s e C H' s') (k : ∀ a0 B, Heap.FlyingW B outer e (.ref C) a0 s'.heap → (∀ h'', Heap.FlyingW B outer e (.ref C) a0 h'' → s'.heap.UpToSlots h'' → Fly P w outer H s e C H' { s' with heap := h'' }) → Prop)
    (hk : ∀ a0 B fl g, k a0 B fl g) : ∃ a0 B fl g, k a0 B fl g := by
  obtain ⟨a0, B, fl, hok, th, kp⟩ := F.ex
  refine ⟨a0, B, fl, fun h'' fl2 up => ⟨F.os, F.bare, ⟨a0, B, fl2, hok, th, kp⟩, fun b o q n hb => ?_, F.free, F.tups, F.frzs, F.tbls⟩, hk _ _ _ _⟩
  obtain ⟨sl, z⟩ := F.slot b o q n hb
  obtain ⟨_, o', ho', hnf⟩ := fl.2.2.1.mem hb
  rw [z] at ho'
  cases ho'
  obtain ⟨sl', z'⟩ := up b _ z hnf
  exact ⟨sl', z'⟩
theorem Fly.more {P : Program} {w : World} {outer : List Env} (F : Fly P w outer H s e C H' s') : ∃ a0 B, Heap.FlyingW B outer e (.ref C) a0 s'.heap ∧
    ∀ h'', Heap.FlyingW B outer e (.ref C) a0 h'' → s'.heap.UpToSlots h'' → Fly P w outer H s e C H' { s' with heap := h'' } := by
  obtain ⟨a0, B, fl, g, _⟩ := F.go (fun _ _ _ _ => True) fun _ _ _ _ => trivial
  exact ⟨a0, B, fl, g⟩
end

/-- a def's own context, as fn_of makes it -/
structure Own (X : Cx) : Prop where
  st : X.stack = X.env :: X.outer
  fr : X.env.frame = some X.env.locals
  ex : X.ex = []

section
variable {X : Cx} {pins : List (Addr × Obj)} {σ : St} {H H' : Hp} {s s' : Shared} {e C : Addr} {Q : Unit → Shared → Prop} {E : Value → Shared → Prop} {M : Model}

theorem Own.sub (O : Own X) {b : Addr} (h : b ∈ X.fs) : b ∈ frs X.stack := by
  rw [O.st]
  unfold frs
  rw [List.filterMap_cons, O.fr]
  exact List.mem_cons_of_mem _ h
theorem Own.not (O : Own X) (I : Inv X pins σ H s) {b : Addr} {o : Obj} (q : X.s₀.heap.get? b = some o) (h : b ∉ X.fs) : b ∉ frs X.stack := fun z => by
  rcases List.mem_cons.mp (I.stkSub b z) with r | r
  · exact absurd (Nat.lt_of_lt_of_le (Heap.lt_size q) I.ok.above) (by rw [r]; exact Nat.lt_irrefl _)
  · exact h r
theorem Own.nex (O : Own X) (b : Addr) : b ∉ X.ex := by
  rw [O.ex]
  simp

/-- a new exception leaves the def -/
theorem made_leaves {vs : List Value} {h' : Heap} (O : Own X) (I : Inv X pins σ H s) (hx : Heap.MadeExcOf s.heap h' e (.ref C) vs)
    (k : ∀ h'', Fly X.prog X.w X.outer X.H₀ X.s₀ e C H { s with heap := h'' } → Q () { s with heap := h'' }) : wpAny M X.A (leaving X.env (.ref e)) Q E { s with heap := h' } := by
  have hst := I.stack
  have hfr := I.ok.frames
  rw [O.st] at hst hfr
  have hin : ∀ env ∈ (X.env :: X.outer), ∀ b, env.frame = some b → b ∈ frs X.stack := fun env he b hb => by
    rw [O.st]
    exact List.mem_filterMap.mpr ⟨env, he, hb⟩
  have get : ∀ {b : Addr} {o : Obj}, s.heap.get? b = some o → b ∉ frs X.stack → (PySem.W.hideAll s.heap (frs X.stack)).get? b = some o := fun q hb => PySem.W.hideAll_get _ q hb
  refine wpAny_leaves_madeW (base := PySem.W.hideAll s.heap (frs X.stack)) (h := s.heap) (s := { s with heap := h' }) hfr O.fr (fun b o q => PySem.W.of_hideAll _ q) (PySem.W.funFrames_hide hst hin) hx fun h'' t x1 _ _ x4 => k h'' ⟨I.os, I.bare, ⟨_, _, x1, fun a o q => ?_, fun b o q hb => ?_, fun b o q n hb => ?_⟩, fun b o q n hb => ?_, fun b o q n => I.base.free b o q n (O.nex b), I.base.tups, I.base.frzs, I.base.tbls⟩
  · refine (I.hok a o q).stay (fun b u hb z => get z fun hm => ?_) (fun _ z => z) fun _ _ z => z
    have hn := I.stkFree b hm
    rcases hb with rfl | hb
    · rw [hn] at q; cases q
    · rw [hn] at hb; cases hb
  · obtain ⟨o', z⟩ := I.base.there b o q (O.nex b)
    exact ⟨o', get z (O.not I q hb)⟩
  · exact get (I.base.keep b o q n hb (O.nex b)) (O.not I q hb)
  · obtain ⟨sl, z⟩ := I.base.slot b o q n hb (O.nex b)
    obtain ⟨_, o', ho', hnf⟩ := I.ok.funs.mem hb
    rw [q] at ho'
    cases ho'
    obtain ⟨sl', z'⟩ := x4 b _ (hx.keeps b _ z) hnf
    exact ⟨sl', z'⟩

/-- an exception of a callee leaves the def, too -/
theorem on_leaves (O : Own X) (I : Inv X pins σ H s) (F : Fly X.prog X.w X.stack H s e C H' s')
    (k : ∀ h'', Fly X.prog X.w X.outer X.H₀ X.s₀ e C H' { s' with heap := h'' } → Q () { s' with heap := h'' }) : wpAny M X.A (leaving X.env (.ref e)) Q E s' := by
  obtain ⟨a0, B, fl, hok, th, kp⟩ := F.ex
  have hfr := I.ok.frames
  rw [O.st] at fl hfr
  refine wpAny_leaves_onW hfr O.fr fl fun h'' x1 x2 => k h'' ⟨F.os.trans I.os, F.bare, ⟨a0, B, x1, hok, fun b o q hb => ?_, fun b o q n hb => ?_⟩, fun b o q n hb => ?_, fun b o q n => ?_, fun b xs q => F.tups b xs (I.base.tups b xs q), fun b o u q => F.frzs b o u (I.base.frzs b o u q), fun b ps q => ?_⟩
  · obtain ⟨o', z⟩ := I.base.there b o q (O.nex b)
    exact th b o' z (O.not I q hb)
  · exact kp b o (I.base.keep b o q n hb (O.nex b)) (I.base.free b o q n (O.nex b)) (O.not I q hb)
  · obtain ⟨sl, z⟩ := I.base.slot b o q n hb (O.nex b)
    obtain ⟨sl', z'⟩ := F.slot b _ z (I.base.free b o q n (O.nex b)) (O.sub hb)
    obtain ⟨_, o', ho', hnf⟩ := I.ok.funs.mem hb
    rw [q] at ho'
    cases ho'
    obtain ⟨sl2, z2⟩ := x2 b _ z' hnf
    exact ⟨sl2, z2⟩
  · obtain ⟨o', z⟩ := I.base.there b o q (O.nex b)
    exact F.free b o' z (I.base.free b o q n (O.nex b))
  · obtain ⟨m1, e1⟩ := I.base.tbls b ps q
    obtain ⟨m2, e2⟩ := F.tbls b _ e1
    exact ⟨m1 ++ m2, by rw [e2, Array.append_assoc]⟩
end

/-! ### where exceptions go: the wish by class, the names' values and the heap -/
abbrev XS := Value → St → Hp → Prop
structure Pass (X : Cx) (Ex : XS) : Prop where
  on : ∀ (pins : List (Addr × Obj)) (σ : St) (H : Hp) (s : Shared) (e C : Addr) (H' : Hp) (s' : Shared), Inv X pins σ H s → Fly X.prog X.w X.stack H s e C H' s' → Ex (.ref C) σ H' → X.xe (.ref e) s'
structure Rais (X : Cx) (Ex : XS) : Prop extends Pass X Ex where
  nw : ∀ (pins : List (Addr × Obj)) (σ : St) (H : Hp) (s : Shared) (e C : Addr) (h' : Heap) (vs : List Value), Inv X pins σ H s → Heap.MadeExcOf s.heap h' e (.ref C) vs → Ex (.ref C) σ H → X.xe (.ref e) { s with heap := h' }
  own : PassesOwn (model X.prog X.w) X.A X.env X.xe

theorem rais_def {P : Program} {w : World} {K : PySem.W.Frag} {mg : Str → Option Value} {base : Heap} {N : List Str} {qual : Str} {scope : Scope} {f : Addr} {cd : Value} {A : Around} {outer : List Env} {s : Shared} {H : Hp} {E : XK} :
    Rais (cxOf (CX1 P w) P w K mg base N qual scope f cd A outer s H E) (fun c _ H' => E c none H') where
  on := fun pins σ H1 s1 e C H' s' I F q => on_leaves ⟨rfl, rfl, rfl⟩ I F fun h'' F' => ⟨e, C, H', rfl, F', q⟩
  nw := fun pins σ H1 s1 e C h' vs I hx q => made_leaves ⟨rfl, rfl, rfl⟩ I hx fun h'' F' => ⟨e, C, H1, rfl, F', q⟩
  own := PassesOwn.leaving

section
variable {P : Program} {w : World} {K : PySem.W.Frag} {mg : Str → Option Value} {base : Heap}
/-- THE RULE for a def that may raise -/
theorem Fun.ok1 {x qual : Str} {st : Stmt} {f : Addr} {fd : FuncData} {N ps : List Str} {k : Nat} {sp : Sp} (F : Fun K x qual st f fd) (S : FnScope N ps (defScope st)) (len : ∀ vs H Q E, sp vs H Q E → vs.length = ps.length)
    (hbody : ∀ (cdv : Value) (A : Around) (outer : List Env) (s : Shared) (H : Hp) (vs : List V) (Q : VK) (E : XK), Room k (A.deeper (envOfC qual (defScope st) s.heap.objs.size f cdv)) → sp vs H Q E →
      ∃ t, PSs (cxOf (CX1 P w) P w K mg base N qual (defScope st) f cdv A outer s H E) (defBody st) t ∧ t { nx := fun _ H' => Q .non H', rt := Q } (start N vs) H) : FnOk P w K mg base (CX1 P w) (k + 1) f fd ps sp := by
  obtain ⟨oc, od, kV, doc, pm, an, cdv, ct, osl, rfl, lk, hcd⟩ := F.ex
  exact fn_of lk hcd S len fun A outer s H vs Q E hr hsp => hbody cdv A outer s H vs Q E hr hsp
end

/-! ### a call of a def that may raise -/
def tCallX (sp : Sp) (dvs : List V) (Ex : XS) (t : TA) : TE := fun σ H Q => t σ H fun vs H1 => sp (vs ++ dvs) H1 Q fun c _ H' => Ex c σ H'
section
variable {X : Cx} {Ex : XS} {k : Nat} {f C : Addr} {fd : FuncData} {ps : List Str} {sp : Sp} {dvs : List V} {ds : List Value} {x m : Str} {p pos apos : Pos} {e o : Expr} {es : List Expr} {ta : TE} {t : TA}
theorem run_fnX {pins : List (Addr × Obj)} {σ : St} {H : Hp} {s : Shared} {Q : VK} {us : List Value} {vs : List V} (R : Pass X Ex) (F : FnOk X.prog X.w X.K X.mg X.base (CX1 X.prog X.w) k f fd ps sp) (hr : Room k X.A) (hb : Binds X.K fd ps ds) (hd : Vals dvs ds)
    (I : Inv X pins σ H s) (r : Vals vs us) (h : sp (vs ++ dvs) H Q fun c _ H' => Ex c σ H') : wpAny (model X.prog X.w) X.A (call (.ref f) us) (EP X pins σ Q) X.xe s := by
  have r2 : Vals (vs ++ dvs) (us ++ ds) := r.append hd
  have hl : (us ++ ds).length = ps.length := by rw [← r2.length]; exact F.len _ _ _ _ h
  refine wpAny_call (codeAny_mono (F.run X.A X.stack s H ⟨us, []⟩ (us ++ ds) (vs ++ dvs) Q _ hr I.env0 (hb s us I.kIn hl) r2 h) fun r s' hq => ?_)
  cases r with
  | error ev =>
    obtain ⟨e, C, H', rfl, Fl, q⟩ := hq
    exact R.on pins σ H s e C H' s' I Fl q
  | ok fl =>
    cases fl with
    | ret u => exact I.after hq
    | next => exact False.elim hq
    | brk => exact False.elim hq
    | cont => exact False.elim hq
theorem pe_callX (R : Pass X Ex) (F : FnOk X.prog X.w X.K X.mg X.base (CX1 X.prog X.w) k f fd ps sp) (hr : Room k X.A) (hg : Gl X x) (hm : X.mg x = some (.ref f)) (hk : PySem.W.keepIn X.K (.ref f) = true) (hb : Binds X.K fd ps ds) (hd : Vals dvs ds)
    (ha : PA X (e :: es) t) (hdb : (x == ("__debug__" : Str)) = false := by decide) (he : starEach (e :: es) X.env = (false, eval e X.env) :: starEach es X.env := by rfl) (hpl : (backTo pos (starEach es X.env)).any (·.1) = false := by rfl) :
    PE X (.Call (.Name x p) (e :: es) [] pos) (tCallX sp dvs Ex t) := by
  intro pins s σ H Q I h
  refine wpAny_Call_Name_kw (ld_glob I hg hm ?_ hdb)
  refine PySem.W.callWith_K (h₀ := X.base) I.ok.mod.kin hk (thn (ha pos pins s σ H _ I h) fun us s1 ⟨vs, H1, I1, r, q⟩ => ⟨I1.kIn, ?_⟩) he hpl
  exact run_fnX R F hr hb hd I1 r q
end

/-! ### raise C(..) -/
abbrev bmV : List Value := [.type "ValueError", .type "Exception", .type "BaseException", .type "object"]
/-- what of the text an error class must have -/
structure ExcCls (K : PySem.W.Frag) (C : Addr) : Prop where
  cls : (PySem.W.clsIn K C).isSome = true
  ty : PySem.W.typeIn K (.ref C) = some (.type "type")
  ga : PySem.W.findIn K (.ref C) "__getattribute__" = some (some (.builtin "BaseException.__getattribute__"))
  gx : PySem.W.findIn K (.ref C) "__getattr__" = some none
  ca : PySem.W.findIn K (.ref C) "__class__" = some (some (.builtin "object.__class__"))
  cg : PySem.W.specialIn K (.builtin "object.__class__") "__get__" = some (some (.builtin "getset_descriptor.__get__"))
  ct : PySem.W.takesIn K (.builtin "object.__class__") = some true
  mo : PySem.W.mroIn K C (.type "object") = some true
  mb : PySem.W.mroIn K C (.type "BaseException") = some true

theorem exc_obj {K : PySem.W.Frag} {h : Heap} {C : Addr} {bmB : List Value} {newId : String} (X : K.In h) (q : PySem.W.excIn K C bmB newId = true) :
    ∃ bm N nm q bs hdct sn sub ab col dd k0 k1 k2 k3 k5 mN, h.get? C = some (excClassObj nm q C N bs bm hdct sn sub ab col dd k0 k1 k2 k3 k5 newId) ∧ h.Ns N mN ∧ mN "__init__" = none ∧ OwnTail h bmB bm := by
  unfold PySem.W.excIn at q
  split at q
  · rename_i dd cd sl ho
    split at q
    · rename_i C' bm k0 k1 k2 k3 n k5 hm hs
      rw [Bool.and_eq_true, Bool.and_eq_true, Bool.and_eq_true, Bool.and_eq_true, Bool.and_eq_true] at q
      obtain ⟨⟨⟨⟨⟨q1, q2⟩, q3⟩, ht⟩, hok⟩, hni⟩ := q
      obtain rfl := beq_iff_eq.mp q1
      obtain rfl := beq_iff_eq.mp q2
      have hdel : cd.hasDel = false := by
        cases z : cd.hasDel with
        | false => rfl
        | true => rw [z] at q3; cases q3
      have hni' := beq_iff_eq.mp hni
      obtain ⟨nm, bs, mro, ns, qn, hd, sn, sub, ab, col, del⟩ := cd
      dsimp only at hm hdel hok hni'
      subst hm hdel
      obtain ⟨l⟩ := sl
      dsimp only at hs
      subst hs
      exact ⟨bm, ns, nm, qn, bs, hd, sn, sub, ab, col, dd, k0, k1, k2, k3, k5, _, X _ _ ho, .of_isNs (PySem.W.isNs_of_in X hok), PySem.W.nsMap_none_of_in X hok hni', PySem.W.tail_of_in X ht⟩
    · cases q
  · cases q

def tRaise (C : Addr) (Ex : XS) (t : TA) : TS := fun _ σ H => t σ H fun vs H1 => vs.length ≤ sizeLine ∧ Ex (.ref C) σ H1
section
variable {X : Cx} {Ex : XS} {x : Str} {C : Addr} {e₀ : Expr} {rest : List Expr} {np cpos pos : Pos} {t : TA}
theorem ps_raise (R : Rais X Ex) (hc : X.calm = true) (hg : Gl X x) (hm : X.mg x = some (.ref C)) (q : PySem.W.excIn X.K C bmV "ValueError.__new__" = true) (ha : PA X (e₀ :: rest) t)
    (he : starEach (e₀ :: rest) X.env = (false, eval e₀ X.env) :: starEach rest X.env := by rfl) (hplain : (backTo cpos (starEach rest X.env)).any (·.1) = false := by rfl) (hd : (x == ("__debug__" : Str)) = false := by decide) :
    PS X (.Raise (some (.Call (.Name x np) (e₀ :: rest) [] cpos)) none pos) (tRaise C Ex t) := by
  intro pins s σ H D I h
  obtain ⟨tl, N, nm, qn, bs, hdct, sn, sub, ab, col, dd, k0, k1, k2, k3, k5, mN, hC, hN, hni, T⟩ := exc_obj I.mod.kin q
  have FB := PySem.F.excBase_ValueError
  refine wpAny_Raise_call_subT (C := C) (nm := nm) (q := qn) (N := N) (bs := bs) (bm := tl) (hdct := hdct) (sn := sn) (sub := sub) (ab := ab) (col := col) (dd := dd) (k0 := k0) (k1 := k1) (k2 := k2) (k3 := k3) (k5 := k5)
    FB (mN := mN) (T.hasType FB.hasBase) (I.ok.hd hc) (by rw [he]; show (false || (backTo cpos (starEach rest X.env)).any (·.1)) = false; rw [hplain]; rfl) hni (ld_glob I hg hm ⟨rfl, ?_⟩ hd)
  have hs := ha cpos pins s σ H _ I h
  rw [he] at hs ⊢
  refine Calls.evalArgs_plain (thn hs fun us s2 ⟨vs, H2, I2, r, z, q2⟩ => ?_)
  have kb : ∀ b o, X.base.get? b = some o → s2.heap.get? b = some o := I2.bk
  exact ⟨rfl, by show us.length ≤ sizeLine; rw [← r.length]; exact z, kb _ _ hC, hN.keeps kb, T.keeps kb, fun h' e hx => R.nw pins σ H2 s2 e C h' us I2 hx q2⟩
end

/-! ### the object of an exception that was caught -/
/-- e stands for an exception of the class at C -/
def excO (e C : Addr) : HO := .ext fun h => ∃ oe, h.get? e = some oe ∧ oe.cls = .ref C

section
variable {X : Cx} {pins : List (Addr × Obj)} {σ : St} {H H' : Hp} {s s' : Shared} {e C : Addr}
/-- something that stood untracked, and new, is tracked from here on -/
theorem Inv.track {o : HO} (I : Inv X pins σ H s) (hn : H e = none) (h0 : X.s₀.heap.get? e = none) (hL : e ≠ X.env.locals) (hc : ∀ x c, X.env.cells.lookup x = some c → c ≠ e) (hp : ∀ p ∈ X.pn ++ pins, p.1 ≠ e) (hfs : e ∉ X.fs)
    (new : ObjOk X.prog X.w (upd H e o) s.heap e o) : Inv X pins σ (upd H e o) s := by
  have ne : ∀ b u, H b = some u → b ≠ e := fun b u q => ne_of_none q hn
  refine ⟨I.ok, I.os, I.bare, ⟨I.base.keep, I.base.slot, fun b ob q n hx => ?_, I.base.there, fun b xs q => ?_, fun b ob u q => ?_, fun b ps q => ?_⟩, I.loc, I.cell, ?_, fun x c q => ?_, fun p q => ?_, fun b u q => ?_, I.len⟩
  · rw [upd_ne (fun z => by rw [z, h0] at q; cases q)]
    exact I.base.free b ob q n hx
  · have z := I.base.tups b xs q
    rw [upd_ne (ne _ _ z)]
    exact z
  · have z := I.base.frzs b ob u q
    rw [upd_ne (ne _ _ z)]
    exact z
  · obtain ⟨m, z⟩ := I.base.tbls b ps q
    exact ⟨m, by rw [upd_ne (ne _ _ z)]; exact z⟩
  · rw [upd_ne hL.symm]
    exact I.free
  · rw [upd_ne (hc x c q)]
    exact I.freeC x c q
  · obtain ⟨z1, z2, z3⟩ := I.pin p q
    exact ⟨z1, by rw [upd_ne (hp p q)]; exact z2, z3⟩
  · by_cases hb : b = e
    · subst hb
      rw [upd_same] at q
      cases q
      exact new
    · rw [upd_ne hb] at q
      exact (I.hok b u q).stay (fun c v _ z => z) (fun c z => by rw [upd_ne (ne _ _ z)]; exact z) fun c xs z => by rw [upd_ne (ne _ _ z)]; exact z
end

/-- the place for the handler's suite: the exception is handled, nothing leaves -/
def hanX (X : Cx) (e : Addr) : Cx := { X with A := X.A.mark (some (.ref e)), calm := false, xe := fun _ _ => False }
/-- the place for a try's body -/
def tryX (X : Cx) (pins : List (Addr × Obj)) (Ex : XS) : Cx :=
  { X with pn := X.pn ++ pins, xe := fun ev s' => ∃ e C σ H s H', ev = Value.ref e ∧ Inv X pins σ H s ∧ Fly X.prog X.w X.stack H s e C H' s' ∧ Ex (.ref C) σ H' }

section
variable {X : Cx} {pins : List (Addr × Obj)} {σ : St} {H H' : Hp} {s s' : Shared} {e C : Addr} {Ex : XS}
theorem Inv.han (I : Inv X pins σ H s) (e : Addr) : Inv (hanX X e) pins σ H s := by
  obtain ⟨⟨o1, o2, o3, o4, o5, o6, o7, o8, o9, o10, o11, o12, o13, o14, o15, o16, o17, o18⟩, i2, i3, i4, i5, i6, i7, i8, i9, i10, i11⟩ := I
  exact ⟨⟨o1, o2, o3, o4, o5, o6, o7, o8, fun z => (Bool.false_ne_true z).elim, o10, o11, o12, o13, o14, o15, o16, o17, o18⟩, i2, i3, i4, i5, i6, i7, i8, i9, i10, i11⟩
theorem Inv.unhan (hd : X.calm = true → X.A.handled = none) (I : Inv (hanX X e) pins σ H s) : Inv X pins σ H s := by
  obtain ⟨⟨o1, o2, o3, o4, o5, o6, o7, o8, o9, o10, o11, o12, o13, o14, o15, o16, o17, o18⟩, i2, i3, i4, i5, i6, i7, i8, i9, i10, i11⟩ := I
  exact ⟨⟨o1, o2, o3, o4, o5, o6, o7, o8, hd, o10, o11, o12, o13, o14, o15, o16, o17, o18⟩, i2, i3, i4, i5, i6, i7, i8, i9, i10, i11⟩
theorem Inv.tryIn (I : Inv X pins σ H s) (Ex : XS) : Inv (tryX X pins Ex) [] σ H s := by
  obtain ⟨⟨o1, o2, o3, o4, o5, o6, o7, o8, o9, o10, o11, o12, o13, o14, o15, o16, o17, o18⟩, i2, i3, i4, i5, i6, i7, i8, i9, i10, i11⟩ := I
  exact ⟨⟨o1, o2, o3, o4, o5, o6, o7, o8, o9, o10, o11, o12, o13, o14, o15, o16, o17, o18⟩, i2, i3, i4, i5, i6, i7, i8, fun p hp => i9 p (by simpa [tryX] using hp), i10, i11⟩
theorem Inv.tryOut {pins2 : List (Addr × Obj)} (I : Inv (tryX X pins Ex) pins2 σ H s) : Inv X pins σ H s := by
  obtain ⟨⟨o1, o2, o3, o4, o5, o6, o7, o8, o9, o10, o11, o12, o13, o14, o15, o16, o17, o18⟩, i2, i3, i4, i5, i6, i7, i8, i9, i10, i11⟩ := I
  exact ⟨⟨o1, o2, o3, o4, o5, o6, o7, o8, o9, o10, o11, o12, o13, o14, o15, o16, o17, o18⟩, i2, i3, i4, i5, i6, i7, i8, fun p hp => i9 p (List.mem_append_left _ hp), i10, i11⟩
theorem pass_try : Pass (tryX X pins Ex) Ex where
  on := fun pins2 σ H s e C H' s' I F q => ⟨e, C, σ, H, s, H', rfl, I.tryOut, F, q⟩

/-- a name of the frame's is let go -/
theorem name_goes {M : Model} {A : Around} {E : Value → Shared → Prop} {i : Nat} {x : Str} {pos : Pos} {Q : Unit → Shared → Prop} (I : Inv X pins σ H s) (hN : X.N.Nodup) (hi : X.N[i]? = some x) (hk : X.env.scope.names.lookup x = some .local)
    (h : ∀ s', Inv X pins (σ.set i none) H s' → Q () s') : wpAny M A (do bindName X.env x .none; unbindBehindTheSuite X.env x pos) Q E s := by
  obtain ⟨m, hn, hl⟩ := id I.loc
  have hcls : (X.env.scope.kind == .class || (X.env.scope.kind == .module && X.env.locals != X.env.globals)) = false := by rw [I.ok.kind]; rfl
  refine wpAny_nameGoes_keeps hk hn hcls fun h' v hn' hs => ?_
  have below : ∀ b o, X.s₀.heap.get? b = some o → b ≠ X.env.locals := fun b o e => Nat.ne_of_lt (Nat.lt_of_lt_of_le (Heap.lt_size e) I.ok.above)
  refine h _ ⟨I.ok, I.os, I.bare, ⟨fun b o e n hb hx => ?_, fun b o e n hb hx => ?_, I.base.free, fun b o e hx => ?_, I.base.tups, I.base.frzs, I.base.tbls⟩, ⟨_, hn', fun j y v' e1 e2 e3 => ?_⟩, fun y c e => ?_, I.free, I.freeC, fun p hp => ?_, fun b ob e => ?_, by simpa using I.len⟩
  · exact (hs.2 b (below b o e)).trans (I.base.keep b o e n hb hx)
  · obtain ⟨sl, e1⟩ := I.base.slot b o e n hb hx
    exact ⟨sl, (hs.2 b (below b o e)).trans e1⟩
  · obtain ⟨o', e1⟩ := I.base.there b o e hx
    exact ⟨o', (hs.2 b (below b o e)).trans e1⟩
  · by_cases hj : j = i
    · subst hj
      rw [List.getElem?_set] at e2
      split at e2
      · split at e2 <;> cases e2
      · rename_i z; exact absurd rfl z
    · rw [List.getElem?_set_ne (Ne.symm hj)] at e2
      obtain ⟨u', r', q⟩ := hl j y v' e1 e2 e3
      refine ⟨u', r', ?_⟩
      have hy : y ≠ x := fun e => hj (nodup_ix hN e1 (e ▸ hi))
      rcases q with ⟨k, e⟩ | ⟨k, c, e, z⟩
      · exact .inl ⟨k, by show (if y = x then v else m y) = some u'; rw [if_neg hy]; exact e⟩
      · exact .inr ⟨k, c, e, z.sameBut hs (I.cne y c e)⟩
  · obtain ⟨w', z⟩ := I.cell y c e
    exact ⟨w', z.sameBut hs (I.cne y c e)⟩
  · obtain ⟨e, n, ne, nf, d⟩ := I.pin p hp
    exact ⟨(hs.2 p.1 ne).trans e, n, ne, nf, d⟩
  · refine (I.hok b ob e).stay (fun c w' hc q => (hs.2 c ?_).trans q) (fun _ q => q) fun _ _ q => q
    rintro rfl
    rcases hc with rfl | hc
    · rw [I.free] at e; cases e
    · rw [I.free] at hc; cases hc
end

/-- does the exception match the class at S -/
theorem exc_matches {K : PySem.W.Frag} {M : Model} {A : Around} {E : Value → Shared → Prop} {s : Shared} {e C S : Addr} {oe : Obj} {Q : Bool → Shared → Prop} (X : K.In s.heap) (c : ExcCls K S) (he : s.heap.get? e = some oe) (hc : oe.cls = .ref C)
    (hs : PySem.W.mroIn K C (.ref S) = some true) (h : Q true s) : wpAny M A (excMatches (.ref e) (.ref S)) Q E s := by
  have L0 : PySem.W.Looks M s.heap (typeOf (.ref S)) (.type "type") := PySem.W.looks_typeIn X c.ty
  have L1 : PySem.W.Looks M s.heap (isSubtype (.type "type") (.type "tuple")) false := PySem.W.Looks.of_pure tc_notTuple
  have L2 : PySem.W.Looks M s.heap (isInstance (.ref S) (.type "tuple")) false := L0.andThen L1
  have L3 : PySem.W.Looks M s.heap (isSubtype (.ref S) (.type "BaseException")) true := PySem.W.looks_mroIn X c.mb
  have L4 : PySem.W.Looks M s.heap (isSubtype (.ref C) (.ref S)) true := PySem.W.looks_mroIn X hs
  have L5 : PySem.W.Looks M s.heap (typeOf (.ref e)) (.ref C) := hc ▸ (PySem.W.Looks.ld he).andThen .now
  have L6 : PySem.W.Looks M s.heap (isType (.ref S)) true := by
    have z := c.cls
    unfold PySem.W.clsIn at z
    split at z
    · rename_i c' d' cd' sl' ho
      intro A' Q' E' s' k q
      unfold isType loadHead
      exact wpAny_bind (wpAny_loadPart (k _ _ (X _ _ ho)) (wpAny_pure q))
    · cases z
  obtain ⟨hh, g, d, t, os⟩ := s
  unfold excMatches
  refine wpAny_bind (L2.at ?_)
  simp only [Bool.false_eq_true, if_false]
  refine wpAny_bind (wpAny_pure ?_)
  simp only [List.forIn_cons, List.forIn_nil]
  refine wpAny_bind (wpAny_bind ?_)
  unfold isExcClass
  refine wpAny_bind (wpAny_bind (L6.at ?_))
  simp only [if_true]
  refine L3.at ?_
  simp only [Bool.not_true, Bool.false_eq_true, if_false]
  refine wpAny_pure (wpAny_pure ?_)
  refine wpAny_bind (L5.at ?_)
  refine wpAny_bind (wpAny_bind (wpAny_bind (L4.at ?_)))
  simp only [if_true]
  exact wpAny_pure (wpAny_pure (wpAny_pure h))

/-! ### e.__class__, isinstance(e, ..) -/
section
open Builtin Builtin.ObjectAttr Builtin.Getset_descriptor
theorem exc_find {K : PySem.W.Frag} {M : Model} {h : Heap} {e C : Addr} {name : Str} {a g : Value} (X : K.In h) (h1 : PySem.W.findIn K (.ref C) name = some (some a)) (h2 : PySem.W.specialIn K a "__get__" = some (some g)) (h3 : PySem.W.takesIn K a = some true) :
    PySem.W.Looks M h (find (.ref e) (.ref C) name) (.bind g a) := by
  have L1 := PySem.W.looks_findIn (M := M) X h1
  have L2 : PySem.W.Looks M h (getOf (some a)) (some g) := PySem.W.looks_specialIn X h2
  have L3 := PySem.W.looks_takesIn (M := M) X h3
  exact L1.andThen (L2.andThen ((show PySem.W.Looks M h (dataDescriptor? (some a) (some g)) (some (g, a)) from L3.andThen .now).andThen (PySem.W.Looks.tag .now)))
theorem exc_class_get {prog : Program} {w : World} {A : Around} {s : Shared} {K : PySem.W.Frag} {x C : Addr} {R : Result → Shared → Prop} {tp : Value} (X : K.In s.heap) (I : ∀ M, PySem.W.Looks M s.heap (typeOf (.ref x)) (.ref C))
    (hm : PySem.W.mroIn K C (.type "object") = some true) (h : R (.ok (.ret (.ref C))) s) : codeAny (model prog w) A (.call (.builtin "getset_descriptor.__get__") ⟨[.builtin "object.__class__", .ref x, tp], []⟩) R s := by
  obtain ⟨hh, g, dr, t, os⟩ := s
  have L0 := I (model prog w)
  have L1 := PySem.W.looks_mroIn (M := model prog w) X hm
  refine codeAny_call_builtin PySem.W.KF.slot_gs.plain PySem.W.KF.entry_gs (PySem.W.KF.slot_gs.check _ _ _ _ _ _ _ _ PySem.W.KF.type_class (PySem.W.KF.args_gs _ _ _) ?_)
  unfold Builtin.«getset_descriptor.__get__» descrGet
  rw [PySem.W.dga_obj]
  refine wpAny_bind (wpAny_pure ?_)
  unfold descrGetter descrCheckInstance descrNameAndClass isInstance
  simp only [PySem.W.KF.owner_class]
  repeat lk
  refine ⟨Code.quiet_builtin _ (by decide +kernel), codeAny_builtin PySem.W.KF.entry_class ?_⟩
  unfold Builtin.«object.__class__» shownTypeOf
  repeat lk
  exact h
end
theorem exc_ga_check {M : Model} {A : Around} {E : Value → Shared → Prop} {s : Shared} {K : PySem.W.Frag} {x C : Addr} {nameV : Value} {Q : Unit → Shared → Prop} (X : K.In s.heap) (I : PySem.W.Looks M s.heap (typeOf (.ref x)) (.ref C))
    (hm : PySem.W.mroIn K C (.type "BaseException") = some true) (hq : Q () s) : wpAny M A (checkBuiltinCall "BaseException.__getattribute__" ⟨[.ref x, nameV], []⟩) Q E s := by
  have hk : builtinKind "BaseException.__getattribute__" = some .slot := by decide +kernel
  have hsplit : splitId "BaseException.__getattribute__" = some ("BaseException", "__getattribute__") := by decide +kernel
  have L1 := PySem.W.looks_mroIn (M := M) X hm
  have L2 : PySem.W.Looks M s.heap (isInstance (.ref x) (.type "BaseException")) true := I.andThen L1
  have ha := F.args_bexc_ga (.ref x) nameV
  obtain ⟨hh, g, dr, t, os⟩ := s
  simp only [checkBuiltinCall, hk, hsplit]
  refine wpAny_bind (L2.at ?_)
  repeat (first | assumption | wp_step)
section
open Builtin Builtin.ObjectAttr Builtin.Getset_descriptor
theorem exc_ca {prog : Program} {w : World} {A : Around} {E : Value → Shared → Prop} {s : Shared} {K : PySem.W.Frag} {x C : Addr} {Q : Option Value → Shared → Prop} (X : K.In s.heap) (c : ExcCls K C) (I : ∀ M, PySem.W.Looks M s.heap (typeOf (.ref x)) (.ref C))
    (h : Q (some (.ref C)) { s with toks := s.toks + 1 }) : wpAny (model prog w) A (getAttr? (.ref x) "__class__") Q E s := by
  obtain ⟨hh, g, d, t, os⟩ := s
  have L0 := I (model prog w)
  have L1 := PySem.W.looks_findIn (M := model prog w) X c.ga
  have L2 := PySem.W.looks_findIn (M := model prog w) X c.gx
  have L3 := exc_find (M := model prog w) (e := x) X c.ca c.cg c.ct
  have hx2 : (Value.builtin "BaseException.__getattribute__" == Value.builtin "object.__getattribute__") = false := by decide +kernel
  have f3 := F.excAttr_ValueError.ga.bind (.ref x)
  unfold getAttr? getAttrBy? getAttrBy
  refine wpAny_bind (wpAny_mkText (wpAny_bind (wpAny_attempt (wpAny_holding (wpAny_bind (L0.at (wpAny_bind (L1.at ?_))))))))
  dsimp only
  rw [if_neg (by rw [hx2, Bool.and_false]; exact Bool.false_ne_true)]
  unfold getAttrByItsOwn hookBefore
  rw [if_pos (show onTheHeap (Value.ref C) = true from rfl)]
  refine wpAny_bind (L2.at ?_)
  refine wpAny_bind (wpAny_attempt (wpAny_holding ?_))
  unfold callGetattribute
  rw [if_neg (by decide)]
  unfold boundAndCalled
  refine wpAny_bind (wpAny_of_eq f3 ?_)
  refine wpAny_call (codeAny_call_builtin F.excAttr_ValueError.ga.plain F.entry_bexc_ga (exc_ga_check X L0 c.mb ?_))
  show wpAny _ _ (Builtin.«object.__getattribute__» ⟨[.ref x, .str "__class__" t], []⟩) _ _ _
  unfold Builtin.«object.__getattribute__»
  refine wpAny_bind (wpAny_of_eq (a := (Value.ref x, [Value.str "__class__" t])) rfl ?_)
  refine wpAny_bind (wpAny_of_eq (a := ("__class__" : Str)) rfl ?_)
  refine wpAny_bind (L0.at (wpAny_bind (L3.at ?_)))
  show wpAny _ _ (holding [Value.builtin "object.__class__"] (call (.builtin "getset_descriptor.__get__") [.builtin "object.__class__", .ref x, .ref C]) >>= ret) _ _ _
  refine wpAny_bind (wpAny_holding (wpAny_call (exc_class_get (s := ⟨hh, g, d, t + 1, os⟩) X I c.mo ?_)))
  show wpAny _ _ (ret (Value.ref C)) _ _ _
  refine wpAny_pure ?_
  show wpAny _ _ (handedOut (Value.ref C)) _ _ _
  exact PySem.W.handed_on rfl (wpAny_pure h)
end
end L2

set_option Elab.async false
set_option linter.all false
set_option maxRecDepth 100000
/-! isinstance; try; small operations -/
namespace L2
open PySem PySem.Spec PyProof.Rows

/-! ### isinstance -/
/-- the class of a value: a built-in one, an own one, an exception's -/
inductive TyX (K : PySem.W.Frag) (H : Hp) : V → Value → Prop where
  | of {v : V} {t : Value} (h : TyOf K H v t) : TyX K H v t
  | exc {e C : Addr} (h : H e = some (excO e C)) (c : ExcCls K C) : TyX K H (.ref e) (.ref C)

theorem kitx_exc {K : PySem.W.Frag} {e C : Addr} (c : ExcCls K C) : PySem.W.KitX K (.ref e) (.ref C) (fun h => ∃ oe, h.get? e = some oe ∧ oe.cls = .ref C) where
  ty := fun M h _ ⟨oe, h1, h2⟩ => h2 ▸ (PySem.W.Looks.ld h1).andThen .now
  it := fun _ _ X _ => by
    have z := c.cls
    unfold PySem.W.clsIn at z
    split at z
    · rename_i c' d' cd' sl' ho
      intro A' Q' E' s' k q
      unfold isType loadHead
      exact wpAny_bind (wpAny_loadPart (k _ _ (X _ _ ho)) (wpAny_pure q))
    · cases z
  ne := fun h tp dd its n sl X htp => by
    refine Bool.eq_false_iff.mpr fun q => ?_
    have e : C = tp := Value.ref.inj (beq_iff_eq.mp q)
    subst e
    have z := c.cls
    unfold PySem.W.clsIn at z
    split at z
    · rename_i c' d' cd' sl' ho
      have z := (X _ _ ho).symm.trans htp
      cases z
    · cases z
  ca := fun X ⟨oe, h1, h2⟩ k => exc_ca X c (fun M => h2 ▸ (PySem.W.Looks.ld h1).andThen .now) k

section
variable {X : Cx} {pins : List (Addr × Obj)} {σ : St} {H : Hp} {s : Shared}
theorem TyX.kit {x : V} {u t : Value} (I : Inv X pins σ H s) (rx : RelV x u) (ty : TyX X.K H x t) : ∃ φ : Heap → Prop, PySem.W.KitX X.K u t φ ∧ φ s.heap ∧ u ≠ .builtin "__main__.__loader__#opaque" := by
  cases ty with
  | exc h c =>
    rename_i e C
    cases (show u = Value.ref e from rx)
    obtain ⟨z, _⟩ := I.hok e _ h
    exact ⟨_, kitx_exc c, z, fun z => nomatch z⟩
  | of ty =>
    cases ty with
    | non => cases (show u = Value.none from rx); exact ⟨_, PySem.W.kitx_none, True.intro, fun z => nomatch z⟩
    | bl y => cases (show u = Value.bool y from rx); exact ⟨_, PySem.W.kitx_bool, True.intro, fun z => nomatch z⟩
    | int i => obtain ⟨t, q⟩ := (show ∃ t, u = Value.int i t from rx); cases q; exact ⟨_, PySem.W.kitx_int, True.intro, fun z => nomatch z⟩
    | str y => obtain ⟨t, q⟩ := (show ∃ t, u = Value.str y t from rx); cases q; exact ⟨_, PySem.W.kitx_str, True.intro, fun z => nomatch z⟩
    | flt y => obtain ⟨t, q⟩ := (show ∃ t, u = Value.float y t from rx); cases q; exact ⟨_, PySem.W.kitx_float, True.intro, fun z => nomatch z⟩
    | @lst a xs ea =>
      cases (show u = Value.ref a from rx)
      obtain ⟨_, _, n, _, h1⟩ := (show ObjOk X.prog X.w H s.heap a (.lst xs) from I.hok a _ ea)
      exact ⟨_, PySem.W.kitx_list, ⟨_, h1, rfl⟩, fun z => nomatch z⟩
    | @frz a ob xs ea =>
      cases (show u = Value.ref a from rx)
      obtain ⟨_, _, _, n, _, h1⟩ := (show ObjOk X.prog X.w H s.heap a (.frz ob (.lst xs)) from I.hok a _ ea)
      exact ⟨_, PySem.W.kitx_list, ⟨_, h1, rfl⟩, fun z => nomatch z⟩
    | @tup a xs ea =>
      cases (show u = Value.ref a from rx)
      obtain ⟨_, _, _, p⟩ := (show ObjOk X.prog X.w H s.heap a (.tup xs) from I.hok a _ ea)
      obtain ⟨o, h1, h2, _⟩ := p
      exact ⟨_, PySem.W.kitx_tuple, ⟨o, h1, h2⟩, fun z => nomatch z⟩
    | @dK a kvs ea =>
      cases (show u = Value.ref a from rx)
      obtain ⟨_, _, vs, _, p⟩ := (show ObjOk X.prog X.w H s.heap a (.dK kvs) from I.hok a _ ea)
      obtain ⟨o, es, ep, h1, h2, _⟩ := p
      exact ⟨_, PySem.W.kitx_dict, ⟨o, h1, h2.1⟩, fun z => nomatch z⟩
    | @dT a kvs ea =>
      cases (show u = Value.ref a from rx)
      obtain ⟨_, _, xs, _, o, es, ep, h1, h2, _⟩ := (show ObjOk X.prog X.w H s.heap a (.dT kvs) from I.hok a _ ea)
      exact ⟨_, PySem.W.kitx_dict, ⟨o, h1, h2.1⟩, fun z => nomatch z⟩
    | @ins a C dx fs ea cl ha hn htk hm =>
      cases (show u = Value.ref a from rx)
      obtain ⟨mA, O, _⟩ := ins_get I.hok ea
      obtain ⟨od, J, _⟩ := O.look
      exact ⟨_, PySem.W.kitx_own (cl.get _) cl.hd ha hn htk hm, J, fun z => nomatch z⟩

/-- a class as a value -/
def clsV : V → Option Value
  | .ty n => some (.type n)
  | .ref a => some (.ref a)
  | _ => none
theorem clsV_rel {c : V} {cv u : Value} (h : clsV c = some cv) (r : RelV c u) : u = cv := by
  cases c <;> first | (cases h; exact r) | cases h
theorem clsVs_rel : ∀ {cs : List V} {cvs us : List Value}, cs.map clsV = cvs.map some → Vals cs us → us = cvs
  | [], [], _, _, .nil => rfl
  | [], _ :: _, _, h, _ => by cases h
  | _ :: _, [], _, h, _ => by cases h
  | c :: cs, cv :: cvs, _, h, .cons r t => by
    have h' := List.cons.inj (show clsV c :: cs.map clsV = some cv :: cvs.map some from h)
    rw [clsV_rel h'.1 r, clsVs_rel h'.2 t]
theorem call_isi : CallR X (.builtin "isinstance") (fun xs H Q => ∃ v c t cv b, xs = [v, c] ∧ clsV c = some cv ∧ TyX X.K H v t ∧ PySem.W.kitOne X.K t cv = some b ∧ Q (.bl b) H) := by
  intro pins s σ H xs us Q I r h
  obtain ⟨v, c, t, cv, b, rfl, hc, ty, hk, q⟩ := h
  obtain ⟨u, cu, rfl, ru, rc⟩ := vals2 r
  obtain rfl := clsV_rel hc rc
  obtain ⟨φ, Z, p, ne⟩ := ty.kit I ru
  exact PySem.W.kia_one Z I.kIn p hk ne fun tk => ⟨.bl b, H, I.tok tk, rfl, q⟩
/-- isinstance(x, (A, B, ..)) -/
theorem call_isiT : CallR X (.builtin "isinstance") (fun xs H Q => ∃ v tp cs t cvs b, xs = [v, .ref tp] ∧ H tp = some (.tup cs) ∧ cs.map clsV = cvs.map some ∧ TyX X.K H v t ∧ PySem.W.kitAny X.K t cvs = some b ∧ Q (.bl b) H) := by
  intro pins s σ H xs us Q I r h
  obtain ⟨v, tp, cs, t, cvs, b, rfl, ht, hc, ty, hk, q⟩ := h
  obtain ⟨u, cu, rfl, ru, rc⟩ := vals2 r
  cases (show cu = Value.ref tp from rc)
  obtain ⟨φ, Z, p, ne⟩ := ty.kit I ru
  obtain ⟨_, its, rv, o, h1, h2, n, h3⟩ := (show ObjOk X.prog X.w H s.heap tp (.tup cs) from I.hok tp _ ht)
  obtain rfl := clsVs_rel hc rv
  obtain ⟨oc, od, odt, osl⟩ := o
  dsimp only at h2 h3
  subst h2 h3
  exact PySem.W.kia_tup Z I.kIn p h1 hk ne fun tk => ⟨.bl b, H, I.tok tk, rfl, q⟩
end

section
variable {X : Cx}
/-! the same with the written part by its own name (inside a handler's suite, a block) -/
theorem ix_listK (K : PySem.W.Frag) (h : X.K = K := by rfl) : IxR X (rIxL K) := h ▸ ix_list
theorem ix_tupK (K : PySem.W.Frag) (h : X.K = K := by rfl) : IxR X (rIxT K) := h ▸ ix_tup
end

/-! ### try .. except C as n -/
/-- Ex: what is wanted of an exception that flies out of the body; i: the name's slot -/
def tTry (tb : XS → TS) (K : PySem.W.Frag) (S : Addr) (i : Nat) (th : TS) : TS := fun D σ H =>
  tb (fun c σ' H' => ∃ C, c = .ref C ∧ PySem.W.mroIn K C (.ref S) = some true ∧ ∀ e, H' e = none →
    th { nx := fun σ2 H2 => D.nx (σ2.set i none) H2, rt := D.rt, bk := fun σ2 H2 => D.bk (σ2.set i none) H2, ct := fun σ2 H2 => D.ct (σ2.set i none) H2 } (σ'.set i (some (.ref e))) (upd H' e (excO e C))) D σ H
theorem ps_try {X : Cx} {body suite : List Stmt} {b₀ : Stmt} {x n : Str} {S : Addr} {i : Nat} {np hpos pos : Pos} {tb : XS → TS} {th : TS} (O : Own X) (hc : X.calm = true) (hb : ∀ pins Ex, PSs (tryX X pins Ex) body (tb Ex)) (hg : Gl X x) (hm : X.mg x = some (.ref S)) (cS : ExcCls X.K S)
    (hN : X.N.Nodup) (hi : X.N[i]? = some n) (hl : X.env.scope.names.lookup n = some .local) (hh : ∀ e, PSs (hanX X e) (b₀ :: suite) th) (hd : (x == ("__debug__" : Str)) = false := by decide) :
    PS X (.Try body [.ExceptHandler (some (.Name x np)) (some n) (b₀ :: suite) hpos] [] [] pos) (tTry tb X.K S i th) := by
  intro pins s σ H D I h
  refine wpAny_Try_except (wpAny_mono (hb pins _ [] s σ H D (I.tryIn _) h) (fun f s1 q => ?_) fun ev s1 q => ?_)
  · cases f with
    | next => obtain ⟨σ1, H1, I1, q1⟩ := q; exact wpAny_execs_nil ⟨σ1, H1, I1.tryOut, q1⟩
    | brk => obtain ⟨σ1, H1, I1, q1⟩ := q; exact ⟨σ1, H1, I1.tryOut, q1⟩
    | cont => obtain ⟨σ1, H1, I1, q1⟩ := q; exact ⟨σ1, H1, I1.tryOut, q1⟩
    | ret u => obtain ⟨v1, σ1, H1, I1, r1, q1⟩ := q; exact ⟨v1, σ1, H1, I1.tryOut, r1, q1⟩
  · obtain ⟨e, C, σ1, H1, s2, H2, rfl, I2, F, C', ec, hs, k⟩ := q
    cases ec
    have hfr := I2.ok.frames
    obtain ⟨a0, B, fl, go⟩ := F.more
    have st := O.st
    rw [st] at hfr
    have fl' : Heap.FlyingW B (X.env :: X.outer) e (.ref C) a0 s1.heap := st ▸ fl
    refine wpAny_looks_onW hfr O.fr fl' fun h1 held1 up1 => ?_
    refine wpAny_landsW held1 fun h2 fl2 up2 => ?_
    have F2 : Fly X.prog X.w X.stack H1 s2 e C H2 { s1 with heap := h2 } := go h2 (st.symm ▸ fl2) (up1.trans up2)
    have I3 := F2.inv I2
    have I3h := I3.han e
    obtain ⟨oe, vs, he, hec, _⟩ := F2.obj
    refine wpAny_handleBy_cons (codeAny_handlers_test (ld_glob (X := hanX X e) I3h hg hm ?_ hd)) (by intro q; cases q)
    refine exc_matches (K := X.K) I3.kIn cS he hec hs ?_
    refine codeAny_handlers_suite_as (lands_againW fl2 fun h3 fl3 up3 => ?_)
    have F3 : Fly X.prog X.w X.stack H1 s2 e C H2 { s1 with heap := h3 } := go h3 (st.symm ▸ fl3) ((up1.trans up2).trans up3)
    have I4 := F3.inv I2
    have nw := F3.new
    have hn := F3.untracked
    obtain ⟨oe3, vs3, he3, hec3, _⟩ := F3.obj
    have I5 : Inv X pins σ1 (upd H2 e (excO e C)) { s1 with heap := h3 } := by
      refine I4.track hn ?_ ?_ (fun y c q z => ?_) (fun p hp z => ?_) (fun z => ?_) ⟨⟨oe3, he3, hec3⟩, ⟨oe3, he3⟩, fun g1 g2 q1 q2 => ?_⟩
      · cases q : X.s₀.heap.get? e with
        | none => rfl
        | some o =>
          obtain ⟨o', z⟩ := I2.base.there e o q (O.nex e)
          rw [nw] at z
          cases z
      · rintro rfl
        obtain ⟨m, ⟨o, _, _, ho, _⟩, _⟩ := I2.loc
        rw [nw] at ho
        cases ho
      · subst z
        obtain ⟨v, o, ho, _⟩ := I2.cell y c q
        rw [nw] at ho
        cases ho
      · have ho := (I2.pin p hp).1
        rw [z, nw] at ho
        cases ho
      · obtain ⟨_, o, ho, _⟩ := I2.funs.mem z
        rw [nw] at ho
        cases ho
      · obtain ⟨o, z1, z2⟩ := q1
        exact ⟨o, q2 o z1, z2⟩
    refine store_ok (X := hanX X e) (v := .ref e) (I5.han e) hN hi (.inl hl) rfl (fun s4 I6 => ?_) (.inr hl)
    refine wpAny_mono (hh e pins s4 _ _ _ I6 (k e hn)) (fun f s5 q5 => ?_) fun _ _ z => z.elim
    have hdl : X.calm = true → X.A.handled = none := I2.ok.hd
    cases f with
    | next => obtain ⟨σ5, H5, I7, q7⟩ := q5; exact name_goes (I7.unhan hdl) hN hi hl fun s6 I8 => ⟨_, H5, I8, q7⟩
    | brk => obtain ⟨σ5, H5, I7, q7⟩ := q5; exact name_goes (I7.unhan hdl) hN hi hl fun s6 I8 => ⟨_, H5, I8, q7⟩
    | cont => obtain ⟨σ5, H5, I7, q7⟩ := q5; exact name_goes (I7.unhan hdl) hN hi hl fun s6 I8 => ⟨_, H5, I8, q7⟩
    | ret u => obtain ⟨v5, σ5, H5, I7, r7, q7⟩ := q5; exact name_goes (I7.unhan hdl) hN hi hl fun s6 I8 => ⟨v5, _, H5, I8, r7, q7⟩

/-! ### small operations -/
section
variable {X : Cx}
/-- + of lists that are read -/
def rCatQ (K : PySem.W.Frag) : R2 := fun x y H Q => ∃ l b xs zs, x = .ref l ∧ y = .ref b ∧ SqL K H l xs ∧ SqL K H b zs ∧ xs.length + zs.length ≤ sizeLine ∧ ∀ p, H p = none → Q (.ref p) (upd H p (.lst (xs ++ zs)))
theorem op_catQ : OpR X (binaryOp .Add) (rCatQ X.K) := by
  intro pins s σ H x y v u Q I rx ry h
  obtain ⟨l, b, xs, zs, rfl, rfl, hH, hB, hz, q⟩ := h
  cases rx
  cases ry
  obtain ⟨its, r, pl, hl⟩ := I.list hH
  obtain ⟨its2, r2, pl2, hl2⟩ := I.list hB
  obtain ⟨⟨cls, dd, data, sl⟩, n, ho, hc, _, hd⟩ := pl
  obtain ⟨⟨cls2, dd2, data2, sl2⟩, n2, ho2, hc2, _, hd2⟩ := pl2
  dsimp only at hc hd hc2 hd2
  subst hc hd hc2 hd2
  have ea : its.toArray ++ its2.toArray = (its ++ its2).toArray := by simp
  refine concat_meets ⟨_, ho, rfl⟩ ⟨_, ho2, rfl⟩ noFill_list_add seq_list_add PySem.F.slot_list_add PySem.F.entry_list_add (PySem.F.args_list_add_2 _ _) (list_addW l b its.toArray its2.toArray n n2 dd dd2 sl sl2 (by rw [List.size_toArray, List.size_toArray, ← r.length, ← r2.length]; exact hz)) ⟨ho, ho2, ?_⟩
  rw [ea]
  exact ⟨.ref _, _, I.lnew (t' := s.toks) (r.append r2) (by rw [List.length_append]; exact hz), rfl, q _ I.fresh⟩
/-- == and != of lists of ints -/
def rEqL (K : PySem.W.Frag) (f : Bool → Bool) : R2 := fun x y H Q => ∃ (l b : Addr) (ns ms : List Int), x = .ref l ∧ y = .ref b ∧ SqL K H l (ns.map V.int) ∧ SqL K H b (ms.map V.int) ∧ Q (.bl (f (decide (ns = ms)))) H
theorem op_eqL (hu : X.A.units + 64 < cLine) : OpR X (compareOp .Eq) (rEqL X.K id) := by
  intro pins s σ H x y v u Q I rx ry h
  obtain ⟨l, b, ns, ms, rfl, rfl, hH, hB, q⟩ := h
  cases rx
  cases ry
  obtain ⟨its, r, pl, hl⟩ := I.list hH
  obtain ⟨its2, r2, pl2, hl2⟩ := I.list hB
  exact PySem.W.eq_intsK pl.isList (intsAre_of r) pl2.isList (intsAre_of r2) hu ⟨.bl (decide (ns = ms)), H, I, rfl, q⟩
/-- * of ints whose sizes are known -/
def CMulB (i j : Int) : Prop := CMul i j ∨ (i.natAbs < 2 ^ 2000000 ∧ j.natAbs < 2 ^ 2000000)
theorem CMulB.ok {i j : Int} (h : CMulB i j) : IntMulOk i j := by
  rcases h with h | ⟨h1, h2⟩
  · exact h.ok
  · exact IntMulOk.of_le (m := 2000000) (n := 2000000) (intBits_le_iff.mpr h1) (intBits_le_iff.mpr h2) (by decide)
theorem op_mulB : OpR X (binaryOp .Mult) (rI CMulB fun i j => .int (i * j)) := opI fun i j t u s Q E hc h => mul_int h hc.ok
/-- // by any divisor that has not thousands of figures -/
def CDivB (_ j : Int) : Prop := j ≠ 0 ∧ j.natAbs < 2 ^ 8000
theorem CDivB.ok {i j : Int} (h : CDivB i j) : Builtin.divisionGoesByPylong i j = false := by
  obtain ⟨h0, h1⟩ := h
  have hl : j.natAbs.log2 < 8000 := (Nat.log2_lt (by omega)).mpr h1
  have hd : ¬ ((if (j == 0) = true then 0 else j.natAbs.log2 / 30 + 1) > 300) := by
    split
    · omega
    · omega
  show (decide ((if (j == 0) = true then 0 else j.natAbs.log2 / 30 + 1) > 300) && _) = false
  rw [decide_eq_false hd, Bool.false_and]
theorem op_fdivB : OpR X (binaryOp .FloorDiv) (rI CDivB fun i j => .int (i.fdiv j)) := opI fun i j t u s Q E hc h => floordiv_int hc.1 h (.inl hc.ok)
/-- {} -/
theorem Inv.big {pins : List (Addr × Obj)} {σ : St} {H : Hp} {s : Shared} (I : Inv X pins σ H s) : sysModules < s.heap.objs.size := by
  have h : mainGlobals < s.heap.objs.size := (I.mod.glob.keeps I.bk).lt
  exact Nat.lt_trans (by decide) h
theorem dk_empty {P : Program} {w : World} {H : Hp} (h : Heap) (hb : sysModules < h.objs.size) : ObjOk P w H (h.push { cls := .type "dict", data := .dict #[] }) h.objs.size (.dK []) :=
  ⟨Nat.zero_le _, beq_eq_false_iff_ne.mpr (Ne.symm (Nat.ne_of_lt hb)), [], .nil, Heap.DictOf.new h⟩
def tDNewK : TE := fun _ H Q => ∀ p, H p = none → Q (.ref p) (upd H p (.dK []))
theorem pe_dnewK {pos : Pos} : PE X (.Dict [] [] pos) tDNewK := fun pins s σ H Q I h =>
  wpAny_Dict_empty ⟨.ref s.heap.objs.size, _, I.laid (a := s.heap.objs.size) (o := .dK []) (t' := s.toks) (fun _ _ q => Heap.get?_push_of_some _ q) (Nat.le_refl _) (dk_empty s.heap I.big), rfl, h _ (I.hok.fresh (Nat.le_refl _))⟩
end
end L2

set_option Elab.async false
set_option linter.all false
set_option maxRecDepth 100000
/-! defs by their names; forms one uses -/
namespace L2
open PySem PySem.Spec PyProof.Rows

/-- the text of a def of the module, as it stands behind the top -/
structure Tx (K : PySem.W.Frag) (mg : Str → Option Value) (x : Str) (st : Stmt) (ps : List Str) (f : Addr) (fd : FuncData) : Prop where
  fn : Fun K x x st f fd
  at_ : mg x = some (.ref f)
  bd : ∀ us : List Value, us.length = ps.length → bindArgs fd ⟨us, []⟩ = pure (ps.zip us)
theorem tx_mk {K : PySem.W.Frag} {mg : Str → Option Value} {h : Heap} {x : Str} {st : Stmt} {ps : List Str} {f : Addr} {oc : Value} {od an : Option Addr} {osl : Array (Option Value)} {kV doc pm cdv ct : Value} (X : K.In h) (G : h.Ns mainGlobals mg)
    (a : PySem.W.nsIn K mainGlobals x = some (some (.ref f))) (l : K.lookup f = some ⟨oc, od, .func (PySem.W.fnOf x x (defArgs st) (defBody st) (defScope st) .none kV doc pm an cdv ct), osl⟩)
    (c : PySem.W.codeIn K cdv x = true) (k : PySem.W.keepIn K (.ref f) = true)
    (hb : ∀ (kV doc pm : Value) (an : Option Addr) (cdv ct : Value) (us : List Value), us.length = ps.length → bindArgs (PySem.W.fnOf x x (defArgs st) (defBody st) (defScope st) .none kV doc pm an cdv ct) ⟨us, []⟩ = pure (ps.zip us)) :
    ∃ f fd, Tx K mg x st ps f fd := ⟨f, _, fun_mk l c k, PySem.W.mg_of X G a, hb kV doc pm an cdv ct⟩

/-- a def's promise, by its name -/
structure Df (P : Program) (w : World) (K : PySem.W.Frag) (mg : Str → Option Value) (base : Heap) (CX : CXT) (k : Nat) (x : Str) (ps : List Str) (sp : Sp) (f : Addr) (fd : FuncData) : Prop where
  at_ : mg x = some (.ref f)
  kp : PySem.W.keepIn K (.ref f) = true
  ok : FnOk P w K mg base CX k f fd ps sp
  bd : Binds K fd ps []
section
variable {P : Program} {w : World} {K : PySem.W.Frag} {mg : Str → Option Value} {base : Heap} {x : Str} {st : Stmt} {ps N : List Str} {f : Addr} {fd : FuncData} {k : Nat} {sp : Sp}
theorem Tx.df0 (t : Tx K mg x st ps f fd) (S : FnScope N ps (defScope st)) (len : ∀ vs H Q E, sp vs H Q E → vs.length = ps.length)
    (hbody : ∀ (cdv : Value) (A : Around) (outer : List Env) (s : Shared) (H : Hp) (vs : List V) (Q : VK) (E : XK), Room k (A.deeper (envOfC x (defScope st) s.heap.objs.size f cdv)) → sp vs H Q E →
      ∃ t, PSs (cxOf CX0 P w K mg base N x (defScope st) f cdv A outer s H E).nox (defBody st) t ∧ t { nx := fun _ H' => Q .non H', rt := Q } (start N vs) H) : Df P w K mg base CX0 (k + 1) x ps sp f fd :=
  ⟨t.at_, t.fn.kp, t.fn.ok S len hbody, .all t.bd⟩
theorem Tx.df1 (t : Tx K mg x st ps f fd) (S : FnScope N ps (defScope st)) (len : ∀ vs H Q E, sp vs H Q E → vs.length = ps.length)
    (hbody : ∀ (cdv : Value) (A : Around) (outer : List Env) (s : Shared) (H : Hp) (vs : List V) (Q : VK) (E : XK), Room k (A.deeper (envOfC x (defScope st) s.heap.objs.size f cdv)) → sp vs H Q E →
      ∃ t, PSs (cxOf (CX1 P w) P w K mg base N x (defScope st) f cdv A outer s H E) (defBody st) t ∧ t { nx := fun _ H' => Q .non H', rt := Q } (start N vs) H) : Df P w K mg base (CX1 P w) (k + 1) x ps sp f fd :=
  ⟨t.at_, t.fn.kp, t.fn.ok1 S len hbody, .all t.bd⟩
end
section
variable {X : Cx} {Ex : XS} {k j : Nat} {f : Addr} {fd : FuncData} {ps : List Str} {sp : Sp} {x : Str} {p pos : Pos} {e : Expr} {es : List Expr} {t : TA}
/-- f(..) of a def that raises nothing -/
theorem pe_d0 (D : Df X.prog X.w X.K X.mg X.base CX0 k x ps sp f fd) (hr : Room j X.A) (hj : k ≤ j) (hg : Gl X x) (ha : PA X (e :: es) t) (hdb : (x == ("__debug__" : Str)) = false := by decide) (he : starEach (e :: es) X.env = (false, eval e X.env) :: starEach es X.env := by rfl) (hpl : (backTo pos (starEach es X.env)).any (·.1) = false := by rfl) :
    PE X (.Call (.Name x p) (e :: es) [] pos) (tCall sp [] E0 t) := pe_call D.ok (hr.mono hj) hg D.at_ D.kp D.bd .nil pass0 ha hdb he hpl
/-- .. of one that may -/
theorem pe_d1 (R : Pass X Ex) (D : Df X.prog X.w X.K X.mg X.base (CX1 X.prog X.w) k x ps sp f fd) (hr : Room j X.A) (hj : k ≤ j) (hg : Gl X x) (ha : PA X (e :: es) t) (hdb : (x == ("__debug__" : Str)) = false := by decide) (he : starEach (e :: es) X.env = (false, eval e X.env) :: starEach es X.env := by rfl) (hpl : (backTo pos (starEach es X.env)).any (·.1) = false := by rfl) :
    PE X (.Call (.Name x p) (e :: es) [] pos) (tCallX sp [] Ex t) := pe_callX R D.ok (hr.mono hj) hg D.at_ D.kp D.bd .nil ha hdb he hpl
end
/-- nothing may leave -/
theorem pass_no {X : Cx} : Pass X (fun _ _ _ => False) := ⟨fun _ _ _ _ _ _ _ _ _ _ q => q.elim⟩

/-- an item of a list at a place within it -/
theorem atI_in {α : Type} {xs : List α} {i : Int} (h0 : 0 ≤ i) (h1 : i < xs.length) : ∃ v, atI xs i = some v ∧ v ∈ xs := by
  have hn : i.toNat < xs.length := by omega
  refine ⟨xs[i.toNat], ?_, List.getElem_mem hn⟩
  have z := atI_nat (xs := xs) (j := i.toNat) (List.getElem?_eq_getElem hn)
  rw [Int.toNat_of_nonneg h0] at z
  exact z
theorem Same.upd_new {H : Hp} {p : Addr} {o : HO} (h : H p = none) : Same H (upd H p o) := fun b u e => by
  rw [upd_ne (ne_of_none e h)]
  exact e
theorem Same.ty {K : PySem.W.Frag} {H H' : Hp} {v : V} {t : Value} (s : Same H H') (h : TyOf K H v t) : TyOf K H' v t := by
  cases h with
  | non => exact .non
  | bl x => exact .bl x
  | int i => exact .int i
  | str x => exact .str x
  | flt x => exact .flt x
  | lst e => exact .lst (s _ _ e)
  | frz e => exact .frz (s _ _ e)
  | tup e => exact .tup (s _ _ e)
  | dK e => exact .dK (s _ _ e)
  | dT e => exact .dT (s _ _ e)
  | ins e cl ha hn htk hm => exact .ins (s _ _ e) cl ha hn htk hm

theorem bt_isi : bootBuiltins "isinstance" = some (.builtin "isinstance") := by decide +kernel
theorem bt_int : bootBuiltins "int" = some (.type "int") := by decide +kernel
theorem bt_bool : bootBuiltins "bool" = some (.type "bool") := by decide +kernel
theorem bt_list : bootBuiltins "list" = some (.type "list") := by decide +kernel
theorem bt_tuple : bootBuiltins "tuple" = some (.type "tuple") := by decide +kernel
theorem bt_len : bootBuiltins "len" = some (.builtin "len") := by decide +kernel
theorem bt_ve : bootBuiltins "ValueError" = some (.type "ValueError") := by decide +kernel

theorem exc_mk {K : PySem.W.Frag} {C : Addr} (h2 : PySem.W.typeIn K (.ref C) = some (.type "type")) (h3 : PySem.W.findIn K (.ref C) "__getattribute__" = some (some (.builtin "BaseException.__getattribute__"))) (h4 : PySem.W.findIn K (.ref C) "__getattr__" = some none)
    (h5 : PySem.W.findIn K (.ref C) "__class__" = some (some (.builtin "object.__class__"))) (h6 : PySem.W.specialIn K (.builtin "object.__class__") "__get__" = some (some (.builtin "getset_descriptor.__get__"))) (h7 : PySem.W.takesIn K (.builtin "object.__class__") = some true)
    (h8 : PySem.W.mroIn K C (.type "object") = some true) (h9 : PySem.W.mroIn K C (.type "BaseException") = some true) : ExcCls K C := by
  refine ⟨?_, h2, h3, h4, h5, h6, h7, h8, h9⟩
  unfold PySem.W.mroIn at h8
  obtain ⟨cd, a, _⟩ := Option.bind_eq_some_iff.mp h8
  rw [a]
  rfl

/-! ### is it a number -/
/-- the built-in kinds that turn up -/
inductive Kd : String → Prop where
  | non : Kd "NoneType"
  | bl : Kd "bool"
  | int : Kd "int"
  | str : Kd "str"
  | tup : Kd "tuple"
  | lst : Kd "list"
  | dic : Kd "dict"
theorem Kd.int_ (K : PySem.W.Frag) {T : String} (h : Kd T) : PySem.W.kitOne K (.type T) (.type "int") = some (T == "int" || T == "bool") := by
  cases h <;> rfl
theorem Kd.bool_ (K : PySem.W.Frag) {T : String} (h : Kd T) : PySem.W.kitOne K (.type T) (.type "bool") = some (T == "bool") := by
  cases h <;> rfl
theorem Kd.list_ (K : PySem.W.Frag) {T : String} (h : Kd T) : PySem.W.kitOne K (.type T) (.type "list") = some (T == "list") := by
  cases h <;> rfl
theorem Kd.tuple_ (K : PySem.W.Frag) {T : String} (h : Kd T) : PySem.W.kitOne K (.type T) (.type "tuple") = some (T == "tuple") := by
  cases h <;> rfl
def isI : V → Bool
  | .int _ => true
  | _ => false
/-- a value of one of these kinds -/
structure Pl (K : PySem.W.Frag) (H : Hp) (v : V) : Prop where
  ex : ∃ T, TyOf K H v (.type T) ∧ Kd T
theorem Pl.int {K : PySem.W.Frag} {H : Hp} (i : Int) : Pl K H (.int i) := ⟨_, .int i, .int⟩
theorem Pl.isI {K : PySem.W.Frag} {H : Hp} {v : V} {T : String} (h : TyOf K H v (.type T)) : isI v = (T == "int") := by
  cases h <;> rfl
theorem Pl.same {K : PySem.W.Frag} {H H' : Hp} {v : V} (h : Pl K H v) (s : Same H H') : Pl K H' v := let ⟨T, a, b⟩ := h.ex; ⟨T, s.ty a, b⟩
def inB (lo hi : Int) : V → Bool
  | .int i => decide (lo ≤ i) && decide (i ≤ hi)
  | _ => false
end L2

set_option Elab.async false
set_option linter.all false
set_option maxRecDepth 100000
/-! for a, b in zip(xs, ys): two lists that are read -/
namespace L2
open PySem PySem.Spec PyProof.Rows
section
variable {X : Cx} {pins : List (Addr × Obj)} {σ : St} {H H' : Hp} {s : Shared} {h' : Heap}
/-- records of ours have turned -/
theorem Inv.turnedL {t' : Nat} {fp : List Addr} (I : Inv X pins σ H s) (k : ∀ b o, b ∉ fp → s.heap.get? b = some o → h'.get? b = some o) (hf : ∀ b ∈ fp, FpOk X pins H b) : Inv X pins σ H { s with heap := h', toks := t' } := by
  have nit : ∀ b u, H b = some u → b ∉ fp := fun b u e z => by rw [(hf b z).1] at e; cases e
  refine I.step (g' := s.gens) (d' := s.drawn) (ch := fp) (fun b hb => ?_) (fun b o _ _ hc e _ => k b o hc e) (fun b o _ _ hc e _ => ⟨o.slots, k b o hc e⟩) (fun _ _ _ _ n => n)
    (fun b o hc e => ⟨o, k b o hc e⟩) (fun _ _ e => e) (fun _ _ _ e => e) (fun b ps e => ⟨#[], by rw [e]; simp⟩) (fun m hm => ?_) (fun b u e => ?_) I.bare
  · obtain ⟨_, f1, _, f3, f4, f5⟩ := hf b hb
    exact ⟨f3, f1, f4, f5⟩
  · obtain ⟨o, es, ep, ho, r⟩ := hm
    exact ⟨o, es, ep, k _ o (fun z => (hf _ z).2.1 rfl) ho, r⟩
  · refine (I.hok b u e).stay (fun c v hc q => k c v ?_ q) (fun _ q => q) fun _ _ q => q
    rcases hc with z | z
    · rw [z]; exact nit b u e
    · exact nit c _ z
end

/-- the pairs of the lists at l1 and l2, by turns, each a new tuple -/
def Itz (K : PySem.W.Frag) (l1 l2 : Addr) : It :=
  ⟨fun i H => ∃ xs ys x y, SqL K H l1 xs ∧ SqL K H l2 ys ∧ xs[i]? = some x ∧ ys[i]? = some y,
   fun i H v H' => ∃ t x y, v = .ref t ∧ H t = none ∧ H' = upd H t (.tup [x, y]) ∧ (∀ xs, SqL K H l1 xs → xs[i]? = some x) ∧ ∀ ys, SqL K H l2 ys → ys[i]? = some y,
   fun i H => ∃ xs ys, SqL K H l1 xs ∧ SqL K H l2 ys ∧ (xs.length ≤ i ∨ ys.length ≤ i)⟩
def zipTn (z TI TO i1 i2 l1 l2 : Addr) (i : Nat) (h : Heap) : Prop :=
  IsZip h z TI TO .none ∧ IsPair h TI (.ref i1) (.ref i2) ∧ (∃ a b, IsPair h TO a b) ∧ h.IsListIter i1 l1 i ∧ h.IsListIter i2 l2 i
def iZip (K : PySem.W.Frag) (ta : TA) : TI := fun σ H R => ta σ H fun vs H1 => ∃ l1 l2, vs = [.ref l1, .ref l2] ∧ (∃ xs, SqL K H1 l1 xs) ∧ (∃ ys, SqL K H1 l2 ys) ∧ R (Itz K l1 l2) H1
end L2

set_option Elab.async false
set_option linter.all false
set_option maxRecDepth 100000
/-! a def that is called while an exception is handled -/
namespace L2
open PySem PySem.Spec PyProof.Rows
/-- the same place, nothing handled -/
@[reducible] def calmA (A : Around) : Around := { A with handled := none }
structure RoomU (k : Nat) (A : Around) : Prop where
  dp : A.depth + 3 * k + 5 < recursionLimit
  un : A.units + 16 * k + 200 < cLine
theorem RoomU.mono {j k : Nat} {A : Around} (r : RoomU k A) (h : j ≤ k) : RoomU j A := ⟨Nat.lt_of_le_of_lt (by omega) r.dp, Nat.lt_of_le_of_lt (by omega) r.un⟩
theorem RoomU.room {k : Nat} {A : Around} (r : RoomU k A) : Room k (calmA A) := ⟨rfl, r.dp, r.un⟩
theorem RoomU.of {k : Nat} {A : Around} (r : Room k (calmA A)) : RoomU k A := ⟨r.dp, r.un⟩
theorem RoomU.han {k : Nat} {A : Around} {e : Addr} (r : Room k A) : RoomU k (A.mark (some (.ref e))) := ⟨r.dp, r.un⟩
theorem RoomU.deeper {k : Nat} {A : Around} (r : RoomU (k + 1) A) (env : Env) : RoomU k (A.deeper env) := RoomU.of (r.room.deeper env)

structure FnOkU (P : Program) (w : World) (K : PySem.W.Frag) (mg : Str → Option Value) (base : Heap) (k : Nat) (f : Addr) (fd : FuncData) (ps : List Str) (sp : Sp) : Prop where
  len : ∀ vs H Q E, sp vs H Q E → vs.length = ps.length
  run : ∀ (A : Around) (outer : List Env) (s : Shared) (H : Hp) (args : Args) (us : List Value) (vs : List V) (Q : VK) (E : XK), RoomU k A → Env0 P w K mg base A outer s H → BindsTo s fd args (ps.zip us) → Vals vs us → sp vs H Q E →
    codeAny (model P w) A (.call (.ref f) args) (CR CX0 outer P w H s Q E) s
/-- a def's context, whatever is handled; nothing leaves -/
def cxU (P : Program) (w : World) (K : PySem.W.Frag) (mg : Str → Option Value) (base : Heap) (N : List Str) (qual : Str) (scope : Scope) (f : Addr) (cd : Value) (A : Around) (outer : List Env) (s : Shared) (H : Hp) : Cx :=
  { cxOf CX0 P w K mg base N qual scope f cd A outer s H E0 with calm := false, xe := fun _ _ => False }
theorem inv_startU {P : Program} {w : World} {K : PySem.W.Frag} {mg : Str → Option Value} {base : Heap} {N ps : List Str} {qual : Str} {scope : Scope} {f : Addr} {cd : Value} {A : Around} {outer : List Env} {s s1 : Shared} {H : Hp} {us : List Value} {vs : List V}
    (S : FnScope N ps scope) (e0 : Env0 P w K mg base A outer s H) (hl : vs.length = ps.length) (r : Vals vs us)
    (x : InCallC s s.heap.objs.size (bindL (envOfC qual scope s.heap.objs.size f cd).kindOf (ps.zip us) fun _ => none) (cellsFrom (s.heap.objs.size + 1) scope.names []) (bindC (envOfC qual scope s.heap.objs.size f cd).kindOf (ps.zip us) fun _ => none) s1) :
    Inv (cxU P w K mg base N qual scope f cd A outer s H) [] (start N vs) H s1 := by
  have e1 : Env0 P w K mg base (calmA A) outer s H := ⟨e0.frames, e0.mod, e0.bs, e0.bsz, e0.funs, e0.frf, e0.hok, e0.bare⟩
  have I := inv_start (CX := CX0) (E := E0) (qual := qual) (f := f) (cd := cd) (A := calmA A) S rfl e1 hl r x
  obtain ⟨⟨o1, o2, o3, o4, o5, o6, o7, o8, o9, o10, o11, o12, o13, o14, o15, o16, o17, o18⟩, i2, i3, i4, i5, i6, i7, i8, i9, i10, i11⟩ := I
  exact ⟨⟨o1, o2, o3, o4, o5, o6, o7, o8, fun z => (Bool.false_ne_true z).elim, o10, o11, o12, o13, o14, o15, o16, o17, o18⟩, i2, i3, i4, i5, i6, i7, i8, i9, i10, i11⟩
theorem fn_ofU {P : Program} {w : World} {K : PySem.W.Frag} {mg : Str → Option Value} {base : Heap} {k : Nat} {f : Addr} {name qual : Str} {params : Arguments} {body : List Stmt} {scope : Scope} {dV kV doc pm cdv ct oc : Value} {an od : Option Addr}
    {osl : Array (Option Value)} {N ps : List Str} {sp : Sp} (lk : K.lookup f = some ⟨oc, od, .func (PySem.W.fnOf name qual params body scope dV kV doc pm an cdv ct), osl⟩) (hcd : PySem.W.codeIn K cdv qual = true) (S : FnScope N ps scope)
    (len : ∀ vs H Q E, sp vs H Q E → vs.length = ps.length)
    (hbody : ∀ (A : Around) (outer : List Env) (s : Shared) (H : Hp) (vs : List V) (Q : VK) (E : XK), RoomU k (A.deeper (envOfC qual scope s.heap.objs.size f cdv)) → sp vs H Q E →
      ∃ t, PSs (cxU P w K mg base N qual scope f cdv A outer s H) body t ∧ t { nx := fun _ H' => Q .non H', rt := Q } (start N vs) H) :
    FnOkU P w K mg base (k + 1) f (PySem.W.fnOf name qual params body scope dV kV doc pm an cdv ct) ps sp := by
  refine ⟨len, fun A outer s H args us vs Q E hr e0 hb r hsp => ?_⟩
  have hl := len _ _ _ _ hsp
  have KX : K.In s.heap := e0.mod.kin.keeps fun b o e => (e0.bs b o e).1
  have lim : s.heap.NoLimit := e0.mod.nolimit.keeps fun b o e => (e0.bs b o e).1
  have hkind : ∀ y ∈ ps.zip us, scope.names.lookup y.1 = some .local ∨ (scope.names.lookup y.1 = some .cell ∧ ((cellsFrom (s.heap.objs.size + 1) scope.names []).lookup y.1).isSome = true) := fun ⟨n, v⟩ hy => by
    rcases S.par n (List.of_mem_zip hy).1 with q | q
    · exact .inl q
    · exact .inr ⟨q, PySem.W.cellsFrom_some _ _ _ (.inl q)⟩
  have hdp : A.depth < recursionLimit := Nat.lt_of_le_of_lt (by omega) hr.dp
  refine codeAny_call_function hdp (KX _ _ lk) rfl S.co S.gen rfl (PySem.W.codeRec_of KX hcd) (hb _ _ _ _ ?_)
  refine wpAny_newFunctionEnv_cells S.kind hkind fun env he s1 x => ?_
  subst he
  refine ⟨lim.keeps x.toInCall.keep, codeAny_func ?_⟩
  obtain ⟨t, ht, hq⟩ := hbody A outer s H vs Q E (hr.deeper _) hsp
  have I : Inv (cxU P w K mg base N qual scope f cdv A outer s H) [] (start N vs) H s1 := inv_startU S e0 hl r x
  refine wpAny_mono (ht [] s1 (start N vs) H _ I hq) (fun fl s' hs => ?_) fun e s' hs => False.elim hs
  have fin : ∀ {σ' : St} {H' : Hp} {v : V} {u : Value}, Inv (cxU P w K mg base N qual scope f cdv A outer s H) [] σ' H' s' → RelV v u → Q v H' → CE outer P w H s Q u s' :=
    fun {σ' H' v u} J rv q => ⟨v, H', J.os, J.bare, J.base, J.hok, rv, q⟩
  cases fl with
  | ret u =>
    obtain ⟨v, σ', H', J, rv, q⟩ := hs
    exact fin J rv q
  | next =>
    obtain ⟨σ', H', J, q⟩ := hs
    exact fin (v := V.non) (u := Value.none) J rfl q
  | brk =>
    obtain ⟨_, _, _, q⟩ := hs
    exact False.elim q
  | cont =>
    obtain ⟨_, _, _, q⟩ := hs
    exact False.elim q
structure DfU (P : Program) (w : World) (K : PySem.W.Frag) (mg : Str → Option Value) (base : Heap) (k : Nat) (x : Str) (ps : List Str) (sp : Sp) (f : Addr) (fd : FuncData) : Prop where
  at_ : mg x = some (.ref f)
  kp : PySem.W.keepIn K (.ref f) = true
  ok : FnOkU P w K mg base k f fd ps sp
  bd : Binds K fd ps []
theorem Tx.dfU {P : Program} {w : World} {K : PySem.W.Frag} {mg : Str → Option Value} {base : Heap} {x : Str} {st : Stmt} {ps N : List Str} {f : Addr} {fd : FuncData} {k : Nat} {sp : Sp} (t : Tx K mg x st ps f fd) (S : FnScope N ps (defScope st)) (len : ∀ vs H Q E, sp vs H Q E → vs.length = ps.length)
    (hbody : ∀ (cdv : Value) (A : Around) (outer : List Env) (s : Shared) (H : Hp) (vs : List V) (Q : VK) (E : XK), RoomU k (A.deeper (envOfC x (defScope st) s.heap.objs.size f cdv)) → sp vs H Q E →
      ∃ t, PSs (cxU P w K mg base N x (defScope st) f cdv A outer s H) (defBody st) t ∧ t { nx := fun _ H' => Q .non H', rt := Q } (start N vs) H) : DfU P w K mg base (k + 1) x ps sp f fd := by
  refine ⟨t.at_, t.fn.kp, ?_, .all t.bd⟩
  obtain ⟨oc, od, kV, doc, pm, an, cdv, ct, osl, rfl, lk, hcd⟩ := t.fn.ex
  exact fn_ofU lk hcd S len fun A outer s H vs Q E hr hsp => hbody cdv A outer s H vs Q E hr hsp
section
variable {X : Cx} {k j : Nat} {f : Addr} {fd : FuncData} {ps : List Str} {sp : Sp} {x : Str} {p pos : Pos} {e : Expr} {es : List Expr} {t : TA}
theorem pe_dU (D : DfU X.prog X.w X.K X.mg X.base k x ps sp f fd) (hr : RoomU j X.A) (hj : k ≤ j) (hg : Gl X x) (ha : PA X (e :: es) t) (hdb : (x == ("__debug__" : Str)) = false := by decide) (he : starEach (e :: es) X.env = (false, eval e X.env) :: starEach es X.env := by rfl) (hpl : (backTo pos (starEach es X.env)).any (·.1) = false := by rfl) :
    PE X (.Call (.Name x p) (e :: es) [] pos) (tCall sp [] E0 t) := by
  intro pins s σ H Q I h
  refine wpAny_Call_Name_kw (ld_glob I hg D.at_ ?_ hdb)
  refine PySem.W.callWith_K (h₀ := X.base) I.ok.mod.kin D.kp (thn (ha pos pins s σ H _ I h) fun us s1 ⟨vs, H1, I1, r, q⟩ => ⟨I1.kIn, ?_⟩) he hpl
  have r2 : Vals (vs ++ []) (us ++ []) := r.append .nil
  have hl : (us ++ []).length = ps.length := by rw [← r2.length]; exact D.ok.len _ _ _ _ q
  refine wpAny_call (codeAny_mono (D.ok.run X.A X.stack s1 H1 ⟨us, []⟩ (us ++ []) (vs ++ []) Q E0 (hr.mono hj) I1.env0 (D.bd s1 us I1.kIn hl) r2 q) fun r s' hq => ?_)
  cases r with
  | error e => exact False.elim hq
  | ok fl =>
    cases fl with
    | ret u => exact I1.after hq
    | next => exact False.elim hq
    | brk => exact False.elim hq
    | cont => exact False.elim hq
end
end L2

set_option Elab.async false
set_option linter.all false
set_option maxRecDepth 100000
/-! the script's ints are of at most 2 ** 20 bits together -/
namespace L2
open PySem PySem.Spec PyProof.Rows PySem.W PySem.Calls
/-- of at most n bits (omega does not look into it) -/
def Sm (n : Nat) (i : Int) : Prop := i.natAbs < 2 ^ n
end L2

set_option Elab.async false
set_option linter.all false
set_option maxRecDepth 100000
/-! own classes with a base: methods by the object's class, by the class, made objects; sum, all, any, tuple.index, == of nested data -/
namespace PySem.SeqAt
open AutoSeq1 (wpAny_loadPart')
open MeetsSeq MeetsSeq2 MeetsSeq3 SeqRoads2
end PySem.SeqAt
namespace L2
open PySem PySem.Spec PyProof.Rows

/-! ### small words -/
theorem Same.sqt {K : PySem.W.Frag} {H H' : Hp} {a : Addr} {xs : List V} (e : Same H H') (h : SqT K H a xs) : SqT K H' a xs := by
  rcases h with (h | ⟨o, h⟩) | h
  · exact .inl (.inl (e _ _ h))
  · exact .inl (.inr ⟨o, e _ _ h⟩)
  · exact .inr h
theorem Same.upd_ne' {H H' : Hp} {D : Addr} {o : HO} (s : Same H H') (h : H D = none) : Same H (upd H' D o) := fun b u e => by
  rw [upd_ne (ne_of_none e h)]
  exact s b u e
theorem fm_mapV {α β : Type} (F : α → β) : ∀ xs : List α, ((List.range xs.length).filterMap fun i => (xs[i]?).bind fun x => some (F x)) = xs.map F
  | [] => rfl
  | x :: r => by
    rw [List.length_cons, List.range_succ_eq_map, List.filterMap_cons, List.filterMap_map]
    show F x :: _ = F x :: r.map F
    rw [← fm_mapV F r]
    rfl
theorem fm_bind {α β : Type} (f : α → Option β) : ∀ xs : List α, ((List.range xs.length).filterMap fun i => (xs[i]?).bind f) = xs.filterMap f
  | [] => rfl
  | x :: r => by
    rw [List.length_cons, List.range_succ_eq_map, List.filterMap_cons, List.filterMap_map, List.filterMap_cons, ← fm_bind f r]
    rfl
/-- nothing but the object at x may be other -/
def SameBut (x : Addr) (H H' : Hp) : Prop := ∀ b o, b ≠ x → H b = some o → H' b = some o
theorem Same.but {H H' : Hp} (s : Same H H') (x : Addr) : SameBut x H H' := fun b o _ e => s b o e
theorem SameBut.then {x : Addr} {H H1 H2 : Hp} (a : SameBut x H H1) (b : Same H1 H2) : SameBut x H H2 := fun c o n e => b c o (a c o n e)
theorem SameBut.updx {x : Addr} {H H1 : Hp} (a : SameBut x H H1) (u : HO) : SameBut x H (upd H1 x u) := fun c o n e => by rw [upd_ne n]; exact a c o n e
theorem SameBut.made {x dx : Addr} {H H' : Hp} {C : Addr} (hx : H x = none) (hd : H dx = none) (ne : dx ≠ x) (s : SameBut x (upd (upd H dx (.own x)) x (.ins C dx [])) H') : Same H H' := fun b o e => by
  have n1 : b ≠ x := ne_of_none e hx
  have n2 : b ≠ dx := ne_of_none e hd
  exact s b o n1 (by rw [upd_ne n1, upd_ne n2]; exact e)
/-! ### where nothing is raised, what may raise is promised, too -/
theorem FnOk.up {P : Program} {w : World} {K : PySem.W.Frag} {mg : Str → Option Value} {base : Heap} {k : Nat} {f : Addr} {fd : FuncData} {ps : List Str} {sp : Sp} (F : FnOk P w K mg base CX0 k f fd ps sp) : FnOk P w K mg base (CX1 P w) k f fd ps sp :=
  ⟨F.len, fun A outer s H args us vs Q E hr he hb hv hs => codeAny_mono (F.run A outer s H args us vs Q E hr he hb hv hs) fun r s' h => by
    cases r with
    | error e => exact False.elim h
    | ok fl => cases fl <;> exact h⟩

/-! ### the text of a class's own def -/
structure Mx (K : PySem.W.Frag) (x qual : Str) (st : Stmt) (ps : List Str) (f : Addr) (fd : FuncData) : Prop where
  fn : Fun K x qual st f fd
  bd : ∀ us : List Value, us.length = ps.length → bindArgs fd ⟨us, []⟩ = pure (ps.zip us)
theorem mx_mk {K : PySem.W.Frag} {x qual : Str} {st : Stmt} {ps : List Str} {f : Addr} {oc : Value} {od an : Option Addr} {osl : Array (Option Value)} {kV doc pm cdv ct : Value}
    (l : K.lookup f = some ⟨oc, od, .func (PySem.W.fnOf x qual (defArgs st) (defBody st) (defScope st) .none kV doc pm an cdv ct), osl⟩)
    (c : PySem.W.codeIn K cdv qual = true) (k : PySem.W.keepIn K (.ref f) = true)
    (hb : ∀ (kV doc pm : Value) (an : Option Addr) (cdv ct : Value) (us : List Value), us.length = ps.length → bindArgs (PySem.W.fnOf x qual (defArgs st) (defBody st) (defScope st) .none kV doc pm an cdv ct) ⟨us, []⟩ = pure (ps.zip us)) :
    ∃ fd, Mx K x qual st ps f fd := ⟨_, fun_mk l c k, hb kV doc pm an cdv ct⟩
/-- what a method promises -/
structure Md (P : Program) (w : World) (K : PySem.W.Frag) (mg : Str → Option Value) (base : Heap) (k : Nat) (ps : List Str) (sp : Sp) (f : Addr) : Prop where
  ex : ∃ fd, FnOk P w K mg base (CX1 P w) k f fd ps sp ∧ Binds K fd ps []
section
variable {P : Program} {w : World} {K : PySem.W.Frag} {mg : Str → Option Value} {base : Heap} {x qual : Str} {st : Stmt} {ps N : List Str} {f : Addr} {fd : FuncData} {k j : Nat} {sp sp' : Sp}
theorem Mx.md0 (t : Mx K x qual st ps f fd) (S : FnScope N ps (defScope st)) (len : ∀ vs H Q E, sp vs H Q E → vs.length = ps.length)
    (hbody : ∀ (cdv : Value) (A : Around) (outer : List Env) (s : Shared) (H : Hp) (vs : List V) (Q : VK) (E : XK), Room k (A.deeper (envOfC qual (defScope st) s.heap.objs.size f cdv)) → sp vs H Q E →
      ∃ t, PSs (cxOf CX0 P w K mg base N qual (defScope st) f cdv A outer s H E).nox (defBody st) t ∧ t { nx := fun _ H' => Q .non H', rt := Q } (start N vs) H) : Md P w K mg base (k + 1) ps sp f :=
  ⟨fd, (t.fn.ok S len hbody).up, .all t.bd⟩
theorem Mx.md1 (t : Mx K x qual st ps f fd) (S : FnScope N ps (defScope st)) (len : ∀ vs H Q E, sp vs H Q E → vs.length = ps.length)
    (hbody : ∀ (cdv : Value) (A : Around) (outer : List Env) (s : Shared) (H : Hp) (vs : List V) (Q : VK) (E : XK), Room k (A.deeper (envOfC qual (defScope st) s.heap.objs.size f cdv)) → sp vs H Q E →
      ∃ t, PSs (cxOf (CX1 P w) P w K mg base N qual (defScope st) f cdv A outer s H E) (defBody st) t ∧ t { nx := fun _ H' => Q .non H', rt := Q } (start N vs) H) : Md P w K mg base (k + 1) ps sp f :=
  ⟨fd, t.fn.ok1 S len hbody, .all t.bd⟩
theorem Md.up (M : Md P w K mg base k ps sp f) (h : k ≤ j) : Md P w K mg base j ps sp f := let ⟨fd, F, b⟩ := M.ex; ⟨fd, ⟨F.len, fun A outer s H args us vs Q E hr he hb hv hs => F.run A outer s H args us vs Q E (hr.mono h) he hb hv hs⟩, b⟩
theorem Md.imp (M : Md P w K mg base k ps sp f) (h : ∀ vs H Q E, sp' vs H Q E → sp vs H Q E) : Md P w K mg base k ps sp' f := let ⟨fd, F, b⟩ := M.ex; ⟨fd, F.imp h, b⟩
end

/-! ### C.m(..), m a def of the class C or of one above it -/
structure CMeth (K : PySem.W.Frag) (C : Addr) (m : Str) (f : Addr) : Prop where
  ga : PySem.W.specialIn K (.ref C) "__getattribute__" = some (some (.builtin "type.__getattribute__"))
  rd : PySem.W.readsIn K C (.type "type") = true
  at_ : PySem.W.findCls K (.ref C) (.type "type") m = some (.val (.ref f))
  kp : PySem.W.keepIn K (.ref f) = true
section
variable {X : Cx} {Ex : XS} {k j : Nat} {f C : Addr} {ps : List Str} {sp : Sp} {x m : Str} {p pos apos : Pos} {e o : Expr} {es : List Expr} {ta : TE} {t : TA}
theorem pe_cm {pl : Sem Bool} (R : Pass X Ex) (hg : Gl X x) (hm : X.mg x = some (.ref C)) (M : CMeth X.K C m f) (F : Md X.prog X.w X.K X.mg X.base k ps sp f) (hr : Room j X.A) (hj : k ≤ j) (ha : PA X (e :: es) t)
    (hdb : (x == ("__debug__" : Str)) = false := by decide)
    (hst : starEach (e :: es) X.env = (false, eval e X.env) :: starEach es X.env := by rfl) (hpl : (backTo pos (starEach es X.env)).any (·.1) = false := by rfl)
    (ht : eval (.Call (.Attribute (.Name x p) m apos) (e :: es) [] pos) X.env = (do
      let ov ← eval (.Name x p) X.env
      standAt apos.atName
      let (f, first) ← holding [ov] (getMethod ov m pl)
      callWith pos f first (backTo pos (starEach (e :: es) X.env)) (backToKw pos (keywordEach [] X.env))) := by rfl) :
    PE X (.Call (.Attribute (.Name x p) m apos) (e :: es) [] pos) (tCallX sp [] Ex t) := by
  intro pins s σ H Q I h
  obtain ⟨fd, F, hb⟩ := F.ex
  refine PySem.W.methodCall_KW (pl := pl) (thn (pe_glob (v := .ref C) hg hm rfl hdb pins s σ H (fun v H' => v = .ref C ∧ H' = H) I ⟨rfl, rfl⟩) fun u s1 ⟨x, H1, I1, rx, ex, eH⟩ => ?_) ht
  subst ex eH
  obtain rfl : u = Value.ref C := rx
  refine PySem.W.method_cls I1.kIn M.ga (PySem.W.cls_value I1.kIn M.rd M.at_ rfl ?_)
  refine PySem.W.callWith_K (first := []) (h₀ := X.base) I.ok.mod.kin M.kp (thn (ha pos pins _ σ _ _ (I1.tok _) h) fun us s2 ⟨vs, H2, I2, r, q2⟩ => ⟨I2.kIn, ?_⟩) hst hpl
  exact run_fnX R F (hr.mono hj) hb .nil I2 r q2

/-! ### o.m(..) by the class of o -/
def tMethX (K : PySem.W.Frag) (MO : Addr → Sp → Prop) (m : Str) (Ex : XS) (ta : TE) (t : TA) : TE := fun σ H Q => ta σ H fun x H1 => ∃ a C dx fs g sp, x = .ref a ∧ H1 a = some (.ins C dx fs) ∧ fs.lookup m = none ∧ Cls K C ∧ Meth K C m g ∧ MO g sp ∧
  t σ H1 fun vs H2 => sp (x :: vs) H2 Q fun c _ H' => Ex c σ H'
theorem pe_methX {pl : Sem Bool} (R : Pass X Ex) (he : PE X o ta) (hr : Room j X.A) (hj : k ≤ j) (ha : PA X (e :: es) t)
    (hst : starEach (e :: es) X.env = (false, eval e X.env) :: starEach es X.env := by rfl) (hpl : (backTo pos (starEach es X.env)).any (·.1) = false := by rfl)
    (ht : eval (.Call (.Attribute o m apos) (e :: es) [] pos) X.env = (do
      let ov ← eval o X.env
      standAt apos.atName
      let (f, first) ← holding [ov] (getMethod ov m pl)
      callWith pos f first (backTo pos (starEach (e :: es) X.env)) (backToKw pos (keywordEach [] X.env))) := by rfl) :
    PE X (.Call (.Attribute o m apos) (e :: es) [] pos) (tMethX X.K (fun g sp => ∃ ps, Md X.prog X.w X.K X.mg X.base k ps sp g) m Ex ta t) := by
  intro pins s σ H Q I h
  refine PySem.W.methodCall_KW (pl := pl) (thn (he pins s σ H _ I h) fun u s1 ⟨x, H1, I1, rx, a, C, dx, fs, g, sp, ex, ea, l, c, hm, ⟨ps, F⟩, q⟩ => ?_) ht
  subst ex
  obtain rfl : u = Value.ref a := rx
  obtain ⟨fd, F, hb⟩ := F.ex
  refine getmeth_ok I1 ea c hm l ?_
  refine PySem.W.callWith_K (first := [.ref a]) (h₀ := X.base) I.ok.mod.kin hm.kp (thn (ha pos pins s1 σ H1 _ I1 q) fun us s2 ⟨vs, H2, I2, r, q2⟩ => ⟨I2.kIn, ?_⟩) hst hpl
  exact run_fnX (us := .ref a :: us) (vs := .ref a :: vs) R F (hr.mono hj) hb .nil I2 (.cons rfl r) (by rw [List.append_nil]; exact q2)
theorem pe_methX0 {pl : Sem Bool} (R : Pass X Ex) (he : PE X o ta) (hr : Room j X.A) (hj : k ≤ j)
    (ht : eval (.Call (.Attribute o m apos) [] [] pos) X.env = (do
      let ov ← eval o X.env
      standAt apos.atName
      let (f, first) ← holding [ov] (getMethod ov m pl)
      callWith pos f first (backTo pos (starEach [] X.env)) (backToKw pos (keywordEach [] X.env))) := by rfl) :
    PE X (.Call (.Attribute o m apos) [] [] pos) (tMethX X.K (fun g sp => ∃ ps, Md X.prog X.w X.K X.mg X.base k ps sp g) m Ex ta tNil) := by
  intro pins s σ H Q I h
  refine PySem.W.methodCall_KW (pl := pl) (thn (he pins s σ H _ I h) fun u s1 ⟨x, H1, I1, rx, a, C, dx, fs, g, sp, ex, ea, l, c, hm, ⟨ps, F⟩, q⟩ => ?_) ht
  subst ex
  obtain rfl : u = Value.ref a := rx
  obtain ⟨fd, F, hb⟩ := F.ex
  refine getmeth_ok I1 ea c hm l ?_
  exact PySem.W.callWith_K0 (first := [.ref a]) I1.kIn hm.kp (run_fnX (us := [.ref a]) (vs := [.ref a]) R F (hr.mono hj) hb .nil I1 (.cons rfl .nil) q)

/-! ### C(..) -/
def tMakeX (C : Addr) (sp : Sp) (Ex : XS) (t : TA) : TE := fun σ H Q => t σ H fun vs H1 => ∀ x dx, H1 x = none → H1 dx = none → dx ≠ x →
  sp (.ref x :: vs) (upd (upd H1 dx (.own x)) x (.ins C dx [])) (fun v H2 => v = .non ∧ Q (.ref x) H2) fun c _ H' => Ex c σ H'
theorem run_makeX {fd : FuncData} {pins : List (Addr × Obj)} {σ : St} {H : Hp} {s : Shared} {Q : VK} {us : List Value} {vs : List V} (R : Pass X Ex) (M : Mk X.K C f) (F : FnOk X.prog X.w X.K X.mg X.base (CX1 X.prog X.w) k f fd ps sp) (hr : Room (k + 1) X.A) (hb : Binds X.K fd ps [])
    (I : Inv X pins σ H s) (r : Vals vs us)
    (h : ∀ x dx, H x = none → H dx = none → dx ≠ x → sp (.ref x :: vs) (upd (upd H dx (.own x)) x (.ins C dx [])) (fun v H2 => v = .non ∧ Q (.ref x) H2) fun c _ H' => Ex c σ H') :
    wpAny (model X.prog X.w) X.A (call (.ref C) us) (EP X pins σ Q) X.xe s := by
  have hq := h (s.heap.objs.size + 1) s.heap.objs.size (I.hok.fresh (Nat.le_succ _)) (I.hok.fresh (Nat.le_refl _)) (Nat.ne_of_lt (Nat.lt_succ_self _))
  have I2 := Inv.made (C := C) I
  have r2 : Vals (V.ref (s.heap.objs.size + 1) :: vs) (Value.ref (s.heap.objs.size + 1) :: us) := .cons rfl r
  have hl : (Value.ref (s.heap.objs.size + 1) :: us).length = ps.length := by
    have e := r2.length
    rw [F.len _ _ _ _ hq] at e
    exact e.symm
  have hb2 := hb { s with heap := (s.heap.push PySem.W.emptyDict).push (PySem.W.instObj C s.heap.objs.size) } (Value.ref (s.heap.objs.size + 1) :: us) I2.kIn (by rw [List.append_nil]; exact hl)
  rw [List.append_nil] at hb2
  refine wpAny_call (make_map (f := f) I.kIn M.makes M.init (beq_iff_eq.mp M.fn) (codeAny_mono (F.run _ X.stack _ _ ⟨Value.ref (s.heap.objs.size + 1) :: us, []⟩ (Value.ref (s.heap.objs.size + 1) :: us) _ _ _ (hr.make C us [])
    (I2.env0.make C us []) hb2 r2 hq) fun r s' hq' => ?_))
  cases r with
  | error ev =>
    obtain ⟨e, C', H', rfl, Fl, q⟩ := hq'
    exact R.on pins σ _ _ e C' H' s' I2 Fl q
  | ok fl =>
    cases fl with
    | ret u =>
      obtain ⟨v, H', I3, rv, ev, q3⟩ := I2.after hq'
      subst ev
      exact ⟨rv, ⟨V.ref (s.heap.objs.size + 1), H', I3, rfl, q3⟩⟩
    | next => exact False.elim hq'
    | brk => exact False.elim hq'
    | cont => exact False.elim hq'
theorem pe_makeX (R : Pass X Ex) (M : Mk X.K C f) (F : Md X.prog X.w X.K X.mg X.base k ps sp f) (hr : Room j X.A) (hj : k + 1 ≤ j) (hg : Gl X x) (hm : X.mg x = some (.ref C))
    (ha : PA X (e :: es) t) (hdb : (x == ("__debug__" : Str)) = false := by decide) (he : starEach (e :: es) X.env = (false, eval e X.env) :: starEach es X.env := by rfl) (hpl : (backTo pos (starEach es X.env)).any (·.1) = false := by rfl) :
    PE X (.Call (.Name x p) (e :: es) [] pos) (tMakeX C sp Ex t) := by
  intro pins s σ H Q I h
  obtain ⟨fd, F, hb⟩ := F.ex
  refine wpAny_Call_Name_kw (ld_glob I hg hm ?_ hdb)
  refine PySem.W.callWith_K (h₀ := X.base) I.ok.mod.kin M.kp (thn (ha pos pins s σ H _ I h) fun us s1 ⟨vs, H1, I1, r, q⟩ => ⟨I1.kIn, ?_⟩) he hpl
  exact run_makeX R M F (hr.mono hj) hb I1 r q
end

/-! ### what of the text an own class must have -/
structure OCls (K : PySem.W.Frag) (C : Addr) : Prop where
  cl : Cls K C
  ca : PySem.W.findIn K (.ref C) "__class__" = some (some (.builtin "object.__class__"))
  cg : PySem.W.specialIn K (.builtin "object.__class__") "__get__" = some (some (.builtin "getset_descriptor.__get__"))
  ct : PySem.W.takesIn K (.builtin "object.__class__") = some true
  mo : PySem.W.mroIn K C (.type "object") = some true
theorem OCls.ty {K : PySem.W.Frag} {H : Hp} {a C dx : Addr} {fs : List (Str × V)} (c : OCls K C) (e : H a = some (.ins C dx fs)) : TyX K H (.ref a) (.ref C) := .of (.ins e c.cl c.ca c.cg c.ct c.mo)

/-! ### sum, all, any -/
section
variable {X : Cx}
theorem call_sum (hh : X.calm = true) : CallR X (.builtin "sum") (fun xs H Q => ∃ (p : Addr) (ns : List Int), xs = [.ref p] ∧ (SqL X.K H p (ns.map V.int) ∨ SqT X.K H p (ns.map V.int)) ∧ Q (.int ns.sum) H) := by
  intro pins s σ H xs us Q I r h
  obtain ⟨p, ns, rfl, hq, q⟩ := h
  obtain ⟨u, rfl, rx⟩ := vals1 r
  cases rx
  rcases hq with hq | hq
  · obtain ⟨its, r', pl, hz⟩ := I.list hq
    have hi := intsAre_of r'
    obtain ⟨xs, hx⟩ := hi.allInts.items
    have hl' : s.heap.IsList p (intItems xs) := hx ▸ pl.isList
    refine sum_intListG (I.ok.hd hh) hl' fun h' tk t' hk => ?_
    have e1 : ns = xs.toList.map (·.1) := by
      rw [← nums_intItems, ← hx]
      exact (show numsOf its.toArray.toList = ns from hi.numsOf).symm
    have e2 : preSum (numAt xs) xs.size = ns.sum := by
      rw [preSum_eq, List.take_of_length_le (by simp), e1]
    rw [e2]
    exact ⟨.int ns.sum, H, I.kept (t' := tk) hk, ⟨_, rfl⟩, q⟩
  · obtain ⟨its, r', pl, hz⟩ := I.tuple hq
    have hi := intsAre_of r'
    obtain ⟨xs, hx⟩ := hi.allInts.items
    have hl' : s.heap.IsTuple p (intItems xs) := hx ▸ pl
    refine PySem.W.ktm_sumG (I.ok.hd hh) hl' fun h' tk t' hk => ?_
    have e1 : ns = xs.toList.map (·.1) := by
      rw [← nums_intItems, ← hx]
      exact (show numsOf its.toArray.toList = ns from hi.numsOf).symm
    have e2 : preSum (numAt xs) xs.size = ns.sum := by
      rw [preSum_eq, List.take_of_length_le (by simp), e1]
    rw [e2]
    exact ⟨.int ns.sum, H, I.kept (t' := tk) hk, ⟨_, rfl⟩, q⟩
theorem boolsAre_of {bs : List Bool} : ∀ {us : List Value}, Vals (bs.map V.bl) us → LSm.BoolsAre us bs := by
  induction bs with
  | nil => intro us h; cases h; exact .nil
  | cons b bs ih =>
    intro us h
    cases h with
    | cons r t => cases r; exact .cons b (ih t)
theorem call_all (hh : X.calm = true) : CallR X (.builtin "all") (fun xs H Q => ∃ (p : Addr) (bs : List Bool), xs = [.ref p] ∧ SqL X.K H p (bs.map V.bl) ∧ Q (.bl (bs.all id)) H) := by
  intro pins s σ H xs us Q I r h
  obtain ⟨p, bs, rfl, hq, q⟩ := h
  obtain ⟨u, rfl, rx⟩ := vals1 r
  cases rx
  obtain ⟨its, r', pl, hz⟩ := I.list hq
  have hb := boolsAre_of r'
  have hl := pl.isList
  have hlt : p < s.heap.objs.size := by obtain ⟨_, e, _⟩ := hl; exact Heap.lt_size e
  refine call_all_walk (wpAny_pyIter_list hl ?_)
  refine ⟨s.heap.objs.size, [s.heap.objs.size, p], [s.heap.objs.size], its.toArray.size, _, _, fun i => (bs[i]?).getD true, rfl, Walks.list (A := X.A.in1) (I.ok.hd hh) _ p (Nat.ne_of_lt hlt) its.toArray,
    ⟨⟨_, Heap.get?_push_size _ rfl, rfl, rfl⟩, hl.push _⟩, fun i v s' Q' E' hP hQ => ?_, fun h' tk hk => ?_⟩
  · obtain ⟨b, e, rfl⟩ := hb.get i v (by simpa using hP)
    simp only [e, Option.getD_some] at hQ
    exact wpAny_truthy_bool hQ
  · have e : ((List.range its.toArray.size).all fun i => (bs[i]?).getD true) = bs.all id := by
      rw [List.size_toArray, hb.length]; exact LSm.range_all bs
    rw [e]
    exact ⟨.bl _, H, I.kept (t' := tk) (LSm.kept_iter hk), rfl, q⟩
theorem call_any (hh : X.calm = true) : CallR X (.builtin "any") (fun xs H Q => ∃ (p : Addr) (bs : List Bool), xs = [.ref p] ∧ SqL X.K H p (bs.map V.bl) ∧ Q (.bl (bs.any id)) H) := by
  intro pins s σ H xs us Q I r h
  obtain ⟨p, bs, rfl, hq, q⟩ := h
  obtain ⟨u, rfl, rx⟩ := vals1 r
  cases rx
  obtain ⟨its, r', pl, hz⟩ := I.list hq
  have hb := boolsAre_of r'
  have hl := pl.isList
  have hlt : p < s.heap.objs.size := by obtain ⟨_, e, _⟩ := hl; exact Heap.lt_size e
  refine call_any_walk (wpAny_pyIter_list hl ?_)
  refine ⟨s.heap.objs.size, [s.heap.objs.size, p], [s.heap.objs.size], its.toArray.size, _, _, fun i => (bs[i]?).getD false, rfl, Walks.list (A := X.A.in1) (I.ok.hd hh) _ p (Nat.ne_of_lt hlt) its.toArray,
    ⟨⟨_, Heap.get?_push_size _ rfl, rfl, rfl⟩, hl.push _⟩, fun i v s' Q' E' hP hQ => ?_, fun h' tk hk => ?_⟩
  · obtain ⟨b, e, rfl⟩ := hb.get i v (by simpa using hP)
    simp only [e, Option.getD_some] at hQ
    exact wpAny_truthy_bool hQ
  · have e : ((List.range its.toArray.size).any fun i => (bs[i]?).getD false) = bs.any id := by
      rw [List.size_toArray, hb.length]; exact LSm.range_any bs
    rw [e]
    exact ⟨.bl _, H, I.kept (t' := tk) (LSm.kept_iter hk), rfl, q⟩
theorem bt_sum : bootBuiltins "sum" = some (.builtin "sum") := by decide +kernel
theorem bt_all : bootBuiltins "all" = some (.builtin "all") := by decide +kernel
theorem bt_any : bootBuiltins "any" = some (.builtin "any") := by decide +kernel

/-! ### t.index(n) -/
def rIndexT (K : PySem.W.Frag) : V → List V → Hp → VK → Prop := fun x vs H Q => ∃ (p : Addr) (ns : List Int) (i : Int) (j : Nat), x = .ref p ∧ vs = [.int i] ∧ SqT K H p (ns.map V.int) ∧ ns[j]? = some i ∧ (∀ m, m < j → ns[m]? ≠ some i) ∧ Q (.int (j : Nat)) H
def eqI (i : Int) (u : Value) : Bool := match u with
  | .int k _ => k == i
  | _ => false
theorem mt_appendR : MtR X "list.append" rAppend := mt_append
/-! ### == and != of nested lists and tuples that are alike -/
mutual
inductive Dat (K : PySem.W.Frag) (H : Hp) : V → PyData → Prop
  | int (i : Int) : Dat K H (.int i) (.int i)
  | lst {p : Addr} {xs : List V} {ds : List PyData} : SqL K H p xs → DatAll K H xs ds → Dat K H (.ref p) (.list ds)
  | tup {p : Addr} {xs : List V} {ds : List PyData} : SqT K H p xs → DatAll K H xs ds → Dat K H (.ref p) (.tuple ds)
inductive DatAll (K : PySem.W.Frag) (H : Hp) : List V → List PyData → Prop
  | nil : DatAll K H [] []
  | cons {x : V} {d : PyData} {xs : List V} {ds : List PyData} : Dat K H x d → DatAll K H xs ds → DatAll K H (x :: xs) (d :: ds)
end
def rEqD (K : PySem.W.Frag) (b : Bool) : R2 := fun x y H Q => ∃ d, Dat K H x d ∧ Dat K H y d ∧ d.depth ≤ 64 ∧ Q (.bl b) H
end

/-! ### over a list or a tuple; t[lo:hi] -/
def iSeq (K : PySem.W.Frag) (tl : TE) : TI := fun σ H R => tl σ H fun x H1 => ∃ a, x = .ref a ∧ (((∃ xs, SqL K H1 a xs) ∧ R (Itl K a) H1) ∨ ((∃ xs, SqT K H1 a xs) ∧ R (Itt K a) H1))
theorem pi_seq {X : Cx} {tg l : Expr} {tl : TE} (hl : PE X l tl) : PI X tg l (iSeq X.K tl) := by
  intro pins s σ H R I h
  refine thn (hl pins s σ H _ I h) fun v s1 ⟨x, H1, I1, r1, q1⟩ => ?_
  obtain ⟨a, e, q⟩ := q1
  subst e
  cases r1
  rcases q with ⟨⟨xs, hq⟩, q⟩ | ⟨⟨xs, hq⟩, q⟩
  · obtain ⟨its, rv, p, hz⟩ := I1.list hq
    refine wpAny_pyIter_list p.isList ?_
    refine ⟨s1.heap.objs.size, [s1.heap.objs.size], _, _, H1, rfl, I1.kept (t' := s1.toks) fun b o e => Heap.get?_push_of_some _ e, turn_list a _, ⟨_, Heap.get?_push_size _ rfl, rfl, rfl⟩, fun b hb => ?_, q⟩
    have e : b = s1.heap.objs.size := by simpa using hb
    subst e
    exact I1.fpOk (Nat.le_refl _) (I1.hok.fresh (Nat.le_refl _))
  · obtain ⟨its, rv, p, hz⟩ := I1.tuple hq
    refine wpAny_pyIter_tuple (show s1.heap.IsTuple a its.toArray from p) ?_
    refine ⟨s1.heap.objs.size, [s1.heap.objs.size], _, _, H1, rfl, I1.kept (t' := s1.toks) fun b o e => Heap.get?_push_of_some _ e, turn_tuple a _, ⟨_, Heap.get?_push_size _ rfl, rfl, rfl⟩, fun b hb => ?_, q⟩
    have e : b = s1.heap.objs.size := by simpa using hb
    subst e
    exact I1.fpOk (Nat.le_refl _) (I1.hok.fresh (Nat.le_refl _))
theorem getItem_tuple_all {prog : Program} {w : World} {A : Around} {E : Value → Shared → Prop} {s : Shared} {t sl : Addr} {items : Array Value} {vl vu : Value} {lo hi : Option Int} {Q : Value → Shared → Prop} (ht : IsTup s.heap t items) (hs : s.heap.IsSliceOf sl vl vu .none) (pl : IsPart vl lo) (pu : IsPart vu hi)
    (h0 : HT.sIx items.size 0 lo = 0) (h1 : HT.sIx items.size items.size hi = items.size)
    (h : Q (.ref t) s) : wpAny (model prog w) A (getItem (.ref t) (.ref sl)) Q E s := by
  obtain ⟨os, hos, hcs, hds⟩ := id hs
  have hTs : s.TypeIs (.ref sl) "slice" := ⟨os, hos, hcs⟩
  unfold getItem
  try with_reducible refine wpAny_holding ?_
  first | refine wpAny_bind (wpAny_pure ?_) | skip
  refine wpAny_bind (wpAny_sequenceKey ht.typeIs (by decide) ?_)
  refine wpAny_bind (wpAny_callSpecial?_slot (name := Str.ofString "__getitem__") ht.typeIs PyProof.Rows.slot_tuple_getitem
    (wpAny_call_entry PyProof.Rows.slot_tuple_getitem ht.typeIs entry_tuple_getitem ?_ (args_tuple_getitem _ _)))
  show wpAny _ _ (Builtin.Tuple.tupleItemsOf (.ref t) >>= _) _ _ s
  refine wpAny_bind (tupleItemsOf_ ht ?_)
  refine wpAny_bind (wpAny_typeOf hTs ?_)
  rw [if_pos (by decide)]
  refine wpAny_bind (HT.sliceApplied_gen hs pl pu ?_)
  have hy : (((HT.sIx items.size 0 lo : Nat) : Int) == 0 && (1 : Int) == 1 && (HT.sIx items.size items.size hi - HT.sIx items.size 0 lo) == items.size) = true := by
    rw [h0, h1]; simp
  show wpAny _ _ (if (((HT.sIx items.size 0 lo : Nat) : Int) == 0 && (1 : Int) == 1 && (HT.sIx items.size items.size hi - HT.sIx items.size 0 lo) == items.size) = true then _ else _) _ _ s
  rw [if_pos hy]
  refine wpAny_bind (m := Builtin.Tuple.tupleIsExact (.ref t)) ?_
  unfold Builtin.Tuple.tupleIsExact
  refine wpAny_bind (wpAny_typeOf ht.typeIs (wpAny_pure ?_))
  rw [if_pos (by decide)]
  first
    | exact wpAny_bind (wpAny_rule (wpAny_pure ⟨_, rfl, wpAny_pure h⟩))
    | exact wpAny_bind (wpAny_rule (wpAny_bind (wpAny_pure (wpAny_pure ⟨_, rfl, wpAny_pure h⟩))))
def rSlA (K : PySem.W.Frag) : V → Option Int → Option Int → Hp → VK → Prop := fun x lo hi H Q => ∃ a xs, x = .ref a ∧ SqT K H a xs ∧ ∀ p H', Same H H' → SqT K H' p (cutV xs lo hi) → Q (.ref p) H'
theorem sl_tupA {X : Cx} : SlR X (rSlA X.K) := by
  intro pins s σ H x v vl vu lo hi sl Q I rx hs pl pu h
  obtain ⟨a, xs, rfl, hx, q⟩ := h
  by_cases hw : HT.sIx xs.length 0 lo = 0 ∧ HT.sIx xs.length xs.length hi = xs.length
  · cases rx
    obtain ⟨its, r, ht, hz⟩ := I.tuple hx
    have hlen : its.toArray.size = xs.length := by rw [List.size_toArray]; exact r.length.symm
    refine ⟨"tuple", _, PyProof.Rows.slot_tuple_getitem.lookup, ht.typeIs, ?_⟩
    refine getItem_tuple_all ht hs pl pu (by rw [hlen]; exact hw.1) (by rw [hlen]; exact hw.2) ⟨.ref a, H, I, rfl, q a H (.refl H) ?_⟩
    unfold cutV
    rw [hw.1, hw.2, List.drop_zero, Nat.sub_zero, List.take_length]
    exact hx
  · exact sl_tup pins s σ H (.ref a) v vl vu lo hi sl Q I rx hs pl pu ⟨a, xs, rfl, hx, hw, fun p hp => q p _ (.upd_new hp) (SqT.of upd_same)⟩

/-! ### a comprehension over a list or tuple whose turn changes nothing that was -/
section
variable {K : PySem.W.Frag} {a : Addr} {xs : List V} {σ0 : St} {H1 : Hp} {i0 : Nat} {c : TT} {te : TE} {Q : Addr → Hp → Prop}
theorem comp_lst (f : Nat → V → Option V) (hq : SqL K H1 a xs) (hn : xs.length ≤ sizeLine)
    (step : ∀ (i : Nat) (x : V) (H2 : Hp) (k : VK) (k0 : Hp → Prop), Same H1 H2 → xs[i]? = some x → (∀ y, f i x = some y → ∀ H3, Same H2 H3 → k y H3) → (f i x = none → ∀ H3, Same H2 H3 → k0 H3) →
      c (σ0.set i0 (some x)) H2 fun b H4 => if b = true then te (σ0.set i0 (some x)) H4 k else k0 H4)
    (h : ∀ D H2, H1 D = none → Same H1 H2 → H2 D = some (.lst ((List.range xs.length).filterMap fun i => (xs[i]?).bind (f i))) → Q D H2) :
    ∀ D, H1 D = none → ∃ W : Nat → Nat → St → Hp → Prop, (∃ m, W 0 m σ0 (upd H1 D (.lst []))) ∧ ∀ i m σ1 H2, W i m σ1 H2 →
      ((Itl K a).stop i H2 ∧ Q D H2) ∨ ((Itl K a).go i H2 ∧ ∃ N : St → Hp → Prop, (∀ σ' H', N σ' H' → ∃ m', m' < m ∧ W (i + 1) m' σ' H') ∧
        ∀ x H', (Itl K a).yld i H2 x H' → gName i0 x σ1 H' fun σ2 H3 => c σ2 H3 fun b H4 => if b = true then te σ2 H4 fun y H5 => ∃ xs, H5 D = some (.lst xs) ∧ xs.length < sizeLine ∧ N σ2 (upd H5 D (.lst (xs ++ [y]))) else N σ2 H4) := by
  intro D hD
  refine ⟨fun i m σ1 H2 => σ1.set i0 none = σ0.set i0 none ∧ Same H1 H2 ∧ H2 D = some (.lst ((List.range i).filterMap fun i => (xs[i]?).bind (f i))) ∧ i ≤ xs.length ∧ m = xs.length - i, ⟨xs.length, rfl, .upd_new hD, upd_same, Nat.zero_le _, rfl⟩, ?_⟩
  rintro i m σ1 H2 ⟨hσ, hs, hd, hi, rfl⟩
  have hset : ∀ v : Option V, σ1.set i0 v = σ0.set i0 v := fun v => by
    have z := congrArg (fun l => List.set l i0 v) hσ
    simpa using z
  rcases Nat.lt_or_ge i xs.length with hlt | hge
  · right
    refine ⟨⟨xs, xs[i], hs.seq hq, by simp [hlt]⟩, fun σ' H' => σ'.set i0 none = σ0.set i0 none ∧ Same H1 H' ∧ H' D = some (.lst ((List.range (i + 1)).filterMap fun i => (xs[i]?).bind (f i))), fun σ' H' ⟨a, b, c⟩ => ⟨xs.length - (i + 1), by omega, a, b, c, hlt, rfl⟩, ?_⟩
    rintro x H' ⟨rfl, hx⟩
    have hx := hx xs (hs.seq hq)
    show c (σ1.set i0 (some x)) _ _
    rw [hset]
    refine step i x _ _ _ hs hx (fun y hy H3 hs3 => ⟨_, hs3 _ _ hd, ?_, ?_, ?_, ?_⟩) fun hno H3 hs3 => ⟨?_, hs.trans hs3, ?_⟩
    · refine Nat.lt_of_le_of_lt (List.length_filterMap_le _ _) ?_
      rw [List.length_range]
      omega
    · simp
    · refine (hs.trans hs3).upd_ne' hD
    · rw [upd_same, List.range_succ, List.filterMap_append]
      simp [hx, hy]
    · simp
    · rw [hs3 _ _ hd, List.range_succ, List.filterMap_append]
      simp [hx, hno]
  · left
    obtain rfl : i = xs.length := Nat.le_antisymm hi hge
    exact ⟨⟨xs, hs.seq hq, Nat.le_refl _⟩, h D _ hD hs hd⟩
theorem comp_tup (f : Nat → V → Option V) (hq : SqT K H1 a xs) (hn : xs.length ≤ sizeLine)
    (step : ∀ (i : Nat) (x : V) (H2 : Hp) (k : VK) (k0 : Hp → Prop), Same H1 H2 → xs[i]? = some x → (∀ y, f i x = some y → ∀ H3, Same H2 H3 → k y H3) → (f i x = none → ∀ H3, Same H2 H3 → k0 H3) →
      c (σ0.set i0 (some x)) H2 fun b H4 => if b = true then te (σ0.set i0 (some x)) H4 k else k0 H4)
    (h : ∀ D H2, H1 D = none → Same H1 H2 → H2 D = some (.lst ((List.range xs.length).filterMap fun i => (xs[i]?).bind (f i))) → Q D H2) :
    ∀ D, H1 D = none → ∃ W : Nat → Nat → St → Hp → Prop, (∃ m, W 0 m σ0 (upd H1 D (.lst []))) ∧ ∀ i m σ1 H2, W i m σ1 H2 →
      ((Itt K a).stop i H2 ∧ Q D H2) ∨ ((Itt K a).go i H2 ∧ ∃ N : St → Hp → Prop, (∀ σ' H', N σ' H' → ∃ m', m' < m ∧ W (i + 1) m' σ' H') ∧
        ∀ x H', (Itt K a).yld i H2 x H' → gName i0 x σ1 H' fun σ2 H3 => c σ2 H3 fun b H4 => if b = true then te σ2 H4 fun y H5 => ∃ xs, H5 D = some (.lst xs) ∧ xs.length < sizeLine ∧ N σ2 (upd H5 D (.lst (xs ++ [y]))) else N σ2 H4) := by
  intro D hD
  refine ⟨fun i m σ1 H2 => σ1.set i0 none = σ0.set i0 none ∧ Same H1 H2 ∧ H2 D = some (.lst ((List.range i).filterMap fun i => (xs[i]?).bind (f i))) ∧ i ≤ xs.length ∧ m = xs.length - i, ⟨xs.length, rfl, .upd_new hD, upd_same, Nat.zero_le _, rfl⟩, ?_⟩
  rintro i m σ1 H2 ⟨hσ, hs, hd, hi, rfl⟩
  have hset : ∀ v : Option V, σ1.set i0 v = σ0.set i0 v := fun v => by
    have z := congrArg (fun l => List.set l i0 v) hσ
    simpa using z
  rcases Nat.lt_or_ge i xs.length with hlt | hge
  · right
    refine ⟨⟨xs, xs[i], hs.sqt hq, by simp [hlt]⟩, fun σ' H' => σ'.set i0 none = σ0.set i0 none ∧ Same H1 H' ∧ H' D = some (.lst ((List.range (i + 1)).filterMap fun i => (xs[i]?).bind (f i))), fun σ' H' ⟨a, b, c⟩ => ⟨xs.length - (i + 1), by omega, a, b, c, hlt, rfl⟩, ?_⟩
    rintro x H' ⟨rfl, hx⟩
    have hx := hx xs (hs.sqt hq)
    show c (σ1.set i0 (some x)) _ _
    rw [hset]
    refine step i x _ _ _ hs hx (fun y hy H3 hs3 => ⟨_, hs3 _ _ hd, ?_, ?_, ?_, ?_⟩) fun hno H3 hs3 => ⟨?_, hs.trans hs3, ?_⟩
    · refine Nat.lt_of_le_of_lt (List.length_filterMap_le _ _) ?_
      rw [List.length_range]
      omega
    · simp
    · refine (hs.trans hs3).upd_ne' hD
    · rw [upd_same, List.range_succ, List.filterMap_append]
      simp [hx, hy]
    · simp
    · rw [hs3 _ _ hd, List.range_succ, List.filterMap_append]
      simp [hx, hno]
  · left
    obtain rfl : i = xs.length := Nat.le_antisymm hi hge
    exact ⟨⟨xs, hs.sqt hq, Nat.le_refl _⟩, h D _ hD hs hd⟩
end
end L2

set_option Elab.async false
set_option linter.all false
set_option maxRecDepth 100000
/-! xs[i] += e of a list; min -/
namespace L2
open PySem PySem.Spec PyProof.Rows
section
variable {X : Cx}
def rIxN (K : PySem.W.Frag) : V → V → Hp → VK → Prop := fun x y H Q => ∃ (p : Addr) (xs : List V) (j : Nat) (v : V), x = .ref p ∧ y = .int (j : Int) ∧ SqL K H p xs ∧ xs[j]? = some v ∧ Q v H
theorem bt_min : bootBuiltins "min" = some (.builtin "min") := by decide +kernel
end
end L2

set_option Elab.async false
set_option linter.all false
set_option maxRecDepth 100000
/-! a comprehension over a range whose parts may make new objects -/
namespace L2
open PySem PySem.Spec PyProof.Rows
section
variable {K : PySem.W.Frag} {lo : Int} {n : Nat} {σ0 : St} {H1 : Hp} {i0 : Nat} {c : TT} {te : TE} {Q : Addr → Hp → Prop}
theorem comp_rng (f : Nat → Option V) (hn : n ≤ sizeLine)
    (step : ∀ (i : Nat) (H2 : Hp) (k : VK) (k0 : Hp → Prop), Same H1 H2 → i < n → (∀ y, f i = some y → ∀ H3, Same H2 H3 → k y H3) → (f i = none → ∀ H3, Same H2 H3 → k0 H3) →
      c (σ0.set i0 (some (.int (lo + (i : Int))))) H2 fun b H4 => if b = true then te (σ0.set i0 (some (.int (lo + (i : Int))))) H4 k else k0 H4)
    (h : ∀ D H2, H1 D = none → Same H1 H2 → H2 D = some (.lst ((List.range n).filterMap f)) → Q D H2) :
    ∀ D, H1 D = none → ∃ W : Nat → Nat → St → Hp → Prop, (∃ m, W 0 m σ0 (upd H1 D (.lst []))) ∧ ∀ i m σ1 H2, W i m σ1 H2 →
      ((Itr lo n).stop i H2 ∧ Q D H2) ∨ ((Itr lo n).go i H2 ∧ ∃ N : St → Hp → Prop, (∀ σ' H', N σ' H' → ∃ m', m' < m ∧ W (i + 1) m' σ' H') ∧
        ∀ x H', (Itr lo n).yld i H2 x H' → gName i0 x σ1 H' fun σ2 H3 => c σ2 H3 fun b H4 => if b = true then te σ2 H4 fun y H5 => ∃ xs, H5 D = some (.lst xs) ∧ xs.length < sizeLine ∧ N σ2 (upd H5 D (.lst (xs ++ [y]))) else N σ2 H4) := by
  intro D hD
  refine ⟨fun i m σ1 H2 => σ1.set i0 none = σ0.set i0 none ∧ Same H1 H2 ∧ H2 D = some (.lst ((List.range i).filterMap f)) ∧ i ≤ n ∧ m = n - i, ⟨n, rfl, .upd_new hD, upd_same, Nat.zero_le _, rfl⟩, ?_⟩
  rintro i m σ1 H2 ⟨hσ, hs, hd, hi, rfl⟩
  have hset : ∀ v : Option V, σ1.set i0 v = σ0.set i0 v := fun v => by
    have z := congrArg (fun l => List.set l i0 v) hσ
    simpa using z
  rcases Nat.lt_or_ge i n with hlt | hge
  · right
    refine ⟨hlt, fun σ' H' => σ'.set i0 none = σ0.set i0 none ∧ Same H1 H' ∧ H' D = some (.lst ((List.range (i + 1)).filterMap f)), fun σ' H' ⟨a, b, c⟩ => ⟨n - (i + 1), by omega, a, b, c, hlt, rfl⟩, ?_⟩
    rintro x H' ⟨rfl, rfl⟩
    show c (σ1.set i0 (some (.int (lo + (i : Int))))) _ _
    rw [hset]
    refine step i _ _ _ hs hlt (fun y hy H3 hs3 => ⟨_, hs3 _ _ hd, ?_, ?_, ?_, ?_⟩) fun hno H3 hs3 => ⟨?_, hs.trans hs3, ?_⟩
    · refine Nat.lt_of_le_of_lt (List.length_filterMap_le _ _) ?_
      rw [List.length_range]
      omega
    · simp
    · exact (hs.trans hs3).upd_ne' hD
    · rw [upd_same, List.range_succ, List.filterMap_append]
      simp [hy]
    · simp
    · rw [hs3 _ _ hd, List.range_succ, List.filterMap_append]
      simp [hno]
  · left
    obtain rfl : i = n := Nat.le_antisymm hi hge
    exact ⟨Nat.le_refl _, h D _ hD hs hd⟩
end
section
variable {X : Cx}
theorem op_inK (K : PySem.W.Frag) (h : X.K = K := by rfl) : OpR X (compareOp .In) (rIn K false) := by
  subst h
  exact op_in_seq
theorem bt_max : bootBuiltins "max" = some (.builtin "max") := by decide +kernel
end
end L2

set_option Elab.async false
set_option linter.all false
set_option maxRecDepth 100000
/-! for i, x in enumerate(xs); comprehensions over enumerate and zip -/
namespace L2
open PySem PySem.Spec PyProof.Rows
/-- the things of the list at l with their places, each pair a new tuple -/
def Ite (K : PySem.W.Frag) (l : Addr) : It :=
  ⟨fun i H => ∃ xs x, SqL K H l xs ∧ xs[i]? = some x,
   fun i H v H' => ∃ t x, v = .ref t ∧ H t = none ∧ H' = upd H t (.tup [.int (i : Int), x]) ∧ ∀ xs, SqL K H l xs → xs[i]? = some x,
   fun i H => ∃ xs, SqL K H l xs ∧ xs.length ≤ i⟩
def enumTn (e it l : Addr) (i : Nat) (h : Heap) : Prop := (∃ old, IsEnum h e it (i : Int) old) ∧ h.IsListIter it l i
theorem turn_enum {P : Program} {w : World} {K : PySem.W.Frag} {elts : List Expr} {x1} {pos : Pos} {e it l : Addr} (hne : e ≠ it) :
    Turn P w K (.Tuple elts x1 pos) (Ite K l) [e, it] e (enumTn e it l) where
  mem := by simp
  obj := fun i h ⟨⟨old, he⟩, ⟨o, ho, _, d⟩⟩ b hb => by
    simp only [List.mem_cons, List.not_mem_nil, or_false] at hb
    rcases hb with rfl | rfl
    · exact ⟨_, he, fun v q => nomatch q⟩
    · exact ⟨_, ho, fun v q => by rw [d] at q; cases q⟩
  keep := fun i h h' ⟨⟨old, he⟩, h1⟩ k => ⟨⟨old, k e (by simp) _ he⟩, h1.at fun o q => k it (by simp) o q⟩
  item := by
    intro X hP hw hK hc i pins s σ H E I hf st hg
    subst hP hw hK
    obtain ⟨⟨old, he⟩, h1⟩ := st
    obtain ⟨xs, x, q1, hx⟩ := hg
    obtain ⟨its1, r1, p1, z1⟩ := I.list q1
    obtain ⟨u, hu, ru⟩ := r1.get hx
    refine wpAny_pyNext_enum_item he h1 p1.isList (by simpa using hu) hne fun h' a1 a2 a3 a4 a5 => ⟨_, rfl, ?_⟩
    refine wpAny_letOwnedTupleGo_enum a1 fun h'' b1 hs => ?_
    have lt : ∀ c o, s.heap.get? c = some o → c ≠ s.heap.objs.size := fun c o e => Nat.ne_of_lt (Heap.lt_size e)
    have lte : s.heap.objs.size ≠ e := (lt e _ he).symm
    have I1 : Inv X pins σ H { s with heap := h'', toks := s.toks + 1 } := I.turnedL (t' := s.toks + 1) (fun c o hb e => (hs.2 c (fun q => hb (by simp [q]))).trans (a5 c o (fun q => hb (by simp [q])) (fun q => hb (by simp [q])) e)) hf
    have ht : h''.get? s.heap.objs.size = some { cls := .type "tuple", data := .seq #[.int i s.toks, u] } := (hs.2 _ lte).trans a3
    have hn : H s.heap.objs.size = none := I.hok.fresh (Nat.le_refl _)
    have I2 : Inv X pins σ (upd H s.heap.objs.size (.tup [.int (i : Int), x])) { s with heap := h'', toks := s.toks + 1 } := by
      refine I1.track hn (Heap.get?_none_of_le I.sz) (Nat.ne_of_lt I.lt).symm (fun y c q => ?_) (fun p hp => ?_) (I.nofs (Nat.le_refl _)) ⟨by show 2 ≤ sizeLine; decide, [.int i s.toks, u], .cons ⟨_, rfl⟩ (.cons ru .nil), _, ht, rfl, _, rfl⟩
      · obtain ⟨_, o, ho, _⟩ := I.cell y c q
        exact lt c o ho
      · exact lt _ _ (I.pin p hp).1
    refine ⟨.ref s.heap.objs.size, _, I2, rfl, ⟨_, x, rfl, hn, rfl, fun xs' q => ?_⟩, ⟨⟨u, ?_⟩, a2.at fun o e => (hs.2 _ hne.symm).trans e⟩, fun c hb => ?_⟩
    · rw [I.list_inj q q1]; exact hx
    · rw [show ((i + 1 : Nat) : Int) = (i : Int) + 1 by push_cast; rfl]
      exact b1
    · obtain ⟨o, ho, _⟩ : ∃ o, s.heap.get? c = some o ∧ True := by
        simp only [List.mem_cons, List.not_mem_nil, or_false] at hb
        rcases hb with rfl | rfl
        · exact ⟨_, he, trivial⟩
        · obtain ⟨o, ho, _⟩ := h1; exact ⟨o, ho, trivial⟩
      rw [upd_ne (lt c o ho)]
      exact (hf c hb).1
  done := by
    intro X hP hw hK hc i pins s σ H E I hf st hg
    subst hP hw hK
    obtain ⟨⟨old, he⟩, h1⟩ := st
    obtain ⟨xs, q1, hend⟩ := hg
    obtain ⟨its1, r1, p1, z1⟩ := I.list q1
    have e1 := r1.length
    exact wpAny_pyNext_enum_end (I.ok.hd hc) he h1 p1.isList (by simp; omega) fun h' k => ⟨rfl, I.turnedL (t' := s.toks) (fun c o hb e => k c o (fun q => hb (by simp [q])) e) hf⟩
  self := fun _ _ _ _ _ ⟨⟨_, he⟩, _⟩ h => wpAny_pyIter_enum he h
def iEnum (K : PySem.W.Frag) (ta : TA) : TI := fun σ H R => ta σ H fun vs H1 => ∃ l, vs = [.ref l] ∧ (∃ xs, SqL K H1 l xs) ∧ R (Ite K l) H1
theorem bt_enum : bootBuiltins "enumerate" = some (.type "enumerate") := by decide +kernel
theorem pi_enum {X : Cx} {elts : List Expr} {x1} {tpos : Pos} {a : Expr} {ta : TA} {p pos : Pos} (hg : Gl X "enumerate") (hm : X.mg "enumerate" = none) (ha : PA X [a] ta) (hs : starEach [a] X.env = [(false, eval a X.env)] := by rfl) :
    PI X (.Tuple elts x1 tpos) (.Call (.Name "enumerate" p) [a] [] pos) (iEnum X.K ta) := by
  intro pins s σ H R I h
  refine Call_ (ld_blt I hg hm bt_enum (PyProof.Rows.callWith_type1 (thn (ha pos pins s σ H _ I h) fun us s1 ⟨vs, H1, I1, r1, q1⟩ => ?_) hs rfl))
  obtain ⟨l, e, ⟨xs, q1⟩, q⟩ := q1
  subst e
  obtain ⟨u, rfl, ru⟩ := vals1 r1
  cases (show u = Value.ref l from ru)
  obtain ⟨its1, r1, p1, z1⟩ := I1.list q1
  refine call_enumerate_list p1.isList fun h' hE hI hsz hk => ?_
  refine wpAny_pyIter_enum hE ?_
  have I2 : Inv X pins σ H1 { s1 with heap := h' } := I1.kept (t' := s1.toks) hk
  refine ⟨_, [s1.heap.objs.size + 1, s1.heap.objs.size], _, _, H1, rfl, I2, turn_enum (Nat.succ_ne_self _), ⟨⟨_, hE⟩, hI⟩, fun c hc => ?_, q⟩
  have hge : s1.heap.objs.size ≤ c := by
    simp only [List.mem_cons, List.not_mem_nil, or_false] at hc
    rcases hc with h | h
    all_goals first | (rw [h]; exact Nat.le_add_right _ _) | exact Nat.le_of_eq h.symm
  have := I1.fpOk (H' := H1) hge (I1.hok.fresh hge)
  exact this
section
variable {K : PySem.W.Frag} {a a' : Addr} {xs ys : List V} {σ0 : St} {H1 : Hp} {g : TG} {c : TT} {te : TE} {Q : Addr → Hp → Prop}
end
end L2

set_option Elab.async false
set_option linter.all false
set_option maxRecDepth 100000
/-! min of a list of ints -/
namespace L2
open PySem PySem.Spec PyProof.Rows
section
variable {X : Cx}
end
section
variable {K : PySem.W.Frag} {a : Addr} {xs : List V} {lo : Int} {n : Nat} {σ0 : St} {H1 : Hp} {i0 : Nat} {c : TT} {te : TE} {Q : Addr → Hp → Prop}
def SameT (H H' : Hp) : Prop := ∀ b xs, H b = some (.tup xs) → H' b = some (.tup xs)
theorem Same.t {H H' : Hp} (s : Same H H') : SameT H H' := fun _ _ e => s _ _ e
theorem SameT.lst {H : Hp} {D : Addr} {ys : List V} {o : HO} (h : H D = some (.lst ys)) : SameT H (upd H D o) := fun b xs e => by
  rw [upd_ne fun q => by subst q; rw [h] at e; cases e]
  exact e
theorem comp_lstR (R : Nat → V → Hp → Prop) (mono : ∀ i y H H', SameT H H' → R i y H → R i y H') (hq : SqL K H1 a xs) (hn : xs.length ≤ sizeLine)
    (step : ∀ (i : Nat) (x : V) (H2 : Hp) (k : VK) (k0 : Hp → Prop), Same H1 H2 → xs[i]? = some x → (∀ y H3, Same H2 H3 → R i y H3 → k y H3) →
      c (σ0.set i0 (some x)) H2 fun b H4 => if b = true then te (σ0.set i0 (some x)) H4 k else k0 H4)
    (h : ∀ D ys H2, H1 D = none → Same H1 H2 → ys.length = xs.length → (∀ i y, ys[i]? = some y → R i y H2) → H2 D = some (.lst ys) → Q D H2) :
    ∀ D, H1 D = none → ∃ W : Nat → Nat → St → Hp → Prop, (∃ m, W 0 m σ0 (upd H1 D (.lst []))) ∧ ∀ i m σ1 H2, W i m σ1 H2 →
      ((Itl K a).stop i H2 ∧ Q D H2) ∨ ((Itl K a).go i H2 ∧ ∃ N : St → Hp → Prop, (∀ σ' H', N σ' H' → ∃ m', m' < m ∧ W (i + 1) m' σ' H') ∧
        ∀ x H', (Itl K a).yld i H2 x H' → gName i0 x σ1 H' fun σ2 H3 => c σ2 H3 fun b H4 => if b = true then te σ2 H4 fun y H5 => ∃ xs, H5 D = some (.lst xs) ∧ xs.length < sizeLine ∧ N σ2 (upd H5 D (.lst (xs ++ [y]))) else N σ2 H4) := by
  intro D hD
  refine ⟨fun i m σ1 H2 => σ1.set i0 none = σ0.set i0 none ∧ Same H1 H2 ∧ (∃ ys, ys.length = i ∧ (∀ j y, ys[j]? = some y → R j y H2) ∧ H2 D = some (.lst ys)) ∧ i ≤ xs.length ∧ m = xs.length - i, ⟨xs.length, rfl, .upd_new hD, ⟨[], rfl, fun j y e => (by cases e), upd_same⟩, Nat.zero_le _, rfl⟩, ?_⟩
  rintro i m σ1 H2 ⟨hσ, hs, ⟨ys, hy, hR, hd⟩, hi, rfl⟩
  have hset : ∀ v : Option V, σ1.set i0 v = σ0.set i0 v := fun v => by
    have z := congrArg (fun l => List.set l i0 v) hσ
    simpa using z
  rcases Nat.lt_or_ge i xs.length with hlt | hge
  · right
    refine ⟨⟨xs, xs[i], hs.seq hq, by simp [hlt]⟩, fun σ' H' => σ'.set i0 none = σ0.set i0 none ∧ Same H1 H' ∧ ∃ ys, ys.length = i + 1 ∧ (∀ j y, ys[j]? = some y → R j y H') ∧ H' D = some (.lst ys), fun σ' H' ⟨a, b, c⟩ => ⟨xs.length - (i + 1), by omega, a, b, c, hlt, rfl⟩, ?_⟩
    rintro x H' ⟨rfl, hx⟩
    have hx := hx xs (hs.seq hq)
    show c (σ1.set i0 (some x)) _ _
    rw [hset]
    refine step i x _ _ _ hs hx fun y H3 hs3 hR3 => ⟨_, hs3 _ _ hd, by omega, ?_, (hs.trans hs3).upd_ne' hD, ys ++ [y], by rw [List.length_append]; show _ + 1 = _; omega, fun j z e => ?_, upd_same⟩
    · simp
    · have keep : ∀ {j z}, R j z H3 → R j z (upd H3 D (.lst (ys ++ [y]))) := fun {j z} q => mono _ _ _ _ (.lst (hs3 _ _ hd)) q
      rcases Nat.lt_or_ge j ys.length with z1 | z1
      · rw [List.getElem?_append_left z1] at e
        exact keep (mono _ _ _ _ hs3.t (hR j z e))
      · rw [List.getElem?_append_right z1] at e
        obtain ⟨rfl, rfl⟩ : j = i ∧ y = z := by
          rcases Nat.eq_zero_or_pos (j - ys.length) with q | q
          · rw [q] at e
            exact ⟨by omega, Option.some.inj e⟩
          · rw [List.getElem?_eq_none (by show 1 ≤ _; omega)] at e
            cases e
        exact keep hR3
  · left
    obtain rfl : i = xs.length := Nat.le_antisymm hi hge
    exact ⟨⟨xs, hs.seq hq, Nat.le_refl _⟩, h D ys _ hD hs hy hR hd⟩
end
end L2

set_option Elab.async false
set_option linter.all false
set_option maxRecDepth 100000
/-! == and != of nested data with None, bools and strs -/
namespace L2
open PySem PySem.Spec PyProof.Rows
section
variable {X : Cx}
mutual
inductive DatX (K : PySem.W.Frag) (H : Hp) : V → PyData → Prop
  | int (i : Int) : DatX K H (.int i) (.int i)
  | non : DatX K H .non .none
  | bl (b : Bool) : DatX K H (.bl b) (.bool b)
  | str (x : Str) : PyData.strOk x = true → DatX K H (.str x) (.str x)
  | lst {p : Addr} {xs : List V} {ds : List PyData} : SqL K H p xs → DatXAll K H xs ds → DatX K H (.ref p) (.list ds)
  | tup {p : Addr} {xs : List V} {ds : List PyData} : SqT K H p xs → DatXAll K H xs ds → DatX K H (.ref p) (.tuple ds)
inductive DatXAll (K : PySem.W.Frag) (H : Hp) : List V → List PyData → Prop
  | nil : DatXAll K H [] []
  | cons {x : V} {d : PyData} {xs : List V} {ds : List PyData} : DatX K H x d → DatXAll K H xs ds → DatXAll K H (x :: xs) (d :: ds)
end
mutual
theorem DatX.reads {pins : List (Addr × Obj)} {σ : St} {H : Hp} {s : Shared} (I : Inv X pins σ H s) : ∀ {v : V} {d : PyData} {u : Value}, DatX X.K H v d → RelV v u → ∃ as, Reads s.heap u d as
  | _, _, u, .int i, r => by obtain ⟨t, rfl⟩ := (show ∃ t, u = Value.int i t from r); exact ⟨_, .int i t⟩
  | _, _, u, .non, r => by obtain rfl : u = Value.none := r; exact ⟨_, .none⟩
  | _, _, u, .bl b, r => by obtain rfl : u = Value.bool b := r; exact ⟨_, .bool b⟩
  | _, _, u, .str x _, r => by obtain ⟨t, rfl⟩ := (show ∃ t, u = Value.str x t from r); exact ⟨_, .str x t⟩
  | _, _, u, .lst (p := p) hq ha, r => by
    obtain rfl : u = .ref p := r
    obtain ⟨its, r', pl, hz⟩ := I.list hq
    obtain ⟨o, ho, hc, n, hd⟩ := pl.isList
    obtain ⟨as, z⟩ := DatXAll.reads I ha r'
    exact ⟨_, .list ho hc hd (by simpa using z)⟩
  | _, _, u, .tup (p := p) hq ha, r => by
    obtain rfl : u = .ref p := r
    obtain ⟨its, r', pl, hz⟩ := I.tuple hq
    obtain ⟨o, ho, hc, n, hd⟩ := pl
    obtain ⟨as, z⟩ := DatXAll.reads I ha r'
    exact ⟨_, .tuple ho hc hd (by simpa using z)⟩
theorem DatXAll.reads {pins : List (Addr × Obj)} {σ : St} {H : Hp} {s : Shared} (I : Inv X pins σ H s) : ∀ {vs : List V} {ds : List PyData} {us : List Value}, DatXAll X.K H vs ds → Vals vs us → ∃ as, ReadsAll s.heap us ds as
  | _, _, _, .nil, .nil => ⟨_, .nil⟩
  | _, _, _, .cons h t, .cons r rs => by
    obtain ⟨a1, z1⟩ := DatX.reads I h r
    obtain ⟨a2, z2⟩ := DatXAll.reads I t rs
    exact ⟨_, .cons z1 z2⟩
end
mutual
theorem DatX.lay {K : PySem.W.Frag} {H : Hp} : ∀ {v : V} {d : PyData}, DatX K H v d → d.canLay0 = true ∧ PyData.eqv d d = true
  | _, _, .int i => ⟨rfl, by simp [PyData.eqv]⟩
  | _, _, .non => ⟨rfl, by simp [PyData.eqv]⟩
  | _, _, .bl b => ⟨rfl, by simp [PyData.eqv]⟩
  | _, _, .str x h => ⟨h, by simp [PyData.eqv]⟩
  | _, _, .lst _ h => by
    obtain ⟨a, b⟩ := DatXAll.lay h
    exact ⟨by simpa [PyData.canLay0] using a, by simpa [PyData.eqv] using b⟩
  | _, _, .tup _ h => by
    obtain ⟨a, b⟩ := DatXAll.lay h
    exact ⟨by simpa [PyData.canLay0] using a, by simpa [PyData.eqv] using b⟩
theorem DatXAll.lay {K : PySem.W.Frag} {H : Hp} : ∀ {vs : List V} {ds : List PyData}, DatXAll K H vs ds → PyData.canLayAll0 ds = true ∧ PyData.eqvAll ds ds = true
  | _, _, .nil => ⟨rfl, rfl⟩
  | _, _, .cons h t => by
    obtain ⟨a, b⟩ := DatX.lay h
    obtain ⟨c, d⟩ := DatXAll.lay t
    exact ⟨by simp [PyData.canLayAll0, a, c], by simp [PyData.eqvAll, b, d]⟩
end
mutual
theorem DatX.same {K : PySem.W.Frag} {H H' : Hp} (s : Same H H') : ∀ {v : V} {d : PyData}, DatX K H v d → DatX K H' v d
  | _, _, .int i => .int i
  | _, _, .non => .non
  | _, _, .bl b => .bl b
  | _, _, .str x h => .str x h
  | _, _, .lst q h => .lst (s.seq q) (DatXAll.same s h)
  | _, _, .tup q h => .tup (s.sqt q) (DatXAll.same s h)
theorem DatXAll.same {K : PySem.W.Frag} {H H' : Hp} (s : Same H H') : ∀ {vs : List V} {ds : List PyData}, DatXAll K H vs ds → DatXAll K H' vs ds
  | _, _, .nil => .nil
  | _, _, .cons h t => .cons (DatX.same s h) (DatXAll.same s t)
end
def rEqX (K : PySem.W.Frag) (b : Bool) : R2 := fun x y H Q => ∃ d, DatX K H x d ∧ DatX K H y d ∧ d.depth ≤ 64 ∧ Q (.bl b) H
theorem op_neX (hu : X.A.units + 64 < cLine) : OpR X (compareOp .NotEq) (rEqX X.K false) := by
  intro pins s σ H x y v u Q I rx ry h
  obtain ⟨d, h1, h2, hd, q⟩ := h
  obtain ⟨as, r1⟩ := h1.reads I rx
  obtain ⟨bs, r2⟩ := h2.reads I ry
  have sh : SeqAt.shaped d = true := by
    show (d.canLay0 && decide (d.depth ≤ 64)) = true
    rw [h1.lay.1, decide_eq_true hd]; rfl
  exact ne_dataH r1 r2 sh sh hu (by rw [h1.lay.2]; exact ⟨.bl false, H, I, rfl, q⟩)
end


end L2

set_option Elab.async false
set_option linter.all false
set_option maxRecDepth 100000
namespace L2
open PySem PySem.Spec PyProof.Rows

/-! ### lists of pairs as tables -/
section
variable {κ : Type} [DecidableEq κ]
def valV (kvs : List (κ × V)) (k : κ) : Option V := (kvs.find? fun kv => decide (kv.1 = k)).map (·.2)
/-- in its place, or at the end -/
def putK (kvs : List (κ × V)) (k : κ) (v : V) : List (κ × V) :=
  if (kvs.any fun kv => decide (kv.1 = k)) = true then kvs.map (fun kv => if kv.1 = k then (kv.1, v) else kv) else kvs ++ [(k, v)]
def dropK (kvs : List (κ × V)) (k : κ) : List (κ × V) := kvs.filter fun kv => decide (kv.1 ≠ k)

theorem valV_pos {p : κ × V} {r : List (κ × V)} {k : κ} (e : p.1 = k) : valV (p :: r) k = some p.2 := by simp [valV, List.find?_cons, e]
theorem valV_neg {p : κ × V} {r : List (κ × V)} {k : κ} (e : ¬ p.1 = k) : valV (p :: r) k = valV r k := by simp [valV, List.find?_cons, e]
theorem valV_any (k : κ) : ∀ kvs : List (κ × V), (kvs.any fun kv => decide (kv.1 = k)) = (valV kvs k).isSome
  | [] => rfl
  | p :: r => by
    rw [List.any_cons]
    by_cases e : p.1 = k
    · simp only [valV_pos e, decide_eq_true e, Bool.true_or, Option.isSome_some]
    · rw [valV_neg e, decide_eq_false e, Bool.false_or]; exact valV_any k r
theorem length_putK (kvs : List (κ × V)) (k : κ) (v : V) : (putK kvs k v).length ≤ kvs.length + 1 := by
  unfold putK
  split
  · rw [List.length_map]; omega
  · rw [List.length_append, List.length_cons, List.length_nil]; omega
theorem putK_new {kvs : List (κ × V)} {k : κ} (v : V) (h : valV kvs k = none) : putK kvs k v = kvs ++ [(k, v)] := by
  unfold putK
  rw [valV_any, h]
  exact if_neg (by decide)

theorem RelO.isSome_eq {o : Option V} {u : Option Value} (r : RelO o u) : o.isSome = u.isSome := by
  cases o with
  | none => cases u with
    | none => rfl
    | some _ => exact (show False from r).elim
  | some _ => cases u with
    | none => exact (show False from r).elim
    | some _ => rfl
/-- raw tables of the same keys -/
theorem KV.val {kvs : List (κ × V)} {vs : List (κ × Value)} (r : KV kvs vs) (k : κ) : RelO (valV kvs k) (valueAt vs k) := by
  unfold KV at r
  induction r with
  | nil => exact True.intro
  | @cons p q ps qs h t ih =>
    obtain ⟨h1, h2⟩ := h
    by_cases e : p.1 = k
    · have e' : q.1 = k := h1.symm.trans e
      have b : valueAt (q :: qs) k = some q.2 := by simp [valueAt, List.find?_cons, e']
      rw [valV_pos e, b]; exact h2
    · have e' : ¬ q.1 = k := fun z => e (h1.trans z)
      have b : valueAt (q :: qs) k = valueAt qs k := by simp [valueAt, List.find?_cons, e']
      rw [valV_neg e, b]; exact ih
theorem KV.any {kvs : List (κ × V)} {vs : List (κ × Value)} (r : KV kvs vs) (k : κ) : (kvs.any fun kv => decide (kv.1 = k)) = vs.any fun kv => decide (kv.1 = k) := by
  unfold KV at r
  induction r with
  | nil => rfl
  | cons h t ih => rw [List.any_cons, List.any_cons, ih, h.1]
theorem KV.repl {kvs : List (κ × V)} {vs : List (κ × Value)} (r : KV kvs vs) (k : κ) {y : V} {u : Value} (ry : RelV y u) :
    KV (kvs.map fun kv => if kv.1 = k then (kv.1, y) else kv) (vs.map fun kv => if kv.1 = k then (kv.1, u) else kv) := by
  unfold KV at r ⊢
  induction r with
  | nil => exact .nil
  | @cons p q ps qs h t ih =>
    rw [List.map_cons, List.map_cons]
    refine .cons ?_ ih
    obtain ⟨h1, h2⟩ := h
    by_cases e : p.1 = k
    · rw [if_pos e, if_pos (h1.symm.trans e)]; exact ⟨h1, ry⟩
    · rw [if_neg e, if_neg (fun z => e (h1.trans z))]; exact ⟨h1, h2⟩
theorem KV.put {kvs : List (κ × V)} {vs : List (κ × Value)} (r : KV kvs vs) (k : κ) {y : V} {u : Value} (ry : RelV y u) : KV (putK kvs k y) (stored vs k u) := by
  unfold putK stored
  rw [r.any k]
  by_cases e : (vs.any fun kv => decide (kv.1 = k)) = true
  · rw [if_pos e, if_pos e]; exact r.repl k ry
  · rw [if_neg e, if_neg e]; exact Paired.snoc r ⟨rfl, ry⟩
theorem KV.length {kvs : List (κ × V)} {vs : List (κ × Value)} (r : KV kvs vs) : kvs.length = vs.length := Paired.length r
end


/-! ### a tracked dict, its keys ints and texts or tuples of these -/
theorem kV_is {P : Program} {w : World} {k : Key} {u : Value} (r : RelV (kV k) u) : (mixKind P w).is k u = true := by
  cases k with
  | inl i => obtain ⟨t, e⟩ := (show ∃ t, u = Value.int i t from r); subst e; exact mixKind_int P w i t
  | inr x => obtain ⟨t, e⟩ := (show ∃ t, u = Value.str x t from r); subst e; exact mixKind_str P w x t
theorem items_are {P : Program} {w : World} : ∀ {ks : List Key} {us : List Value}, Vals (ks.map kV) us → ItemsAre (mixKind P w) ks us
  | [], _, r => by rw [List.map_nil] at r; cases r; exact .nil
  | k :: ks, _, r => by
    rw [List.map_cons] at r
    cases r with
    | cons h t => exact .cons (kV_is h) (items_are t)

/-- raw entries of a dict with tuple keys -/
abbrev KT (H : Hp) : List (List Key × V) → List (List Key × Addr × Value) → Prop := Paired fun p q => p.1 = q.1 ∧ H q.2.1 = some (.tup (p.1.map kV)) ∧ RelV p.2 q.2.2
theorem KT.val {H : Hp} {kvs : List (List Key × V)} {xs : List (List Key × Addr × Value)} (r : KT H kvs xs) (k : List Key) : RelO (valV kvs k) ((atKey xs k).map (·.2)) := by
  induction r with
  | nil => exact True.intro
  | @cons p q ps qs h t ih =>
    obtain ⟨h1, _, h2⟩ := h
    by_cases e : p.1 = k
    · have e' : q.1 = k := h1.symm.trans e
      have b : atKey (q :: qs) k = some q.2 := by simp [atKey, List.find?_cons, e']
      rw [valV_pos e, b]; exact h2
    · have e' : ¬ q.1 = k := fun z => e (h1.trans z)
      have b : atKey (q :: qs) k = atKey qs k := by simp [atKey, List.find?_cons, e']
      rw [valV_neg e, b]; exact ih
theorem KT.repl {H : Hp} {kvs : List (List Key × V)} {xs : List (List Key × Addr × Value)} (r : KT H kvs xs) (k : List Key) {y : V} {u : Value} (ry : RelV y u) :
    KT H (kvs.map fun kv => if kv.1 = k then (kv.1, y) else kv) (xs.map (putAt k u)) := by
  induction r with
  | nil => exact .nil
  | @cons p q ps qs h t ih =>
    rw [List.map_cons, List.map_cons]
    refine .cons ?_ ih
    obtain ⟨h1, h2, h3⟩ := h
    unfold putAt
    by_cases e : p.1 = k
    · rw [if_pos e, if_pos (h1.symm.trans e)]; exact ⟨h1, h2, ry⟩
    · rw [if_neg e, if_neg (fun z => e (h1.trans z))]; exact ⟨h1, h2, h3⟩
theorem KT.put {H : Hp} {kvs : List (List Key × V)} {xs : List (List Key × Addr × Value)} (r : KT H kvs xs) (k : List Key) {b : Addr} {y : V} {u : Value} (hb : H b = some (.tup (k.map kV))) (ry : RelV y u) :
    KT H (putK kvs k y) (storedH xs k b u) := by
  have e : (kvs.any fun kv => decide (kv.1 = k)) = (atKey xs k).isSome := by
    rw [valV_any, (r.val k).isSome_eq, Option.isSome_map]
  unfold putK storedH
  rw [e]
  by_cases q : (atKey xs k).isSome = true
  · rw [if_pos q, if_pos q]; exact r.repl k ry
  · rw [if_neg q, if_neg q]; exact Paired.snoc r ⟨rfl, hb, ry⟩
theorem KT.keeps {H H' : Hp} {kvs : List (List Key × V)} {xs : List (List Key × Addr × Value)} (r : KT H kvs xs) (ht : ∀ b ys, H b = some (.tup ys) → H' b = some (.tup ys)) : KT H' kvs xs :=
  Paired.mapP r fun _ _ z => ⟨z.1, ht _ _ z.2.1, z.2.2⟩

section
variable {P : Program} {w : World} {H : Hp} {h : Heap} {a : Addr}
theorem rd_of {u : HO} (ok : HOk P w H h) (e : Rd H a u) : ObjOk P w H h a u := e.ok ok
theorem dk_rd {kvs : List (Key × V)} (ok : HOk P w H h) (e : Rd H a (.dK kvs)) : kvs.length ≤ sizeLine ∧ (a == sysModules) = false ∧ ∃ vs, KV kvs vs ∧ h.DictOf (mixKind P w) a vs :=
  show ObjOk P w H h a (.dK kvs) from rd_of ok e
theorem dk_of {kvs : List (Key × V)} (ok : HOk P w H h) (e : H a = some (.dK kvs)) : kvs.length ≤ sizeLine ∧ (a == sysModules) = false ∧ ∃ vs, KV kvs vs ∧ h.DictOf (mixKind P w) a vs := dk_rd ok (.inl e)
/-- a tracked tuple of ints and texts is a key -/
theorem key_of {ks : List Key} (ok : HOk P w H h) (e : H a = some (.tup (ks.map kV))) : (tupleKind (mixKind P w)).is h ks a := by
  obtain ⟨_, its, r, o, h1, h2, n, h3⟩ := (show ObjOk P w H h a (.tup (ks.map kV)) from ok a _ e)
  exact ⟨o, its.toArray, n, h1, h2, h3, by simpa using items_are r⟩
theorem dt_rd {kvs : List (List Key × V)} (ok : HOk P w H h) (e : Rd H a (.dT kvs)) : kvs.length ≤ sizeLine ∧ (a == sysModules) = false ∧
    ∃ xs, KT H kvs xs ∧ h.DictOfH (tupleKind (mixKind P w)) a xs := by
  obtain ⟨z, y, xs, r, o, es, ep, h1, h2, h3, h4, h5⟩ := (show ObjOk P w H h a (.dT kvs) from rd_of ok e)
  refine ⟨z, y, xs, r, o, es, ep, h1, h2, h3, h4, fun x hx => ?_, h5⟩
  have all : ∀ {l : List (List Key × V)} {m : List (List Key × Addr × Value)}, KT H l m → ∀ x ∈ m, (tupleKind (mixKind P w)).is h x.1 x.2.1 := by
    intro l m q
    induction q with
    | nil => intro x hx; exact nomatch hx
    | @cons p q ps qs hq t ih =>
      intro x hx
      rcases List.mem_cons.mp hx with e | hx
      · subst e
        exact key_of ok (by rw [← hq.1]; exact hq.2.1)
      · exact ih x hx
  exact all r x hx
theorem dt_of {kvs : List (List Key × V)} (ok : HOk P w H h) (e : H a = some (.dT kvs)) : kvs.length ≤ sizeLine ∧ (a == sysModules) = false ∧
    ∃ xs, KT H kvs xs ∧ h.DictOfH (tupleKind (mixKind P w)) a xs := dt_rd ok (.inl e)
end

/-- what the dict at a holds at the key y -/
def DGet (H : Hp) (a : Addr) (y : V) (r : Option V) : Prop :=
  (∃ kvs k, Rd H a (.dK kvs) ∧ y = kV k ∧ r = valV kvs k) ∨ ∃ kvs k b, Rd H a (.dT kvs) ∧ y = .ref b ∧ H b = some (.tup (k.map kV)) ∧ r = valV kvs k
/-- the heap behind a[y] = v -/
def DPut (H : Hp) (a : Addr) (y v : V) (H' : Hp) : Prop :=
  (∃ kvs k, H a = some (.dK kvs) ∧ y = kV k ∧ kvs.length < sizeLine ∧ H' = upd H a (.dK (putK kvs k v))) ∨
  ∃ kvs k b, H a = some (.dT kvs) ∧ y = .ref b ∧ H b = some (.tup (k.map kV)) ∧ kvs.length < sizeLine ∧ H' = upd H a (.dT (putK kvs k v))
theorem DGet.t {H : Hp} {a b : Addr} {kvs : List (List Key × V)} {k : List Key} (e : H a = some (.dT kvs)) (eb : H b = some (.tup (k.map kV))) : DGet H a (.ref b) (valV kvs k) := .inr ⟨kvs, k, b, .inl e, rfl, eb, rfl⟩
theorem DPut.t {H : Hp} {a b : Addr} {kvs : List (List Key × V)} {k : List Key} {v : V} (e : H a = some (.dT kvs)) (eb : H b = some (.tup (k.map kV))) (hl : kvs.length < sizeLine) :
    DPut H a (.ref b) v (upd H a (.dT (putK kvs k v))) := .inr ⟨kvs, k, b, e, rfl, eb, hl, rfl⟩


section
variable {X : Cx} {pins : List (Addr × Obj)} {σ : St} {H : Hp} {s : Shared} {a : Addr} {y v : V} {u r : Value} {o : Option V} {A : Around} {E : Value → Shared → Prop}


/-- d[y], there -/
theorem d_getItem {Q : Value → Shared → Prop} (hu : A.units + 1 < cLine) (I : Inv X pins σ H s) (g : DGet H a y (some v)) (ry : RelV y u) (h : ∀ w' s', Inv X pins σ H s' → RelV v w' → Q w' s') :
    wpAny (model X.prog X.w) A (getItem (.ref a) u) Q E s := by
  rcases g with ⟨kvs, k, e, ey, l⟩ | ⟨kvs, k, b, e, ey, eb, l⟩
  · subst ey
    obtain ⟨z, hd, vs, rel, dd⟩ := dk_rd I.hok e
    obtain ⟨w', hw, rw'⟩ := RelO.some_of (v := v) (o := valueAt vs k) (by rw [l]; exact rel.val k)
    exact wpAny_getItem_of (kV_is ry) dd.mapOf hw (h w' _ (I.tok _) rw')
  · subst ey
    cases (show u = Value.ref b from ry)
    obtain ⟨z, hd, xs, rel, dd⟩ := dt_rd I.hok e
    obtain ⟨w', hw, rw'⟩ := RelO.some_of (v := v) (o := (atKey xs k).map (·.2)) (by rw [l]; exact rel.val k)
    obtain ⟨p, hp, hp2⟩ := Option.map_eq_some_iff.mp hw
    refine wpAny_getItem_heap (tupleKind_room_in1 hu) (key_of I.hok eb) dd hp ?_
    rw [hp2]
    exact h w' _ (I.tok _) rw'
/-- y in d -/
theorem d_in {Q : Value → Shared → Prop} (hu : A.units + 1 < cLine) (I : Inv X pins σ H s) (g : DGet H a y o) (ry : RelV y u) (h : ∀ s', Inv X pins σ H s' → Q (.bool o.isSome) s') :
    wpAny (model X.prog X.w) A (compareOp .In u (.ref a)) Q E s := by
  rcases g with ⟨kvs, k, e, ey, l⟩ | ⟨kvs, k, b, e, ey, eb, l⟩
  · subst ey
    obtain ⟨z, hd, vs, rel, dd⟩ := dk_rd I.hok e
    refine wpAny_in_of (kV_is ry) hd dd.mapOf ?_
    rw [← (rel.val k).isSome_eq, ← l]
    exact h _ (I.tok _)
  · subst ey
    cases (show u = Value.ref b from ry)
    obtain ⟨z, hd, xs, rel, dd⟩ := dt_rd I.hok e
    refine wpAny_in_heap (tupleKind_room_in1 hu) (key_of I.hok eb) hd dd ?_
    have q := (rel.val k).isSome_eq
    rw [Option.isSome_map] at q
    rw [← q, ← l]
    exact h _ (I.tok _)
theorem d_notIn {Q : Value → Shared → Prop} (hu : A.units + 1 < cLine) (I : Inv X pins σ H s) (g : DGet H a y o) (ry : RelV y u) (h : ∀ s', Inv X pins σ H s' → Q (.bool (!o.isSome)) s') :
    wpAny (model X.prog X.w) A (compareOp .NotIn u (.ref a)) Q E s := by
  rcases g with ⟨kvs, k, e, ey, l⟩ | ⟨kvs, k, b, e, ey, eb, l⟩
  · subst ey
    obtain ⟨z, hd, vs, rel, dd⟩ := dk_rd I.hok e
    refine wpAny_notIn_of (kV_is ry) hd dd.mapOf ?_
    rw [← (rel.val k).isSome_eq, ← l]
    exact h _ (I.tok _)
  · subst ey
    cases (show u = Value.ref b from ry)
    obtain ⟨z, hd, xs, rel, dd⟩ := dt_rd I.hok e
    refine wpAny_notIn_heap (tupleKind_room_in1 hu) (key_of I.hok eb) hd dd ?_
    have q := (rel.val k).isSome_eq
    rw [Option.isSome_map] at q
    rw [← q, ← l]
    exact h _ (I.tok _)
/-- a dict's object is replaced -/
theorem d_write {h' : Heap} {t' : Nat} {ob : HO} (I : Inv X pins σ H s) (mu : Mut (H a)) (hs : Heap.SameBut a s.heap h') (he : ∃ q, h'.get? a = some q) (new : ObjOk X.prog X.w (upd H a ob) h' a ob) :
    Inv X pins σ (upd H a ob) { s with heap := h', toks := t' } :=
  I.write (x := a) (e := a) mu (.inl rfl) (fun b q hb z => (hs.2 b hb).trans z) he new
theorem dk_new {P : Program} {w : World} {H' : Hp} {h' : Heap} {kvs : List (Key × V)} {vs : List (Key × Value)} (z : kvs.length ≤ sizeLine) (hd : (a == sysModules) = false) (rel : KV kvs vs) (dd : h'.DictOf (mixKind P w) a vs) :
    ObjOk P w H' h' a (.dK kvs) := ⟨z, hd, vs, rel, dd⟩
/-- d[y] = v -/
theorem d_setItem {H' : Hp} {Q : Unit → Shared → Prop} (hu : A.units + 1 < cLine) (I : Inv X pins σ H s) (g : DPut H a y v H') (ry : RelV y u) (rv : RelV v r) (h : ∀ s', Inv X pins σ H' s' → Q () s') :
    wpAny (model X.prog X.w) A (setItem (.ref a) u r) Q E s := by
  rcases g with ⟨kvs, k, e, ey, l, eH⟩ | ⟨kvs, k, b, e, ey, eb, l, eH⟩
  · subst ey eH
    obtain ⟨z, hd, vs, rel, dd⟩ := dk_of I.hok e
    have hz : vs.length ≤ sizeLine := by rw [← rel.length]; exact z
    have hl : (putK kvs k v).length ≤ sizeLine := by have := length_putK kvs k v; omega
    refine wpAny_setItem_pairs (hsz := hz) (kV_is ry) dd fun h' dd' hs => h _ ?_
    have he : ∃ q, h'.get? a = some q := let ⟨q, _, _, hq, _⟩ := dd'; ⟨q, hq⟩
    exact d_write I (by rw [e]; exact True.intro) hs he (dk_new hl hd (rel.put k rv) dd')
  · subst ey eH
    cases (show u = Value.ref b from ry)
    obtain ⟨z, hd, xs, rel, dd⟩ := dt_of I.hok e
    have hz : xs.length ≤ sizeLine := by rw [← Paired.length rel]; exact z
    have hl : (putK kvs k v).length ≤ sizeLine := by have := length_putK kvs k v; omega
    refine wpAny_setItem_heap (hsz := hz) (tupleKind_room_in1 hu) (key_of I.hok eb) dd fun h' dd' hs => h _ ?_
    obtain ⟨q, es, ep, hq, h2, h3, h4, _, h5⟩ := dd'
    refine d_write I (by rw [e]; exact True.intro) hs ⟨q, hq⟩ ⟨hl, hd, _, (rel.put k eb rv).keeps fun c ys ec => ?_, q, es, ep, hq, h2, h3, h4, h5⟩
    rw [upd_ne (ne_of ec e (fun z => nomatch z))]
    exact ec
end

section
variable {X : Cx} {pins : List (Addr × Obj)} {σ : St} {H : Hp} {s : Shared} {a : Addr} {kvs : List (Key × V)} {k : Key} {u : Value} {A : Around} {E : Value → Shared → Prop}
end


/-! ### readings and rules -/
/-- the element of a subscription, not a slice -/
def NoSl (i : Expr) : Prop := ∀ ov iv, subscripted i false ov iv = operate [ov, iv] (getItem ov iv)
theorem subD_of {prog : Program} {w : World} {A : Around} {E : Value → Shared → Prop} {s : Shared} {env : Env} {value slice : Expr} {pos : Pos} {T id : String} {Q : Value → Shared → Prop}
    (hl : typeLookup (.type T) "__getitem__" = pure (some (.builtin id))) (hs : NoSl slice)
    (h : wpAny (model prog w) A (eval value env) (fun o s₁ => wpAny (model prog w) A (eval slice env) (fun i s₂ => s₂.TypeIs o T ∧ wpAny (model prog w) A (getItem o i) Q E s₂) E s₁) E s) :
    wpAny (model prog w) A (eval (.Subscript value slice pos) env) Q E s := by
  refine Subscript_ (wpAny_mono h (fun o s₁ h₁ => wpAny_mono h₁ (fun i s₂ h₂ => ?_) fun _ _ x => x) fun _ _ x => x)
  obtain ⟨hT, h₂⟩ := h₂
  unfold subscriptTail
  refine wpAny_bind ?_
  rw [getitemInPython_of_ne hT.not_modules]
  refine wpAny_bind (wpAny_specialOf hT hl ?_)
  have fin : wpAny (model prog w) A (subscripted slice false o i) (fun r s₃ => wpAny (model prog w) A (letTemporaryGo value o r >>= fun _ => pure r) Q E s₃) E s₂ := by
    rw [hs o i]
    exact wpAny_operating (wpAny_mono h₂ (fun r s₃ h₃ => wpAny_bind (wpAny_letTemporaryGo (wpAny_pure h₃))) fun _ _ x => x)
  first
    | exact wpAny_pure (wpAny_bind fin)
    | exact wpAny_bind (wpAny_pure (wpAny_bind fin))
    | exact wpAny_bind fin

theorem dict_typeIs {X : Cx} {pins : List (Addr × Obj)} {σ : St} {H : Hp} {s : Shared} {a : Addr} {y : V} {o : Option V} (I : Inv X pins σ H s) (g : DGet H a y o) : s.TypeIs (.ref a) "dict" := by
  rcases g with ⟨kvs, k, e, _, _⟩ | ⟨kvs, k, b, e, _, _, _⟩
  · obtain ⟨_, _, vs, _, dd⟩ := dk_rd I.hok e
    exact dd.typeIs
  · obtain ⟨_, _, xs, _, dd⟩ := dt_rd I.hok e
    exact dd.typeIs
/-- d[y] -/
def tDGet (td ty : TE) : TE := fun σ H Q => td σ H fun x H1 => ty σ H1 fun y H2 => ∃ a v, x = .ref a ∧ DGet H2 a y (some v) ∧ Q v H2
/-- y in d, y not in d -/
def tDIn (ty td : TE) : TE := fun σ H Q => ty σ H fun y H1 => td σ H1 fun x H2 => ∃ a o, x = .ref a ∧ DGet H2 a y o ∧ Q (.bl o.isSome) H2
def tDNotIn (ty td : TE) : TE := fun σ H Q => ty σ H fun y H1 => td σ H1 fun x H2 => ∃ a o, x = .ref a ∧ DGet H2 a y o ∧ Q (.bl (!o.isSome)) H2
/-- d[y] = v -/
def sDPut (td ty tv : TE) : TS := fun D σ H => tv σ H fun v H1 => td σ H1 fun x H2 => ty σ H2 fun y H3 => ∃ a H4, x = .ref a ∧ DPut H3 a y v H4 ∧ D.nx σ H4
/-- d[y] op= v -/
def sDAug (td ty tv : TE) (rd : V → V → Hp → VK → Prop) : TS := fun D σ H => td σ H fun x H1 => ty σ H1 fun y H2 => ∃ a v, x = .ref a ∧ DGet H2 a y (some v) ∧
  tv σ H2 fun y2 H3 => rd v y2 H3 fun z H4 => ∃ H5, DPut H4 a y z H5 ∧ D.nx σ H5
/-- del d[y] -/
def sDDel (td ty : TE) : TS := fun D σ H => td σ H fun x H1 => ty σ H1 fun y H2 => ∃ a kvs k, x = .ref a ∧ H2 a = some (.dK kvs) ∧ y = kV k ∧ (valV kvs k).isSome = true ∧ D.nx σ (upd H2 a (.dK (dropK kvs k)))

section
variable {X : Cx} {o i e value : Expr} {pos pos' tpos : Pos} {td ty tv : TE}
theorem pe_dget (hu : X.A.units + 1 < cLine) (ho : PE X o td) (hi : PE X i ty) (hs : NoSl i) : PE X (.Subscript o i pos) (tDGet td ty) := by
  intro pins s σ H Q I h
  refine subD_of PySem.F.slot_dict_getitem.lookup hs (thn (ho pins s σ H _ I h) fun u s1 ⟨x, H1, I1, rx, q1⟩ => thn (hi pins s1 σ H1 _ I1 q1) fun iv s2 ⟨y, H2, I2, ry, a, v, ex, g, q2⟩ => ?_)
  subst ex
  obtain rfl : u = Value.ref a := rx
  exact ⟨dict_typeIs I2 g, d_getItem hu I2 g ry fun w' s3 I3 rw' => ⟨v, H2, I3, rw', q2⟩⟩
theorem pc_din (hu : X.A.units + 1 < cLine) (hi : PE X i ty) (ho : PE X o td) : PC X .In i o (tDIn ty td) := by
  intro pins s σ H Q I h
  refine thn (hi pins s σ H _ I h) fun iv s1 ⟨y, H1, I1, ry, q1⟩ => thn (ho pins s1 σ H1 _ I1 q1) fun u s2 ⟨x, H2, I2, rx, a, ov, ex, g, q2⟩ => ?_
  subst ex
  obtain rfl : u = Value.ref a := rx
  exact d_in hu I2 g ry fun s3 I3 => ⟨.bl ov.isSome, H2, I3, rfl, q2⟩
theorem pc_dnotin (hu : X.A.units + 1 < cLine) (hi : PE X i ty) (ho : PE X o td) : PC X .NotIn i o (tDNotIn ty td) := by
  intro pins s σ H Q I h
  refine thn (hi pins s σ H _ I h) fun iv s1 ⟨y, H1, I1, ry, q1⟩ => thn (ho pins s1 σ H1 _ I1 q1) fun u s2 ⟨x, H2, I2, rx, a, ov, ex, g, q2⟩ => ?_
  subst ex
  obtain rfl : u = Value.ref a := rx
  exact d_notIn hu I2 g ry fun s3 I3 => ⟨.bl (!ov.isSome), H2, I3, rfl, q2⟩
theorem ps_dput (hu : X.A.units + 1 < cLine) (ho : PE X o td) (hi : PE X i ty) (hv : PE X value tv) (hs : swapsWith value (some (.Subscript o i pos')) pos.line X.env = pure false) :
    PS X (.Assign [.Subscript o i pos'] value pos) (sDPut td ty tv) := by
  intro pins s σ H D I h
  refine wpAny_Assign_Subscript (thn (hv pins s σ H _ I h) fun r s1 ⟨v, H1, I1, rv, q1⟩ => thn (ho pins s1 σ H1 _ I1 q1) fun u s2 ⟨x, H2, I2, rx, q2⟩ => thn (hi pins s2 σ H2 _ I2 q2) fun iv s3 ⟨y, H3, I3, ry, a, H4, ex, g, q3⟩ => ?_) hs
  subst ex
  obtain rfl : u = Value.ref a := rx
  exact d_setItem hu I3 g ry rv fun s4 I4 => ⟨σ, H4, I4, q3⟩
end

end L2
namespace L2
open PySem PySem.Spec PyProof.Rows
/-! ### a dict's pairs: keys that differ -/
section
variable {κ : Type} [DecidableEq κ]
end
end L2
namespace L2
open PySem PySem.Spec PyProof.Rows
theorem dt_empty {P : Program} {w : World} {H : Hp} (h : Heap) (hb : sysModules < h.objs.size) : ObjOk P w H (h.push { cls := .type "dict", data := .dict #[] }) h.objs.size (.dT []) :=
  ⟨Nat.zero_le _, beq_eq_false_iff_ne.mpr (Ne.symm (Nat.ne_of_lt hb)), [], .nil, _, #[], 0, Heap.get?_push_size _ rfl, ⟨rfl, rfl, rfl⟩, rfl, rfl, List.nodup_nil⟩
def tDNewT : TE := fun _ H Q => ∀ p, H p = none → Q (.ref p) (upd H p (.dT []))
section
variable {X : Cx} {pos : Pos}
theorem pe_dnewT : PE X (.Dict [] [] pos) tDNewT := fun pins s σ H Q I h =>
  wpAny_Dict_empty ⟨.ref s.heap.objs.size, _, I.laid (a := s.heap.objs.size) (o := .dT []) (t' := s.toks) (fun _ _ q => Heap.get?_push_of_some _ q) (Nat.le_refl _) (dt_empty s.heap I.big), rfl, h _ (I.hok.fresh (Nat.le_refl _))⟩
end
end L2

set_option Elab.async false
set_option linter.all false
set_option maxRecDepth 100000
/-! sorted(xs) of tuples of ints: what comes is a list with the same tuples, each as often -/
namespace PySem.W
open PySem PySem.Calls PyProof.Rows
/-- all that a tree asks is of the first n; what it tells is P -/
def KasT.Ok {α : Type} (n : Nat) (P : α → Prop) : KasT α → Prop
  | .ret a => P a
  | .ask i j k => i < n ∧ j < n ∧ ∀ b, (k b).Ok n P
theorem KasT.Ok.bind {α β : Type} {n : Nat} {P : α → Prop} {P' : β → Prop} {f : α → KasT β} : ∀ {t : KasT α}, t.Ok n P → (∀ a, P a → (f a).Ok n P') → (t.bind f).Ok n P'
  | .ret a, h, hf => hf a h
  | .ask i j k, h, hf => ⟨h.1, h.2.1, fun b => KasT.Ok.bind (h.2.2 b) hf⟩
/-- what a tree comes to by the answers of lt -/
def KasT.run {α : Type} (lt : Nat → Nat → Bool) : KasT α → α
  | .ret a => a
  | .ask i j k => (k (lt i j)).run lt
theorem KasT.Ok.wp {α : Type} {n : Nat} {P : α → Prop} {cmp : Nat → Nat → (Bool → Shared → Prop) → Shared → Prop} {Q : α → Shared → Prop} {s : Shared} (lt : Nat → Nat → Bool) (hc : ∀ i j C, i < n → j < n → C (lt i j) s → cmp i j C s) :
    ∀ {t : KasT α}, t.Ok n P → (∀ a, P a → a = t.run lt → Q a s) → t.kasWp cmp Q s
  | .ret a, h, hQ => hQ a h rfl
  | .ask i j k, h, hQ => hc i j _ h.1 h.2.1 (KasT.Ok.wp lt hc (h.2.2 (lt i j)) hQ)
def KPm (n : Nat) (p : Array Nat) : Prop := p.toList.Perm (List.range n)
theorem KPm.lt {n : Nat} {p : Array Nat} (h : KPm n p) (hn : 0 < n) (i : Nat) : p.getD i 0 < n := by
  by_cases hi : i < p.size
  · have e : p.getD i 0 = p[i] := by simp [Array.getD, hi]
    rw [e]
    exact List.mem_range.mp (h.mem_iff.mp (by simp))
  · have e : p.getD i 0 = 0 := by simp [Array.getD, hi]
    rw [e]
    exact hn
theorem KPm.rev {n : Nat} {p : Array Nat} (h : KPm n p) (i j : Nat) : KPm n (kas_rev p i j) := (Array.perm_iff_toList_perm.mp (mirror_perm p i j ((j - i) / 2))).trans h
theorem KPm.bub {n : Nat} {p : Array Nat} (h : KPm n p) (i j : Nat) : KPm n (bubble p i j) := (Array.perm_iff_toList_perm.mp (bubble_perm p i j)).trans h
theorem asc_ok {n : Nat} {p : Array Nat} (h : KPm n p) (hn : 0 < n) : ∀ f m, (kas_asc p f m).Ok n (fun _ => True)
  | 0, m => trivial
  | f + 1, m => ⟨h.lt hn _, h.lt hn _, fun b => by
    cases b with
    | true => exact trivial
    | false => exact asc_ok h hn f (m + 1)⟩
theorem desc_ok {n : Nat} (hn : 0 < n) : ∀ f p m q, KPm n p → (kas_desc f p m q).Ok n (fun r => KPm n r.1)
  | 0, p, m, q, h => h
  | f + 1, p, m, q, h => ⟨h.lt hn _, h.lt hn _, fun b => by
    cases b with
    | true =>
      show KasT.Ok n _ (if q > 0 then _ else _)
      split
      · exact desc_ok hn f _ _ _ (h.rev _ _)
      · exact desc_ok hn f _ _ _ h
    | false => exact ⟨h.lt hn _, h.lt hn _, fun d => by
        cases d with
        | true => exact h
        | false => exact desc_ok hn f _ _ _ h⟩⟩
theorem tail3_ok {n : Nat} (hn : 0 < n) (a m : Nat) {p : Array Nat} (h : KPm n p) : (kas_tail3 a m p).Ok n (fun r => KPm n r.2) :=
  KasT.Ok.bind (asc_ok (h.rev 0 a) hn _ _) fun _ _ => h.rev 0 a
theorem descPart_ok {n : Nat} (hn : 0 < n) (a m : Nat) {p : Array Nat} (h : KPm n p) : (kas_descPart a m p).Ok n (fun r => KPm n r.2) :=
  KasT.Ok.bind (desc_ok hn _ _ _ _ h) fun r hr => by
    show KasT.Ok n _ (if r.2.2 > 0 then _ else _)
    split
    · exact tail3_ok hn _ _ (hr.rev _ _)
    · exact tail3_ok hn _ _ hr
theorem count_ok {n : Nat} (hn : 0 < n) (m : Nat) {p : Array Nat} (h : KPm n p) : (kas_count m p).Ok n (fun r => KPm n r.2) :=
  KasT.Ok.bind (asc_ok h hn _ _) fun a _ => by
    show KasT.Ok n _ (if (a == m) = true then _ else if a > 1 then _ else _)
    split
    · exact h
    · split
      · exact ⟨h.lt hn _, h.lt hn _, fun b => by
          cases b with
          | true => exact h
          | false => exact descPart_ok hn _ _ (h.rev _ _)⟩
      · exact descPart_ok hn _ _ h
theorem place_ok {n : Nat} {p : Array Nat} (h : KPm n p) (hn : 0 < n) (k : Nat) : ∀ f l r, (kas_place p k f l r).Ok n (fun _ => True)
  | 0, l, r => trivial
  | f + 1, l, r => by
    show KasT.Ok n _ (if l ≥ r then _ else _)
    split
    · exact trivial
    · exact ⟨h.lt hn _, h.lt hn _, fun b => by
        cases b with
        | true => exact place_ok h hn k f _ _
        | false => exact place_ok h hn k f _ _⟩
theorem bin_ok {n : Nat} (hn : 0 < n) : ∀ f p k, KPm n p → (kas_bin f p k).Ok n (KPm n)
  | 0, p, k, h => h
  | f + 1, p, k, h => KasT.Ok.bind (place_ok h hn k _ _ _) fun l _ => bin_ok hn f _ _ (h.bub _ _)
theorem sort_ok {n : Nat} (hn : 0 < n) : (kas_sort n).Ok n (KPm n) :=
  KasT.Ok.bind (count_ok hn n (show KPm n (List.toArray (List.range n)) from List.Perm.refl _)) fun r hr => by
    show KasT.Ok n _ (if r.1 < n then _ else _)
    split
    · exact bin_ok hn _ _ _ hr
    · exact hr

section
variable {prog : Program} {w : World} {A : Around} {E : Value → Shared → Prop} {s : Shared}
theorem short_run {n : Nat} (h : n < 2) (lt : Nat → Nat → Bool) : (kas_sort n).run lt = List.toArray (List.range n) := by
  have c : n = 0 ∨ n = 1 := by omega
  rcases c with rfl | rfl
  · rfl
  · rfl
theorem list_sort_tup {a : Addr} {vs fs : List Value} {n : Nat} {P : PySem.Fin → Shared → Prop} (ho : s.heap.get? a = some (seqObj "list" vs.toArray n)) (h64 : vs.length < 64) (lt : Nat → Nat → Bool)
    (ht : ∀ h', (∀ b o, b ≠ a → s.heap.get? b = some o → h'.get? b = some o) → KatTups h' vs fs) (hT : ∀ v ∈ fs, ∃ i t, v = Value.int i t)
    (ask : ∀ h', (∀ b o, b ≠ a → s.heap.get? b = some o → h'.get? b = some o) → ∀ i j C, i < vs.length → j < vs.length → C (lt i j) { s with heap := h' } → kas_ask prog w A (tuples' true) vs i j C { s with heap := h' })
    (h : ∀ p : Array Nat, KPm vs.length p → p = (kas_sort vs.length).run lt → P (.done (.ret .none)) { s with heap := sortedHeap s.heap a vs (List.toArray (p.toList.map fun i => vs.getD i Value.none)) }) :
    wpAny (model prog w) A (Builtin.«list.sort» ⟨[.ref a], []⟩) P E s := by
  have ha : a < s.heap.objs.size := Heap.lt_size ho
  have hsz : vs.toArray.size = vs.length := by simp
  rw [list_sort_plain]
  refine wpAny_bind (listItems_at ho rfl ?_)
  refine wpAny_bind (listUpdate_at ho rfl ?_ (by rw [List.size_toArray, sizeLine_eq]; omega) (Nat.zero_le _))
  obtain ⟨e1, ho1⟩ : ∃ e1, (s.heap.update a (Obj.mapSeq fun _ => (#[] : Array Value))).get? a = some (seqObj "list" #[] e1) := ⟨_, get?_update_seq ho fun _ => #[]⟩
  refine wpAny_bind (seqEpoch_at ho1 rfl ?_)
  refine wpAny_bind (wpAny_newTuple ?_ (by show vs.length ≤ _; rw [sizeLine_eq]; omega))
  refine wpAny_bind (wpAny_newList ?_ (Nat.zero_le _))
  refine wpAny_holding ?_
  have ho6 : (((s.heap.update a (Obj.mapSeq fun _ => (#[] : Array Value))).push (seqObj "tuple" vs.toArray 0)).push (seqObj "list" #[] 0)).get? a = some (seqObj "list" #[] e1) := by
    rw [Heap.get?_push_ne _ _ _ (by rw [size_push', Heap.size_update]; exact Nat.ne_of_lt (Nat.lt_succ_of_lt ha)), Heap.get?_push_ne _ _ _ (by rw [Heap.size_update]; exact Nat.ne_of_lt ha)]
    exact ho1
  have keep : ∀ b o, b ≠ a → s.heap.get? b = some o → (((s.heap.update a (Obj.mapSeq fun _ => (#[] : Array Value))).push (seqObj "tuple" vs.toArray 0)).push (seqObj "list" #[] 0)).get? b = some o := fun b o hb q => by
    refine Heap.get?_push_of_some _ (Heap.get?_push_of_some _ ?_)
    rw [Heap.get?_update_ne _ _ _ _ hb]
    exact q
  show wpAny (model prog w) A _ P E { s with heap := ((s.heap.update a (Obj.mapSeq fun _ => (#[] : Array Value))).push (seqObj "tuple" vs.toArray 0)).push (seqObj "list" #[] 0) }
  dsimp only
  by_cases h2 : vs.toArray.size < 2
  · rw [if_pos h2, if_pos h2]
    refine wpAny_bind (wpAny_pure ?_)
    rw [StateT.run_pure]
    refine wpAny_bind (wpAny_pure ?_)
    dsimp only
    refine wpAny_bind (seqEpoch_at ho6 rfl ?_)
    refine wpAny_bind (listUpdate_at ho6 rfl ?_ (Nat.zero_le _) (by rw [Array.size_map]; show (pairsOf vs).size ≤ _; rw [pairsOf_size, sizeLine_eq]; omega))
    simp only [bne_self_eq_false, Bool.false_eq_true, if_false]
    have e : (arrOf (SortSt.mk' general' (vs.toArray.zip vs.toArray) #[] 7 none)).map (·.2) = List.toArray ((List.toArray (List.range vs.length)).toList.map fun i => vs.getD i Value.none) := by
      have hr := kas_range (vs.toArray.zip vs.toArray)
      rw [show (vs.toArray.zip vs.toArray).size = vs.length by simp] at hr
      exact kat_snds (ks := vs) (vs := vs) rfl (st := SortSt.mk' general' (vs.toArray.zip vs.toArray) #[] 7 none) (p := List.toArray (List.range vs.length)) hr.symm
    have z := h (List.toArray (List.range vs.length)) (List.Perm.refl _) (short_run (by omega) lt).symm
    rw [← e] at z
    exact wpAny_pure z
  · rw [if_neg h2, if_neg h2]
    have h2' : 2 ≤ vs.length := by omega
    refine wpAny_bind (kat_kind (T := .type "int") (ht _ keep) ?_ (fun v hv => ?_) (by decide) ?_)
    · have t := ht _ keep
      cases vs with
      | nil => simp at h2'
      | cons v r =>
        cases fs with
        | nil => exact t.elim
        | cons f fr => exact Nat.succ_pos _
    · obtain ⟨i, t, rfl⟩ := hT v hv
      exact .now
    show wpAny (model prog w) A _ P E _
    refine wpAny_bind (wpAny_mono (kat_run (ks := vs) (κ := tuples' true) (G := fun p s' => (KPm vs.length p ∧ p = (kas_sort vs.length).run lt) ∧ s' = { s with heap := ((s.heap.update a (Obj.mapSeq fun _ => (#[] : Array Value))).push (seqObj "tuple" vs.toArray 0)).push (seqObj "list" #[] 0) })
      (Q := fun st' s' => ∃ p : Array Nat, p.size = vs.length ∧ arrOf st' = p.map (kas_item (vs.toArray.zip vs.toArray)) ∧ failedOf st' = none ∧ (KPm vs.length p ∧ p = (kas_sort vs.length).run lt) ∧ s' = { s with heap := ((s.heap.update a (Obj.mapSeq fun _ => (#[] : Array Value))).push (seqObj "tuple" vs.toArray 0)).push (seqObj "list" #[] 0) })
      rfl h2' h64 (fun p' st' s' a1 a2 a3 a4 => ⟨p', a1, a2, a3, a4.1, a4.2⟩) ((sort_ok (by omega)).wp lt (ask _ keep) fun p hp hrun => ⟨⟨hp, hrun⟩, rfl⟩)) ?_ fun _ _ e => e)
    rintro ⟨⟨⟩, st'⟩ s' ⟨p, hp, har, hf, hpm, rfl⟩
    dsimp only
    have hout := kat_snds (ks := vs) (vs := vs) rfl har
    rw [hout]
    refine wpAny_bind (seqEpoch_at ho6 rfl ?_)
    refine wpAny_bind (listUpdate_at ho6 rfl ?_ (Nat.zero_le _) (by rw [List.size_toArray, List.length_map, Array.length_toList, hp, sizeLine_eq]; omega))
    rw [hf]
    simp only [bne_self_eq_false, Bool.false_eq_true, if_false]
    exact wpAny_pure (h p hpm.1 hpm.2)
/-- the list as the sort finds it -/
def preSort (h : Heap) (vs : List Value) : Heap := ((h.push (seqObj "list" #[] 0)).update h.objs.size (Obj.mapSeq (· ++ vs.toArray))).push (seqObj "list" vs.toArray 0)
theorem preSort_keep {h : Heap} {vs : List Value} {b : Addr} {o : Obj} (q : h.get? b = some o) : (preSort h vs).get? b = some o := by
  have hlt : b < h.objs.size := Heap.lt_size q
  refine Heap.get?_push_of_some _ ?_
  rw [Heap.get?_update_ne _ _ _ _ (Nat.ne_of_lt hlt)]
  exact Heap.get?_push_of_some _ q
theorem sorted_tup {l : Addr} {vs fs : List Value} {Q : Value → Shared → Prop} (hl : s.heap.IsList l vs.toArray) (h64 : vs.length < 64) (lt : Nat → Nat → Bool)
    (ht : ∀ h' : Heap, (∀ b o, s.heap.get? b = some o → h'.get? b = some o) → KatTups h' vs fs) (hT : ∀ v ∈ fs, ∃ i t, v = Value.int i t)
    (ask : ∀ h' : Heap, (∀ b o, s.heap.get? b = some o → h'.get? b = some o) → ∀ i j C, i < vs.length → j < vs.length → C (lt i j) { s with heap := h' } → kas_ask prog w A.in1.in1 (tuples' true) vs i j C { s with heap := h' })
    (h : ∀ p : Array Nat, KPm vs.length p → p = (kas_sort vs.length).run lt → Q (.ref (s.heap.objs.size + 1)) { s with heap := sortedAll s.heap vs (List.toArray (p.toList.map fun i => vs.getD i Value.none)) }) :
    wpAny (model prog w) A (call (.builtin "sorted") [.ref l]) Q E s := by
  refine Calls.call_function_entry kind_sorted plain_sorted entry_sorted (args_sorted1 _) ?_
  unfold Builtin.«sorted»
  refine wpAny_bind (m := checkCount "sorted" 1 1 _) (wpAny_pure ?_)
  refine wpAny_bind (collect_list hl ?_ (by rw [sizeLine_eq]; omega))
  refine wpAny_bind (wpAny_newList ?_ (by rw [sizeLine_eq]; omega))
  have hsz : ((s.heap.push (seqObj "list" #[] 0)).update s.heap.objs.size (Obj.mapSeq (· ++ vs.toArray))).objs.size = s.heap.objs.size + 1 := by
    rw [Heap.size_update, size_push']
  have hoL : (((s.heap.push (seqObj "list" #[] 0)).update s.heap.objs.size (Obj.mapSeq (· ++ vs.toArray))).push (seqObj "list" vs.toArray 0)).get? (s.heap.objs.size + 1) = some (seqObj "list" vs.toArray 0) := by
    rw [← hsz]; exact Heap.get?_push_size _ rfl
  show wpAny _ _ _ _ _ { s with heap := ((s.heap.push (seqObj "list" #[] 0)).update s.heap.objs.size (Obj.mapSeq (· ++ vs.toArray))).push (seqObj "list" vs.toArray 0) }
  rw [hsz]
  have kp : ∀ h' : Heap, (∀ b o, b ≠ s.heap.objs.size + 1 → (preSort s.heap vs).get? b = some o → h'.get? b = some o) → ∀ b o, s.heap.get? b = some o → h'.get? b = some o := fun h' hk b o q =>
    hk b o (Nat.ne_of_lt (Nat.lt_succ_of_lt (Heap.lt_size q))) (preSort_keep q)
  refine wpAny_bind (wpAny_holding (wpAny_call_entry slot_list_sort ⟨_, hoL, rfl⟩ entry_list_sort (list_sort_tup (s := { s with heap := preSort s.heap vs }) (fs := fs) hoL h64 lt (fun h' hk => ht h' (kp h' hk)) hT (fun h' hk i j C hi hj hC => ask h' (kp h' hk) i j C hi hj hC) fun p hp hrun => ⟨_, rfl, ?_⟩) (args_list_sort _)))
  exact wpAny_pure ⟨_, rfl, h p hp hrun⟩
end
end PySem.W
namespace L2
open PySem PySem.Spec PyProof.Rows PySem.W
theorem lexI_ok {prog : Program} {w : World} {A : Around} {Q : Bool → Shared → Prop} {s : Shared} : ∀ (vs us : List Value) (ns ms : List Int) (i : Nat), IntsAre vs ns → IntsAre us ms → Q (HT.lexLt ns ms) s → KatLex prog w A true (decide (vs.length < us.length)) Q (vs.zip us) i s
  | [], [], _, _, i, .nil, .nil, h => h
  | [], _ :: _, _, _, i, .nil, .cons .., h => by
    show Q (decide _) s
    rw [decide_eq_true (by simp)]
    exact h
  | _ :: _, [], _, _, i, .cons .., .nil, h => by
    show Q (decide _) s
    rw [decide_eq_false (by simp)]
    exact h
  | _, _, _, _, i, .cons n t (vs := vs) (ns := ns) hv, .cons m u (vs := us) (ns := ms) hu, h => by
    show KatLex prog w A true (decide (vs.length + 1 < us.length + 1)) Q ((Value.int n t, Value.int m u) :: vs.zip us) i s
    refine kat_cons ((SeqAt.EqAt.int_int n t m u) prog w _ _ ?_)
    rw [show decide (vs.length + 1 < us.length + 1) = decide (vs.length < us.length) from decide_eq_decide.mpr (by omega)]
    rw [HT.lexLt_cons] at h
    by_cases e : n = m
    · rw [if_pos e] at h
      rw [show (n == m) = true from by simpa using e]
      exact kat_yes (lexI_ok vs us ns ms (i + 1) hv hu h)
    · rw [if_neg e] at h
      rw [show (n == m) = false from by simpa using e]
      refine kat_no ?_
      cases hb : (true && i == 0) with
      | true => exact oneLt_int h
      | false => exact kat_one _ _ (PyProof.Rows.lt_int h)
def intOf : V → Int
  | .int i => i
  | _ => 0
def tupOf (H : Hp) (a : Addr) : List Int := match H a with
  | some (.tup xs) => xs.map intOf
  | _ => []
theorem tupOf_at {H : Hp} {a : Addr} {ns : List Int} (h : H a = some (.tup (ns.map V.int))) : tupOf H a = ns := by
  unfold tupOf
  rw [h]
  show (ns.map V.int).map intOf = ns
  rw [List.map_map]
  exact List.map_id'' (fun _ => rfl) ns
theorem vals_refs : ∀ {as : List Addr} {us : List Value}, Vals (as.map V.ref) us → us = as.map Value.ref
  | [], _, .nil => rfl
  | a :: as, _, .cons r t => by
    cases r
    rw [vals_refs t]
    rfl
theorem refs_vals : ∀ (as : List Addr), Vals (as.map V.ref) (as.map Value.ref)
  | [] => .nil
  | a :: as => .cons rfl (refs_vals as)
section
variable {X : Cx} {pins : List (Addr × Obj)} {σ : St} {H : Hp} {s : Shared}
/-- tuples of ints, none of them empty -/
def TupI (H : Hp) (a : Addr) : Prop := ∃ (i : Int) (ns : List Int), H a = some (.tup ((i :: ns).map V.int))
theorem TupI.there (I : Inv X pins σ H s) {a : Addr} (h : TupI H a) : ∃ (o : Obj) (xs : List Value) (n : Nat) (i : Int) (t : Tok), s.heap.get? a = some o ∧ o.cls = .type "tuple" ∧ o.data = .seq xs.toArray n ∧ IntsAre xs (tupOf H a) ∧ xs[0]? = some (.int i t) := by
  obtain ⟨i, ns, h⟩ := h
  obtain ⟨its, r, ⟨o, h1, h2, n, h3⟩, _⟩ := I.tuple (SqT.of h)
  have hi := intsAre_of r
  rw [← tupOf_at h] at hi
  refine ⟨o, its, n, i, ?_⟩
  obtain ⟨u, hu, ⟨t, rfl⟩⟩ := r.get (i := 0) (x := .int i) rfl
  exact ⟨t, h1, h2, h3, hi, hu⟩
theorem katTups_of (I : Inv X pins σ H s) : ∀ (as : List Addr), (∀ a ∈ as, TupI H a) → ∃ fs, (∀ v ∈ fs, ∃ i t, v = Value.int i t) ∧ ∀ h' : Heap, (∀ b o, s.heap.get? b = some o → h'.get? b = some o) → KatTups h' (as.map Value.ref) fs
  | [], _ => ⟨[], fun v hv => (by cases hv), fun _ _ => KatTups.nil⟩
  | a :: as, h => by
    obtain ⟨fs, h1, h2⟩ := katTups_of I as fun b hb => h b (by simp [hb])
    obtain ⟨o, xs, n, i, t, g1, g2, g3, g4, g5⟩ := (h a (by simp)).there I
    refine ⟨.int i t :: fs, fun v hv => ?_, fun h' k => KatTups.cons (k _ _ g1) g2 g3 (by simpa using g5) (h2 h' k)⟩
    rcases List.mem_cons.mp hv with rfl | hv
    · exact ⟨i, t, rfl⟩
    · exact h1 v hv
theorem sortedHeap_keep {h : Heap} {a b : Addr} {vs : List Value} {out : Array Value} {o : Obj} (hb : b ≠ a) (q : h.get? b = some o) : (sortedHeap h a vs out).get? b = some o := by
  unfold sortedHeap
  rw [Heap.get?_update_ne _ _ _ _ hb]
  refine Heap.get?_push_of_some _ (Heap.get?_push_of_some _ ?_)
  rw [Heap.get?_update_ne _ _ _ _ hb]
  exact q
theorem sortedHeap_at {h : Heap} {a : Addr} {vs : List Value} {out : Array Value} {n : Nat} (ho : h.get? a = some (seqObj "list" vs.toArray n)) : ∃ c, (sortedHeap h a vs out).get? a = some (seqObj "list" out c) := by
  obtain ⟨e1, ho1⟩ : ∃ e1, (h.update a (Obj.mapSeq fun _ => (#[] : Array Value))).get? a = some (seqObj "list" #[] e1) := ⟨_, get?_update_seq ho fun _ => #[]⟩
  unfold sortedHeap
  exact ⟨_, get?_update_seq (Heap.get?_push_of_some _ (Heap.get?_push_of_some _ ho1)) fun _ => out⟩
theorem range_getD (as : List Addr) : (List.range as.length).map (fun i => as.getD i 0) = as := by
  refine List.ext_getElem (by simp) fun i h1 h2 => ?_
  simp [h2]
/-- sorted(xs), xs a list of tuples of ints -/
theorem call_sortedTG : CallR X (.builtin "sorted") (fun xs H Q => ∃ (p : Addr) (as : List Addr), xs = [.ref p] ∧ SqL X.K H p (as.map V.ref) ∧ (∀ a ∈ as, TupI H a) ∧ as.length < 64 ∧ ∀ (l : Addr) (bs : List Addr), H l = none → bs.Perm as → bs = ((kas_sort as.length).run fun i j => HT.lexLt (tupOf H (as.getD i 0)) (tupOf H (as.getD j 0))).toList.map (fun i => as.getD i 0) → Q (.ref l) (upd H l (.lst (bs.map V.ref)))) := by
  intro pins s σ H xs us Q I r h
  obtain ⟨p, as, rfl, hq, ht, h64, q⟩ := h
  obtain ⟨u, rfl, rx⟩ := vals1 r
  cases rx
  obtain ⟨its, r', pl, hz⟩ := I.list hq
  obtain rfl := vals_refs r'
  obtain ⟨fs, f1, f2⟩ := katTups_of I as ht
  have hlen : (as.map Value.ref).length = as.length := List.length_map _
  refine sorted_tup pl.isList (by rw [hlen]; exact h64) (fun i j => HT.lexLt (tupOf H (as.getD i 0)) (tupOf H (as.getD j 0))) f2 f1 (fun h' k i j C hi hj hC => ?_) fun pm hp hrun => ?_
  · rw [hlen] at hi hj
    obtain ⟨o1, x1, n1, _, _, a1, a2, a3, a4, _⟩ := (ht (as.getD i 0) (by rw [List.getD_eq_getElem?_getD, List.getElem?_eq_getElem hi]; exact List.getElem_mem hi)).there I
    obtain ⟨o2, x2, n2, _, _, b1, b2, b3, b4, _⟩ := (ht (as.getD j 0) (by rw [List.getD_eq_getElem?_getD, List.getElem?_eq_getElem hj]; exact List.getElem_mem hj)).there I
    have e : ∀ i, i < as.length → (as.map Value.ref).getD i Value.none = .ref (as.getD i 0) := fun i hi => by
      rw [List.getD_eq_getElem?_getD, List.getElem?_map, List.getElem?_eq_getElem hi, List.getD_eq_getElem?_getD, List.getElem?_eq_getElem hi]
      rfl
    unfold kas_ask
    rw [e i hi, e j hj]
    refine kat_lt (k _ _ a1) a3 (k _ _ b1) b3 ?_
    simpa using lexI_ok x1 x2 _ _ 0 a4 b4 hC
  · rw [hlen] at hp
    have kp : ∀ b o, s.heap.get? b = some o → (sortedAll s.heap (as.map Value.ref) (List.toArray (pm.toList.map fun i => (as.map Value.ref).getD i Value.none))).get? b = some o := fun b o e =>
      sortedHeap_keep (h := preSort s.heap (as.map Value.ref)) (Nat.ne_of_lt (Nat.lt_succ_of_lt (Heap.lt_size e))) (preSort_keep e)
    have hsz : ((s.heap.push (seqObj "list" #[] 0)).update s.heap.objs.size (Obj.mapSeq (· ++ (as.map Value.ref).toArray))).objs.size = s.heap.objs.size + 1 := by
      rw [Heap.size_update, size_push']
    have hoL : (preSort s.heap (as.map Value.ref)).get? (s.heap.objs.size + 1) = some (seqObj "list" (as.map Value.ref).toArray 0) := by
      unfold preSort
      rw [← hsz]
      exact Heap.get?_push_size _ rfl
    obtain ⟨c, hc⟩ := sortedHeap_at (out := List.toArray (pm.toList.map fun i => (as.map Value.ref).getD i Value.none)) hoL
    have eo : (pm.toList.map fun i => (as.map Value.ref).getD i Value.none) = (pm.toList.map fun i => as.getD i 0).map Value.ref := by
      rw [List.map_map]
      refine List.map_congr_left fun i hi => ?_
      have hi : i < as.length := List.mem_range.mp (hp.mem_iff.mp hi)
      show _ = Value.ref (as.getD i 0)
      rw [List.getD_eq_getElem?_getD, List.getElem?_map, List.getElem?_eq_getElem hi, List.getD_eq_getElem?_getD, List.getElem?_eq_getElem hi]
      rfl
    have hpm : (pm.toList.map fun i => as.getD i 0).Perm as := by
      have z := hp.map (fun i => as.getD i 0)
      rw [range_getD] at z
      exact z
    refine ⟨.ref (s.heap.objs.size + 1), _, I.laid (a := s.heap.objs.size + 1) (o := .lst ((pm.toList.map fun i => as.getD i 0).map V.ref)) (t' := s.toks) kp (Nat.le_succ _) ?_, rfl, q _ _ (I.hok.fresh (Nat.le_succ _)) hpm (by rw [hrun, hlen])⟩
    refine ⟨?_, (pm.toList.map fun i => as.getD i 0).map Value.ref, c, refs_vals _, ?_⟩
    · rw [List.length_map, hpm.length_eq, sizeLine_eq]
      omega
    · rw [← eo]
      exact hc
/-- sorted(xs), xs a list of tuples of ints: the same things -/
theorem call_sortedT : CallR X (.builtin "sorted") (fun xs H Q => ∃ (p : Addr) (as : List Addr), xs = [.ref p] ∧ SqL X.K H p (as.map V.ref) ∧ (∀ a ∈ as, TupI H a) ∧ as.length < 64 ∧ ∀ (l : Addr) (bs : List Addr), H l = none → bs.Perm as → Q (.ref l) (upd H l (.lst (bs.map V.ref)))) :=
  fun pins s σ H xs us Q I r h => call_sortedTG pins s σ H xs us Q I r (let ⟨p, as, e1, e2, e3, e4, q⟩ := h; ⟨p, as, e1, e2, e3, e4, fun l bs a b _ => q l bs a b⟩)
theorem bt_sorted : bootBuiltins "sorted" = some (.builtin "sorted") := by decide +kernel
end
end L2

set_option Elab.async false
set_option linter.all false
set_option maxRecDepth 100000
/-! a chain of three comparisons; a list's pop and clear; a comprehension whatever its target -/
namespace L2
open PySem PySem.Spec PyProof.Rows
section
variable {X : Cx} {a b c d : Expr} {ta tb tc td : TE} {pos : Pos}
def tChain3 (r r' r'' : R2) (ta tb tc td : TE) : TT := fun σ H Q => ta σ H fun x H1 => tb σ H1 fun y H2 => r x y H2 fun z H3 => ∃ k, z = .bl k ∧
  (if k = true then tc σ H3 fun w' H4 => r' y w' H4 fun z2 H5 => ∃ k2, z2 = .bl k2 ∧ (if k2 = true then td σ H5 fun v' H6 => r'' w' v' H6 fun z3 H7 => ∃ k3, z3 = .bl k3 ∧ Q k3 H7 else Q false H5) else Q false H3)
theorem pt_chain3 {op op' op'' : CmpOp} {r r' r'' : R2} (ho : OpR X (compareOp op) r) (ho' : OpR X (compareOp op') r') (ho'' : OpR X (compareOp op'') r'') (ha : PE X a ta) (hb : PE X b tb) (hc : PE X c tc) (hd : PE X d td)
    (hm : lastMarks [op, op', op''] [b, c, d] = false := by with_unfolding_all rfl) : PT X (.Compare a [op, op', op''] [b, c, d] pos) (tChain3 r r' r'' ta tb tc td) := by
  intro pins s σ H Q I h
  refine isTrue_chain (thn (ha pins s σ H _ I h) fun v s1 ⟨x, H1, I1, r1, q1⟩ => test_link (thn (hb pins s1 σ H1 _ I1 q1) fun u s2 ⟨y, H2, I2, r2, q2⟩ =>
    thn (ho pins s2 σ H2 x y v u _ I2 r1 r2 q2) fun e1 s3 ⟨z, H3, I3, r3, k, e, q3⟩ => ?_)) hm
  subst e
  cases r3
  refine wpAny_truthy_bool ?_
  cases k with
  | false => exact ite_ff ⟨H3, I3, q3⟩
  | true =>
    refine ite_tt (test_link (thn (hc pins s3 σ H3 _ I3 q3) fun w' s4 ⟨z', H4, I4, r4, q4⟩ => thn (ho' pins s4 σ H4 y z' u w' _ I4 r2 r4 q4) fun d' s5 ⟨z2, H5, I5, r5, k2, e2, q5⟩ => ?_))
    subst e2
    cases r5
    refine wpAny_truthy_bool ?_
    cases k2 with
    | false => exact ite_ff ⟨H5, I5, q5⟩
    | true =>
      refine ite_tt (test_last (thn (hd pins s5 σ H5 _ I5 q5) fun v' s6 ⟨z4, H6, I6, r6, q6⟩ => thn (ho'' pins s6 σ H6 z' z4 w' v' _ I6 r4 r6 q6) fun d2 s7 ⟨z3, H7, I7, r7, k3, e3, q7⟩ => ?_))
      subst e3
      cases r7
      exact wpAny_truthy_bool ⟨H7, I7, q7⟩
theorem mt_popR : MtR X "list.pop" rPop := mt_pop
theorem mt_clearR : MtR X "list.clear" rClear := mt_clear
end
section
variable {K : PySem.W.Frag} {a : Addr} {xs : List V} {σ0 : St} {H1 : Hp} {g : TG} {c : TT} {te : TE} {Q : Addr → Hp → Prop}
end
end L2

set_option Elab.async false
set_option linter.all false
set_option maxRecDepth 100000
/-! a method of an own object inside a comprehension -/
namespace L2
open PySem PySem.Spec PyProof.Rows
section
variable {X : Cx} {Ex : XS} {o e : Expr} {es : List Expr} {ta : TE} {t : TA} {m : Str} {apos pos : Pos} {j k : Nat}
end
end L2
/-! != of two lists that hold the very same things; a comprehension whose turns change what was -/
namespace L2
open PySem PySem.Spec PyProof.Rows
section
variable {X : Cx}
def rNeR (K : PySem.W.Frag) (b : Bool) : R2 := fun x y H Q => ∃ (l l' : Addr) (as : List Addr), x = .ref l ∧ y = .ref l' ∧ SqL K H l (as.map V.ref) ∧ SqL K H l' (as.map V.ref) ∧ Q (.bl b) H
theorem op_neR (hu : X.A.units + 64 < cLine) : OpR X (compareOp .NotEq) (rNeR X.K false) := by
  intro pins s σ H x y v u Q I rx ry h
  obtain ⟨l, b, as, rfl, rfl, h1, h2, q⟩ := h
  cases rx
  cases ry
  obtain ⟨its, r, pl, hl⟩ := I.list h1
  obtain ⟨its2, r2, pl2, hl2⟩ := I.list h2
  obtain rfl : its2 = its := (vals_refs r2).trans (vals_refs r).symm
  refine PySem.SeqAt.RcNeAt.lists (e := fun _ => true) pl.isList pl2.isList rfl (by omega) (fun j a b => PySem.SeqAt.EqAt.same _) _ _ _ _ ?_
  have e : (List.range its2.toArray.size).all (fun _ => true) = true := List.all_eq_true.mpr fun _ _ => rfl
  rw [e]
  exact ⟨.bl false, H, I, rfl, q⟩
end
section
variable {K : PySem.W.Frag} {a : Addr} {xs : List V} {σ0 : St} {H1 : Hp} {i0 : Nat} {c : TT} {te : TE} {Q : Addr → Hp → Prop}
end
end L2

set_option Elab.async false
set_option linter.all false
set_option maxRecDepth 100000
/-! t <= u of tuples of ints; xs.remove(n) of a list of ints; dict(d) and d.pop(k) of a dict whose keys are tuples -/
namespace HT
open PySem PyProof.Rows
def lexLe : List Int → List Int → Bool
  | [], [] => true
  | [], _ :: _ => true
  | _ :: _, [] => false
  | x :: xs, y :: ys => if x = y then lexLe xs ys else decide (x ≤ y)
theorem lexLe_cons (x y : Int) (xs ys : List Int) : lexLe (x :: xs) (y :: ys) = if x = y then lexLe xs ys else decide (x ≤ y) := rfl
theorem rcLe_int (A : Around) (s : Shared) (a : Int) (t : Tok) (c : Int) (u : Tok) (prog : Program) (w : World) (E : Value → Shared → Prop) (Q : Value → Shared → Prop) (h : Q (.bool (decide (a ≤ c))) s) :
    wpAny (model prog w) A (richCompare .LtE (.int a t) (.int c u)) Q E s :=
  (PyProof.Rows.le_int h : wpAny (model prog w) A (compareOp .LtE (.int a t) (.int c u)) Q E s)
section
open PySem.SeqAt
open PySem.AutoSeq1 (wpAny_loadPart')
open PySem.MeetsSeq PySem.MeetsSeq2 PySem.MeetsSeq3
theorem tuple_le_ints (l b : Addr) (items items2 : Array Value) (n n2 : Nat) (dd dd2 : Option Addr) (sl sl2 : Array (Option Value)) (ns ms : List Int) (hi : IntsAre items.toList ns) (hj : IntsAre items2.toList ms) :
    Meets (Builtin.«tuple.__le__» ⟨[.ref l, .ref b], []⟩)
      (fun _ R s => s.heap.get? l = some { cls := .type "tuple", dict := dd, data := .seq items n, slots := sl } ∧ s.heap.get? b = some { cls := .type "tuple", dict := dd2, data := .seq items2 n2, slots := sl2 } ∧
        R (.ok (.ret (.bool (lexLe ns ms)))) s) :=
  .of_wp fun prog w A R s h => by
    obtain ⟨hp, g, d, tk, os⟩ := s; obtain ⟨hl, hb, h⟩ := h
    have f2 := AutoSeq1.sub_tuple_tuple
    have z1 : items.size = ns.length := by rw [← hi.length]; simp
    have z2 : items2.size = ms.length := by rw [← hj.length]; simp
    wp_walk using wpAny_loadPart' hl, wpAny_loadPart' hb, wpAny_forIn_list _ (fun rest b s' => b.1 = none ∧ s' = ⟨hp, g, d, tk, os⟩ ∧ ∃ (vs ws : List Value) (ns' ms' : List Int), rest = vs.zip ws ∧
      IntsAre vs ns' ∧ IntsAre ws ms' ∧ ns'.length + items2.size = ms'.length + items.size ∧ R (.ok (.ret (.bool (lexLe ns' ms')))) ⟨hp, g, d, tk, os⟩) _
    case turn =>
      rintro ⟨y, x⟩ rest b s' ⟨hb', rfl, vs, ws, ns', ms', hz, hvi, hwi, hlen, hR⟩
      cases hvi with
      | nil => rw [List.zip_nil_left] at hz; cases hz
      | cons a t hvi' =>
        cases hwi with
        | nil => rw [List.zip_nil_right] at hz; cases hz
        | cons c u hwi' =>
          rw [List.zip_cons_cons] at hz
          injection hz with hyx hrest
          injection hyx with hy hx
          subst hy hx
          rw [lexLe_cons] at hR
          simp only [List.length_cons] at hlen
          obtain ⟨e, he, hiff⟩ := eqAt_int A.in1 ⟨hp, g, d, tk, os⟩ a t c u
          refine wpAny_bind (he prog w _ _ ?_)
          cases e with
          | true =>
            rw [if_pos (hiff.mp rfl)] at hR
            wp_walk
            exact ⟨rfl, rfl, _, _, _, _, hrest, hvi', hwi', by omega, hR⟩
          | false =>
            rw [if_neg (fun q => absurd (hiff.mpr q) Bool.false_ne_true)] at hR
            have hri := rcLe_int A.in1 ⟨hp, g, d, tk, os⟩ a t c u prog w
            wp_walk using hri
            exact ⟨_, rfl, by simpa using hR⟩
    case fin =>
      rintro ⟨b1, b2⟩ s' ⟨hb', rfl, vs, ws, ns', ms', hz, hvi, hwi, hlen, hR⟩
      simp only at hb'
      subst hb'
      have hv : lexLe ns' ms' = decide (items.size ≤ items2.size) := by
        cases hvi with
        | nil =>
          cases hwi with
          | nil =>
            simp only [List.length_nil] at hlen
            exact (decide_eq_true (by omega)).symm
          | cons c u hw =>
            simp only [List.length_nil, List.length_cons] at hlen
            exact (decide_eq_true (by omega)).symm
        | cons a t hv =>
          cases hwi with
          | nil =>
            simp only [List.length_nil, List.length_cons] at hlen
            exact (decide_eq_false (by omega)).symm
          | cons c u hw =>
            rw [List.zip_cons_cons] at hz
            cases hz
      rw [hv] at hR
      wp_walk
      exact ⟨_, rfl, by simpa [Builtin.Tuple.tupleCompareSizes] using hR⟩
    case h =>
      exact ⟨rfl, rfl, items.toList, items2.toList, ns, ms, rfl, hi, hj, by omega, h⟩
end
section
variable {prog : Program} {w : World} {A : Around} {E : Value → Shared → Prop} {s : Shared}
theorem le_tupInts {l b : Addr} {items items2 : Array Value} {ns ms : List Int} {Q : Value → Shared → Prop} (hl : IsTup s.heap l items) (hb : IsTup s.heap b items2) (hi : IntsAre items.toList ns) (hj : IntsAre items2.toList ms)
    (hu : A.units < cLine) (h : Q (.bool (lexLe ns ms)) s) : wpAny (model prog w) A (compareOp .LtE (.ref l) (.ref b)) Q E s := by
  obtain ⟨⟨cls, dd, data, sl⟩, ho, hc, n, hd⟩ := id hl
  obtain ⟨⟨cls2, dd2, data2, sl2⟩, ho2, hc2, n2, hd2⟩ := id hb
  simp only at hc hd hc2 hd2
  subst hc hd hc2 hd2
  exact richCompare_meets_room (op := .LtE) ⟨_, ho, rfl⟩ ⟨_, ho2, rfl⟩ PySem.F.slot_tuple_le PySem.F.entry_tuple_le (PySem.F.args_tuple_le_2 _ _) (tuple_le_ints l b items items2 n n2 dd dd2 sl sl2 ns ms hi hj)
    ⟨ho, ho2, show Value.bool (lexLe ns ms) ≠ Value.notImplemented ∧ Q (.bool (lexLe ns ms)) s from ⟨(fun x => nomatch x), h⟩⟩ hu
end
end HT
namespace L2
open PySem PySem.Spec PyProof.Rows
section
variable {X : Cx}
def rLeT (K : PySem.W.Frag) : R2 := fun x y H Q => ∃ a b ns ms, x = .ref a ∧ y = .ref b ∧ SqT K H a (ns.map V.int) ∧ SqT K H b (ms.map V.int) ∧ Q (.bl (HT.lexLe ns ms)) H
theorem op_leT (hu : X.A.units < cLine) : OpR X (compareOp .LtE) (rLeT X.K) := by
  intro pins s σ H x y v u Q I rx ry h
  obtain ⟨a, b, ns, ms, rfl, rfl, ha, hb, q⟩ := h
  cases rx
  cases ry
  obtain ⟨its, r1, p1, _⟩ := I.tuple ha
  obtain ⟨its2, r2, p2, _⟩ := I.tuple hb
  have i1 : IntsAre its.toArray.toList ns := intsAre_of r1
  have i2 : IntsAre its2.toArray.toList ms := intsAre_of r2
  exact HT.le_tupInts p1 p2 i1 i2 hu ⟨.bl (HT.lexLe ns ms), H, I, rfl, q⟩
end
end L2
namespace L2
open PySem PySem.Spec PyProof.Rows
section
variable {X : Cx}
def rRemove : V → List V → Hp → VK → Prop := fun x vs H Q => ∃ (p : Addr) (ns : List Int) (i : Int) (j : Nat), x = .ref p ∧ vs = [.int i] ∧ H p = some (.lst (ns.map V.int)) ∧ ns[j]? = some i ∧ (∀ m, m < j → ns[m]? ≠ some i) ∧ Q .non (upd H p (.lst ((ns.eraseIdx j).map V.int)))
end
end L2
/-! ### a dict with tuple keys: d.pop(k), dict(d) -/
namespace PySem
section
variable {prog : Program} {w : World} {K : Type} [DecidableEq K] {knd : HeapKind prog w K} {A : Around} {E : Value → Shared → Prop} {s : Shared}
/-- the keys' hashes are all distinct -/
def HashesApart (knd : HeapKind prog w K) (xs : List (K × Addr × Value)) : Prop := (xs.map fun x => knd.hash x.1).Nodup
end
section
variable {prog : Program} {w : World} {K : Type} [DecidableEq K] {knd : KeyKind prog w K} {A : Around} {E : Value → Shared → Prop} {s : Shared}
end
end PySem
namespace L2
open PySem PySem.Spec PyProof.Rows
/-- d.pop(k) of a dict with tuple keys, k there -/
def rDPopT : V → List V → Hp → VK → Prop := fun x vs H Q => ∃ (a b : Addr) (kvs : List (List Key × V)) (k : List Key) (v : V), x = .ref a ∧ vs = [.ref b] ∧ H a = some (.dT kvs) ∧ H b = some (.tup (k.map kV)) ∧ valV kvs k = some v ∧ Q v (upd H a (.dT (dropK kvs k)))
section
variable {X : Cx}
end
/-- two hands' places, the lesser one first -/
def twoKeys : List (List Key) := [[.inl 0, .inl 1], [.inl 0, .inl 2], [.inl 0, .inl 3], [.inl 0, .inl 4], [.inl 0, .inl 5], [.inl 1, .inl 2], [.inl 1, .inl 3], [.inl 1, .inl 4], [.inl 1, .inl 5], [.inl 2, .inl 3], [.inl 2, .inl 4], [.inl 2, .inl 5], [.inl 3, .inl 4], [.inl 3, .inl 5], [.inl 4, .inl 5]]
def hsh2 (k : List Key) : Int := reduceHash (Builtin.Tuple.tupleHashOf (k.map fun | .inl i => hashInt i | .inr _ => 0))
section
variable {X : Cx}
end
end L2

set_option Elab.async false
set_option linter.all false
set_option maxRecDepth 100000
/-! x != y of any two plain data -/
namespace L2
open PySem PySem.Spec PyProof.Rows
section
variable {X : Cx}
def rNeX2 (K : PySem.W.Frag) : R2 := fun x y H Q => ∃ d d', DatX K H x d ∧ DatX K H y d' ∧ d.depth ≤ 64 ∧ d'.depth ≤ 64 ∧ Q (.bl (!PyData.eqv d d')) H
end
end L2

set_option Elab.async false
set_option linter.all false
set_option maxRecDepth 100000
set_option maxHeartbeats 4000000
/-! min(xs, key=f), f an own def -/
namespace L2
open PySem PySem.Spec PyProof.Rows
section
variable {X : Cx} {pins : List (Addr × Obj)} {σ : St} {H : Hp} {s : Shared}
/-- an own def, called by a built-in one -/
theorem run_in {k : Nat} {f : Addr} {fd : FuncData} {ps : List Str} {sp : Sp} {Q : VK} {us : List Value} {vs : List V} (F : FnOk X.prog X.w X.K X.mg X.base CX0 k f fd ps sp) (hr : Room (k + 1) X.A) (hb : Binds X.K fd ps []) (I : Inv X pins σ H s) (r : Vals vs us) (h : sp vs H Q E0) :
    wpAny (model X.prog X.w) X.A.in1 (call (.ref f) us) (EP X pins σ Q) (fun _ _ => False) s := by
  have hl : (us ++ []).length = ps.length := by rw [List.append_nil, ← r.length]; exact F.len _ _ _ _ h
  have b := hb s us I.kIn hl
  rw [List.append_nil] at b
  refine wpAny_call (codeAny_mono (F.run X.A.in1 X.stack s H ⟨us, []⟩ us vs Q E0 hr.in1 I.env0.in1 b r h) fun r s' hq => ?_)
  cases r with
  | error e => exact hq.elim
  | ok fl =>
    cases fl with
    | ret u => exact I.after hq
    | next => exact False.elim hq
    | brk => exact False.elim hq
    | cont => exact False.elim hq
theorem pin2 {S Ia : Addr} {oS oI : Obj} (I : Inv X pins σ H s) (fS : FpOk X pins H S) (fI : FpOk X pins H Ia) (eS : s.heap.get? S = some oS) (eI : s.heap.get? Ia = some oI) (dS : ∀ v, oS.data ≠ .cell v) (dI : ∀ v, oI.data ≠ .cell v) : Inv X (pins ++ [(S, oS), (Ia, oI)]) σ H s :=
  I.pins_of fun p hp => by
    rcases List.mem_append.mp hp with z | z
    · exact I.pin p (List.mem_append_right _ z)
    · rcases List.mem_cons.mp z with rfl | z
      · exact ⟨eS, fS.1, fS.2.1, fS.2.2.1, dS⟩
      · rw [List.mem_singleton.mp z]
        exact ⟨eI, fI.1, fI.2.1, fI.2.2.1, dI⟩
theorem mk_loop {k : Nat} {f l S Ia : Addr} {fd : FuncData} {ps : List Str} {sp : Sp} {xs : List V} (kf : Nat → Int) (F : FnOk X.prog X.w X.K X.mg X.base CX0 k f fd ps sp) (hr : Room (k + 1) X.A) (hb : Binds X.K fd ps [])
    (fS : FpOk X pins H S) (fI : FpOk X pins H Ia) (hSI : S ≠ Ia) (hq : SqL X.K H l xs) (key : ∀ i v, xs[i]? = some v → sp [v] H (fun r H' => r = .int (kf i) ∧ H' = H) E0) {R : Result → Shared → Prop}
    (hR : ∀ i x u s', xs[i]? = some x → RelV x u → (∀ j, j < xs.length → kf i ≤ kf j ∧ (j < i → kf i < kf j)) → Inv X pins σ H s' → R (.ok (.ret u)) s') :
    ∀ (r j i : Nat) (s : Shared) (x : V) (vb : Value) (tb : Tok) (c : Nat) (oI : Obj), xs.length - (j + 1) = r → j + 1 ≤ xs.length → Inv X (pins ++ [(S, seqObj "list" #[vb, .int (kf i) tb] c), (Ia, oI)]) σ H s → s.heap.IsListIter Ia l (j + 1) →
      xs[i]? = some x → RelV x vb → i ≤ j → (∀ j', j' ≤ j → kf i ≤ kf j' ∧ (j' < i → kf i < kf j')) →
      codeAny (model X.prog X.w) X.A (.builtin "min.loop" ⟨[.ref Ia, .ref f, .ref S], []⟩) R s := by
  have hname : (toString "min" ++ toString ".loop" : String) = "min.loop" := by decide
  intro r
  induction r with
  | zero =>
    intro j i s x vb tb c oI hr' hj I hit hx hxb hij hbest
    have hin : j + 1 = xs.length := by omega
    obtain ⟨its, rv, p, hz⟩ := I.list hq
    have hlen := rv.length
    have nS := (I.pin (S, seqObj "list" #[vb, .int (kf i) tb] c) (List.mem_append_right _ (List.mem_append_right _ (.head _)))).1
    have I0 := I.unpinned
    obtain ⟨a0, a1, a2, a3, a4, a5⟩ := fI
    obtain ⟨b0, b1, b2, b3, b4, b5⟩ := fS
    refine codeAny_builtin PySem.F.entry_min_loop ?_
    rw [Around.under_plainId PySem.F.plain_min_loop _]
    show wpAny _ X.A.in1 (seqItems? (.ref S) >>= _) _ _ _
    refine wpAny_bind (wpAny_seqItems nS rfl ?_)
    show wpAny _ X.A.in1 (tryCatch (pyNext (.ref Ia)) _ >>= _) _ _ _
    refine wpAny_bind (wpAny_tryCatch (wpAny_pyNext_list_end hr.in1.hd hit p.isList (by simp; omega) fun h' eb => ?_))
    have I1 : Inv X pins σ H { s with heap := h' } := I0.turned (t' := s.toks) (fun b o hb e => eb b o hb e) a0 a1 a3 a4 a5
    have hS' : h'.get? S = some (seqObj "list" #[vb, .int (kf i) tb] c) := eb S _ hSI nS
    have s1 := Heap.SameBut.update h' S (Obj.mapSeq fun _ => (#[] : Array Value))
    show wpAny _ X.A.in1 (updateSeq S (fun _ => #[]) >>= _) _ _ _
    refine wpAny_bind ?_
    refine wpAny_updateSeq hS' rfl (wpAny_bind (wpAny_letGo (wpAny_pure ?_)))
    exact hR i x vb _ hx hxb (fun j' hj' => hbest j' (by omega)) (I1.turned (fun b o hb e => (s1.2 b hb).trans e) b0 b1 b3 b4 b5)
  | succ r ih =>
    intro j i s x vb tb c oI hr' hj I hit hx hxb hij hbest
    have hlt : j + 1 < xs.length := by omega
    obtain ⟨its, rv, p, hz⟩ := I.list hq
    have hlen := rv.length
    obtain ⟨y, hy⟩ : ∃ y, xs[j + 1]? = some y := ⟨_, List.getElem?_eq_getElem hlt⟩
    obtain ⟨v, hv, rv'⟩ := rv.get hy
    have nS := (I.pin (S, seqObj "list" #[vb, .int (kf i) tb] c) (List.mem_append_right _ (List.mem_append_right _ (.head _)))).1
    have I0 := I.unpinned
    have fI' := fI
    have fS' := fS
    obtain ⟨a0, a1, a2, a3, a4, a5⟩ := fI
    obtain ⟨b0, b1, b2, b3, b4, b5⟩ := fS
    refine codeAny_builtin PySem.F.entry_min_loop ?_
    rw [Around.under_plainId PySem.F.plain_min_loop _]
    show wpAny _ X.A.in1 (seqItems? (.ref S) >>= _) _ _ _
    refine wpAny_bind (wpAny_seqItems nS rfl ?_)
    show wpAny _ X.A.in1 (tryCatch (pyNext (.ref Ia)) _ >>= _) _ _ _
    refine wpAny_bind (wpAny_tryCatch (wpAny_pyNext_list_item hit p.isList (x := v) (by simpa using hv) fun h' st' sb => ?_))
    have I1 : Inv X pins σ H { s with heap := h' } := I0.turned (t' := s.toks) (fun b o hb e => (sb.2 b hb).trans e) a0 a1 a3 a4 a5
    obtain ⟨oI', eI', ec, ed⟩ := id st'
    have eS' : h'.get? S = some (seqObj "list" #[vb, .int (kf i) tb] c) := (sb.2 S hSI).trans nS
    have I2 := pin2 I1 fS' fI' eS' eI' (fun v z => nomatch z) (fun v z => by rw [ed] at z; cases z)
    show wpAny _ X.A.in1 (tryCatch (holding [v] (call (.ref f) [v])) _ >>= _) _ _ _
    refine wpAny_bind (wpAny_tryCatch (wpAny_holding (wpAny_mono (run_in F hr hb I2 (.cons rv' .nil) (key (j + 1) y hy)) (fun x' s2 he => ?_) fun _ _ hF => hF.elim)))
    obtain ⟨kv, H', I3, rk, rfl, rfl⟩ := he
    obtain ⟨t2, rfl⟩ := (show ∃ t, x' = Value.int (kf (j + 1)) t from rk)
    have nS2 := (I3.pin (S, seqObj "list" #[vb, .int (kf i) tb] c) (List.mem_append_right _ (List.mem_append_right _ (.head _)))).1
    have nI2 := (I3.pin (Ia, oI') (List.mem_append_right _ (List.mem_append_right _ (.tail _ (.head _))))).1
    have hit2 : s2.heap.IsListIter Ia l (j + 1 + 1) := ⟨oI', nI2, ec, ed⟩
    show wpAny _ X.A.in1 (tryCatch (holding [v, .int (kf (j + 1)) t2] (richCompare .Lt (.int (kf (j + 1)) t2) (.int (kf i) tb) >>= _)) _ >>= _) _ _ _
    refine wpAny_bind (wpAny_tryCatch (wpAny_holding (wpAny_bind (CmpOf.ints_lt (prog := X.prog) (w := X.w) (A := X.A.in1) (P := fun i v => ∃ t, v = .int (kf i) t) kf (fun i v h => h) (j + 1) i _ _ _ _ _ ⟨t2, rfl⟩ ⟨tb, rfl⟩ ?_))))
    refine wpAny_bind (wpAny_holding (wpAny_truthy_bool ?_))
    refine wpAny_bind (wpAny_letGo (wpAny_pure ?_))
    by_cases hlt2 : kf (j + 1) < kf i
    · have s1 := Heap.SameBut.update s2.heap S (Obj.mapSeq fun _ => #[v, .int (kf (j + 1)) t2])
      obtain ⟨c2, hc2⟩ : ∃ c2, (s2.heap.update S (Obj.mapSeq fun _ => #[v, .int (kf (j + 1)) t2])).get? S = some (seqObj "list" #[v, .int (kf (j + 1)) t2] c2) := ⟨_, get?_update_seq nS2 fun _ => #[v, .int (kf (j + 1)) t2]⟩
      simp only [hlt2, decide_true, if_true]
      refine wpAny_bind ?_
      refine wpAny_updateSeq nS2 rfl (wpAny_bind (wpAny_letGo ?_))
      rw [hname]
      have eI4 : (s2.heap.update S (Obj.mapSeq fun _ => #[v, .int (kf (j + 1)) t2])).get? Ia = some oI' := (s1.2 Ia hSI.symm).trans nI2
      refine wpAny_pure ⟨plainId_quiet PySem.F.plain_min_loop _, ih (j + 1) (j + 1) _ y v t2 c2 oI' (by omega) hlt (pin2 (I3.unpinned.turned (fun b o hb e => (s1.2 b hb).trans e) b0 b1 b3 b4 b5) fS' fI' hc2 eI4 (fun v z => nomatch z) (fun v z => by rw [ed] at z; cases z)) ⟨oI', eI4, ec, ed⟩ hy rv' (Nat.le_refl _) fun j' hj' => ?_⟩
      by_cases e : j' = j + 1
      · subst e
        exact ⟨by omega, fun _ => by omega⟩
      · have q1 := (hbest j' (by omega)).1
        exact ⟨by omega, fun _ => by omega⟩
    · simp only [hlt2, decide_false, Bool.false_eq_true, if_false]
      refine wpAny_bind (wpAny_letGo ?_)
      rw [hname]
      refine wpAny_pure ⟨plainId_quiet PySem.F.plain_min_loop _, ih (j + 1) i _ x vb tb c oI' (by omega) hlt (I3.tok _) hit2 hx hxb (by omega) fun j' hj' => ?_⟩
      by_cases e : j' = j + 1
      · subst e
        exact ⟨by omega, fun _ => by omega⟩
      · exact hbest j' (by omega)
theorem min_key {k : Nat} {f l : Addr} {fd : FuncData} {ps : List Str} {sp : Sp} {xs : List V} {Q : VK} (kf : Nat → Int) (F : FnOk X.prog X.w X.K X.mg X.base CX0 k f fd ps sp) (hr : Room (k + 1) X.A) (hb : Binds X.K fd ps []) (I : Inv X pins σ H s)
    (hq : SqL X.K H l xs) (h0 : 0 < xs.length) (key : ∀ i v, xs[i]? = some v → sp [v] H (fun r H' => r = .int (kf i) ∧ H' = H) E0)
    (hQ : ∀ i x, xs[i]? = some x → (∀ j, j < xs.length → kf i ≤ kf j ∧ (j < i → kf i < kf j)) → Q x H) :
    wpAny (model X.prog X.w) X.A (call (.builtin "min") [.ref l] [(Str.ofString "key", .ref f)]) (EP X pins σ Q) X.xe s := by
  have hname : (toString "min" ++ toString ".loop" : String) = "min.loop" := by decide
  obtain ⟨its, rv, p, hz⟩ := I.list hq
  have hlen := rv.length
  obtain ⟨y, hy⟩ : ∃ y, xs[0]? = some y := ⟨_, List.getElem?_eq_getElem h0⟩
  obtain ⟨v, hv, rv'⟩ := rv.get hy
  refine kmk_tree PySem.F.kind_min PySem.F.plain_min PySem.F.entry_min (kmk_min_key _ _) ?_
  show wpAny _ X.A.in1 (Builtin.Builtins.bindParams "min" ["key", "default"] 0 ⟨[], [(Str.ofString "key", .ref f)]⟩ >>= _) _ _ s
  refine wpAny_bind (wpAny_of_eq (show Builtin.Builtins.bindParams "min" ["key", "default"] 0 ⟨[], [(Str.ofString "key", .ref f)]⟩ = pure [some (.ref f), none] from rfl) ?_)
  refine wpAny_bind (wpAny_pure ?_)
  refine wpAny_bind (wpAny_pyIter_list p.isList ?_)
  refine wpAny_bind (wpAny_newList ?_ (Nat.zero_le _))
  rw [hname]
  have hS : (s.heap.push { cls := .type "list_iterator", data := .fields #[.ref l, .int 0 0] }).objs.size = s.heap.objs.size + 1 := size_push' ..
  have hSI : (s.heap.push { cls := .type "list_iterator", data := .fields #[.ref l, .int 0 0] }).objs.size ≠ s.heap.objs.size := by rw [hS]; exact Nat.ne_of_gt (Nat.lt_succ_self _)
  have gI : ((s.heap.push { cls := .type "list_iterator", data := .fields #[.ref l, .int 0 0] }).push (seqObj "list" #[] 0)).get? s.heap.objs.size = some { cls := .type "list_iterator", data := .fields #[.ref l, .int 0 0] } := Heap.get?_push_of_some _ (Heap.get?_push_size _ rfl)
  have gS : ((s.heap.push { cls := .type "list_iterator", data := .fields #[.ref l, .int 0 0] }).push (seqObj "list" #[] 0)).get? (s.heap.push { cls := .type "list_iterator", data := .fields #[.ref l, .int 0 0] }).objs.size = some (seqObj "list" #[] 0) := Heap.get?_push_size _ rfl
  have I1 : Inv X pins σ H { s with heap := (s.heap.push { cls := .type "list_iterator", data := .fields #[.ref l, .int 0 0] }).push (seqObj "list" #[] 0) } := I.kept (t' := s.toks) fun b u e => Heap.get?_push_of_some _ (Heap.get?_push_of_some _ e)
  have fI : FpOk X pins H s.heap.objs.size := I.fpOk (Nat.le_refl _) (I.hok.fresh (Nat.le_refl _))
  have hSle : s.heap.objs.size ≤ (s.heap.push { cls := .type "list_iterator", data := .fields #[.ref l, .int 0 0] }).objs.size := by rw [hS]; exact Nat.le_succ _
  have fS : FpOk X pins H (s.heap.push { cls := .type "list_iterator", data := .fields #[.ref l, .int 0 0] }).objs.size := I.fpOk hSle (I.hok.fresh hSle)
  refine wpAny_pure ⟨plainId_quiet PySem.F.plain_min_loop _, ?_⟩
  show codeAny (model X.prog X.w) X.A (.builtin "min.loop" ⟨[.ref s.heap.objs.size, .ref f, .ref (s.heap.push { cls := .type "list_iterator", data := .fields #[.ref l, .int 0 0] }).objs.size], []⟩) _ { s with heap := (s.heap.push { cls := .type "list_iterator", data := .fields #[.ref l, .int 0 0] }).push (seqObj "list" #[] 0) }
  generalize (s.heap.push { cls := .type "list_iterator", data := .fields #[.ref l, .int 0 0] }).objs.size = S at hSI gS fS ⊢
  generalize s.heap.objs.size = Ia at hSI gI fI ⊢
  generalize (s.heap.push { cls := .type "list_iterator", data := .fields #[.ref l, .int 0 0] }).push (seqObj "list" #[] 0) = hp at gI gS I1 ⊢
  obtain ⟨its1, rv1, p1, _⟩ := I1.list hq
  obtain ⟨v1, hv1, rv1'⟩ := rv1.get hy
  obtain ⟨a0, a1, a2, a3, a4, a5⟩ := id fI
  obtain ⟨b0, b1, b2, b3, b4, b5⟩ := id fS
  refine codeAny_builtin PySem.F.entry_min_loop ?_
  rw [Around.under_plainId PySem.F.plain_min_loop _]
  show wpAny _ X.A.in1 (seqItems? (.ref S) >>= _) _ _ _
  refine wpAny_bind (wpAny_seqItems gS rfl ?_)
  show wpAny _ X.A.in1 (tryCatch (pyNext (.ref Ia)) _ >>= _) _ _ _
  refine wpAny_bind (wpAny_tryCatch (wpAny_pyNext_list_item (i := 0) ⟨_, gI, rfl, rfl⟩ p1.isList (x := v1) (by simpa using hv1) fun h' st' sb => ?_))
  have I2 : Inv X pins σ H { s with heap := h' } := I1.turned (t' := s.toks) (fun b o hb e => (sb.2 b hb).trans e) a0 a1 a3 a4 a5
  obtain ⟨oI', eI', ec, ed⟩ := id st'
  have eS' : h'.get? S = some (seqObj "list" #[] 0) := (sb.2 S hSI).trans gS
  have I3 := pin2 I2 fS fI eS' eI' (fun v z => nomatch z) (fun v z => by rw [ed] at z; cases z)
  show wpAny _ X.A.in1 (tryCatch (holding [v1] (call (.ref f) [v1])) _ >>= _) _ _ _
  refine wpAny_bind (wpAny_tryCatch (wpAny_holding (wpAny_mono (run_in F hr hb I3 (.cons rv1' .nil) (key 0 y hy)) (fun x' s2 he => ?_) fun _ _ hF => hF.elim)))
  obtain ⟨kv, H', I4, rk, rfl, rfl⟩ := he
  obtain ⟨t2, rfl⟩ := (show ∃ t, x' = Value.int (kf 0) t from rk)
  have nS2 := (I4.pin (S, seqObj "list" #[] 0) (List.mem_append_right _ (List.mem_append_right _ (.head _)))).1
  have nI2 := (I4.pin (Ia, oI') (List.mem_append_right _ (List.mem_append_right _ (.tail _ (.head _))))).1
  have s1 := Heap.SameBut.update s2.heap S (Obj.mapSeq fun _ => #[v1, .int (kf 0) t2])
  obtain ⟨c2, hc2⟩ : ∃ c2, (s2.heap.update S (Obj.mapSeq fun _ => #[v1, .int (kf 0) t2])).get? S = some (seqObj "list" #[v1, .int (kf 0) t2] c2) := ⟨_, get?_update_seq nS2 fun _ => #[v1, .int (kf 0) t2]⟩
  have eI4 : (s2.heap.update S (Obj.mapSeq fun _ => #[v1, .int (kf 0) t2])).get? Ia = some oI' := (s1.2 Ia hSI.symm).trans nI2
  show wpAny _ X.A.in1 (updateSeq S (fun _ => #[v1, .int (kf 0) t2]) >>= _) _ _ _
  refine wpAny_bind ?_
  refine wpAny_updateSeq nS2 rfl ?_
  rw [hname]
  refine wpAny_pure ⟨plainId_quiet PySem.F.plain_min_loop _, mk_loop kf F hr hb fS fI hSI hq key (fun i x u s' hx ru hb' I' => ⟨x, H', I', ru, hQ i x hx hb'⟩) _ 0 0 _ y v1 t2 c2 oI' rfl h0 (pin2 (I4.unpinned.turned (t' := s2.toks) (fun b o hb e => (s1.2 b hb).trans e) b0 b1 b3 b4 b5) fS fI hc2 eI4 (fun v z => nomatch z) (fun v z => by rw [ed] at z; cases z)) ⟨oI', eI4, ec, ed⟩ hy rv1' (Nat.le_refl _) fun j' hj' => ?_⟩
  have e : j' = 0 := by omega
  subst e
  exact ⟨Int.le_refl _, fun h => absurd h (Nat.lt_irrefl _)⟩
/-- min(e, key=f) -/
def tMinKey (K : PySem.W.Frag) (sp : Sp) (t : TA) : TE := fun σ H Q => t σ H fun vs H1 => ∃ (l : Addr) (xs : List V) (kf : Nat → Int), vs = [.ref l] ∧ SqL K H1 l xs ∧ 0 < xs.length ∧ (∀ i v, xs[i]? = some v → sp [v] H1 (fun r H' => r = .int (kf i) ∧ H' = H1) E0) ∧
  ∀ i x, xs[i]? = some x → (∀ j, j < xs.length → kf i ≤ kf j ∧ (j < i → kf i < kf j)) → Q x H1
theorem pe_minKey {k j : Nat} {f : Addr} {fd : FuncData} {ps : List Str} {sp : Sp} {y : Str} {e : Expr} {t : TA} {p p2 kp pos : Pos} (D : Df X.prog X.w X.K X.mg X.base CX0 k y ps sp f fd) (hr : Room j X.A) (hj : k + 1 ≤ j) (hg : Gl X "min") (hm : X.mg "min" = none) (hgk : PE X (.Name y p2) (tC (.ref f))) (ha : PA X [e] t)
    (he : backTo pos (starEach [e] X.env) = (false, eval e X.env) :: backTo pos (starEach [] X.env) := by rfl) (hpl : (backTo pos (starEach [e] X.env)).any (·.1) = false := by rfl) :
    PE X (.Call (.Name "min" p) [e] [⟨some "key", .Name y p2, kp⟩] pos) (tMinKey X.K sp t) := by
  intro pins s σ H Q I h
  refine wpAny_Call_Name_kw (ld_blt I hg hm bt_min ?_ (by decide) (by decide))
  refine callWith_kw (thn (ha pos pins s σ H _ I h) fun us s1 ⟨vs, H1, I1, r1, q1⟩ => ?_) he hpl
  refine kws_cons (thn (hgk pins s1 σ H1 (fun v H' => v = .ref f ∧ H' = H1) I1 ⟨rfl, rfl⟩) fun u s2 ⟨v, H2, I2, r2, e1, e2⟩ => kws_nil ?_)
  subst e1 e2
  obtain rfl : u = Value.ref f := r2
  obtain ⟨l, xs, kf, rfl, hq, h0, key, hQ⟩ := q1
  obtain ⟨u1, rfl, ru⟩ := vals1 r1
  cases ru
  exact min_key kf D.ok (hr.mono hj) D.bd I2 hq h0 key hQ
end
end L2

set_option Elab.async false
set_option linter.all false
set_option maxRecDepth 100000
set_option maxHeartbeats 4000000
/-! sorted(xs) of at most six tuples of ints, no two alike: they come sorted -/
namespace PySem.W
open PySem PySem.Calls PyProof.Rows
theorem KasT.run_congr {α : Type} {n : Nat} {P : α → Prop} {lt lt' : Nat → Nat → Bool} (h : ∀ i j, i < n → j < n → lt i j = lt' i j) : ∀ {t : KasT α}, t.Ok n P → t.run lt = t.run lt'
  | .ret a, _ => rfl
  | .ask i j k, o => by
    show (k (lt i j)).run lt = (k (lt' i j)).run lt'
    rw [h i j o.1 o.2.1]
    exact KasT.run_congr h (o.2.2 _)
theorem KasT.run_ok {α : Type} {n : Nat} {P : α → Prop} {lt : Nat → Nat → Bool} : ∀ {t : KasT α}, t.Ok n P → P (t.run lt)
  | .ret a, h => h
  | .ask i j k, o => show P ((k (lt i j)).run lt) from KasT.run_ok (t := k (lt i j)) (o.2.2 (lt i j))
namespace S6
def insAll (x : Nat) : List Nat → List (List Nat)
  | [] => [[x]]
  | y :: r => (x :: y :: r) :: (insAll x r).map (y :: ·)
def ords : Nat → List (List Nat)
  | 0 => [[]]
  | n + 1 => (ords n).flatMap (insAll n)
theorem mem_insAll (x : Nat) : ∀ (a b : List Nat), a ++ x :: b ∈ insAll x (a ++ b)
  | [], [] => by simp [insAll]
  | [], y :: b => by simp [insAll]
  | y :: a, b => by
    show y :: (a ++ x :: b) ∈ (x :: y :: (a ++ b)) :: (insAll x (a ++ b)).map (y :: ·)
    exact List.mem_cons_of_mem _ (List.mem_map.mpr ⟨_, mem_insAll x a b, rfl⟩)
theorem mem_ords : ∀ (n : Nat) (r : List Nat), r.Perm (List.range n) → r ∈ ords n
  | 0, r, h => by
    have : r = [] := List.perm_nil.mp h
    simp [this, ords]
  | n + 1, r, h => by
    have hn : n ∈ r := h.mem_iff.mpr (List.mem_range.mpr (Nat.lt_succ_self n))
    obtain ⟨a, b, rfl⟩ := List.append_of_mem hn
    have h2 : (a ++ b).Perm (List.range n) := by
      rw [List.range_succ] at h
      have z : (n :: (a ++ b)).Perm (n :: List.range n) := (List.perm_middle.symm.trans h).trans (List.perm_append_comm (l₁ := List.range n) (l₂ := [n]))
      exact (List.perm_cons n).mp z
    exact List.mem_flatMap.mpr ⟨_, mem_ords n _ h2, mem_insAll n a b⟩
def rk (n : Nat) (code : Nat → Nat) (i : Nat) : Nat := ((List.range n).filter fun k => decide (code k < code i)).length
theorem filter_len_lt {p q : Nat → Bool} : ∀ {l : List Nat}, (∀ x ∈ l, p x = true → q x = true) → (∃ x ∈ l, p x = false ∧ q x = true) → (l.filter p).length < (l.filter q).length
  | [], _, h => by obtain ⟨_, h, _⟩ := h; cases h
  | y :: r, hi, he => by
    have le : ∀ {l : List Nat}, (∀ x ∈ l, p x = true → q x = true) → (l.filter p).length ≤ (l.filter q).length := by
      intro l
      induction l with
      | nil => intro _; exact Nat.le_refl _
      | cons z l ih =>
        intro h
        have i := ih fun x hx => h x (List.mem_cons_of_mem _ hx)
        have hz := h z (by simp)
        cases ep : p z with
        | true => rw [List.filter_cons_of_pos ep, List.filter_cons_of_pos (hz ep), List.length_cons, List.length_cons]; omega
        | false =>
          rw [List.filter_cons_of_neg (by rw [ep]; decide)]
          cases eq : q z with
          | true => rw [List.filter_cons_of_pos eq, List.length_cons]; omega
          | false => rw [List.filter_cons_of_neg (by rw [eq]; decide)]; exact i
    have hr := fun x hx => hi x (List.mem_cons_of_mem _ hx)
    obtain ⟨x, hx, e1, e2⟩ := he
    rcases List.mem_cons.mp hx with rfl | hx
    · rw [List.filter_cons_of_neg (by rw [e1]; decide), List.filter_cons_of_pos e2, List.length_cons]
      have := le hr
      omega
    · have i := filter_len_lt hr ⟨x, hx, e1, e2⟩
      have hy := hi y (by simp)
      cases ep : p y with
      | true => rw [List.filter_cons_of_pos ep, List.filter_cons_of_pos (hy ep), List.length_cons, List.length_cons]; omega
      | false =>
        rw [List.filter_cons_of_neg (by rw [ep]; decide)]
        cases eq : q y with
        | true => rw [List.filter_cons_of_pos eq, List.length_cons]; omega
        | false => rw [List.filter_cons_of_neg (by rw [eq]; decide)]; exact i
theorem rk_mono {n : Nat} {code : Nat → Nat} {i j : Nat} (hi : i < n) (h : code i < code j) : rk n code i < rk n code j :=
  filter_len_lt (fun x _ z => decide_eq_true (Nat.lt_trans (of_decide_eq_true z) h)) ⟨i, List.mem_range.mpr hi, decide_eq_false (Nat.lt_irrefl _), decide_eq_true h⟩
theorem rk_lt {n : Nat} {code : Nat → Nat} {i : Nat} (hi : i < n) : rk n code i < n := by
  have z := filter_len_lt (p := fun k => decide (code k < code i)) (q := fun _ => true) (l := List.range n) (fun _ _ _ => rfl) ⟨i, List.mem_range.mpr hi, decide_eq_false (Nat.lt_irrefl _), rfl⟩
  rw [show (List.range n).filter (fun _ => true) = List.range n from List.filter_eq_self.mpr fun _ _ => rfl, List.length_range] at z
  exact z
theorem rk_iff {n : Nat} {code : Nat → Nat} (inj : ∀ i j, i < n → j < n → code i = code j → i = j) {i j : Nat} (hi : i < n) (hj : j < n) : (rk n code i < rk n code j) ↔ code i < code j := by
  refine ⟨fun h => ?_, rk_mono hi⟩
  rcases Nat.lt_trichotomy (code i) (code j) with z | z | z
  · exact z
  · have := inj i j hi hj z; subst this; omega
  · have := rk_mono hj z; omega
theorem nodup_len : ∀ (n : Nat) (l : List Nat), l.Nodup → (∀ x ∈ l, x < n) → l.length ≤ n
  | 0, [], _, _ => Nat.le_refl _
  | 0, x :: r, _, h => absurd (h x List.mem_cons_self) (Nat.not_lt_zero _)
  | n + 1, l, d, h => by
    have ih := nodup_len n (l.erase n) (d.erase n) fun x hx => by
      have z := (d.mem_erase_iff).mp hx
      have := h x z.2
      have z1 := z.1
      omega
    rw [List.length_erase] at ih
    split at ih <;> omega
theorem nodup_perm : ∀ (n : Nat) (l : List Nat), l.Nodup → (∀ x ∈ l, x < n) → l.length = n → l.Perm (List.range n)
  | 0, l, _, _, e => by
    obtain rfl := List.eq_nil_of_length_eq_zero e
    exact List.Perm.refl _
  | n + 1, l, d, h, e => by
    have hn : n ∈ l := by
      refine Classical.byContradiction fun q => ?_
      have := nodup_len n l d fun x hx => by
        have y := h x hx
        have : x ≠ n := fun z => q (z ▸ hx)
        omega
      omega
    have ih := nodup_perm n (l.erase n) (d.erase n) (fun x hx => by
      have z := (d.mem_erase_iff).mp hx
      have := h x z.2
      have z1 := z.1
      omega) (by rw [List.length_erase_of_mem hn]; omega)
    rw [List.range_succ]
    exact (List.perm_cons_erase hn).trans ((ih.cons n).trans (List.perm_append_singleton n (List.range n)).symm)
def sortOk (n : Nat) (r : List Nat) : Bool := decide (((kas_sort n).run fun i j => decide (r.getD i 0 < r.getD j 0)).toList.map (fun i => r.getD i 0) = List.range n)
theorem ok1 : (ords 1).all (sortOk 1) = true := by decide +kernel
theorem ok2 : (ords 2).all (sortOk 2) = true := by decide +kernel
theorem ok3 : (ords 3).all (sortOk 3) = true := by decide +kernel
theorem ok4 : (ords 4).all (sortOk 4) = true := by decide +kernel
theorem ok5 : (ords 5).all (sortOk 5) = true := by decide +kernel
theorem ok6 : (ords 6).all (sortOk 6) = true := by decide +kernel
theorem ok_all {n : Nat} (h0 : 0 < n) (h : n ≤ 6) {r : List Nat} (hr : r.Perm (List.range n)) : ((kas_sort n).run fun i j => decide (r.getD i 0 < r.getD j 0)).toList.map (fun i => r.getD i 0) = List.range n := by
  have m := mem_ords n r hr
  have c : n = 1 ∨ n = 2 ∨ n = 3 ∨ n = 4 ∨ n = 5 ∨ n = 6 := by omega
  rcases c with rfl | rfl | rfl | rfl | rfl | rfl
  · exact of_decide_eq_true (List.all_eq_true.mp ok1 r m)
  · exact of_decide_eq_true (List.all_eq_true.mp ok2 r m)
  · exact of_decide_eq_true (List.all_eq_true.mp ok3 r m)
  · exact of_decide_eq_true (List.all_eq_true.mp ok4 r m)
  · exact of_decide_eq_true (List.all_eq_true.mp ok5 r m)
  · exact of_decide_eq_true (List.all_eq_true.mp ok6 r m)
/-- by codes, no two alike: the codes come rising -/
theorem run_sorted {n : Nat} (h0 : 0 < n) (h6 : n ≤ 6) {code : Nat → Nat} {lt : Nat → Nat → Bool} (hlt : ∀ i j, i < n → j < n → lt i j = decide (code i < code j)) (inj : ∀ i j, i < n → j < n → code i = code j → i = j) : (((kas_sort n).run lt).toList.map code).Pairwise (· < ·) := by
  have gd : ∀ i, i < n → ((List.range n).map (rk n code)).getD i 0 = rk n code i := fun i hi => by
    rw [List.getD_eq_getElem?_getD, List.getElem?_map, List.getElem?_range hi]
    rfl
  have e : (kas_sort n).run lt = (kas_sort n).run fun i j => decide (((List.range n).map (rk n code)).getD i 0 < ((List.range n).map (rk n code)).getD j 0) := by
    refine KasT.run_congr (n := n) (P := KPm n) (fun i j hi hj => ?_) (sort_ok h0)
    rw [hlt i j hi hj, gd i hi, gd j hj]
    exact decide_eq_decide.mpr (rk_iff inj hi hj).symm
  have pm : KPm n ((kas_sort n).run lt) := KasT.run_ok (sort_ok h0)
  have hr : ((List.range n).map (rk n code)).Perm (List.range n) := by
    refine nodup_perm _ _ ?_ ?_ (by rw [List.length_map, List.length_range])
    · refine List.pairwise_map.mpr ?_
      refine (List.nodup_range (n := n)).imp_of_mem fun {a b} ha hb ne z => ?_
      have ha := List.mem_range.mp ha
      have hb := List.mem_range.mp hb
      rcases Nat.lt_trichotomy (code a) (code b) with q | q | q
      · have := rk_mono (code := code) ha q; omega
      · exact ne (inj a b ha hb q)
      · have := rk_mono (code := code) hb q; omega
    · intro x hx
      obtain ⟨i, hi, rfl⟩ := List.mem_map.mp hx
      exact rk_lt (List.mem_range.mp hi)
  have z := ok_all h0 h6 hr
  rw [← e] at z
  have lt_ : ∀ i ∈ ((kas_sort n).run lt).toList, i < n := fun i hi => List.mem_range.mp (pm.mem_iff.mp hi)
  have z2 : ((kas_sort n).run lt).toList.map (rk n code) = List.range n := by
    rw [← z]
    exact List.map_congr_left fun i hi => (gd i (lt_ i hi)).symm
  have pw : (((kas_sort n).run lt).toList.map (rk n code)).Pairwise (· < ·) := by rw [z2]; exact List.pairwise_lt_range
  rw [List.pairwise_map] at pw ⊢
  exact pw.imp_of_mem fun {a b} ha hb q => (rk_iff inj (lt_ a ha) (lt_ b hb)).mp q
end S6
end PySem.W
namespace L2
open PySem PySem.Spec PyProof.Rows PySem.W
section
variable {X : Cx}
theorem call_sortedTS : CallR X (.builtin "sorted") (fun xs H Q => ∃ (p : Addr) (as : List Addr) (c : Addr → Nat), xs = [.ref p] ∧ SqL X.K H p (as.map V.ref) ∧ (∀ a ∈ as, TupI H a) ∧ as.length ≤ 6 ∧ (∀ a ∈ as, ∀ b ∈ as, HT.lexLt (tupOf H a) (tupOf H b) = decide (c a < c b)) ∧ (as.map c).Nodup ∧
    ∀ (l : Addr) (bs : List Addr), H l = none → bs.Perm as → (bs.map c).Pairwise (· < ·) → Q (.ref l) (upd H l (.lst (bs.map V.ref)))) := fun pins s σ H xs us Q I r h => by
  obtain ⟨p, as, c, e1, e2, e3, e4, e5, e6, q⟩ := h
  refine call_sortedTG pins s σ H xs us Q I r ⟨p, as, e1, e2, e3, by omega, fun l bs hl hp hb => q l bs hl hp ?_⟩
  rcases Nat.eq_zero_or_pos as.length with z | h0
  · have : as = [] := List.eq_nil_of_length_eq_zero z
    subst this
    rw [List.perm_nil.mp hp]
    exact List.Pairwise.nil
  have at_ : ∀ i, i < as.length → as.getD i 0 ∈ as := fun i hi => by
    rw [List.getD_eq_getElem?_getD, List.getElem?_eq_getElem hi]
    exact List.getElem_mem hi
  have z := S6.run_sorted h0 e4 (code := fun i => c (as.getD i 0)) (fun i j hi hj => e5 _ (at_ i hi) _ (at_ j hj)) fun i j hi hj e => by
    refine (List.getElem?_inj (i := i) (j := j) (by rw [List.length_map]; exact hi) e6).mp ?_
    rw [List.getElem?_map, List.getElem?_map, List.getElem?_eq_getElem hi, List.getElem?_eq_getElem hj]
    have e' : c (as.getD i 0) = c (as.getD j 0) := e
    rw [List.getD_eq_getElem?_getD, List.getD_eq_getElem?_getD, List.getElem?_eq_getElem hi, List.getElem?_eq_getElem hj] at e'
    exact congrArg some e'
  rw [hb, List.map_map]
  exact z
end
end L2

set_option Elab.async false
set_option linter.all false
set_option maxRecDepth 100000
set_option maxHeartbeats 4000000
/-! for k in d, d a dict with tuple keys that changes no more (frozen) -/
namespace L2
open PySem PySem.Spec PyProof.Rows
section
variable {prog : Program} {w : World} {A : Around} {E : Value → Shared → Prop} {s : Shared} {d it : Addr} {o : Obj} {es : Array DictEntry} {ep : Nat}
theorem iter_raw {Q : Value → Shared → Prop} (hd : (d == sysModules) = false) (ho : s.heap.get? d = some o) (hc : o.ExactDict) (hdat : o.data = .dict es ep)
    (hQ : Q (.ref s.heap.objs.size) { s with heap := s.heap.push { cls := .type "dict_keyiterator", data := .fields #[.ref d, .int 0 0, .int es.size 0, .int ep 0] } }) :
    wpAny (model prog w) A (pyIter (.ref d)) Q E s := by
  have hT : s.TypeIs (.ref d) "dict" := ⟨o, ho, hc.1⟩
  refine wpAny_pyIter_slot hT F.slot_dict_iter (wpAny_call_entry F.slot_dict_iter hT F.entry_dict_iter ?_ (F.args_dict_iter_1 _))
  unfold Builtin.«dict.__iter__»
  refine wpAny_bind ?_
  unfold Builtin.Dict.dictSlotNone
  refine wpAny_bind (wpAny_notOrdered_dict hT ?_)
  show wpAny _ _ (pure (Value.ref d)) _ _ s
  refine wpAny_pure ?_
  show wpAny _ _ (Builtin.Dict.showsAll d >>= _) _ _ s
  unfold Builtin.Dict.showsAll
  rw [if_neg (by rw [hd]; exact Bool.false_ne_true)]
  refine wpAny_bind (wpAny_pure ?_)
  refine wpAny_bind (wpAny_dictEntries ho hdat ?_)
  refine wpAny_bind (wpAny_dictEpoch ho hdat ?_)
  refine wpAny_bind (wpAny_newObj_type (wpAny_pure ⟨_, rfl, "dict_keyiterator", _, ⟨_, Heap.get?_push_size _ rfl, rfl⟩, F.slot_dict_keyiterator_next.lookup, ?_⟩))
  simpa [rawInt] using hQ
theorem next_raw {i : Nat} {Q : Option Value → Shared → Prop} (hit : s.heap.IsKeyIter it d i es.size ep) (hod : s.heap.get? d = some o) (hdd : o.data = .dict es ep) (hlt : i < es.size)
    (hQ : ∀ h', h'.IsKeyIter it d (i + 1) es.size ep → Heap.SameBut it s.heap h' → Q (some es[i].key) { s with heap := h' }) :
    wpAny (model prog w) A (pyNext (.ref it)) Q E s := by
  obtain ⟨oi, ho, hc, hd⟩ := id hit
  unfold pyNext
  refine wpAny_bind (wpAny_attempt (wpAny_callSpecial?_slot (name := Str.ofString "__next__") hit.typeIs F.slot_dict_keyiterator_next
    (wpAny_call_entry F.slot_dict_keyiterator_next hit.typeIs F.entry_dict_keyiterator_next ?_ (F.args_dict_keyiterator_next_1 _))))
  refine wpAny_bind (wpAny_pure ?_)
  refine wpAny_bind ?_
  refine wpAny_bind ?_
  first | refine wpAny_bind (wpAny_typeNameOfWhole_keyiter hit.typeIs (wpAny_pure ?_)) | refine wpAny_bind (wpAny_typeNameOf_keyiter hit.typeIs (wpAny_pure ?_))
  refine wpAny_bind (wpAny_fieldsOf ho hd ?_)
  have hown : Builtin.Dict_items.ownsTuple "dict_keyiterator" = false := by decide
  simp only [hown, Bool.false_eq_true, if_false]
  show wpAny _ _ (if (Value.ref d == Value.none) = true then _ else _) _ _ s
  rw [if_neg (show ¬ ((Value.ref d == Value.none) = true) from Bool.false_ne_true)]
  refine wpAny_bind (wpAny_pure ?_)
  refine wpAny_bind (wpAny_dictEntries hod hdd ?_)
  rw [if_neg (by simp)]
  refine wpAny_bind (wpAny_pure ?_)
  refine wpAny_bind (wpAny_dictEpoch hod hdd ?_)
  rw [if_neg (by simp)]
  refine wpAny_pure ?_
  simp only [show ¬ ((i : Int) < 0) from by omega, if_false, Int.toNat_natCast, Array.getElem?_eq_getElem hlt]
  refine wpAny_bind ?_
  first | refine wpAny_bind (wpAny_typeNameOfWhole_keyiter hit.typeIs (wpAny_pure ?_)) | refine wpAny_bind (wpAny_typeNameOf_keyiter hit.typeIs (wpAny_pure ?_))
  refine wpAny_bind (wpAny_isOneOf_keyiter hit.typeIs ?_)
  show wpAny _ _ (setField (.ref it) 1 (rawInt ((i : Int) + 1)) >>= _) _ _ s
  refine wpAny_bind (wpAny_setField ho hd (by simp) ?_)
  have hit' : (s.heap.update it (Obj.mapFields (·.setIfInBounds 1 (rawInt ((i : Int) + 1))))).IsKeyIter it d (i + 1) es.size ep :=
    ⟨_, Heap.get?_update_self _ ho (Obj.isFreed_of_fields (Obj.data_mapFields hd _)), (Obj.cls_mapFields ..).trans hc, by rw [Obj.data_mapFields hd]; simp [rawInt]⟩
  refine wpAny_bind (wpAny_holding ?_)
  refine wpAny_bind (wpAny_isOneOf_keyiter (s := { s with heap := s.heap.update it (Obj.mapFields (·.setIfInBounds 1 (rawInt ((i : Int) + 1)))) }) hit'.typeIs ?_)
  show wpAny _ _ (pure es[i].key) _ _ _
  exact wpAny_pure (wpAny_pure ⟨_, rfl, wpAny_pure (hQ _ hit' (Heap.SameBut.update ..))⟩)
theorem end_raw {i : Nat} {Q : Option Value → Shared → Prop} (hh : A.handled = none) (hit : s.heap.IsKeyIter it d i es.size ep) (hod : s.heap.get? d = some o) (hdd : o.data = .dict es ep) (hge : es.size ≤ i)
    (hQ : ∀ h', Heap.ExtBut it s.heap h' → Q none { s with heap := h' }) : wpAny (model prog w) A (pyNext (.ref it)) Q E s := by
  obtain ⟨oi, ho, hc, hd⟩ := id hit
  unfold pyNext
  refine wpAny_bind (wpAny_attempt (wpAny_callSpecial?_slot (name := Str.ofString "__next__") hit.typeIs F.slot_dict_keyiterator_next
    (wpAny_call_entry F.slot_dict_keyiterator_next hit.typeIs F.entry_dict_keyiterator_next ?_ (F.args_dict_keyiterator_next_1 _))))
  refine wpAny_bind (wpAny_pure ?_)
  refine wpAny_bind ?_
  refine wpAny_bind ?_
  first | refine wpAny_bind (wpAny_typeNameOfWhole_keyiter hit.typeIs (wpAny_pure ?_)) | refine wpAny_bind (wpAny_typeNameOf_keyiter hit.typeIs (wpAny_pure ?_))
  refine wpAny_bind (wpAny_fieldsOf ho hd ?_)
  have hown : Builtin.Dict_items.ownsTuple "dict_keyiterator" = false := by decide
  simp only [hown, Bool.false_eq_true, if_false]
  show wpAny _ _ (if (Value.ref d == Value.none) = true then _ else _) _ _ s
  rw [if_neg (show ¬ ((Value.ref d == Value.none) = true) from Bool.false_ne_true)]
  refine wpAny_bind (wpAny_pure ?_)
  refine wpAny_bind (wpAny_dictEntries hod hdd ?_)
  rw [if_neg (by simp)]
  refine wpAny_bind (wpAny_pure ?_)
  refine wpAny_bind (wpAny_dictEpoch hod hdd ?_)
  rw [if_neg (by simp)]
  refine wpAny_pure ?_
  simp only [show ¬ ((i : Int) < 0) from by omega, if_false, Int.toNat_natCast, Array.getElem?_eq_none hge]
  refine wpAny_bind ?_
  first | refine wpAny_bind (wpAny_typeNameOfWhole_keyiter hit.typeIs (wpAny_pure ?_)) | refine wpAny_bind (wpAny_typeNameOf_keyiter hit.typeIs (wpAny_pure ?_))
  show wpAny _ _ (setField (.ref it) 0 .none >>= _) _ _ s
  refine wpAny_bind (wpAny_setField ho hd (by simp) ?_)
  show wpAny _ _ (newExc (.type "StopIteration") [] >>= _) _ _ _
  refine wpAny_bind ?_
  simp only [newExc, newTuple]
  refine wpAny_bind (wpAny_newObj_type ?_ (by size_fits))
  refine wpAny_bind (m := firstArgMember _ _) (wpAny_of_eq (a := Value.none) (by first | rfl | (simp only [firstArgMember]; rfl)) ?_)
  refine wpAny_newObj_type ?_ (by size_fits)
  simp only [raiseNew]
  refine wpAny_bind (wpAny_handled ?_)
  rw [show A.in1.handled = none from hh]
  refine wpAny_bind (wpAny_pure (wpAny_throw ?_))
  refine wpAny_bind (wpAny_isInstance (T := "StopIteration") (b := true) ⟨_, Heap.get?_push_size _ rfl, rfl⟩ isSubtype_stop ?_)
  exact wpAny_pure (hQ _ (((Heap.SameBut.update ..).extBut.push _).push _))
end
/-- the keys of the frozen dict at a -/
def Itd (a : Addr) (ob : Obj) (kvs : List (List Key × V)) : It :=
  ⟨fun i H => H a = some (.frz ob (.dT kvs)) ∧ i < kvs.length, fun i H x H' => H' = H ∧ ∃ (b : Addr) (kv : List Key × V), kvs[i]? = some kv ∧ x = .ref b ∧ H b = some (.tup (kv.1.map kV)), fun i H => H a = some (.frz ob (.dT kvs)) ∧ kvs.length ≤ i⟩
theorem frz_at {P : Program} {w : World} {H : Hp} {h : Heap} {a : Addr} {ob : Obj} {kvs : List (List Key × V)} (ok : HOk P w H h) (e : H a = some (.frz ob (.dT kvs))) : h.get? a = some ob ∧ ∃ es ep xs, (a == sysModules) = false ∧ ob.ExactDict ∧ ob.data = .dict es ep ∧ KT H kvs xs ∧ es.toList = xs.map (entryOfKey (tupleKind (mixKind P w))) := by
  have z : h.get? a = some ob ∧ _ := ok a _ e
  obtain ⟨_, hd, xs, rel, o, es, ep, h1, h2, h3, h4, _⟩ := dt_rd ok (.inr ⟨ob, e⟩)
  have eo : o = ob := Option.some.inj (h1.symm.trans z.1)
  subst eo
  exact ⟨h1, es, ep, xs, hd, h2, h3, rel, h4⟩
theorem turn_dict {P : Program} {w : World} {K : PySem.W.Frag} {tg : Expr} (a it : Addr) {ob : Obj} {kvs : List (List Key × V)} {es : Array DictEntry} {ep : Nat} (hdat : ob.data = .dict es ep) : Turn P w K tg (Itd a ob kvs) [it] it (fun i h => h.IsKeyIter it a i es.size ep) where
  mem := by simp
  obj := fun i h st b hb => by
    have e : b = it := by simpa using hb
    subst e
    obtain ⟨o, e, c, d⟩ := st
    exact ⟨o, e, fun v z => by rw [d] at z; cases z⟩
  keep := fun i h h' st k => st.at fun o e => k it (by simp) o e
  item := by
    intro X hP hw hK hc i pins s σ H E I hf st hg
    subst hP hw hK
    obtain ⟨hq, hlt⟩ := hg
    obtain ⟨h1, es', ep', xs, h2, h3, h4, rel, h5⟩ := frz_at I.hok hq
    have e1 : Data.dict es' ep' = Data.dict es ep := h4.symm.trans hdat
    obtain ⟨rfl, rfl⟩ : es' = es ∧ ep' = ep := by injection e1 with a b; exact ⟨a, b⟩
    have hlen : es'.size = kvs.length := by rw [← Array.length_toList, h5, List.length_map, Paired.length rel]
    obtain ⟨f0, f1, f2, f3, f4, f5⟩ := hf it (by simp)
    refine next_raw st h1 h4 (by omega) fun h' st' sb => ?_
    have I1 : Inv X pins σ H { s with heap := h' } := I.turned (t' := s.toks) (fun b o hb e => (sb.2 b hb).trans e) f0 f1 f3 f4 f5
    obtain ⟨o, e, c, dd⟩ := id st'
    have hx : ∃ x, xs[i]? = some x ∧ es'[i]'(by omega) = entryOfKey (tupleKind (mixKind X.prog X.w)) x := by
      have z : es'.toList[i]? = (xs[i]?).map (entryOfKey (tupleKind (mixKind X.prog X.w))) := by rw [h5, List.getElem?_map]
      rw [Array.getElem?_toList, Array.getElem?_eq_getElem (by omega)] at z
      cases hx : xs[i]? with
      | none => rw [hx] at z; cases z
      | some x => rw [hx] at z; exact ⟨x, rfl, Option.some.inj z⟩
    obtain ⟨x, hx1, hx2⟩ := hx
    have hkv : ∃ kv, kvs[i]? = some kv ∧ (kv.1 = x.1 ∧ H x.2.1 = some (.tup (kv.1.map kV)) ∧ RelV kv.2 x.2.2) := by
      clear hlen hlt hx2 st h5 h4 h3 h1 hq dd c e st' sb I1
      induction rel generalizing i with
      | nil => simp at hx1
      | @cons p q ps qs r t ih =>
        cases i with
        | zero =>
          simp only [List.getElem?_cons_zero, Option.some.injEq] at hx1
          subst hx1
          exact ⟨p, rfl, r⟩
        | succ i =>
          rw [List.getElem?_cons_succ] at hx1
          exact ih i hx1
    obtain ⟨kv, hk1, hk2, hk3, _⟩ := hkv
    refine ⟨_, rfl, go_of (s := { s with heap := h' }) e c dd (by decide) ⟨.ref x.2.1, H, I1, ?_, ⟨rfl, x.2.1, kv, hk1, rfl, hk3⟩, st', fun b hb => (hf b hb).1⟩⟩
    rw [hx2]
    rfl
  done := by
    intro X hP hw hK hc i pins s σ H E I hf st hg
    subst hP hw hK
    obtain ⟨hq, hge⟩ := hg
    obtain ⟨h1, es', ep', xs, h2, h3, h4, rel, h5⟩ := frz_at I.hok hq
    have e1 : Data.dict es' ep' = Data.dict es ep := h4.symm.trans hdat
    obtain ⟨rfl, rfl⟩ : es' = es ∧ ep' = ep := by injection e1 with a b; exact ⟨a, b⟩
    have hlen : es'.size = kvs.length := by rw [← Array.length_toList, h5, List.length_map, Paired.length rel]
    obtain ⟨f0, f1, f2, f3, f4, f5⟩ := hf it (by simp)
    exact end_raw (I.ok.hd hc) st h1 h4 (by omega) fun h' eb => ⟨rfl, I.turned (t' := s.toks) (fun b o hb e => eb b o hb e) f0 f1 f3 f4 f5⟩
  self := fun _ _ _ _ _ st h => wpAny_pyIter_keyiter st h
section
variable {X : Cx} {tg : Expr}
def iDict (td : TE) : TI := fun σ H R => td σ H fun x H1 => ∃ (a : Addr) (ob : Obj) (kvs : List (List Key × V)), x = .ref a ∧ H1 a = some (.frz ob (.dT kvs)) ∧ R (Itd a ob kvs) H1
theorem pi_dict {l : Expr} {td : TE} (hl : PE X l td) : PI X tg l (iDict td) := by
  intro pins s σ H R I h
  refine thn (hl pins s σ H _ I h) fun v s1 ⟨x, H1, I1, r1, q1⟩ => ?_
  obtain ⟨a, ob, kvs, e, hq, q⟩ := q1
  subst e
  cases r1
  obtain ⟨h1, es, ep, xs, h2, h3, h4, rel, h5⟩ := frz_at I1.hok hq
  refine iter_raw h2 h1 h3 h4 ?_
  refine ⟨s1.heap.objs.size, [s1.heap.objs.size], _, _, H1, rfl, I1.kept (t' := s1.toks) fun b o e => Heap.get?_push_of_some _ e, turn_dict a _ h4, ⟨_, Heap.get?_push_size _ rfl, rfl, rfl⟩, fun b hb => ?_, q⟩
  have e : b = s1.heap.objs.size := by simpa using hb
  subst e
  exact I1.fpOk (Nat.le_refl _) (I1.hok.fresh (Nat.le_refl _))
/-- a dict that shall change no more -/
def tFrz (t : TE) : TE := fun σ H Q => t σ H fun x H1 => ∃ (a : Addr) (kvs : List (List Key × V)), x = .ref a ∧ H1 a = some (.dT kvs) ∧ ∀ ob, Q x (upd H1 a (.frz ob (.dT kvs)))
theorem pe_frz {l : Expr} {td : TE} (hl : PE X l td) : PE X l (tFrz td) := by
  intro pins s σ H Q I h
  refine thn (hl pins s σ H _ I h) fun v s1 ⟨x, H1, I1, r1, q1⟩ => ?_
  obtain ⟨a, kvs, e, hq, q⟩ := q1
  obtain ⟨z, hd, xs, rel, ob, es, ep, g1, g2, g3, g4, g5, g6⟩ := dt_of I1.hok hq
  refine ⟨x, _, I1.write (x := a) (e := a) (o := .frz ob (.dT kvs)) (t' := s1.toks) (by rw [hq]; exact True.intro) (.inl rfl) (fun b u _ e => e) ⟨ob, g1⟩ ⟨g1, z, hd, xs, rel.keeps fun c cs ec => ?_, ob, es, ep, g1, g2, g3, g4, g6⟩, r1, q ob⟩
  rw [upd_ne (ne_of ec hq (fun z => nomatch z))]
  exact ec
end
theorem for_dict {a : Addr} {ob : Obj} {kvs : List (List Key × V)} {g : TG} {tb : TS} {D : Ends} {σ : St} {H : Hp} (Pv : Nat → St → Hp → Prop) (h0 : Pv 0 σ H) (hl : ∀ i σ H, i ≤ kvs.length → Pv i σ H → H a = some (.frz ob (.dT kvs)))
    (hs : ∀ i b kv σ H, kvs[i]? = some kv → H b = some (.tup (kv.1.map kV)) → Pv i σ H → g (.ref b) σ H fun σ2 H2 => tb { D with nx := Pv (i + 1), ct := Pv (i + 1), bk := D.nx } σ2 H2) (hd : ∀ σ H, Pv kvs.length σ H → D.nx σ H) :
    ∃ W : Nat → Nat → St → Hp → Prop, (∃ m, W 0 m σ H) ∧ ∀ i m σ H, W i m σ H →
      ((Itd a ob kvs).stop i H ∧ D.nx σ H) ∨ ((Itd a ob kvs).go i H ∧ ∃ N : St → Hp → Prop, (∀ σ' H', N σ' H' → ∃ m', m' < m ∧ W (i + 1) m' σ' H') ∧ ∀ x H', (Itd a ob kvs).yld i H x H' → g x σ H' fun σ2 H2 => tb { D with nx := N, ct := N, bk := D.nx } σ2 H2) := by
  refine ⟨fun i m σ H => m = kvs.length - i ∧ i ≤ kvs.length ∧ Pv i σ H, ⟨kvs.length, by simp, Nat.zero_le _, h0⟩, ?_⟩
  rintro i m σ H ⟨rfl, hi, p⟩
  have q := hl i σ H hi p
  rcases Nat.lt_or_ge i kvs.length with z | z
  · refine .inr ⟨⟨q, z⟩, Pv (i + 1), fun σ' H' n => ⟨kvs.length - (i + 1), by omega, rfl, by omega, n⟩, ?_⟩
    rintro x H' ⟨rfl, b, kv, h1, rfl, h2⟩
    exact hs i b kv σ H' h1 h2 p
  · have e : i = kvs.length := by omega
    subst e
    exact .inl ⟨⟨q, Nat.le_refl _⟩, hd σ H p⟩
end L2

set_option Elab.async false
set_option linter.all false
set_option maxRecDepth 100000
/-! a comprehension over enumerate that makes a thing at each turn -/
namespace L2
open PySem PySem.Spec PyProof.Rows
section
variable {K : PySem.W.Frag} {a : Addr} {xs : List V} {σ0 : St} {H1 : Hp} {g : TG} {c : TT} {te : TE} {Q : Addr → Hp → Prop}
theorem comp_enumR (Ag : St → Prop) (R : Nat → V → Hp → Prop) (mono : ∀ i y H H', SameT H H' → R i y H → R i y H') (h0 : Ag σ0) (hq : SqL K H1 a xs) (hn : xs.length ≤ sizeLine)
    (step : ∀ (i : Nat) (x : V) (t : Addr) (σ1 : St) (H2 : Hp) (k : St → VK) (k0 : St → Hp → Prop), Ag σ1 → Same H1 H2 → xs[i]? = some x → H2 t = some (.tup [.int (i : Int), x]) → (∀ σ2 y H3, Ag σ2 → Same H2 H3 → R i y H3 → k σ2 y H3) →
      g (.ref t) σ1 H2 fun σ2 H3 => c σ2 H3 fun b H4 => if b = true then te σ2 H4 (k σ2) else k0 σ2 H4)
    (h : ∀ D ys H2, H1 D = none → Same H1 H2 → ys.length = xs.length → (∀ i y, ys[i]? = some y → R i y H2) → H2 D = some (.lst ys) → Q D H2) :
    ∀ D, H1 D = none → ∃ W : Nat → Nat → St → Hp → Prop, (∃ m, W 0 m σ0 (upd H1 D (.lst []))) ∧ ∀ i m σ1 H2, W i m σ1 H2 →
      ((Ite K a).stop i H2 ∧ Q D H2) ∨ ((Ite K a).go i H2 ∧ ∃ N : St → Hp → Prop, (∀ σ' H', N σ' H' → ∃ m', m' < m ∧ W (i + 1) m' σ' H') ∧
        ∀ x H', (Ite K a).yld i H2 x H' → g x σ1 H' fun σ2 H3 => c σ2 H3 fun b H4 => if b = true then te σ2 H4 fun y H5 => ∃ xs, H5 D = some (.lst xs) ∧ xs.length < sizeLine ∧ N σ2 (upd H5 D (.lst (xs ++ [y]))) else N σ2 H4) := by
  intro D hD
  refine ⟨fun i m σ1 H2 => Ag σ1 ∧ Same H1 H2 ∧ (∃ ys, ys.length = i ∧ (∀ j y, ys[j]? = some y → R j y H2) ∧ H2 D = some (.lst ys)) ∧ i ≤ xs.length ∧ m = xs.length - i, ⟨xs.length, h0, .upd_new hD, ⟨[], rfl, fun j y e => (by cases e), upd_same⟩, Nat.zero_le _, rfl⟩, ?_⟩
  rintro i m σ1 H2 ⟨hσ, hs, ⟨ys, hy, hR, hd⟩, hi, rfl⟩
  rcases Nat.lt_or_ge i xs.length with hlt | hge
  · right
    refine ⟨⟨xs, xs[i], hs.seq hq, by simp [hlt]⟩, fun σ' H' => Ag σ' ∧ Same H1 H' ∧ ∃ ys, ys.length = i + 1 ∧ (∀ j y, ys[j]? = some y → R j y H') ∧ H' D = some (.lst ys), fun σ' H' ⟨a, b, c⟩ => ⟨xs.length - (i + 1), by omega, a, b, c, hlt, rfl⟩, ?_⟩
    rintro v H' ⟨t, x, rfl, ht, rfl, hx⟩
    have hx := hx xs (hs.seq hq)
    have hst : Same H1 (upd H2 t (.tup [.int (i : Int), x])) := hs.trans (.upd_new ht)
    have u2 := Same.upd_new (o := .tup [.int (i : Int), x]) ht
    have hdt := u2 _ _ hd
    refine step i x t σ1 _ (fun σ2 y H5 => ∃ xs, H5 D = some (.lst xs) ∧ xs.length < sizeLine ∧ _) _ hσ hst hx upd_same (fun σ2 y H3 a2 hs3 hR3 => ⟨_, hs3 _ _ hdt, by omega, a2, (hst.trans hs3).upd_ne' hD, ys ++ [y], by rw [List.length_append]; show _ + 1 = _; omega, fun j z e => ?_, upd_same⟩)
    have keep : ∀ {j z}, R j z H3 → R j z (upd H3 D (.lst (ys ++ [y]))) := fun {j z} q => mono _ _ _ _ (.lst (hs3 _ _ hdt)) q
    rcases Nat.lt_or_ge j ys.length with z1 | z1
    · rw [List.getElem?_append_left z1] at e
      exact keep (mono _ _ _ _ hs3.t (mono _ _ _ _ u2.t (hR j z e)))
    · rw [List.getElem?_append_right z1] at e
      obtain ⟨rfl, rfl⟩ : j = i ∧ y = z := by
        rcases Nat.eq_zero_or_pos (j - ys.length) with q | q
        · rw [q] at e
          exact ⟨by omega, Option.some.inj e⟩
        · rw [List.getElem?_eq_none (by show 1 ≤ _; omega)] at e
          cases e
      exact keep hR3
  · left
    obtain rfl : i = xs.length := Nat.le_antisymm hi hge
    exact ⟨⟨xs, hs.seq hq, Nat.le_refl _⟩, h D ys _ hD hs hy hR hd⟩
end
end L2

set_option Elab.async false
set_option linter.all false
set_option maxRecDepth 100000
set_option maxHeartbeats 8000000
namespace K09
open PySem L2
seal PE PT PW PA PS PSs PG PGs PI OpR UnR CallR PO SlR IxR MtR MtM PIfs PSet PIp PGet
def top (i : Nat) : Stmt := PySem.Challenge.pw_shareparley_k09_whole_nets.main.body.getD i (.Pass ⟨0, 0, 0, 0⟩)
abbrev sNum : Stmt := top 15
abbrev sWith : Stmt := top 16
abbrev sChM : Stmt := top 17
abbrev sWC : Stmt := top 20
abbrev sChk : Stmt := top 21
abbrev sCkN : Stmt := top 23
abbrev sCkP : Stmt := top 24
abbrev sSrt : Stmt := top 25
abbrev sCkC : Stmt := top 29
abbrev sCst : Stmt := top 30
abbrev sEnd : Stmt := top 31
abbrev sJon : Stmt := top 32
abbrev sLNt : Stmt := top 33
abbrev sDrw : Stmt := top 36
abbrev sWho : Stmt := top 37
abbrev sRow : Stmt := top 38
abbrev sOnl : Stmt := top 39
abbrev sOdd : Stmt := top 40
abbrev sRef : Stmt := top 41
abbrev sRps : Stmt := top 42
abbrev sLHn : Stmt := top 43
abbrev sLEn : Stmt := top 44
abbrev sRch : Stmt := top 45
abbrev sJnd : Stmt := top 46
abbrev sLNe : Stmt := top 47
abbrev sByR : Stmt := top 48
abbrev sLaw : Stmt := top 49
abbrev sRI : Stmt := inClass (top 26) 0
abbrev sHs : Stmt := inClass (top 26) 1
abbrev sErn : Stmt := inClass (top 26) 2
abbrev sRR : Stmt := inClass (top 26) 3
abbrev sNI : Stmt := inClass (top 34) 0
abbrev sNLs : Stmt := inClass (top 34) 1
abbrev sNRk : Stmt := inClass (top 34) 2
abbrev sNNt : Stmt := inClass (top 34) 3
theorem inB_natM {v : V} {m : Nat} (h1 : inB 0 (2 ^ m - 1) v = true) : ∃ g : Nat, v = .int (g : Int) ∧ g < 2 ^ m := by
  cases v with
  | int i =>
    have z : (decide (0 ≤ i) && decide (i ≤ 2 ^ m - 1)) = true := h1
    rw [Bool.and_eq_true] at z
    have z1 := of_decide_eq_true z.1
    have z2 := of_decide_eq_true z.2
    have e : ((2 ^ m : Nat) : Int) = 2 ^ m := by push_cast; rfl
    exact ⟨i.toNat, by rw [Int.toNat_of_nonneg z1], by omega⟩
  | _ => exact (Bool.false_ne_true h1).elim
theorem nat_inB {g m : Nat} (hg : g < 2 ^ m) : inB 0 (2 ^ m - 1) (.int (g : Int)) = true := by
  show (decide (0 ≤ (g : Int)) && decide ((g : Int) ≤ 2 ^ m - 1)) = true
  have e : ((2 ^ m : Nat) : Int) = 2 ^ m := by push_cast; rfl
  rw [decide_eq_true (by omega), decide_eq_true (by omega)]
  rfl
def aloneL : List Int := [1, 2, 4, 8, 16, 32]
def alone (i : Nat) : Int := aloneL.getD i 0
def handF (g : Nat) (i : Nat) : Option V := if Builtin.bitAnd (g : Int) (alone i) = 0 then none else some (.int (i : Int))
def hN (g : Nat) : Nat → List Int
  | 0 => []
  | i + 1 => if g / 2 ^ i % 2 = 1 then hN g i ++ [(i : Int)] else hN g i
def hands (g : Nat) : List Int := hN g 6
theorem hN_len (g : Nat) : ∀ i, (hN g i).length ≤ i
  | 0 => Nat.le_refl _
  | i + 1 => by
    have h := hN_len g i
    unfold hN
    split
    · rw [List.length_append, List.length_singleton]; omega
    · omega
/-- the sum of the numbers of a group's hands -/
def preS (ns : List Int) (g : Nat) : Nat → Int
  | 0 => 0
  | i + 1 => if g / 2 ^ i % 2 = 1 then preS ns g i + ns.getD i 0 else preS ns g i
def sumH (ns : List Int) (g : Nat) : Int := preS ns g ns.length
theorem cut_lo (xs : List V) (n : Nat) : cutV xs (some (n : Int)) none = xs.drop n := by
  unfold cutV
  rw [HT.sIx_nat, HT.sIx_none]
  rcases Nat.le_total n xs.length with h | h
  · rw [Nat.min_eq_left h]
    exact List.take_of_length_le (by rw [List.length_drop]; omega)
  · rw [Nat.min_eq_right h, List.drop_length, List.drop_of_length_le h]
    simp
theorem cut_hi (xs : List V) (n : Nat) : cutV xs none (some (n : Int)) = xs.take n := by
  unfold cutV
  rw [HT.sIx_nat, HT.sIx_none, List.drop_zero, Nat.sub_zero]
  rcases Nat.le_total n xs.length with h | h
  · rw [Nat.min_eq_left h]
  · rw [Nat.min_eq_right h, List.take_length, List.take_of_length_le h]
theorem pl_ints {K : PySem.W.Frag} {H : Hp} {ns : List Int} : ∀ u ∈ ns.map V.int, Pl K H u := fun u hu => by
  obtain ⟨x, _, rfl⟩ := List.mem_map.mp hu
  exact .int x
theorem all_ints (ns : List Int) : (ns.map V.int).all isI = true := by
  induction ns with
  | nil => rfl
  | cons n r ih => exact ih
/-! ### a rule, as an object -/
/-- what of the text a kind of rule has -/
structure RC (K : PySem.W.Frag) (fE fH RU C g : Addr) : Prop where
  oc : OCls K C
  nm : NoAttr K C "many"
  me : Meth K C "earn" fE
  mh : Meth K C "hands" fH
  mr : Meth K C "reckon" g
  isR : PySem.W.kitOne K (.ref C) (.ref RU) = some true
def noMeth (fs : List (Str × V)) : Prop := fs.lookup ("earn" : Str) = none ∧ fs.lookup ("hands" : Str) = none ∧ fs.lookup ("reckon" : Str) = none
/-- the object at a is a rule for m hands whose groups earn e -/
def RObj (P : Program) (w : World) (K : PySem.W.Frag) (mg : Str → Option Value) (base : Heap) (fE fH RU : Addr) (H : Hp) (a : Addr) (m : Nat) (e : Nat → Int) : Prop :=
  ∃ (C dx g : Addr) (fs : List (Str × V)), H a = some (.ins C dx fs) ∧ RC K fE fH RU C g ∧ fs.lookup ("many" : Str) = some (.int (m : Int)) ∧ 1 ≤ m ∧ m ≤ 6 ∧ noMeth fs ∧
    ∃ ps, Md P w K mg base 6 ps (fun vs H2 Q _ => ∃ gr : Nat, vs = [.ref a, .int (gr : Int)] ∧ gr < 2 ^ m ∧ Same H H2 ∧ ∀ H3, Same H2 H3 → Q (.int (e gr)) H3) g
def okN (xs : List V) : Bool := decide (1 ≤ xs.length) && decide (xs.length ≤ 6) && xs.all isI
theorem inB_16 (n : Nat) : inB 1 6 (.int (n : Int)) = (decide (1 ≤ n) && decide (n ≤ 6)) := by
  show (decide (1 ≤ (n : Int)) && decide ((n : Int) ≤ 6)) = _
  rw [Bool.eq_iff_iff, Bool.and_eq_true, Bool.and_eq_true, decide_eq_true_iff, decide_eq_true_iff, decide_eq_true_iff, decide_eq_true_iff]
  omega
structure T (K : PySem.W.Frag) (mg : Str → Option Value) (AL RU NE fE fH rR rN iR iN fL fN SE NG NN NO NR NL NS NT NX NV TM UL : Addr) : Prop where
  b_isi : mg "isinstance" = none
  b_int : mg "int" = none
  b_bool : mg "bool" = none
  b_range : mg "range" = none
  b_len : mg "len" = none
  b_list : mg "list" = none
  b_ve : mg "ValueError" = none
  b_sum : mg "sum" = none
  b_all : mg "all" = none
  b_any : mg "any" = none
  b_sorted : mg "sorted" = none
  b_tuple : mg "tuple" = none
  b_max : mg "max" = none
  b_min : mg "min" = none
  b_enum : mg "enumerate" = none
  b_dict : mg "dict" = none
  mAL : mg "ALONE" = some (.ref AL)
  al : ∀ H : Hp, SqT K H AL (aloneL.map V.int)
  we : ∃ tk, mg "WELL" = some (.int 64 tk)
  mRU : mg "Rule" = some (.ref RU)
  rRU : RC K fE fH RU RU rR
  kRU : Mk K RU iR
  mNE : mg "Net" = some (.ref NE)
  rNE : RC K fE fH RU NE rN
  kNE : Mk K NE iN
  nNE : NoAttr K NE "costs"
  nNE1 : NoAttr K NE "ropes"
  lNE : Meth K NE "least" fL
  tNE : Meth K NE "net" fN
  xRI : ∃ fd, Mx K "__init__" "Rule.__init__" sRI ["self", "many"] iR fd
  xH : ∃ fd, Mx K "hands" "Rule.hands" sHs ["self"] fH fd
  xE : ∃ fd, Mx K "earn" "Rule.earn" sErn ["self", "group"] fE fd
  xRR : ∃ fd, Mx K "reckon" "Rule.reckon" sRR ["self", "group"] rR fd
  xNI : ∃ fd, Mx K "__init__" "Net.__init__" sNI ["self", "costs", "ropes"] iN fd
  xNLs : ∃ fd, Mx K "least" "Net.least" sNLs ["self", "group"] fL fd
  xNRk : ∃ fd, Mx K "reckon" "Net.reckon" sNRk ["self", "group"] rN fd
  xNNt : ∃ fd, Mx K "net" "Net.net" sNNt ["self", "group"] fN fd
  cRI : CMeth K RU "__init__" iR
  mSE : mg "ShareError" = some (.ref SE)
  mNG : mg "NoGroup" = some (.ref NG)
  mNN : mg "NoNumber" = some (.ref NN)
  mNO : mg "NoOrder" = some (.ref NO)
  mNR : mg "NoRows" = some (.ref NR)
  mNL : mg "NoRule" = some (.ref NL)
  mNS : mg "NoShares" = some (.ref NS)
  mNT : mg "NoTable" = some (.ref NT)
  mNX : mg "NoText" = some (.ref NX)
  mNV : mg "NoVotes" = some (.ref NV)
  mTM : mg "TooMany" = some (.ref TM)
  mUL : mg "Unlike" = some (.ref UL)
  cSE : ExcCls K SE
  cNG : ExcCls K NG
  xNG : PySem.W.excIn K NG bmV "ValueError.__new__" = true
  up : PySem.W.mroIn K NG (.ref SE) = some true
  k1 : PySem.W.kitOne K (.ref NG) (.ref NG) = some true
  k2 : PySem.W.kitOne K (.ref NG) (.type "ValueError") = some true
  k3 : PySem.W.kitAny K (.ref NG) [.ref NN, .ref NO, .ref NR, .ref NL, .ref NS] = some false
  k4 : PySem.W.kitAny K (.ref NG) [.ref NT, .ref NX, .ref NV, .ref TM, .ref UL] = some false
  xNL : PySem.W.excIn K NL bmV "ValueError.__new__" = true

section
variable {P : Program} {w : World} {K : PySem.W.Frag} {mg : Str → Option Value} {base : Heap} {AL RU NE fE fH rR rN iR iN fL fN SE NG NN NO NR NL NS NT NX NV TM UL : Addr} {f : Addr} {fd : FuncData}
/-! ### is_number -/
def spNum (K : PySem.W.Frag) : Sp := fun vs H Q _ => ∃ v, vs = [v] ∧ Pl K H v ∧ Q (.bl (isI v)) H
theorem scNum : FnScope ["thing"] ["thing"] (defScope sNum) := ⟨rfl, rfl, rfl, by decide +kernel, rfl, by decide +kernel, by decide +kernel⟩
theorem ok_num (t : Tx K mg "is_number" sNum ["thing"] f fd) (T : T K mg AL RU NE fE fH rR rN iR iN fL fN SE NG NN NO NR NL NS NT NX NV TM UL) : Df P w K mg base CX0 1 "is_number" ["thing"] (spNum K) f fd := by
  refine t.df0 scNum (fun vs H Q E h => ?_) (fun cdv A outer s H vs Q E hr h => ?_)
  · obtain ⟨v, rfl, _⟩ := h
    rfl
  · obtain ⟨v, rfl, pl, k⟩ := h
    obtain ⟨Ty, ty, kd⟩ := pl.ex
    -- return isinstance(thing, int) and not isinstance(thing, bool)
    refine ⟨_, pss_one (ps_ret (pe_and (pe_callB call_isi (by rfl) T.b_isi bt_isi (pa_cons (pv 0) (pa_cons (pe_bltn (v := .ty "int") (by rfl) T.b_int bt_int rfl) pa_nil)))
      (pe_one (pe_not (pe_callB call_isi (by rfl) T.b_isi bt_isi (pa_cons (pv 0) (pa_cons (pe_bltn (v := .ty "bool") (by rfl) T.b_bool bt_bool rfl) pa_nil))))))), ?_⟩
    refine ⟨_, rfl, v, .ty "int", _, _, _, rfl, rfl, .of ty, kd.int_ K, _, rfl, ?_⟩
    refine ite2 (fun h1 => ?_) (fun h1 => ?_)
    · refine ⟨_, rfl, v, .ty "bool", _, _, _, rfl, rfl, .of ty, kd.bool_ K, _, rfl, ?_⟩
      have e : (!(Ty == "bool")) = isI v := by
        rw [Pl.isI ty]
        cases kd <;> first | rfl | (exact absurd h1 (by decide))
      rw [e]
      exact k
    · have e : false = isI v := by
        rw [Pl.isI ty]
        cases kd <;> first | rfl | (exact absurd rfl h1)
      rw [e]
      exact k


/-! ### is_number_within -/
def spWith (K : PySem.W.Frag) : Sp := fun vs H Q _ => ∃ (v : V) (lo hi : Int), vs = [v, .int lo, .int hi] ∧ Pl K H v ∧ Q (.bl (inB lo hi v)) H
theorem scWith : FnScope ["thing", "least", "most"] ["thing", "least", "most"] (defScope sWith) := ⟨rfl, rfl, rfl, by decide +kernel, rfl, by decide +kernel, by decide +kernel⟩
theorem ok_with {f1 : Addr} {fd1 : FuncData} (t : Tx K mg "is_number_within" sWith ["thing", "least", "most"] f fd) (D : Df P w K mg base CX0 1 "is_number" ["thing"] (spNum K) f1 fd1) :
    Df P w K mg base CX0 2 "is_number_within" ["thing", "least", "most"] (spWith K) f fd := by
  refine t.df0 scWith (fun vs H Q E h => ?_) (fun cdv A outer s H vs Q E hr h => ?_)
  · obtain ⟨v, lo, hi, rfl, _⟩ := h
    rfl
  · obtain ⟨v, lo, hi, rfl, pl, k⟩ := h
    -- return is_number(thing) and least <= thing <= most
    refine ⟨_, pss_one (ps_ret (pe_and (pe_d0 D hr (Nat.le_refl _) (by rfl) (pa_cons (pv 0) pa_nil)) (pe_one (pe_chain op_le op_le (pv 1) (pv 0) (pv 2))))), ?_⟩
    refine ⟨_, rfl, v, rfl, pl, _, rfl, ?_⟩
    cases v with
    | int i =>
      refine iteT ⟨_, rfl, _, rfl, lo, i, rfl, rfl, _, rfl, ?_⟩
      refine ite2 (fun h1 => ⟨_, rfl, i, hi, rfl, rfl, ?_⟩) (fun h1 => ?_)
      · have e : decide (i ≤ hi) = inB lo hi (.int i) := by
          show _ = (decide (lo ≤ i) && decide (i ≤ hi))
          rw [h1, Bool.true_and]
        show Q (.bl (decide (i ≤ hi))) H
        rw [e]
        exact k
      · have e : false = inB lo hi (.int i) := by
          show _ = (decide (lo ≤ i) && decide (i ≤ hi))
          rw [Bool.eq_false_iff.mpr h1, Bool.false_and]
        rw [e]
        exact k
    | _ => exact iteF k


/-! ### _law_whole -/
theorem scWho : FnScope ["_law_found"] ["_law_found"] (defScope sWho) := ⟨rfl, rfl, rfl, by decide +kernel, rfl, by decide +kernel, by decide +kernel⟩
theorem ok_who (t : Tx K mg "_law_whole" sWho ["_law_found"] f fd) (T : T K mg AL RU NE fE fH rR rN iR iN fL fN SE NG NN NO NR NL NS NT NX NV TM UL) : Df P w K mg base CX0 1 "_law_whole" ["_law_found"] (spNum K) f fd := by
  refine t.df0 scWho (fun vs H Q E h => ?_) (fun cdv A outer s H vs Q E hr h => ?_)
  · obtain ⟨v, rfl, _⟩ := h
    rfl
  · obtain ⟨v, rfl, pl, k⟩ := h
    obtain ⟨Ty, ty, kd⟩ := pl.ex
    refine ⟨_, pss_one (ps_ret (pe_and (pe_callB call_isi (by rfl) T.b_isi bt_isi (pa_cons (pv 0) (pa_cons (pe_bltn (v := .ty "int") (by rfl) T.b_int bt_int rfl) pa_nil)))
      (pe_one (pe_not (pe_callB call_isi (by rfl) T.b_isi bt_isi (pa_cons (pv 0) (pa_cons (pe_bltn (v := .ty "bool") (by rfl) T.b_bool bt_bool rfl) pa_nil))))))), ?_⟩
    refine ⟨_, rfl, v, .ty "int", _, _, _, rfl, rfl, .of ty, kd.int_ K, _, rfl, ?_⟩
    refine ite2 (fun h1 => ?_) (fun h1 => ?_)
    · refine ⟨_, rfl, v, .ty "bool", _, _, _, rfl, rfl, .of ty, kd.bool_ K, _, rfl, ?_⟩
      have e : (!(Ty == "bool")) = isI v := by
        rw [Pl.isI ty]
        cases kd <;> first | rfl | (exact absurd h1 (by decide))
      rw [e]
      exact k
    · have e : false = isI v := by
        rw [Pl.isI ty]
        cases kd <;> first | rfl | (exact absurd rfl h1)
      rw [e]
      exact k


/-! ### check_many -/
def spChM (K : PySem.W.Frag) (NL : Addr) : Sp := fun vs H Q E => ∃ v, vs = [v] ∧ Pl K H v ∧ if inB 1 6 v = true then Q .non H else E (.ref NL) none H
theorem scChM : FnScope ["many"] ["many"] (defScope sChM) := ⟨rfl, rfl, rfl, by decide +kernel, rfl, by decide +kernel, by decide +kernel⟩
theorem ok_chm {f1 : Addr} {fd1 : FuncData} (t : Tx K mg "check_many" sChM ["many"] f fd) (T : T K mg AL RU NE fE fH rR rN iR iN fL fN SE NG NN NO NR NL NS NT NX NV TM UL) (D_is_number_within : Df P w K mg base CX0 2 "is_number_within" ["thing", "least", "most"] (spWith K) f1 fd1) :
    Df P w K mg base (CX1 P w) 3 "check_many" ["many"] (spChM K NL) f fd := by
  refine t.df1 scChM (fun vs H Q E h => ?_) (fun cdv A outer s H vs Q E hr h => ?_)
  · obtain ⟨v, rfl, _⟩ := h
    rfl
  · obtain ⟨v, rfl, pl, k⟩ := h
    refine ⟨_, (pss_one (ps_if (pt_not (pt_val (pe_d0 D_is_number_within hr (by decide) (by rfl) (pa_cons (pv 0) (pa_cons pe_int (pa_cons pe_int pa_nil)))))) (pss_one (ps_raise rais_def rfl (by rfl) T.mNL T.xNL (pa_cons pe_str pa_nil))) pss_nil)), ?_⟩
    refine ⟨_, rfl, v, 1, 6, rfl, pl, _, rfl, ?_⟩
    cases e : inB 1 6 v with
    | true =>
      rw [e, if_pos rfl] at k
      exact iteF k
    | false =>
      rw [e, if_neg Bool.false_ne_true] at k
      exact iteT ⟨by show 1 ≤ sizeLine; decide, k⟩
/-! ### whole_company -/
def spWC : Sp := fun vs H Q _ => ∃ m : Nat, vs = [.int (m : Int)] ∧ m ≤ 6 ∧ ∀ H', Same H H' → Q (.int (2 ^ m - 1)) H'
theorem alone_sum : ∀ m : _root_.Fin 7, (aloneL.take m.1).sum = 2 ^ m.1 - 1 := by decide
theorem scWC : FnScope ["many"] ["many"] (defScope sWC) := ⟨rfl, rfl, rfl, by decide +kernel, rfl, by decide +kernel, by decide +kernel⟩
theorem ok_wc (t : Tx K mg "whole_company" sWC ["many"] f fd) (T : T K mg AL RU NE fE fH rR rN iR iN fL fN SE NG NN NO NR NL NS NT NX NV TM UL) : Df P w K mg base CX0 1 "whole_company" ["many"] spWC f fd := by
  refine t.df0 scWC (fun vs H Q E h => ?_) (fun cdv A outer s H vs Q E hr h => ?_)
  · obtain ⟨m, rfl, _⟩ := h
    rfl
  · obtain ⟨m, rfl, hm, k⟩ := h
    refine ⟨_, (pss_one (ps_ret (pe_callB (call_sum rfl) (by rfl) T.b_sum bt_sum (pa_cons (pe_slice sl_tupA (pe_glob (v := .ref AL) (by rfl) T.mAL rfl) po_none (po_some (pv 0))) pa_nil)))), ?_⟩
    refine ⟨_, rfl, _, rfl, AL, _, rfl, T.al _, fun p H' s hq => ⟨p, aloneL.take m, rfl, .inr ?_, ?_⟩⟩
    · rw [cut_hi, ← List.map_take] at hq
      exact hq
    · rw [alone_sum ⟨m, by omega⟩]
      exact k H' s
/-! ### check_group -/
def spChk (K : PySem.W.Frag) (NG : Addr) : Sp := fun vs H Q E => ∃ (v : V) (m : Nat), vs = [v, .int (m : Int)] ∧ m ≤ 6 ∧ Pl K H v ∧ (inB 0 (2 ^ m - 1) v = false → ∀ H', Same H H' → E (.ref NG) none H') ∧ (inB 0 (2 ^ m - 1) v = true → ∀ H', Same H H' → Q .non H')
theorem scChk : FnScope ["group", "many"] ["group", "many"] (defScope sChk) := ⟨rfl, rfl, rfl, by decide +kernel, rfl, by decide +kernel, by decide +kernel⟩
theorem ok_chk {f1 f2 : Addr} {fd1 fd2 : FuncData} (t : Tx K mg "check_group" sChk ["group", "many"] f fd) (T : T K mg AL RU NE fE fH rR rN iR iN fL fN SE NG NN NO NR NL NS NT NX NV TM UL) (D_is_number_within : Df P w K mg base CX0 2 "is_number_within" ["thing", "least", "most"] (spWith K) f1 fd1)
    (D_whole_company : Df P w K mg base CX0 1 "whole_company" ["many"] spWC f2 fd2) : Df P w K mg base (CX1 P w) 3 "check_group" ["group", "many"] (spChk K NG) f fd := by
  refine t.df1 scChk (fun vs H Q E h => ?_) (fun cdv A outer s H vs Q E hr h => ?_)
  · obtain ⟨v, m, rfl, _⟩ := h
    rfl
  · obtain ⟨v, m, rfl, hm, pl, k0, k⟩ := h
    refine ⟨_, (pss_one (ps_if (pt_not (pt_val (pe_d0 D_is_number_within hr (by decide) (by rfl) (pa_cons (pv 0) (pa_cons pe_int (pa_cons (pe_d0 D_whole_company hr (by decide) (by rfl) (pa_cons (pv 1) pa_nil)) pa_nil)))))) (pss_one (ps_raise rais_def rfl (by rfl) T.mNG T.xNG (pa_cons pe_str pa_nil))) pss_nil)), ?_⟩
    refine ⟨_, rfl, _, rfl, m, rfl, hm, fun H' s => ⟨v, 0, _, rfl, pl.same s, _, rfl, ?_⟩⟩
    cases e : inB 0 (2 ^ m - 1) v with
    | true => exact iteF (k e H' s)
    | false => exact iteT ⟨by show 1 ≤ sizeLine; decide, k0 e H' s⟩
/-! ### check_numbers -/
def spCkN (K : PySem.W.Frag) (NL : Addr) : Sp := fun vs H Q E => ∃ (p : Addr) (xs : List V), vs = [.ref p] ∧ (H p = some (.lst xs) ∨ H p = some (.tup xs)) ∧ (∀ v ∈ xs, Pl K H v) ∧ xs.length ≤ 1000 ∧ (xs.all isI = false → ∀ H', Same H H' → E (.ref NL) none H') ∧ (xs.all isI = true → ∀ H', Same H H' → Q .non H')
theorem scCkN : FnScope ["things"] ["things"] (defScope sCkN) := ⟨rfl, rfl, rfl, by decide +kernel, rfl, by decide +kernel, by decide +kernel⟩
theorem ok_ckn {f1 : Addr} {fd1 : FuncData} (t : Tx K mg "check_numbers" sCkN ["things"] f fd) (T : T K mg AL RU NE fE fH rR rN iR iN fL fN SE NG NN NO NR NL NS NT NX NV TM UL) (D_is_number : Df P w K mg base CX0 1 "is_number" ["thing"] (spNum K) f1 fd1) :
    Df P w K mg base (CX1 P w) 2 "check_numbers" ["things"] (spCkN K NL) f fd := by
  refine t.df1 scCkN (fun vs H Q E h => ?_) (fun cdv A outer s H vs Q E hr h => ?_)
  · obtain ⟨p, xs, rfl, _⟩ := h
    rfl
  · obtain ⟨p, xs, rfl, hp, pl, hlen, k0, k⟩ := h
    refine ⟨_, (pss_one (ps_if (pt_not (pt_val (pe_callB (call_all rfl) (by rfl) T.b_all bt_all (pa_cons (pe_comp (NB := ["thing"]) (pick := [none]) (blk_mk (by with_unfolding_all rfl) (by exact trivial) rfl (by decide +kernel) (by decide +kernel) (by rfl) (by rfl)) rfl
          (pi_seq (pv 0)) (fun _ _ _ => pg_name (i := 0) (show (["thing"] : List Str).Nodup from by decide +kernel) rfl (Or.inl rfl))
          (fun _ _ _ => pif_nil) (fun _ _ _ => (pe_d0 D_is_number hr (by decide) (by rfl) (pa_cons (pv 0) pa_nil)))) pa_nil)))) (pss_one (ps_raise rais_def rfl (by rfl) T.mNL T.xNL (pa_cons pe_str pa_nil))) pss_nil)), ?_⟩
    have fin : ∀ (D : Addr) (H2 : Hp), Same H H2 → H2 D = some (.lst ((List.range xs.length).filterMap fun i => (xs[i]?).bind fun x => some (V.bl (isI x)))) →
        ∃ bs : List Bool, SqL K H2 D (bs.map V.bl) ∧ bs.all id = xs.all isI := fun D H2 s2 hd => by
      refine ⟨xs.map isI, ?_, by rw [List.all_map]; rfl⟩
      rw [List.map_map, ← fm_mapV] at *
      exact SqL.of hd
    have step : ∀ (i : Nat) (x : V) (H2 : Hp), Same H H2 → xs[i]? = some x → Pl K H2 x := fun i x H2 s2 hx => (pl x (List.mem_of_getElem? hx)).same s2
    have endk : ∀ (D : Addr) (H2 : Hp) (bs : List Bool), Same H H2 → bs.all id = xs.all isI → if (!(bs.all id)) = true then (1 ≤ sizeLine ∧ E (.ref NL) none H2) else Q .non H2 := fun D H2 bs s2 e => by
      rw [e]
      cases eb : xs.all isI with
      | false => exact iteT ⟨by decide, k0 eb H2 s2⟩
      | true => exact iteF (k eb H2 s2)
    rcases hp with hp | hp
    · refine ⟨_, rfl, p, rfl, .inl ⟨⟨xs, SqL.of hp⟩, ?_⟩⟩
      refine comp_lst (xs := xs) (fun _ x => some (.bl (isI x))) (SqL.of hp) (Nat.le_of_lt (small1000 hlen)) (fun i x H2 kk kk0 s2 hx h1 h2 => ?_) fun D H2 hD s2 hd => ?_
      · exact ⟨_, rfl, x, rfl, step i x H2 s2 hx, h1 _ rfl _ (.refl _)⟩
      · obtain ⟨bs, q1, q2⟩ := fin D H2 s2 hd
        exact ⟨D, bs, rfl, q1, _, rfl, endk D H2 bs s2 q2⟩
    · refine ⟨_, rfl, p, rfl, .inr ⟨⟨xs, SqT.of hp⟩, ?_⟩⟩
      refine comp_tup (xs := xs) (fun _ x => some (.bl (isI x))) (SqT.of hp) (Nat.le_of_lt (small1000 hlen)) (fun i x H2 kk kk0 s2 hx h1 h2 => ?_) fun D H2 hD s2 hd => ?_
      · exact ⟨_, rfl, x, rfl, step i x H2 s2 hx, h1 _ rfl _ (.refl _)⟩
      · obtain ⟨bs, q1, q2⟩ := fin D H2 s2 hd
        exact ⟨D, bs, rfl, q1, _, rfl, endk D H2 bs s2 q2⟩
/-! ### check_pair -/
def okP (m : Int) : List V → Bool
  | [.int i, .int j, .int _] => decide (0 ≤ i) && decide (i < j) && decide (j < m)
  | _ => false
theorem okP_at {m : Int} {xs : List V} (h : okP m xs = true) : ∃ i j n : Int, xs = [.int i, .int j, .int n] ∧ 0 ≤ i ∧ i < j ∧ j < m := by
  unfold okP at h
  split at h
  · rename_i i j n
    rw [Bool.and_eq_true, Bool.and_eq_true] at h
    exact ⟨i, j, n, rfl, of_decide_eq_true h.1.1, of_decide_eq_true h.1.2, of_decide_eq_true h.2⟩
  · cases h
theorem okP_no {m : Int} {xs : List V} (h : ¬ ∃ i j n : Int, xs = [.int i, .int j, .int n] ∧ 0 ≤ i ∧ i < j ∧ j < m) : okP m xs = false := by
  cases e : okP m xs with
  | false => rfl
  | true => exact absurd (okP_at e) h
def spCkP (K : PySem.W.Frag) (NL : Addr) : Sp := fun vs H Q E => ∃ (m : Int) (a : Addr) (xs : List V), vs = [.int m, .ref a] ∧ H a = some (.tup xs) ∧ (∀ v ∈ xs, Pl K H v) ∧ xs.length ≤ 1000 ∧ (okP m xs = false → ∀ H', Same H H' → E (.ref NL) none H') ∧ (okP m xs = true → ∀ H', Same H H' → Q .non H')
theorem scCkP : FnScope ["many", "pair"] ["many", "pair"] (defScope sCkP) := ⟨rfl, rfl, rfl, by decide +kernel, rfl, by decide +kernel, by decide +kernel⟩
theorem ok_ckp {f1 : Addr} {fd1 : FuncData} (t : Tx K mg "check_pair" sCkP ["many", "pair"] f fd) (T : T K mg AL RU NE fE fH rR rN iR iN fL fN SE NG NN NO NR NL NS NT NX NV TM UL) (D_check_numbers : Df P w K mg base (CX1 P w) 2 "check_numbers" ["things"] (spCkN K NL) f1 fd1) :
    Df P w K mg base (CX1 P w) 3 "check_pair" ["many", "pair"] (spCkP K NL) f fd := by
  refine t.df1 scCkP (fun vs H Q E h => ?_) (fun cdv A outer s H vs Q E hr h => ?_)
  · obtain ⟨m, a, xs, rfl, _⟩ := h
    rfl
  · obtain ⟨m, a, xs, rfl, ha, pl, hlen, k0, k⟩ := h
    refine ⟨_, (pss_cons (ps_if (PW.pt (pw_or (pt_not (pt_val (pe_callB call_isi (by rfl) T.b_isi bt_isi (pa_cons (pv 1) (pa_cons (pe_bltn (v := .ty "tuple") (by rfl) T.b_tuple bt_tuple rfl) pa_nil))))) (pw_or1 (pt_cmpR op_ne (pe_callB call_len_seq (by rfl) T.b_len bt_len (pa_cons (pv 1) pa_nil)) pe_int (nomark _))))) (pss_one (ps_raise rais_def rfl (by rfl) T.mNL T.xNL (pa_cons pe_str pa_nil))) pss_nil)
      (pss_cons (ps_expr (pe_d1 rais_def.toPass D_check_numbers hr (by decide) (by rfl) (pa_cons (pv 1) pa_nil)))
      (pss_one (ps_if (pt_not (pt_chain3 op_le op_lt op_lt pe_int (pe_ix ix_tup (pv 1) pe_int (fun _ _ => rfl)) (pe_ix ix_tup (pv 1) pe_int (fun _ _ => rfl)) (pv 0))) (pss_one (ps_raise rais_def rfl (by rfl) T.mNL T.xNL (pa_cons pe_str pa_nil))) pss_nil)))), ?_⟩
    refine ⟨_, rfl, .ref a, .ty "tuple", _, _, _, rfl, rfl, .of (.tup ha), Kd.tup.tuple_ K, _, rfl, iteF ?_⟩
    refine ⟨_, rfl, a, _, rfl, .inr (SqT.of ha), rfl, _, rfl, ?_⟩
    refine ite2 (fun h3 => ?_) (fun h3 => ?_)
    · refine ⟨by show 1 ≤ sizeLine; decide, k0 (okP_no ?_) H (.refl H)⟩
      rintro ⟨i, j, n, rfl, _⟩
      have e : decide (V.int (([V.int i, V.int j, V.int n].length : Nat) : Int) = V.int 3) = true := decide_eq_true rfl
      rw [e] at h3
      cases h3
    have e3 : xs.length = 3 := by
      refine Classical.byContradiction fun z => h3 ?_
      rw [decide_eq_false]
      · rfl
      · intro q
        have := V.int.inj q
        omega
    refine ⟨_, rfl, a, _, rfl, .inr ha, pl, hlen, fun no H1 s1 => k0 (okP_no ?_) H1 s1, fun yes H1 s1 => ?_⟩
    · rintro ⟨i, j, n, rfl, _⟩
      exact absurd no (by show ¬ true = false; decide)
    obtain ⟨i, j, n, rfl⟩ : ∃ i j n : Int, xs = [.int i, .int j, .int n] := by
      match xs, e3, yes with
      | [u, v, w'], _, yes =>
        rw [List.all_eq_true] at yes
        have y1 := yes u (by simp)
        have y2 := yes v (by simp)
        have y3 := yes w' (by simp)
        cases u <;> first | (exact absurd y1 Bool.false_ne_true) | skip
        cases v <;> first | (exact absurd y2 Bool.false_ne_true) | skip
        cases w' <;> first | (exact absurd y3 Bool.false_ne_true) | skip
        exact ⟨_, _, _, rfl⟩
    have fail : ¬ (0 ≤ i ∧ i < j ∧ j < m) → 1 ≤ sizeLine ∧ E (.ref NL) none H1 := fun z => ⟨by decide, k0 (okP_no (by
      rintro ⟨i', j', n', e, z'⟩
      cases e
      exact z z')) H1 s1⟩
    refine ⟨_, rfl, a, _, _, _, rfl, rfl, SqT.of (s1 _ _ ha), rfl, _, _, rfl, rfl, _, rfl, ?_⟩
    refine ite2 (fun h1 => ?_) (fun h1 => iteT (fail fun z => h1 (decide_eq_true z.1)))
    refine ⟨_, rfl, a, _, _, _, rfl, rfl, SqT.of (s1 _ _ ha), rfl, _, _, rfl, rfl, _, rfl, ?_⟩
    refine ite2 (fun h2 => ?_) (fun h2 => iteT (fail fun z => h2 (decide_eq_true z.2.1)))
    refine ⟨_, rfl, _, _, rfl, rfl, _, rfl, ?_⟩
    cases h3' : decide (j < m) with
    | false => exact iteT (fail fun z => (of_decide_eq_false h3') z.2.2)
    | true =>
      refine iteF (k ?_ H1 s1)
      show (decide (0 ≤ i) && decide (i < j) && decide (j < m)) = true
      rw [h1, h2, h3']
      rfl
/-! ### sorted_pairs -/
def keyP : List V → Int × Int
  | [.int i, .int j, .int _] => (i, j)
  | _ => (0, 0)
def okFrom (m : Int) : List (Int × Int) → List (List V) → Bool
  | _, [] => true
  | seen, xs :: r => okP m xs && !(seen.contains (keyP xs)) && okFrom m (seen ++ [keyP xs]) r
def okPs (m : Int) (xss : List (List V)) : Bool := okFrom m [] xss
theorem okFrom_all {m : Int} : ∀ {xss : List (List V)} {seen : List (Int × Int)}, okFrom m seen xss = true → ∀ xs ∈ xss, okP m xs = true
  | [], _, _, xs, h => by cases h
  | x :: r, seen, h, xs, hx => by
    have h' : (okP m x && !(seen.contains (keyP x)) && okFrom m (seen ++ [keyP x]) r) = true := h
    rw [Bool.and_eq_true, Bool.and_eq_true] at h'
    rcases List.mem_cons.mp hx with rfl | hx
    · exact h'.1.1
    · exact okFrom_all h'.2 xs hx
def dKeys (ks : List (Int × Int)) : List (List Key × V) := ks.map fun k => ([Sum.inl k.1, Sum.inl k.2], V.bl true)
theorem dKeys_val (i j : Int) : ∀ ks : List (Int × Int), valV (dKeys ks) [Sum.inl i, Sum.inl j] = if ks.contains (i, j) = true then some (.bl true) else none
  | [] => rfl
  | k :: r => by
    have ih := dKeys_val i j r
    by_cases e : k = (i, j)
    · subst e
      rw [if_pos (by simp)]
      exact valV_pos (p := ([Sum.inl i, Sum.inl j], V.bl true)) rfl
    · have z : valV (dKeys (k :: r)) [Sum.inl i, Sum.inl j] = valV (dKeys r) [Sum.inl i, Sum.inl j] := valV_neg (p := ([Sum.inl k.1, Sum.inl k.2], V.bl true)) (r := dKeys r) (fun q => e (by
        have q1 := List.cons.inj q
        have q2 := List.cons.inj q1.2
        exact Prod.ext (Sum.inl.inj q1.1) (Sum.inl.inj q2.1)))
      rw [z, ih]
      have e2 : ((k :: r).contains (i, j)) = r.contains (i, j) := by
        rw [List.contains_cons]
        have : ((i, j) == k) = false := by
          rw [beq_eq_false_iff_ne]
          exact fun q => e q.symm
        rw [this, Bool.false_or]
      rw [e2]
def tupV (H : Hp) (a : Addr) : List V := match H a with
  | some (.tup xs) => xs
  | _ => []
theorem tupV_at {H : Hp} {a : Addr} {xs : List V} (h : H a = some (.tup xs)) : tupV H a = xs := by
  unfold tupV
  rw [h]
/-- each is a tuple of plain things -/
def Tups (K : PySem.W.Frag) (H : Hp) (as : List Addr) : Prop := ∀ a ∈ as, ∃ xs, H a = some (.tup xs) ∧ (∀ v ∈ xs, Pl K H v) ∧ xs.length ≤ 1000
def spSrt (K : PySem.W.Frag) (NL : Addr) : Sp := fun vs H Q E => ∃ (m : Int) (p : Addr) (as : List Addr), vs = [.int m, .ref p] ∧ H p = some (.lst (as.map V.ref)) ∧ Tups K H as ∧ as.length < 64 ∧ (okPs m (as.map (tupV H)) = false → ∀ H', Same H H' → E (.ref NL) none H') ∧
  (okPs m (as.map (tupV H)) = true → ∀ (l : Addr) (bs : List Addr) (H' : Hp), H l = none → bs.Perm as → Same H H' → H' l = some (.lst (bs.map V.ref)) → Q (.ref l) H')
theorem scSrt : FnScope ["many", "pairs", "seen", "pair", "hands"] ["many", "pairs"] (defScope sSrt) := ⟨rfl, rfl, rfl, by decide +kernel, rfl, by decide +kernel, by decide +kernel⟩
theorem ok_srt {f1 : Addr} {fd1 : FuncData} (t : Tx K mg "sorted_pairs" sSrt ["many", "pairs"] f fd) (T : T K mg AL RU NE fE fH rR rN iR iN fL fN SE NG NN NO NR NL NS NT NX NV TM UL) (D_check_pair : Df P w K mg base (CX1 P w) 3 "check_pair" ["many", "pair"] (spCkP K NL) f1 fd1) :
    Df P w K mg base (CX1 P w) 4 "sorted_pairs" ["many", "pairs"] (spSrt K NL) f fd := by
  refine t.df1 scSrt (fun vs H Q E h => ?_) (fun cdv A outer s H vs Q E hr h => ?_)
  · obtain ⟨m, p, as, rfl, _⟩ := h
    rfl
  · obtain ⟨m, p, as, rfl, hp, ht, h64, k0, k⟩ := h
    refine ⟨_, (pss_cons (ps_set (i := 2) scSrt.nd rfl (Or.inl rfl) pe_dnewT)
      (pss_cons (ps_for rais_def.own rfl (pi_list (pv 1)) (pg_name (i := 3) scSrt.nd rfl (Or.inl rfl))
        (pss_cons (ps_expr (pe_d1 rais_def.toPass D_check_pair hr (by decide) (by rfl) (pa_cons (pv 0) (pa_cons (pv 3) pa_nil))))
        (pss_cons (ps_set (i := 4) scSrt.nd rfl (Or.inl rfl) (pe_tup (pa_cons (pe_ix ix_tup (pv 3) pe_int (fun _ _ => rfl)) (pa_cons (pe_ix ix_tup (pv 3) pe_int (fun _ _ => rfl)) pa_nil))))
        (pss_cons (ps_if (pt_cmp (pc_din (hu_of hr) (pv 4) (pv 2))) (pss_one (ps_raise rais_def rfl (by rfl) T.mNL T.xNL (pa_cons pe_str pa_nil))) pss_nil)
        (pss_one (ps_dput (hu_of hr) (pv 2) (pv 4) pe_bl rfl))))))
      (pss_one (ps_ret (pe_callB call_sortedT (by rfl) T.b_sorted bt_sorted (pa_cons (pv 1) pa_nil)))))), ?_⟩
    refine fun d hd => ⟨_, rfl, p, rfl, ⟨_, SqL.of (Same.upd_new hd _ _ hp)⟩, ?_⟩
    refine for_list (xs := as.map V.ref) (fun i σ' H' => Same H H' ∧ (∃ o3 o4 : Option V, σ' = [some (.int m), some (.ref p), some (.ref d), o3, o4]) ∧ ∃ ks : List (Int × Int), ks.length ≤ i ∧ H' d = some (.dT (dKeys ks)) ∧ okPs m (as.map (tupV H)) = okFrom m ks ((as.map (tupV H)).drop i)) ?_ ?_ ?_ ?_
    · exact ⟨.upd_new hd, ⟨_, _, rfl⟩, [], Nat.zero_le _, upd_same, rfl⟩
    · rintro i σ' H' _ ⟨s1, _⟩
      exact SqL.of (s1 _ _ hp)
    · rintro i x σ' H' hx ⟨s1, ⟨o3, o4, rfl⟩, ks, hks, hd1, he⟩
      obtain ⟨a, ha, rfl⟩ : ∃ a, as[i]? = some a ∧ x = .ref a := by
        rw [List.getElem?_map] at hx
        cases e : as[i]? with
        | none => rw [e] at hx; cases hx
        | some y => rw [e] at hx; exact ⟨y, rfl, (Option.some.inj hx).symm⟩
      have hi : i < as.length := by
        rcases Nat.lt_or_ge i as.length with z | z
        · exact z
        · rw [List.getElem?_eq_none z] at ha; cases ha
      obtain ⟨xs, hxs, pl, hlen⟩ := ht a (List.mem_of_getElem? ha)
      have hdrop : (as.map (tupV H)).drop i = xs :: (as.map (tupV H)).drop (i + 1) := by
        rw [List.drop_eq_getElem_cons (by rw [List.length_map]; exact hi), List.getElem_map]
        have : as[i] = a := Option.some.inj ((List.getElem?_eq_getElem hi).symm.trans ha)
        rw [this, tupV_at hxs]
      rw [hdrop] at he
      have he' : okPs m (as.map (tupV H)) = (okP m xs && !(ks.contains (keyP xs)) && okFrom m (ks ++ [keyP xs]) ((as.map (tupV H)).drop (i + 1))) := he
      refine ⟨_, rfl, _, rfl, m, a, xs, rfl, s1 _ _ hxs, fun v hv => (pl v hv).same s1, hlen, fun no H2 s2 => ?_, fun yes H2 s2 => ?_⟩
      · exact k0 (by rw [he', no]; rfl) H2 (s1.trans s2)
      obtain ⟨u, v, n, rfl, _⟩ := okP_at yes
      have ha2 := s2 _ _ (s1 _ _ hxs)
      refine ⟨_, rfl, a, _, _, _, rfl, rfl, SqT.of ha2, rfl, _, rfl, a, _, _, _, rfl, rfl, SqT.of ha2, rfl, by show 2 ≤ sizeLine; decide, fun tt htt => ?_⟩
      have u3 := Same.upd_new (o := .tup [V.int u, V.int v]) htt
      have hd3 := u3 _ _ (s2 _ _ hd1)
      refine ⟨_, rfl, _, rfl, d, _, rfl, DGet.t (k := [Sum.inl u, Sum.inl v]) hd3 upd_same, _, rfl, ?_⟩
      rw [dKeys_val]
      cases hc : ks.contains (u, v) with
      | true =>
        rw [if_pos rfl]
        refine iteT ⟨by show 1 ≤ sizeLine; decide, k0 ?_ _ ((s1.trans s2).trans u3)⟩
        rw [he', show keyP [V.int u, V.int v, V.int n] = (u, v) from rfl, hc, yes]
        rfl
      | false =>
        rw [if_neg Bool.false_ne_true]
        refine iteF ⟨_, rfl, _, rfl, d, _, rfl, DPut.t (k := [Sum.inl u, Sum.inl v]) hd3 upd_same (by unfold dKeys; rw [List.length_map]; exact small1000 (by omega)), ?_⟩
        refine ⟨((s1.trans s2).trans u3).upd_ne' hd, ⟨_, _, rfl⟩, ks ++ [(u, v)], by rw [List.length_append]; show _ + 1 ≤ _; omega, ?_, ?_⟩
        · rw [upd_same, putK_new _ (by rw [dKeys_val, hc]; rfl)]
          unfold dKeys
          rw [List.map_append]
          rfl
        · rw [he', show keyP [V.int u, V.int v, V.int n] = (u, v) from rfl, hc, yes]
          rfl
    · rintro σ' H' ⟨s1, ⟨o3, o4, rfl⟩, ks, hks, hd1, he⟩
      rw [List.length_map, List.drop_of_length_le (by rw [List.length_map]; exact Nat.le_refl _)] at he
      have he : okPs m (as.map (tupV H)) = true := he
      refine ⟨_, rfl, p, as, rfl, SqL.of (s1 _ _ hp), fun a ha => ?_, h64, fun l bs hl hb => k he l bs _ (s1.free hl) hb (s1.trans (.upd_new hl)) upd_same⟩
      obtain ⟨xs, hxs, _⟩ := ht a ha
      obtain ⟨u, v, n, e, _⟩ := okP_at (okFrom_all he xs (by rw [← tupV_at hxs]; exact List.mem_map.mpr ⟨a, ha, rfl⟩))
      subst e
      exact ⟨u, [v, n], s1 _ _ hxs⟩
/-! ### Rule.__init__ -/
def spRI (K : PySem.W.Frag) (NL : Addr) : Sp := fun vs H Q E => ∃ (x C dx : Addr) (v : V), vs = [.ref x, v] ∧ H x = some (.ins C dx []) ∧ Cls K C ∧ NoAttr K C "many" ∧ Pl K H v ∧ (inB 1 6 v = false → E (.ref NL) none H) ∧ (inB 1 6 v = true → Q .non (upd H x (.ins C dx [("many", v)])))
theorem scRI : FnScope ["self", "many"] ["self", "many"] (defScope sRI) := ⟨rfl, rfl, rfl, by decide +kernel, rfl, by decide +kernel, by decide +kernel⟩
theorem ok_ri {f1 : Addr} {fd1 : FuncData} (t : Mx K "__init__" "Rule.__init__" sRI ["self", "many"] f fd) (T : T K mg AL RU NE fE fH rR rN iR iN fL fN SE NG NN NO NR NL NS NT NX NV TM UL) (D_check_many : Df P w K mg base (CX1 P w) 3 "check_many" ["many"] (spChM K NL) f1 fd1) :
    Md P w K mg base 4 ["self", "many"] (spRI K NL) f := by
  refine t.md1 scRI (fun vs H Q E h => ?_) (fun cdv A outer s H vs Q E hr h => ?_)
  · obtain ⟨x, C, dx, v, rfl, _⟩ := h
    rfl
  · obtain ⟨x, C, dx, v, rfl, hx, c, n, pl, k0, k⟩ := h
    refine ⟨_, (pss_cons (ps_expr (pe_d1 rais_def.toPass D_check_many hr (by decide) (by rfl) (pa_cons (pv 1) pa_nil)))
      (pss_one (ps_fld (pv 0) (pv 1) rfl))), ?_⟩
    refine ⟨_, rfl, v, rfl, pl, ?_⟩
    cases e : inB 1 6 v with
    | false => rw [if_neg Bool.false_ne_true]; exact k0 e
    | true =>
      rw [if_pos rfl]
      exact ⟨_, rfl, _, rfl, x, C, dx, [], rfl, hx, c, n, by decide, k e⟩
/-! ### Rule.hands -/
def spHs (K : PySem.W.Frag) : Sp := fun vs H Q _ => ∃ (a C dx : Addr) (fs : List (Str × V)) (v : V), vs = [.ref a] ∧ H a = some (.ins C dx fs) ∧ Cls K C ∧ NoAttr K C "many" ∧ fs.lookup ("many" : Str) = some v ∧ Q v H
theorem scHs : FnScope ["self"] ["self"] (defScope sHs) := ⟨rfl, rfl, rfl, by decide +kernel, rfl, by decide +kernel, by decide +kernel⟩
theorem ok_hs (t : Mx K "hands" "Rule.hands" sHs ["self"] f fd) : Md P w K mg base 1 ["self"] (spHs K) f := by
  refine t.md0 scHs (fun vs H Q E h => ?_) (fun cdv A outer s H vs Q E hr h => ?_)
  · obtain ⟨a, C, dx, fs, v, rfl, _⟩ := h
    rfl
  · obtain ⟨a, C, dx, fs, v, rfl, ha, c, n, hl, k⟩ := h
    refine ⟨_, (pss_one (ps_ret (pe_fld (pv 0) rfl))), ?_⟩
    exact ⟨_, rfl, a, C, dx, fs, v, rfl, ha, c, n, hl, k⟩
/-! ### Rule.reckon -/
def spRR : Sp := fun vs H Q _ => ∃ u v, vs = [u, v] ∧ Q (.int 0) H
/-! ### Rule.earn -/
def spErn (P : Program) (w : World) (K : PySem.W.Frag) (mg : Str → Option Value) (base : Heap) (fE fH RU NG : Addr) : Sp := fun vs H Q E => ∃ (a : Addr) (m : Nat) (e : Nat → Int) (v : V), vs = [.ref a, v] ∧ RObj P w K mg base fE fH RU H a m e ∧ Pl K H v ∧
  (inB 0 (2 ^ m - 1) v = false → ∀ H', Same H H' → E (.ref NG) none H') ∧ ∀ (g : Nat), v = .int (g : Int) → g < 2 ^ m → ∀ H', Same H H' → Q (.int (e g)) H'
theorem scErn : FnScope ["self", "group"] ["self", "group"] (defScope sErn) := ⟨rfl, rfl, rfl, by decide +kernel, rfl, by decide +kernel, by decide +kernel⟩
theorem ok_ern {f1 : Addr} {fd1 : FuncData} (t : Mx K "earn" "Rule.earn" sErn ["self", "group"] f fd) (T : T K mg AL RU NE fE fH rR rN iR iN fL fN SE NG NN NO NR NL NS NT NX NV TM UL) (D_check_group : Df P w K mg base (CX1 P w) 3 "check_group" ["group", "many"] (spChk K NG) f1 fd1) :
    Md P w K mg base 7 ["self", "group"] (spErn P w K mg base fE fH RU NG) f := by
  refine t.md1 scErn (fun vs H Q E h => ?_) (fun cdv A outer s H vs Q E hr h => ?_)
  · obtain ⟨a, m, e, v, rfl, _⟩ := h
    rfl
  · obtain ⟨a, m, e, v, rfl, ro, pl, k0, k⟩ := h
    refine ⟨_, (pss_cons (ps_expr (pe_d1 rais_def.toPass D_check_group hr (by decide) (by rfl) (pa_cons (pv 1) (pa_cons (pe_fld (pv 0) rfl) pa_nil))))
      (pss_one (ps_ret (pe_methX (k := 6) rais_def.toPass (pv 0) hr (by decide) (pa_cons (pv 1) pa_nil))))), ?_⟩
    obtain ⟨C, dx, g, fs, h1, h2, h3, h4, h5, h6, ps, h7⟩ := ro
    refine ⟨_, rfl, _, rfl, a, C, dx, fs, _, rfl, h1, h2.oc.cl, h2.nm, h3, v, m, rfl, h5, pl, k0, fun yes H1 s1 => ?_⟩
    obtain ⟨gr, rfl, hg⟩ := inB_natM yes
    refine ⟨_, rfl, a, C, dx, fs, g, _, rfl, s1 _ _ h1, h6.2.2, h2.oc.cl, h2.mr, ⟨ps, h7⟩, ?_⟩
    exact ⟨_, rfl, gr, rfl, hg, s1, fun H3 s3 => k gr rfl hg H3 (s1.trans s3)⟩
theorem alone_at {i : Int} (h0 : 0 ≤ i) (h5 : i ≤ 5) : atI (aloneL.map V.int) i = some (.int (alone i.toNat)) := by
  have h : i.toNat < 6 := by omega
  have all : ∀ j : _root_.Fin 6, (aloneL.map V.int)[j.1]? = some (.int (alone j.1)) := by decide
  have z := atI_nat (all ⟨i.toNat, h⟩)
  rw [show (((⟨i.toNat, h⟩ : _root_.Fin 6).1 : Nat) : Int) = i from Int.toNat_of_nonneg h0] at z
  exact z
/-- pairs of two hands of six and a number -/
def PairT (H : Hp) (b : Addr) : Prop := ∃ (i j : Nat) (n : Int), H b = some (.tup [.int (i : Int), .int (j : Int), .int n]) ∧ i < 6 ∧ j < 6
def PsOk (m : Nat) (H : Hp) (bs : List Addr) : Prop := (∀ b ∈ bs, ∃ (u v : Nat) (n : Int), H b = some (.tup [.int (u : Int), .int (v : Int), .int n]) ∧ u < v ∧ v < m) ∧ (bs.map fun b => keyP (tupV H b)).Nodup ∧ bs.length ≤ 15
theorem PsOk.same {m : Nat} {H H' : Hp} {bs : List Addr} (h : PsOk m H bs) (s : ∀ b ∈ bs, ∀ o, H b = some o → H' b = some o) : PsOk m H' bs := by
  refine ⟨fun b hb => ?_, ?_, h.2.2⟩
  · obtain ⟨u, v, n, e, z⟩ := h.1 b hb
    exact ⟨u, v, n, s b hb _ e, z⟩
  · have e : (bs.map fun b => keyP (tupV H' b)) = bs.map fun b => keyP (tupV H b) := List.map_congr_left fun b hb => by
      obtain ⟨u, v, n, e, _⟩ := h.1 b hb
      rw [tupV_at e, tupV_at (s b hb _ e)]
    rw [e]
    exact h.2.1
theorem PsOk.of_perm {m : Nat} {H : Hp} {bs cs : List Addr} (h : PsOk m H bs) (p : cs.Perm bs) : PsOk m H cs :=
  ⟨fun b hb => h.1 b (p.mem_iff.mp hb), ((p.map _).nodup_iff).mpr h.2.1, by rw [p.length_eq]; exact h.2.2⟩
theorem okFrom_of {m : Int} : ∀ {xss : List (List V)} {seen : List (Int × Int)}, (∀ xs ∈ xss, okP m xs = true) → (xss.map keyP).Nodup → (∀ k ∈ xss.map keyP, seen.contains k = false) → okFrom m seen xss = true
  | [], _, _, _, _ => rfl
  | xs :: r, seen, h, hn, hs => by
    show (okP m xs && !(seen.contains (keyP xs)) && okFrom m (seen ++ [keyP xs]) r) = true
    rw [List.map_cons, List.nodup_cons] at hn
    have ih : okFrom m (seen ++ [keyP xs]) r = true := okFrom_of (fun x hx => h x (List.mem_cons_of_mem _ hx)) hn.2 fun k hk => by
      have a := hs k (by rw [List.map_cons]; exact List.mem_cons_of_mem _ hk)
      have ne : k ≠ keyP xs := fun z => hn.1 (z ▸ hk)
      rw [Bool.eq_false_iff] at a ⊢
      intro z
      rw [List.contains_iff_mem, List.mem_append] at z
      rcases z with z | z
      · exact a (List.contains_iff_mem.mpr z)
      · exact ne (by simpa using z)
    rw [h xs (by simp), hs (keyP xs) (by simp), ih]
    rfl
theorem PsOk.ok {m : Nat} {H : Hp} {bs : List Addr} (h : PsOk m H bs) : okPs (m : Int) (bs.map (tupV H)) = true := by
  refine okFrom_of (fun xs hx => ?_) (by rw [List.map_map]; exact h.2.1) (fun k _ => rfl)
  obtain ⟨b, hb, rfl⟩ := List.mem_map.mp hx
  obtain ⟨u, v, n, e, z1, z2⟩ := h.1 b hb
  rw [tupV_at e]
  show (decide ((0 : Int) ≤ u) && decide ((u : Int) < v) && decide ((v : Int) < m)) = true
  rw [decide_eq_true (by omega), decide_eq_true (by omega), decide_eq_true (by omega)]
  rfl
theorem PsOk.tups {K : PySem.W.Frag} {m : Nat} {H : Hp} {bs : List Addr} (h : PsOk m H bs) : Tups K H bs := fun b hb => by
  obtain ⟨u, v, n, e, _⟩ := h.1 b hb
  refine ⟨_, e, fun x hx => ?_, by show 3 ≤ 1000; decide⟩
  simp only [List.mem_cons, List.not_mem_nil, or_false] at hx
  rcases hx with rfl | rfl | rfl
  · exact .int _
  · exact .int _
  · exact .int _
abbrev P3 := Nat × Nat × Int
def bitD (g i : Nat) : Bool := decide (g / 2 ^ i % 2 = 1)
def Pw (m : Nat) (ps : List P3) : Prop := (∀ p ∈ ps, p.1 < p.2.1 ∧ p.2.1 < m) ∧ (ps.map fun p => (p.1, p.2.1)).Nodup
def numP (qs : List P3) (i j : Nat) : Option Int := (qs.find? fun p => decide (p.1 = i ∧ p.2.1 = j)).map (·.2.2)
theorem numP_mem {qs : List P3} {i j : Nat} {n : Int} (h : numP qs i j = some n) : (i, j, n) ∈ qs := by
  unfold numP at h
  cases e : qs.find? fun p => decide (p.1 = i ∧ p.2.1 = j) with
  | none => rw [e] at h; cases h
  | some p =>
    rw [e] at h
    obtain ⟨a, b, c⟩ := p
    have h : some c = some n := h
    have z := of_decide_eq_true (List.find?_some (p := fun p : P3 => decide (p.1 = i ∧ p.2.1 = j)) e)
    have z1 : a = i := z.1
    have z2 : b = j := z.2
    rw [← z1, ← z2, ← Option.some.inj h]
    exact List.mem_of_find?_eq_some e
theorem mem_numP {qs : List P3} {i j : Nat} {n : Int} (hn : (qs.map fun p => (p.1, p.2.1)).Nodup) (h : (i, j, n) ∈ qs) : numP qs i j = some n := by
  induction qs with
  | nil => cases h
  | cons p r ih =>
    rw [List.map_cons, List.nodup_cons] at hn
    unfold numP
    rcases List.mem_cons.mp h with e | h'
    · subst e
      rw [List.find?_cons_of_pos (by simp)]
      rfl
    · have ne : ¬ (decide (p.1 = i ∧ p.2.1 = j) = true) := by
        rw [decide_eq_true_iff]
        rintro ⟨rfl, rfl⟩
        exact hn.1 (List.mem_map.mpr ⟨_, h', rfl⟩)
      rw [List.find?_cons_of_neg (p := fun p : P3 => decide (p.1 = i ∧ p.2.1 = j)) ne]
      exact ih hn.2 h'
theorem hands_mem : ∀ (g : _root_.Fin 64) (i : _root_.Fin 6), (i.1 : Int) ∈ hands g.1 ↔ bitD g.1 i.1 = true := by decide +kernel

/-! ### the arithmetic of nets -/
/-- the ends of a rope: a hand's rope to the well has the hand twice, the well is 6 -/
def ea (r : P3) : Nat := r.1
def eb (r : P3) : Nat := if r.1 = r.2.1 then 6 else r.2.1
def emask (r : P3) : Nat := 2 ^ ea r + 2 ^ eb r
def RopeOk (r : P3) : Prop := r.1 ≤ r.2.1 ∧ r.2.1 < 6
def inG (G : Nat) (r : P3) : Bool := bitD G (ea r) && bitD G (eb r)
/-- both ends in G, one of them in J -/
def jn (J G : Nat) (r : P3) : Bool := inG G r && (bitD J (ea r) != bitD J (eb r))
theorem RopeOk.lt {r : P3} (h : RopeOk r) : ea r < 6 ∧ eb r < 7 ∧ ea r ≠ eb r := by
  obtain ⟨h1, h2⟩ := h
  unfold ea eb
  split <;> omega
theorem or_dec : ∀ (J : _root_.Fin 128) (a b k : _root_.Fin 7), bitD (J.1 ||| (2 ^ a.1 + 2 ^ b.1)) k.1 = (bitD J.1 k.1 || decide (k.1 = a.1) || decide (k.1 = b.1)) ∨ a.1 = b.1 := by decide +kernel
theorem or_lt : ∀ (J : _root_.Fin 128) (a b : _root_.Fin 7), J.1 ||| (2 ^ a.1 + 2 ^ b.1) < 128 ∨ a.1 = b.1 := by decide +kernel
theorem or_bit {J k : Nat} {r : P3} (hJ : J < 128) (h : RopeOk r) (hk : k < 7) : bitD (J ||| emask r) k = (bitD J k || decide (k = ea r) || decide (k = eb r)) := by
  obtain ⟨h1, h2, h3⟩ := h.lt
  exact (or_dec ⟨J, hJ⟩ ⟨ea r, by omega⟩ ⟨eb r, h2⟩ ⟨k, hk⟩).resolve_right h3
theorem or_128 {J : Nat} {r : P3} (hJ : J < 128) (h : RopeOk r) : J ||| emask r < 128 := by
  obtain ⟨h1, h2, h3⟩ := h.lt
  exact (or_lt ⟨J, hJ⟩ ⟨ea r, by omega⟩ ⟨eb r, h2⟩).resolve_right h3
def card (J : Nat) : Nat := ((List.range 7).filter (bitD J)).length
theorem card_dec : ∀ (J : _root_.Fin 128) (a b : _root_.Fin 7), (bitD J.1 a.1 != bitD J.1 b.1) = true → card (J.1 ||| (2 ^ a.1 + 2 ^ b.1)) = card J.1 + 1 := by decide +kernel
theorem card_or {J : Nat} {r : P3} (hJ : J < 128) (h : RopeOk r) (hj : (bitD J (ea r) != bitD J (eb r)) = true) : card (J ||| emask r) = card J + 1 := by
  obtain ⟨h1, h2, h3⟩ := h.lt
  exact card_dec ⟨J, hJ⟩ ⟨ea r, by omega⟩ ⟨eb r, h2⟩ hj
theorem card_hands : ∀ g : _root_.Fin 64, card (g.1 + 64) = (hands g.1).length + 1 := by decide +kernel
/-- the first of the least ones -/
def IsMin (xs : List P3) (r : P3) : Prop := ∃ i, xs[i]? = some r ∧ ∀ (j : Nat) (y : P3), xs[j]? = some y → r.2.2 ≤ y.2.2 ∧ (j < i → r.2.2 < y.2.2)
theorem IsMin.uniq {xs : List P3} {r r' : P3} (h : IsMin xs r) (h' : IsMin xs r') : r = r' := by
  obtain ⟨i, hi, h1⟩ := h
  obtain ⟨i', hi', h2⟩ := h'
  have a := h1 i' r' hi'
  have b := h2 i r hi
  have e : i = i' := by
    rcases Nat.lt_trichotomy i i' with z | z | z
    · have := b.2 z; have := a.1; omega
    · exact z
    · have := a.2 z; have := b.1; omega
  subst e
  exact Option.some.inj (hi.symm.trans hi')
theorem IsMin.mem {xs : List P3} {r : P3} (h : IsMin xs r) : r ∈ xs := let ⟨_, hi, _⟩ := h; List.mem_of_getElem? hi
theorem IsMin.le {xs : List P3} {r y : P3} (h : IsMin xs r) (hy : y ∈ xs) : r.2.2 ≤ y.2.2 := by
  obtain ⟨i, _, h1⟩ := h
  obtain ⟨j, hj⟩ := List.getElem?_of_mem hy
  exact (h1 j y hj).1
/-- ropes laid one after another, each the first least one that joins on -/
inductive Run (rs : List P3) (G : Nat) : Nat → List P3 → Prop
  | stop : Run rs G G []
  | step {J : Nat} {r : P3} {l : List P3} : J ≠ G → IsMin (rs.filter (jn J G)) r → Run rs G (J ||| emask r) l → Run rs G J (r :: l)
theorem Run.uniq {rs : List P3} {G J : Nat} {l l' : List P3} (h : Run rs G J l) (h' : Run rs G J l') : l = l' := by
  induction h generalizing l' with
  | stop =>
    cases h' with
    | stop => rfl
    | step ne _ _ => exact absurd rfl ne
  | step ne m _ ih =>
    cases h' with
    | stop => exact absurd rfl ne
    | step _ m' r' =>
      have e := m.uniq m'
      subst e
      rw [ih r']
theorem jn_of {J G : Nat} {rs : List P3} {r : P3} (h : IsMin (rs.filter (jn J G)) r) : r ∈ rs ∧ inG G r = true ∧ (bitD J (ea r) != bitD J (eb r)) = true := by
  have m := List.mem_filter.mp h.mem
  have z : (inG G r && (bitD J (ea r) != bitD J (eb r))) = true := m.2
  rw [Bool.and_eq_true] at z
  exact ⟨m.1, z.1, z.2⟩
/-- what a run lays: ropes of the ground, none of them twice -/
theorem Run.facts {rs : List P3} {G J : Nat} {l : List P3} (ok : ∀ r ∈ rs, RopeOk r) (h : Run rs G J l) (hJ : J < 128) : (∀ r ∈ l, r ∈ rs ∧ inG G r = true) ∧ (∀ r ∈ l, ¬ (bitD J (ea r) = true ∧ bitD J (eb r) = true)) ∧ (l.map fun r => (r.1, r.2.1)).Nodup ∧ l.length + card J = card G := by
  induction h with
  | stop => exact ⟨fun _ h => (List.not_mem_nil h).elim, fun _ h => (List.not_mem_nil h).elim, List.nodup_nil, by simp⟩
  | @step J r l ne m h ih =>
    obtain ⟨hr, hg, hj⟩ := jn_of m
    have o := ok r hr
    obtain ⟨o1, o2, o3⟩ := o.lt
    obtain ⟨i1, i2, i3, i4⟩ := ih (or_128 hJ o)
    have up : ∀ k, k < 7 → bitD J k = true → bitD (J ||| emask r) k = true := fun k hk z => by rw [or_bit hJ o hk, z]; rfl
    have both : bitD (J ||| emask r) (ea r) = true ∧ bitD (J ||| emask r) (eb r) = true := ⟨by rw [or_bit hJ o (by omega)]; simp, by rw [or_bit hJ o o2]; simp⟩
    refine ⟨fun r' hr' => ?_, fun r' hr' z => ?_, ?_, ?_⟩
    · rcases List.mem_cons.mp hr' with rfl | hr'
      · exact ⟨hr, hg⟩
      · exact i1 r' hr'
    · rcases List.mem_cons.mp hr' with rfl | hr'
      · rw [z.1, z.2] at hj
        exact absurd hj (by decide)
      · obtain ⟨p1, p2, _⟩ := (ok r' (i1 r' hr').1).lt
        exact i2 r' hr' ⟨up _ (by omega) z.1, up _ p2 z.2⟩
    · rw [List.map_cons, List.nodup_cons]
      refine ⟨fun z => ?_, i3⟩
      obtain ⟨r', hr', e⟩ := List.mem_map.mp z
      have e1 : r'.1 = r.1 := (Prod.mk.inj e).1
      have e2 : r'.2.1 = r.2.1 := (Prod.mk.inj e).2
      have f1 : ea r' = ea r := e1
      have f2 : eb r' = eb r := by unfold eb; rw [e1, e2]
      exact i2 r' hr' (by rw [f1, f2]; exact both)
    · rw [List.length_cons]
      have := card_or hJ o hj
      omega
/-- joined by ropes of a kind -/
inductive Cn (R : P3 → Prop) : Nat → Nat → Prop
  | refl (a : Nat) : Cn R a a
  | fw {a : Nat} {r : P3} : R r → Cn R a (ea r) → Cn R a (eb r)
  | bw {a : Nat} {r : P3} : R r → Cn R a (eb r) → Cn R a (ea r)
theorem Cn.trans {R : P3 → Prop} {a b c : Nat} (h : Cn R a b) (h' : Cn R b c) : Cn R a c := by
  induction h' with
  | refl => exact h
  | fw r _ ih => exact .fw r ih
  | bw r _ ih => exact .bw r ih
theorem Cn.symm {R : P3 → Prop} {a b : Nat} (h : Cn R a b) : Cn R b a := by
  induction h with
  | refl => exact .refl _
  | fw r _ ih => exact (Cn.bw r (.refl _)).trans ih
  | bw r _ ih => exact (Cn.fw r (.refl _)).trans ih
theorem Cn.mono {R S : P3 → Prop} (f : ∀ r, R r → S r) {a b : Nat} (h : Cn R a b) : Cn S a b := by
  induction h with
  | refl => exact .refl _
  | fw r _ ih => exact .fw (f _ r) ih
  | bw r _ ih => exact .bw (f _ r) ih
/-- a way out of a set crosses its border -/
theorem Cn.cross {R : P3 → Prop} {a b J : Nat} (h : Cn R a b) (hb : bitD J a ≠ bitD J b) : ∃ r, R r ∧ (bitD J (ea r) != bitD J (eb r)) = true := by
  induction h with
  | refl => exact absurd rfl hb
  | @fw r hr h ih =>
    by_cases e : bitD J (ea r) = bitD J (eb r)
    · exact ih (by rw [e]; exact hb)
    · exact ⟨r, hr, by simpa using e⟩
  | @bw r hr h ih =>
    by_cases e : bitD J (ea r) = bitD J (eb r)
    · exact ih (by rw [← e]; exact hb)
    · exact ⟨r, hr, by simpa using e⟩
/-- within what is joined: whatever ropes of the ground join by costs up to c, the laid ones do -/
def Bn (rs : List P3) (G J : Nat) (L : List P3) : Prop := ∀ (c : Int) (a b : Nat), a < 7 → b < 7 → bitD J a = true → bitD J b = true → Cn (fun r => r ∈ rs ∧ inG G r = true ∧ r.2.2 ≤ c) a b → Cn (fun r => r ∈ L ∧ r.2.2 ≤ c) a b
theorem Bn.step {rs : List P3} {G J : Nat} {L : List P3} {r : P3} (ok : ∀ r ∈ rs, RopeOk r) (h : Bn rs G J L) (hJ : J < 128) (m : IsMin (rs.filter (jn J G)) r) : Bn rs G (J ||| emask r) (L ++ [r]) := by
  obtain ⟨hr, hg, hj⟩ := jn_of m
  have o := ok r hr
  obtain ⟨o1, o2, o3⟩ := o.lt
  have old : ∀ c a b, a < 7 → b < 7 → bitD J a = true → bitD J b = true → Cn (fun r => r ∈ rs ∧ inG G r = true ∧ r.2.2 ≤ c) a b → Cn (fun r' => r' ∈ L ++ [r] ∧ r'.2.2 ≤ c) a b := fun c a b ha hb h1 h2 z =>
    (h c a b ha hb h1 h2 z).mono fun r' q => ⟨List.mem_append_left _ q.1, q.2⟩
  -- p the end within, w the one without
  obtain ⟨p, w, hp7, hw7, hp, hw, hw', join⟩ : ∃ p w, p < 7 ∧ w < 7 ∧ bitD J p = true ∧ bitD J w = false ∧ (∀ k, k < 7 → bitD (J ||| emask r) k = true → bitD J k = true ∨ k = w) ∧ ∀ (R : P3 → Prop), R r → Cn R p w := by
    cases e1 : bitD J (ea r) with
    | true =>
      have e2 : bitD J (eb r) = false := by
        cases e2 : bitD J (eb r) with
        | true => rw [e1, e2] at hj; exact absurd hj (by decide)
        | false => rfl
      refine ⟨ea r, eb r, by omega, o2, e1, e2, fun k hk z => ?_, fun R hR => .fw hR (.refl _)⟩
      rw [or_bit hJ o hk, Bool.or_eq_true, Bool.or_eq_true] at z
      rcases z with (z | z) | z
      · exact .inl z
      · have := of_decide_eq_true z; subst this; exact .inl e1
      · exact .inr (of_decide_eq_true z)
    | false =>
      have e2 : bitD J (eb r) = true := by
        cases e2 : bitD J (eb r) with
        | false => rw [e1, e2] at hj; exact absurd hj (by decide)
        | true => rfl
      refine ⟨eb r, ea r, o2, by omega, e2, e1, fun k hk z => ?_, fun R hR => .bw hR (.refl _)⟩
      rw [or_bit hJ o hk, Bool.or_eq_true, Bool.or_eq_true] at z
      rcases z with (z | z) | z
      · exact .inl z
      · exact .inr (of_decide_eq_true z)
      · have := of_decide_eq_true z; subst this; exact .inl e2
  -- from w to b within J
  have new : ∀ c b, b < 7 → bitD J b = true → Cn (fun r => r ∈ rs ∧ inG G r = true ∧ r.2.2 ≤ c) w b → Cn (fun r' => r' ∈ L ++ [r] ∧ r'.2.2 ≤ c) w b := fun c b hb h2 z => by
    obtain ⟨r', ⟨q1, q2, q3⟩, q4⟩ := z.cross (J := J) (by rw [hw, h2]; decide)
    have q5 : r' ∈ rs.filter (jn J G) := List.mem_filter.mpr ⟨q1, by unfold jn; rw [q2, q4]; rfl⟩
    have le := m.le q5
    have rc : r.2.2 ≤ c := by omega
    have y := old c p b hp7 hb hp h2 ((join _ ⟨hr, hg, rc⟩).trans z)
    exact (join (fun r' => r' ∈ L ++ [r] ∧ r'.2.2 ≤ c) ⟨List.mem_append_right _ (List.mem_singleton.mpr rfl), rc⟩).symm.trans y
  intro c a b ha hb h1 h2 z
  rcases hw' a ha h1 with a1 | a1
  · rcases hw' b hb h2 with b1 | b1
    · exact old c a b ha hb a1 b1 z
    · subst b1
      exact (new c a ha a1 z.symm).symm
  · subst a1
    rcases hw' b hb h2 with b1 | b1
    · exact new c b hb b1 z
    · subst b1
      exact .refl _
theorem Run.bn {rs : List P3} {G J : Nat} {l : List P3} (ok : ∀ r ∈ rs, RopeOk r) (h : Run rs G J l) : ∀ L, J < 128 → Bn rs G J L → Bn rs G G (L ++ l) := by
  induction h with
  | stop => intro L _ b; rw [List.append_nil]; exact b
  | @step J r l ne m h ih =>
    intro L hJ b
    have o := ok r (jn_of m).1
    have z := ih (L ++ [r]) (or_128 hJ o) (b.step ok hJ m)
    rw [List.append_assoc] at z
    exact z
theorem well_bit : ∀ k : _root_.Fin 7, bitD 64 k.1 = true → k.1 = 6 := by decide
theorem bn_well (rs : List P3) (G : Nat) : Bn rs G 64 [] := fun c a b ha hb h1 h2 _ => by
  have e1 : a = 6 := well_bit ⟨a, ha⟩ h1
  have e2 : b = 6 := well_bit ⟨b, hb⟩ h2
  rw [e1, e2]
  exact .refl _
/-- all of what is joined is joined to the well -/
theorem Run.well {rs : List P3} {G J : Nat} {l : List P3} (ok : ∀ r ∈ rs, RopeOk r) (h : Run rs G J l) : ∀ L, J < 128 → (∀ k, k < 7 → bitD J k = true → Cn (fun r => r ∈ L) 6 k) → ∀ k, k < 7 → bitD G k = true → Cn (fun r => r ∈ L ++ l) 6 k := by
  induction h with
  | stop => intro L _ b; rw [List.append_nil]; exact b
  | @step J r l ne m h ih =>
    intro L hJ b
    obtain ⟨hr, hg, hj⟩ := jn_of m
    have o := ok r hr
    obtain ⟨o1, o2, o3⟩ := o.lt
    have z := ih (L ++ [r]) (or_128 hJ o) fun k hk q => by
      have old : ∀ k, k < 7 → bitD J k = true → Cn (fun r' => r' ∈ L ++ [r]) 6 k := fun k hk y => (b k hk y).mono fun r' q => List.mem_append_left _ q
      have hm : r ∈ L ++ [r] := List.mem_append_right _ (List.mem_singleton.mpr rfl)
      rw [or_bit hJ o hk, Bool.or_eq_true, Bool.or_eq_true] at q
      rcases q with (q | q) | q
      · exact old k hk q
      · have e := of_decide_eq_true q
        subst e
        cases e1 : bitD J (ea r) with
        | true => exact old _ (by omega) e1
        | false =>
          have e2 : bitD J (eb r) = true := by
            cases e2 : bitD J (eb r) with
            | false => rw [e1, e2] at hj; exact absurd hj (by decide)
            | true => rfl
          exact .bw hm (old _ o2 e2)
      · have e := of_decide_eq_true q
        subst e
        cases e2 : bitD J (eb r) with
        | true => exact old _ o2 e2
        | false =>
          have e1 : bitD J (ea r) = true := by
            cases e1 : bitD J (ea r) with
            | false => rw [e1, e2] at hj; exact absurd hj (by decide)
            | true => rfl
          exact .fw hm (old _ (by omega) e1)
    rw [List.append_assoc] at z
    exact z
/-- the net of a group -/
theorem net_facts {rs : List P3} {g : Nat} {l : List P3} (ok : ∀ r ∈ rs, RopeOk r) (hg : g < 64) (h : Run rs (g + 64) 64 l) :
    (∀ r ∈ l, r ∈ rs ∧ inG (g + 64) r = true) ∧ (l.map fun r => (r.1, r.2.1)).Nodup ∧ l.length = (hands g).length ∧ (∀ k, k < 7 → bitD (g + 64) k = true → Cn (fun r => r ∈ l) 6 k) ∧
    ∀ r ∈ rs, inG (g + 64) r = true → Cn (fun r' => r' ∈ l ∧ r'.2.2 ≤ r.2.2) (ea r) (eb r) := by
  obtain ⟨f1, f2, f3, f4⟩ := h.facts ok (by decide)
  have c1 := card_hands ⟨g, hg⟩
  have c1 : card (g + 64) = (hands g).length + 1 := c1
  have c2 : card 64 = 1 := by decide
  have w := h.well ok [] (by decide) fun k hk q => by
    have e : k = 6 := well_bit ⟨k, hk⟩ q
    rw [e]
    exact .refl _
  have b := h.bn ok [] (by decide) (bn_well rs _)
  rw [List.nil_append] at w b
  refine ⟨f1, f3, by omega, w, fun r hr hi => ?_⟩
  have o := ok r hr
  obtain ⟨o1, o2, o3⟩ := o.lt
  have i2 := hi
  unfold inG at i2
  rw [Bool.and_eq_true] at i2
  exact b r.2.2 (ea r) (eb r) (by omega) o2 i2.1 i2.2 (.fw ⟨hr, hi, Int.le_refl _⟩ (.refl _))
inductive A2 {α : Type} (R : Addr → α → Prop) : List Addr → List α → Prop
  | nil : A2 R [] []
  | cons {a : Addr} {x : α} {as : List Addr} {xs : List α} : R a x → A2 R as xs → A2 R (a :: as) (x :: xs)
theorem A2.len {α : Type} {R : Addr → α → Prop} {as : List Addr} {xs : List α} (h : A2 R as xs) : as.length = xs.length := by
  induction h with
  | nil => rfl
  | cons _ _ ih => rw [List.length_cons, List.length_cons, ih]
theorem A2.imp {α : Type} {R S : Addr → α → Prop} {as : List Addr} {xs : List α} (h : A2 R as xs) (f : ∀ a x, R a x → S a x) : A2 S as xs := by
  induction h with
  | nil => exact .nil
  | cons r _ ih => exact .cons (f _ _ r) ih
theorem A2.at {α : Type} {R : Addr → α → Prop} {as : List Addr} {xs : List α} (h : A2 R as xs) : ∀ {i : Nat} {a : Addr}, as[i]? = some a → ∃ x, xs[i]? = some x ∧ R a x := by
  induction h with
  | nil => intro i a e; simp at e
  | cons r _ ih =>
    intro i b e
    cases i with
    | zero => simp only [List.getElem?_cons_zero, Option.some.injEq] at e; subst e; exact ⟨_, rfl, r⟩
    | succ i => rw [List.getElem?_cons_succ] at e; exact ih e
theorem A2.snoc {α : Type} {R : Addr → α → Prop} {as : List Addr} {xs : List α} {a : Addr} {x : α} (h : A2 R as xs) (r : R a x) : A2 R (as ++ [a]) (xs ++ [x]) := by
  induction h with
  | nil => exact .cons r .nil
  | cons r' _ ih => exact .cons r' ih
def PAt (H : Hp) (b : Addr) (p : P3) : Prop := H b = some (.tup [.int (p.1 : Int), .int (p.2.1 : Int), .int p.2.2])
def DAt (H : Hp) (b : Addr) (d : Nat × Nat) : Prop := H b = some (.tup [.int (d.1 : Int), .int (d.2 : Int)])
theorem PAt.keep {H H' : Hp} {b : Addr} {p : P3} (h : PAt H b p) (s : SameT H H') : PAt H' b p := s _ _ h
theorem DAt.keep {H H' : Hp} {b : Addr} {p : Nat × Nat} (h : DAt H b p) (s : SameT H H') : DAt H' b p := s _ _ h
theorem PsOk.list {m : Nat} {H : Hp} : ∀ {bs : List Addr}, (∀ b ∈ bs, ∃ (u v : Nat) (n : Int), H b = some (.tup [.int (u : Int), .int (v : Int), .int n]) ∧ u < v ∧ v < m) → ∃ ps, A2 (PAt H) bs ps ∧ (∀ p ∈ ps, p.1 < p.2.1 ∧ p.2.1 < m) ∧ (bs.map fun b => keyP (tupV H b)) = ps.map fun p => ((p.1 : Int), (p.2.1 : Int))
  | [], _ => ⟨[], .nil, fun _ h => (List.not_mem_nil h).elim, rfl⟩
  | b :: bs, h => by
    obtain ⟨ps, h1, h2, h3⟩ := PsOk.list (bs := bs) fun c hc => h c (List.mem_cons_of_mem _ hc)
    obtain ⟨u, v, n, e, z⟩ := h b (by simp)
    refine ⟨(u, v, n) :: ps, .cons e h1, fun p hp => ?_, ?_⟩
    · rcases List.mem_cons.mp hp with rfl | hp
      · exact z
      · exact h2 p hp
    · rw [List.map_cons, List.map_cons, h3, tupV_at e]
      rfl
theorem PsOk.pw {m : Nat} {H : Hp} {bs : List Addr} (h : PsOk m H bs) : ∃ ps, A2 (PAt H) bs ps ∧ Pw m ps := by
  obtain ⟨ps, h1, h2, h3⟩ := PsOk.list h.1
  refine ⟨ps, h1, h2, ?_⟩
  have nd := h.2.1
  rw [h3] at nd
  have e : (ps.map fun p => ((p.1 : Int), (p.2.1 : Int))) = (ps.map fun p => (p.1, p.2.1)).map fun q => ((q.1 : Int), (q.2 : Int)) := by rw [List.map_map]; rfl
  rw [e] at nd
  refine List.Pairwise.of_map _ (fun a b ne => ?_) nd
  rintro rfl
  exact ne rfl
theorem at_of {as : List Addr} {i : Nat} {x : V} (h : (as.map V.ref)[i]? = some x) : ∃ a, as[i]? = some a ∧ x = .ref a := by
  rw [List.getElem?_map] at h
  cases e : as[i]? with
  | none => rw [e] at h; cases h
  | some y => rw [e] at h; exact ⟨y, rfl, (Option.some.inj h).symm⟩
theorem alone_pow : ∀ i : _root_.Fin 6, alone i.1 = ((2 ^ i.1 : Nat) : Int) := by decide
theorem alone_at2 {i : Nat} (h : i < 6) : atI (aloneL.map V.int) (i : Int) = some (.int ((2 ^ i : Nat) : Int)) := by
  have z := alone_at (i := (i : Int)) (by omega) (by omega)
  rw [Int.toNat_natCast, alone_pow ⟨i, h⟩] at z
  exact z
theorem A2.mem {α : Type} {R : Addr → α → Prop} {as : List Addr} {xs : List α} (h : A2 R as xs) : (∀ a ∈ as, ∃ x ∈ xs, R a x) ∧ ∀ x ∈ xs, ∃ a ∈ as, R a x := by
  induction h with
  | nil => exact ⟨fun _ h => (List.not_mem_nil h).elim, fun _ h => (List.not_mem_nil h).elim⟩
  | cons r _ ih =>
    refine ⟨fun a ha => ?_, fun x hx => ?_⟩
    · rcases List.mem_cons.mp ha with rfl | ha
      · exact ⟨_, by simp, r⟩
      · obtain ⟨x, hx, e⟩ := ih.1 a ha
        exact ⟨x, List.mem_cons_of_mem _ hx, e⟩
    · rcases List.mem_cons.mp hx with rfl | hx
      · exact ⟨_, by simp, r⟩
      · obtain ⟨a, ha, e⟩ := ih.2 x hx
        exact ⟨a, List.mem_cons_of_mem _ ha, e⟩
theorem PAt.eq {H : Hp} {b : Addr} {p p' : P3} (h : PAt H b p) (h' : PAt H b p') : p = p' := by
  obtain ⟨u, v, n⟩ := p
  obtain ⟨u', v', n'⟩ := p'
  have z : some (HO.tup [.int (u : Int), .int (v : Int), .int n]) = some (HO.tup [.int (u' : Int), .int (v' : Int), .int n']) := h.symm.trans h'
  have z := HO.tup.inj (Option.some.inj z)
  simp only [List.cons.injEq, V.int.injEq, and_true] at z
  obtain ⟨z1, z2, z3⟩ := z
  rw [show u = u' by omega, show v = v' by omega, z3]
theorem mem_perm {H : Hp} {as bs : List Addr} {ps qs : List P3} (hp : A2 (PAt H) bs ps) (hq : A2 (PAt H) as qs) (pm : bs.Perm as) (p : P3) : p ∈ ps ↔ p ∈ qs := by
  constructor
  · intro h
    obtain ⟨b, hb, e⟩ := hp.mem.2 p h
    obtain ⟨x, hx, e'⟩ := hq.mem.1 b (pm.mem_iff.mp hb)
    rw [e.eq e']
    exact hx
  · intro h
    obtain ⟨b, hb, e⟩ := hq.mem.2 p h
    obtain ⟨x, hx, e'⟩ := hp.mem.1 b (pm.mem_iff.mpr hb)
    rw [e.eq e']
    exact hx
theorem butT {x : Addr} {H H' : Hp} {ys : List V} (s : SameBut x H H') (hx : H x = some (.lst ys)) : SameT H H' := fun b xs e => s b _ (ne_of e hx (fun z => nomatch z)) e
theorem made_at {H : Hp} {q x dx : Addr} {o u v : HO} (hq : H q = some o) (hx : H x = none) (hd : H dx = none) : upd (upd H dx u) x v q = some o := by
  rw [upd_ne (ne_of_none hq hx), upd_ne (ne_of_none hq hd)]
  exact hq
/-! ### cost_of, ends_of, joins_on -/
def spCst : Sp := fun vs H Q _ => ∃ (b : Addr) (r : P3), vs = [.ref b] ∧ PAt H b r ∧ Q (.int r.2.2) H
theorem scCst : FnScope ["rope"] ["rope"] (defScope sCst) := ⟨rfl, rfl, rfl, by decide +kernel, rfl, by decide +kernel, by decide +kernel⟩
theorem ok_cst (t : Tx K mg "cost_of" sCst ["rope"] f fd) (T : T K mg AL RU NE fE fH rR rN iR iN fL fN SE NG NN NO NR NL NS NT NX NV TM UL) : Df P w K mg base CX0 1 "cost_of" ["rope"] spCst f fd := by
  refine t.df0 scCst (fun vs H Q E h => ?_) (fun cdv A outer s H vs Q E hr h => ?_)
  · obtain ⟨b, r, rfl, _⟩ := h
    rfl
  · obtain ⟨b, r, rfl, hb, k⟩ := h
    refine ⟨_, (pss_one (ps_ret (pe_ix ix_tup (pv 0) pe_int (fun _ _ => rfl)))), ?_⟩
    exact ⟨_, rfl, b, _, _, _, rfl, rfl, SqT.of hb, rfl, k⟩
theorem or_well : ∀ u : _root_.Fin 6, Builtin.bitOr ((2 ^ u.1 : Nat) : Int) 64 = ((2 ^ u.1 + 2 ^ 6 : Nat) : Int) := by decide +kernel
theorem or_two : ∀ u v : _root_.Fin 6, u.1 < v.1 → Builtin.bitOr ((2 ^ u.1 : Nat) : Int) ((2 ^ v.1 : Nat) : Int) = ((2 ^ u.1 + 2 ^ v.1 : Nat) : Int) := by decide +kernel
def spEnd : Sp := fun vs H Q _ => ∃ (b : Addr) (r : P3), vs = [.ref b] ∧ PAt H b r ∧ RopeOk r ∧ Q (.int (emask r : Int)) H
theorem scEnd : FnScope ["rope"] ["rope"] (defScope sEnd) := ⟨rfl, rfl, rfl, by decide +kernel, rfl, by decide +kernel, by decide +kernel⟩
theorem ok_end (t : Tx K mg "ends_of" sEnd ["rope"] f fd) (T : T K mg AL RU NE fE fH rR rN iR iN fL fN SE NG NN NO NR NL NS NT NX NV TM UL) : Df P w K mg base CX0 1 "ends_of" ["rope"] spEnd f fd := by
  refine t.df0 scEnd (fun vs H Q E h => ?_) (fun cdv A outer s H vs Q E hr h => ?_)
  · obtain ⟨b, r, rfl, _⟩ := h
    rfl
  · obtain ⟨b, ⟨u, v, c⟩, rfl, hb, ⟨h1, h2⟩, k⟩ := h
    obtain ⟨tkWE, hWE⟩ := T.we
    refine ⟨_, (pss_cons (ps_if (pt_cmpR op_eq (pe_ix ix_tup (pv 0) pe_int (fun _ _ => rfl)) (pe_ix ix_tup (pv 0) pe_int (fun _ _ => rfl)) (nomark _)) (pss_one (ps_ret (pe_op op_or (pe_ix ix_tup (pe_glob (v := .ref AL) (by rfl) T.mAL rfl) (pe_ix ix_tup (pv 0) pe_int (fun _ _ => rfl)) (fun _ _ => rfl)) (pe_glob (v := .int 64) (by rfl) hWE ⟨tkWE, rfl⟩)))) pss_nil)
      (pss_one (ps_ret (pe_op op_or (pe_ix ix_tup (pe_glob (v := .ref AL) (by rfl) T.mAL rfl) (pe_ix ix_tup (pv 0) pe_int (fun _ _ => rfl)) (fun _ _ => rfl)) (pe_ix ix_tup (pe_glob (v := .ref AL) (by rfl) T.mAL rfl) (pe_ix ix_tup (pv 0) pe_int (fun _ _ => rfl)) (fun _ _ => rfl)))))), ?_⟩
    have h1 : u ≤ v := h1
    have h2 : v < 6 := h2
    have hb : H b = some (.tup [.int (u : Int), .int (v : Int), .int c]) := hb
    refine ⟨_, rfl, b, _, _, _, rfl, rfl, SqT.of hb, rfl, _, rfl, b, _, _, _, rfl, rfl, SqT.of hb, rfl, rfl, _, rfl, ite2 (fun h3 => ?_) (fun h3 => ?_)⟩
    · have e : u = v := by have := V.int.inj (of_decide_eq_true h3); omega
      subst e
      refine ⟨_, rfl, b, _, _, _, rfl, rfl, SqT.of hb, rfl, AL, _, _, _, rfl, rfl, T.al _, alone_at2 h2, _, _, rfl, rfl, ?_⟩
      have z := or_well ⟨u, h2⟩
      have e : emask (u, u, c) = 2 ^ u + 2 ^ 6 := by
        unfold emask ea eb
        rw [if_pos rfl]
      rw [e] at k
      show Q (.int (Builtin.bitOr ((2 ^ u : Nat) : Int) 64)) H
      rw [show Builtin.bitOr ((2 ^ u : Nat) : Int) 64 = ((2 ^ u + 2 ^ 6 : Nat) : Int) from z]
      exact k
    · have e : u ≠ v := fun z => h3 (decide_eq_true (by rw [z]))
      refine ⟨_, rfl, b, _, _, _, rfl, rfl, SqT.of hb, rfl, AL, _, _, _, rfl, rfl, T.al _, alone_at2 (by omega), _, rfl, b, _, _, _, rfl, rfl, SqT.of hb, rfl, AL, _, _, _, rfl, rfl, T.al _, alone_at2 h2, _, _, rfl, rfl, ?_⟩
      have z := or_two ⟨u, by omega⟩ ⟨v, h2⟩ (by show u < v; omega)
      have e2 : emask (u, v, c) = 2 ^ u + 2 ^ v := by
        unfold emask ea eb
        rw [if_neg e]
      rw [e2] at k
      show Q (.int (Builtin.bitOr ((2 ^ u : Nat) : Int) ((2 ^ v : Nat) : Int))) H
      rw [show Builtin.bitOr ((2 ^ u : Nat) : Int) ((2 ^ v : Nat) : Int) = ((2 ^ u + 2 ^ v : Nat) : Int) from z]
      exact k
theorem and_dec : ∀ (J : _root_.Fin 128) (a b : _root_.Fin 7), a.1 ≠ b.1 → decide (Builtin.bitAnd ((2 ^ a.1 + 2 ^ b.1 : Nat) : Int) (J.1 : Int) = ((2 ^ a.1 + 2 ^ b.1 : Nat) : Int)) = (bitD J.1 a.1 && bitD J.1 b.1) ∧ decide (Builtin.bitAnd ((2 ^ a.1 + 2 ^ b.1 : Nat) : Int) (J.1 : Int) = 0) = (!bitD J.1 a.1 && !bitD J.1 b.1) := by decide +kernel
theorem and_at {J : Nat} {r : P3} (hJ : J < 128) (h : RopeOk r) : decide (Builtin.bitAnd (emask r : Int) (J : Int) = (emask r : Int)) = (bitD J (ea r) && bitD J (eb r)) ∧ decide (Builtin.bitAnd (emask r : Int) (J : Int) = 0) = (!bitD J (ea r) && !bitD J (eb r)) := by
  obtain ⟨h1, h2, h3⟩ := h.lt
  exact and_dec ⟨J, hJ⟩ ⟨ea r, by omega⟩ ⟨eb r, h2⟩ h3
def spJon : Sp := fun vs H Q _ => ∃ (b : Addr) (r : P3) (J G : Nat), vs = [.ref b, .int (J : Int), .int (G : Int)] ∧ PAt H b r ∧ RopeOk r ∧ J < 128 ∧ G < 128 ∧ Q (.bl (jn J G r)) H
theorem decV {a b : Int} : decide (V.int a = V.int b) = decide (a = b) := decide_eq_decide.mpr ⟨V.int.inj, congrArg V.int⟩
theorem scJon : FnScope ["rope", "joined", "ground", "ends"] ["rope", "joined", "ground"] (defScope sJon) := ⟨rfl, rfl, rfl, by decide +kernel, rfl, by decide +kernel, by decide +kernel⟩
theorem ok_jon {f1 : Addr} {fd1 : FuncData} (t : Tx K mg "joins_on" sJon ["rope", "joined", "ground"] f fd) (T : T K mg AL RU NE fE fH rR rN iR iN fL fN SE NG NN NO NR NL NS NT NX NV TM UL) (D_ends_of : Df P w K mg base CX0 1 "ends_of" ["rope"] spEnd f1 fd1) : Df P w K mg base CX0 2 "joins_on" ["rope", "joined", "ground"] spJon f fd := by
  refine t.df0 scJon (fun vs H Q E h => ?_) (fun cdv A outer s H vs Q E hr h => ?_)
  · obtain ⟨b, r, J, G, rfl, _⟩ := h
    rfl
  · obtain ⟨b, r, J, G, rfl, hb, ok, hJ, hG, k⟩ := h
    refine ⟨_, (pss_cons (ps_set (i := 3) scJon.nd rfl (Or.inl rfl) (pe_d0 D_ends_of hr (by decide) (by rfl) (pa_cons (pv 0) pa_nil)))
      (pss_one (ps_ret (pe_and (pe_cmpR op_eq (pe_op op_and (pv 3) (pv 2)) (pv 3) (nomark _)) (pe_and (pe_cmpR op_ne (pe_op op_and (pv 3) (pv 1)) pe_int (nomark _)) (pe_one (pe_cmpR op_ne (pe_op op_and (pv 3) (pv 1)) (pv 3) (nomark _)))))))), ?_⟩
    refine ⟨_, rfl, b, r, rfl, hb, ok, ?_⟩
    obtain ⟨g1, _⟩ := and_at hG ok
    obtain ⟨j1, j2⟩ := and_at hJ ok
    refine ⟨_, rfl, _, rfl, _, _, rfl, rfl, _, rfl, rfl, _, rfl, ?_⟩
    rw [decV, g1]
    have ek : jn J G r = ((bitD G (ea r) && bitD G (eb r)) && (bitD J (ea r) != bitD J (eb r))) := rfl
    rw [ek] at k
    cases eg : (bitD G (ea r) && bitD G (eb r)) with
    | false =>
      rw [eg] at k
      exact iteF k
    | true =>
      rw [eg] at k
      refine iteT ?_
      refine ⟨_, rfl, _, rfl, _, _, rfl, rfl, rfl, _, rfl, ?_⟩
      rw [decV, j2]
      have last : (!bitD J (ea r) && !bitD J (eb r)) = false → tOp rNe (tOp (rI0 fun i j => V.int (Builtin.bitAnd i j)) (tVar 3) (tVar 1)) (tVar 3) [some (.ref b), some (.int (J : Int)), some (.int (G : Int)), some (.int (emask r : Int))] H Q := fun z => by
        refine ⟨_, rfl, _, rfl, _, _, rfl, rfl, _, rfl, rfl, ?_⟩
        rw [decV, j1]
        cases e1 : bitD J (ea r) <;> cases e2 : bitD J (eb r)
        · rw [e1, e2] at z; cases z
        · rw [e1, e2] at k; exact k
        · rw [e1, e2] at k; exact k
        · rw [e1, e2] at k; exact k
      cases e3 : (!bitD J (ea r) && !bitD J (eb r)) with
      | true =>
        have e4 : bitD J (ea r) = false ∧ bitD J (eb r) = false := by
          cases e1 : bitD J (ea r) <;> cases e2 : bitD J (eb r) <;> rw [e1, e2] at e3 <;> first | exact ⟨rfl, rfl⟩ | cases e3
        rw [e4.1, e4.2] at k
        exact iteF k
      | false => exact iteT (last e3)
/-! ### least_net -/
def ropeOf (H : Hp) (b : Addr) : P3 := match H b with
  | some (.tup [.int u, .int v, .int c]) => (u.toNat, v.toNat, c)
  | _ => (0, 0, 0)
theorem PAt.of {H : Hp} {b : Addr} {r : P3} (h : PAt H b r) : ropeOf H b = r := by
  unfold ropeOf
  rw [show H b = some (.tup [.int (r.1 : Int), .int (r.2.1 : Int), .int r.2.2]) from h]
  rfl
theorem A2.filter {H : Hp} {as : List Addr} {rs : List P3} (p : P3 → Bool) (h : A2 (PAt H) as rs) : A2 (PAt H) (as.filter fun b => p (ropeOf H b)) (rs.filter p) := by
  induction h with
  | nil => exact .nil
  | @cons a x as xs r _ ih =>
    cases e : p x with
    | true =>
      rw [List.filter_cons_of_pos (by rw [r.of]; exact e), List.filter_cons_of_pos e]
      exact .cons r ih
    | false =>
      rw [List.filter_cons_of_neg (by rw [r.of, e]; decide), List.filter_cons_of_neg (by rw [e]; decide)]
      exact ih
theorem refs_filter (p : Addr → Bool) : ∀ as : List Addr, (as.map V.ref).filterMap (fun x => match x with | .ref b => if p b = true then some (V.ref b) else none | _ => none) = (as.filter p).map V.ref
  | [] => rfl
  | a :: as => by
    have ih := refs_filter p as
    rw [List.map_cons]
    cases e : p a with
    | true =>
      rw [List.filterMap_cons_some (b := V.ref a) (by show (if p a = true then _ else _) = _; rw [if_pos e]), List.filter_cons_of_pos e, ih]
      rfl
    | false =>
      rw [List.filterMap_cons_none (by show (if p a = true then _ else _) = _; rw [if_neg (by rw [e]; decide)]), List.filter_cons_of_neg (by rw [e]; decide), ih]
def spLNt : Sp := fun vs H Q _ => ∃ (lr : Addr) (as : List Addr) (rs : List P3) (g : Nat), vs = [.ref lr, .int (g : Int)] ∧ H lr = some (.lst (as.map V.ref)) ∧ A2 (PAt H) as rs ∧ (∀ r ∈ rs, RopeOk r) ∧ (∀ h, h < 6 → bitD g h = true → ∃ r ∈ rs, r.1 = h ∧ r.2.1 = h) ∧ g < 64 ∧ as.length ≤ 100 ∧
  ∀ (l : Addr) (cs : List Addr) (L : List P3) (H' : Hp), H l = none → Same H H' → H' l = some (.lst (cs.map V.ref)) → A2 (PAt H') cs L → Run rs (g + 64) 64 L → Q (.ref l) H'
theorem gor_dec : ∀ g : _root_.Fin 64, Builtin.bitOr (g.1 : Int) 64 = ((g.1 + 64 : Nat) : Int) := by decide +kernel
theorem jor_dec : ∀ (J : _root_.Fin 128) (a b : _root_.Fin 7), Builtin.bitOr (J.1 : Int) ((2 ^ a.1 + 2 ^ b.1 : Nat) : Int) = ((J.1 ||| (2 ^ a.1 + 2 ^ b.1) : Nat) : Int) := by decide +kernel
theorem g_bits : ∀ (g : _root_.Fin 64) (h : _root_.Fin 7), bitD (g.1 + 64) h.1 = (bitD g.1 h.1 || decide (h.1 = 6)) := by decide +kernel
theorem eq_bits : ∀ (J G : _root_.Fin 128), (∀ h : _root_.Fin 7, bitD J.1 h.1 = bitD G.1 h.1) → J.1 = G.1 := by decide +kernel
/-- while there is more ground, some rope joins on -/
theorem cand_pos {rs : List P3} {g J : Nat} (hg : g < 64) (hJ : J < 128) (sub : ∀ h, h < 7 → bitD J h = true → bitD (g + 64) h = true) (w6 : bitD J 6 = true) (ne : J ≠ g + 64) (wr : ∀ h, h < 6 → bitD g h = true → ∃ r ∈ rs, r.1 = h ∧ r.2.1 = h) : 0 < (rs.filter (jn J (g + 64))).length := by
  obtain ⟨h, hh7, hh⟩ : ∃ h, h < 7 ∧ bitD J h ≠ bitD (g + 64) h := by
    refine Classical.byContradiction fun z => ne ?_
    exact eq_bits ⟨J, hJ⟩ ⟨g + 64, by omega⟩ fun h => Classical.byContradiction fun q => z ⟨h.1, h.2, q⟩
  have hG : bitD (g + 64) h = true := by
    cases e : bitD (g + 64) h with
    | true => rfl
    | false =>
      cases e2 : bitD J h with
      | true => rw [sub h hh7 e2] at e; cases e
      | false => rw [e, e2] at hh; exact absurd rfl hh
  have hJf : bitD J h = false := by
    cases e2 : bitD J h with
    | true => rw [e2, hG] at hh; exact absurd rfl hh
    | false => rfl
  have h6 : h ≠ 6 := fun z => by rw [z, w6] at hJf; cases hJf
  have hb := g_bits ⟨g, hg⟩ ⟨h, hh7⟩
  have hb : bitD (g + 64) h = (bitD g h || decide (h = 6)) := hb
  rw [hG, decide_eq_false h6, Bool.or_false] at hb
  obtain ⟨r, hr, e1, e2⟩ := wr h (by omega) hb.symm
  have a1 : ea r = h := e1
  have a2 : eb r = 6 := by unfold eb; rw [if_pos (by rw [e1, e2])]
  have hw := g_bits ⟨g, hg⟩ ⟨6, by decide⟩
  have hw : bitD (g + 64) 6 = (bitD g 6 || decide (6 = 6)) := hw
  rw [decide_eq_true rfl, Bool.or_true] at hw
  refine List.length_pos_of_mem (List.mem_filter.mpr ⟨hr, ?_⟩)
  unfold jn inG
  rw [a1, a2, hG, hw, hJf, w6]
  rfl
theorem card_le (J : Nat) : card J ≤ 7 := by
  unfold card
  exact Nat.le_trans (List.length_filter_le _ _) (by decide)
theorem jor_at {J : Nat} {r : P3} (hJ : J < 128) (h : RopeOk r) : Builtin.bitOr (J : Int) (emask r : Int) = ((J ||| emask r : Nat) : Int) := by
  obtain ⟨h1, h2, h3⟩ := h.lt
  exact jor_dec ⟨J, hJ⟩ ⟨ea r, by omega⟩ ⟨eb r, h2⟩
theorem scLNt : FnScope ["ropes", "group", "ground", "joined", "laid", "rope"] ["ropes", "group"] (defScope sLNt) := ⟨rfl, rfl, rfl, by decide +kernel, rfl, by decide +kernel, by decide +kernel⟩
theorem ok_lnt {fC f1 f2 : Addr} {fdC fd1 fd2 : FuncData} (t : Tx K mg "least_net" sLNt ["ropes", "group"] f fd) (T : T K mg AL RU NE fE fH rR rN iR iN fL fN SE NG NN NO NR NL NS NT NX NV TM UL) (D_joins_on : Df P w K mg base CX0 2 "joins_on" ["rope", "joined", "ground"] spJon f1 fd1) (D_ends_of : Df P w K mg base CX0 1 "ends_of" ["rope"] spEnd f2 fd2) (D_cost_of : Df P w K mg base CX0 1 "cost_of" ["rope"] spCst fC fdC) :
    Df P w K mg base CX0 3 "least_net" ["ropes", "group"] spLNt f fd := by
  refine t.df0 scLNt (fun vs H Q E h => ?_) (fun cdv A outer s H vs Q E hr h => ?_)
  · obtain ⟨lr, as, rs, g, rfl, _⟩ := h
    rfl
  · obtain ⟨lr, as, rs, g, rfl, hlr, ha, ok, wr, hg, hlen, k⟩ := h
    obtain ⟨tkWE, hWE⟩ := T.we
    refine ⟨_, (pss_cons (ps_set (i := 2) scLNt.nd rfl (by first | exact Or.inl rfl | exact Or.inr rfl) (pe_op op_or (pv 1) (pe_glob (v := .int 64) (by rfl) hWE ⟨tkWE, rfl⟩)))
      (pss_cons (ps_set (i := 3) scLNt.nd rfl (by first | exact Or.inl rfl | exact Or.inr rfl) (pe_glob (v := .int 64) (by rfl) hWE ⟨tkWE, rfl⟩))
      (pss_cons (ps_set (i := 4) scLNt.nd rfl (Or.inl rfl) (pe_lst pa_nil))
      (pss_cons (ps_while PassesOwn.never (pt_cmpR op_ne (pv 3) (pv 2) (nomark _))
        (pss_cons (ps_set (i := 5) scLNt.nd rfl (Or.inl rfl) (pe_minKey D_cost_of hr (by decide) (by rfl) T.b_min (pe_glob (v := .ref fC) (by rfl) D_cost_of.at_ rfl) (pa_cons (pe_comp (NB := ["each", "ground", "joined"]) (pick := [none, some 2, some 3]) (blk_mk (by with_unfolding_all rfl) (by exact (And.intro rfl (And.intro rfl trivial))) rfl (by decide +kernel) (by decide +kernel) (by rfl) (by rfl)) rfl
          (pi_list (pv 0)) (fun _ _ _ => pg_name (i := 0) (show (["each", "ground", "joined"] : List Str).Nodup from by decide +kernel) rfl (Or.inl rfl))
          (fun _ _ _ => pif_one (pt_val (pe_d0 D_joins_on hr (by decide) (by rfl) (pa_cons (pv 0) (pa_cons (pv 2) (pa_cons (pv 1) pa_nil)))))) (fun _ _ _ => (pv 0))) pa_nil)))
        (pss_cons (ps_expr (pe_bm PySem.F.plainAttrs_list PySem.F.slot_list_append PySem.F.type_list_append mt_appendR (pv 4) (pa_cons (pv 5) pa_nil)))
        (pss_one (ps_set (i := 3) scLNt.nd rfl (by first | exact Or.inl rfl | exact Or.inr rfl) (pe_op op_or (pv 3) (pe_d0 D_ends_of hr (by decide) (by rfl) (pa_cons (pv 5) pa_nil))))))))
      (pss_one (ps_ret (pv 4))))))), ?_⟩
    refine ⟨_, rfl, _, _, rfl, rfl, ?_⟩
    show gName 2 (V.int (Builtin.bitOr (g : Int) 64)) _ _ _
    rw [show Builtin.bitOr (g : Int) 64 = ((g + 64 : Nat) : Int) from gor_dec ⟨g, hg⟩]
    refine ⟨by show 0 ≤ sizeLine; decide, fun l hl => ?_⟩
    refine ⟨fun m σ' H' => ∃ (J : Nat) (cs : List Addr) (L : List P3) (o5 : Option V), m = 8 - card J ∧ J < 128 ∧ (∀ h, h < 7 → bitD J h = true → bitD (g + 64) h = true) ∧ bitD J 6 = true ∧ L.length + 1 = card J ∧ Same H H' ∧ H' l = some (.lst (cs.map V.ref)) ∧ A2 (PAt H') cs L ∧ (∀ rest, Run rs (g + 64) J rest → Run rs (g + 64) 64 (L ++ rest)) ∧ σ' = [some (.ref lr), some (.int (g : Int)), some (.int ((g + 64 : Nat) : Int)), some (.int (J : Int)), some (.ref l), o5], ⟨_, 64, [], [], none, rfl, by decide, fun h hh z => ?_, by decide, by decide, .upd_new hl, upd_same, .nil, fun rest z => z, rfl⟩, ?_⟩
    · have e : h = 6 := well_bit ⟨h, hh⟩ z
      subst e
      have hw := g_bits ⟨g, hg⟩ ⟨6, by decide⟩
      have hw : bitD (g + 64) 6 = (bitD g 6 || decide (6 = 6)) := hw
      rw [decide_eq_true rfl, Bool.or_true] at hw
      exact hw
    rintro m σ' H1 ⟨J, cs, L, o5, rfl, hJ, sub, w6, hL, s1, e1, a1, run, rfl⟩
    refine ⟨_, rfl, _, rfl, rfl, _, rfl, ite2 (fun hp => ?_) (fun hp => ?_)⟩
    · have ne : J ≠ g + 64 := fun z => by
        subst z
        have hp : (!decide (V.int ((g + 64 : Nat) : Int) = V.int ((g + 64 : Nat) : Int))) = true := hp
        rw [decide_eq_true rfl] at hp
        cases hp
      have pos := cand_pos hg hJ sub w6 ne wr
      have aR := a1
      refine ⟨fun σ' H' => ∃ (J' : Nat) (cs : List Addr) (L : List P3) (o5 : Option V), card J < card J' ∧ J' < 128 ∧ (∀ h, h < 7 → bitD J' h = true → bitD (g + 64) h = true) ∧ bitD J' 6 = true ∧ L.length + 1 = card J' ∧ Same H H' ∧ H' l = some (.lst (cs.map V.ref)) ∧ A2 (PAt H') cs L ∧ (∀ rest, Run rs (g + 64) J' rest → Run rs (g + 64) 64 (L ++ rest)) ∧ σ' = [some (.ref lr), some (.int (g : Int)), some (.int ((g + 64 : Nat) : Int)), some (.int (J' : Int)), some (.ref l), o5], fun σ' H' ⟨J', cs, L, o5, b1, b2, b3, b4, b5, b6, b7, b8, b9, b10⟩ => ⟨8 - card J', by have := card_le J'; have := card_le J; omega, J', cs, L, o5, rfl, b2, b3, b4, b5, b6, b7, b8, b9, b10⟩, ?_⟩
      have hlr1 := s1 _ _ hlr
      have ha1 : A2 (PAt H1) as rs := ha.imp fun _ _ z => z.keep s1.t
      refine ⟨_, rfl, lr, rfl, ⟨_, SqL.of hlr1⟩, ?_⟩
      refine comp_lst (xs := as.map V.ref) (fun _ x => match x with | .ref b => if jn J (g + 64) (ropeOf H1 b) = true then some (V.ref b) else none | _ => none) (SqL.of hlr1) (by rw [List.length_map]; exact Nat.le_of_lt (small1000 (by omega))) (fun i x H2 kk kk0 s2 hx h1 h2 => ?_) fun D H2 hD s2 hd => ?_
      · obtain ⟨b, hb, rfl⟩ := at_of hx
        obtain ⟨r, hr, pr⟩ := ha1.at hb
        have okr := ok r (List.mem_of_getElem? hr)
        have pr2 := pr.keep s2.t
        refine ⟨_, rfl, _, rfl, _, rfl, b, r, J, g + 64, rfl, pr2, okr, hJ, by omega, _, rfl, ?_⟩
        cases ej : jn J (g + 64) r with
        | true => exact iteT ⟨_, rfl, h1 _ (by show (if jn J (g + 64) (ropeOf H1 b) = true then some (V.ref b) else none) = _; rw [pr.of, if_pos ej]) _ (.refl _)⟩
        | false => exact iteF (h2 (by show (if jn J (g + 64) (ropeOf H1 b) = true then some (V.ref b) else none) = _; rw [pr.of, if_neg (by rw [ej]; decide)]) _ (.refl _))
      · rw [fm_bind, refs_filter fun b => jn J (g + 64) (ropeOf H1 b)] at hd
        have aF : A2 (PAt H2) (as.filter fun b => jn J (g + 64) (ropeOf H1 b)) (rs.filter (jn J (g + 64))) := (ha1.filter (jn J (g + 64))).imp fun _ _ z => z.keep s2.t
        generalize (as.filter fun b => jn J (g + 64) (ropeOf H1 b)) = fs at hd aF
        have kfa : ∀ (i : Nat) (r : P3), (rs.filter (jn J (g + 64)))[i]? = some r → ((rs.filter (jn J (g + 64))).getD i (0, 0, 0)).2.2 = r.2.2 := fun i r e => by rw [List.getD_eq_getElem?_getD, e]; rfl
        refine ⟨D, _, fun i => ((rs.filter (jn J (g + 64))).getD i (0, 0, 0)).2.2, rfl, SqL.of hd, by rw [List.length_map, aF.len]; exact pos, fun i v hv => ?_, fun i v hv best => ?_⟩
        · obtain ⟨b, hb, rfl⟩ := at_of hv
          obtain ⟨r, hr, pr⟩ := aF.at hb
          exact ⟨b, r, rfl, pr, congrArg V.int (kfa i r hr).symm, rfl⟩
        · obtain ⟨b, hb, rfl⟩ := at_of hv
          obtain ⟨r, hr, pr⟩ := aF.at hb
          have mn : IsMin (rs.filter (jn J (g + 64))) r := ⟨i, hr, fun j y hy => by
            have z := best j (by rw [List.length_map, aF.len]; exact (List.getElem?_eq_some_iff.mp hy).1)
            dsimp only at z
            rw [kfa i r hr, kfa j y hy] at z
            exact z⟩
          obtain ⟨m1, m2, m3⟩ := jn_of mn
          have okr := ok r m1
          obtain ⟨o1, o2, o3⟩ := okr.lt
          have e2 := s2 _ _ e1
          refine ⟨_, rfl, .inl ⟨rfl, _, SqL.of e2⟩, _, rfl, l, _, _, rfl, rfl, e2, by rw [List.length_map, a1.len]; have := card_le J; exact small1000 (by omega), ?_⟩
          have t3 : SameT H2 (upd H2 l (.lst (cs.map V.ref ++ [V.ref b]))) := SameT.lst e2
          refine ⟨_, rfl, _, rfl, b, r, rfl, pr.keep t3, okr, _, _, rfl, rfl, ?_⟩
          refine ⟨J ||| emask r, cs ++ [b], L ++ [r], some (.ref b), by rw [card_or hJ okr m3]; omega, or_128 hJ okr, fun h hh z => ?_, ?_, by rw [List.length_append, card_or hJ okr m3]; show _ + 1 + 1 = _; omega, (s1.trans s2).upd_ne' hl, by rw [upd_same, List.map_append]; rfl, (a1.imp fun _ _ z => (z.keep s2.t).keep t3).snoc (pr.keep t3), fun rest z => ?_, ?_⟩
          · rw [or_bit hJ okr hh, Bool.or_eq_true, Bool.or_eq_true] at z
            unfold inG at m2
            rw [Bool.and_eq_true] at m2
            rcases z with (z | z) | z
            · exact sub h hh z
            · rw [of_decide_eq_true z]; exact m2.1
            · rw [of_decide_eq_true z]; exact m2.2
          · rw [or_bit hJ okr (by decide), w6]; rfl
          · rw [List.append_assoc]
            exact run _ (.step ne mn z)
          · show [some (V.ref lr), some (V.int (g : Int)), some (V.int ((g + 64 : Nat) : Int)), some (V.int (Builtin.bitOr (J : Int) (emask r : Int))), some (V.ref l), some (V.ref b)] = _
            rw [jor_at hJ okr]
    · have e : J = g + 64 := by
        refine Classical.byContradiction fun z => hp ?_
        show (!decide (V.int (J : Int) = V.int ((g + 64 : Nat) : Int))) = true
        rw [decide_eq_false fun q => z (by have := V.int.inj q; omega)]
        rfl
      subst e
      have z := run [] .stop
      rw [List.append_nil] at z
      exact ⟨_, rfl, k l cs L H1 hl s1 e1 a1 z⟩
/-! ### check_costs -/
def spCkC : Sp := fun vs H Q _ => ∃ (p : Addr) (ns : List Int), vs = [.ref p] ∧ H p = some (.lst (ns.map V.int)) ∧ (∀ n ∈ ns, 0 ≤ n) ∧ ns.length ≤ 64 ∧ ∀ H', Same H H' → Q .non H'
theorem any_neg : ∀ {ns : List Int}, (∀ n ∈ ns, 0 ≤ n) → (ns.map fun n => decide (n < 0)).any id = false
  | [], _ => rfl
  | n :: r, h => by
    have a := h n (by simp)
    have i := any_neg (ns := r) fun x hx => h x (List.mem_cons_of_mem _ hx)
    show (decide (n < 0) || (r.map fun n => decide (n < 0)).any id) = false
    rw [i, decide_eq_false (by omega)]
    rfl
theorem scCkC : FnScope ["costs"] ["costs"] (defScope sCkC) := ⟨rfl, rfl, rfl, by decide +kernel, rfl, by decide +kernel, by decide +kernel⟩
theorem ok_ckc {f1 : Addr} {fd1 : FuncData} (t : Tx K mg "check_costs" sCkC ["costs"] f fd) (T : T K mg AL RU NE fE fH rR rN iR iN fL fN SE NG NN NO NR NL NS NT NX NV TM UL) (D_check_numbers : Df P w K mg base (CX1 P w) 2 "check_numbers" ["things"] (spCkN K NL) f1 fd1) :
    Df P w K mg base (CX1 P w) 3 "check_costs" ["costs"] spCkC f fd := by
  refine t.df1 scCkC (fun vs H Q E h => ?_) (fun cdv A outer s H vs Q E hr h => ?_)
  · obtain ⟨p, ns, rfl, _⟩ := h
    rfl
  · obtain ⟨p, ns, rfl, hp, h0, hlen, k⟩ := h
    refine ⟨_, (pss_cons (ps_expr (pe_d1 rais_def.toPass D_check_numbers hr (by decide) (by rfl) (pa_cons (pv 0) pa_nil)))
      (pss_one (ps_if (pt_val (pe_callB (call_any rfl) (by rfl) T.b_any bt_any (pa_cons (pe_comp (NB := ["cost"]) (pick := [none]) (blk_mk (by with_unfolding_all rfl) (by exact trivial) rfl (by decide +kernel) (by decide +kernel) (by rfl) (by rfl)) rfl
          (pi_list (pv 0)) (fun _ _ _ => pg_name (i := 0) (show (["cost"] : List Str).Nodup from by decide +kernel) rfl (Or.inl rfl))
          (fun _ _ _ => pif_nil) (fun _ _ _ => (pe_cmpR op_lt (pv 0) pe_int (nomark _)))) pa_nil))) (pss_one (ps_raise rais_def rfl (by rfl) T.mNL T.xNL (pa_cons pe_str pa_nil))) pss_nil))), ?_⟩
    refine ⟨_, rfl, p, _, rfl, .inl hp, pl_ints, by rw [List.length_map]; omega, fun no => (by rw [all_ints] at no; cases no), fun _ H1 s1 => ?_⟩
    have hp1 := s1 _ _ hp
    refine ⟨_, rfl, p, rfl, ⟨_, SqL.of hp1⟩, ?_⟩
    refine comp_lst (xs := ns.map V.int) (fun _ x => match x with | .int n => some (.bl (decide (n < 0))) | _ => none) (SqL.of hp1) (by rw [List.length_map]; exact Nat.le_of_lt (small1000 (by omega))) (fun i x H2 kk kk0 s2 hx h1 h2 => ?_) fun D H2 hD s2 hd => ?_
    · obtain ⟨n, _, rfl⟩ := List.mem_map.mp (List.mem_of_getElem? hx)
      exact ⟨_, rfl, _, _, rfl, rfl, h1 _ rfl _ (.refl _)⟩
    · have ed : H2 D = some (.lst ((ns.map fun n => decide (n < 0)).map V.bl)) := by
        rw [hd, fm_bind, List.filterMap_map, List.map_map, ← List.filterMap_eq_map]
        rfl
      refine ⟨D, _, rfl, SqL.of ed, _, rfl, ?_⟩
      rw [any_neg h0]
      exact iteF (k H2 (s1.trans s2))
/-! ### Net -/
def NObj (NE : Addr) (H : Hp) (a ll lr : Addr) (cs : List Int) (rs : List P3) : Prop := ∃ (dx : Addr) (bs : List Addr), H a = some (.ins NE dx [("many", .int (cs.length : Int)), ("costs", .ref ll), ("ropes", .ref lr)]) ∧ H ll = some (.lst (cs.map V.int)) ∧ H lr = some (.lst (bs.map V.ref)) ∧ A2 (PAt H) bs rs ∧ 1 ≤ cs.length ∧ cs.length ≤ 6 ∧ Pw cs.length rs ∧ bs.length ≤ 15
theorem NObj.same {NE : Addr} {H H' : Hp} {a ll lr : Addr} {cs : List Int} {rs : List P3} (h : NObj NE H a ll lr cs rs) (s : Same H H') : NObj NE H' a ll lr cs rs :=
  let ⟨dx, bs, h1, h2, h3, h4, h5⟩ := h; ⟨dx, bs, s _ _ h1, s _ _ h2, s _ _ h3, h4.imp fun _ _ z => z.keep s.t, h5⟩
theorem NObj.but {NE : Addr} {H H' : Hp} {a ll lr x : Addr} {cs : List Int} {rs : List P3} {ys : List V} (h : NObj NE H a ll lr cs rs) (s : SameBut x H H') (hx : H x = some (.lst ys)) (n1 : x ≠ ll) (n2 : x ≠ lr) : NObj NE H' a ll lr cs rs :=
  let ⟨dx, bs, h1, h2, h3, h4, h5⟩ := h; ⟨dx, bs, s _ _ (ne_of h1 hx (fun z => nomatch z)) h1, s _ _ (Ne.symm n1) h2, s _ _ (Ne.symm n2) h3, h4.imp fun _ _ z => z.keep (butT s hx), h5⟩
theorem A2.costs {H : Hp} {bs : List Addr} {rs : List P3} (h : A2 (PAt H) bs rs) : bs.map (fun b => (ropeOf H b).2.2) = rs.map (·.2.2) := by
  induction h with
  | nil => rfl
  | cons r _ ih => rw [List.map_cons, List.map_cons, ih, r.of]
def spNI (NE : Addr) : Sp := fun vs H Q _ => ∃ (x dx p q : Addr) (cs : List Int) (as : List Addr), vs = [.ref x, .ref p, .ref q] ∧ H x = some (.ins NE dx []) ∧ H p = some (.lst (cs.map V.int)) ∧ 1 ≤ cs.length ∧ cs.length ≤ 6 ∧ (∀ c ∈ cs, 0 ≤ c) ∧ H q = some (.lst (as.map V.ref)) ∧ PsOk cs.length H as ∧ (∀ a ∈ as, ∀ r, PAt H a r → 0 ≤ r.2.2) ∧
  ∀ (l lr : Addr) (bs : List Addr) (rs : List P3) (H' : Hp), H l = none → H lr = none → bs.Perm as → SameBut x H H' → A2 (PAt H') bs rs → NObj NE H' x l lr cs rs → Q .non H'
theorem scNI : FnScope ["self", "costs", "ropes"] ["self", "costs", "ropes"] (defScope sNI) := ⟨rfl, rfl, rfl, by decide +kernel, rfl, by decide +kernel, by decide +kernel⟩
theorem ok_ni {f1 f2 f3 : Addr} {fd1 fd2 fd3 : FuncData} (t : Mx K "__init__" "Net.__init__" sNI ["self", "costs", "ropes"] f fd) (T : T K mg AL RU NE fE fH rR rN iR iN fL fN SE NG NN NO NR NL NS NT NX NV TM UL) (D_RI : Md P w K mg base 4 ["self", "many"] (spRI K NL) iR) (D_check_costs : Df P w K mg base (CX1 P w) 3 "check_costs" ["costs"] spCkC f1 fd1) (D_sorted_pairs : Df P w K mg base (CX1 P w) 4 "sorted_pairs" ["many", "pairs"] (spSrt K NL) f2 fd2) (D_cost_of : Df P w K mg base CX0 1 "cost_of" ["rope"] spCst f3 fd3) :
    Md P w K mg base 5 ["self", "costs", "ropes"] (spNI NE) f := by
  refine t.md1 scNI (fun vs H Q E h => ?_) (fun cdv A outer s H vs Q E hr h => ?_)
  · obtain ⟨x, dx, p, q, cs, as, rfl, _⟩ := h
    rfl
  · obtain ⟨x, dx, p, q, cs, as, rfl, hx, hp, c1, c6, c0, hq, ok, r0, k⟩ := h
    refine ⟨_, (pss_cons (ps_expr (pe_cm rais_def.toPass (by rfl) T.mRU T.cRI D_RI hr (by decide) (pa_cons (pv 0) (pa_cons (pe_callB call_len_seq (by rfl) T.b_len bt_len (pa_cons (pv 1) pa_nil)) pa_nil))))
      (pss_cons (ps_expr (pe_d1 rais_def.toPass D_check_costs hr (by decide) (by rfl) (pa_cons (pv 1) pa_nil)))
      (pss_cons (ps_fld (pv 0) (pe_callTy call_list_of (by rfl) T.b_list bt_list (pa_cons (pv 1) pa_nil)) rfl)
      (pss_cons (ps_fld (pv 0) (pe_d1 rais_def.toPass D_sorted_pairs hr (by decide) (by rfl) (pa_cons (pe_fld (pv 0) rfl) (pa_cons (pv 2) pa_nil))) rfl)
      (pss_one (ps_expr (pe_d1 rais_def.toPass D_check_costs hr (by decide) (by rfl) (pa_cons (pe_comp (NB := ["rope"]) (pick := [none]) (blk_mk (by with_unfolding_all rfl) (by exact trivial) rfl (by decide +kernel) (by decide +kernel) (by rfl) (by rfl)) rfl
          (pi_list (pe_fld (pv 0) rfl)) (fun _ _ _ => pg_name (i := 0) (show (["rope"] : List Str).Nodup from by decide +kernel) rfl (Or.inl rfl))
          (fun _ _ _ => pif_nil) (fun _ _ _ => (pe_d0 D_cost_of hr (by decide) (by rfl) (pa_cons (pv 0) pa_nil)))) pa_nil)))))))), ?_⟩
    have i16 : inB 1 6 (.int (cs.length : Int)) = true := by rw [inB_16, decide_eq_true c1, decide_eq_true c6]; rfl
    have hel : ((cs.map V.int).length : Int) = (cs.length : Int) := by rw [List.length_map]
    refine ⟨_, rfl, _, rfl, p, _, rfl, .inl (SqL.of hp), x, NE, dx, .int (cs.length : Int), (by show [V.ref x, V.int ((cs.map V.int).length : Int)] = _; rw [hel]), hx, T.rNE.oc.cl, T.rNE.nm, .int _, fun no => (by rw [i16] at no; cases no), fun _ => ?_⟩
    have sb1 : SameBut x H (upd H x (.ins NE dx [("many", V.int (cs.length : Int))])) := ((Same.refl H).but x).updx _
    have t1 : SameT H (upd H x (.ins NE dx [("many", V.int (cs.length : Int))])) := fun b xs e => sb1 _ _ (ne_of e hx (fun z => nomatch z)) e
    have hp1 := sb1 _ _ (ne_of hp hx (fun z => nomatch z)) hp
    have hq1 := sb1 _ _ (ne_of hq hx (fun z => nomatch z)) hq
    have ok1 : PsOk cs.length (upd H x (.ins NE dx [("many", V.int (cs.length : Int))])) as := ok.same fun b hb o e => by
      obtain ⟨u, v, n, e', _⟩ := ok.1 b hb
      exact sb1 _ _ (ne_of e' hx (fun z => nomatch z)) e
    have hx1 : upd H x (.ins NE dx [("many", V.int (cs.length : Int))]) x = some (.ins NE dx [("many", V.int (cs.length : Int))]) := upd_same
    generalize upd H x (.ins NE dx [("many", V.int (cs.length : Int))]) = H1 at sb1 t1 hp1 hq1 ok1 hx1 ⊢
    refine ⟨_, rfl, p, cs, rfl, hp1, c0, by omega, fun H2 s2 => ?_⟩
    refine ⟨_, rfl, p, _, rfl, .inl (SqL.of (s2 _ _ hp1)), fun l hl => ?_⟩
    have u3 := Same.upd_new (o := .lst (cs.map V.int)) hl
    have hx3 := u3 _ _ (s2 _ _ hx1)
    have nl : l ≠ x := (ne_of_none (s2 _ _ hx1) hl).symm
    have l0 : H l = none := by
      cases e : H l with
      | none => rfl
      | some o => have z := s2 _ _ (sb1 _ _ nl e); rw [hl] at z; cases z
    refine ⟨_, rfl, x, NE, dx, _, rfl, hx3, T.rNE.oc.cl, T.nNE, (by show 1 < 1000; decide), ?_⟩
    have sb4 := ((sb1.then (s2.trans u3)).updx (.ins NE dx [("many", V.int (cs.length : Int)), ("costs", .ref l)]))
    have k4 : upd (upd H2 l (.lst (cs.map V.int))) x (.ins NE dx [("many", V.int (cs.length : Int)), ("costs", .ref l)]) l = some (.lst (cs.map V.int)) := by rw [upd_ne nl]; exact upd_same
    have hx4 : upd (upd H2 l (.lst (cs.map V.int))) x (.ins NE dx [("many", V.int (cs.length : Int)), ("costs", .ref l)]) x = some (.ins NE dx [("many", V.int (cs.length : Int)), ("costs", .ref l)]) := upd_same
    show tSeq _ _ _ _ (upd (upd H2 l (.lst (cs.map V.int))) x (.ins NE dx [("many", V.int (cs.length : Int)), ("costs", .ref l)]))
    generalize upd (upd H2 l (.lst (cs.map V.int))) x (.ins NE dx [("many", V.int (cs.length : Int)), ("costs", .ref l)]) = H4 at sb4 k4 hx4 ⊢
    have hq4 := sb4 _ _ (ne_of hq hx (fun z => nomatch z)) hq
    have ok4 : PsOk cs.length H4 as := ok.same fun b hb o e => by
      obtain ⟨u, v, n, e', _⟩ := ok.1 b hb
      exact sb4 _ _ (ne_of e' hx (fun z => nomatch z)) e
    refine ⟨_, rfl, x, NE, dx, _, _, rfl, hx4, T.rNE.oc.cl, T.rNE.nm, rfl, _, rfl, (cs.length : Int), q, as, rfl, hq4, ok4.tups, by have := ok.2.2; omega, fun no H5 s5 => (by rw [ok4.ok] at no; cases no), fun _ lr bs H5 hlr hb s5 e5 => ?_⟩
    have hx5 := s5 _ _ hx4
    have nlr : lr ≠ x := (ne_of_none hx4 hlr).symm
    have lr0 : H lr = none := by
      cases e : H lr with
      | none => rfl
      | some o => have z := sb4 _ _ nlr e; rw [hlr] at z; cases z
    refine ⟨_, rfl, x, NE, dx, _, rfl, hx5, T.rNE.oc.cl, T.nNE1, (by show 2 < 1000; decide), ?_⟩
    have sb6 := ((sb4.then s5).updx (.ins NE dx [("many", V.int (cs.length : Int)), ("costs", .ref l), ("ropes", .ref lr)]))
    have hx6 : upd H5 x (.ins NE dx [("many", V.int (cs.length : Int)), ("costs", .ref l), ("ropes", .ref lr)]) x = some (.ins NE dx [("many", V.int (cs.length : Int)), ("costs", .ref l), ("ropes", .ref lr)]) := upd_same
    have e6 : upd H5 x (.ins NE dx [("many", V.int (cs.length : Int)), ("costs", .ref l), ("ropes", .ref lr)]) lr = some (.lst (bs.map V.ref)) := by rw [upd_ne nlr]; exact e5
    have k6 : upd H5 x (.ins NE dx [("many", V.int (cs.length : Int)), ("costs", .ref l), ("ropes", .ref lr)]) l = some (.lst (cs.map V.int)) := by rw [upd_ne nl]; exact s5 _ _ k4
    have ok6 : PsOk cs.length (upd H5 x (.ins NE dx [("many", V.int (cs.length : Int)), ("costs", .ref l), ("ropes", .ref lr)])) bs := (ok.same fun b hb o e => by
      obtain ⟨u, v, n, e', _⟩ := ok.1 b hb
      exact sb6 _ _ (ne_of e' hx (fun z => nomatch z)) e).of_perm hb
    refine ⟨_, rfl, x, NE, dx, _, _, rfl, hx6, T.rNE.oc.cl, T.nNE1, rfl, lr, rfl, ⟨_, SqL.of e6⟩, ?_⟩
    obtain ⟨rs, a6, pw⟩ := ok6.pw
    have blen : bs.length ≤ 15 := ok6.2.2
    have r06 : ∀ r ∈ rs, 0 ≤ r.2.2 := fun r hr => by
      obtain ⟨b, hb', pr⟩ := a6.mem.2 r hr
      have hba := hb.mem_iff.mp hb'
      obtain ⟨u, v, n, e', _⟩ := ok.1 b hba
      have pr' : PAt _ b (u, v, n) := sb6 _ _ (ne_of e' hx (fun z => nomatch z)) e'
      have z := pr.eq pr'
      rw [z]
      exact r0 b hba (u, v, n) e'
    rw [show putF ("ropes" : Str) (V.ref lr) [(("many" : Str), V.int (cs.length : Int)), (("costs" : Str), V.ref l)] = [(("many" : Str), V.int (cs.length : Int)), (("costs" : Str), V.ref l), (("ropes" : Str), V.ref lr)] from rfl]
    generalize upd H5 x (.ins NE dx [("many", V.int (cs.length : Int)), ("costs", .ref l), ("ropes", .ref lr)]) = H6 at sb6 hx6 e6 k6 a6 ⊢
    refine comp_lst (xs := bs.map V.ref) (fun _ x => match x with | .ref b => some (.int (ropeOf H6 b).2.2) | _ => none) (SqL.of e6) (by rw [List.length_map]; exact Nat.le_of_lt (small1000 (by omega))) (fun i y H7 kk kk0 s7 hy h1 h2 => ?_) fun D H7 hD s7 hd => ?_
    · obtain ⟨b, hb', rfl⟩ := at_of hy
      obtain ⟨r, hr', pr⟩ := a6.at hb'
      exact ⟨_, rfl, b, r, rfl, pr.keep s7.t, h1 _ (by show some (V.int (ropeOf H6 b).2.2) = _; rw [pr.of]) _ (.refl _)⟩
    · have ed : H7 D = some (.lst ((rs.map (·.2.2)).map V.int)) := by
        rw [hd, fm_bind, List.filterMap_map, ← a6.costs, List.map_map, ← List.filterMap_eq_map]
        rfl
      refine ⟨D, _, rfl, ed, fun n hn => ?_, by rw [List.length_map, ← a6.len]; omega, fun H8 s8 => ?_⟩
      · obtain ⟨r, hr', rfl⟩ := List.mem_map.mp hn
        exact r06 r hr'
      · have s68 := s7.trans s8
        have nx : ∀ b : Addr, True := fun _ => trivial
        exact k l lr bs rs H8 l0 lr0 hb (sb6.then s68) (a6.imp fun _ _ z => z.keep s68.t) ⟨dx, bs, s68 _ _ hx6, s68 _ _ k6, s68 _ _ e6, a6.imp fun _ _ z => z.keep s68.t, c1, c6, pw, blen⟩
theorem A2.of_get {α : Type} {R : Addr → α → Prop} : ∀ {as : List Addr} {xs : List α}, as.length = xs.length → (∀ (i : Nat) (a : Addr) (x : α), as[i]? = some a → xs[i]? = some x → R a x) → A2 R as xs
  | [], [], _, _ => .nil
  | [], _ :: _, h, _ => by cases h
  | _ :: _, [], h, _ => by cases h
  | a :: as, x :: xs, h, f => .cons (f 0 a x rfl rfl) (A2.of_get (Nat.succ.inj h) fun i b y e1 e2 => f (i + 1) b y (by rw [List.getElem?_cons_succ]; exact e1) (by rw [List.getElem?_cons_succ]; exact e2))
theorem A2.app {α : Type} {R : Addr → α → Prop} {as bs : List Addr} {xs ys : List α} (h : A2 R as xs) (h' : A2 R bs ys) : A2 R (as ++ bs) (xs ++ ys) := by
  induction h with
  | nil => exact h'
  | cons r _ ih => exact .cons r ih
def wellR (cs : List Int) : List P3 := (List.range cs.length).map fun i => (i, i, cs.getD i 0)
def allR (cs : List Int) (rs : List P3) : List P3 := wellR cs ++ rs
theorem made_refs {β : Type} {S : Addr → β → Prop} {f : Nat → β} {ys : List V} {n : Nat} (hy : ys.length = n) (h : ∀ i y, ys[i]? = some y → ∃ b, y = .ref b ∧ S b (f i)) : ∃ ws : List Addr, ys = ws.map V.ref ∧ A2 S ws ((List.range n).map f) := by
  refine ⟨ys.map fun y => match y with | .ref b => b | _ => 0, ?_, A2.of_get (by rw [List.length_map, List.length_map, List.length_range, hy]) fun i a x e1 e2 => ?_⟩
  · rw [List.map_map]
    refine (List.map_id ys).symm.trans (List.map_congr_left fun y hm => ?_)
    obtain ⟨i, hi⟩ := List.getElem?_of_mem hm
    obtain ⟨b, rfl, _⟩ := h i y hi
    rfl
  · rw [List.getElem?_map] at e1 e2
    cases ey : ys[i]? with
    | none => rw [ey] at e1; cases e1
    | some y =>
      rw [ey] at e1
      obtain ⟨b, rfl, pb⟩ := h i y ey
      have e1 : b = a := Option.some.inj e1
      have hi : i < n := by rw [← hy]; exact (List.getElem?_eq_some_iff.mp ey).1
      rw [List.getElem?_range hi] at e2
      have e2 : f i = x := Option.some.inj e2
      rw [← e1, ← e2]
      exact pb
theorem bit_lt {g h m : Nat} (hg : g < 2 ^ m) (hb : bitD g h = true) : h < m := by
  refine Classical.byContradiction fun z => ?_
  have z2 : g < 2 ^ h := Nat.lt_of_lt_of_le hg (Nat.pow_le_pow_right (by decide) (by omega))
  have : g / 2 ^ h = 0 := Nat.div_eq_of_lt z2
  unfold bitD at hb
  rw [this] at hb
  exact absurd (of_decide_eq_true hb) (by decide)
theorem ropes_ok {cs : List Int} {rs : List P3} (h6 : cs.length ≤ 6) (pw : Pw cs.length rs) : ∀ r ∈ allR cs rs, RopeOk r := fun r hr => by
  rcases List.mem_append.mp hr with z | z
  · obtain ⟨i, hi, rfl⟩ := List.mem_map.mp z
    have := List.mem_range.mp hi
    exact ⟨Nat.le_refl _, by show i < 6; omega⟩
  · obtain ⟨a, b⟩ := pw.1 r z
    exact ⟨Nat.le_of_lt a, by omega⟩
theorem all_well {cs : List Int} {rs : List P3} {g : Nat} (hg : g < 2 ^ cs.length) : ∀ h, h < 6 → bitD g h = true → ∃ r ∈ allR cs rs, r.1 = h ∧ r.2.1 = h := fun h _ hb =>
  ⟨(h, h, cs.getD h 0), List.mem_append_left _ (List.mem_map.mpr ⟨h, List.mem_range.mpr (bit_lt hg hb), rfl⟩), rfl, rfl⟩
def spNLs (NE : Addr) : Sp := fun vs H Q _ => ∃ (a ll lr : Addr) (cs : List Int) (rs : List P3) (g : Nat), vs = [.ref a, .int (g : Int)] ∧ NObj NE H a ll lr cs rs ∧ g < 2 ^ cs.length ∧
  ∀ (l : Addr) (ds : List Addr) (L : List P3) (H' : Hp), H l = none → Same H H' → H' l = some (.lst (ds.map V.ref)) → A2 (PAt H') ds L → Run (allR cs rs) (g + 64) 64 L → Q (.ref l) H'
theorem scNLs : FnScope ["self", "group", "to_the_well"] ["self", "group"] (defScope sNLs) := ⟨rfl, rfl, rfl, by decide +kernel, rfl, by decide +kernel, by decide +kernel⟩
theorem ok_nls {f1 : Addr} {fd1 : FuncData} (t : Mx K "least" "Net.least" sNLs ["self", "group"] f fd) (T : T K mg AL RU NE fE fH rR rN iR iN fL fN SE NG NN NO NR NL NS NT NX NV TM UL) (D_least_net : Df P w K mg base CX0 3 "least_net" ["ropes", "group"] spLNt f1 fd1) : Md P w K mg base 4 ["self", "group"] (spNLs NE) f := by
  refine t.md0 scNLs (fun vs H Q E h => ?_) (fun cdv A outer s H vs Q E hr h => ?_)
  · obtain ⟨a, ll, lr, cs, rs, g, rfl, _⟩ := h
    rfl
  · obtain ⟨a, ll, lr, cs, rs, g, rfl, no, hg, k⟩ := h
    refine ⟨_, (pss_cons (ps_setC (NB := ["hand", "cost"]) (pick := [none, none]) (i := 2) scNLs.nd rfl (Or.inl rfl) (by rfl) (blk_mk (by with_unfolding_all rfl) (by exact trivial) rfl (by decide +kernel) (by decide +kernel) (by rfl) (by rfl)) rfl
          (pi_enum (by rfl) T.b_enum (pa_cons (pe_fld (pv 0) rfl) pa_nil)) (fun _ _ _ => (show PG _ _ (gTup K 2 (gCons (gName 0) (gCons (gName 1) gNil))) from pg_tup rfl (pgs_cons (pg_name (i := 0) (show (["hand", "cost"] : List Str).Nodup from by decide +kernel) rfl (Or.inl rfl)) (pgs_cons (pg_name (i := 1) (show (["hand", "cost"] : List Str).Nodup from by decide +kernel) rfl (Or.inl rfl)) pgs_nil))))
          (fun _ _ _ => pif_nil) (fun _ _ _ => (pe_tup (pa_cons (pv 0) (pa_cons (pv 0) (pa_cons (pv 1) pa_nil))))))
      (pss_one (ps_ret (pe_d0 D_least_net hr (by decide) (by rfl) (pa_cons (pe_op op_catQ (pv 2) (pe_fld (pv 0) rfl)) (pa_cons (pv 1) pa_nil)))))), ?_⟩
    obtain ⟨dx, bs, h1, h2, h3, h4, c1, c6, pw, blen⟩ := no
    refine ⟨_, rfl, a, NE, dx, _, _, rfl, h1, T.rNE.oc.cl, T.nNE, rfl, ll, rfl, ⟨_, SqL.of h2⟩, ?_⟩
    refine comp_enumR (xs := cs.map V.int) (fun σ' => ∃ o0 o1 : Option V, σ' = [o0, o1]) (fun i y H => ∃ b, y = .ref b ∧ PAt H b (i, i, cs.getD i 0)) (fun i y H H' st ⟨b, e, q⟩ => ⟨b, e, q.keep st⟩) ⟨_, _, rfl⟩ (SqL.of h2) (by rw [List.length_map]; exact Nat.le_of_lt (small1000 (by omega))) (fun i x tt σ1 H2 kk kk0 hσ s2 hx ht h1' => ?_) fun D ys H2 hD s2 hy hys hd => ?_
    · obtain ⟨o0, o1, rfl⟩ := hσ
      have ex : x = .int (cs.getD i 0) := by
        rw [List.getElem?_map] at hx
        cases e : cs[i]? with
        | none => rw [e] at hx; cases hx
        | some c =>
          rw [e] at hx
          rw [List.getD_eq_getElem?_getD, e]
          exact (Option.some.inj hx).symm
      subst ex
      refine ⟨tt, _, rfl, SqT.of ht, rfl, _, _, rfl, _, _, rfl, rfl, ?_⟩
      exact ⟨_, rfl, _, rfl, _, rfl, by show 3 ≤ sizeLine; decide, fun t3 ht3 => h1' _ _ _ ⟨_, _, rfl⟩ (.upd_new ht3) ⟨t3, rfl, upd_same⟩⟩
    · obtain ⟨ws, rfl, aw⟩ := made_refs (S := PAt H2) (f := fun i => (i, i, cs.getD i 0)) hy hys
      have h12 := s2 _ _ h1
      have h32 := s2 _ _ h3
      have wl : ws.length = cs.length := by rw [aw.len, List.length_map, List.length_range, List.length_map]
      refine ⟨_, rfl, _, rfl, a, NE, dx, _, _, rfl, h12, T.rNE.oc.cl, T.nNE1, rfl, D, lr, _, _, rfl, rfl, SqL.of hd, SqL.of h32, by rw [List.length_map, List.length_map]; exact Nat.le_of_lt (small1000 (by omega)), fun lc hlc => ?_⟩
      have u3 := Same.upd_new (o := .lst (ws.map V.ref ++ bs.map V.ref)) hlc
      have s3 := s2.trans u3
      rw [List.length_map] at aw
      refine ⟨_, rfl, lc, ws ++ bs, allR cs rs, g, rfl, by rw [upd_same, List.map_append], A2.app (aw.imp fun _ _ z => z.keep u3.t) (h4.imp fun _ _ z => z.keep s3.t), ropes_ok c6 pw, all_well hg, Nat.lt_of_lt_of_le hg (Nat.pow_le_pow_right (n := 2) (by decide) c6), by rw [List.length_append]; omega, fun l ds L H' hl s4 e4 a4 run => ?_⟩
      exact k l ds L H' (s3.free hl) (s3.trans s4) e4 a4 run
open Classical in
noncomputable def netL (rs : List P3) (g : Nat) : List P3 := if h : ∃ L, Run rs (g + 64) 64 L then Classical.choose h else []
theorem netL_of {rs : List P3} {g : Nat} {L : List P3} (h : Run rs (g + 64) 64 L) : netL rs g = L := by
  have e : ∃ L, Run rs (g + 64) 64 L := ⟨L, h⟩
  unfold netL
  rw [dif_pos e]
  exact (Classical.choose_spec e).uniq h
noncomputable def gainN (cs : List Int) (rs : List P3) (g : Nat) : Int := -(((netL (allR cs rs) g).map (·.2.2)).sum)
def spNRk (NE : Addr) : Sp := fun vs H Q _ => ∃ (a ll lr : Addr) (cs : List Int) (rs : List P3) (g : Nat), vs = [.ref a, .int (g : Int)] ∧ NObj NE H a ll lr cs rs ∧ g < 2 ^ cs.length ∧ ∀ H', Same H H' → Q (.int (gainN cs rs g)) H'
theorem scNRk : FnScope ["self", "group"] ["self", "group"] (defScope sNRk) := ⟨rfl, rfl, rfl, by decide +kernel, rfl, by decide +kernel, by decide +kernel⟩
theorem ok_nrk {f3 : Addr} {fd3 : FuncData} (t : Mx K "reckon" "Net.reckon" sNRk ["self", "group"] f fd) (T : T K mg AL RU NE fE fH rR rN iR iN fL fN SE NG NN NO NR NL NS NT NX NV TM UL) (DL : Md P w K mg base 4 ["self", "group"] (spNLs NE) fL) (D_cost_of : Df P w K mg base CX0 1 "cost_of" ["rope"] spCst f3 fd3) : Md P w K mg base 5 ["self", "group"] (spNRk NE) f := by
  refine t.md0 scNRk (fun vs H Q E h => ?_) (fun cdv A outer s H vs Q E hr h => ?_)
  · obtain ⟨a, ll, lr, cs, rs, g, rfl, _⟩ := h
    rfl
  · obtain ⟨a, ll, lr, cs, rs, g, rfl, no, hg, k⟩ := h
    refine ⟨_, (pss_one (ps_ret (pe_un un_neg (pe_callB (call_sum rfl) (by rfl) T.b_sum bt_sum (pa_cons (pe_comp (NB := ["rope"]) (pick := [none]) (blk_mk (by with_unfolding_all rfl) (by exact trivial) rfl (by decide +kernel) (by decide +kernel) (by rfl) (by rfl)) rfl
          (pi_list (pe_methX (k := 4) pass_no (pv 0) hr (by decide) (pa_cons (pv 1) pa_nil))) (fun _ _ _ => pg_name (i := 0) (show (["rope"] : List Str).Nodup from by decide +kernel) rfl (Or.inl rfl))
          (fun _ _ _ => pif_nil) (fun _ _ _ => (pe_d0 D_cost_of hr (by decide) (by rfl) (pa_cons (pv 0) pa_nil)))) pa_nil))))), ?_⟩
    have no' := no
    obtain ⟨dx, bs, h1, h2, h3, h4, c1, c6, pw, blen⟩ := no'
    refine ⟨_, rfl, a, NE, dx, _, fL, _, rfl, h1, rfl, T.rNE.oc.cl, T.lNE, ⟨_, DL⟩, _, rfl, a, ll, lr, cs, rs, g, rfl, no, hg, fun l ds L H1 hl s1 e1 a1 run => ⟨l, rfl, ⟨_, SqL.of e1⟩, ?_⟩⟩
    have hg6 : g < 64 := Nat.lt_of_lt_of_le hg (Nat.pow_le_pow_right (n := 2) (by decide) c6)
    have Ll : L.length ≤ 6 := by
      rw [(net_facts (ropes_ok c6 pw) hg6 run).2.2.1]
      exact hN_len g 6
    refine comp_lst (xs := ds.map V.ref) (fun _ x => match x with | .ref b => some (.int (ropeOf H1 b).2.2) | _ => none) (SqL.of e1) (by rw [List.length_map, a1.len]; exact Nat.le_of_lt (small1000 (by omega))) (fun i y H7 kk kk0 s7 hy h1 h2 => ?_) fun D H7 hD s7 hd => ?_
    · obtain ⟨b, hb', rfl⟩ := at_of hy
      obtain ⟨r, hr', pr⟩ := a1.at hb'
      exact ⟨_, rfl, b, r, rfl, pr.keep s7.t, h1 _ (by show some (V.int (ropeOf H1 b).2.2) = _; rw [pr.of]) _ (.refl _)⟩
    · have ed : H7 D = some (.lst ((L.map (·.2.2)).map V.int)) := by
        rw [hd, fm_bind, List.filterMap_map, ← a1.costs, List.map_map, ← List.filterMap_eq_map]
        rfl
      refine ⟨D, _, rfl, .inl (SqL.of ed), _, rfl, ?_⟩
      have z := k H7 (s1.trans s7)
      unfold gainN at z
      rw [netL_of run] at z
      exact z
theorem net_obj (D : Md P w K mg base 5 ["self", "group"] (spNRk NE) rN) (c : RC K fE fH RU NE rN) {H : Hp} {a ll lr : Addr} {cs : List Int} {rs : List P3} (h : NObj NE H a ll lr cs rs) : RObj P w K mg base fE fH RU H a cs.length (gainN cs rs) := by
  have h' := h
  obtain ⟨dx, bs, h1, h2, h3, h4, c1, c6, pw, blen⟩ := h'
  exact ⟨NE, dx, rN, _, h1, c, rfl, c1, c6, ⟨rfl, rfl, rfl⟩, _, (D.up (by decide)).imp fun vs H2 Q _ ⟨gr, e, hg, s, q⟩ => ⟨a, ll, lr, cs, rs, gr, e, h.same s, hg, fun H3 s3 => q H3 s3⟩⟩
/-! ### Net.net -/
def code2 (p : Nat × Nat) : Nat := 7 * p.1 + p.2
def prOf (H : Hp) (b : Addr) : Nat × Nat := match H b with
  | some (.tup [.int u, .int v]) => (u.toNat, v.toNat)
  | _ => (0, 0)
theorem DAt.of {H : Hp} {b : Addr} {p : Nat × Nat} (h : DAt H b p) : prOf H b = p := by
  unfold prOf
  rw [show H b = some (.tup [.int (p.1 : Int), .int (p.2 : Int)]) from h]
  rfl
theorem lex_code {p q : Nat × Nat} (hp : p.2 < 7) (hq : q.2 < 7) : HT.lexLt [(p.1 : Int), (p.2 : Int)] [(q.1 : Int), (q.2 : Int)] = decide (code2 p < code2 q) := by
  unfold code2
  rw [HT.lexLt_cons]
  by_cases e : (p.1 : Int) = q.1
  · rw [if_pos e, HT.lexLt_cons]
    by_cases e2 : (p.2 : Int) = q.2
    · rw [if_pos e2]
      exact (decide_eq_false (by omega)).symm
    · rw [if_neg e2]
      exact decide_eq_decide.mpr (by omega)
  · rw [if_neg e]
    exact decide_eq_decide.mpr (by omega)
theorem A2.prs {H : Hp} {bs : List Addr} {ps : List (Nat × Nat)} (h : A2 (DAt H) bs ps) : bs.map (prOf H) = ps := by
  induction h with
  | nil => rfl
  | cons r _ ih => rw [List.map_cons, ih, r.of]
def kys (L : List P3) : List (Nat × Nat) := L.map fun r => (r.1, r.2.1)
theorem A2.self {S : Addr → Nat × Nat → Prop} {f : Addr → Nat × Nat} : ∀ {bs : List Addr}, (∀ b ∈ bs, S b (f b)) → A2 S bs (bs.map f)
  | [], _ => .nil
  | b :: bs, h => .cons (h b (by simp)) (A2.self fun c hc => h c (List.mem_cons_of_mem _ hc))
theorem kys_range (L : List P3) : (List.range L.length).map (fun i => (kys L).getD i (0, 0)) = kys L := by
  refine List.ext_getElem? fun i => ?_
  rcases Nat.lt_or_ge i L.length with h | h
  · rw [List.getElem?_map, List.getElem?_range h]
    show some ((kys L).getD i (0, 0)) = _
    rw [List.getD_eq_getElem?_getD]
    unfold kys
    rw [List.getElem?_map, List.getElem?_eq_getElem h]
    rfl
  · rw [List.getElem?_eq_none (by rw [List.length_map, List.length_range]; exact h), List.getElem?_eq_none (by unfold kys; rw [List.length_map]; exact h)]
def spNNt (K : PySem.W.Frag) (NG NE : Addr) : Sp := fun vs H Q E => ∃ (a ll lr : Addr) (cs : List Int) (rs : List P3) (v : V), vs = [.ref a, v] ∧ NObj NE H a ll lr cs rs ∧ Pl K H v ∧ (inB 0 (2 ^ cs.length - 1) v = false → ∀ H', Same H H' → E (.ref NG) none H') ∧
  ∀ g : Nat, v = .int (g : Int) → g < 2 ^ cs.length → ∀ (l : Addr) (ds : List Addr) (prs : List (Nat × Nat)) (L : List P3) (H' : Hp), H l = none → Same H H' → H' l = some (.lst (ds.map V.ref)) → A2 (DAt H') ds prs → prs.Perm (kys L) → (prs.map code2).Pairwise (· < ·) → Run (allR cs rs) (g + 64) 64 L → Q (.ref l) H'
theorem scNNt : FnScope ["self", "group"] ["self", "group"] (defScope sNNt) := ⟨rfl, rfl, rfl, by decide +kernel, rfl, by decide +kernel, by decide +kernel⟩
theorem ok_nnt {f1 : Addr} {fd1 : FuncData} (t : Mx K "net" "Net.net" sNNt ["self", "group"] f fd) (T : T K mg AL RU NE fE fH rR rN iR iN fL fN SE NG NN NO NR NL NS NT NX NV TM UL) (DL : Md P w K mg base 4 ["self", "group"] (spNLs NE) fL) (D_check_group : Df P w K mg base (CX1 P w) 3 "check_group" ["group", "many"] (spChk K NG) f1 fd1) : Md P w K mg base 5 ["self", "group"] (spNNt K NG NE) f := by
  refine t.md1 scNNt (fun vs H Q E h => ?_) (fun cdv A outer s H vs Q E hr h => ?_)
  · obtain ⟨a, ll, lr, cs, rs, v, rfl, _⟩ := h
    rfl
  · obtain ⟨a, ll, lr, cs, rs, v, rfl, no, pl, k0, k⟩ := h
    refine ⟨_, (pss_cons (ps_expr (pe_d1 rais_def.toPass D_check_group hr (by decide) (by rfl) (pa_cons (pv 1) (pa_cons (pe_fld (pv 0) rfl) pa_nil))))
      (pss_one (ps_ret (pe_callB call_sortedTS (by rfl) T.b_sorted bt_sorted (pa_cons (pe_comp (NB := ["rope"]) (pick := [none]) (blk_mk (by with_unfolding_all rfl) (by exact trivial) rfl (by decide +kernel) (by decide +kernel) (by rfl) (by rfl)) rfl
          (pi_list (pe_methX (k := 4) rais_def.toPass (pv 0) hr (by decide) (pa_cons (pv 1) pa_nil))) (fun _ _ _ => pg_name (i := 0) (show (["rope"] : List Str).Nodup from by decide +kernel) rfl (Or.inl rfl))
          (fun _ _ _ => pif_nil) (fun _ _ _ => (pe_tup (pa_cons (pe_ix (ix_tupK K) (pv 0) pe_int (fun _ _ => rfl)) (pa_cons (pe_ix (ix_tupK K) (pv 0) pe_int (fun _ _ => rfl)) pa_nil))))) pa_nil))))), ?_⟩
    have no' := no
    obtain ⟨dx, bs, h1, h2, h3, h4, c1, c6, pw, blen⟩ := no'
    refine ⟨_, rfl, _, rfl, a, NE, dx, _, _, rfl, h1, T.rNE.oc.cl, T.rNE.nm, rfl, v, cs.length, rfl, c6, pl, k0, fun yes H1 s1 => ?_⟩
    obtain ⟨g, rfl, hg⟩ := inB_natM yes
    refine ⟨_, rfl, a, NE, dx, _, fL, _, rfl, s1 _ _ h1, rfl, T.rNE.oc.cl, T.lNE, ⟨_, DL⟩, _, rfl, a, ll, lr, cs, rs, g, rfl, no.same s1, hg, fun l ds L H2 hl s2 e2 a2 run => ⟨l, rfl, ⟨_, SqL.of e2⟩, ?_⟩⟩
    have hg6 : g < 64 := Nat.lt_of_lt_of_le hg (Nat.pow_le_pow_right (n := 2) (by decide) c6)
    obtain ⟨n1, n2, n3, _⟩ := net_facts (ropes_ok c6 pw) hg6 run
    have Ll : L.length ≤ 6 := by
      rw [n3]
      exact hN_len g 6
    refine comp_lstR (xs := ds.map V.ref) (fun i y H => ∃ b, y = .ref b ∧ DAt H b ((kys L).getD i (0, 0))) (fun i y H H' st ⟨b, e, q⟩ => ⟨b, e, q.keep st⟩) (SqL.of e2) (by rw [List.length_map, a2.len]; exact Nat.le_of_lt (small1000 (by omega))) (fun i y H3 kk kk0 s3 hy h1' => ?_) fun D ys H3 hD s3 hyl hys hd => ?_
    · obtain ⟨b, hb', rfl⟩ := at_of hy
      obtain ⟨r, hr', pr⟩ := a2.at hb'
      have pr3 : H3 b = some (.tup [.int (r.1 : Int), .int (r.2.1 : Int), .int r.2.2]) := pr.keep s3.t
      have eg : (kys L).getD i (0, 0) = (r.1, r.2.1) := by unfold kys; rw [List.getD_eq_getElem?_getD, List.getElem?_map, hr']; rfl
      exact ⟨_, rfl, b, _, _, _, rfl, rfl, SqT.of pr3, rfl, _, rfl, b, _, _, _, rfl, rfl, SqT.of pr3, rfl, by show 2 ≤ sizeLine; decide, fun t3 ht3 => h1' _ _ (.upd_new ht3) ⟨t3, rfl, by rw [eg]; exact upd_same⟩⟩
    · obtain ⟨ws, rfl, aw⟩ := made_refs (S := DAt H3) (f := fun i => (kys L).getD i (0, 0)) (n := L.length) (by rw [hyl, List.length_map, a2.len]) hys
      rw [kys_range] at aw
      have kl : (kys L).length = L.length := by unfold kys; rw [List.length_map]
      have b7 : ∀ p ∈ kys L, p.2 < 7 := fun p hp => by
        obtain ⟨r, hr', rfl⟩ := List.mem_map.mp hp
        have z := (ropes_ok c6 pw r (n1 r hr').1).2
        show r.2.1 < 7
        omega
      have ep := aw.prs
      refine ⟨D, ws, fun b => code2 (prOf H3 b), rfl, SqL.of hd, fun b hb => ?_, by rw [aw.len, kl]; exact Ll, fun b hb b' hb' => ?_, ?_, fun l2 bs2 hl2 hp hpw => ?_⟩
      · obtain ⟨p, _, hp⟩ := aw.mem.1 b hb
        exact ⟨(p.1 : Int), [(p.2 : Int)], hp⟩
      · obtain ⟨p, mp, hp⟩ := aw.mem.1 b hb
        obtain ⟨p', mp', hp'⟩ := aw.mem.1 b' hb'
        rw [tupOf_at (ns := [(p.1 : Int), (p.2 : Int)]) hp, tupOf_at (ns := [(p'.1 : Int), (p'.2 : Int)]) hp', lex_code (b7 p mp) (b7 p' mp')]
        show _ = decide (code2 (prOf H3 b) < code2 (prOf H3 b'))
        rw [hp.of, hp'.of]
      · have e : (ws.map fun b => code2 (prOf H3 b)) = (kys L).map code2 := by rw [← ep, List.map_map]; rfl
        rw [e]
        refine List.pairwise_map.mpr ((show (kys L).Nodup from n2).imp_of_mem fun {p q} hp hq ne z => ne ?_)
        have x1 := b7 p hp
        have x2 := b7 q hq
        unfold code2 at z
        exact Prod.ext (by omega) (by omega)
      · have u4 := Same.upd_new (o := .lst (bs2.map V.ref)) hl2
        have s14 := (s1.trans (s2.trans s3)).trans u4
        refine k g rfl hg l2 bs2 (bs2.map (prOf H3)) L _ ((s1.trans (s2.trans s3)).free hl2) s14 upd_same (A2.self fun b hb => ?_) ?_ ?_ run
        · obtain ⟨p, _, hp'⟩ := aw.mem.1 b (hp.mem_iff.mp hb)
          rw [hp'.of]
          exact hp'.keep u4.t
        · rw [← ep]
          exact hp.map _
        · rw [List.map_map]
          exact hpw
theorem mk_net {H : Hp} {p q : Addr} {cs : List Int} {as : List Addr} {qs : List P3} {x dx : Addr} {R : VK} {E : XK} (hx : H x = none) (hd : H dx = none) (ne : dx ≠ x) (hp : H p = some (.lst (cs.map V.int))) (c1 : 1 ≤ cs.length) (c6 : cs.length ≤ 6) (c0 : ∀ c ∈ cs, 0 ≤ c) (hq : H q = some (.lst (as.map V.ref))) (ok : PsOk cs.length H as) (a2 : A2 (PAt H) as qs) (r0 : ∀ r ∈ qs, 0 ≤ r.2.2)
    (k : ∀ (l lr : Addr) (rs : List P3) (H' : Hp), H l = none → H lr = none → Same H H' → (∀ r, r ∈ rs ↔ r ∈ qs) → NObj NE H' x l lr cs rs → R .non H') :
    spNI NE [.ref x, .ref p, .ref q] (upd (upd H dx (.own x)) x (.ins NE dx [])) R E := by
  have ok' : PsOk cs.length (upd (upd H dx (.own x)) x (.ins NE dx [])) as := ok.same fun b _ o e => made_at e hx hd
  refine ⟨x, dx, p, q, cs, as, rfl, upd_same, made_at hp hx hd, c1, c6, c0, made_at hq hx hd, ok', fun a ha r hr => ?_, fun l lr bs rs H' hl hlr pm sb e1 e2 => ?_⟩
  · obtain ⟨u, v, n, e, _⟩ := ok.1 a ha
    have e' : PAt _ a (u, v, n) := made_at (u := .own x) (v := .ins NE dx []) e hx hd
    have z := hr.eq e'
    obtain ⟨r', hr', pr'⟩ := a2.mem.1 a ha
    have z2 : r' = (u, v, n) := pr'.eq e
    rw [z, ← z2]
    exact r0 r' hr'
  · have fr : ∀ {l}, upd (upd H dx (.own x)) x (.ins NE dx []) l = none → H l = none := fun {l} hl => by
      have nl : l ≠ x := fun z => by rw [z, upd_same] at hl; cases hl
      have nd : l ≠ dx := fun z => by rw [z, upd_ne ne, upd_same] at hl; cases hl
      rw [upd_ne nl, upd_ne nd] at hl
      exact hl
    have s := sb.made hx hd ne
    exact k l lr rs H' (fr hl) (fr hlr) s (mem_perm e1 (a2.imp fun _ _ z => z.keep s.t) pm) e2
-- SPLIT
/-! ### _law_draws -/
theorem drB_ok (i : Int) : CDivB i (10 ^ 60 + 7) := ⟨by decide, Nat.lt_of_lt_of_le (show (10 ^ 60 + 7 : Int).natAbs < 2 ^ 208 by decide) (Nat.pow_le_pow_right (by decide) (by decide))⟩
def spDrw (K : PySem.W.Frag) : Sp := fun vs H Q _ => ∃ (a : Addr) (ns : List Int), vs = [.ref a] ∧ SqL K H a (ns.map V.int) ∧ ns.length ≤ 63 ∧ ∀ (l : Addr) (D : List Int) H', H l = none → Same H H' → 40 ≤ D.length → D.length ≤ 64 → H' l = some (.lst (D.map V.int)) → Q (.ref l) H'
theorem ix_mod {C : List Int} {k : Int} (hC : 1 ≤ C.length) : ∃ j, j < C.length ∧ ixN (C.map V.int).length (k % (C.length : Int)) = some j ∧ atI (C.map V.int) (k % (C.length : Int)) = some (.int (C.getD j 0)) := by
  have h0 : 0 ≤ k % (C.length : Int) := Int.emod_nonneg _ (by omega)
  have h1 : k % (C.length : Int) < (C.length : Int) := Int.emod_lt_of_pos _ (by omega)
  obtain ⟨j, hj⟩ : ∃ j : Nat, k % (C.length : Int) = (j : Int) := ⟨(k % (C.length : Int)).toNat, by omega⟩
  rw [hj] at h0 h1 ⊢
  refine ⟨j, by omega, ?_, atI_nat (by rw [List.getElem?_map, List.getD_eq_getElem?_getD, List.getElem?_eq_getElem (by omega)]; rfl)⟩
  unfold ixN
  rw [List.length_map, if_pos (by omega), if_pos (by omega)]
  rfl
theorem seq_at {a b : TS} {D : Ends} {σ : St} {H : Hp} (R : St → Hp → Prop) (h1 : (∀ σ' H', R σ' H' → b D σ' H') → a { D with nx := b D } σ H) (h2 : ∀ σ' H', R σ' H' → b D σ' H') : tSeq a b D σ H := h1 h2
theorem scDrw : FnScope ["_law_script", "_law_cells", "_law_size", "_law_base", "_law_found", "_law_k", "_law_number"] ["_law_script"] (defScope sDrw) := ⟨rfl, rfl, rfl, by decide +kernel, rfl, by decide +kernel, by decide +kernel⟩
theorem ok_drw (t : Tx K mg "_law_draws" sDrw ["_law_script"] f fd) (T : T K mg AL RU NE fE fH rR rN iR iN fL fN SE NG NN NO NR NL NS NT NX NV TM UL) : Df P w K mg base CX0 1 "_law_draws" ["_law_script"] (spDrw K) f fd := by
  refine t.df0 scDrw (fun vs H Q E h => ?_) (fun cdv A outer s H vs Q E hr h => ?_)
  · obtain ⟨a, ns, rfl, _⟩ := h
    rfl
  · obtain ⟨a, ns, rfl, hq, hns, k⟩ := h
    refine ⟨_, (pss_cons (ps_set (i := 1) scDrw.nd rfl (Or.inl rfl) (pe_callTy call_list_of (by rfl) T.b_list bt_list (pa_cons (pv 0) pa_nil)))
      (pss_cons (ps_if (pt_cmpR (op_eqL hr.units) (pv 1) (pe_lst pa_nil) (nomark _)) (pss_one (ps_expr (pe_bm PySem.F.plainAttrs_list PySem.F.slot_list_append PySem.F.type_list_append mt_appendR (pv 1) (pa_cons pe_int pa_nil)))) pss_nil)
      (pss_cons (ps_set (i := 2) scDrw.nd rfl (Or.inl rfl) (pe_callB call_len_seq (by rfl) T.b_len bt_len (pa_cons (pv 1) pa_nil)))
      (pss_cons (ps_set (i := 3) scDrw.nd rfl (Or.inl rfl) (pe_op op_add (pe_op op_pow pe_int pe_int) pe_int))
      (pss_cons (ps_set (i := 4) scDrw.nd rfl (Or.inl rfl) (pe_lst pa_nil))
      (pss_cons (ps_if (pt_cmpR op_eq (pe_op op_mod (pe_ix ix_list (pv 1) pe_int (fun _ _ => rfl)) pe_int) pe_int (nomark _)) (pss_cons (ps_asg (pe_op op_fdiv (pe_ix ix_list (pv 1) pe_int (fun _ _ => rfl)) pe_int) (pg_sub (pv 1) pe_int set_list))
        (pss_cons (ps_for PassesOwn.never rfl (pi_range1 (by rfl) T.b_range (pa_cons (pe_callB (call_max2 rfl) (by rfl) T.b_max bt_max (pa_cons pe_int (pa_cons (pv 2) pa_nil))) pa_nil)) (pg_name (i := 5) scDrw.nd rfl (Or.inl rfl))
          (pss_cons (ps_expr (pe_bm PySem.F.plainAttrs_list PySem.F.slot_list_append PySem.F.type_list_append mt_appendR (pv 4) (pa_cons (pe_op op_mod (pe_ix ix_list (pv 1) (pe_op op_mod (pv 5) (pv 2)) (fun _ _ => rfl)) (pv 3)) pa_nil)))
          (pss_one (ps_asg (pe_op op_fdivB (pe_ix ix_list (pv 1) (pe_op op_mod (pv 5) (pv 2)) (fun _ _ => rfl)) (pv 3)) (pg_sub (pv 1) (pe_op op_mod (pv 5) (pv 2)) set_list)))))
        (pss_one (ps_ret (pv 4))))) pss_nil)
      (pss_cons (ps_for PassesOwn.never rfl (pi_range1 (by rfl) T.b_range (pa_cons (pe_callB (call_max2 rfl) (by rfl) T.b_max bt_max (pa_cons pe_int (pa_cons (pv 2) pa_nil))) pa_nil)) (pg_name (i := 5) scDrw.nd rfl (Or.inl rfl))
        (pss_cons (ps_set (i := 6) scDrw.nd rfl (Or.inl rfl) (pe_op op_mod (pe_op op_mulB (pe_op op_add (pe_op op_add (pe_ix ix_list (pv 1) (pe_op op_mod (pv 5) (pv 2)) (fun _ _ => rfl)) (pe_op op_mulB (pe_op op_mulB pe_int (pv 5)) (pv 5))) pe_int) pe_int) pe_int))
        (pss_one (ps_expr (pe_bm PySem.F.plainAttrs_list PySem.F.slot_list_append PySem.F.type_list_append mt_appendR (pv 4) (pa_cons (pe_op op_mod (pe_op op_mulB (pe_op op_pow (pv 6) pe_int) pe_int) (pv 3)) pa_nil))))))
      (pss_one (ps_ret (pv 4)))))))))), ?_⟩
    refine ⟨_, rfl, a, _, rfl, .inl hq, fun lc hlc => ?_⟩
    have v1 := Same.upd_new (o := .lst (ns.map V.int)) hlc
    have kc : upd H lc (.lst (ns.map V.int)) lc = some (.lst (ns.map V.int)) := upd_same
    generalize upd H lc (.lst (ns.map V.int)) = H1 at v1 kc ⊢
    have lc0 : H lc = none := hlc
    clear hlc
    dsimp only [gName]
    refine seq_at (fun σ' H' => ∃ C : List Int, 1 ≤ C.length ∧ C.length ≤ 63 ∧ Same H H' ∧ H' lc = some (.lst (C.map V.int)) ∧ σ' = [some (.ref a), some (.ref lc), none, none, none, none, none]) (fun kk => ?_) ?_
    · refine ⟨_, rfl, by show 0 ≤ sizeLine; decide, fun l1 hl1 => ?_⟩
      have v2 := Same.upd_new (o := .lst []) hl1
      have k2 : upd H1 l1 (.lst []) l1 = some (.lst (([] : List Int).map V.int)) := upd_same
      have kc := v2 _ _ kc
      generalize upd H1 l1 (.lst []) = H2 at v2 kc k2 ⊢
      refine ⟨lc, l1, ns, [], rfl, rfl, SqL.of kc, SqL.of k2, _, rfl, ?_⟩
      refine ite2 (fun h3 => ?_) (fun h3 => ?_)
      · have e : ns = [] := of_decide_eq_true h3
        subst e
        refine ⟨_, rfl, .inl ⟨rfl, _, SqL.of kc⟩, lc, _, _, rfl, rfl, kc, by decide, ?_⟩
        exact kk _ _ ⟨[0], by decide, by decide, (v1.trans v2).upd_ne' lc0, upd_same, rfl⟩
      · have e : ns ≠ [] := fun z => h3 (decide_eq_true z)
        exact kk _ _ ⟨ns, List.length_pos_iff.mpr e, hns, v1.trans v2, kc, rfl⟩
    rintro σ' H2 ⟨C, hC1, hC2, s2, kc2, rfl⟩
    clear kc
    have kc := kc2
    clear kc2
    clear v1 hq hns
    have hel : ((C.map V.int).length : Int) = (C.length : Int) := by rw [List.length_map]
    refine ⟨_, rfl, lc, _, rfl, .inl (SqL.of kc), ?_⟩
    show gName 2 (V.int ((C.map V.int).length : Int)) _ _ _
    rw [hel]
    refine ⟨_, _, rfl, rfl, ⟨by decide, by decide, by decide⟩, _, _, rfl, rfl, ?_⟩
    show gName 3 (V.int (10 ^ 60 + 7)) _ _ _
    refine ⟨by show 0 ≤ sizeLine; decide, fun l hl => ?_⟩
    have l0 : H l = none := s2.free hl
    have u3 := Same.upd_new (o := .lst []) hl
    have s3 := s2.trans u3
    have ncl : lc ≠ l := ne_of_none kc hl
    have kc := u3 _ _ kc
    have kd : upd H2 l (.lst []) l = some (.lst []) := upd_same
    generalize upd H2 l (.lst []) = H3 at s3 kc kd ⊢
    clear u3 hl s2
    have hat0 : atI (C.map V.int) 0 = some (.int (C.getD 0 0)) := atI_nat (j := 0) (by rw [List.getElem?_map, List.getD_eq_getElem?_getD, List.getElem?_eq_getElem (by omega)]; rfl)
    have hix0 : ixN (C.map V.int).length 0 = some 0 := by
      unfold ixN
      rw [List.length_map, if_pos (by omega), if_pos (by omega)]
      rfl
    obtain ⟨mm, hmm, m40, m64⟩ : ∃ mm : Nat, (if (C.length : Int) > 40 then (C.length : Int) else 40) = (mm : Int) ∧ 40 ≤ mm ∧ mm ≤ 64 := by
      by_cases h : (C.length : Int) > 40
      · exact ⟨C.length, if_pos h, by omega, by omega⟩
      · exact ⟨40, if_neg h, by omega, by omega⟩
    refine ⟨_, rfl, lc, _, _, _, rfl, rfl, SqL.of kc, hat0, _, _, rfl, rfl, (by show (0 : Int) < 2; decide), rfl, _, rfl, ite2 (fun _ => ?_) (fun _ => ?_)⟩
    · refine ⟨_, rfl, lc, _, _, _, rfl, rfl, SqL.of kc, hat0, _, _, rfl, rfl, ⟨by decide, by decide⟩, _, rfl, lc, _, _, 0, rfl, rfl, kc, hix0, ?_⟩
      refine ⟨_, rfl, _, _, rfl, (mm : Int), (by show [V.int (if (C.length : Int) > 40 then (C.length : Int) else 40)] = _; rw [hmm]), by omega, by omega, ?_⟩
      refine for_range (n := mm) (fun i σ' H' => ∃ (D L : List Int) (o5 : Option V), D.length = i ∧ L.length = C.length ∧ Same H H' ∧ H' l = some (.lst (D.map V.int)) ∧ H' lc = some (.lst (L.map V.int)) ∧ σ' = [some (.ref a), some (.ref lc), some (.int (C.length : Int)), some (.int (10 ^ 60 + 7)), some (.ref l), o5, none]) ?_ ?_ ?_
      · refine ⟨[], C.set 0 (C.getD 0 0 / 2), none, rfl, by rw [List.length_set], s3.upd_ne' lc0, ?_, ?_, rfl⟩
        · rw [upd_ne ncl.symm]
          exact kd
        · rw [upd_same, List.map_set]
      · rintro i σ' H4 hi ⟨D, L, o5, hD, hL, s4, h1, h2, rfl⟩
        have hLe : (L.length : Int) = (C.length : Int) := by rw [hL]
        obtain ⟨j, hj, hij, haj⟩ := ix_mod (C := L) (k := 0 + (i : Int)) (by omega)
        rw [hLe] at hij haj
        have hCp : (0 : Int) < (C.length : Int) := by omega
        refine ⟨_, rfl, .inl ⟨rfl, _, SqL.of h1⟩, _, rfl, _, rfl, _, rfl, _, _, rfl, rfl, hCp, lc, _, _, _, rfl, rfl, SqL.of h2, haj, _, rfl, _, _, rfl, rfl, (by show (0 : Int) < 10 ^ 60 + 7; decide), l, _, _, rfl, rfl, h1, by rw [List.length_map]; exact small1000 (by omega), ?_⟩
        have h3 : upd H4 l (.lst (D.map V.int ++ [V.int (L.getD j 0 % (10 ^ 60 + 7))])) lc = some (.lst (L.map V.int)) := by rw [upd_ne ncl]; exact h2
        refine ⟨_, rfl, _, rfl, _, rfl, _, _, rfl, rfl, hCp, lc, _, _, _, rfl, rfl, SqL.of h3, haj, _, rfl, _, _, rfl, rfl, drB_ok _, _, rfl, _, rfl, _, rfl, _, _, rfl, rfl, hCp, lc, _, _, j, rfl, rfl, h3, hij, ?_⟩
        refine ⟨D ++ [L.getD j 0 % (10 ^ 60 + 7)], L.set j ((L.getD j 0).fdiv (10 ^ 60 + 7)), some (.int (0 + (i : Int))), by rw [List.length_append, hD]; rfl, by rw [List.length_set]; exact hL, (s4.upd_ne' l0).upd_ne' lc0, ?_, ?_, rfl⟩
        · rw [upd_ne ncl.symm, upd_same, List.map_append]
          rfl
        · rw [upd_same, List.map_set]
      · rintro σ' H4 ⟨D, L, o5, hD, hL, s4, h1, h2, rfl⟩
        exact ⟨_, rfl, k l D H4 l0 s4 (by omega) (by omega) h1⟩
    · refine ⟨_, rfl, _, _, rfl, (mm : Int), (by show [V.int (if (C.length : Int) > 40 then (C.length : Int) else 40)] = _; rw [hmm]), by omega, by omega, ?_⟩
      refine for_range (n := mm) (fun i σ' H' => ∃ (D : List Int) (o5 o6 : Option V), D.length = i ∧ Same H H' ∧ H' l = some (.lst (D.map V.int)) ∧ H' lc = some (.lst (C.map V.int)) ∧ σ' = [some (.ref a), some (.ref lc), some (.int (C.length : Int)), some (.int (10 ^ 60 + 7)), some (.ref l), o5, o6]) ?_ ?_ ?_
      · exact ⟨[], none, none, rfl, s3, kd, kc, rfl⟩
      · rintro i σ' H4 hi ⟨D, o5, o6, hD, s4, h1, h2, rfl⟩
        obtain ⟨j, hj, hij, haj⟩ := ix_mod (C := C) (k := 0 + (i : Int)) (by omega)
        have hCp : (0 : Int) < (C.length : Int) := by omega
        have b1 : -(2 ^ 64) < 7919 * (0 + (i : Int)) ∧ 7919 * (0 + (i : Int)) < 2 ^ 64 := by omega
        generalize C.getD j 0 = z at haj
        refine ⟨_, rfl, _, rfl, _, rfl, _, _, rfl, rfl, hCp, lc, _, _, _, rfl, rfl, SqL.of h2, haj, _, rfl, _, _, rfl, rfl, .inl (.inl ⟨by decide, by decide⟩), _, rfl, _, _, rfl, rfl, .inl (.inl b1), _, _, rfl, rfl, _, _, rfl, rfl, _, _, rfl, rfl, .inl (.inr ⟨by decide, by decide⟩), _, _, rfl, rfl, (by show (0 : Int) < 2147483629; decide), ?_⟩
        obtain ⟨v, hv, v0, v1⟩ : ∃ v : Int, (z + 7919 * (0 + (i : Int)) * (0 + (i : Int)) + 11) * 48271 % 2147483629 = v ∧ 0 ≤ v ∧ v < 2147483629 := ⟨_, rfl, Int.emod_nonneg _ (by decide), Int.emod_lt_of_pos _ (by decide)⟩
        show gName 6 (V.int ((z + 7919 * (0 + (i : Int)) * (0 + (i : Int)) + 11) * 48271 % 2147483629)) _ _ _
        rw [hv]
        refine ⟨_, rfl, .inl ⟨rfl, _, SqL.of h1⟩, _, rfl, _, _, rfl, rfl, ⟨by decide, by decide, by omega⟩, _, _, rfl, rfl, .inl (.inr ⟨by decide, by decide⟩), _, rfl, _, _, rfl, rfl, (by show (0 : Int) < 10 ^ 60 + 7; decide), l, _, _, rfl, rfl, h1, by rw [List.length_map]; exact small1000 (by omega), ?_⟩
        refine ⟨D ++ [v ^ (7 : Int).toNat * 1000000007 % (10 ^ 60 + 7)], _, _, by rw [List.length_append, hD]; rfl, s4.upd_ne' l0, ?_, ?_, rfl⟩
        · rw [upd_same, List.map_append]
          rfl
        · rw [upd_ne ncl]
          exact h2
      · rintro σ' H4 ⟨D, o5, o6, hD, s4, h1, h2, rfl⟩
        exact ⟨_, rfl, k l D H4 l0 s4 (by omega) (by omega) h1⟩
/-! ### _law_row -/
def spRow : Sp := fun vs H Q _ => ∃ (a : Addr) (D : List Int) (st m : Nat) (far : Int), vs = [.ref a, .int (st : Int), .int (m : Int), .int far] ∧ H a = some (.lst (D.map V.int)) ∧ 40 ≤ D.length ∧ D.length ≤ 64 ∧ 1 ≤ m ∧ st + m ≤ 40 ∧ 0 < far ∧
  ∀ (l : Addr) (rs : List Int) (H' : Hp), rs.length = m → (∀ r ∈ rs, 0 ≤ far + r) → H l = none → Same H H' → H' l = some (.lst (rs.map V.int)) → Q (.ref l) H'
theorem at_ints {D : List Int} {i : Nat} (h : i < D.length) : atI (D.map V.int) (i : Int) = some (.int (D.getD i 0)) := atI_nat (by rw [List.getElem?_map, List.getD_eq_getElem?_getD, List.getElem?_eq_getElem h]; rfl)
theorem scRow : FnScope ["_law_draws_here", "_law_start", "_law_many", "_law_far", "_law_told", "_law_k"] ["_law_draws_here", "_law_start", "_law_many", "_law_far"] (defScope sRow) := ⟨rfl, rfl, rfl, by decide +kernel, rfl, by decide +kernel, by decide +kernel⟩
theorem ok_row (t : Tx K mg "_law_row" sRow ["_law_draws_here", "_law_start", "_law_many", "_law_far"] f fd) (T : T K mg AL RU NE fE fH rR rN iR iN fL fN SE NG NN NO NR NL NS NT NX NV TM UL) : Df P w K mg base CX0 1 "_law_row" ["_law_draws_here", "_law_start", "_law_many", "_law_far"] spRow f fd := by
  refine t.df0 scRow (fun vs H Q E h => ?_) (fun cdv A outer s H vs Q E hr h => ?_)
  · obtain ⟨a, D, st, m, far, rfl, _⟩ := h
    rfl
  · obtain ⟨a, D, st, m, far, rfl, ha, d40, d64, m1, sm, hfar, k⟩ := h
    refine ⟨_, (pss_cons (ps_setC (NB := ["_law_k", "_law_draws_here", "_law_start"]) (pick := [none, some 0, some 1]) (i := 4) scRow.nd rfl (by first | exact Or.inl rfl | exact Or.inr rfl) (by rfl) (blk_mk (by with_unfolding_all rfl) (by exact (And.intro rfl (And.intro rfl trivial))) rfl (by decide +kernel) (by decide +kernel) (by rfl) (by rfl)) rfl
          (pi_range1 (by rfl) T.b_range (pa_cons (pv 2) pa_nil)) (fun _ _ _ => pg_name (i := 0) (show (["_law_k", "_law_draws_here", "_law_start"] : List Str).Nodup from by decide +kernel) rfl (Or.inl rfl))
          (fun _ _ _ => pif_nil) (fun _ _ _ => (pe_ix (ix_listK K) (pv 1) (pe_op op_add (pv 2) (pv 0)) (fun _ _ => rfl))))
      (pss_cons (ps_for PassesOwn.never rfl (pi_range2 (by rfl) T.b_range (pa_cons pe_int (pa_cons (pe_callB call_len_seq (by rfl) T.b_len bt_len (pa_cons (pv 0) pa_nil)) pa_nil))) (pg_name (i := 5) scRow.nd rfl (by first | exact Or.inl rfl | exact Or.inr rfl))
        (pss_one (ps_asg (pe_op op_add (pe_ix ix_list (pv 4) (pe_op op_mod (pv 5) (pv 2)) (fun _ _ => rfl)) (pe_ix ix_list (pv 0) (pv 5) (fun _ _ => rfl))) (pg_sub (pv 4) (pe_op op_mod (pv 5) (pv 2)) set_list))))
      (pss_one (ps_ret (pe_comp (NB := ["_law_number", "_law_far"]) (pick := [none, some 3]) (blk_mk (by with_unfolding_all rfl) (by exact (And.intro rfl trivial)) rfl (by decide +kernel) (by decide +kernel) (by rfl) (by rfl)) rfl
          (pi_list (pv 4)) (fun _ _ _ => pg_name (i := 0) (show (["_law_number", "_law_far"] : List Str).Nodup from by decide +kernel) rfl (Or.inl rfl))
          (fun _ _ _ => pif_nil) (fun _ _ _ => (pe_op op_sub (pe_op op_mod (pv 0) (pe_op op_add (pe_op op_mulB pe_int (pv 1)) pe_int)) (pv 1)))))))), ?_⟩
    refine ⟨_, rfl, (m : Int), rfl, by omega, by omega, ?_⟩
    refine comp_rng (n := m) (fun i => some (.int (D.getD (st + i) 0))) (Nat.le_of_lt (small1000 (by omega))) (fun i H2 kk kk0 s2 hi h1 h2 => ?_) fun l H2 hl s2 h2 => ?_
    · have hat : atI (D.map V.int) ((st : Int) + (0 + (i : Int))) = some (.int (D.getD (st + i) 0)) := by
        rw [show (st : Int) + (0 + (i : Int)) = ((st + i : Nat) : Int) by omega]
        exact at_ints (by omega)
      exact ⟨_, rfl, _, rfl, _, rfl, _, _, rfl, rfl, a, _, _, _, rfl, rfl, SqL.of (s2 _ _ ha), hat, h1 _ rfl _ (.refl _)⟩
    have er : ∃ r0 : List Int, r0.length = m ∧ (List.range m).filterMap (fun (i : Nat) => some (V.int (D.getD (st + i) 0))) = r0.map V.int := by
      refine ⟨(List.range m).map fun (i : Nat) => D.getD (st + i) 0, by rw [List.length_map, List.length_range], ?_⟩
      rw [List.map_map, ← List.filterMap_eq_map]
      rfl
    obtain ⟨r0, hr0, er⟩ := er
    rw [er] at h2
    have en : ((D.length : Int) - 40).toNat = D.length - 40 := by omega
    have hel : ((D.map V.int).length : Int) = (D.length : Int) := by rw [List.length_map]
    refine ⟨_, rfl, a, _, rfl, .inl (SqL.of (s2 _ _ ha)), 40, (D.length : Int), (by show [V.int 40, V.int ((D.map V.int).length : Int)] = _; rw [hel]), ⟨by decide, by decide, by omega, by omega⟩, ?_⟩
    rw [en]
    refine for_range (n := D.length - 40) (fun i σ' H' => ∃ (rs : List Int) (o5 o6 : Option V), rs.length = m ∧ Same H H' ∧ H' l = some (.lst (rs.map V.int)) ∧ σ' = [some (.ref a), some (.int (st : Int)), some (.int (m : Int)), some (.int far), some (.ref l), o5]) ?_ ?_ ?_
    · exact ⟨r0, none, none, hr0, s2, h2, rfl⟩
    · rintro i σ' H3 hi ⟨rs, o5, o6, hrs, s3, h3, rfl⟩
      have hm : (0 : Int) < (m : Int) := by omega
      obtain ⟨j, hj, hij, haj⟩ := ix_mod (C := rs) (k := 40 + (i : Int)) (by omega)
      rw [hrs] at hij haj
      have hat2 : atI (D.map V.int) (40 + (i : Int)) = some (.int (D.getD (40 + i) 0)) := by
        rw [show (40 : Int) + (i : Int) = ((40 + i : Nat) : Int) by omega]
        exact at_ints (by omega)
      refine ⟨_, rfl, _, rfl, _, rfl, _, _, rfl, rfl, hm, l, _, _, _, rfl, rfl, SqL.of h3, haj, _, rfl, _, rfl, a, _, _, _, rfl, rfl, SqL.of (s3 _ _ ha), hat2, _, _, rfl, rfl, _, rfl, _, rfl, _, rfl, _, _, rfl, rfl, hm, l, _, _, j, rfl, rfl, h3, hij, ?_⟩
      refine ⟨rs.set j (rs.getD j 0 + D.getD (40 + i) 0), _, none, by rw [List.length_set]; exact hrs, s3.upd_ne' hl, ?_, rfl⟩
      rw [upd_same, List.map_set]
    · rintro σ' H3 ⟨rs, o5, o6, hrs, s3, h3, rfl⟩
      refine ⟨_, rfl, l, rfl, ⟨_, SqL.of h3⟩, ?_⟩
      refine comp_lst (xs := rs.map V.int) (fun _ x => match x with | .int i => some (.int (i % (2 * far + 1) - far)) | _ => none) (SqL.of h3) (by rw [List.length_map]; exact Nat.le_of_lt (small1000 (by omega))) (fun i x H2 kk kk0 s2 hx h1 h2 => ?_) fun D H2 hD s2 hd => ?_
      · obtain ⟨j, hj, rfl⟩ := List.mem_map.mp (List.mem_of_getElem? hx)
        exact ⟨_, rfl, _, rfl, _, _, rfl, rfl, .inl (.inl ⟨by decide, by decide⟩), _, _, rfl, rfl, _, _, rfl, rfl, (by show 0 < 2 * far + 1; omega), _, rfl, _, _, rfl, rfl, h1 _ rfl _ (.refl _)⟩
      · have hd : H2 D = some (.lst ((rs.map fun r => r % (2 * far + 1) - far).map V.int)) := by
          rw [hd, fm_bind, List.filterMap_map, List.map_map, ← List.filterMap_eq_map]
          rfl
        exact k D _ H2 (by rw [List.length_map]; exact hrs) (fun r hr => by obtain ⟨y, _, rfl⟩ := List.mem_map.mp hr; have := Int.emod_nonneg y (b := 2 * far + 1) (by omega); omega) (s3.free hD) (s3.trans s2) hd
/-! ### _law_hands, _law_power -/
def spLHn : Sp := fun vs H Q _ => ∃ g : Nat, vs = [.int (g : Int)] ∧ g < 64 ∧ ∀ (l : Addr) (H' : Hp), H l = none → Same H H' → H' l = some (.lst ((hands g).map V.int)) → Q (.ref l) H'
theorem hN_succ (g i : Nat) : hN g (i + 1) = if g / 2 ^ i % 2 = 1 then hN g i ++ [(i : Int)] else hN g i := rfl
theorem scLHn : FnScope ["_law_group", "_law_due", "_law_rest", "_law_hand"] ["_law_group"] (defScope sLHn) := ⟨rfl, rfl, rfl, by decide +kernel, rfl, by decide +kernel, by decide +kernel⟩
theorem half_at (g j : Nat) : ((g / 2 ^ j : Nat) : Int) / 2 = ((g / 2 ^ (j + 1) : Nat) : Int) := by
  rw [Nat.pow_succ, ← Nat.div_div_eq_div_mul]
  omega
theorem ok_lhn (t : Tx K mg "_law_hands" sLHn ["_law_group"] f fd) (T : T K mg AL RU NE fE fH rR rN iR iN fL fN SE NG NN NO NR NL NS NT NX NV TM UL) : Df P w K mg base CX0 1 "_law_hands" ["_law_group"] spLHn f fd := by
  refine t.df0 scLHn (fun vs H Q E h => ?_) (fun cdv A outer s H vs Q E hr h => ?_)
  · obtain ⟨g, rfl, _⟩ := h
    rfl
  · obtain ⟨g, rfl, hg, k⟩ := h
    refine ⟨_, (pss_cons (ps_set (i := 1) scLHn.nd rfl (Or.inl rfl) (pe_lst pa_nil))
      (pss_cons (ps_set (i := 2) scLHn.nd rfl (Or.inl rfl) (pv 0))
      (pss_cons (ps_for PassesOwn.never rfl (pi_range1 (by rfl) T.b_range (pa_cons pe_int pa_nil)) (pg_name (i := 3) scLHn.nd rfl (Or.inl rfl))
        (pss_cons (ps_if (pt_cmpR op_eq (pe_op op_mod (pv 2) pe_int) pe_int (nomark _)) (pss_one (ps_expr (pe_bm PySem.F.plainAttrs_list PySem.F.slot_list_append PySem.F.type_list_append mt_appendR (pv 1) (pa_cons (pv 3) pa_nil)))) pss_nil)
        (pss_one (ps_set (i := 2) scLHn.nd rfl (Or.inl rfl) (pe_op op_fdiv (pv 2) pe_int)))))
      (pss_one (ps_ret (pv 1)))))), ?_⟩
    refine ⟨by show 0 ≤ sizeLine; decide, fun l hl => ?_⟩
    refine ⟨_, rfl, 6, rfl, by decide, by decide, ?_⟩
    refine for_range (n := 6) (fun i σ' H' => Same H H' ∧ ∃ o3 : Option V, H' l = some (.lst ((hN g i).map V.int)) ∧ σ' = [some (.int (g : Int)), some (.ref l), some (.int ((g / 2 ^ i : Nat) : Int)), o3]) ?_ ?_ ?_
    · refine ⟨.upd_new hl, none, upd_same, ?_⟩
      show [some (V.int (g : Int)), some (V.ref l), some (V.int (g : Int)), none] = _
      rw [show g / 2 ^ 0 = g by simp]
    · rintro i σ' H2 hi ⟨s2, o3, h2, rfl⟩
      dsimp only [gName]
      refine seq_at (fun σ' H' => Same H H' ∧ H' l = some (.lst ((hN g (i + 1)).map V.int)) ∧ σ' = [some (.int (g : Int)), some (.ref l), some (.int ((g / 2 ^ i : Nat) : Int)), some (.int (0 + (i : Int)))]) (fun kk => ?_) ?_
      · refine ⟨_, rfl, _, _, rfl, rfl, (by show (0 : Int) < 2; decide), rfl, _, rfl, ite2 (fun h3 => ?_) (fun h3 => ?_)⟩
        · have h3 : g / 2 ^ i % 2 = 1 := by have := V.int.inj (of_decide_eq_true h3); omega
          refine ⟨_, rfl, .inl ⟨rfl, _, SqL.of h2⟩, _, rfl, l, _, _, rfl, rfl, h2, by rw [List.length_map]; exact small1000 (by have := hN_len g i; omega), ?_⟩
          refine kk _ _ ⟨s2.upd_ne' hl, ?_, rfl⟩
          rw [upd_same, hN_succ, if_pos h3, List.map_append, Int.zero_add]
          rfl
        · have h3 : ¬ g / 2 ^ i % 2 = 1 := fun z => h3 (decide_eq_true (congrArg V.int (by omega)))
          refine kk _ _ ⟨s2, ?_, rfl⟩
          rw [hN_succ, if_neg h3]
          exact h2
      · rintro σ' H3 ⟨s3, h3, rfl⟩
        refine ⟨_, rfl, _, _, rfl, rfl, ⟨by decide, by decide⟩, s3, some (.int (0 + (i : Int))), h3, ?_⟩
        show [some (V.int (g : Int)), some (V.ref l), some (V.int (((g / 2 ^ i : Nat) : Int) / 2)), _] = _
        rw [half_at]
    · rintro σ' H2 ⟨s2, o3, h2, rfl⟩
      exact ⟨_, rfl, k l H2 hl s2 h2⟩
/-! ### _law_ropes -/
def tri : Nat → Nat
  | 0 => 0
  | k + 1 => tri k + k
theorem tri_le : ∀ i : _root_.Fin 6, tri i.1 + i.1 ≤ 15 := by decide
/-- so far: the pairs ahead of (j, i) -/
def PsTo (i j : Nat) (H : Hp) (bs : List Addr) : Prop := (∀ b ∈ bs, ∃ (u v : Nat) (n : Int), H b = some (.tup [.int (u : Int), .int (v : Int), .int n]) ∧ u < v ∧ (v < i ∨ (v = i ∧ u < j))) ∧ (bs.map fun b => keyP (tupV H b)).Nodup ∧ bs.length ≤ tri i + j
theorem PsTo.keep {i j : Nat} {H H' : Hp} {bs : List Addr} (h : PsTo i j H bs) (s : ∀ b xs, H b = some (.tup xs) → H' b = some (.tup xs)) : PsTo i j H' bs := by
  refine ⟨fun b hb => ?_, ?_, h.2.2⟩
  · obtain ⟨u, v, n, e, z⟩ := h.1 b hb
    exact ⟨u, v, n, s b _ e, z⟩
  · have e : (bs.map fun b => keyP (tupV H' b)) = bs.map fun b => keyP (tupV H b) := List.map_congr_left fun b hb => by
      obtain ⟨u, v, n, e, _⟩ := h.1 b hb
      rw [tupV_at e, tupV_at (s b _ e)]
    rw [e]
    exact h.2.1
theorem PsTo.go {i j : Nat} {H : Hp} {bs : List Addr} (h : PsTo i j H bs) : PsTo i (j + 1) H bs :=
  ⟨fun b hb => let ⟨u, v, n, e, z1, z2⟩ := h.1 b hb; ⟨u, v, n, e, z1, by omega⟩, h.2.1, by have := h.2.2; omega⟩
theorem PsTo.up {i : Nat} {H : Hp} {bs : List Addr} (h : PsTo i i H bs) : PsTo (i + 1) 0 H bs :=
  ⟨fun b hb => let ⟨u, v, n, e, z1, z2⟩ := h.1 b hb; ⟨u, v, n, e, z1, by omega⟩, h.2.1, h.2.2⟩
theorem PsTo.add {i j : Nat} {n : Int} {H : Hp} {bs : List Addr} {b : Addr} (h : PsTo i j H bs) (hb : H b = some (.tup [.int (j : Int), .int (i : Int), .int n])) (hj : j < i) : PsTo i (j + 1) H (bs ++ [b]) := by
  refine ⟨fun c hc => ?_, ?_, by rw [List.length_append]; have := h.2.2; show _ + 1 ≤ _; omega⟩
  · rcases List.mem_append.mp hc with hc | hc
    · exact h.go.1 c hc
    · have : c = b := by simpa using hc
      subst this
      exact ⟨j, i, n, hb, hj, .inr ⟨rfl, by omega⟩⟩
  · rw [List.map_append, List.nodup_append]
    refine ⟨h.2.1, by simp, fun x hx y hy e => ?_⟩
    subst e
    obtain ⟨c, hc, rfl⟩ := List.mem_map.mp hx
    obtain ⟨u, v, n', e, z1, z2⟩ := h.1 c hc
    have hy : keyP (tupV H c) = keyP (tupV H b) := by simpa using hy
    rw [tupV_at e, tupV_at hb] at hy
    have y1 : (u : Int) = j := (Prod.mk.inj hy).1
    have y2 : (v : Int) = i := (Prod.mk.inj hy).2
    omega
def PsN (i j : Nat) (H : Hp) (bs : List Addr) : Prop := PsTo i j H bs ∧ ∀ b ∈ bs, ∃ (u v : Nat) (n : Int), H b = some (.tup [.int (u : Int), .int (v : Int), .int n]) ∧ 0 ≤ n
theorem PsN.keep {i j : Nat} {H H' : Hp} {bs : List Addr} (h : PsN i j H bs) (s : ∀ b xs, H b = some (.tup xs) → H' b = some (.tup xs)) : PsN i j H' bs := ⟨h.1.keep s, fun b hb => let ⟨u, v, n, e, z⟩ := h.2 b hb; ⟨u, v, n, s _ _ e, z⟩⟩
theorem PsN.go {i j : Nat} {H : Hp} {bs : List Addr} (h : PsN i j H bs) : PsN i (j + 1) H bs := ⟨h.1.go, h.2⟩
theorem PsN.up {i : Nat} {H : Hp} {bs : List Addr} (h : PsN i i H bs) : PsN (i + 1) 0 H bs := ⟨h.1.up, h.2⟩
theorem PsN.add {i j : Nat} {n : Int} {H : Hp} {bs : List Addr} {b : Addr} (h : PsN i j H bs) (hb : H b = some (.tup [.int (j : Int), .int (i : Int), .int n])) (hj : j < i) (n0 : 0 ≤ n) : PsN i (j + 1) H (bs ++ [b]) :=
  ⟨h.1.add hb hj, fun c hc => by
    rcases List.mem_append.mp hc with hc | hc
    · exact h.2 c hc
    · have : c = b := by simpa using hc
      subst this
      exact ⟨j, i, n, hb, n0⟩⟩
def spRps : Sp := fun vs H Q _ => ∃ (a : Addr) (D : List Int) (m : Nat) (far : Int), vs = [.ref a, .int (m : Int), .int far] ∧ H a = some (.lst (D.map V.int)) ∧ 40 ≤ D.length ∧ D.length ≤ 64 ∧ m ≤ 6 ∧ 0 < far ∧
  ∀ (l : Addr) (bs : List Addr) (H' : Hp), H l = none → Same H H' → H' l = some (.lst (bs.map V.ref)) → PsOk m H' bs → (∀ b ∈ bs, ∀ r, PAt H' b r → 0 ≤ r.2.2) → Q (.ref l) H'
theorem scRps : FnScope ["_law_draws_here", "_law_many", "_law_far", "_law_numbers", "_law_kept", "_law_ropes_here", "_law_other", "_law_one", "_law_number", "_law_at"] ["_law_draws_here", "_law_many", "_law_far"] (defScope sRps) := ⟨rfl, rfl, rfl, by decide +kernel, rfl, by decide +kernel, by decide +kernel⟩
theorem ok_rps {f1 : Addr} {fd1 : FuncData} (t : Tx K mg "_law_ropes" sRps ["_law_draws_here", "_law_many", "_law_far"] f fd) (T : T K mg AL RU NE fE fH rR rN iR iN fL fN SE NG NN NO NR NL NS NT NX NV TM UL) (D_law_row : Df P w K mg base CX0 1 "_law_row" ["_law_draws_here", "_law_start", "_law_many", "_law_far"] spRow f1 fd1) :
    Df P w K mg base CX0 2 "_law_ropes" ["_law_draws_here", "_law_many", "_law_far"] spRps f fd := by
  refine t.df0 scRps (fun vs H Q E h => ?_) (fun cdv A outer s H vs Q E hr h => ?_)
  · obtain ⟨a, D, m, far, rfl, _⟩ := h
    rfl
  · obtain ⟨a, D, m, far, rfl, ha, d40, d64, m6, hfar, k⟩ := h
    refine ⟨_, (pss_cons (ps_setC (NB := ["_law_number", "_law_far"]) (pick := [none, some 2]) (i := 3) scRps.nd rfl (Or.inl rfl) (by rfl) (blk_mk (by with_unfolding_all rfl) (by exact (And.intro rfl trivial)) rfl (by decide +kernel) (by decide +kernel) (by rfl) (by rfl)) rfl
          (pi_list (pe_d0 D_law_row hr (by decide) (by rfl) (pa_cons (pv 0) (pa_cons pe_int (pa_cons pe_int (pa_cons (pv 2) pa_nil)))))) (fun _ _ _ => pg_name (i := 0) (show (["_law_number", "_law_far"] : List Str).Nodup from by decide +kernel) rfl (Or.inl rfl))
          (fun _ _ _ => pif_nil) (fun _ _ _ => (pe_op op_add (pv 1) (pv 0))))
      (pss_cons (ps_set (i := 4) scRps.nd rfl (Or.inl rfl) (pe_ix ix_list (pv 0) pe_int (fun _ _ => rfl)))
      (pss_cons (ps_set (i := 5) scRps.nd rfl (Or.inl rfl) (pe_lst pa_nil))
      (pss_cons (ps_for PassesOwn.never rfl (pi_range1 (by rfl) T.b_range (pa_cons (pv 1) pa_nil)) (pg_name (i := 6) scRps.nd rfl (Or.inl rfl))
        (pss_one (ps_for PassesOwn.never rfl (pi_range1 (by rfl) T.b_range (pa_cons (pv 6) pa_nil)) (pg_name (i := 7) scRps.nd rfl (Or.inl rfl))
          (pss_cons (ps_set (i := 8) scRps.nd rfl (by first | exact Or.inl rfl | exact Or.inr rfl) (pe_bm0 PySem.F.plainAttrs_list PySem.F.slot_list_pop PySem.F.type_list_pop mt_popR (pv 3)))
          (pss_cons (ps_if (PW.pt (pw_or (pt_cmpR op_gt (pe_op op_mod (pe_ix ix_list (pv 0) pe_int (fun _ _ => rfl)) pe_int) pe_int (nomark _)) (pw_or1 (pt_cmpR op_eq (pe_op op_mod (pv 4) pe_int) pe_int (nomark _))))) (pss_one (ps_expr (pe_bm PySem.F.plainAttrs_list PySem.F.slot_list_append PySem.F.type_list_append mt_appendR (pv 5) (pa_cons (pe_tup (pa_cons (pv 7) (pa_cons (pv 6) (pa_cons (pv 8) pa_nil)))) pa_nil)))) pss_nil)
          (pss_one (ps_set (i := 4) scRps.nd rfl (Or.inl rfl) (pe_op op_fdiv (pv 4) pe_int))))))))
      (pss_cons (ps_set (i := 9) scRps.nd rfl (Or.inl rfl) (pe_op op_mod (pe_ix ix_list (pv 0) pe_int (fun _ _ => rfl)) (pe_op op_add (pe_callB call_len_seq (by rfl) T.b_len bt_len (pa_cons (pv 5) pa_nil)) pe_int)))
      (pss_one (ps_ret (pe_op op_catQ (pe_slice sl_list (pv 5) (po_some (pv 9)) po_none) (pe_slice sl_list (pv 5) po_none (po_some (pv 9))))))))))), ?_⟩
    refine ⟨_, rfl, _, rfl, a, D, 1, 15, far, rfl, ha, d40, d64, by decide, by decide, hfar, fun l1 nu0 H0 hnu0 hb0 l10 s0 hl1 => ⟨l1, rfl, ⟨_, SqL.of hl1⟩, ?_⟩⟩
    refine comp_lst (xs := nu0.map V.int) (fun _ x => match x with | .int n => some (.int (far + n)) | _ => none) (SqL.of hl1) (by rw [List.length_map, hnu0]; exact Nat.le_of_lt (small1000 (by omega))) (fun i x H2 kk kk0 s2 hx h1 h2 => ?_) fun ln H1 ln0' s1' hd => ?_
    · obtain ⟨n, _, rfl⟩ := List.mem_map.mp (List.mem_of_getElem? hx)
      exact ⟨_, rfl, _, rfl, _, _, rfl, rfl, h1 _ rfl _ (.refl _)⟩
    have ln0 : H ln = none := s0.free ln0'
    have s1 := s0.trans s1'
    obtain ⟨nu, hnu, hnn, hln⟩ : ∃ nu : List Int, nu.length = 15 ∧ (∀ n ∈ nu, 0 ≤ n) ∧ H1 ln = some (.lst (nu.map V.int)) := by
      refine ⟨nu0.map fun n => far + n, by rw [List.length_map]; exact hnu0, fun n hn => ?_, ?_⟩
      · obtain ⟨y, hy, rfl⟩ := List.mem_map.mp hn
        exact hb0 y hy
      · rw [hd, fm_bind, List.filterMap_map, List.map_map, ← List.filterMap_eq_map]
        rfl
    refine ⟨_, rfl, a, _, _, _, rfl, rfl, SqL.of (s1 _ _ ha), at_ints (i := 16) (by omega), ?_⟩
    refine ⟨by show 0 ≤ sizeLine; decide, fun lp hlp => ?_⟩
    have lp0 : H lp = none := s1.free hlp
    have nlp : lp ≠ ln := (ne_of_none hln hlp).symm
    refine ⟨_, rfl, (m : Int), rfl, by omega, by omega, ?_⟩
    refine for_range (n := m) (fun i σ' H' => Same H H' ∧ ∃ (nu' : List Int) (bs : List Addr) (c : Int) (o6 o7 o8 : Option V), H' ln = some (.lst (nu'.map V.int)) ∧ (nu'.length + tri i = 15 ∧ ∀ n ∈ nu', 0 ≤ n) ∧ H' lp = some (.lst (bs.map V.ref)) ∧ PsN i 0 H' bs ∧ σ' = [some (.ref a), some (.int (m : Int)), some (.int far), some (.ref ln), some (.int c), some (.ref lp), o6, o7, o8, none]) ?_ ?_ ?_
    · exact ⟨s1.upd_ne' lp0, nu, [], D.getD 16 0, none, none, none, by rw [upd_ne nlp.symm]; exact hln, ⟨by rw [hnu]; rfl, hnn⟩, upd_same, ⟨⟨fun b hb => absurd hb (by simp), by simp, by simp⟩, fun b hb => absurd hb (by simp)⟩, rfl⟩
    · rintro i σ' H' hi ⟨s2, nu', bs, c, o6, o7, o8, h1, h2, h3, h4, rfl⟩
      refine ⟨_, rfl, (i : Int), (by show [V.int (0 + (i : Int))] = _; rw [Int.zero_add]), by omega, by omega, ?_⟩
      refine for_range (n := i) (fun j σ' H' => Same H H' ∧ ∃ (nu' : List Int) (bs : List Addr) (c : Int) (o7 o8 : Option V), H' ln = some (.lst (nu'.map V.int)) ∧ (nu'.length + tri i + j = 15 ∧ ∀ n ∈ nu', 0 ≤ n) ∧ H' lp = some (.lst (bs.map V.ref)) ∧ PsN i j H' bs ∧ σ' = [some (.ref a), some (.int (m : Int)), some (.int far), some (.ref ln), some (.int c), some (.ref lp), some (.int (0 + (i : Int))), o7, o8, none]) ?_ ?_ ?_
      · exact ⟨s2, nu', bs, c, o7, o8, h1, h2, h3, h4, rfl⟩
      · clear h1 h2 h3 h4 s2 nu' bs o7 o8 c
        rintro j σ' H' hj ⟨s2, nu', bs, c, o7, o8, h1, h2, h3, h4, rfl⟩
        have ht := tri_le ⟨i, by omega⟩
        have ht : tri i + i ≤ 15 := ht
        have hpos : 0 < nu'.length := by have := h2.1; omega
        obtain ⟨n, hn⟩ : ∃ n, nu'[nu'.length - 1]? = some n := ⟨_, List.getElem?_eq_getElem (by omega)⟩
        have hpop : (nu'.map V.int)[(nu'.map V.int).length - 1]? = some (.int n) := by rw [List.length_map, List.getElem?_map, hn]; rfl
        refine ⟨_, rfl, .inl ⟨rfl, _, SqL.of h1⟩, ln, _, _, rfl, rfl, h1, hpop, ?_⟩
        have s3 : Same H (upd H' ln (.lst (nu'.map V.int).dropLast)) := s2.upd_ne' ln0
        have g1 : upd H' ln (.lst (nu'.map V.int).dropLast) ln = some (.lst (nu'.dropLast.map V.int)) := by rw [upd_same, List.map_dropLast]
        have n0 : 0 ≤ n := h2.2 n (List.mem_of_getElem? hn)
        have g2 : nu'.dropLast.length + tri i + (j + 1) = 15 ∧ ∀ n ∈ nu'.dropLast, 0 ≤ n := ⟨by rw [List.length_dropLast]; have := h2.1; omega, fun y hy => h2.2 y ((List.dropLast_sublist nu').mem hy)⟩
        have g3 : upd H' ln (.lst (nu'.map V.int).dropLast) lp = some (.lst (bs.map V.ref)) := by rw [upd_ne nlp]; exact h3
        have g4 : PsN i j (upd H' ln (.lst (nu'.map V.int).dropLast)) bs := h4.keep fun b xs e => by
          rw [upd_ne (ne_of e h1 (by intro z; cases z))]
          exact e
        generalize upd H' ln (.lst (nu'.map V.int).dropLast) = H2 at s3 g1 g3 g4 ⊢
        clear h1 h2 h3 h4 hpop hn
        dsimp only [gName]
        refine seq_at (fun σ' H' => Same H H' ∧ ∃ (bs : List Addr), H' ln = some (.lst (nu'.dropLast.map V.int)) ∧ H' lp = some (.lst (bs.map V.ref)) ∧ PsN i (j + 1) H' bs ∧ σ' = [some (.ref a), some (.int (m : Int)), some (.int far), some (.ref ln), some (.int c), some (.ref lp), some (.int (0 + (i : Int))), some (.int (0 + (j : Int))), some (.int n), none]) (fun kk => ?_) ?_
        · have put : (∀ tt : Addr, H2 tt = none → ∃ l xs y, V.ref lp = V.ref l ∧ [V.ref tt] = [y] ∧ upd H2 tt (.tup [V.int (0 + (j : Int)), V.int (0 + (i : Int)), V.int n]) l = some (HO.lst xs) ∧ xs.length < sizeLine ∧ (Same H (upd (upd H2 tt (.tup [V.int (0 + (j : Int)), V.int (0 + (i : Int)), V.int n])) l (.lst (xs ++ [y]))) ∧ ∃ (bs : List Addr), upd (upd H2 tt (.tup [V.int (0 + (j : Int)), V.int (0 + (i : Int)), V.int n])) l (.lst (xs ++ [y])) ln = some (.lst (nu'.dropLast.map V.int)) ∧ upd (upd H2 tt (.tup [V.int (0 + (j : Int)), V.int (0 + (i : Int)), V.int n])) l (.lst (xs ++ [y])) lp = some (.lst (bs.map V.ref)) ∧ PsN i (j + 1) (upd (upd H2 tt (.tup [V.int (0 + (j : Int)), V.int (0 + (i : Int)), V.int n])) l (.lst (xs ++ [y]))) bs)) := fun tt htt => by
            have u4 := Same.upd_new (o := .tup [V.int (0 + (j : Int)), V.int (0 + (i : Int)), V.int n]) htt
            have b1 := u4 _ _ g3
            have b2 := u4 _ _ g1
            have b3 : upd H2 tt (.tup [V.int (0 + (j : Int)), V.int (0 + (i : Int)), V.int n]) tt = some (.tup [V.int (j : Int), V.int (i : Int), V.int n]) := by rw [upd_same, Int.zero_add, Int.zero_add]
            have b4 := (g4.keep fun b xs e => u4 b _ e).add b3 hj n0
            have b5 := s3.trans u4
            generalize upd H2 tt _ = H3 at b1 b2 b3 b4 b5 ⊢
            refine ⟨lp, _, _, rfl, rfl, b1, by rw [List.length_map]; have := g4.1.2.2; exact small1000 (by omega), b5.upd_ne' lp0, bs ++ [tt], by rw [upd_ne nlp.symm]; exact b2, by rw [upd_same, List.map_append]; rfl, b4.keep (fun b xs e => by
              rw [upd_ne (ne_of e b1 (by intro z; cases z))]
              exact e)⟩
          refine ⟨_, rfl, a, _, _, _, rfl, rfl, SqL.of (s3 _ _ ha), at_ints (i := 17) (by omega), _, _, rfl, rfl, (by show (0 : Int) < 3; decide), _, _, rfl, rfl, _, rfl, ite2 (fun _ => ?_) (fun _ => ?_)⟩
          · refine ⟨_, rfl, .inl ⟨rfl, _, SqL.of g3⟩, _, rfl, _, rfl, _, rfl, by show 3 ≤ sizeLine; decide, fun tt htt => ?_⟩
            obtain ⟨l, xs, y, p1, p2, p3, p4, p5, bs', p6, p7, p8⟩ := put tt htt
            exact ⟨l, xs, y, p1, p2, p3, p4, kk _ _ ⟨p5, bs', p6, p7, p8, rfl⟩⟩
          · refine ⟨_, rfl, _, _, rfl, rfl, (by show (0 : Int) < 2; decide), rfl, _, rfl, ite2 (fun _ => ?_) (fun _ => ?_)⟩
            · refine ⟨_, rfl, .inl ⟨rfl, _, SqL.of g3⟩, _, rfl, _, rfl, _, rfl, by show 3 ≤ sizeLine; decide, fun tt htt => ?_⟩
              obtain ⟨l, xs, y, p1, p2, p3, p4, p5, bs', p6, p7, p8⟩ := put tt htt
              exact ⟨l, xs, y, p1, p2, p3, p4, kk _ _ ⟨p5, bs', p6, p7, p8, rfl⟩⟩
            · exact kk _ _ ⟨s3, bs, g1, g3, g4.go, rfl⟩
        · rintro σ' H3 ⟨s4, bs', q1, q2, q3, rfl⟩
          exact ⟨_, rfl, _, _, rfl, rfl, ⟨by decide, by decide⟩, s4, nu'.dropLast, bs', c / 2, _, _, q1, g2, q2, q3, rfl⟩
      · clear h1 h2 h3 h4 s2 nu' bs o7 o8 c
        rintro σ' H' ⟨s2, nu', bs, c, o7, o8, h1, h2, h3, h4, rfl⟩
        exact ⟨s2, nu', bs, c, _, _, _, h1, ⟨by show nu'.length + (tri i + i) = 15; have := h2.1; omega, h2.2⟩, h3, h4.up, rfl⟩
    · rintro σ' H' ⟨s2, nu', bs, c, o6, o7, o8, h1, h2, h3, h4, rfl⟩
      obtain ⟨p, hp⟩ : ∃ p : Nat, D.getD 18 0 % (((bs.map V.ref).length : Int) + 1) = (p : Int) := by
        have h0 := Int.emod_nonneg (D.getD 18 0) (b := ((bs.map V.ref).length : Int) + 1) (by omega)
        exact ⟨(D.getD 18 0 % (((bs.map V.ref).length : Int) + 1)).toNat, by omega⟩
      refine ⟨_, rfl, a, _, _, _, rfl, rfl, SqL.of (s2 _ _ ha), at_ints (i := 18) (by omega), _, rfl, lp, _, rfl, .inl (SqL.of h3), _, _, rfl, rfl, _, _, rfl, rfl, (by show 0 < ((bs.map V.ref).length : Int) + 1; omega), ?_⟩
      show gName 9 (V.int (D.getD 18 0 % (((bs.map V.ref).length : Int) + 1))) _ _ _
      rw [hp]
      have m15 : bs.length ≤ 15 := by
        have : ∀ i : _root_.Fin 7, tri i.1 ≤ 15 := by decide
        have z : tri m ≤ 15 := this ⟨m, by omega⟩
        have := h4.1.2.2
        omega
      refine ⟨_, rfl, _, rfl, _, rfl, lp, _, rfl, SqL.of h3, fun p1 hp1 => ?_⟩
      have u1 := Same.upd_new (o := .lst (cutV (bs.map V.ref) (some (p : Int)) none)) hp1
      refine ⟨_, rfl, _, rfl, _, rfl, lp, _, rfl, SqL.of (u1 _ _ h3), fun p2 hp2 => ?_⟩
      have u2 := Same.upd_new (o := .lst (cutV (bs.map V.ref) none (some (p : Int)))) hp2
      have e1 : cutV (bs.map V.ref) (some (p : Int)) none = (bs.drop p).map V.ref := by rw [cut_lo, List.map_drop]
      have e2 : cutV (bs.map V.ref) none (some (p : Int)) = (bs.take p).map V.ref := by rw [cut_hi, List.map_take]
      refine ⟨p1, p2, _, _, rfl, rfl, SqL.of (u2 _ _ upd_same), SqL.of upd_same, by rw [e1, e2, List.length_map, List.length_map, List.length_drop, List.length_take]; exact Nat.le_of_lt (small1000 (by omega)), fun l hl => ?_⟩
      have u3 := Same.upd_new (o := .lst (cutV (bs.map V.ref) (some (p : Int)) none ++ cutV (bs.map V.ref) none (some (p : Int)))) hl
      have u := (u1.trans u2).trans u3
      have pm : (bs.drop p ++ bs.take p).Perm bs := by
        have z := List.perm_append_comm (l₁ := bs.drop p) (l₂ := bs.take p)
        rw [List.take_append_drop] at z
        exact z
      have ok : PsOk m H' bs := ⟨fun b hb => let ⟨u, v, n, e, z1, z2⟩ := h4.1.1 b hb; ⟨u, v, n, e, z1, by omega⟩, h4.1.2.1, m15⟩
      refine k l (bs.drop p ++ bs.take p) _ ((s2.trans (u1.trans u2)).free hl) (s2.trans u) ?_ ((ok.of_perm pm).same fun b _ o e => u b o e) fun b hb r hr => ?_
      · rw [upd_same, e1, e2, List.map_append]
      · obtain ⟨u', v', n', e', z'⟩ := h4.2 b (pm.mem_iff.mp hb)
        have z := hr.eq (p' := (u', v', n')) (u b _ e')
        rw [z]
        exact z'
/-! ### _law_only -/
def spOnl (NG : Addr) : Sp := fun vs H Q _ => ∃ e, vs = [.ref e] ∧ H e = some (excO e NG) ∧ ∀ H', Same H H' → Q (.bl true) H'
theorem scOnl : FnScope ["_law_e", "_law_only_here"] ["_law_e"] (defScope sOnl) := ⟨rfl, rfl, rfl, by decide +kernel, rfl, by decide +kernel, by decide +kernel⟩
theorem ok_onl (t : Tx K mg "_law_only" sOnl ["_law_e"] f fd) (T : T K mg AL RU NE fE fH rR rN iR iN fL fN SE NG NN NO NR NL NS NT NX NV TM UL) : DfU P w K mg base 1 "_law_only" ["_law_e"] (spOnl NG) f fd := by
  refine t.dfU scOnl (fun vs H Q E h => ?_) (fun cdv A outer s H vs Q E hr h => ?_)
  · obtain ⟨e, rfl, _⟩ := h
    rfl
  · obtain ⟨e, rfl, hE, k⟩ := h
    refine ⟨_, pss_cons (ps_set (i := 1) scOnl.nd rfl (Or.inl rfl) (pe_and (pe_callB call_isi (by rfl) T.b_isi bt_isi (pa_cons (pv 0) (pa_cons (pe_glob (v := .ref NG) (by rfl) T.mNG rfl) pa_nil)))
            (pe_one (pe_callB call_isi (by rfl) T.b_isi bt_isi (pa_cons (pv 0) (pa_cons (pe_bltn (v := .ty "ValueError") (by rfl) T.b_ve bt_ve rfl) pa_nil))))))
          (pss_cons (ps_set (i := 1) scOnl.nd rfl (Or.inl rfl) (pe_and (pv 1) (pe_one (pe_not (pe_callB call_isiT (by rfl) T.b_isi bt_isi (pa_cons (pv 0) (pa_cons (pe_tup
            (pa_cons (pe_glob (v := .ref NN) (by rfl) T.mNN rfl) (pa_cons (pe_glob (v := .ref NO) (by rfl) T.mNO rfl) (pa_cons (pe_glob (v := .ref NR) (by rfl) T.mNR rfl) (pa_cons (pe_glob (v := .ref NL) (by rfl) T.mNL rfl) (pa_cons (pe_glob (v := .ref NS) (by rfl) T.mNS rfl) pa_nil)))))) pa_nil)))))))
          (pss_one (ps_ret (pe_and (pv 1) (pe_one (pe_not (pe_callB call_isiT (by rfl) T.b_isi bt_isi (pa_cons (pv 0) (pa_cons (pe_tup
            (pa_cons (pe_glob (v := .ref NT) (by rfl) T.mNT rfl) (pa_cons (pe_glob (v := .ref NX) (by rfl) T.mNX rfl) (pa_cons (pe_glob (v := .ref NV) (by rfl) T.mNV rfl) (pa_cons (pe_glob (v := .ref TM) (by rfl) T.mTM rfl) (pa_cons (pe_glob (v := .ref UL) (by rfl) T.mUL rfl) pa_nil)))))) pa_nil))))))))), ?_⟩
    refine ⟨_, rfl, .ref e, .ref NG, _, _, _, rfl, rfl, .exc hE T.cNG, T.k1, _, rfl, ?_⟩
    refine iteT ⟨_, rfl, .ref e, .ty "ValueError", _, _, _, rfl, rfl, .exc hE T.cNG, T.k2, ?_⟩
    refine ⟨_, rfl, _, rfl, iteT ⟨_, rfl, by show 5 ≤ sizeLine; decide, fun p hp => ?_⟩⟩
    have s1 : Same H (upd H p (.tup [.ref NN, .ref NO, .ref NR, .ref NL, .ref NS])) := .upd_new hp
    refine ⟨.ref e, p, _, _, _, _, rfl, upd_same, rfl, .exc (s1 _ _ hE) T.cNG, T.k3, _, rfl, ?_⟩
    refine ⟨_, rfl, _, rfl, iteT ⟨_, rfl, by show 5 ≤ sizeLine; decide, fun p2 hp2 => ?_⟩⟩
    have s2 := Same.upd_new (o := .tup [.ref NT, .ref NX, .ref NV, .ref TM, .ref UL]) hp2
    refine ⟨.ref e, p2, _, _, _, _, rfl, upd_same, rfl, .exc (s2 _ _ (s1 _ _ hE)) T.cNG, T.k4, _, rfl, ?_⟩
    exact k _ (s1.trans s2)


/-! ### _law_odd -/
def spOdd (K : PySem.W.Frag) : Sp := fun vs H Q _ => ∃ z c : Int, vs = [.int z, .int c] ∧ 0 < z ∧ ∀ v H', Same H H' → Pl K H' v → inB 0 (z - 1) v = false → Q v H'
/-- nine things that are no whole number from lo to hi -/
theorem menu {K : PySem.W.Frag} {H : Hp} {a b lo hi i : Int} {x : Str} {t1 l1 d1 : Addr} {ts ls : List V} (ha : hi < a) (hb : b < lo) (h1 : H t1 = some (.tup ts)) (h2 : H l1 = some (.lst ls)) (h3 : H d1 = some (.dK [])) (i0 : 0 ≤ i) (i9 : i < 9) :
    ∃ v, atI [V.int a, V.int b, .non, .bl true, .bl false, .str x, .ref t1, .ref l1, .ref d1] i = some v ∧ Pl K H v ∧ inB lo hi v = false := by
  obtain ⟨v, hv, hm⟩ := atI_in (xs := [V.int a, V.int b, .non, .bl true, .bl false, .str x, .ref t1, .ref l1, .ref d1]) i0 i9
  refine ⟨v, hv, ?_⟩
  simp only [List.mem_cons, List.not_mem_nil, or_false] at hm
  rcases hm with rfl | rfl | rfl | rfl | rfl | rfl | rfl | rfl | rfl
  · refine ⟨.int _, ?_⟩
    show (decide (lo ≤ a) && decide (a ≤ hi)) = false
    rw [decide_eq_false (by omega : ¬ (a ≤ hi)), Bool.and_false]
  · refine ⟨.int _, ?_⟩
    show (decide (lo ≤ b) && decide (b ≤ hi)) = false
    rw [decide_eq_false (by omega : ¬ (lo ≤ b)), Bool.false_and]
  · exact ⟨⟨_, .non, .non⟩, rfl⟩
  · exact ⟨⟨_, .bl _, .bl⟩, rfl⟩
  · exact ⟨⟨_, .bl _, .bl⟩, rfl⟩
  · exact ⟨⟨_, .str _, .str⟩, rfl⟩
  · exact ⟨⟨_, .tup h1, .tup⟩, rfl⟩
  · exact ⟨⟨_, .lst h2, .lst⟩, rfl⟩
  · exact ⟨⟨_, .dK h3, .dic⟩, rfl⟩


theorem scOdd : FnScope ["_law_size", "_law_cell", "_law_far"] ["_law_size", "_law_cell"] (defScope sOdd) := ⟨rfl, rfl, rfl, by decide +kernel, rfl, by decide +kernel, by decide +kernel⟩
theorem ok_odd (t : Tx K mg "_law_odd" sOdd ["_law_size", "_law_cell"] f fd) (T : T K mg AL RU NE fE fH rR rN iR iN fL fN SE NG NN NO NR NL NS NT NX NV TM UL) : Df P w K mg base CX0 1 "_law_odd" ["_law_size", "_law_cell"] (spOdd K) f fd := by
  refine t.df0 scOdd (fun vs H Q E h => ?_) (fun cdv A outer s H vs Q E hr h => ?_)
  · obtain ⟨z, c, rfl, _⟩ := h
    rfl
  · obtain ⟨z, c, rfl, hz, k⟩ := h
    refine ⟨_, (pss_cons (ps_set (i := 2) scOdd.nd rfl (Or.inl rfl) (pe_op op_mod (pe_op op_mul (pe_op op_fdiv (pv 1) pe_int) pe_int) (pe_op op_pow pe_int pe_int)))
      (pss_one (ps_ret (pe_ix ix_list (pe_lst (pa_cons (pe_op op_add (pv 0) (pv 2)) (pa_cons (pe_op op_sub (pe_op op_sub pe_int pe_int) (pv 2)) (pa_cons pe_non (pa_cons pe_bl (pa_cons pe_bl (pa_cons pe_str (pa_cons (pe_tup (pa_cons pe_int pa_nil)) (pa_cons (pe_lst (pa_cons pe_int pa_nil)) (pa_cons pe_dnewK pa_nil)))))))))) (pe_op op_mod (pv 1) pe_int) (fun _ _ => rfl))))), ?_⟩
    refine ⟨_, rfl, _, _, rfl, rfl, ⟨by decide, by decide⟩, _, _, rfl, rfl, .inr ⟨by decide, by decide⟩, _, _, rfl, rfl, ⟨by decide, by decide, by decide⟩, _, _, rfl, rfl, (by show (0 : Int) < 10 ^ 18; decide), ?_⟩
    obtain ⟨far, hfar, hf0⟩ : ∃ far : Int, c / 9 * 48271 % (10 : Int) ^ (18 : Int).toNat = far ∧ 0 ≤ far := ⟨_, rfl, Int.emod_nonneg _ (by decide)⟩
    show gName 2 (V.int (c / 9 * 48271 % (10 : Int) ^ (18 : Int).toNat)) _ _ _
    rw [hfar]
    refine ⟨_, rfl, _, rfl, _, _, rfl, rfl, _, _, rfl, rfl, _, rfl, _, _, rfl, rfl, by show 1 ≤ sizeLine; decide, fun t1 ht1 => ⟨by show 1 ≤ sizeLine; decide, fun l1 hl1 d1 hd1 => ⟨by show 9 ≤ sizeLine; decide, fun m hm => ?_⟩⟩⟩
    have u1 := Same.upd_new (o := .tup [V.int 1]) ht1
    have u2 := Same.upd_new (o := .lst [V.int 0]) hl1
    have u3 := Same.upd_new (o := .dK []) hd1
    refine ⟨_, rfl, _, _, rfl, rfl, (by show (0 : Int) < 9; decide), ?_⟩
    have u4 := Same.upd_new (o := .lst [V.int (z + far), V.int (0 - 1 - far), .non, .bl true, .bl false, .str "1", .ref t1, .ref l1, .ref d1]) hm
    obtain ⟨v, hv, hpl, hno⟩ := menu (K := K) (a := z + far) (b := 0 - 1 - far) (lo := 0) (hi := z - 1) (x := "1") (i := c % 9) (by omega) (by omega) (u4 _ _ (u3 _ _ (u2 _ _ upd_same))) (u4 _ _ (u3 _ _ upd_same)) (u4 _ _ upd_same) (by omega) (by omega)
    exact ⟨m, _, _, v, rfl, rfl, SqL.of upd_same, hv, k v _ (((u1.trans u2).trans u3).trans u4) hpl hno⟩

/-! ### _law_refused -/
def spRef (K : PySem.W.Frag) (NE : Addr) : Sp := fun vs H Q _ => ∃ (a ll lr : Addr) (cs : List Int) (rs : List P3) (v : V), vs = [.ref a, v] ∧ NObj NE H a ll lr cs rs ∧ Pl K H v ∧ inB 0 (2 ^ cs.length - 1) v = false ∧ ∀ H', Same H H' → Q (.bl true) H'
theorem scRef : FnScope ["_law_rule", "_law_thing", "_law_earned_only", "_law_told_only", "_law_e"] ["_law_rule", "_law_thing"] (defScope sRef) := ⟨rfl, rfl, rfl, by decide +kernel, rfl, by decide +kernel, by decide +kernel⟩
theorem ok_ref {f2 : Addr} {fd2 : FuncData} (t : Tx K mg "_law_refused" sRef ["_law_rule", "_law_thing"] f fd) (T : T K mg AL RU NE fE fH rR rN iR iN fL fN SE NG NN NO NR NL NS NT NX NV TM UL) (DE : Md P w K mg base 7 ["self", "group"] (spErn P w K mg base fE fH RU NG) fE) (DR : Md P w K mg base 5 ["self", "group"] (spNRk NE) rN) (DP : Md P w K mg base 5 ["self", "group"] (spNNt K NG NE) fN)
    (D_law_only : DfU P w K mg base 1 "_law_only" ["_law_e"] (spOnl NG) f2 fd2) : Df P w K mg base CX0 8 "_law_refused" ["_law_rule", "_law_thing"] (spRef K NE) f fd := by
  refine t.df0 scRef (fun vs H Q E h => ?_) (fun cdv A outer s H vs Q E hr h => ?_)
  · obtain ⟨a, ll, lr, cs, rs, v, rfl, _⟩ := h
    rfl
  · obtain ⟨a, ll, lr, cs, rs, v, rfl, mo, pl, no, k⟩ := h
    refine ⟨_, (pss_cons (ps_set (i := 2) scRef.nd rfl (Or.inl rfl) pe_bl)
      (pss_cons (ps_set (i := 3) scRef.nd rfl (Or.inl rfl) pe_bl)
      (pss_cons (ps_try (i := 4) (tb := fun Ex => tDrop (tMethX K (fun g sp => ∃ ps, Md P w K mg base 7 ps sp g) "earn" Ex (tVar 0) (tCons (tVar 1) tNil))) ⟨rfl, rfl, rfl⟩ rfl (fun pins Ex => (pss_one (ps_expr (pe_methX (k := 7) pass_try (pv 0) hr (by decide) (pa_cons (pv 1) pa_nil))))) (by rfl) T.mSE T.cSE scRef.nd rfl rfl
        (fun e => (pss_one (ps_set (i := 2) scRef.nd rfl (Or.inl rfl) (pe_dU D_law_only (RoomU.han hr) (by decide) (by rfl) (pa_cons (pv 4) pa_nil))))))
      (pss_cons (ps_try (i := 4) (tb := fun Ex => tDrop (tMethX K (fun g sp => ∃ ps, Md P w K mg base 5 ps sp g) "net" Ex (tVar 0) (tCons (tVar 1) tNil))) ⟨rfl, rfl, rfl⟩ rfl (fun pins Ex => (pss_one (ps_expr (pe_methX (k := 5) pass_try (pv 0) hr (by decide) (pa_cons (pv 1) pa_nil))))) (by rfl) T.mSE T.cSE scRef.nd rfl rfl
        (fun e => (pss_one (ps_set (i := 3) scRef.nd rfl (Or.inl rfl) (pe_dU D_law_only (RoomU.han hr) (by decide) (by rfl) (pa_cons (pv 4) pa_nil))))))
      (pss_one (ps_ret (pe_and (pv 2) (pe_one (pv 3))))))))), ?_⟩
    have ro := net_obj DR T.rNE mo
    have mo' := mo
    obtain ⟨dx, bs, h1, _⟩ := mo'
    refine ⟨_, rfl, a, NE, dx, _, fE, _, rfl, h1, rfl, T.rNE.oc.cl, T.rNE.me, ⟨_, DE⟩, _, rfl, a, cs.length, _, v, rfl, ro, pl, fun _ H1 s1 => ⟨NG, rfl, T.up, fun x hx => ?_⟩, fun g hv hg => ?_⟩
    · have sE : Same H1 (upd H1 x (excO x NG)) := .upd_new hx
      refine ⟨_, rfl, x, rfl, upd_same, fun H' sH => ?_⟩
      have sA := s1.trans (sE.trans sH)
      refine ⟨_, rfl, a, NE, dx, _, fN, _, rfl, sA _ _ h1, rfl, T.rNE.oc.cl, T.tNE, ⟨_, DP⟩, _, rfl, a, ll, lr, cs, rs, v, rfl, mo.same sA, pl.same sA, fun _ H2 s2 => ⟨NG, rfl, T.up, fun x hx => ?_⟩, fun g hv hg => ?_⟩
      · have sE2 : Same H2 (upd H2 x (excO x NG)) := .upd_new hx
        refine ⟨_, rfl, x, rfl, upd_same, fun H' sH => ?_⟩
        exact ⟨_, rfl, _, rfl, iteT ⟨_, rfl, k _ (sA.trans (s2.trans (sE2.trans sH)))⟩⟩
      · subst hv
        rw [nat_inB hg] at no
        cases no
    · subst hv
      rw [nat_inB hg] at no
      cases no
/-! ### _law_ends -/
def e0 (p : Nat × Nat) : Nat := if p.1 = p.2 then 6 else p.1
def spLEn : Sp := fun vs H Q _ => ∃ (b : Addr) (p : Nat × Nat), vs = [.ref b] ∧ DAt H b p ∧ ∀ (b' : Addr) (H' : Hp), Same H H' → H' b' = some (.tup [.int (e0 p : Int), .int (p.2 : Int)]) → Q (.ref b') H'
theorem scLEn : FnScope ["_law_rope"] ["_law_rope"] (defScope sLEn) := ⟨rfl, rfl, rfl, by decide +kernel, rfl, by decide +kernel, by decide +kernel⟩
theorem ok_len (t : Tx K mg "_law_ends" sLEn ["_law_rope"] f fd) (T : T K mg AL RU NE fE fH rR rN iR iN fL fN SE NG NN NO NR NL NS NT NX NV TM UL) : Df P w K mg base CX0 1 "_law_ends" ["_law_rope"] spLEn f fd := by
  refine t.df0 scLEn (fun vs H Q E h => ?_) (fun cdv A outer s H vs Q E hr h => ?_)
  · obtain ⟨b, p, rfl, _⟩ := h
    rfl
  · obtain ⟨b, ⟨u, v⟩, rfl, hb, k⟩ := h
    refine ⟨_, (pss_cons (ps_if (pt_cmpR op_eq (pe_ix ix_tup (pv 0) pe_int (fun _ _ => rfl)) (pe_ix ix_tup (pv 0) pe_int (fun _ _ => rfl)) (nomark _)) (pss_one (ps_ret (pe_tup (pa_cons pe_int (pa_cons (pe_ix ix_tup (pv 0) pe_int (fun _ _ => rfl)) pa_nil))))) pss_nil)
      (pss_one (ps_ret (pv 0)))), ?_⟩
    have hb : H b = some (.tup [.int (u : Int), .int (v : Int)]) := hb
    refine ⟨_, rfl, b, _, _, _, rfl, rfl, SqT.of hb, rfl, _, rfl, b, _, _, _, rfl, rfl, SqT.of hb, rfl, rfl, _, rfl, ite2 (fun h3 => ?_) (fun h3 => ?_)⟩
    · have e : u = v := by have := V.int.inj (of_decide_eq_true h3); omega
      refine ⟨_, rfl, b, _, _, _, rfl, rfl, SqT.of hb, rfl, by show 2 ≤ sizeLine; decide, fun t3 ht3 => k t3 _ (.upd_new ht3) ?_⟩
      rw [upd_same]
      unfold e0
      rw [if_pos e]
      rfl
    · have e : u ≠ v := fun z => h3 (decide_eq_true (by rw [z]))
      refine ⟨_, rfl, k b H (.refl H) ?_⟩
      unfold e0
      rw [if_neg e]
      exact hb
/-! ### _law_reached -/
/-- joined by ropes of a list -/
inductive Rc (ps : List (Nat × Nat)) : Nat → Nat → Prop
  | refl (a : Nat) : Rc ps a a
  | fw {a : Nat} {p : Nat × Nat} : p ∈ ps → Rc ps a (e0 p) → Rc ps a p.2
  | bw {a : Nat} {p : Nat × Nat} : p ∈ ps → Rc ps a p.2 → Rc ps a (e0 p)
/-- what the law has seen: each once, each reached -/
def SeenOk (ps : List (Nat × Nat)) (a : Nat) (ss : List Nat) : Prop := ss.Nodup ∧ a ∈ ss ∧ ∀ x ∈ ss, x < 7 ∧ Rc ps a x
def natL (ss : List Nat) : List V := (ss.map fun (x : Nat) => (x : Int)).map V.int
theorem inV_nat {x : Nat} : ∀ {ss : List Nat}, inV (.int (x : Int)) (natL ss) = decide (x ∈ ss)
  | [] => rfl
  | y :: r => by
    show (((y : Int) == (x : Int)) || inV (.int (x : Int)) (natL r)) = _
    rw [inV_nat, Bool.eq_iff_iff, Bool.or_eq_true, beq_iff_eq, decide_eq_true_iff, decide_eq_true_iff, List.mem_cons]
    constructor
    · rintro (h | h)
      · exact .inl (by omega)
      · exact .inr h
    · rintro (h | h)
      · exact .inl (by omega)
      · exact .inr h
theorem flat_nat (ss : List Nat) : (natL ss).all flatV = true := by
  unfold natL
  induction ss with
  | nil => rfl
  | cons x r ih => exact ih
theorem seen_len {ss : List Nat} (h : ss.Nodup) (b : ∀ x ∈ ss, x < 7) : ss.length ≤ 7 := PySem.W.S6.nodup_len 7 ss h b
theorem SeenOk.add {ps : List (Nat × Nat)} {a y : Nat} {ss : List Nat} (h : SeenOk ps a ss) (hy : y ∉ ss) (h7 : y < 7) (r : Rc ps a y) : SeenOk ps a (ss ++ [y]) := by
  refine ⟨?_, List.mem_append_left _ h.2.1, fun x hx => ?_⟩
  · rw [List.nodup_append]
    refine ⟨h.1, by simp, fun x hx z hz e => ?_⟩
    rw [List.mem_singleton] at hz
    subst e hz
    exact hy hx
  · rcases List.mem_append.mp hx with z | z
    · exact h.2.2 x z
    · rw [List.mem_singleton] at z
      rw [z]
      exact ⟨h7, r⟩
def Closed (ps : List (Nat × Nat)) (ss : List Nat) : Prop := ∀ p ∈ ps, (e0 p ∈ ss ↔ p.2 ∈ ss)
def spRch : Sp := fun vs H Q _ => ∃ (lr : Addr) (a : Nat) (bs : List Addr) (ps : List (Nat × Nat)), vs = [.int (a : Int), .ref lr] ∧ H lr = some (.lst (bs.map V.ref)) ∧ A2 (DAt H) bs ps ∧ (∀ p ∈ ps, p.1 < 6 ∧ p.2 < 6) ∧ a < 7 ∧ bs.length ≤ 100 ∧
  ∀ (l : Addr) (ss : List Nat) (H' : Hp), H l = none → Same H H' → H' l = some (.lst (natL ss)) → SeenOk ps a ss → Closed ps ss → Q (.ref l) H'
theorem scRch : FnScope ["_law_start", "_law_ropes_here", "_law_seen", "_law_more", "_law_rope", "_law_one", "_law_other"] ["_law_start", "_law_ropes_here"] (defScope sRch) := ⟨rfl, rfl, rfl, by decide +kernel, rfl, by decide +kernel, by decide +kernel⟩
theorem ok_rch {f1 : Addr} {fd1 : FuncData} (t : Tx K mg "_law_reached" sRch ["_law_start", "_law_ropes_here"] f fd) (T : T K mg AL RU NE fE fH rR rN iR iN fL fN SE NG NN NO NR NL NS NT NX NV TM UL) (D_law_ends : Df P w K mg base CX0 1 "_law_ends" ["_law_rope"] spLEn f1 fd1) : Df P w K mg base CX0 2 "_law_reached" ["_law_start", "_law_ropes_here"] spRch f fd := by
  refine t.df0 scRch (fun vs H Q E h => ?_) (fun cdv A outer s H vs Q E hr h => ?_)
  · obtain ⟨lr, a, bs, ps, rfl, _⟩ := h
    rfl
  · obtain ⟨lr, a, bs, ps, rfl, hlr, ha, hps, a7, hlen, k⟩ := h
    refine ⟨_, (pss_cons (ps_set (i := 2) scRch.nd rfl (by first | exact Or.inl rfl | exact Or.inr rfl) (pe_lst (pa_cons (pv 0) pa_nil)))
      (pss_cons (ps_set (i := 3) scRch.nd rfl (Or.inl rfl) pe_bl)
      (pss_cons (ps_while PassesOwn.never (pt_val (pv 3))
        (pss_cons (ps_set (i := 3) scRch.nd rfl (Or.inl rfl) pe_bl)
        (pss_one (ps_for PassesOwn.never rfl (pi_list (pv 1)) (pg_name (i := 4) scRch.nd rfl (Or.inl rfl))
          (pss_cons (ps_asg (pe_d0 D_law_ends hr (by decide) (by rfl) (pa_cons (pv 4) pa_nil)) (pg_tup rfl (pgs_cons (pg_name (i := 5) scRch.nd rfl (by first | exact Or.inl rfl | exact Or.inr rfl)) (pgs_cons (pg_name (i := 6) scRch.nd rfl (by first | exact Or.inl rfl | exact Or.inr rfl)) pgs_nil))))
          (pss_one (ps_if (pt_cmpR op_ne (pe_cmpR op_in_seq (pv 5) (pv 2) (by rfl)) (pe_cmpR op_in_seq (pv 6) (pv 2) (by rfl)) (nomark _)) (pss_cons (ps_expr (pe_bm PySem.F.plainAttrs_list PySem.F.slot_list_append PySem.F.type_list_append mt_appendR (pv 2) (pa_cons (pe_op op_sub (pe_op op_add (pv 5) (pv 6)) (pe_ix ix_list (pe_comp (NB := ["_law_end", "_law_seen"]) (pick := [none, some 2]) (blk_mk (by with_unfolding_all rfl) (by exact (And.intro rfl trivial)) rfl (by decide +kernel) (by decide +kernel) (by rfl) (by rfl)) rfl
          (pi_list (pe_lst (pa_cons (pv 5) (pa_cons (pv 6) pa_nil)))) (fun _ _ _ => pg_name (i := 0) (show (["_law_end", "_law_seen"] : List Str).Nodup from by decide +kernel) rfl (Or.inl rfl))
          (fun _ _ _ => pif_one (pt_cmpR (op_inK K) (pv 0) (pv 1) (by rfl))) (fun _ _ _ => (pv 0))) pe_int (fun _ _ => rfl))) pa_nil)))
            (pss_one (ps_set (i := 3) scRch.nd rfl (Or.inl rfl) pe_bl))) pss_nil)))))))
      (pss_one (ps_ret (pv 2)))))), ?_⟩
    refine ⟨_, rfl, by show 1 ≤ sizeLine; decide, fun l hl => ?_⟩
    refine ⟨fun m σ' H' => ∃ (ss : List Nat) (b : Bool) (o4 o5 o6 : Option V), m = (if b = true then 9 - ss.length else 0) ∧ SeenOk ps a ss ∧ Same H H' ∧ H' l = some (.lst (natL ss)) ∧ (b = false → Closed ps ss) ∧ σ' = [some (.int (a : Int)), some (.ref lr), some (.ref l), some (.bl b), o4, o5, o6], ⟨_, [a], true, none, none, none, rfl, ⟨by simp, by simp, fun x hx => ?_⟩, .upd_new hl, upd_same, (fun z => by cases z), rfl⟩, ?_⟩
    · have : x = a := by simpa using hx
      subst this
      exact ⟨a7, .refl _⟩
    rintro m σ' H1 ⟨ss, b, o4, o5, o6, rfl, ok, s1, e1, cl, rfl⟩
    refine ⟨_, rfl, _, rfl, ?_⟩
    cases b with
    | false => exact iteF ⟨_, rfl, k l ss H1 hl s1 e1 ok (cl rfl)⟩
    | true =>
      refine iteT ?_
      have sl := seen_len ok.1 fun x hx => (ok.2.2 x hx).1
      refine ⟨fun σ' H' => ∃ (ss' : List Nat) (b : Bool) (o4 o5 o6 : Option V), (b = true → ss.length < ss'.length) ∧ SeenOk ps a ss' ∧ Same H H' ∧ H' l = some (.lst (natL ss')) ∧ (b = false → Closed ps ss') ∧ σ' = [some (.int (a : Int)), some (.ref lr), some (.ref l), some (.bl b), o4, o5, o6], fun σ' H' ⟨ss', b, o4, o5, o6, b1, b2, b3, b4, b5, b6⟩ => ⟨if b = true then 9 - ss'.length else 0, ?_, ss', b, o4, o5, o6, rfl, b2, b3, b4, b5, b6⟩, ?_⟩
      · rw [if_pos rfl]
        cases b with
        | true => rw [if_pos rfl]; have := b1 rfl; have := seen_len b2.1 fun x hx => (b2.2.2 x hx).1; omega
        | false => rw [if_neg Bool.false_ne_true]; omega
      refine ⟨_, rfl, lr, rfl, ⟨_, SqL.of (s1 _ _ hlr)⟩, ?_⟩
      refine for_list (xs := bs.map V.ref) (fun i σ' H' => ∃ (ss' : List Nat) (b : Bool) (o4 o5 o6 : Option V), (ss.length ≤ ss'.length ∧ (b = true → ss.length < ss'.length)) ∧ SeenOk ps a ss' ∧ Same H H' ∧ H' l = some (.lst (natL ss')) ∧ (b = false → ∀ (j : Nat) (p : Nat × Nat), j < i → ps[j]? = some p → (e0 p ∈ ss' ↔ p.2 ∈ ss')) ∧ σ' = [some (.int (a : Int)), some (.ref lr), some (.ref l), some (.bl b), o4, o5, o6]) ?_ ?_ ?_ ?_
      · exact ⟨ss, false, o4, o5, o6, ⟨Nat.le_refl _, (fun z => by cases z)⟩, ok, s1, e1, fun _ j p hj => absurd hj (Nat.not_lt_zero j), rfl⟩
      · rintro i σ' H2 _ ⟨ss', b, _, _, _, _, _, s2, _⟩
        exact SqL.of (s2 _ _ hlr)
      · rintro i x σ' H2 hx ⟨ss', b, o4, o5, o6, b1, b2, s2, e2, b5, rfl⟩
        obtain ⟨rb, hrb, rfl⟩ := at_of hx
        obtain ⟨p, hp, pr⟩ := ha.at hrb
        obtain ⟨p1, p2⟩ := hps p (List.mem_of_getElem? hp)
        have pm := List.mem_of_getElem? hp
        have e07 : e0 p < 7 := by unfold e0; split <;> omega
        refine ⟨_, rfl, rb, p, rfl, pr.keep s2.t, fun b' H3 s3 e3 => ?_⟩
        refine ⟨b', _, rfl, SqT.of e3, rfl, _, _, rfl, _, _, rfl, rfl, ?_⟩
        have e23 := s3 _ _ e2
        have s23 := s2.trans s3
        have sl' := seen_len b2.1 fun x hx => (b2.2.2 x hx).1
        refine ⟨_, rfl, _, rfl, l, _, rfl, .inl (SqL.of e23), rfl, flat_nat _, _, rfl, _, rfl, l, _, rfl, .inl (SqL.of e23), rfl, flat_nat _, rfl, _, rfl, ?_⟩
        show if (!decide (V.bl (inV (V.int (e0 p : Int)) (natL ss')) = V.bl (inV (V.int (p.2 : Int)) (natL ss')))) = true then _ else _
        rw [inV_nat, inV_nat]
        refine ite2 (fun h3 => ?_) (fun h3 => ?_)
        · obtain ⟨x, y, hx, hy, y7, ry, hxy⟩ : ∃ x y : Nat, x ∈ ss' ∧ y ∉ ss' ∧ y < 7 ∧ Rc ps a y ∧ ((x = e0 p ∧ y = p.2) ∨ (x = p.2 ∧ y = e0 p)) := by
            by_cases q1 : e0 p ∈ ss'
            · by_cases q2 : p.2 ∈ ss'
              · rw [decide_eq_true q1, decide_eq_true q2, decide_eq_true rfl] at h3
                cases h3
              · exact ⟨e0 p, p.2, q1, q2, by omega, .fw pm (b2.2.2 _ q1).2, .inl ⟨rfl, rfl⟩⟩
            · by_cases q2 : p.2 ∈ ss'
              · exact ⟨p.2, e0 p, q2, q1, e07, .bw pm (b2.2.2 _ q2).2, .inr ⟨rfl, rfl⟩⟩
              · rw [decide_eq_false q1, decide_eq_false q2, decide_eq_true rfl] at h3
                cases h3
          refine ⟨_, rfl, .inl ⟨rfl, _, SqL.of e23⟩, _, rfl, _, rfl, _, _, rfl, rfl, _, rfl, _, rfl, by show 2 ≤ sizeLine; decide, fun l2 hl2 => ⟨l2, rfl, ⟨_, SqL.of upd_same⟩, ?_⟩⟩
          have u4 := Same.upd_new (o := .lst [V.int (e0 p : Int), V.int (p.2 : Int)]) hl2
          have e24 := u4 _ _ e23
          refine comp_lst (xs := [V.int (e0 p : Int), V.int (p.2 : Int)]) (fun _ z => if inV z (natL ss') = true then some z else none) (SqL.of upd_same) (by show 2 ≤ sizeLine; decide) (fun j z H5 kk kk0 s5 hz h1 h2 => ?_) fun D H5 hD s5 hd => ?_
          · have fz : flatV z = true := by
              have m := List.mem_of_getElem? hz
              simp only [List.mem_cons, List.not_mem_nil, or_false] at m
              rcases m with rfl | rfl <;> rfl
            refine ⟨_, rfl, _, rfl, l, _, rfl, .inl (SqL.of (s5 _ _ e24)), fz, flat_nat _, _, rfl, ?_⟩
            show if inV z (natL ss') = true then _ else _
            cases ez : inV z (natL ss') with
            | true => exact iteT ⟨_, rfl, h1 _ (if_pos ez) _ (.refl _)⟩
            | false => exact iteF (h2 (if_neg (by rw [ez]; decide)) _ (.refl _))
          · have ed : H5 D = some (.lst [V.int (x : Int)]) := by
              rw [hd, fm_bind]
              rcases hxy with ⟨rfl, rfl⟩ | ⟨rfl, rfl⟩
              · simp [List.filterMap_cons, inV_nat, hx, hy]
              · simp [List.filterMap_cons, inV_nat, hx, hy]
            have s45 := u4.trans s5
            have e25 := s5 _ _ e24
            have hln : (natL ss').length = ss'.length := by unfold natL; rw [List.length_map, List.length_map]
            refine ⟨D, _, _, _, rfl, rfl, SqL.of ed, rfl, _, _, rfl, rfl, l, _, _, rfl, rfl, e25, by rw [hln]; exact small1000 (by omega), ?_⟩
            refine ⟨ss' ++ [y], true, _, _, _, ⟨by rw [List.length_append]; have := b1.1; omega, fun _ => by rw [List.length_append]; show _ < _ + 1; have := b1.1; omega⟩, b2.add hy y7 ry, (s23.trans s45).upd_ne' hl, ?_, (fun z => by cases z), rfl⟩
            rw [upd_same]
            have ey : (e0 p : Int) + (p.2 : Int) - (x : Int) = (y : Int) := by
              rcases hxy with ⟨rfl, rfl⟩ | ⟨rfl, rfl⟩ <;> omega
            show some (HO.lst (natL ss' ++ [V.int ((e0 p : Int) + (p.2 : Int) - (x : Int))])) = _
            rw [ey]
            unfold natL
            rw [List.map_append, List.map_append]
            rfl
        · have eqv : (e0 p ∈ ss' ↔ p.2 ∈ ss') := by
            have z : decide (e0 p ∈ ss') = decide (p.2 ∈ ss') := by
              refine Classical.byContradiction fun q => h3 ?_
              rw [decide_eq_false fun y => q (V.bl.inj y)]
              rfl
            exact decide_eq_decide.mp z
          refine ⟨ss', b, _, _, _, b1, b2, s23, e23, fun z j p' hj hp' => ?_, rfl⟩
          rcases Nat.lt_or_ge j i with q | q
          · exact b5 z j p' q hp'
          · have : j = i := by omega
            subst this
            rw [hp] at hp'
            rw [← Option.some.inj hp']
            exact eqv
      · rintro σ' H2 ⟨ss', b, o4, o5, o6, b1, b2, s2, e2, b5, rfl⟩
        refine ⟨ss', b, o4, o5, o6, b1.2, b2, s2, e2, fun z p hp => ?_, rfl⟩
        obtain ⟨j, hj⟩ := List.getElem?_of_mem hp
        refine b5 z j p ?_ hj
        rw [List.length_map, ha.len]
        exact (List.getElem?_eq_some_iff.mp hj).1
/-! ### _law_joined -/
def dOf (qs : List P3) : List (List Key × V) := qs.map fun p => ([Sum.inl (p.1 : Int), Sum.inl (p.2.1 : Int)], V.int p.2.2)
theorem dOf_val (i j : Nat) : ∀ qs : List P3, valV (dOf qs) [Sum.inl (i : Int), Sum.inl (j : Int)] = (numP qs i j).map V.int
  | [] => rfl
  | (u, v, n) :: r => by
    have ih := dOf_val i j r
    by_cases e : u = i ∧ v = j
    · obtain ⟨rfl, rfl⟩ := e
      have z : numP ((u, v, n) :: r) u v = some n := by
        unfold numP
        rw [List.find?_cons_of_pos (by simp)]
        rfl
      rw [z]
      exact valV_pos (p := ([Sum.inl (u : Int), Sum.inl (v : Int)], V.int n)) rfl
    · have z : valV (dOf ((u, v, n) :: r)) [Sum.inl (i : Int), Sum.inl (j : Int)] = valV (dOf r) [Sum.inl (i : Int), Sum.inl (j : Int)] := valV_neg (p := ([Sum.inl (u : Int), Sum.inl (v : Int)], V.int n)) (r := dOf r) (fun q => e (by
        have q1 := List.cons.inj q
        have q2 := List.cons.inj q1.2
        have y1 := Sum.inl.inj q1.1
        have y2 := Sum.inl.inj q2.1
        exact ⟨by omega, by omega⟩))
      have z2 : numP ((u, v, n) :: r) i j = numP r i j := by
        unfold numP
        rw [List.find?_cons_of_neg (p := fun p : P3 => decide (p.1 = i ∧ p.2.1 = j)) (by rw [decide_eq_true_iff]; exact e)]
      rw [z, z2, ih]
theorem flat_ints : ∀ ns : List Int, (ns.map V.int).all flatV = true
  | [] => rfl
  | _ :: r => flat_ints r
theorem iteNE {x : V} {A B : Prop} (h : B) : if (!decide (x = x)) = true then A else B := by
  rw [decide_eq_true rfl]
  exact iteF h
/-- the ends of a rope, as the law tells them -/
theorem ends_law (r : P3) (ss : List Nat) : ((e0 (r.1, r.2.1) ∈ ss ↔ r.2.1 ∈ ss) ↔ (ea r ∈ ss ↔ eb r ∈ ss)) ∧ (e0 (r.1, r.2.1) = ea r ∧ r.2.1 = eb r ∨ e0 (r.1, r.2.1) = eb r ∧ r.2.1 = ea r) := by
  unfold e0 ea eb
  by_cases e : r.1 = r.2.1
  · rw [if_pos e, if_pos e, e]
    exact ⟨⟨fun h => h.symm, fun h => h.symm⟩, .inr ⟨rfl, rfl⟩⟩
  · rw [if_neg e, if_neg e]
    exact ⟨Iff.rfl, .inl ⟨rfl, rfl⟩⟩
/-- what is closed holds all that is joined to what it holds -/
theorem closed_cn {R : P3 → Prop} {ss : List Nat} (cl : ∀ r, R r → (ea r ∈ ss ↔ eb r ∈ ss)) {a b : Nat} (h : Cn R a b) (ha : a ∈ ss) : b ∈ ss := by
  induction h with
  | refl => exact ha
  | fw r _ ih => exact (cl _ r).mp ih
  | bw r _ ih => exact (cl _ r).mpr ih
theorem rc_in {ps : List (Nat × Nat)} {G a : Nat} (hp : ∀ p ∈ ps, bitD G (e0 p) = true ∧ bitD G p.2 = true) {b : Nat} (h : Rc ps a b) (ha : bitD G a = true) : bitD G b = true := by
  cases h with
  | refl => exact ha
  | fw m _ => exact (hp _ m).2
  | bw m _ => exact (hp _ m).1
theorem inG_ends {G : Nat} {r : P3} (h : inG G r = true) : bitD G (e0 (r.1, r.2.1)) = true ∧ bitD G r.2.1 = true := by
  unfold inG at h
  rw [Bool.and_eq_true] at h
  rcases (ends_law r []).2 with ⟨e1, e2⟩ | ⟨e1, e2⟩
  · rw [e1, e2]; exact h
  · rw [e1, e2]; exact ⟨h.2, h.1⟩
theorem seen_all {rs L : List P3} {g : Nat} {prs : List (Nat × Nat)} {ss : List Nat} (ok : ∀ r ∈ rs, RopeOk r) (hg : g < 64) (run : Run rs (g + 64) 64 L) (pm : prs.Perm (kys L)) (so : SeenOk prs 6 ss) (cl : Closed prs ss) : ss.length = (hands g).length + 1 := by
  obtain ⟨n1, n2, n3, n4, n5⟩ := net_facts ok hg run
  have hin : ∀ p ∈ prs, bitD (g + 64) (e0 p) = true ∧ bitD (g + 64) p.2 = true := fun p hp => by
    obtain ⟨r, hr, rfl⟩ := List.mem_map.mp (pm.mem_iff.mp hp)
    exact inG_ends (n1 r hr).2
  have cl' : ∀ r, r ∈ L → (ea r ∈ ss ↔ eb r ∈ ss) := fun r hr => (ends_law r ss).1.mp (cl _ (pm.mem_iff.mpr (List.mem_map.mpr ⟨r, hr, rfl⟩)))
  have h6 : bitD (g + 64) 6 = true := by
    have z := g_bits ⟨g, hg⟩ ⟨6, by decide⟩
    have z : bitD (g + 64) 6 = (bitD g 6 || decide (6 = 6)) := z
    rw [z, decide_eq_true rfl, Bool.or_true]
  have pe : ss.Perm ((List.range 7).filter (bitD (g + 64))) := by
    refine (List.perm_ext_iff_of_nodup so.1 (List.nodup_range.filter _)).mpr fun x => ?_
    rw [List.mem_filter, List.mem_range]
    constructor
    · intro hx
      exact ⟨(so.2.2 x hx).1, rc_in hin (so.2.2 x hx).2 h6⟩
    · rintro ⟨hx, hb⟩
      exact closed_cn cl' (n4 x hx hb) so.2.1
  rw [pe.length_eq]
  exact card_hands ⟨g, hg⟩
theorem inV_iff {i : Int} : ∀ {ns : List Int}, inV (.int i) (ns.map V.int) = decide (i ∈ ns)
  | [] => rfl
  | x :: r => by
    show ((x == i) || inV (.int i) (r.map V.int)) = _
    rw [inV_iff, Bool.eq_iff_iff, Bool.or_eq_true, beq_iff_eq, decide_eq_true_iff, decide_eq_true_iff, List.mem_cons]
    exact ⟨fun h => h.imp (fun z => z.symm) id, fun h => h.imp (fun z => z.symm) id⟩
theorem dget_f {H : Hp} {a b : Addr} {ob : Obj} {kvs : List (List Key × V)} {k : List Key} (e : H a = some (.frz ob (.dT kvs))) (eb : H b = some (.tup (k.map kV))) : DGet H a (.ref b) (valV kvs k) := .inr ⟨kvs, k, b, .inr ⟨ob, e⟩, rfl, eb, rfl⟩
theorem A2.filterD {H : Hp} {as : List Addr} {ps : List (Nat × Nat)} (q : Nat × Nat → Bool) (h : A2 (DAt H) as ps) : A2 (DAt H) (as.filter fun b => q (prOf H b)) (ps.filter q) := by
  induction h with
  | nil => exact .nil
  | @cons a x as xs r _ ih =>
    cases e : q x with
    | true =>
      rw [List.filter_cons_of_pos (by rw [r.of]; exact e), List.filter_cons_of_pos e]
      exact .cons r ih
    | false =>
      rw [List.filter_cons_of_neg (by rw [r.of, e]; decide), List.filter_cons_of_neg (by rw [e]; decide)]
      exact ih
def spJnd : Sp := fun vs H Q _ => ∃ (lf lh d : Addr) (ob : Obj) (ds : List Addr) (prs : List (Nat × Nat)) (qs rs L : List P3) (g : Nat), vs = [.ref lf, .ref lh, .ref d] ∧ H lf = some (.lst (ds.map V.ref)) ∧ A2 (DAt H) ds prs ∧ H lh = some (.lst ((hands g).map V.int)) ∧ H d = some (.frz ob (.dT (dOf qs))) ∧ (qs.map fun r => (r.1, r.2.1)).Nodup ∧ (∀ r, r ∈ qs ↔ r ∈ rs) ∧ (∀ r ∈ rs, RopeOk r) ∧ g < 64 ∧ prs.Perm (kys L) ∧ Run rs (g + 64) 64 L ∧ ∀ H', Same H H' → Q (.bl true) H'
theorem scJnd : FnScope ["_law_found", "_law_hands_here", "_law_by_rope_here", "_law_rope", "_law_cheap", "_law_ends_here"] ["_law_found", "_law_hands_here", "_law_by_rope_here"] (defScope sJnd) := ⟨rfl, rfl, rfl, by decide +kernel, rfl, by decide +kernel, by decide +kernel⟩
theorem ok_jnd {f1 f2 : Addr} {fd1 fd2 : FuncData} (t : Tx K mg "_law_joined" sJnd ["_law_found", "_law_hands_here", "_law_by_rope_here"] f fd) (T : T K mg AL RU NE fE fH rR rN iR iN fL fN SE NG NN NO NR NL NS NT NX NV TM UL) (D_law_ends : Df P w K mg base CX0 1 "_law_ends" ["_law_rope"] spLEn f1 fd1) (D_law_reached : Df P w K mg base CX0 2 "_law_reached" ["_law_start", "_law_ropes_here"] spRch f2 fd2) :
    Df P w K mg base CX0 3 "_law_joined" ["_law_found", "_law_hands_here", "_law_by_rope_here"] spJnd f fd := by
  refine t.df0 scJnd (fun vs H Q E h => ?_) (fun cdv A outer s H vs Q E hr h => ?_)
  · obtain ⟨lf, lh, d, ob, ds, prs, qs, rs, L, g, rfl, _⟩ := h
    rfl
  · obtain ⟨lf, lh, d, ob, ds, prs, qs, rs, L, g, rfl, hlf, ha, hlh, hd, nq, mem, ok, hg, pm, run, k⟩ := h
    refine ⟨_, (pss_cons (ps_if (pt_cmpR op_ne (pe_callB call_len_seq (by rfl) T.b_len bt_len (pa_cons (pe_d0 D_law_reached hr (by decide) (by rfl) (pa_cons pe_int (pa_cons (pv 0) pa_nil))) pa_nil)) (pe_op op_add (pe_callB call_len_seq (by rfl) T.b_len bt_len (pa_cons (pv 1) pa_nil)) pe_int) (nomark _)) (pss_one (ps_ret pe_bl)) pss_nil)
      (pss_cons (ps_for PassesOwn.never rfl (pi_dict (pv 2)) (pg_name (i := 3) scJnd.nd rfl (by first | exact Or.inl rfl | exact Or.inr rfl))
        (pss_one (ps_if (PW.pt (pw_and (pt_cmpR op_in_seq (pe_ix ix_tup (pv 3) pe_int (fun _ _ => rfl)) (pv 1) (by rfl)) (pw_and1 (pt_cmpR op_in_seq (pe_ix ix_tup (pv 3) pe_int (fun _ _ => rfl)) (pv 1) (by rfl))))) (pss_cons (ps_setC (NB := ["_law_one", "_law_by_rope_here", "_law_rope"]) (pick := [none, some 2, some 3]) (i := 4) scJnd.nd rfl (Or.inl rfl) (by rfl) (blk_mk (by with_unfolding_all rfl) (by exact (And.intro rfl (And.intro rfl trivial))) rfl (by decide +kernel) (by decide +kernel) (by rfl) (by rfl)) rfl
          (pi_list (pv 0)) (fun _ _ _ => pg_name (i := 0) (show (["_law_one", "_law_by_rope_here", "_law_rope"] : List Str).Nodup from by decide +kernel) rfl (Or.inl rfl))
          (fun _ _ _ => pif_one (pt_cmpR op_le (pe_dget (hu_of hr) (pv 1) (pv 0) (fun _ _ => rfl)) (pe_dget (hu_of hr) (pv 1) (pv 2) (fun _ _ => rfl)) (nomark _))) (fun _ _ _ => (pv 0)))
          (pss_cons (ps_set (i := 5) scJnd.nd rfl (Or.inl rfl) (pe_d0 D_law_ends hr (by decide) (by rfl) (pa_cons (pv 3) pa_nil)))
          (pss_one (ps_if (pt_cmpR op_notIn_seq (pe_ix ix_tup (pv 5) pe_int (fun _ _ => rfl)) (pe_d0 D_law_reached hr (by decide) (by rfl) (pa_cons (pe_ix ix_tup (pv 5) pe_int (fun _ _ => rfl)) (pa_cons (pv 4) pa_nil))) (by rfl)) (pss_one (ps_ret pe_bl)) pss_nil)))) pss_nil)))
      (pss_one (ps_ret pe_bl)))), ?_⟩
    obtain ⟨n1, n2, n3, n4, n5⟩ := net_facts ok hg run
    have pok : ∀ p ∈ prs, p.1 < 6 ∧ p.2 < 6 := fun p hp => by
      obtain ⟨r, hr', rfl⟩ := List.mem_map.mp (pm.mem_iff.mp hp)
      have z := ok r (n1 r hr').1
      exact ⟨Nat.lt_of_le_of_lt z.1 z.2, z.2⟩
    have dl : ds.length ≤ 6 := by
      rw [ha.len, pm.length_eq]
      unfold kys
      rw [List.length_map, n3]
      exact hN_len g 6
    refine ⟨_, rfl, lf, 6, ds, prs, rfl, hlf, ha, pok, by decide, by omega, fun l1 ss H1 hl1 s1 e1 so cl => ⟨l1, _, rfl, .inl (SqL.of e1), _, rfl, lh, _, rfl, .inl (SqL.of (s1 _ _ hlh)), _, _, rfl, rfl, rfl, _, rfl, ?_⟩⟩
    have el := seen_all ok hg run pm so cl
    have ev : V.int ((natL ss).length : Int) = V.int ((((hands g).map V.int).length : Int) + 1) := by
      unfold natL
      rw [List.length_map, List.length_map, List.length_map, el]
      push_cast
      rfl
    rw [ev]
    refine iteNE ?_
    refine ⟨_, rfl, d, ob, _, rfl, s1 _ _ hd, ?_⟩
    refine for_dict (fun i σ' H' => Same H H' ∧ ∃ o3 o4 o5 : Option V, σ' = [some (.ref lf), some (.ref lh), some (.ref d), o3, o4, o5]) ?_ ?_ ?_ ?_
    · exact ⟨s1, none, none, none, rfl⟩
    · rintro i σ' H2 _ ⟨s2, _⟩
      exact s2 _ _ hd
    · rintro i b kv σ' H2 hkv hb ⟨s2, o3, o4, o5, rfl⟩
      obtain ⟨⟨u, v, c⟩, hr', rfl⟩ : ∃ r, qs[i]? = some r ∧ kv = ([Sum.inl (r.1 : Int), Sum.inl (r.2.1 : Int)], V.int r.2.2) := by
        unfold dOf at hkv
        rw [List.getElem?_map] at hkv
        cases e : qs[i]? with
        | none => rw [e] at hkv; cases hkv
        | some r => rw [e] at hkv; exact ⟨r, rfl, (Option.some.inj hkv).symm⟩
      have hb : H2 b = some (.tup [.int (u : Int), .int (v : Int)]) := hb
      have hrq : (u, v, c) ∈ qs := List.mem_of_getElem? hr'
      have hrr := (mem _).mp hrq
      obtain ⟨o1, o2⟩ := ok _ hrr
      have o1 : u ≤ v := o1
      have o2 : v < 6 := o2
      have hlh2 := s2 _ _ hlh
      refine ⟨_, rfl, b, _, _, _, rfl, rfl, SqT.of hb, rfl, _, rfl, lh, _, rfl, .inl (SqL.of hlh2), rfl, flat_ints _, _, rfl, ?_⟩
      show if inV (V.int (u : Int)) ((hands g).map V.int) = true then _ else _
      rw [inV_iff]
      refine ite2 (fun h3 => ?_) (fun h3 => iteF ⟨s2, _, _, _, rfl⟩)
      have bu : bitD g u = true := (hands_mem ⟨g, hg⟩ ⟨u, by omega⟩).mp (of_decide_eq_true h3)
      refine ⟨_, rfl, b, _, _, _, rfl, rfl, SqT.of hb, rfl, _, rfl, lh, _, rfl, .inl (SqL.of hlh2), rfl, flat_ints _, _, rfl, ?_⟩
      show if inV (V.int (v : Int)) ((hands g).map V.int) = true then _ else _
      rw [inV_iff]
      refine ite2 (fun h4 => ?_) (fun h4 => ⟨s2, _, _, _, rfl⟩)
      have bv : bitD g v = true := (hands_mem ⟨g, hg⟩ ⟨v, o2⟩).mp (of_decide_eq_true h4)
      have e07 : e0 (u, v) < 7 := by unfold e0; split <;> omega
      have hlf2 := s2 _ _ hlf
      have hd2 := s2 _ _ hd
      have ha2 : A2 (DAt H2) ds prs := ha.imp fun _ _ z => z.keep s2.t
      have num : ∀ p ∈ prs, ∃ r ∈ L, p = (r.1, r.2.1) ∧ numP qs p.1 p.2 = some r.2.2 := fun p hp => by
        obtain ⟨r, hr2, rfl⟩ := List.mem_map.mp (pm.mem_iff.mp hp)
        exact ⟨r, hr2, rfl, mem_numP nq ((mem r).mpr (n1 r hr2).1)⟩
      have numr : numP qs u v = some c := mem_numP nq hrq
      refine ⟨_, rfl, lf, rfl, ⟨_, SqL.of hlf2⟩, ?_⟩
      refine comp_lst (xs := ds.map V.ref) (fun _ x => match x with | .ref b' => if decide (((numP qs (prOf H2 b').1 (prOf H2 b').2).getD 0) ≤ c) = true then some (V.ref b') else none | _ => none) (SqL.of hlf2) (by rw [List.length_map]; exact Nat.le_of_lt (small1000 (by omega))) (fun j x H3 kk kk0 s3 hx h1 h2 => ?_) fun D H3 hD s3 hdD => ?_
      · obtain ⟨b', hb', rfl⟩ := at_of hx
        obtain ⟨p, hp, pr⟩ := ha2.at hb'
        obtain ⟨r, _, ep, en⟩ := num p (List.mem_of_getElem? hp)
        have g1 := dget_f (k := [Sum.inl (p.1 : Int), Sum.inl (p.2 : Int)]) (s3 _ _ hd2) (pr.keep s3.t)
        rw [dOf_val, en] at g1
        have g2 := dget_f (k := [Sum.inl (u : Int), Sum.inl (v : Int)]) (s3 _ _ hd2) (s3 _ _ hb)
        rw [dOf_val, numr] at g2
        refine ⟨_, rfl, _, rfl, d, _, rfl, g1, _, rfl, _, rfl, d, _, rfl, g2, _, _, rfl, rfl, _, rfl, ?_⟩
        have ec : (numP qs (prOf H2 b').1 (prOf H2 b').2).getD 0 = r.2.2 := by rw [pr.of, en]; rfl
        by_cases q : r.2.2 ≤ c
        · rw [decide_eq_true q]
          exact iteT ⟨_, rfl, h1 _ (by show (if decide (((numP qs (prOf H2 b').1 (prOf H2 b').2).getD 0) ≤ c) = true then some (V.ref b') else none) = _; rw [ec, decide_eq_true q]; rfl) _ (.refl _)⟩
        · rw [decide_eq_false q]
          exact iteF (h2 (by show (if decide (((numP qs (prOf H2 b').1 (prOf H2 b').2).getD 0) ≤ c) = true then some (V.ref b') else none) = _; rw [ec, decide_eq_false q]; rfl) _ (.refl _))
      · replace hdD : H3 D = some (.lst ((ds.filter fun b' => decide (((numP qs (prOf H2 b').1 (prOf H2 b').2).getD 0) ≤ c)).map V.ref)) := by
          rw [hdD, fm_bind]
          exact congrArg (fun z => some (HO.lst z)) (refs_filter (fun b' => decide (((numP qs (prOf H2 b').1 (prOf H2 b').2).getD 0) ≤ c)) ds)
        have aF : A2 (DAt H3) (ds.filter fun b' => decide (((numP qs (prOf H2 b').1 (prOf H2 b').2).getD 0) ≤ c)) (prs.filter fun p => decide (((numP qs p.1 p.2).getD 0) ≤ c)) := (ha2.filterD fun p => decide (((numP qs p.1 p.2).getD 0) ≤ c)).imp fun _ _ z => z.keep s3.t
        have fl : (ds.filter fun b' => decide (((numP qs (prOf H2 b').1 (prOf H2 b').2).getD 0) ≤ c)).length ≤ 6 := Nat.le_trans (List.length_filter_le _ _) dl
        generalize (ds.filter fun b' => decide (((numP qs (prOf H2 b').1 (prOf H2 b').2).getD 0) ≤ c)) = fs at hdD aF fl
        refine ⟨_, rfl, b, (u, v), rfl, s3 _ _ hb, fun b2 H4 s4 e4 => ?_⟩
        refine ⟨_, rfl, b2, _, _, _, rfl, rfl, SqT.of e4, rfl, _, rfl, b2, _, _, _, rfl, rfl, SqT.of e4, rfl, _, rfl, D, e0 (u, v), fs, prs.filter fun p => decide (((numP qs p.1 p.2).getD 0) ≤ c), rfl, s4 _ _ hdD, aF.imp fun _ _ z => z.keep s4.t, fun p hp => pok p (List.mem_filter.mp hp).1, e07, by omega, fun l5 ss5 H5 hl5 s5 e5 so5 cl5 => ⟨l5, _, rfl, .inl (SqL.of e5), rfl, flat_nat _, _, rfl, ?_⟩⟩
        have gb : ∀ k, k < 7 → bitD g k = true → bitD (g + 64) k = true := fun k hk z => by
          have y := g_bits ⟨g, hg⟩ ⟨k, hk⟩
          have y : bitD (g + 64) k = (bitD g k || decide (k = 6)) := y
          rw [y, z]; rfl
        have h6 : bitD (g + 64) 6 = true := by
          have z := g_bits ⟨g, hg⟩ ⟨6, by decide⟩
          have z : bitD (g + 64) 6 = (bitD g 6 || decide (6 = 6)) := z
          rw [z, decide_eq_true rfl, Bool.or_true]
        have hi : inG (g + 64) (u, v, c) = true := by
          unfold inG ea eb
          rw [gb u (by omega) bu]
          by_cases e : u = v
          · rw [if_pos e, h6]; rfl
          · rw [if_neg e, gb v (by omega) bv]; rfl
        have cn := n5 _ hrr hi
        have cl' : ∀ r', (r' ∈ L ∧ r'.2.2 ≤ c) → (ea r' ∈ ss5 ↔ eb r' ∈ ss5) := fun r' hr2 => by
          refine (ends_law r' ss5).1.mp (cl5 (r'.1, r'.2.1) (List.mem_filter.mpr ⟨pm.mem_iff.mpr (List.mem_map.mpr ⟨r', hr2.1, rfl⟩), decide_eq_true ?_⟩))
          have z : numP qs r'.1 r'.2.1 = some r'.2.2 := mem_numP nq ((mem r').mpr (n1 r' hr2.1).1)
          show (numP qs r'.1 r'.2.1).getD 0 ≤ c
          rw [z]
          exact hr2.2
        have hv : v ∈ ss5 := by
          have st := so5.2.1
          rcases (ends_law (u, v, c) ss5).2 with ⟨x1, x2⟩ | ⟨x1, x2⟩
          · have x1 : e0 (u, v) = ea (u, v, c) := x1
            have x2 : v = eb (u, v, c) := x2
            rw [x2]
            rw [x1] at st
            exact closed_cn cl' cn st
          · have x1 : e0 (u, v) = eb (u, v, c) := x1
            have x2 : v = ea (u, v, c) := x2
            rw [x2]
            rw [x1] at st
            exact closed_cn cl' cn.symm st
        show if (!inV (V.int (v : Int)) (natL ss5)) = true then _ else _
        rw [inV_nat, decide_eq_true hv]
        exact iteF ⟨s2.trans (s3.trans (s4.trans s5)), _, _, _, rfl⟩
    · rintro σ' H2 ⟨s2, o3, o4, o5, rfl⟩
      exact k H2 s2
/-! ### _law_by_rope -/
theorem fresh_key {i u v : Nat} {n : Int} {qs : List P3} (nd : (qs.map fun p => (p.1, p.2.1)).Nodup) (e : qs[i]? = some (u, v, n)) : numP (qs.take i) u v = none := by
  cases z : numP (qs.take i) u v with
  | none => rfl
  | some n' =>
    have hm := numP_mem z
    obtain ⟨j, hj⟩ := List.getElem?_of_mem hm
    have hji : j < i := by
      rcases Nat.lt_or_ge j i with q | q
      · exact q
      · rw [List.getElem?_eq_none (by rw [List.length_take]; omega)] at hj
        cases hj
    rw [List.getElem?_take_of_lt hji] at hj
    have hi := (List.getElem?_eq_some_iff.mp e).1
    have k1 : (qs.map fun p => (p.1, p.2.1))[j]? = some (u, v) := by rw [List.getElem?_map, hj]; rfl
    have k2 : (qs.map fun p => (p.1, p.2.1))[i]? = some (u, v) := by rw [List.getElem?_map, e]; rfl
    have := (List.getElem?_inj (i := j) (j := i) (by rw [List.length_map]; omega) nd).mp (k1.trans k2.symm)
    omega
theorem dOf_snoc {i u v : Nat} {n : Int} {qs : List P3} (e : qs[i]? = some (u, v, n)) : dOf (qs.take (i + 1)) = dOf (qs.take i) ++ [([Sum.inl (u : Int), Sum.inl (v : Int)], V.int n)] := by
  unfold dOf
  rw [List.take_succ, e, List.map_append]
  rfl
theorem all_nodup {cs : List Int} {qs : List P3} {m : Nat} (pw : Pw m qs) : ((allR cs qs).map fun p => (p.1, p.2.1)).Nodup := by
  unfold allR wellR
  rw [List.map_append, List.nodup_append, List.map_map]
  refine ⟨?_, pw.2, fun x hx y hy e => ?_⟩
  · refine List.pairwise_map.mpr ((List.nodup_range (n := cs.length)).imp fun {a b} ne z => ne ?_)
    exact (Prod.mk.inj z).1
  · subst e
    obtain ⟨i, _, rfl⟩ := List.mem_map.mp hx
    obtain ⟨r, hr, e⟩ := List.mem_map.mp hy
    have z := (pw.1 r hr).1
    have e1 : r.1 = i := (Prod.mk.inj e).1
    have e2 : r.2.1 = i := (Prod.mk.inj e).2
    omega
theorem well_at {cs : List Int} {qs : List P3} {i : Nat} (h : i < cs.length) : (allR cs qs)[i]? = some (i, i, cs.getD i 0) := by
  unfold allR wellR
  rw [List.getElem?_append_left (by rw [List.length_map, List.length_range]; exact h), List.getElem?_map, List.getElem?_range h]
  rfl
theorem rest_at {cs : List Int} {qs : List P3} {i : Nat} : (allR cs qs)[cs.length + i]? = qs[i]? := by
  unfold allR wellR
  rw [List.getElem?_append_right (by rw [List.length_map, List.length_range]; omega), List.length_map, List.length_range, Nat.add_sub_cancel_left]
def spByR : Sp := fun vs H Q _ => ∃ (lc lp : Addr) (cs : List Int) (bs : List Addr) (qs : List P3), vs = [.ref lc, .ref lp] ∧ H lc = some (.lst (cs.map V.int)) ∧ cs.length ≤ 6 ∧ H lp = some (.lst (bs.map V.ref)) ∧ A2 (PAt H) bs qs ∧ Pw cs.length qs ∧ bs.length ≤ 15 ∧
  ∀ (d : Addr) (ob : Obj) (H' : Hp), H d = none → Same H H' → H' d = some (.frz ob (.dT (dOf (allR cs qs)))) → Q (.ref d) H'
theorem scByR : FnScope ["_law_costs", "_law_ropes_here", "_law_found", "_law_hand", "_law_one", "_law_other", "_law_number"] ["_law_costs", "_law_ropes_here"] (defScope sByR) := ⟨rfl, rfl, rfl, by decide +kernel, rfl, by decide +kernel, by decide +kernel⟩
theorem ok_byr (t : Tx K mg "_law_by_rope" sByR ["_law_costs", "_law_ropes_here"] f fd) (T : T K mg AL RU NE fE fH rR rN iR iN fL fN SE NG NN NO NR NL NS NT NX NV TM UL) : Df P w K mg base CX0 1 "_law_by_rope" ["_law_costs", "_law_ropes_here"] spByR f fd := by
  refine t.df0 scByR (fun vs H Q E h => ?_) (fun cdv A outer s H vs Q E hr h => ?_)
  · obtain ⟨lc, lp, cs, bs, qs, rfl, _⟩ := h
    rfl
  · obtain ⟨lc, lp, cs, bs, qs, rfl, hlc, c6, hlp, ha, pw, blen, k⟩ := h
    refine ⟨_, (pss_cons (ps_set (i := 2) scByR.nd rfl (Or.inl rfl) pe_dnewT)
      (pss_cons (ps_for PassesOwn.never rfl (pi_range1 (by rfl) T.b_range (pa_cons (pe_callB call_len_seq (by rfl) T.b_len bt_len (pa_cons (pv 0) pa_nil)) pa_nil)) (pg_name (i := 3) scByR.nd rfl (Or.inl rfl))
        (pss_one (ps_dput (hu_of hr) (pv 2) (pe_tup (pa_cons (pv 3) (pa_cons (pv 3) pa_nil))) (pe_ix ix_list (pv 0) (pv 3) (fun _ _ => rfl)) rfl)))
      (pss_cons (ps_for PassesOwn.never rfl (pi_list (pv 1)) (pg_tup rfl (pgs_cons (pg_name (i := 4) scByR.nd rfl (Or.inl rfl)) (pgs_cons (pg_name (i := 5) scByR.nd rfl (Or.inl rfl)) (pgs_cons (pg_name (i := 6) scByR.nd rfl (Or.inl rfl)) pgs_nil))))
        (pss_one (ps_dput (hu_of hr) (pv 2) (pe_tup (pa_cons (pv 4) (pa_cons (pv 5) pa_nil))) (pv 6) rfl)))
      (pss_one (ps_ret (pe_frz (pv 2))))))), ?_⟩
    have nd := all_nodup (cs := cs) pw
    have al : (allR cs qs).length = cs.length + bs.length := by unfold allR wellR; rw [List.length_append, List.length_map, List.length_range, ha.len]
    refine fun d hd => ?_
    have u1 := Same.upd_new (o := .dT []) hd
    have hel : ((cs.map V.int).length : Int) = (cs.length : Int) := by rw [List.length_map]
    refine ⟨_, rfl, lc, _, rfl, .inl (SqL.of (u1 _ _ hlc)), (cs.length : Int), (by show [V.int ((cs.map V.int).length : Int)] = _; rw [hel]), by omega, by omega, ?_⟩
    refine for_range (n := cs.length) (fun i σ' H' => Same H H' ∧ H' d = some (.dT (dOf ((allR cs qs).take i))) ∧ ∃ o3 : Option V, σ' = [some (.ref lc), some (.ref lp), some (.ref d), o3, none, none, none]) ?_ ?_ ?_
    · exact ⟨u1, upd_same, none, rfl⟩
    · rintro i σ' H2 hi ⟨s2, d2, o3, rfl⟩
      have hat : atI (cs.map V.int) (0 + (i : Int)) = some (.int (cs.getD i 0)) := by
        rw [Int.zero_add]
        exact at_ints hi
      refine ⟨_, rfl, _, rfl, lc, _, _, _, rfl, rfl, SqL.of (s2 _ _ hlc), hat, _, rfl, _, rfl, _, rfl, by show 2 ≤ sizeLine; decide, fun tt htt => ?_⟩
      have u3 := Same.upd_new (o := .tup [V.int (0 + (i : Int)), V.int (0 + (i : Int))]) htt
      have ht : upd H2 tt (.tup [V.int (0 + (i : Int)), V.int (0 + (i : Int))]) tt = some (.tup (([Sum.inl (i : Int), Sum.inl (i : Int)] : List Key).map kV)) := by rw [upd_same, Int.zero_add]; rfl
      refine ⟨d, _, rfl, DPut.t (k := [Sum.inl (i : Int), Sum.inl (i : Int)]) (u3 _ _ d2) ht (by unfold dOf; rw [List.length_map, List.length_take]; exact small1000 (by omega)), (s2.trans u3).upd_ne' hd, ?_, _, rfl⟩
      rw [upd_same, putK_new _ (by rw [dOf_val, fresh_key nd (well_at hi)]; rfl), dOf_snoc (well_at hi)]
    · rintro σ' H2 ⟨s2, d2, o3, rfl⟩
      refine ⟨_, rfl, lp, rfl, ⟨_, SqL.of (s2 _ _ hlp)⟩, ?_⟩
      refine for_list (xs := bs.map V.ref) (fun i σ' H' => Same H H' ∧ H' d = some (.dT (dOf ((allR cs qs).take (cs.length + i)))) ∧ ∃ o4 o5 o6 : Option V, σ' = [some (.ref lc), some (.ref lp), some (.ref d), o3, o4, o5, o6]) ?_ ?_ ?_ ?_
      · exact ⟨s2, d2, none, none, none, rfl⟩
      · rintro i σ' H3 _ ⟨s3, _⟩
        exact SqL.of (s3 _ _ hlp)
      · rintro i x σ' H3 hx ⟨s3, d3, o4, o5, o6, rfl⟩
        obtain ⟨b, hb, rfl⟩ := at_of hx
        obtain ⟨⟨u, v, c⟩, hp, ep⟩ := ha.at hb
        have ep : H b = some (.tup [.int (u : Int), .int (v : Int), .int c]) := ep
        have hi := (List.getElem?_eq_some_iff.mp hb).1
        have hpa : (allR cs qs)[cs.length + i]? = some (u, v, c) := by rw [rest_at]; exact hp
        refine ⟨b, _, rfl, SqT.of (s3 _ _ ep), rfl, _, _, rfl, _, _, rfl, _, _, rfl, rfl, ?_⟩
        refine ⟨_, rfl, _, rfl, _, rfl, _, rfl, by show 2 ≤ sizeLine; decide, fun tt htt => ?_⟩
        have u4 := Same.upd_new (o := .tup [V.int (u : Int), V.int (v : Int)]) htt
        refine ⟨d, _, rfl, DPut.t (k := [Sum.inl (u : Int), Sum.inl (v : Int)]) (u4 _ _ d3) upd_same (by unfold dOf; rw [List.length_map, List.length_take]; exact small1000 (by omega)), (s3.trans u4).upd_ne' hd, ?_, _, _, _, rfl⟩
        rw [upd_same, putK_new _ (by rw [dOf_val, fresh_key nd hpa]; rfl), ← Nat.add_assoc, dOf_snoc hpa]
      · rintro σ' H3 ⟨s3, d3, o4, o5, o6, rfl⟩
        rw [List.length_map, ← al, List.take_length] at d3
        exact ⟨_, rfl, d, _, rfl, d3, fun ob => k d ob _ hd (s3.upd_ne' hd) upd_same⟩
/-! ### _law_net -/
def HeldN (H : Hp) (lh : Addr) (n : Nat) : Prop := ∃ ts : List Addr, H lh = some (.lst (ts.map V.ref)) ∧ ts.length ≤ n ∧ ∀ t ∈ ts, ∃ (x y : Addr) (rs : List Addr), H t = some (.tup [.ref x, .ref y]) ∧ H x = some (.lst (rs.map V.ref)) ∧ H y = some (.lst (rs.map V.ref)) ∧ x ≠ lh ∧ y ≠ lh
theorem HeldN.same {H H' : Hp} {lh : Addr} {n : Nat} (h : HeldN H lh n) (s : Same H H') : HeldN H' lh n :=
  let ⟨ts, h1, h2, h3⟩ := h; ⟨ts, s _ _ h1, h2, fun t ht => let ⟨x, y, rs, e1, e2, e3, e4⟩ := h3 t ht; ⟨x, y, rs, s _ _ e1, s _ _ e2, s _ _ e3, e4⟩⟩
theorem HeldN.at {H : Hp} {lh : Addr} {n : Nat} (h : HeldN H lh n) : ∃ xs, H lh = some (.lst xs) := let ⟨_, h1, _⟩ := h; ⟨_, h1⟩
theorem HeldN.add {H : Hp} {lh t x y : Addr} {n : Nat} {ts rs : List Addr} (h : HeldN H lh n) (hl : H lh = some (.lst (ts.map V.ref))) (ht : H t = some (.tup [.ref x, .ref y])) (hx : H x = some (.lst (rs.map V.ref))) (hy : H y = some (.lst (rs.map V.ref))) (nx : x ≠ lh) (ny : y ≠ lh) : HeldN (upd H lh (.lst (ts.map V.ref ++ [V.ref t]))) lh (n + 1) := by
  obtain ⟨ts', h1, h2, h3⟩ := h
  have e : ts' = ts := by
    rw [hl] at h1
    have z : ts.map V.ref = ts'.map V.ref := HO.lst.inj (Option.some.inj h1)
    have inj : ∀ a b : List Addr, a.map V.ref = b.map V.ref → b = a := by
      intro a
      induction a with
      | nil => intro b z; cases b with | nil => rfl | cons _ _ => cases z
      | cons u r ih =>
        intro b z
        cases b with
        | nil => cases z
        | cons v r' =>
          have z1 := List.cons.inj z
          rw [V.ref.inj z1.1, ih r' z1.2]
    exact inj _ _ z
  subst e
  have nt : ∀ c xs, H c = some (HO.tup xs) → c ≠ lh := fun c xs e => ne_of e hl (fun z => nomatch z)
  refine ⟨ts' ++ [t], by rw [upd_same, List.map_append]; rfl, by rw [List.length_append]; show _ + 1 ≤ _; omega, fun c hc => ?_⟩
  rcases List.mem_append.mp hc with hc | hc
  · obtain ⟨x', y', rs', e1, e2, e3, e4, e5⟩ := h3 c hc
    exact ⟨x', y', rs', by rw [upd_ne (nt _ _ e1)]; exact e1, by rw [upd_ne e4]; exact e2, by rw [upd_ne e5]; exact e3, e4, e5⟩
  · have : c = t := by simpa using hc
    subst this
    exact ⟨x, y, rs, by rw [upd_ne (nt _ _ ht)]; exact ht, by rw [upd_ne nx]; exact hx, by rw [upd_ne ny]; exact hy, nx, ny⟩
theorem SameBut.trans' {x : Addr} {H H1 H2 : Hp} (a : SameBut x H H1) (b : SameBut x H1 H2) : SameBut x H H2 := fun c o n e => b c o n (a c o n e)
theorem HeldN.le {H : Hp} {lh : Addr} {n n' : Nat} (h : HeldN H lh n) (hn : n ≤ n') : HeldN H lh n' := let ⟨ts, h1, h2, h3⟩ := h; ⟨ts, h1, by omega, h3⟩
theorem lexle_code {p q : Nat × Nat} (hp : p.2 < 7) (hq : q.2 < 7) : HT.lexLe [(p.1 : Int), (p.2 : Int)] [(q.1 : Int), (q.2 : Int)] = decide (code2 p ≤ code2 q) := by
  unfold code2
  rw [HT.lexLe_cons]
  by_cases e : (p.1 : Int) = q.1
  · rw [if_pos e, HT.lexLe_cons]
    by_cases e2 : (p.2 : Int) = q.2
    · rw [if_pos e2]
      exact (decide_eq_true (by omega)).symm
    · rw [if_neg e2]
      exact decide_eq_decide.mpr (by omega)
  · rw [if_neg e]
    exact decide_eq_decide.mpr (by omega)
def cstP (qs : List P3) (p : Nat × Nat) : Int := (numP qs p.1 p.2).getD 0
theorem sum_permN {l l' : List Int} (h : l.Perm l') : l.sum = l'.sum := by
  induction h with
  | nil => rfl
  | cons x _ ih => rw [List.sum_cons, List.sum_cons, ih]
  | swap x y l => rw [List.sum_cons, List.sum_cons, List.sum_cons, List.sum_cons]; omega
  | trans _ _ h1 h2 => exact h1.trans h2
theorem cst_sum {qs L : List P3} {prs : List (Nat × Nat)} (nq : (qs.map fun r => (r.1, r.2.1)).Nodup) (hL : ∀ r ∈ L, r ∈ qs) (pm : prs.Perm (kys L)) : (prs.map (cstP qs)).sum = (L.map (·.2.2)).sum := by
  rw [sum_permN (pm.map (cstP qs))]
  unfold kys
  rw [List.map_map]
  congr 1
  refine List.map_congr_left fun r hr => ?_
  show (numP qs r.1 r.2.1).getD 0 = r.2.2
  rw [mem_numP nq (hL r hr)]
  rfl
theorem sum_take {xs : List Int} {i : Nat} {x : Int} (h : xs[i]? = some x) : (xs.take (i + 1)).sum = (xs.take i).sum + x := by
  rw [List.take_succ, h, List.sum_append]
  show _ + (x + 0) = _
  omega
def spLNe (NE : Addr) : Sp := fun vs H Q _ => ∃ (a ll lr d lh : Addr) (ob : Obj) (cs : List Int) (rs qs : List P3) (n g : Nat), vs = [.ref a, .int (g : Int), .ref d, .ref lh] ∧ NObj NE H a ll lr cs rs ∧ H d = some (.frz ob (.dT (dOf qs))) ∧ (qs.map fun r => (r.1, r.2.1)).Nodup ∧ (∀ r, r ∈ qs ↔ r ∈ allR cs rs) ∧ g < 2 ^ cs.length ∧ HeldN H lh n ∧ n ≤ 200 ∧
  ∀ H', SameBut lh H H' → HeldN H' lh (n + 1) → Q (.bl true) H'
theorem scLNe : FnScope ["_law_rule", "_law_group", "_law_by_rope_here", "_law_held", "_law_found", "_law_gain", "_law_hands_here", "_law_last", "_law_rope"] ["_law_rule", "_law_group", "_law_by_rope_here", "_law_held"] (defScope sLNe) := ⟨rfl, rfl, rfl, by decide +kernel, rfl, by decide +kernel, by decide +kernel⟩
theorem ok_lne {f1 f2 f3 : Addr} {fd1 fd2 fd3 : FuncData} (t : Tx K mg "_law_net" sLNe ["_law_rule", "_law_group", "_law_by_rope_here", "_law_held"] f fd) (T : T K mg AL RU NE fE fH rR rN iR iN fL fN SE NG NN NO NR NL NS NT NX NV TM UL) (DE : Md P w K mg base 7 ["self", "group"] (spErn P w K mg base fE fH RU NG) fE) (DR : Md P w K mg base 5 ["self", "group"] (spNRk NE) rN) (DP : Md P w K mg base 5 ["self", "group"] (spNNt K NG NE) fN)
    (D_law_whole : Df P w K mg base CX0 1 "_law_whole" ["_law_found"] (spNum K) f1 fd1) (D_law_hands : Df P w K mg base CX0 1 "_law_hands" ["_law_group"] spLHn f2 fd2) (D_law_joined : Df P w K mg base CX0 3 "_law_joined" ["_law_found", "_law_hands_here", "_law_by_rope_here"] spJnd f3 fd3) :
    Df P w K mg base CX0 8 "_law_net" ["_law_rule", "_law_group", "_law_by_rope_here", "_law_held"] (spLNe NE) f fd := by
  refine t.df0 scLNe (fun vs H Q E h => ?_) (fun cdv A outer s H vs Q E hr h => ?_)
  · obtain ⟨a, ll, lr, d, lh, ob, cs, rs, qs, n, g, rfl, _⟩ := h
    rfl
  · obtain ⟨a, ll, lr, d, lh, ob, cs, rs, qs, n, g, rfl, no, hd, nq, mem, hg, he, hn, k⟩ := h
    refine ⟨_, (pss_cons (ps_set (i := 4) scLNe.nd rfl (Or.inl rfl) (pe_methX (k := 5) pass_no (pv 0) hr (by decide) (pa_cons (pv 1) pa_nil)))
      (pss_cons (ps_set (i := 5) scLNe.nd rfl (Or.inl rfl) (pe_methX (k := 7) pass_no (pv 0) hr (by decide) (pa_cons (pv 1) pa_nil)))
      (pss_cons (ps_set (i := 6) scLNe.nd rfl (Or.inl rfl) (pe_d0 D_law_hands hr (by decide) (by rfl) (pa_cons (pv 1) pa_nil)))
      (pss_cons (ps_if (PW.pt (pw_or (pt_not (pt_val (pe_callB call_isi (by rfl) T.b_isi bt_isi (pa_cons (pv 4) (pa_cons (pe_bltn (v := .ty "list") (by rfl) T.b_list bt_list rfl) pa_nil))))) (pw_or (pt_cmpR op_ne (pe_callB call_len_seq (by rfl) T.b_len bt_len (pa_cons (pv 4) pa_nil)) (pe_callB call_len_seq (by rfl) T.b_len bt_len (pa_cons (pv 6) pa_nil)) (nomark _)) (pw_or1 (pt_not (pt_val (pe_d0 D_law_whole hr (by decide) (by rfl) (pa_cons (pv 5) pa_nil)))))))) (pss_one (ps_ret pe_bl)) pss_nil)
      (pss_cons (ps_set (i := 7) scLNe.nd rfl (Or.inl rfl) (pe_tup (pa_cons (pe_un un_neg pe_int) (pa_cons (pe_un un_neg pe_int) pa_nil))))
      (pss_cons (ps_for PassesOwn.never rfl (pi_list (pv 4)) (pg_name (i := 8) scLNe.nd rfl (Or.inl rfl))
        (pss_cons (ps_if (PW.pt (pw_or (pt_not (pt_val (pe_callB call_isi (by rfl) T.b_isi bt_isi (pa_cons (pv 8) (pa_cons (pe_bltn (v := .ty "tuple") (by rfl) T.b_tuple bt_tuple rfl) pa_nil))))) (pw_or (pt_cmpR op_ne (pe_callB call_len_seq (by rfl) T.b_len bt_len (pa_cons (pv 8) pa_nil)) pe_int (nomark _)) (pw_or (pt_not (pt_val (pe_d0 D_law_whole hr (by decide) (by rfl) (pa_cons (pe_ix ix_tup (pv 8) pe_int (fun _ _ => rfl)) pa_nil)))) (pw_or1 (pt_not (pt_val (pe_d0 D_law_whole hr (by decide) (by rfl) (pa_cons (pe_ix ix_tup (pv 8) pe_int (fun _ _ => rfl)) pa_nil))))))))) (pss_one (ps_ret pe_bl)) pss_nil)
        (pss_cons (ps_if (PW.pt (pw_or (pt_cmp (pc_dnotin (hu_of hr) (pv 8) (pv 2))) (pw_or (pt_cmpR op_notIn_seq (pe_ix ix_tup (pv 8) pe_int (fun _ _ => rfl)) (pv 6) (by rfl)) (pw_or (pt_cmpR op_notIn_seq (pe_ix ix_tup (pv 8) pe_int (fun _ _ => rfl)) (pv 6) (by rfl)) (pw_or1 (pt_cmpR (op_leT (Nat.lt_of_le_of_lt (Nat.le_add_right _ 64) hr.units)) (pv 8) (pv 7) (nomark _))))))) (pss_one (ps_ret pe_bl)) pss_nil)
        (pss_cons (ps_set (i := 5) scLNe.nd rfl (Or.inl rfl) (pe_op op_add (pv 5) (pe_dget (hu_of hr) (pv 2) (pv 8) (fun _ _ => rfl))))
        (pss_one (ps_set (i := 7) scLNe.nd rfl (Or.inl rfl) (pv 8)))))))
      (pss_cons (ps_if (PW.pt (pw_or (pt_cmpR op_ne (pv 5) pe_int (nomark _)) (pw_or1 (pt_not (pt_val (pe_d0 D_law_joined hr (by decide) (by rfl) (pa_cons (pv 4) (pa_cons (pv 6) (pa_cons (pv 2) pa_nil))))))))) (pss_one (ps_ret pe_bl)) pss_nil)
      (pss_cons (ps_if (pt_cmpR op_eq (pe_op op_mod (pv 1) pe_int) pe_int (nomark _)) (pss_one (ps_expr (pe_bm0 PySem.F.plainAttrs_list PySem.F.slot_list_clear PySem.F.type_list_clear mt_clearR (pv 4)))) pss_nil)
      (pss_cons (ps_expr (pe_bm PySem.F.plainAttrs_list PySem.F.slot_list_append PySem.F.type_list_append mt_appendR (pv 3) (pa_cons (pe_tup (pa_cons (pv 4) (pa_cons (pe_callTy call_list_of (by rfl) T.b_list bt_list (pa_cons (pv 4) pa_nil)) pa_nil))) pa_nil)))
      (pss_one (ps_ret pe_bl))))))))))), ?_⟩
    have no' := no
    obtain ⟨dx, bs, h1, h2, h3, h4, c1, c6, pw, blen⟩ := no'
    have hg6 : g < 64 := Nat.lt_of_lt_of_le hg (Nat.pow_le_pow_right (n := 2) (by decide) c6)
    have no_ : ∀ {A : Prop}, inB 0 (2 ^ cs.length - 1) (.int (g : Int)) = false → A := fun z => by
      rw [nat_inB hg] at z
      cases z
    refine ⟨_, rfl, a, NE, dx, _, fN, _, rfl, h1, rfl, T.rNE.oc.cl, T.tNE, ⟨_, DP⟩, _, rfl, a, ll, lr, cs, rs, _, rfl, no, .int _, fun z => no_ z, fun g' hv _ lf ds prs L H1 hlf s1 e1 a1 pm pw' run => ?_⟩
    have eg : g' = g := by have := V.int.inj hv; omega
    subst eg
    have ro := net_obj DR T.rNE (no.same s1)
    refine ⟨_, rfl, a, NE, dx, _, fE, _, rfl, s1 _ _ h1, rfl, T.rNE.oc.cl, T.rNE.me, ⟨_, DE⟩, _, rfl, a, cs.length, _, _, rfl, ro, .int _, fun z => no_ z, fun g2 hv2 _ H2 s2 => ?_⟩
    have eg : g2 = g' := by have := V.int.inj hv2; omega
    subst eg
    refine ⟨_, rfl, g2, rfl, hg6, fun lh2 H3 hlh2 s3 e3 => ?_⟩
    obtain ⟨n1, n2, n3, n4, n5⟩ := net_facts (ropes_ok c6 pw) hg6 run
    have hn6 : (hands g2).length ≤ 6 := hN_len g2 6
    have kl : (kys L).length = L.length := by unfold kys; rw [List.length_map]
    have dl : ds.length = (hands g2).length := by rw [a1.len, pm.length_eq, kl, n3]
    have e13 := s3 _ _ (s2 _ _ e1)
    have a13 : A2 (DAt H3) ds prs := a1.imp fun _ _ z => (z.keep s2.t).keep s3.t
    have s13 := s1.trans (s2.trans s3)
    refine ⟨_, rfl, .ref lf, .ty "list", _, _, _, rfl, rfl, .of (.lst e13), Kd.lst.list_ K, _, rfl, iteF ?_⟩
    refine ⟨_, rfl, lf, _, rfl, .inl (SqL.of e13), _, rfl, lh2, _, rfl, .inl (SqL.of e3), rfl, _, rfl, ?_⟩
    have ev : V.int ((ds.map V.ref).length : Int) = V.int (((hands g2).map V.int).length : Int) := by rw [List.length_map, List.length_map, dl]
    rw [ev]
    refine iteNE ?_
    refine ⟨_, rfl, _, rfl, .int _, _, rfl, iteF ?_⟩
    refine ⟨1, rfl, 1, rfl, by show 2 ≤ sizeLine; decide, fun la hla => ?_⟩
    have u4 := Same.upd_new (o := .tup [V.int (-1), V.int (-1)]) hla
    have k4 : upd H3 la (.tup [V.int (-1), V.int (-1)]) la = some (.tup [V.int (-1), V.int (-1)]) := upd_same
    have e4 := u4 _ _ e13
    have e34 := u4 _ _ e3
    have a4 : A2 (DAt (upd H3 la (.tup [V.int (-1), V.int (-1)]))) ds prs := a13.imp fun _ _ z => z.keep u4.t
    have s4 := s13.trans u4
    generalize upd H3 la (.tup [V.int (-1), V.int (-1)]) = H4 at u4 k4 e4 e34 a4 s4 ⊢
    have hd4 := s4 _ _ hd
    have b7 : ∀ p ∈ prs, p.1 < 6 ∧ p.2 < 6 ∧ bitD g2 p.1 = true ∧ bitD g2 p.2 = true ∧ ∃ c, numP qs p.1 p.2 = some c := fun p hp => by
      obtain ⟨r, hr', rfl⟩ := List.mem_map.mp (pm.mem_iff.mp hp)
      obtain ⟨y1, y2⟩ := n1 r hr'
      have z := ropes_ok c6 pw r y1
      have w1 : r.1 < 6 := Nat.lt_of_le_of_lt z.1 z.2
      obtain ⟨x1, x2⟩ := inG_ends y2
      have un : ∀ k, k < 6 → bitD (g2 + 64) k = true → bitD g2 k = true := fun k hk q => by
        have y := g_bits ⟨g2, hg6⟩ ⟨k, by omega⟩
        have y : bitD (g2 + 64) k = (bitD g2 k || decide (k = 6)) := y
        rw [q, decide_eq_false (by omega), Bool.or_false] at y
        exact y.symm
      have i2 := y2
      unfold inG at i2
      rw [Bool.and_eq_true] at i2
      exact ⟨w1, z.2, un _ w1 i2.1, un _ z.2 x2, r.2.2, mem_numP nq ((mem r).mpr y1)⟩
    refine ⟨_, rfl, lf, rfl, ⟨_, SqL.of e4⟩, ?_⟩
    refine for_list (xs := ds.map V.ref) (fun i σ' H' => Same H4 H' ∧ ∃ (la : Addr) (x y : Int) (o8 : Option V), H' la = some (.tup [.int x, .int y]) ∧ (∀ p, prs[i]? = some p → HT.lexLe [(p.1 : Int), (p.2 : Int)] [x, y] = false) ∧ σ' = [some (.ref a), some (.int (g2 : Int)), some (.ref d), some (.ref lh), some (.ref lf), some (.int (gainN cs rs g2 + ((prs.map (cstP qs)).take i).sum)), some (.ref lh2), some (.ref la), o8]) ?_ ?_ ?_ ?_
    · refine ⟨.refl _, la, -1, -1, none, k4, fun p hp => ?_, ?_⟩
      · rw [HT.lexLe_cons, if_neg (by omega)]
        exact decide_eq_false (by omega)
      · show [some (V.ref a), some (V.int (g2 : Int)), some (V.ref d), some (V.ref lh), some (V.ref lf), some (V.int (gainN cs rs g2)), some (V.ref lh2), some (V.ref la), none] = _
        rw [List.take_zero, List.sum_nil, Int.add_zero]
    · rintro i σ' H5 _ ⟨s5, _⟩
      exact SqL.of (s5 _ _ e4)
    · rintro i x σ' H5 hx ⟨s5, la', x', y', o8, k5, lx, rfl⟩
      obtain ⟨rb, hrb, rfl⟩ := at_of hx
      obtain ⟨⟨u, v⟩, hp, ep⟩ := a4.at hrb
      have ep : H5 rb = some (.tup [.int (u : Int), .int (v : Int)]) := ep.keep s5.t
      have pmm := List.mem_of_getElem? hp
      obtain ⟨u6, v6, bu, bv, c, en⟩ := b7 _ pmm
      have u6 : u < 6 := u6
      have v6 : v < 6 := v6
      have en : numP qs u v = some c := en
      have hh5 := s5 _ _ e34
      have m1 : (u : Int) ∈ hands g2 := (hands_mem ⟨g2, hg6⟩ ⟨u, u6⟩).mpr bu
      have m2 : (v : Int) ∈ hands g2 := (hands_mem ⟨g2, hg6⟩ ⟨v, v6⟩).mpr bv
      refine ⟨_, rfl, .ref rb, .ty "tuple", _, _, _, rfl, rfl, .of (.tup ep), Kd.tup.tuple_ K, _, rfl, iteF ?_⟩
      refine ⟨_, rfl, rb, _, rfl, .inr (SqT.of ep), rfl, _, rfl, iteNE ?_⟩
      refine ⟨_, rfl, rb, _, _, _, rfl, rfl, SqT.of ep, rfl, _, rfl, .int _, _, rfl, iteF ?_⟩
      refine ⟨_, rfl, rb, _, _, _, rfl, rfl, SqT.of ep, rfl, _, rfl, .int _, _, rfl, iteF ?_⟩
      have dg := dget_f (k := [Sum.inl (u : Int), Sum.inl (v : Int)]) (s5 _ _ hd4) ep
      rw [dOf_val, en] at dg
      refine ⟨_, rfl, _, rfl, d, _, rfl, dg, _, rfl, iteF ?_⟩
      refine ⟨_, rfl, rb, _, _, _, rfl, rfl, SqT.of ep, rfl, _, rfl, lh2, _, rfl, .inl (SqL.of hh5), rfl, flat_ints _, _, rfl, ?_⟩
      show if (!inV (V.int (u : Int)) ((hands g2).map V.int)) = true then _ else _
      rw [inV_iff, decide_eq_true m1]
      refine iteF ?_
      refine ⟨_, rfl, rb, _, _, _, rfl, rfl, SqT.of ep, rfl, _, rfl, lh2, _, rfl, .inl (SqL.of hh5), rfl, flat_ints _, _, rfl, ?_⟩
      show if (!inV (V.int (v : Int)) ((hands g2).map V.int)) = true then _ else _
      rw [inV_iff, decide_eq_true m2]
      refine iteF ?_
      refine ⟨_, rfl, _, rfl, rb, la', [(u : Int), (v : Int)], [x', y'], rfl, rfl, SqT.of ep, SqT.of k5, _, rfl, ?_⟩
      rw [lx (u, v) hp]
      refine iteF ?_
      refine ⟨_, rfl, _, rfl, _, rfl, d, _, rfl, dg, _, _, rfl, rfl, _, rfl, s5, rb, (u : Int), (v : Int), some (.ref rb), ep, fun p' hp' => ?_, ?_⟩
      · obtain ⟨_, w6, _⟩ := b7 p' (List.mem_of_getElem? hp')
        rw [lexle_code (p := p') (q := (u, v)) (by omega) (by show v < 7; omega)]
        refine decide_eq_false fun z => ?_
        have hi1 := (List.getElem?_eq_some_iff.mp hp').1
        have q1 := List.pairwise_iff_getElem.mp pw' i (i + 1) (by rw [List.length_map]; omega) (by rw [List.length_map]; exact hi1) (by omega)
        rw [List.getElem_map, List.getElem_map] at q1
        have z1 : prs[i]'(by omega) = (u, v) := (List.getElem?_eq_some_iff.mp hp).2
        have z2 : prs[i + 1]'hi1 = p' := (List.getElem?_eq_some_iff.mp hp').2
        rw [z1, z2] at q1
        omega
      · show [some (V.ref a), some (V.int (g2 : Int)), some (V.ref d), some (V.ref lh), some (V.ref lf), some (V.int (gainN cs rs g2 + ((prs.map (cstP qs)).take i).sum + c)), some (V.ref lh2), some (V.ref rb), some (V.ref rb)] = _
        rw [sum_take (xs := prs.map (cstP qs)) (i := i) (x := c) (by rw [List.getElem?_map, hp]; show some ((numP qs u v).getD 0) = _; rw [en]; rfl), Int.add_assoc]
    · rintro σ' H5 ⟨s5, la', x', y', o8, k5, lx, rfl⟩
      have zs : gainN cs rs g2 + ((prs.map (cstP qs)).take (ds.map V.ref).length).sum = 0 := by
        rw [List.length_map, a1.len, ← List.length_map (f := cstP qs), List.take_length, cst_sum nq (fun r hr' => (mem r).mpr (n1 r hr').1) pm]
        unfold gainN
        rw [netL_of run]
        omega
      rw [zs]
      refine ⟨_, rfl, rfl, _, rfl, iteNE ?_⟩
      refine ⟨_, rfl, _, rfl, _, rfl, lf, lh2, d, ob, ds, prs, qs, allR cs rs, L, g2, rfl, s5 _ _ e4, a4.imp fun _ _ z => z.keep s5.t, s5 _ _ e34, s5 _ _ hd4, nq, mem, ropes_ok c6 pw, hg6, pm, run, fun H6 s6 => ⟨_, rfl, iteF ?_⟩⟩
      have s46 := s5.trans s6
      have s06 := s4.trans s46
      have e6 := s46 _ _ e4
      have nlf : lf ≠ lh := by obtain ⟨xs, z⟩ := he.at; exact (ne_of_none z hlf).symm
      dsimp only [tNext]
      refine seq_at (fun σ' H' => Same H H' ∧ ∃ rs' : List Addr, H' lf = some (.lst (rs'.map V.ref)) ∧ σ' = [some (.ref a), some (.int (g2 : Int)), some (.ref d), some (.ref lh), some (.ref lf), some (.int 0), some (.ref lh2), some (.ref la'), o8]) (fun kk => ?_) ?_
      · exact ⟨_, rfl, _, _, rfl, rfl, (by show (0 : Int) < 3; decide), rfl, _, rfl, ite2 (fun _ => ⟨_, rfl, .inl ⟨rfl, _, SqL.of e6⟩, lf, _, rfl, rfl, e6, kk _ _ ⟨s06.upd_ne' hlf, [], upd_same, rfl⟩⟩) (fun _ => kk _ _ ⟨s06, ds, e6, rfl⟩)⟩
      rintro σ' H7 ⟨s7, rs', e7, rfl⟩
      have he7 := he.same s7
      obtain ⟨hs, hl7, hlen, _⟩ := id he7
      refine ⟨_, rfl, .inl ⟨rfl, _, SqL.of hl7⟩, _, rfl, _, rfl, lf, _, rfl, .inl (SqL.of e7), fun ly hly => ⟨by show 2 ≤ sizeLine; decide, fun tt htt => ?_⟩⟩
      have u8 := Same.upd_new (o := .lst (rs'.map V.ref)) hly
      have u9 := Same.upd_new (o := .tup [V.ref lf, V.ref ly]) htt
      have u89 := u8.trans u9
      have nly : ly ≠ lh := (ne_of_none hl7 hly).symm
      refine ⟨lh, _, _, rfl, rfl, u89 _ _ hl7, by rw [List.length_map]; exact small1000 (by omega), ?_⟩
      exact k _ (((s7.trans u89).but lh).updx _) (HeldN.add (he7.same u89) (u89 _ _ hl7) upd_same (u89 _ _ e7) (u9 _ _ upd_same) nlf nly)
-- SPLIT2
/-! ### the law -/
theorem A2.datx {K : PySem.W.Frag} {H : Hp} {as : List Addr} {ps : List P3} (h : A2 (PAt H) as ps) : ∃ ds, DatXAll K H (as.map V.ref) ds ∧ PyData.depthAll ds ≤ 5 ∧ (ds = [] ↔ as = []) := by
  induction h with
  | nil => exact ⟨[], .nil, by simp [PyData.depthAll], by simp⟩
  | @cons a x as xs r _ ih =>
    obtain ⟨ds, h1, h2, _⟩ := ih
    refine ⟨.tuple [.int (x.1 : Int), .int (x.2.1 : Int), .int x.2.2] :: ds, .cons (.tup (SqT.of r) (.cons (.int _) (.cons (.int _) (.cons (.int _) .nil)))) h1, ?_, by simp⟩
    have e : PyData.depthAll (.tuple [.int (x.1 : Int), .int (x.2.1 : Int), .int x.2.2] :: ds) = max (PyData.depth (.tuple [.int (x.1 : Int), .int (x.2.1 : Int), .int x.2.2])) (PyData.depthAll ds) := rfl
    rw [e]
    have e2 : PyData.depth (.tuple [.int (x.1 : Int), .int (x.2.1 : Int), .int x.2.2]) ≤ 5 := by simp [PyData.depth, PyData.depthAll]
    omega
theorem far_at (x : Int) : ∃ far : Int, atI [V.int 2, V.int ((10 : Int) ^ (6 : Int).toNat), V.int ((10 : Int) ^ (18 : Int).toNat), V.int ((10 : Int) ^ (59 : Int).toNat)] (x % 4) = some (.int far) ∧ 0 < far := by
  have h0 := Int.emod_nonneg x (b := 4) (by decide)
  have h1 := Int.emod_lt_of_pos x (b := 4) (by decide)
  have c : x % 4 = 0 ∨ x % 4 = 1 ∨ x % 4 = 2 ∨ x % 4 = 3 := by omega
  rcases c with e | e | e | e
  all_goals rw [e]
  · exact ⟨_, rfl, by decide⟩
  · exact ⟨_, rfl, by decide⟩
  · exact ⟨_, rfl, by decide⟩
  · exact ⟨_, rfl, by decide⟩
theorem in_mod {m : Nat} (x : Int) : ∃ q : Nat, x % ((2 ^ m : Nat) : Int) = (q : Int) ∧ q < 2 ^ m ∧ (x % ((2 ^ m : Nat) : Int)).toNat = q := by
  have p : 0 < 2 ^ m := Nat.two_pow_pos m
  have h0 := Int.emod_nonneg x (b := ((2 ^ m : Nat) : Int)) (by omega)
  have h1 := Int.emod_lt_of_pos x (b := ((2 ^ m : Nat) : Int)) (by omega)
  exact ⟨(x % ((2 ^ m : Nat) : Int)).toNat, by omega, by omega, rfl⟩
theorem size_at {m : Nat} (h1 : 1 ≤ m) (h6 : m ≤ 6) : atI [V.int 2, V.int 4, V.int 8, V.int 16, V.int 32, V.int 64] ((m : Int) - 1) = some (.int ((2 ^ m : Nat) : Int)) := by
  have c : m = 1 ∨ m = 2 ∨ m = 3 ∨ m = 4 ∨ m = 5 ∨ m = 6 := by omega
  rcases c with rfl | rfl | rfl | rfl | rfl | rfl <;> rfl
theorem datx_ints {K : PySem.W.Frag} {H : Hp} : ∀ (ns : List Int), DatXAll K H (ns.map V.int) (ns.map PyData.int) ∧ PyData.depthAll (ns.map PyData.int) ≤ 5
  | [] => ⟨.nil, by simp [PyData.depthAll]⟩
  | n :: r => by
    obtain ⟨h1, h2⟩ := datx_ints (K := K) (H := H) r
    refine ⟨.cons (.int n) h1, ?_⟩
    have e : PyData.depthAll (PyData.int n :: r.map PyData.int) = max (PyData.depth (PyData.int n)) (PyData.depthAll (r.map PyData.int)) := rfl
    show PyData.depthAll (PyData.int n :: r.map PyData.int) ≤ 5
    rw [e]
    have e2 : PyData.depth (PyData.int n) ≤ 5 := by simp [PyData.depth]
    omega
/-- all but three lists stay -/
def But3 (x1 x2 x3 : Addr) (H H' : Hp) : Prop := ∀ b o, b ≠ x1 → b ≠ x2 → b ≠ x3 → H b = some o → H' b = some o
theorem NObj.but3 {NE : Addr} {H H' : Hp} {a ll lr x1 x2 x3 : Addr} {cs : List Int} {rs : List P3} {y1 y2 y3 : List V} (h : NObj NE H a ll lr cs rs) (s : But3 x1 x2 x3 H H') (h1 : H x1 = some (.lst y1)) (h2 : H x2 = some (.lst y2)) (h3 : H x3 = some (.lst y3)) (n1 : ll ≠ x1 ∧ ll ≠ x2 ∧ ll ≠ x3) (n2 : lr ≠ x1 ∧ lr ≠ x2 ∧ lr ≠ x3) : NObj NE H' a ll lr cs rs := by
  obtain ⟨dx, bs, g1, g2, g3, g4, g5⟩ := h
  refine ⟨dx, bs, s _ _ (ne_of g1 h1 (fun z => nomatch z)) (ne_of g1 h2 (fun z => nomatch z)) (ne_of g1 h3 (fun z => nomatch z)) g1, s _ _ n1.1 n1.2.1 n1.2.2 g2, s _ _ n2.1 n2.2.1 n2.2.2 g3, g4.imp fun b r z => ?_, g5⟩
  have z : H b = _ := z
  exact s _ _ (ne_of z h1 (fun z => nomatch z)) (ne_of z h2 (fun z => nomatch z)) (ne_of z h3 (fun z => nomatch z)) z
def spLaw (K : PySem.W.Frag) : Sp := fun vs H Q _ => ∃ (a : Addr) (ns : List Int), vs = [.ref a] ∧ SqL K H a (ns.map V.int) ∧ ns.length ≤ 63 ∧ ∀ H', Q (.bl true) H'
theorem scLaw : FnScope ["_law_script", "_law_draws_here", "_law_many", "_law_size", "_law_far", "_law_ropes_here", "_law_costs", "_law_dear", "_law_handed", "_law_rule", "_law_other", "_law_one", "_law_by_rope_here", "_law_by_other", "_law_held", "_law_k", "_law_group", "_law_found", "_law_kept"] ["_law_script"] (defScope sLaw) := ⟨rfl, rfl, rfl, by decide +kernel, rfl, by decide +kernel, by decide +kernel⟩
theorem ok_law {f1 f2 f3 f4 f5 f6 f7 f8 : Addr} {fd1 fd2 fd3 fd4 fd5 fd6 fd7 fd8 : FuncData} (t : Tx K mg "law" sLaw ["_law_script"] f fd) (T : T K mg AL RU NE fE fH rR rN iR iN fL fN SE NG NN NO NR NL NS NT NX NV TM UL)
    (D_law_draws : Df P w K mg base CX0 1 "_law_draws" ["_law_script"] (spDrw K) f1 fd1) (D_law_ropes : Df P w K mg base CX0 2 "_law_ropes" ["_law_draws_here", "_law_many", "_law_far"] spRps f2 fd2) (D_law_row : Df P w K mg base CX0 1 "_law_row" ["_law_draws_here", "_law_start", "_law_many", "_law_far"] spRow f3 fd3)
    (D_law_refused : Df P w K mg base CX0 8 "_law_refused" ["_law_rule", "_law_thing"] (spRef K NE) f4 fd4) (D_law_odd : Df P w K mg base CX0 1 "_law_odd" ["_law_size", "_law_cell"] (spOdd K) f5 fd5) (D_law_whole : Df P w K mg base CX0 1 "_law_whole" ["_law_found"] (spNum K) f6 fd6)
    (D_law_by_rope : Df P w K mg base CX0 1 "_law_by_rope" ["_law_costs", "_law_ropes_here"] spByR f7 fd7) (D_law_net : Df P w K mg base CX0 8 "_law_net" ["_law_rule", "_law_group", "_law_by_rope_here", "_law_held"] (spLNe NE) f8 fd8)
    (D_NI : Md P w K mg base 5 ["self", "costs", "ropes"] (spNI NE) iN) (DH : Md P w K mg base 1 ["self"] (spHs K) fH) : Df P w K mg base CX0 10 "law" ["_law_script"] (spLaw K) f fd := by
  refine t.df0 scLaw (fun vs H Q E h => ?_) (fun cdv A outer s H vs Q E hr h => ?_)
  · obtain ⟨a, ns, rfl, _⟩ := h
    rfl
  · obtain ⟨a, ns, rfl, hq, hns, k⟩ := h
    refine ⟨_, (pss_cons (ps_set (i := 1) scLaw.nd rfl (by first | exact Or.inl rfl | exact Or.inr rfl) (pe_d0 D_law_draws hr (by decide) (by rfl) (pa_cons (pv 0) pa_nil)))
      (pss_cons (ps_set (i := 2) scLaw.nd rfl (by first | exact Or.inl rfl | exact Or.inr rfl) (pe_op op_add pe_int (pe_op op_mod (pe_ix ix_list (pv 1) pe_int (fun _ _ => rfl)) pe_int)))
      (pss_cons (ps_set (i := 3) scLaw.nd rfl (Or.inl rfl) (pe_ix ix_list (pe_lst (pa_cons pe_int (pa_cons pe_int (pa_cons pe_int (pa_cons pe_int (pa_cons pe_int (pa_cons pe_int pa_nil))))))) (pe_op op_sub (pv 2) pe_int) (fun _ _ => rfl)))
      (pss_cons (ps_set (i := 4) scLaw.nd rfl (by first | exact Or.inl rfl | exact Or.inr rfl) (pe_ix ix_list (pe_lst (pa_cons pe_int (pa_cons (pe_op op_pow pe_int pe_int) (pa_cons (pe_op op_pow pe_int pe_int) (pa_cons (pe_op op_pow pe_int pe_int) pa_nil))))) (pe_op op_mod (pe_op op_fdiv (pe_ix ix_list (pv 1) pe_int (fun _ _ => rfl)) pe_int) pe_int) (fun _ _ => rfl)))
      (pss_cons (ps_set (i := 5) scLaw.nd rfl (Or.inl rfl) (pe_d0 D_law_ropes hr (by decide) (by rfl) (pa_cons (pv 1) (pa_cons (pv 2) (pa_cons (pv 4) pa_nil)))))
      (pss_cons (ps_setC (NB := ["_law_number", "_law_far"]) (pick := [none, some 4]) (i := 6) scLaw.nd rfl (by first | exact Or.inl rfl | exact Or.inr rfl) (by rfl) (blk_mk (by with_unfolding_all rfl) (by exact (And.intro rfl trivial)) rfl (by decide +kernel) (by decide +kernel) (by rfl) (by rfl)) rfl
          (pi_list (pe_d0 D_law_row hr (by decide) (by rfl) (pa_cons (pv 1) (pa_cons pe_int (pa_cons (pv 2) (pa_cons (pv 4) pa_nil)))))) (fun _ _ _ => pg_name (i := 0) (show (["_law_number", "_law_far"] : List Str).Nodup from by decide +kernel) rfl (Or.inl rfl))
          (fun _ _ _ => pif_nil) (fun _ _ _ => (pe_op op_add (pv 1) (pv 0))))
      (pss_cons (ps_setC (NB := ["_law_cost"]) (pick := [none]) (i := 7) scLaw.nd rfl (Or.inl rfl) (by rfl) (blk_mk (by with_unfolding_all rfl) (by exact trivial) rfl (by decide +kernel) (by decide +kernel) (by rfl) (by rfl)) rfl
          (pi_list (pv 6)) (fun _ _ _ => pg_name (i := 0) (show (["_law_cost"] : List Str).Nodup from by decide +kernel) rfl (Or.inl rfl))
          (fun _ _ _ => pif_nil) (fun _ _ _ => (pe_op op_add (pv 0) pe_int)))
      (pss_cons (ps_set (i := 8) scLaw.nd rfl (Or.inl rfl) (pe_lst (pa_cons (pe_callTy call_list_of (by rfl) T.b_list bt_list (pa_cons (pv 6) pa_nil)) (pa_cons (pe_callTy call_list_of (by rfl) T.b_list bt_list (pa_cons (pv 5) pa_nil)) (pa_cons (pe_callTy call_list_of (by rfl) T.b_list bt_list (pa_cons (pv 7) pa_nil)) pa_nil)))))
      (pss_cons (ps_set (i := 9) scLaw.nd rfl (Or.inl rfl) (pe_makeX pass_no T.kNE D_NI hr (by decide) (by rfl) T.mNE (pa_cons (pe_ix ix_list (pv 8) pe_int (fun _ _ => rfl)) (pa_cons (pe_ix ix_list (pv 8) pe_int (fun _ _ => rfl)) pa_nil))))
      (pss_cons (ps_set (i := 10) scLaw.nd rfl (Or.inl rfl) (pe_makeX pass_no T.kNE D_NI hr (by decide) (by rfl) T.mNE (pa_cons (pe_ix ix_list (pv 8) pe_int (fun _ _ => rfl)) (pa_cons (pe_ix ix_list (pv 8) pe_int (fun _ _ => rfl)) pa_nil))))
      (pss_cons (ps_if (PW.pt (pw_or (pt_cmpR (op_neX hr.units) (pv 8) (pe_lst (pa_cons (pv 6) (pa_cons (pv 5) (pa_cons (pv 7) pa_nil)))) (nomark _)) (pw_or (pt_not (pt_val (pe_callB call_isi (by rfl) T.b_isi bt_isi (pa_cons (pv 9) (pa_cons (pe_glob (v := .ref RU) (by rfl) T.mRU rfl) pa_nil))))) (pw_or1 (pt_cmpR op_ne (pe_methX0 (k := 1) pass_no (pv 9) hr (by decide)) (pv 2) (nomark _)))))) (pss_one (ps_ret pe_bl)) pss_nil)
      (pss_cons (ps_for PassesOwn.never rfl (pi_list (pv 8)) (pg_name (i := 11) scLaw.nd rfl (Or.inl rfl))
        (pss_one (ps_expr (pe_bm0 PySem.F.plainAttrs_list PySem.F.slot_list_clear PySem.F.type_list_clear mt_clearR (pv 11)))))
      (pss_cons (ps_if (PW.pt (pw_or (pt_not (pt_val (pe_d0 D_law_refused hr (by decide) (by rfl) (pa_cons (pv 9) (pa_cons (pe_d0 D_law_odd hr (by decide) (by rfl) (pa_cons (pv 3) (pa_cons (pe_ix ix_list (pv 1) pe_int (fun _ _ => rfl)) pa_nil))) pa_nil))))) (pw_or1 (pt_not (pt_val (pe_d0 D_law_whole hr (by decide) (by rfl) (pa_cons (pe_methX0 (k := 1) pass_no (pv 9) hr (by decide)) pa_nil))))))) (pss_one (ps_ret pe_bl)) pss_nil)
      (pss_cons (ps_set (i := 12) scLaw.nd rfl (Or.inl rfl) (pe_d0 D_law_by_rope hr (by decide) (by rfl) (pa_cons (pv 6) (pa_cons (pv 5) pa_nil))))
      (pss_cons (ps_set (i := 13) scLaw.nd rfl (Or.inl rfl) (pe_d0 D_law_by_rope hr (by decide) (by rfl) (pa_cons (pv 7) (pa_cons (pv 5) pa_nil))))
      (pss_cons (ps_set (i := 14) scLaw.nd rfl (Or.inl rfl) (pe_lst pa_nil))
      (pss_cons (ps_for PassesOwn.never rfl (pi_range1 (by rfl) T.b_range (pa_cons (pe_op op_fdivB (pe_callB (call_min2 rfl) (by rfl) T.b_min bt_min (pa_cons (pv 3) (pa_cons pe_int pa_nil))) (pe_op op_add pe_int (pe_op op_fdiv (pv 2) pe_int))) pa_nil)) (pg_name (i := 15) scLaw.nd rfl (Or.inl rfl))
        (pss_cons (ps_set (i := 16) scLaw.nd rfl (Or.inl rfl) (pe_op op_mod (pe_op op_add (pe_ix ix_list (pv 1) pe_int (fun _ _ => rfl)) (pe_op op_mulB pe_int (pv 15))) (pv 3)))
        (pss_cons (ps_if (PW.pt (pw_or (pt_not (pt_val (pe_d0 D_law_net hr (by decide) (by rfl) (pa_cons (pv 9) (pa_cons (pv 16) (pa_cons (pv 12) (pa_cons (pv 14) pa_nil))))))) (pw_or1 (pt_not (pt_val (pe_d0 D_law_net hr (by decide) (by rfl) (pa_cons (pv 10) (pa_cons (pv 16) (pa_cons (pv 13) (pa_cons (pv 14) pa_nil)))))))))) (pss_one (ps_ret pe_bl)) pss_nil)
        (pss_one (ps_if (PW.pt (pw_and (pt_cmpR op_eq (pe_op op_mod (pv 15) pe_int) pe_int (nomark _)) (pw_and1 (pt_not (pt_val (pe_d0 D_law_net hr (by decide) (by rfl) (pa_cons (pv 9) (pa_cons (pv 16) (pa_cons (pv 12) (pa_cons (pv 14) pa_nil)))))))))) (pss_one (ps_ret pe_bl)) pss_nil)))))
      (pss_cons (ps_for PassesOwn.never rfl (pi_list (pv 14)) (pg_tup rfl (pgs_cons (pg_name (i := 17) scLaw.nd rfl (Or.inl rfl)) (pgs_cons (pg_name (i := 18) scLaw.nd rfl (Or.inl rfl)) pgs_nil)))
        (pss_one (ps_if (pt_cmpR (op_neR hr.units) (pv 17) (pv 18) (nomark _)) (pss_one (ps_ret pe_bl)) pss_nil)))
      (pss_one (ps_ret pe_bl)))))))))))))))))))), ?_⟩
    refine ⟨_, rfl, a, ns, rfl, hq, hns, fun l D H1 hl s1 d40 d64 e1 => ?_⟩
    refine ⟨_, rfl, l, _, _, _, rfl, rfl, SqL.of e1, at_ints (i := 0) (by omega), _, _, rfl, rfl, (by show (0 : Int) < 6; decide), _, _, rfl, rfl, ?_⟩
    obtain ⟨m, hm, m1, m6⟩ : ∃ m : Nat, 1 + D.getD 0 0 % 6 = (m : Int) ∧ 1 ≤ m ∧ m ≤ 6 := ⟨(1 + D.getD 0 0 % 6).toNat, by omega, by omega, by omega⟩
    show gName 2 (V.int (1 + D.getD 0 0 % 6)) _ _ _
    rw [hm]
    have h64 : 2 ^ m ≤ 64 := Nat.pow_le_pow_right (n := 2) (by decide) m6
    have hpos : (0 : Int) < ((2 ^ m : Nat) : Int) := by have := Nat.two_pow_pos m; omega
    refine ⟨by show 6 ≤ sizeLine; decide, fun ls hls => ⟨_, rfl, _, _, rfl, rfl, ls, _, _, _, rfl, rfl, SqL.of upd_same, size_at m1 m6, ?_⟩⟩
    have e2 := Same.upd_new (o := .lst [V.int 2, V.int 4, V.int 8, V.int 16, V.int 32, V.int 64]) hls _ _ e1
    generalize upd H1 ls (.lst [V.int 2, V.int 4, V.int 8, V.int 16, V.int 32, V.int 64]) = H2 at e2 ⊢
    refine ⟨_, _, rfl, rfl, ⟨by decide, by decide, by decide⟩, _, _, rfl, rfl, ⟨by decide, by decide, by decide⟩, _, _, rfl, rfl, ⟨by decide, by decide, by decide⟩, by show 4 ≤ sizeLine; decide, fun lm hlm => ?_⟩
    obtain ⟨far, hfar, far0⟩ := far_at (D.getD 0 0 / 6)
    have u3 := Same.upd_new (o := .lst [V.int 2, V.int ((10 : Int) ^ (6 : Int).toNat), V.int ((10 : Int) ^ (18 : Int).toNat), V.int ((10 : Int) ^ (59 : Int).toNat)]) hlm
    refine ⟨_, rfl, l, _, _, _, rfl, rfl, SqL.of (u3 _ _ e2), at_ints (i := 0) (by omega), _, _, rfl, rfl, ⟨by decide, by decide⟩, _, _, rfl, rfl, (by show (0 : Int) < 4; decide), lm, _, _, _, rfl, rfl, SqL.of upd_same, hfar, ?_⟩
    have e3 := u3 _ _ e2
    generalize upd H2 lm (.lst [V.int 2, V.int ((10 : Int) ^ (6 : Int).toNat), V.int ((10 : Int) ^ (18 : Int).toNat), V.int ((10 : Int) ^ (59 : Int).toNat)]) = H3 at e3 ⊢
    clear u3 hfar
    refine ⟨_, rfl, _, rfl, _, rfl, l, D, m, far, rfl, e3, d40, d64, m6, far0, fun lp bs H4 hlp s4 e4 ok r0 => ?_⟩
    have f4 := s4 _ _ e3
    obtain ⟨qs, a4, wq⟩ := ok.pw
    have hlen : bs.length ≤ 15 := ok.2.2
    refine ⟨_, rfl, _, rfl, _, rfl, l, D, 24, m, far, rfl, f4, d40, d64, m1, by omega, far0, fun l1 nu0 H5 hnu0 hb0 l10 s5 hl1 => ⟨l1, rfl, ⟨_, SqL.of hl1⟩, ?_⟩⟩
    refine comp_lst (xs := nu0.map V.int) (fun _ x => match x with | .int n => some (.int (far + n)) | _ => none) (SqL.of hl1) (by rw [List.length_map, hnu0]; exact Nat.le_of_lt (small1000 (by omega))) (fun i x H2 kk kk0 s2 hx h1 h2 => ?_) fun lc H6 hlc s6 hd => ?_
    · obtain ⟨n, _, rfl⟩ := List.mem_map.mp (List.mem_of_getElem? hx)
      exact ⟨_, rfl, _, rfl, _, _, rfl, rfl, h1 _ rfl _ (.refl _)⟩
    obtain ⟨cs, hcl, hc0, ec⟩ : ∃ cs : List Int, cs.length = m ∧ (∀ n ∈ cs, 0 ≤ n) ∧ H6 lc = some (.lst (cs.map V.int)) := by
      refine ⟨nu0.map fun n => far + n, by rw [List.length_map]; exact hnu0, fun n hn => ?_, ?_⟩
      · obtain ⟨y, hy, rfl⟩ := List.mem_map.mp hn
        exact hb0 y hy
      · rw [hd, fm_bind, List.filterMap_map, List.map_map, ← List.filterMap_eq_map]
        rfl
    refine ⟨_, rfl, lc, rfl, ⟨_, SqL.of ec⟩, ?_⟩
    refine comp_lst (xs := cs.map V.int) (fun _ x => match x with | .int n => some (.int (n + 1)) | _ => none) (SqL.of ec) (by rw [List.length_map, hcl]; exact Nat.le_of_lt (small1000 (by omega))) (fun i x H2 kk kk0 s2 hx h1 h2 => ?_) fun le H7 hle s7 hd7 => ?_
    · obtain ⟨n, _, rfl⟩ := List.mem_map.mp (List.mem_of_getElem? hx)
      exact ⟨_, rfl, _, _, rfl, rfl, h1 _ rfl _ (.refl _)⟩
    have ee : H7 le = some (.lst ((cs.map fun n => n + 1).map V.int)) := by
      rw [hd7, fm_bind, List.filterMap_map, List.map_map, ← List.filterMap_eq_map]
      rfl
    subst hcl
    have s57 := s5.trans (s6.trans s7)
    have e7c := s7 _ _ ec
    have e7p := s57 _ _ e4
    have e7l := s57 _ _ f4
    have ok7 : PsOk cs.length H7 bs := ok.same fun b _ o e => s57 _ _ e
    have a7 : A2 (PAt H7) bs qs := a4.imp fun _ _ z => z.keep s57.t
    have q0 : ∀ r ∈ qs, 0 ≤ r.2.2 := fun r hr' => by
      obtain ⟨b, hb, pr⟩ := a4.mem.2 r hr'
      exact r0 b hb r pr
    clear s4 s5 s6 s7 s57 ok a4 e4 f4 ec hd hd7 hl1 l10 hlp hlc hle r0 hnu0 hb0 e3 e2 e1 s1 hlm hls hl
    refine ⟨_, rfl, lc, _, rfl, .inl (SqL.of e7c), fun x1 hx1 => ?_⟩
    have v1 := Same.upd_new (o := .lst (cs.map V.int)) hx1
    have w1 : upd H7 x1 (.lst (cs.map V.int)) x1 = some (.lst (cs.map V.int)) := upd_same
    generalize upd H7 x1 (.lst (cs.map V.int)) = HA at v1 w1 ⊢
    refine ⟨_, rfl, lp, _, rfl, .inl (SqL.of (v1 _ _ e7p)), fun x2 hx2 => ?_⟩
    have v2 := Same.upd_new (o := .lst (bs.map V.ref)) hx2
    have w2 : upd HA x2 (.lst (bs.map V.ref)) x2 = some (.lst (bs.map V.ref)) := upd_same
    have n12 : x1 ≠ x2 := ne_of_none w1 hx2
    generalize upd HA x2 (.lst (bs.map V.ref)) = HB at v2 w2 ⊢
    refine ⟨_, rfl, le, _, rfl, .inl (SqL.of (v2 _ _ (v1 _ _ ee))), fun x3 hx3 => ?_⟩
    have v3 := Same.upd_new (o := .lst ((cs.map fun n => n + 1).map V.int)) hx3
    have w3 : upd HB x3 (.lst ((cs.map fun n => n + 1).map V.int)) x3 = some (.lst ((cs.map fun n => n + 1).map V.int)) := upd_same
    have n13 : x1 ≠ x3 := ne_of_none (v2 _ _ w1) hx3
    have n23 : x2 ≠ x3 := ne_of_none w2 hx3
    generalize upd HB x3 (.lst ((cs.map fun n => n + 1).map V.int)) = HC at v3 w3 ⊢
    refine ⟨by show 3 ≤ sizeLine; decide, fun lH hlH => ?_⟩
    have v4 := Same.upd_new (o := .lst [V.ref x1, V.ref x2, V.ref x3]) hlH
    have w4 : upd HC lH (.lst [V.ref x1, V.ref x2, V.ref x3]) lH = some (.lst [V.ref x1, V.ref x2, V.ref x3]) := upd_same
    have nH1 : lH ≠ x1 := (ne_of_none (v3 _ _ (v2 _ _ w1)) hlH).symm
    have nH2 : lH ≠ x2 := (ne_of_none (v3 _ _ w2) hlH).symm
    have nH3 : lH ≠ x3 := (ne_of_none w3 hlH).symm
    have g1 := v4 _ _ (v3 _ _ (v2 _ _ w1))
    have g2 := v4 _ _ (v3 _ _ w2)
    have g3 := v4 _ _ w3
    have v14 := v1.trans (v2.trans (v3.trans v4))
    generalize upd HC lH (.lst [V.ref x1, V.ref x2, V.ref x3]) = H8 at v4 w4 g1 g2 g3 v14 ⊢
    have nx : ∀ b o, H7 b = some o → b ≠ x1 ∧ b ≠ x2 ∧ b ≠ x3 := fun b o e => ⟨ne_of_none e hx1, ne_of_none (v1 _ _ e) hx2, ne_of_none (v2 _ _ (v1 _ _ e)) hx3⟩
    have ok8 : PsOk cs.length H8 bs := ok7.same fun b _ o e => v14 _ _ e
    have a8 : A2 (PAt H8) bs qs := a7.imp fun _ _ z => z.keep v14.t
    refine ⟨_, rfl, lH, _, _, _, rfl, rfl, SqL.of w4, rfl, _, rfl, lH, _, _, _, rfl, rfl, SqL.of w4, rfl, fun x dx hx hdx ne => mk_net hx hdx ne g1 m1 m6 hc0 g2 ok8 a8 q0 fun la ra rs H9 hla hra s9 mem no9 => ⟨rfl, ?_⟩⟩
    have w49 := s9 _ _ w4
    refine ⟨_, rfl, lH, _, _, _, rfl, rfl, SqL.of w49, rfl, _, rfl, lH, _, _, _, rfl, rfl, SqL.of w49, rfl, fun y dy hy hdy ne2 => mk_net hy hdy ne2 (s9 _ _ g3) (by rw [List.length_map]; exact m1) (by rw [List.length_map]; exact m6) (fun c hc => by obtain ⟨z, hz, rfl⟩ := List.mem_map.mp hc; have := hc0 z hz; omega) (s9 _ _ g2) (by rw [List.length_map]; exact ok8.same fun b _ o e => s9 _ _ e) (a8.imp fun _ _ z => z.keep s9.t) q0 fun lb rb rs2 H10 hlb hrb s10 mem2 no10 => ⟨rfl, ?_⟩⟩
    have t10 := s9.trans s10
    have T10 := v14.trans t10
    have G1 := t10 _ _ g1
    have G2 := t10 _ _ g2
    have G3 := t10 _ _ g3
    have W4 := t10 _ _ w4
    have N1 := no9.same s10
    have nla : la ≠ x1 ∧ la ≠ x2 ∧ la ≠ x3 := ⟨(ne_of_none g1 hla).symm, (ne_of_none g2 hla).symm, (ne_of_none g3 hla).symm⟩
    have nra : ra ≠ x1 ∧ ra ≠ x2 ∧ ra ≠ x3 := ⟨(ne_of_none g1 hra).symm, (ne_of_none g2 hra).symm, (ne_of_none g3 hra).symm⟩
    have nlb : lb ≠ x1 ∧ lb ≠ x2 ∧ lb ≠ x3 := ⟨(ne_of_none (s9 _ _ g1) hlb).symm, (ne_of_none (s9 _ _ g2) hlb).symm, (ne_of_none (s9 _ _ g3) hlb).symm⟩
    have nrb : rb ≠ x1 ∧ rb ≠ x2 ∧ rb ≠ x3 := ⟨(ne_of_none (s9 _ _ g1) hrb).symm, (ne_of_none (s9 _ _ g2) hrb).symm, (ne_of_none (s9 _ _ g3) hrb).symm⟩
    have Ec := T10 _ _ e7c
    have Ep := T10 _ _ e7p
    have El := T10 _ _ e7l
    have Ee := T10 _ _ ee
    have A10 : A2 (PAt H10) bs qs := a7.imp fun _ _ z => z.keep T10.t
    have nlc := nx _ _ e7c
    have nlp := nx _ _ e7p
    have nll := nx _ _ e7l
    have nle := nx _ _ ee
    clear nx s9 s10 t10 T10 g1 g2 g3 w4 w49 v14 v1 v2 v3 v4 w1 w2 w3 a7 a8 ok7 ok8 e7c e7p e7l ee no9 hx hdx hy hdy hla hra hlb hrb hx1 hx2 hx3 hlH
    refine ⟨_, rfl, _, rfl, _, rfl, _, rfl, by show 3 ≤ sizeLine; decide, fun lz hlz => ?_⟩
    have u11 := Same.upd_new (o := .lst [V.ref lc, V.ref lp, V.ref le]) hlz
    have Z : upd H10 lz (.lst [V.ref lc, V.ref lp, V.ref le]) lz = some (.lst [V.ref lc, V.ref lp, V.ref le]) := upd_same
    generalize upd H10 lz (.lst [V.ref lc, V.ref lp, V.ref le]) = H11 at u11 Z ⊢
    have A11 : A2 (PAt H11) bs qs := A10.imp fun _ _ z => z.keep u11.t
    obtain ⟨dsx, hdx', hdep, _⟩ := A2.datx (K := K) A11
    have i1 := datx_ints (K := K) (H := H11) cs
    have i2 := datx_ints (K := K) (H := H11) (cs.map fun n => n + 1)
    refine ⟨.list [.list (cs.map PyData.int), .list dsx, .list ((cs.map fun n => n + 1).map PyData.int)], .lst (SqL.of (u11 _ _ W4)) (.cons (.lst (SqL.of (u11 _ _ G1)) i1.1) (.cons (.lst (SqL.of (u11 _ _ G2)) hdx') (.cons (.lst (SqL.of (u11 _ _ G3)) i2.1) .nil))), .lst (SqL.of Z) (.cons (.lst (SqL.of (u11 _ _ Ec)) i1.1) (.cons (.lst (SqL.of (u11 _ _ Ep)) hdx') (.cons (.lst (SqL.of (u11 _ _ Ee)) i2.1) .nil))), ?_, _, rfl, iteF ?_⟩
    · have j1 := i1.2
      have j2 := i2.2
      simp only [PyData.depth, PyData.depthAll]
      omega
    have N2 := N1.same u11
    obtain ⟨dxa, bsa, ha, _⟩ := id N2
    refine ⟨_, rfl, .ref x, .ref RU, _, _, _, rfl, rfl, T.rNE.oc.ty ha, T.rNE.isR, _, rfl, iteF ?_⟩
    refine ⟨_, rfl, x, NE, dxa, _, fH, _, rfl, ha, rfl, T.rNE.oc.cl, T.rNE.mh, ⟨_, DH⟩, x, NE, dxa, _, _, rfl, ha, T.rNE.oc.cl, T.rNE.nm, rfl, _, rfl, rfl, _, rfl, iteNE ?_⟩
    refine ⟨_, rfl, lH, rfl, ⟨_, SqL.of (u11 _ _ W4)⟩, ?_⟩
    refine for_list (xs := [V.ref x1, V.ref x2, V.ref x3]) (fun i σ' H' => But3 x1 x2 x3 H11 H' ∧ (∃ ys, H' x1 = some (.lst ys)) ∧ (∃ ys, H' x2 = some (.lst ys)) ∧ (∃ ys, H' x3 = some (.lst ys)) ∧ ∃ o11 : Option V, σ' = [some (.ref a), some (.ref l), some (.int (cs.length : Int)), some (.int ((2 ^ cs.length : Nat) : Int)), some (.int far), some (.ref lp), some (.ref lc), some (.ref le), some (.ref lH), some (.ref x), some (.ref y), o11, none, none, none, none, none, none, none]) ?_ ?_ ?_ ?_
    · exact ⟨fun _ _ _ _ _ e => e, ⟨_, u11 _ _ G1⟩, ⟨_, u11 _ _ G2⟩, ⟨_, u11 _ _ G3⟩, none, rfl⟩
    · rintro i σ' H' _ ⟨b3, _⟩
      exact SqL.of (b3 _ _ nH1 nH2 nH3 (u11 _ _ W4))
    · rintro i z σ' H' hz ⟨b3, ⟨y1, q1⟩, ⟨y2, q2⟩, ⟨y3, q3⟩, o11, rfl⟩
      have mz := List.mem_of_getElem? hz
      simp only [List.mem_cons, List.not_mem_nil, or_false] at mz
      rcases mz with rfl | rfl | rfl
      · exact ⟨_, rfl, .inl ⟨rfl, _, SqL.of q1⟩, x1, _, rfl, rfl, q1, fun b o h1 h2 h3 e => by rw [upd_ne h1]; exact b3 b o h1 h2 h3 e, ⟨_, upd_same⟩, ⟨_, by rw [upd_ne n12.symm]; exact q2⟩, ⟨_, by rw [upd_ne n13.symm]; exact q3⟩, _, rfl⟩
      · exact ⟨_, rfl, .inl ⟨rfl, _, SqL.of q2⟩, x2, _, rfl, rfl, q2, fun b o h1 h2 h3 e => by rw [upd_ne h2]; exact b3 b o h1 h2 h3 e, ⟨_, by rw [upd_ne n12]; exact q1⟩, ⟨_, upd_same⟩, ⟨_, by rw [upd_ne n23.symm]; exact q3⟩, _, rfl⟩
      · exact ⟨_, rfl, .inl ⟨rfl, _, SqL.of q3⟩, x3, _, rfl, rfl, q3, fun b o h1 h2 h3 e => by rw [upd_ne h3]; exact b3 b o h1 h2 h3 e, ⟨_, by rw [upd_ne n13]; exact q1⟩, ⟨_, by rw [upd_ne n23]; exact q2⟩, ⟨_, upd_same⟩, _, rfl⟩
    rintro σ' H12 ⟨b3, _, _, _, o11, rfl⟩
    have M1 := N2.but3 b3 (u11 _ _ G1) (u11 _ _ G2) (u11 _ _ G3) nla nra
    have M2 := (no10.same u11).but3 b3 (u11 _ _ G1) (u11 _ _ G2) (u11 _ _ G3) nlb nrb
    have Fc := b3 _ _ nlc.1 nlc.2.1 nlc.2.2 (u11 _ _ Ec)
    have Fp := b3 _ _ nlp.1 nlp.2.1 nlp.2.2 (u11 _ _ Ep)
    have Fl := b3 _ _ nll.1 nll.2.1 nll.2.2 (u11 _ _ El)
    have Fe := b3 _ _ nle.1 nle.2.1 nle.2.2 (u11 _ _ Ee)
    have A12 : A2 (PAt H12) bs qs := A11.imp fun b r z => by
      have z : H11 b = _ := z
      exact b3 _ _ (ne_of z (u11 _ _ G1) (fun z => nomatch z)) (ne_of z (u11 _ _ G2) (fun z => nomatch z)) (ne_of z (u11 _ _ G3) (fun z => nomatch z)) z
    clear b3 N1 N2 ha A10 A11 hdx' i1 i2 Z hlz u11 Ec Ep El Ee G1 G2 G3 W4 no10
    have pe : (((2 ^ cs.length : Nat) : Int) - 1) = (2 : Int) ^ cs.length - 1 := by push_cast; rfl
    refine ⟨_, rfl, _, rfl, _, rfl, l, _, _, _, rfl, rfl, SqL.of Fl, at_ints (i := 21) (by omega), _, _, rfl, hpos, fun v H13 s13 pl no => ?_⟩
    rw [pe] at no
    refine ⟨x, la, ra, cs, rs, v, rfl, M1.same s13, pl, no, fun H14 s14 => ⟨_, rfl, iteF ?_⟩⟩
    have s34 := s13.trans s14
    have M14 := M1.same s34
    obtain ⟨dxa, bsa, ha, _⟩ := id M14
    refine ⟨_, rfl, x, NE, dxa, _, fH, _, rfl, ha, rfl, T.rNE.oc.cl, T.rNE.mh, ⟨_, DH⟩, x, NE, dxa, _, _, rfl, ha, T.rNE.oc.cl, T.rNE.nm, rfl, _, rfl, .int _, _, rfl, iteF ?_⟩
    refine ⟨_, rfl, _, rfl, lc, lp, cs, bs, qs, rfl, s34 _ _ Fc, m6, s34 _ _ Fp, A12.imp fun _ _ z => z.keep s34.t, wq, hlen, fun d1 ob1 H15 hd1 s15 e15 => ?_⟩
    have s35 := s34.trans s15
    have wq2 : Pw (cs.map fun n => n + 1).length qs := by rw [List.length_map]; exact wq
    refine ⟨_, rfl, _, rfl, le, lp, (cs.map fun n => n + 1), bs, qs, rfl, s35 _ _ Fe, by rw [List.length_map]; exact m6, s35 _ _ Fp, A12.imp fun _ _ z => z.keep s35.t, wq2, hlen, fun d2 ob2 H16 hd2 s16 e16 => ?_⟩
    refine ⟨by show 0 ≤ sizeLine; decide, fun lh hlh => ?_⟩
    have s36 := s35.trans s16
    have M16 := M1.same s36
    have K16 := M2.same s36
    have u17 := Same.upd_new (o := .lst []) hlh
    have nb1 : lh ≠ la ∧ lh ≠ ra := by
      obtain ⟨_, _, _, z1, z2, _⟩ := id M16
      exact ⟨(ne_of_none z1 hlh).symm, (ne_of_none z2 hlh).symm⟩
    have nb2 : lh ≠ lb ∧ lh ≠ rb := by
      obtain ⟨_, _, _, z1, z2, _⟩ := id K16
      exact ⟨(ne_of_none z1 hlh).symm, (ne_of_none z2 hlh).symm⟩
    have nl2 : l ≠ lh := ne_of_none (s36 _ _ Fl) hlh
    have eB := u17 _ _ (s36 _ _ Fl)
    have mB := M16.same u17
    have kB := K16.same u17
    have d1B := u17 _ _ (s16 _ _ e15)
    have d2B := u17 _ _ e16
    have hB : upd H16 lh (.lst []) lh = some (.lst []) := upd_same
    have heB : HeldN (upd H16 lh (.lst [])) lh 0 := ⟨[], upd_same, Nat.le_refl _, fun t ht => absurd ht (by simp)⟩
    generalize upd H16 lh (.lst []) = Hb at eB mB kB d1B d2B hB heB ⊢
    have al : ∀ {H' : Hp}, SameBut lh Hb H' → NObj NE H' x la ra cs rs ∧ NObj NE H' y lb rb (cs.map fun n => n + 1) rs2 ∧ H' d1 = some (.frz ob1 (.dT (dOf (allR cs qs)))) ∧ H' d2 = some (.frz ob2 (.dT (dOf (allR (cs.map fun n => n + 1) qs)))) ∧ H' l = some (.lst (D.map V.int)) := fun {H'} sb =>
      ⟨mB.but sb hB nb1.1 nb1.2, kB.but sb hB nb2.1 nb2.2, sb _ _ (ne_of d1B hB (fun z => nomatch z)) d1B, sb _ _ (ne_of d2B hB (fun z => nomatch z)) d2B, sb _ _ nl2 eB⟩
    have memA : ∀ r, r ∈ allR cs qs ↔ r ∈ allR cs rs := fun r => by
      unfold allR
      rw [List.mem_append, List.mem_append, mem r]
    have memB : ∀ r, r ∈ allR (cs.map fun n => n + 1) qs ↔ r ∈ allR (cs.map fun n => n + 1) rs2 := fun r => by
      unfold allR
      rw [List.mem_append, List.mem_append, mem2 r]
    have jv : (1 : Int) ≤ 1 + (cs.length : Int) / 6 ∧ 1 + (cs.length : Int) / 6 ≤ 2 := by omega
    have cdb : CDivB (if (32 : Int) < ((2 ^ cs.length : Nat) : Int) then 32 else ((2 ^ cs.length : Nat) : Int)) (1 + (cs.length : Int) / 6) := ⟨by omega, Nat.lt_of_lt_of_le (show (1 + (cs.length : Int) / 6).natAbs < 2 ^ 2 by omega) (Nat.pow_le_pow_right (by decide) (by decide))⟩
    obtain ⟨n, hn, hn32⟩ : ∃ n : Nat, (if (32 : Int) < ((2 ^ cs.length : Nat) : Int) then (32 : Int) else ((2 ^ cs.length : Nat) : Int)).fdiv (1 + (cs.length : Int) / 6) = (n : Int) ∧ n ≤ 32 := by
      obtain ⟨X, hX, x0, x32⟩ : ∃ X : Int, (if (32 : Int) < ((2 ^ cs.length : Nat) : Int) then (32 : Int) else ((2 ^ cs.length : Nat) : Int)) = X ∧ 0 ≤ X ∧ X ≤ 32 := by
        refine ⟨_, rfl, ?_, ?_⟩ <;> split <;> omega
      rw [hX, Int.fdiv_eq_ediv_of_nonneg X (by omega)]
      have z0 := Int.ediv_nonneg x0 (b := 1 + (cs.length : Int) / 6) (by omega)
      have z1 := Int.ediv_le_self (1 + (cs.length : Int) / 6) x0
      exact ⟨(X / (1 + (cs.length : Int) / 6)).toNat, by omega, by omega⟩
    refine ⟨_, rfl, _, _, rfl, _, rfl, _, _, rfl, rfl, ⟨by decide, by decide⟩, _, _, rfl, rfl, _, _, rfl, rfl, cdb, (n : Int), (by show [V.int ((if (32 : Int) < ((2 ^ cs.length : Nat) : Int) then (32 : Int) else ((2 ^ cs.length : Nat) : Int)).fdiv (1 + (cs.length : Int) / 6))] = _; rw [hn]), by omega, by omega, ?_⟩
    refine for_range (n := n) (fun i σ' H' => SameBut lh Hb H' ∧ HeldN H' lh (3 * i) ∧ ∃ o15 o16 : Option V, σ' = [some (.ref a), some (.ref l), some (.int (cs.length : Int)), some (.int ((2 ^ cs.length : Nat) : Int)), some (.int far), some (.ref lp), some (.ref lc), some (.ref le), some (.ref lH), some (.ref x), some (.ref y), o11, some (.ref d1), some (.ref d2), some (.ref lh), o15, o16, none, none]) ?_ ?_ ?_
    · exact ⟨(Same.refl _).but lh, heB, none, none, rfl⟩
    · rintro i σ' H2 hi ⟨sb, he, o15, o16, rfl⟩
      obtain ⟨c1, c2, c3, c4, c5⟩ := al sb
      obtain ⟨q, hq', hqm, _⟩ := in_mod (m := cs.length) (D.getD 22 0 + 3 * (0 + (i : Int)))
      refine ⟨_, rfl, l, _, _, _, rfl, rfl, SqL.of c5, at_ints (i := 22) (by omega), _, rfl, _, _, rfl, rfl, .inl (.inl ⟨by decide, by decide⟩), _, _, rfl, rfl, _, rfl, _, _, rfl, rfl, hpos, ?_⟩
      show gName 16 (V.int ((D.getD 22 0 + 3 * (0 + (i : Int))) % ((2 ^ cs.length : Nat) : Int))) _ _ _
      rw [hq']
      have hqm2 : q < 2 ^ (cs.map fun n => n + 1).length := by rw [List.length_map]; exact hqm
      refine ⟨_, rfl, _, rfl, _, rfl, _, rfl, x, la, ra, d1, lh, ob1, cs, rs, allR cs qs, 3 * i, q, rfl, c1, c3, all_nodup wq, memA, hqm, he, by omega, fun H3 sb3 he3 => ⟨_, rfl, iteF ?_⟩⟩
      have t3 := SameBut.trans' sb sb3
      obtain ⟨_, c2, _, c4, _⟩ := al t3
      refine ⟨_, rfl, _, rfl, _, rfl, _, rfl, y, lb, rb, d2, lh, ob2, (cs.map fun n => n + 1), rs2, allR (cs.map fun n => n + 1) qs, 3 * i + 1, q, rfl, c2, c4, all_nodup wq2, memB, hqm2, he3, by omega, fun H4 sb4 he4 => ⟨_, rfl, iteF ?_⟩⟩
      have t4 := SameBut.trans' t3 sb4
      obtain ⟨c1, _, c3, _, _⟩ := al t4
      refine ⟨_, rfl, _, _, rfl, rfl, (by show (0 : Int) < 4; decide), rfl, _, rfl, ite2 (fun _ => ?_) (fun _ => iteF ⟨t4, he4.le (by omega), _, _, rfl⟩)⟩
      exact ⟨_, rfl, _, rfl, _, rfl, _, rfl, x, la, ra, d1, lh, ob1, cs, rs, allR cs qs, 3 * i + 2, q, rfl, c1, c3, all_nodup wq, memA, hqm, he4, by omega, fun H5 sb5 he5 => ⟨_, rfl, iteF ⟨SameBut.trans' t4 sb5, he5, _, _, rfl⟩⟩⟩
    rintro σ' H2 ⟨sb, he, o15, o16, rfl⟩
    obtain ⟨hs, hl21, hlen21, hent⟩ := he
    refine ⟨_, rfl, lh, rfl, ⟨_, SqL.of hl21⟩, ?_⟩
    refine for_list (xs := hs.map V.ref) (fun i σ' H' => H' = H2 ∧ ∃ o17 o18 : Option V, σ' = [some (.ref a), some (.ref l), some (.int (cs.length : Int)), some (.int ((2 ^ cs.length : Nat) : Int)), some (.int far), some (.ref lp), some (.ref lc), some (.ref le), some (.ref lH), some (.ref x), some (.ref y), o11, some (.ref d1), some (.ref d2), some (.ref lh), o15, o16, o17, o18]) ?_ ?_ ?_ ?_
    · exact ⟨rfl, none, none, rfl⟩
    · rintro i σ' H' _ ⟨rfl, _⟩
      exact SqL.of hl21
    · rintro i z σ' H' hz ⟨rfl, o17, o18, rfl⟩
      obtain ⟨b, hb', rfl⟩ := at_of hz
      obtain ⟨p1, p2, rs', q1, q2, q3, _⟩ := hent b (List.mem_of_getElem? hb')
      refine ⟨b, _, rfl, SqT.of q1, rfl, _, _, rfl, _, _, rfl, rfl, ?_⟩
      exact ⟨_, rfl, _, rfl, p1, p2, rs', rfl, rfl, SqL.of q2, SqL.of q3, _, rfl, iteF ⟨rfl, _, _, rfl⟩⟩
    · rintro σ' H' ⟨rfl, o17, o18, rfl⟩
      exact k _
end
end K09

def PySem.W.Fast.tw15280509074980402735 : Unit := ()
def PySem.W.Fast.tw2569361768081936067 : Unit := ()
def PySem.W.Fast.tw5332686184506372884 : Unit := ()
def PySem.W.Fast.tw12819592557573627770 : Unit := ()
def PySem.W.Fast.tw14582010908180856496 : Unit := ()
def PySem.W.Fast.tw13060552483624451436 : Unit := ()
def PySem.W.Fast.tw5294519033576399363 : Unit := ()
def PySem.W.Fast.tw2336214624126607269 : Unit := ()
def PySem.W.Fast.tw1379894028993116336 : Unit := ()
def PySem.W.Fast.tw4836602912491183787 : Unit := ()
def PySem.W.Fast.tw9034759352469148014 : Unit := ()
def PySem.W.Fast.tw1986079228131837524 : Unit := ()
def PySem.W.Fast.tw18295737823925167426 : Unit := ()
def PySem.W.Fast.tw6211045286514480591 : Unit := ()
def PySem.W.Fast.tw4005295710502425701 : Unit := ()
def PySem.W.Fast.tw731335617383192654 : Unit := ()
def PySem.W.Fast.tw300038553656350691 : Unit := ()
def PySem.W.Fast.tw15052989792080408310 : Unit := ()
def PySem.W.Fast.tw571654551171846055 : Unit := ()
def PySem.W.Fast.tw6322044541661291418 : Unit := ()
set_option Elab.async false
set_option linter.all false
set_option maxRecDepth 100000
set_option maxHeartbeats 8000000
namespace K09
open PySem L2
/-! ### the head -/
theorem T_mk {K : PySem.W.Frag} {mg : Str → Option Value} {h : Heap} {AL RU NE fE fH rR rN iR iN fL fN SE NG NN NO NR NL NS NT NX NV TM UL : Addr}  {n_AL : Nat} {osl_AL : Array (Option Value)} {t_AL0 t_AL1 t_AL2 t_AL3 t_AL4 t_AL5 : Tok} {tk_we : Tok}           {oc_RI kV_RI doc_RI pm_RI cdv_RI ct_RI : Value} {od_RI an_RI : Option Addr} {osl_RI : Array (Option Value)} {oc_H kV_H doc_H pm_H cdv_H ct_H : Value} {od_H an_H : Option Addr} {osl_H : Array (Option Value)} {oc_E kV_E doc_E pm_E cdv_E ct_E : Value} {od_E an_E : Option Addr} {osl_E : Array (Option Value)} {oc_RR kV_RR doc_RR pm_RR cdv_RR ct_RR : Value} {od_RR an_RR : Option Addr} {osl_RR : Array (Option Value)} {oc_NI kV_NI doc_NI pm_NI cdv_NI ct_NI : Value} {od_NI an_NI : Option Addr} {osl_NI : Array (Option Value)} {oc_NLs kV_NLs doc_NLs pm_NLs cdv_NLs ct_NLs : Value} {od_NLs an_NLs : Option Addr} {osl_NLs : Array (Option Value)} {oc_NRk kV_NRk doc_NRk pm_NRk cdv_NRk ct_NRk : Value} {od_NRk an_NRk : Option Addr} {osl_NRk : Array (Option Value)} {oc_NNt kV_NNt doc_NNt pm_NNt cdv_NNt ct_NNt : Value} {od_NNt an_NNt : Option Addr} {osl_NNt : Array (Option Value)}  (X : K.In h) (G : h.Ns mainGlobals mg)
    (b_isi : PySem.W.nsIn K mainGlobals "isinstance" = some none)
    (b_int : PySem.W.nsIn K mainGlobals "int" = some none)
    (b_bool : PySem.W.nsIn K mainGlobals "bool" = some none)
    (b_range : PySem.W.nsIn K mainGlobals "range" = some none)
    (b_len : PySem.W.nsIn K mainGlobals "len" = some none)
    (b_list : PySem.W.nsIn K mainGlobals "list" = some none)
    (b_ve : PySem.W.nsIn K mainGlobals "ValueError" = some none)
    (b_sum : PySem.W.nsIn K mainGlobals "sum" = some none)
    (b_all : PySem.W.nsIn K mainGlobals "all" = some none)
    (b_any : PySem.W.nsIn K mainGlobals "any" = some none)
    (b_sorted : PySem.W.nsIn K mainGlobals "sorted" = some none)
    (b_tuple : PySem.W.nsIn K mainGlobals "tuple" = some none)
    (b_max : PySem.W.nsIn K mainGlobals "max" = some none)
    (b_min : PySem.W.nsIn K mainGlobals "min" = some none)
    (b_enum : PySem.W.nsIn K mainGlobals "enumerate" = some none)
    (b_dict : PySem.W.nsIn K mainGlobals "dict" = some none)
    (mAL : PySem.W.nsIn K mainGlobals "ALONE" = some (some (.ref AL)))
    (lkAL : K.lookup AL = some ⟨.type "tuple", none, .seq #[.int 1 t_AL0, .int 2 t_AL1, .int 4 t_AL2, .int 8 t_AL3, .int 16 t_AL4, .int 32 t_AL5] n_AL, osl_AL⟩)
    (we : PySem.W.nsIn K mainGlobals "WELL" = some (some (.int 64 tk_we)))
    (mRU : PySem.W.nsIn K mainGlobals "Rule" = some (some (.ref RU)))
    (pgRU : PySem.W.plainGet K RU Str.empty = true)
    (hdRU : PySem.W.hasDictIn K RU = true)
    (poRU : PySem.W.plainOver K RU = true)
    (saRU : PySem.W.findIn K (.ref RU) "__setattr__" = some (some (.builtin "object.__setattr__")))
    (caRU : PySem.W.findIn K (.ref RU) "__class__" = some (some (.builtin "object.__class__")))
    (moRU : PySem.W.mroIn K RU (.type "object") = some true)
    (nmRU : PySem.W.findIn K (.ref RU) "many" = some none)
    (feRU : PySem.W.findIn K (.ref RU) "earn" = some (some (.ref fE)))
    (fhRU : PySem.W.findIn K (.ref RU) "hands" = some (some (.ref fH)))
    (frRU : PySem.W.findIn K (.ref RU) "reckon" = some (some (.ref rR)))
    (irRU : PySem.W.kitOne K (.ref RU) (.ref RU) = some true)
    (mkRU : PySem.W.makesIn K RU = true)
    (fiRU : PySem.W.findIn K (.ref RU) "__init__" = some (some (.ref iR)))
    (kkRU : PySem.W.keepIn K (.ref RU) = true)
    (mNE : PySem.W.nsIn K mainGlobals "Net" = some (some (.ref NE)))
    (pgNE : PySem.W.plainGet K NE Str.empty = true)
    (hdNE : PySem.W.hasDictIn K NE = true)
    (poNE : PySem.W.plainOver K NE = true)
    (saNE : PySem.W.findIn K (.ref NE) "__setattr__" = some (some (.builtin "object.__setattr__")))
    (caNE : PySem.W.findIn K (.ref NE) "__class__" = some (some (.builtin "object.__class__")))
    (moNE : PySem.W.mroIn K NE (.type "object") = some true)
    (nmNE : PySem.W.findIn K (.ref NE) "many" = some none)
    (feNE : PySem.W.findIn K (.ref NE) "earn" = some (some (.ref fE)))
    (fhNE : PySem.W.findIn K (.ref NE) "hands" = some (some (.ref fH)))
    (frNE : PySem.W.findIn K (.ref NE) "reckon" = some (some (.ref rN)))
    (irNE : PySem.W.kitOne K (.ref NE) (.ref RU) = some true)
    (mkNE : PySem.W.makesIn K NE = true)
    (fiNE : PySem.W.findIn K (.ref NE) "__init__" = some (some (.ref iN)))
    (kkNE : PySem.W.keepIn K (.ref NE) = true)
    (nf0NE : PySem.W.findIn K (.ref NE) "costs" = some none)
    (nf1NE : PySem.W.findIn K (.ref NE) "ropes" = some none)
    (fflNE : PySem.W.findIn K (.ref NE) "least" = some (some (.ref fL)))
    (fftNE : PySem.W.findIn K (.ref NE) "net" = some (some (.ref fN)))
    (lRI : K.lookup iR = some ⟨oc_RI, od_RI, .func (PySem.W.fnOf "__init__" "Rule.__init__" (defArgs sRI) (defBody sRI) (defScope sRI) .none kV_RI doc_RI pm_RI an_RI cdv_RI ct_RI), osl_RI⟩)
    (cdRI : PySem.W.codeIn K cdv_RI "Rule.__init__" = true)
    (kpRI : PySem.W.keepIn K (.ref iR) = true)
    (fnRI : PySem.W.isFn K (.ref iR) = true)
    (lH : K.lookup fH = some ⟨oc_H, od_H, .func (PySem.W.fnOf "hands" "Rule.hands" (defArgs sHs) (defBody sHs) (defScope sHs) .none kV_H doc_H pm_H an_H cdv_H ct_H), osl_H⟩)
    (cdH : PySem.W.codeIn K cdv_H "Rule.hands" = true)
    (kpH : PySem.W.keepIn K (.ref fH) = true)
    (fnH : PySem.W.isFn K (.ref fH) = true)
    (lE : K.lookup fE = some ⟨oc_E, od_E, .func (PySem.W.fnOf "earn" "Rule.earn" (defArgs sErn) (defBody sErn) (defScope sErn) .none kV_E doc_E pm_E an_E cdv_E ct_E), osl_E⟩)
    (cdE : PySem.W.codeIn K cdv_E "Rule.earn" = true)
    (kpE : PySem.W.keepIn K (.ref fE) = true)
    (fnE : PySem.W.isFn K (.ref fE) = true)
    (lRR : K.lookup rR = some ⟨oc_RR, od_RR, .func (PySem.W.fnOf "reckon" "Rule.reckon" (defArgs sRR) (defBody sRR) (defScope sRR) .none kV_RR doc_RR pm_RR an_RR cdv_RR ct_RR), osl_RR⟩)
    (cdRR : PySem.W.codeIn K cdv_RR "Rule.reckon" = true)
    (kpRR : PySem.W.keepIn K (.ref rR) = true)
    (fnRR : PySem.W.isFn K (.ref rR) = true)
    (lNI : K.lookup iN = some ⟨oc_NI, od_NI, .func (PySem.W.fnOf "__init__" "Net.__init__" (defArgs sNI) (defBody sNI) (defScope sNI) .none kV_NI doc_NI pm_NI an_NI cdv_NI ct_NI), osl_NI⟩)
    (cdNI : PySem.W.codeIn K cdv_NI "Net.__init__" = true)
    (kpNI : PySem.W.keepIn K (.ref iN) = true)
    (fnNI : PySem.W.isFn K (.ref iN) = true)
    (lNLs : K.lookup fL = some ⟨oc_NLs, od_NLs, .func (PySem.W.fnOf "least" "Net.least" (defArgs sNLs) (defBody sNLs) (defScope sNLs) .none kV_NLs doc_NLs pm_NLs an_NLs cdv_NLs ct_NLs), osl_NLs⟩)
    (cdNLs : PySem.W.codeIn K cdv_NLs "Net.least" = true)
    (kpNLs : PySem.W.keepIn K (.ref fL) = true)
    (fnNLs : PySem.W.isFn K (.ref fL) = true)
    (lNRk : K.lookup rN = some ⟨oc_NRk, od_NRk, .func (PySem.W.fnOf "reckon" "Net.reckon" (defArgs sNRk) (defBody sNRk) (defScope sNRk) .none kV_NRk doc_NRk pm_NRk an_NRk cdv_NRk ct_NRk), osl_NRk⟩)
    (cdNRk : PySem.W.codeIn K cdv_NRk "Net.reckon" = true)
    (kpNRk : PySem.W.keepIn K (.ref rN) = true)
    (fnNRk : PySem.W.isFn K (.ref rN) = true)
    (lNNt : K.lookup fN = some ⟨oc_NNt, od_NNt, .func (PySem.W.fnOf "net" "Net.net" (defArgs sNNt) (defBody sNNt) (defScope sNNt) .none kV_NNt doc_NNt pm_NNt an_NNt cdv_NNt ct_NNt), osl_NNt⟩)
    (cdNNt : PySem.W.codeIn K cdv_NNt "Net.net" = true)
    (kpNNt : PySem.W.keepIn K (.ref fN) = true)
    (fnNNt : PySem.W.isFn K (.ref fN) = true)
    (cgcRI : PySem.W.specialIn K (.ref RU) "__getattribute__" = some (some (.builtin "type.__getattribute__")))
    (crcRI : PySem.W.readsIn K RU (.type "type") = true)
    (cfcRI : PySem.W.findCls K (.ref RU) (.type "type") "__init__" = some (.val (.ref iR)))
    (mSE : PySem.W.nsIn K mainGlobals "ShareError" = some (some (.ref SE)))
    (mNG : PySem.W.nsIn K mainGlobals "NoGroup" = some (some (.ref NG)))
    (mNN : PySem.W.nsIn K mainGlobals "NoNumber" = some (some (.ref NN)))
    (mNO : PySem.W.nsIn K mainGlobals "NoOrder" = some (some (.ref NO)))
    (mNR : PySem.W.nsIn K mainGlobals "NoRows" = some (some (.ref NR)))
    (mNL : PySem.W.nsIn K mainGlobals "NoRule" = some (some (.ref NL)))
    (mNS : PySem.W.nsIn K mainGlobals "NoShares" = some (some (.ref NS)))
    (mNT : PySem.W.nsIn K mainGlobals "NoTable" = some (some (.ref NT)))
    (mNX : PySem.W.nsIn K mainGlobals "NoText" = some (some (.ref NX)))
    (mNV : PySem.W.nsIn K mainGlobals "NoVotes" = some (some (.ref NV)))
    (mTM : PySem.W.nsIn K mainGlobals "TooMany" = some (some (.ref TM)))
    (mUL : PySem.W.nsIn K mainGlobals "Unlike" = some (some (.ref UL)))
    (c6 : PySem.W.specialIn K (.builtin "object.__class__") "__get__" = some (some (.builtin "getset_descriptor.__get__")))
    (c7 : PySem.W.takesIn K (.builtin "object.__class__") = some true)
    (SE2 : PySem.W.typeIn K (.ref SE) = some (.type "type"))
    (SE3 : PySem.W.findIn K (.ref SE) "__getattribute__" = some (some (.builtin "BaseException.__getattribute__")))
    (SE4 : PySem.W.findIn K (.ref SE) "__getattr__" = some none)
    (SE5 : PySem.W.findIn K (.ref SE) "__class__" = some (some (.builtin "object.__class__")))
    (SE8 : PySem.W.mroIn K SE (.type "object") = some true)
    (SE9 : PySem.W.mroIn K SE (.type "BaseException") = some true)
    (NG2 : PySem.W.typeIn K (.ref NG) = some (.type "type"))
    (NG3 : PySem.W.findIn K (.ref NG) "__getattribute__" = some (some (.builtin "BaseException.__getattribute__")))
    (NG4 : PySem.W.findIn K (.ref NG) "__getattr__" = some none)
    (NG5 : PySem.W.findIn K (.ref NG) "__class__" = some (some (.builtin "object.__class__")))
    (NG8 : PySem.W.mroIn K NG (.type "object") = some true)
    (NG9 : PySem.W.mroIn K NG (.type "BaseException") = some true)
    (xNG : PySem.W.excIn K NG bmV "ValueError.__new__" = true)
    (up : PySem.W.mroIn K NG (.ref SE) = some true)
    (k1 : PySem.W.kitOne K (.ref NG) (.ref NG) = some true)
    (k2 : PySem.W.kitOne K (.ref NG) (.type "ValueError") = some true)
    (k3 : PySem.W.kitAny K (.ref NG) [.ref NN, .ref NO, .ref NR, .ref NL, .ref NS] = some false)
    (k4 : PySem.W.kitAny K (.ref NG) [.ref NT, .ref NX, .ref NV, .ref TM, .ref UL] = some false)
    (xNL : PySem.W.excIn K NL bmV "ValueError.__new__" = true) :
    ∃ AL RU NE fE fH rR rN iR iN fL fN SE NG NN NO NR NL NS NT NX NV TM UL, T K mg AL RU NE fE fH rR rN iR iN fL fN SE NG NN NO NR NL NS NT NX NV TM UL :=
  ⟨AL, RU, NE, fE, fH, rR, rN, iR, iN, fL, fN, SE, NG, NN, NO, NR, NL, NS, NT, NX, NV, TM, UL, PySem.W.mg_none_of X G b_isi, PySem.W.mg_none_of X G b_int, PySem.W.mg_none_of X G b_bool, PySem.W.mg_none_of X G b_range, PySem.W.mg_none_of X G b_len, PySem.W.mg_none_of X G b_list, PySem.W.mg_none_of X G b_ve, PySem.W.mg_none_of X G b_sum, PySem.W.mg_none_of X G b_all, PySem.W.mg_none_of X G b_any, PySem.W.mg_none_of X G b_sorted, PySem.W.mg_none_of X G b_tuple, PySem.W.mg_none_of X G b_max, PySem.W.mg_none_of X G b_min, PySem.W.mg_none_of X G b_enum, PySem.W.mg_none_of X G b_dict, PySem.W.mg_of X G mAL, fun _ => .inr ⟨_, _, _, lkAL, rfl, rfl, by show 6 ≤ sizeLine; decide, .cons ⟨_, rfl⟩ (.cons ⟨_, rfl⟩ (.cons ⟨_, rfl⟩ (.cons ⟨_, rfl⟩ (.cons ⟨_, rfl⟩ (.cons ⟨_, rfl⟩ .nil)))))⟩, ⟨tk_we, PySem.W.mg_of X G we⟩, PySem.W.mg_of X G mRU, ⟨⟨⟨pgRU, hdRU, poRU, saRU⟩, caRU, c6, c7, moRU⟩, nmRU, ⟨feRU, fnE, kpE⟩, ⟨fhRU, fnH, kpH⟩, ⟨frRU, fnRR, kpRR⟩, irRU⟩, ⟨mkRU, fiRU, fnRI, kkRU⟩, PySem.W.mg_of X G mNE, ⟨⟨⟨pgNE, hdNE, poNE, saNE⟩, caNE, c6, c7, moNE⟩, nmNE, ⟨feNE, fnE, kpE⟩, ⟨fhNE, fnH, kpH⟩, ⟨frNE, fnNRk, kpNRk⟩, irNE⟩, ⟨mkNE, fiNE, fnNI, kkNE⟩, nf0NE, nf1NE, ⟨fflNE, fnNLs, kpNLs⟩, ⟨fftNE, fnNNt, kpNNt⟩, mx_mk lRI cdRI kpRI (fun _ _ _ _ _ _ us hl => match us, hl with | [_, _], _ => rfl), mx_mk lH cdH kpH (fun _ _ _ _ _ _ us hl => match us, hl with | [_], _ => rfl), mx_mk lE cdE kpE (fun _ _ _ _ _ _ us hl => match us, hl with | [_, _], _ => rfl), mx_mk lRR cdRR kpRR (fun _ _ _ _ _ _ us hl => match us, hl with | [_, _], _ => rfl), mx_mk lNI cdNI kpNI (fun _ _ _ _ _ _ us hl => match us, hl with | [_, _, _], _ => rfl), mx_mk lNLs cdNLs kpNLs (fun _ _ _ _ _ _ us hl => match us, hl with | [_, _], _ => rfl), mx_mk lNRk cdNRk kpNRk (fun _ _ _ _ _ _ us hl => match us, hl with | [_, _], _ => rfl), mx_mk lNNt cdNNt kpNNt (fun _ _ _ _ _ _ us hl => match us, hl with | [_, _], _ => rfl), ⟨cgcRI, crcRI, cfcRI, kpRI⟩, PySem.W.mg_of X G mSE, PySem.W.mg_of X G mNG, PySem.W.mg_of X G mNN, PySem.W.mg_of X G mNO, PySem.W.mg_of X G mNR, PySem.W.mg_of X G mNL, PySem.W.mg_of X G mNS, PySem.W.mg_of X G mNT, PySem.W.mg_of X G mNX, PySem.W.mg_of X G mNV, PySem.W.mg_of X G mTM, PySem.W.mg_of X G mUL, exc_mk SE2 SE3 SE4 SE5 c6 c7 SE8 SE9, exc_mk NG2 NG3 NG4 NG5 c6 c7 NG8 NG9, xNG, up, k1, k2, k3, k4, xNL⟩
theorem walk {l : PySem.W.OpenLaw} {q : Program} {loose : List Str} {XP : (Str → Option Value) → Heap → Prop} {YP : World → Heap → Prop} {d : DefRec} {K : Params → PySem.W.Frag} (hn : l.most = some 63) (hdf : d.params.defaults = [])
    (hY : ∀ (w : World) (h : Heap), YP w h → (K w.params).In h)
    (F : ∀ (w : World) (mg : Str → Option Value) (fa : Addr) (h : Heap), (K w.params).In h → h.Ns mainGlobals mg → mg d.name = some (.ref fa) →
      ∃ fd : FuncData, (∀ (s : Shared) (u : Value), BindsTo s fd ⟨[u], []⟩ [("_law_script", u)]) ∧ ∀ base : Heap, (K w.params).In base → base.Ns mainGlobals mg → FnOk l.prog w (K w.params) mg base CX0 10 fa fd ["_law_script"] (spLaw (K w.params))) :
    PySem.W.WalkO q loose XP YP l.row.toRowW d [] (fun f vs => PySem.call f vs) :=
  L2.walk_of (n := 63) (k := 10) (x := "_law_script") (CX := fun _ => CX0) (sp := fun w => spLaw (K w.params)) hn (by decide) hdf ⟨rfl, by decide, by decide⟩ hY F (fun _ _ a ns hl _ hS => ⟨a, ns, rfl, hS, hl, fun _ => rfl⟩) fun _ _ _ _ _ z => z
theorem all_ok {P : Program} {w : World} {K : PySem.W.Frag} {mg : Str → Option Value} {fa : Addr} (hfa : mg "law" = some (.ref fa)) (hT : ∃ AL RU NE fE fH rR rN iR iN fL fN SE NG NN NO NR NL NS NT NX NV TM UL, T K mg AL RU NE fE fH rR rN iR iN fL fN SE NG NN NO NR NL NS NT NX NV TM UL)
    (t_sNum : ∃ f fd, Tx K mg "is_number" sNum ["thing"] f fd)
    (t_sWith : ∃ f fd, Tx K mg "is_number_within" sWith ["thing", "least", "most"] f fd)
    (t_sChM : ∃ f fd, Tx K mg "check_many" sChM ["many"] f fd)
    (t_sWC : ∃ f fd, Tx K mg "whole_company" sWC ["many"] f fd)
    (t_sChk : ∃ f fd, Tx K mg "check_group" sChk ["group", "many"] f fd)
    (t_sCkN : ∃ f fd, Tx K mg "check_numbers" sCkN ["things"] f fd)
    (t_sCkP : ∃ f fd, Tx K mg "check_pair" sCkP ["many", "pair"] f fd)
    (t_sSrt : ∃ f fd, Tx K mg "sorted_pairs" sSrt ["many", "pairs"] f fd)
    (t_sCkC : ∃ f fd, Tx K mg "check_costs" sCkC ["costs"] f fd)
    (t_sCst : ∃ f fd, Tx K mg "cost_of" sCst ["rope"] f fd)
    (t_sEnd : ∃ f fd, Tx K mg "ends_of" sEnd ["rope"] f fd)
    (t_sJon : ∃ f fd, Tx K mg "joins_on" sJon ["rope", "joined", "ground"] f fd)
    (t_sLNt : ∃ f fd, Tx K mg "least_net" sLNt ["ropes", "group"] f fd)
    (t_sDrw : ∃ f fd, Tx K mg "_law_draws" sDrw ["_law_script"] f fd)
    (t_sWho : ∃ f fd, Tx K mg "_law_whole" sWho ["_law_found"] f fd)
    (t_sRow : ∃ f fd, Tx K mg "_law_row" sRow ["_law_draws_here", "_law_start", "_law_many", "_law_far"] f fd)
    (t_sOnl : ∃ f fd, Tx K mg "_law_only" sOnl ["_law_e"] f fd)
    (t_sOdd : ∃ f fd, Tx K mg "_law_odd" sOdd ["_law_size", "_law_cell"] f fd)
    (t_sRef : ∃ f fd, Tx K mg "_law_refused" sRef ["_law_rule", "_law_thing"] f fd)
    (t_sRps : ∃ f fd, Tx K mg "_law_ropes" sRps ["_law_draws_here", "_law_many", "_law_far"] f fd)
    (t_sLHn : ∃ f fd, Tx K mg "_law_hands" sLHn ["_law_group"] f fd)
    (t_sLEn : ∃ f fd, Tx K mg "_law_ends" sLEn ["_law_rope"] f fd)
    (t_sRch : ∃ f fd, Tx K mg "_law_reached" sRch ["_law_start", "_law_ropes_here"] f fd)
    (t_sJnd : ∃ f fd, Tx K mg "_law_joined" sJnd ["_law_found", "_law_hands_here", "_law_by_rope_here"] f fd)
    (t_sLNe : ∃ f fd, Tx K mg "_law_net" sLNe ["_law_rule", "_law_group", "_law_by_rope_here", "_law_held"] f fd)
    (t_sByR : ∃ f fd, Tx K mg "_law_by_rope" sByR ["_law_costs", "_law_ropes_here"] f fd)
    (t_sLaw : ∃ f fd, Tx K mg "law" sLaw ["_law_script"] f fd)
    : ∃ fd : FuncData, (∀ (s : Shared) (u : Value), BindsTo s fd ⟨[u], []⟩ [("_law_script", u)]) ∧ ∀ base : Heap, K.In base → base.Ns mainGlobals mg → FnOk P w K mg base CX0 10 fa fd ["_law_script"] (spLaw K) := by
  obtain ⟨AL, RU, NE, fE, fH, rR, rN, iR, iN, fL, fN, SE, NG, NN, NO, NR, NL, NS, NT, NX, NV, TM, UL, T⟩ := hT
  obtain ⟨f_sNum, fd_sNum, t_sNum⟩ := t_sNum
  obtain ⟨f_sWith, fd_sWith, t_sWith⟩ := t_sWith
  obtain ⟨f_sChM, fd_sChM, t_sChM⟩ := t_sChM
  obtain ⟨f_sWC, fd_sWC, t_sWC⟩ := t_sWC
  obtain ⟨f_sChk, fd_sChk, t_sChk⟩ := t_sChk
  obtain ⟨f_sCkN, fd_sCkN, t_sCkN⟩ := t_sCkN
  obtain ⟨f_sCkP, fd_sCkP, t_sCkP⟩ := t_sCkP
  obtain ⟨f_sSrt, fd_sSrt, t_sSrt⟩ := t_sSrt
  obtain ⟨f_sCkC, fd_sCkC, t_sCkC⟩ := t_sCkC
  obtain ⟨f_sCst, fd_sCst, t_sCst⟩ := t_sCst
  obtain ⟨f_sEnd, fd_sEnd, t_sEnd⟩ := t_sEnd
  obtain ⟨f_sJon, fd_sJon, t_sJon⟩ := t_sJon
  obtain ⟨f_sLNt, fd_sLNt, t_sLNt⟩ := t_sLNt
  obtain ⟨f_sDrw, fd_sDrw, t_sDrw⟩ := t_sDrw
  obtain ⟨f_sWho, fd_sWho, t_sWho⟩ := t_sWho
  obtain ⟨f_sRow, fd_sRow, t_sRow⟩ := t_sRow
  obtain ⟨f_sOnl, fd_sOnl, t_sOnl⟩ := t_sOnl
  obtain ⟨f_sOdd, fd_sOdd, t_sOdd⟩ := t_sOdd
  obtain ⟨f_sRef, fd_sRef, t_sRef⟩ := t_sRef
  obtain ⟨f_sRps, fd_sRps, t_sRps⟩ := t_sRps
  obtain ⟨f_sLHn, fd_sLHn, t_sLHn⟩ := t_sLHn
  obtain ⟨f_sLEn, fd_sLEn, t_sLEn⟩ := t_sLEn
  obtain ⟨f_sRch, fd_sRch, t_sRch⟩ := t_sRch
  obtain ⟨f_sJnd, fd_sJnd, t_sJnd⟩ := t_sJnd
  obtain ⟨f_sLNe, fd_sLNe, t_sLNe⟩ := t_sLNe
  obtain ⟨f_sByR, fd_sByR, t_sByR⟩ := t_sByR
  obtain ⟨f_sLaw, fd_sLaw, t_sLaw⟩ := t_sLaw
  have e := hfa.symm.trans t_sLaw.at_
  cases e
  refine ⟨fd_sLaw, fun s u => .of_eq (t_sLaw.bd [u] rfl), fun base _ _ => ?_⟩
  obtain ⟨m1, x1⟩ := T.xRI
  obtain ⟨m2, x2⟩ := T.xH
  obtain ⟨m3, x3⟩ := T.xE
  obtain ⟨m4, x4⟩ := T.xNI
  obtain ⟨m5, x5⟩ := T.xNLs
  obtain ⟨m6, x6⟩ := T.xNRk
  obtain ⟨m7, x7⟩ := T.xNNt
  have d0 := ok_num (P := P) (w := w) (base := base) t_sNum T
  have d1 := ok_with (P := P) (w := w) (base := base) t_sWith d0
  have d2 := ok_chm t_sChM T d1
  have d3 := ok_wc (P := P) (w := w) (base := base) t_sWC T
  have d4 := ok_chk t_sChk T d1 d3
  have d7 := ok_ckn t_sCkN T d0
  have d9 := ok_srt t_sSrt T (ok_ckp t_sCkP T d7)
  have eRI := ok_ri x1 T d2
  have eH := ok_hs (P := P) (w := w) (mg := mg) (base := base) x2
  have eE := ok_ern x3 T d4
  have c1 := ok_cst (P := P) (w := w) (base := base) t_sCst T
  have c2 := ok_end (P := P) (w := w) (base := base) t_sEnd T
  have c3 := ok_jon t_sJon T c2
  have c4 := ok_lnt t_sLNt T c3 c2 c1
  have eNI := ok_ni x4 T eRI (ok_ckc t_sCkC T d7) d9 c1
  have eNL := ok_nls x5 T c4
  have eNR := ok_nrk x6 T eNL c1
  have eNN := ok_nnt x7 T eNL d4
  have l1 := ok_who (P := P) (w := w) (base := base) t_sWho T
  have l2 := ok_lhn (P := P) (w := w) (base := base) t_sLHn T
  have l3 := ok_row (P := P) (w := w) (base := base) t_sRow T
  have l4 := ok_len (P := P) (w := w) (base := base) t_sLEn T
  have l5 := ok_jnd t_sJnd T l4 (ok_rch t_sRch T l4)
  exact (ok_law t_sLaw T (ok_drw t_sDrw T) (ok_rps t_sRps T l3) l3 (ok_ref t_sRef T eE eNR eNN (ok_onl t_sOnl T)) (ok_odd t_sOdd T) l1 (ok_byr t_sByR T) (ok_lne t_sLNe T eE eNR eNN l1 l2 l5) eNI eH).ok

end K09
open PySem PySem.W PyProof.Rows
set_option maxRecDepth 100000 in
set_option maxHeartbeats 0 in
theorem PySem.Challenge.cw_shareparley_k09_whole_nets_holds : PySem.Challenge.rw_shareparley_k09_whole_nets.Holds := by
  w_on; o_law; k_head; (case hw => w_witness2)
  k_fill
  refine K09.walk (l := PySem.Challenge.rw_shareparley_k09_whole_nets) rfl rfl (fun w h Y => PySem.W.kIn_of Y) ?F
  case F =>
    intro w mg fa h KX G hmg
    refine K09.all_ok hmg ?T ?t_sNum ?t_sWith ?t_sChM ?t_sWC ?t_sChk ?t_sCkN ?t_sCkP ?t_sSrt ?t_sCkC ?t_sCst ?t_sEnd ?t_sJon ?t_sLNt ?t_sDrw ?t_sWho ?t_sRow ?t_sOnl ?t_sOdd ?t_sRef ?t_sRps ?t_sLHn ?t_sLEn ?t_sRch ?t_sJnd ?t_sLNe ?t_sByR ?t_sLaw
    case T =>
      refine' K09.T_mk KX G ?b_isi ?b_int ?b_bool ?b_range ?b_len ?b_list ?b_ve ?b_sum ?b_all ?b_any ?b_sorted ?b_tuple ?b_max ?b_min ?b_enum ?b_dict ?mAL ?lkAL ?we ?mRU ?pgRU ?hdRU ?poRU ?saRU ?caRU ?moRU ?nmRU ?feRU ?fhRU ?frRU ?irRU ?mkRU ?fiRU ?kkRU ?mNE ?pgNE ?hdNE ?poNE ?saNE ?caNE ?moNE ?nmNE ?feNE ?fhNE ?frNE ?irNE ?mkNE ?fiNE ?kkNE ?nf0NE ?nf1NE ?fflNE ?fftNE ?lRI ?cdRI ?kpRI ?fnRI ?lH ?cdH ?kpH ?fnH ?lE ?cdE ?kpE ?fnE ?lRR ?cdRR ?kpRR ?fnRR ?lNI ?cdNI ?kpNI ?fnNI ?lNLs ?cdNLs ?kpNLs ?fnNLs ?lNRk ?cdNRk ?kpNRk ?fnNRk ?lNNt ?cdNNt ?kpNNt ?fnNNt ?cgcRI ?crcRI ?cfcRI ?mSE ?mNG ?mNN ?mNO ?mNR ?mNL ?mNS ?mNT ?mNX ?mNV ?mTM ?mUL ?c6 ?c7 ?SE2 ?SE3 ?SE4 ?SE5 ?SE8 ?SE9 ?NG2 ?NG3 ?NG4 ?NG5 ?NG8 ?NG9 ?xNG ?up ?k1 ?k2 ?k3 ?k4 ?xNL
      (case b_isi => k_is)
      (case b_int => k_is)
      (case b_bool => k_is)
      (case b_range => k_is)
      (case b_len => k_is)
      (case b_list => k_is)
      (case b_ve => k_is)
      (case b_sum => k_is)
      (case b_all => k_is)
      (case b_any => k_is)
      (case b_sorted => k_is)
      (case b_tuple => k_is)
      (case b_max => k_is)
      (case b_min => k_is)
      (case b_enum => k_is)
      (case b_dict => k_is)
      (case mAL => k_is)
      (case lkAL => k_is)
      (case we => k_is)
      (case mRU => k_is)
      (case pgRU => k_is)
      (case hdRU => k_is)
      (case poRU => k_is)
      (case saRU => k_is)
      (case caRU => k_is)
      (case moRU => k_is)
      (case nmRU => k_is)
      (case feRU => k_is)
      (case fhRU => k_is)
      (case frRU => k_is)
      (case irRU => kit_is)
      (case mkRU => k_is)
      (case fiRU => k_is)
      (case kkRU => k_is)
      (case mNE => k_is)
      (case pgNE => k_is)
      (case hdNE => k_is)
      (case poNE => k_is)
      (case saNE => k_is)
      (case caNE => k_is)
      (case moNE => k_is)
      (case nmNE => k_is)
      (case feNE => k_is)
      (case fhNE => k_is)
      (case frNE => k_is)
      (case irNE => kit_is)
      (case mkNE => k_is)
      (case fiNE => k_is)
      (case kkNE => k_is)
      (case nf0NE => k_is)
      (case nf1NE => k_is)
      (case fflNE => k_is)
      (case fftNE => k_is)
      (case lRI => k_is)
      (case cdRI => k_is)
      (case kpRI => k_is)
      (case fnRI => k_is)
      (case lH => k_is)
      (case cdH => k_is)
      (case kpH => k_is)
      (case fnH => k_is)
      (case lE => k_is)
      (case cdE => k_is)
      (case kpE => k_is)
      (case fnE => k_is)
      (case lRR => k_is)
      (case cdRR => k_is)
      (case kpRR => k_is)
      (case fnRR => k_is)
      (case lNI => k_is)
      (case cdNI => k_is)
      (case kpNI => k_is)
      (case fnNI => k_is)
      (case lNLs => k_is)
      (case cdNLs => k_is)
      (case kpNLs => k_is)
      (case fnNLs => k_is)
      (case lNRk => k_is)
      (case cdNRk => k_is)
      (case kpNRk => k_is)
      (case fnNRk => k_is)
      (case lNNt => k_is)
      (case cdNNt => k_is)
      (case kpNNt => k_is)
      (case fnNNt => k_is)
      (case cgcRI => k_is)
      (case crcRI => k_is)
      (case cfcRI => k_is)
      (case mSE => k_is)
      (case mNG => k_is)
      (case mNN => k_is)
      (case mNO => k_is)
      (case mNR => k_is)
      (case mNL => k_is)
      (case mNS => k_is)
      (case mNT => k_is)
      (case mNX => k_is)
      (case mNV => k_is)
      (case mTM => k_is)
      (case mUL => k_is)
      (case c6 => k_is)
      (case c7 => k_is)
      (case SE2 => k_is)
      (case SE3 => k_is)
      (case SE4 => k_is)
      (case SE5 => k_is)
      (case SE8 => k_is)
      (case SE9 => k_is)
      (case NG2 => k_is)
      (case NG3 => k_is)
      (case NG4 => k_is)
      (case NG5 => k_is)
      (case NG8 => k_is)
      (case NG9 => k_is)
      (case xNG => k_exc)
      (case up => k_is)
      (case k1 => kit_is)
      (case k2 => kit_is)
      (case k3 => kit_is)
      (case k4 => kit_is)
      (case xNL => k_exc)
    case t_sNum =>
      refine' L2.tx_mk KX G ?a ?l ?c ?k (fun _ _ _ _ _ _ us hl => match us, hl with | [_], _ => rfl)
      (case a => k_is); (case l => k_is); (case c => k_is); (case k => k_is)
    case t_sWith =>
      refine' L2.tx_mk KX G ?a ?l ?c ?k (fun _ _ _ _ _ _ us hl => match us, hl with | [_, _, _], _ => rfl)
      (case a => k_is); (case l => k_is); (case c => k_is); (case k => k_is)
    case t_sChM =>
      refine' L2.tx_mk KX G ?a ?l ?c ?k (fun _ _ _ _ _ _ us hl => match us, hl with | [_], _ => rfl)
      (case a => k_is); (case l => k_is); (case c => k_is); (case k => k_is)
    case t_sWC =>
      refine' L2.tx_mk KX G ?a ?l ?c ?k (fun _ _ _ _ _ _ us hl => match us, hl with | [_], _ => rfl)
      (case a => k_is); (case l => k_is); (case c => k_is); (case k => k_is)
    case t_sChk =>
      refine' L2.tx_mk KX G ?a ?l ?c ?k (fun _ _ _ _ _ _ us hl => match us, hl with | [_, _], _ => rfl)
      (case a => k_is); (case l => k_is); (case c => k_is); (case k => k_is)
    case t_sCkN =>
      refine' L2.tx_mk KX G ?a ?l ?c ?k (fun _ _ _ _ _ _ us hl => match us, hl with | [_], _ => rfl)
      (case a => k_is); (case l => k_is); (case c => k_is); (case k => k_is)
    case t_sCkP =>
      refine' L2.tx_mk KX G ?a ?l ?c ?k (fun _ _ _ _ _ _ us hl => match us, hl with | [_, _], _ => rfl)
      (case a => k_is); (case l => k_is); (case c => k_is); (case k => k_is)
    case t_sSrt =>
      refine' L2.tx_mk KX G ?a ?l ?c ?k (fun _ _ _ _ _ _ us hl => match us, hl with | [_, _], _ => rfl)
      (case a => k_is); (case l => k_is); (case c => k_is); (case k => k_is)
    case t_sCkC =>
      refine' L2.tx_mk KX G ?a ?l ?c ?k (fun _ _ _ _ _ _ us hl => match us, hl with | [_], _ => rfl)
      (case a => k_is); (case l => k_is); (case c => k_is); (case k => k_is)
    case t_sCst =>
      refine' L2.tx_mk KX G ?a ?l ?c ?k (fun _ _ _ _ _ _ us hl => match us, hl with | [_], _ => rfl)
      (case a => k_is); (case l => k_is); (case c => k_is); (case k => k_is)
    case t_sEnd =>
      refine' L2.tx_mk KX G ?a ?l ?c ?k (fun _ _ _ _ _ _ us hl => match us, hl with | [_], _ => rfl)
      (case a => k_is); (case l => k_is); (case c => k_is); (case k => k_is)
    case t_sJon =>
      refine' L2.tx_mk KX G ?a ?l ?c ?k (fun _ _ _ _ _ _ us hl => match us, hl with | [_, _, _], _ => rfl)
      (case a => k_is); (case l => k_is); (case c => k_is); (case k => k_is)
    case t_sLNt =>
      refine' L2.tx_mk KX G ?a ?l ?c ?k (fun _ _ _ _ _ _ us hl => match us, hl with | [_, _], _ => rfl)
      (case a => k_is); (case l => k_is); (case c => k_is); (case k => k_is)
    case t_sDrw =>
      refine' L2.tx_mk KX G ?a ?l ?c ?k (fun _ _ _ _ _ _ us hl => match us, hl with | [_], _ => rfl)
      (case a => k_is); (case l => k_is); (case c => k_is); (case k => k_is)
    case t_sWho =>
      refine' L2.tx_mk KX G ?a ?l ?c ?k (fun _ _ _ _ _ _ us hl => match us, hl with | [_], _ => rfl)
      (case a => k_is); (case l => k_is); (case c => k_is); (case k => k_is)
    case t_sRow =>
      refine' L2.tx_mk KX G ?a ?l ?c ?k (fun _ _ _ _ _ _ us hl => match us, hl with | [_, _, _, _], _ => rfl)
      (case a => k_is); (case l => k_is); (case c => k_is); (case k => k_is)
    case t_sOnl =>
      refine' L2.tx_mk KX G ?a ?l ?c ?k (fun _ _ _ _ _ _ us hl => match us, hl with | [_], _ => rfl)
      (case a => k_is); (case l => k_is); (case c => k_is); (case k => k_is)
    case t_sOdd =>
      refine' L2.tx_mk KX G ?a ?l ?c ?k (fun _ _ _ _ _ _ us hl => match us, hl with | [_, _], _ => rfl)
      (case a => k_is); (case l => k_is); (case c => k_is); (case k => k_is)
    case t_sRef =>
      refine' L2.tx_mk KX G ?a ?l ?c ?k (fun _ _ _ _ _ _ us hl => match us, hl with | [_, _], _ => rfl)
      (case a => k_is); (case l => k_is); (case c => k_is); (case k => k_is)
    case t_sRps =>
      refine' L2.tx_mk KX G ?a ?l ?c ?k (fun _ _ _ _ _ _ us hl => match us, hl with | [_, _, _], _ => rfl)
      (case a => k_is); (case l => k_is); (case c => k_is); (case k => k_is)
    case t_sLHn =>
      refine' L2.tx_mk KX G ?a ?l ?c ?k (fun _ _ _ _ _ _ us hl => match us, hl with | [_], _ => rfl)
      (case a => k_is); (case l => k_is); (case c => k_is); (case k => k_is)
    case t_sLEn =>
      refine' L2.tx_mk KX G ?a ?l ?c ?k (fun _ _ _ _ _ _ us hl => match us, hl with | [_], _ => rfl)
      (case a => k_is); (case l => k_is); (case c => k_is); (case k => k_is)
    case t_sRch =>
      refine' L2.tx_mk KX G ?a ?l ?c ?k (fun _ _ _ _ _ _ us hl => match us, hl with | [_, _], _ => rfl)
      (case a => k_is); (case l => k_is); (case c => k_is); (case k => k_is)
    case t_sJnd =>
      refine' L2.tx_mk KX G ?a ?l ?c ?k (fun _ _ _ _ _ _ us hl => match us, hl with | [_, _, _], _ => rfl)
      (case a => k_is); (case l => k_is); (case c => k_is); (case k => k_is)
    case t_sLNe =>
      refine' L2.tx_mk KX G ?a ?l ?c ?k (fun _ _ _ _ _ _ us hl => match us, hl with | [_, _, _, _], _ => rfl)
      (case a => k_is); (case l => k_is); (case c => k_is); (case k => k_is)
    case t_sByR =>
      refine' L2.tx_mk KX G ?a ?l ?c ?k (fun _ _ _ _ _ _ us hl => match us, hl with | [_, _], _ => rfl)
      (case a => k_is); (case l => k_is); (case c => k_is); (case k => k_is)
    case t_sLaw =>
      refine' L2.tx_mk KX G ?a ?l ?c ?k (fun _ _ _ _ _ _ us hl => match us, hl with | [_], _ => rfl)
      (case a => k_is); (case l => k_is); (case c => k_is); (case k => k_is)

