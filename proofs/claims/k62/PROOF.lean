import PyProof.Rows.All
import Wide.All
import OpenK.AllK
import Wide.FinOn
import Lean
import PyProof.EqAt
import PyProof.EqKinds
import PyProof.TupleCall
import PySem.Challenge.RW_shareparley_k62_whole_swelling_orders_ar
import KE.IntBitsLaws
import OpenK.KEqL
import KE.LcSums
import KE.KTupSum
import PyProof.Rows.EqDataRows
import PyProof.EnumMake
import PyProof.Rows.Range3
import PyProof.Rows.SortShell
import PyProof.Rows.SortWalk
import PyProof.ListRange
import KE.KSortTup
import KE.KDictOf
-- CHANGE: your row's module here, as the last of these rows
set_option Elab.async false
set_option linter.all false
set_option maxRecDepth 100000
namespace L2
open PySem PySem.Spec PyProof.Rows
abbrev Key := Sum Int Str
def keyIs : Key → Value → Bool
  | .inl k, v => Value.isInt k v
  | .inr x, v => Value.isStrOf x v
def keyH (w : World) : Key → Int
  | .inl k => hashInt k
  | .inr x => hashStr w x
theorem keyIs_shape : ∀ {k : Key} {v : Value}, keyIs k v = true → (∃ i t, k = Sum.inl i ∧ v = Value.int i t) ∨ (∃ x t, k = Sum.inr x ∧ v = Value.str x t)
  | .inl i, v, h => by
    obtain ⟨t, e⟩ := Value.isInt_shape (k := i) (v := v) h
    exact .inl ⟨i, t, rfl, e⟩
  | .inr x, v, h => by
    obtain ⟨t, e⟩ := Value.isStrOf_shape (x := x) (v := v) h
    exact .inr ⟨x, t, rfl, e⟩
theorem key_ll (a b : Int) : decide ((Sum.inl a : Key) = Sum.inl b) = (a == b) := by
  by_cases e : a = b
  · subst e; simp
  · have h : ¬ (Sum.inl a : Key) = Sum.inl b := fun q => e (Sum.inl.inj q)
    rw [decide_eq_false h]
    exact (beq_eq_false_iff_ne.mpr e).symm
theorem key_rr (a b : Str) : decide ((Sum.inr a : Key) = Sum.inr b) = decide (a = b) := by
  by_cases e : a = b
  · subst e; simp
  · have h : ¬ (Sum.inr a : Key) = Sum.inr b := fun q => e (Sum.inr.inj q)
    rw [decide_eq_false h, decide_eq_false e]
theorem key_lr (a : Int) (b : Str) : decide ((Sum.inl a : Key) = Sum.inr b) = false := decide_eq_false (fun q => nomatch q)
theorem key_rl (a : Str) (b : Int) : decide ((Sum.inr a : Key) = Sum.inl b) = false := decide_eq_false (fun q => nomatch q)

def mixKind (prog : Program) (w : World) : PySem.KeyKind prog w Key where
  is := keyIs
  hash := keyH w
  inj := fun v a b ha hb => by
    rcases keyIs_shape ha with ⟨i, t, rfl, rfl⟩ | ⟨x, t, rfl, rfl⟩
    · rcases keyIs_shape hb with ⟨j, u, rfl, e⟩ | ⟨y, u, rfl, e⟩
      · injection e with e1 _; rw [e1]
      · exact nomatch e
    · rcases keyIs_shape hb with ⟨j, u, rfl, e⟩ | ⟨y, u, rfl, e⟩
      · exact nomatch e
      · injection e with e1 _; rw [e1]
  byValue := fun k v h => by
    rcases keyIs_shape h with ⟨i, t, rfl, rfl⟩ | ⟨x, t, rfl, rfl⟩ <;> rfl
  pyHash := fun hv h => by
    rcases keyIs_shape hv with ⟨i, t, rfl, rfl⟩ | ⟨x, t, rfl, rfl⟩
    · exact wpAny_pyHash_int h
    · exact wpAny_pyHash_str h
  eqBool := fun hu hv h => by
    rcases keyIs_shape hu with ⟨i, t, rfl, rfl⟩ | ⟨x, t, rfl, rfl⟩
    · rcases keyIs_shape hv with ⟨j, u, rfl, rfl⟩ | ⟨y, u, rfl, rfl⟩
      · rw [key_ll] at h; exact wpAny_eqBool_int h
      · rw [key_lr] at h; exact SeqAt.EqAt.int_str i t y u _ _ _ _ h
    · rcases keyIs_shape hv with ⟨j, u, rfl, rfl⟩ | ⟨y, u, rfl, rfl⟩
      · rw [key_rl] at h; exact SeqAt.EqAt.str_int x t j u _ _ _ _ h
      · rw [key_rr] at h; exact wpAny_eqBool_str h
  «strs» := fun k x t v h => by
    rcases keyIs_shape h with ⟨i, u, rfl, e⟩ | ⟨y, u, rfl, e⟩
    · exact nomatch e
    · injection e with e1 _
      subst e1
      cases v <;> rfl

end L2

namespace L2
open PySem PySem.Spec PyProof.Rows
inductive V where
  | non | bl (b : Bool) | int (i : Int) | str (x : Str) | byt (b : Array UInt8) | flt (b : UInt64) | ref (a : Addr) | ty (n : String)
  deriving DecidableEq

def RelV : V → Value → Prop
  | .non, u => u = Value.none
  | .bl b, u => u = Value.bool b
  | .int i, u => ∃ t, u = Value.int i t
  | .str x, u => ∃ t, u = Value.str x t
  | .byt b, u => ∃ t, u = Value.bytes b t
  | .flt b, u => ∃ t, u = Value.float b t
  | .ref a, u => u = Value.ref a
  | .ty n, u => u = Value.type n

abbrev Vals : List V → List Value → Prop := Paired RelV
theorem Vals.length {xs : List V} {us : List Value} (r : Vals xs us) : xs.length = us.length := Paired.length r
theorem Vals.get : ∀ {xs : List V} {us : List Value} {i : Nat} {x : V}, Vals xs us → xs[i]? = some x → ∃ u, us[i]? = some u ∧ RelV x u
  | _, _, _, _, .nil, e => by simp at e
  | _, _, 0, _, .cons r _, e => by simp at e; subst e; exact ⟨_, rfl, r⟩
  | _, _, i + 1, x, .cons _ t, e => by
    obtain ⟨u, h1, h2⟩ := Vals.get (i := i) (x := x) t (by simpa using e)
    exact ⟨u, by simpa using h1, h2⟩
theorem Vals.set {x : V} {u : Value} (r : RelV x u) : ∀ {xs : List V} {us : List Value} (i : Nat), Vals xs us → Vals (xs.set i x) (us.set i u)
  | _, _, _, .nil => .nil
  | _, _, 0, .cons _ t => .cons r t
  | _, _, i + 1, .cons q t => .cons q (Vals.set r i t)
theorem Vals.append : ∀ {xs ys : List V} {us ws : List Value}, Vals xs us → Vals ys ws → Vals (xs ++ ys) (us ++ ws)
  | _, _, _, _, .nil, s => s
  | _, _, _, _, .cons r t, s => .cons r (Vals.append t s)
theorem Vals.take : ∀ {xs : List V} {us : List Value} (n : Nat), Vals xs us → Vals (xs.take n) (us.take n)
  | _, _, 0, _ => .nil
  | _, _, _ + 1, .nil => .nil
  | _, _, n + 1, .cons r t => .cons r (Vals.take n t)
theorem Vals.drop : ∀ {xs : List V} {us : List Value} (n : Nat), Vals xs us → Vals (xs.drop n) (us.drop n)
  | _, _, 0, r => r
  | _, _, _ + 1, .nil => .nil
  | _, _, n + 1, .cons _ t => Vals.drop n t
def RelO : Option V → Option Value → Prop
  | some v, some u => RelV v u
  | none, none => True
  | _, _ => False
def KV {κ : Type} : List (κ × V) → List (κ × Value) → Prop := Paired fun (p : κ × V) (q : κ × Value) => p.1 = q.1 ∧ RelV p.2 q.2
def kV : Key → V
  | .inl i => .int i
  | .inr x => .str x
inductive HO where
  | lst (xs : List V)
  | tup (xs : List V)
  | dK (kvs : List (Key × V)) | dT (kvs : List (List Key × V))
  | set (S : Int → Bool) (n : Nat)
  | ins (C dx : Addr) (fs : List (Str × V))
  | own (x : Addr)
  | xd (fs : List (Str × V))
  | met (f x : Addr)
  | rng (lo hi : Int)
  | frz (o : Obj) (u : HO)
  | tbl (ps : Array Value)
  | ext (φ : Heap → Prop)

abbrev Hp := Addr → Option HO
def upd (H : Hp) (a : Addr) (o : HO) : Hp := fun b => if b = a then some o else H b
theorem upd_same {H : Hp} {a : Addr} {o : HO} : upd H a o a = some o := by unfold upd; rw [if_pos rfl]
theorem upd_ne {H : Hp} {a b : Addr} {o : HO} (h : b ≠ a) : upd H a o b = H b := by unfold upd; rw [if_neg h]
theorem upd_upd {H : Hp} {a : Addr} {o u : HO} : upd (upd H a o) a u = upd H a u := by
  funext b; unfold upd; split <;> rfl
theorem ne_of {H : Hp} {a b : Addr} {o u : HO} (h : H a = some o) (h' : H b = some u) (d : o ≠ u) : a ≠ b := by
  intro e; subst e; rw [h] at h'; exact d (Option.some.inj h')
theorem ne_of_none {H : Hp} {a b : Addr} {o : HO} (h : H a = some o) (h' : H b = none) : a ≠ b := by
  intro e; subst e; rw [h] at h'; cases h'

section
variable (P : Program) (w : World)
def ObjOk (H : Hp) (h : Heap) (a : Addr) : HO → Prop
  | .lst xs => xs.length ≤ sizeLine ∧ ∃ (its : List Value) (n : Nat), Vals xs its ∧ h.get? a = some { cls := .type "list", data := .seq its.toArray n }
  | .tup xs => xs.length ≤ sizeLine ∧ ∃ its : List Value, Vals xs its ∧ IsTup h a its.toArray
  | .dK kvs => kvs.length ≤ sizeLine ∧ (a == sysModules) = false ∧ ∃ vs, KV kvs vs ∧ h.DictOf (mixKind P w) a vs
  | .dT kvs => kvs.length ≤ sizeLine ∧ (a == sysModules) = false ∧ ∃ xs : List (List Key × Addr × Value),
      Paired (fun (p : List Key × V) (q : List Key × Addr × Value) => p.1 = q.1 ∧ H q.2.1 = some (.tup (p.1.map kV)) ∧ RelV p.2 q.2.2) kvs xs ∧
      ∃ o es ep, h.get? a = some o ∧ o.ExactDict ∧ o.data = .dict es ep ∧ es.toList = xs.map (entryOfKey (tupleKind (mixKind P w))) ∧ (xs.map (·.1)).Nodup
  | .set S n => h.SetOf (intKind P w) a S n
  | .ins C dx fs => H dx = some (.own a) ∧ fs.length ≤ 1000 ∧ dx ≠ a ∧ h.get? a = some (PySem.W.instObj C dx) ∧
      ∃ mA, h.Ns1 dx mA ∧ (∀ f, RelO (fs.lookup f) (mA f)) ∧ PySem.Within mA (fs.map (·.1))
  | .own _ => ∃ o, h.get? a = some o
  | .xd fs => ∃ mA, h.Ns1 a mA ∧ ∀ f, RelO (fs.lookup f) (mA f)
  | .rng lo hi => ∃ t u v, h.get? a = some { cls := .type "range", data := .fields #[.int lo t, .int hi u, .int 1 v] }
  | .frz o u => h.get? a = some o ∧ ObjOk H h a u
  | .tbl ps => h.get? a = some { cls := .none, data := .fields ps }
  | .met f x => h.get? a = some (PySem.W.methodObj (.ref f) (.ref x))
  | .ext φ => φ h ∧ (∃ o, h.get? a = some o) ∧ ∀ h1 h2 : Heap, φ h1 → (∀ o, h1.get? a = some o → h2.get? a = some o) → φ h2
def HOk (H : Hp) (h : Heap) : Prop := ∀ a o, H a = some o → ObjOk P w H h a o
end

section
variable {P : Program} {w : World} {H H' : Hp} {h h' : Heap} {a : Addr} {o : HO}
theorem ObjOk.lt (x : ObjOk P w H h a o) : a < h.objs.size := by
  cases o with
  | lst xs => obtain ⟨_, _, _, _, e⟩ := x; exact Heap.lt_size e
  | tup xs => obtain ⟨_, _, _, p⟩ := x; exact p.lt
  | dK kvs => obtain ⟨_, _, _, _, o, _, _, e, _⟩ := x; exact Heap.lt_size e
  | dT kvs => obtain ⟨_, _, _, _, o, _, _, e, _⟩ := x; exact Heap.lt_size e
  | set S n => obtain ⟨o, _, _, _, e, _⟩ := x; exact Heap.lt_size e
  | ins C dx fs => obtain ⟨_, _, _, e, _⟩ := x; exact Heap.lt_size e
  | own y => obtain ⟨_, e⟩ := x; exact Heap.lt_size e
  | xd fs => obtain ⟨_, ⟨_, _, _, e, _⟩, _⟩ := x; exact Heap.lt_size e
  | rng lo hi => obtain ⟨_, _, _, e⟩ := x; exact Heap.lt_size e
  | frz ob u => obtain ⟨e, _⟩ := x; exact Heap.lt_size e
  | tbl ps => exact Heap.lt_size (show h.get? a = some _ from x)
  | met f y => exact Heap.lt_size (show h.get? a = some _ from x)
  | ext φ => obtain ⟨_, ⟨_, e⟩, _⟩ := x; exact Heap.lt_size e
theorem Paired.mapP {α β : Type} {F G : α → β → Prop} : ∀ {l₁ : List α} {l₂ : List β}, Paired F l₁ l₂ → (∀ a b, F a b → G a b) → Paired G l₁ l₂
  | _, _, .nil, _ => .nil
  | _, _, .cons r t, f => .cons (f _ _ r) (Paired.mapP t f)
theorem ObjOk.stay (x : ObjOk P w H h a o) (k : ∀ b u, (b = a ∨ H b = some (.own a)) → h.get? b = some u → h'.get? b = some u)
    (ho : ∀ b, H b = some (.own a) → H' b = some (.own a)) (ht : ∀ b xs, H b = some (.tup xs) → H' b = some (.tup xs)) : ObjOk P w H' h' a o := by
  induction o with
  | lst xs => obtain ⟨z, its, n, r, e⟩ := x; exact ⟨z, its, n, r, k _ _ (.inl rfl) e⟩
  | tup xs => obtain ⟨z, its, r, ob, e, c⟩ := x; exact ⟨z, its, r, ob, k _ _ (.inl rfl) e, c⟩
  | dK kvs => obtain ⟨z, y, vs, r, ob, es, ep, e, c⟩ := x; exact ⟨z, y, vs, r, ob, es, ep, k _ _ (.inl rfl) e, c⟩
  | dT kvs =>
    obtain ⟨z, y, xs, r, ob, es, ep, e, c⟩ := x
    exact ⟨z, y, xs, Paired.mapP r fun p q z => ⟨z.1, ht _ _ z.2.1, z.2.2⟩, ob, es, ep, k _ _ (.inl rfl) e, c⟩
  | set S n => obtain ⟨ob, es, ep, t, e, c⟩ := x; exact ⟨ob, es, ep, t, k _ _ (.inl rfl) e, c⟩
  | ins C dx fs =>
    obtain ⟨d, z, ne, e, mA, ⟨od, es, ep, e2, c⟩, r⟩ := x
    exact ⟨ho _ d, z, ne, k _ _ (.inl rfl) e, mA, ⟨od, es, ep, k _ _ (.inr d) e2, c⟩, r⟩
  | own y => obtain ⟨ob, e⟩ := x; exact ⟨ob, k _ _ (.inl rfl) e⟩
  | xd fs => obtain ⟨mA, ⟨od, es, ep, e, c⟩, r⟩ := x; exact ⟨mA, ⟨od, es, ep, k _ _ (.inl rfl) e, c⟩, r⟩
  | rng lo hi => obtain ⟨t, u, v, e⟩ := x; exact ⟨t, u, v, k _ _ (.inl rfl) e⟩
  | frz ob u ih => obtain ⟨e, q⟩ := x; exact ⟨k _ _ (.inl rfl) e, ih q⟩
  | tbl ps =>
    have e : h.get? a = some { cls := .none, data := .fields ps } := x
    show h'.get? a = some { cls := .none, data := .fields ps }
    exact k a _ (.inl rfl) e
  | met f y =>
    have e : h.get? a = some (PySem.W.methodObj (.ref f) (.ref y)) := x
    show h'.get? a = some (PySem.W.methodObj (.ref f) (.ref y))
    exact k a _ (.inl rfl) e
  | ext φ => obtain ⟨p, ⟨o, e⟩, st⟩ := x; exact ⟨st _ _ p fun o q => k _ _ (.inl rfl) q, ⟨o, k _ _ (.inl rfl) e⟩, st⟩
theorem HOk.lt (x : HOk P w H h) (e : H a = some o) : a < h.objs.size := (x a o e).lt
theorem HOk.fresh (x : HOk P w H h) (e : h.objs.size ≤ a) : H a = none := by
  cases q : H a with
  | none => rfl
  | some u => exact absurd (Nat.lt_of_lt_of_le (x.lt q) e) (Nat.lt_irrefl _)
theorem HOk.kept (x : HOk P w H h) (k : ∀ b u, h.get? b = some u → h'.get? b = some u) : HOk P w H h' := fun a o e =>
  (x a o e).stay (fun b u _ q => k b u q) (fun _ q => q) fun _ _ q => q
theorem HOk.laid (x : HOk P w H h) (k : ∀ b u, h.get? b = some u → h'.get? b = some u) (hp : h.objs.size ≤ a) (new : ObjOk P w (upd H a o) h' a o) : HOk P w (upd H a o) h' := fun b u e => by
  have hn := x.fresh hp
  by_cases hb : b = a
  · subst hb; rw [upd_same] at e; cases e; exact new
  · rw [upd_ne hb] at e
    exact (x b u e).stay (fun c v _ q => k c v q) (fun c q => by rw [upd_ne (ne_of_none q hn)]; exact q) fun c xs q => by rw [upd_ne (ne_of_none q hn)]; exact q
end
def Rd (H : Hp) (a : Addr) (u : HO) : Prop := H a = some u ∨ ∃ o, H a = some (.frz o u)
theorem Rd.ok {P : Program} {w : World} {H : Hp} {h : Heap} {a : Addr} {u : HO} (r : Rd H a u) (x : HOk P w H h) : ObjOk P w H h a u := by
  rcases r with r | ⟨o, r⟩
  · exact x a u r
  · obtain ⟨_, q⟩ := x a _ r
    exact q
def Mut : Option HO → Prop
  | some (.lst _) => True
  | some (.dK _) => True
  | some (.dT _) => True
  | some (.set _ _) => True
  | some (.ins _ _ _) => True
  | some (.ext _) => True
  | _ => False
section
variable {P : Program} {w : World} {H : Hp} {h h' : Heap} {x e : Addr} {o' : HO}
theorem HOk.write (ok : HOk P w H h) (mu : Mut (H x)) (he : e = x ∨ H e = some (.own x)) (k : ∀ b u, b ≠ e → h.get? b = some u → h'.get? b = some u) (heo : ∃ u, h'.get? e = some u)
    (new : ObjOk P w (upd H x o') h' x o') : HOk P w (upd H x o') h' := fun b u q => by
  have nown : ∀ c y, H c = some (.own y) → c ≠ x := fun c y r z => by subst z; rw [r] at mu; exact mu
  have ntup : ∀ c xs, H c = some (.tup xs) → c ≠ x := fun c xs r z => by subst z; rw [r] at mu; exact mu
  by_cases hb : b = x
  · subst hb; rw [upd_same] at q; cases q; exact new
  · rw [upd_ne hb] at q
    by_cases hbe : b = e
    · have q' : H b = some (.own x) := by
        rcases he with z | z
        · exact absurd (hbe.trans z) hb
        · rw [hbe]; exact z
      rw [q] at q'; cases q'
      obtain ⟨v, hv⟩ := heo
      exact ⟨v, by rw [hbe]; exact hv⟩
    · refine (ok b u q).stay (fun c v hc r => k c v ?_ r) (fun c r => by rw [upd_ne (nown c b r)]; exact r) fun c xs r => by rw [upd_ne (ntup c xs r)]; exact r
      rcases hc with rfl | hc
      · exact hbe
      · rintro rfl
        rcases he with z | z
        · exact nown c b hc z
        · rw [hc] at z; cases z; exact hb rfl
end
structure Un (fs ex : List Addr) (H H' : Hp) (h h' : Heap) : Prop where
  keep : ∀ b o, h.get? b = some o → H b = none → b ∉ fs → b ∉ ex → h'.get? b = some o
  slot : ∀ b o, h.get? b = some o → H b = none → b ∈ fs → b ∉ ex → ∃ sl, h'.get? b = some { o with slots := sl }
  free : ∀ b o, h.get? b = some o → H b = none → b ∉ ex → H' b = none
  there : ∀ b o, h.get? b = some o → b ∉ ex → ∃ o', h'.get? b = some o'
  tups : ∀ b xs, H b = some (.tup xs) → H' b = some (.tup xs)
  frzs : ∀ b o u, H b = some (.frz o u) → H' b = some (.frz o u)
  tbls : ∀ b ps, H b = some (.tbl ps) → ∃ more, H' b = some (.tbl (ps ++ more))
section
variable {fs fs' ex ex' : List Addr} {H H1 H2 : Hp} {h h1 h2 h' : Heap} {a x e : Addr} {o : HO}
theorem Un.any (u : Un fs ex H H1 h h1) {b : Addr} {ob : Obj} (q : h.get? b = some ob) (n : H b = none) (hx : b ∉ ex) : ∃ sl, h1.get? b = some { ob with slots := sl } := by
  by_cases hb : b ∈ fs
  · exact u.slot b ob q n hb hx
  · exact ⟨ob.slots, u.keep b ob q n hb hx⟩
theorem Un.kept (k : ∀ b u, h.get? b = some u → h'.get? b = some u) : Un fs ex H H h h' :=
  ⟨fun b ob q _ _ _ => k b ob q, fun b ob q _ _ _ => ⟨ob.slots, k b ob q⟩, fun _ _ _ n _ => n, fun b ob q _ => ⟨ob, k b ob q⟩, fun _ _ q => q, fun _ _ _ q => q, fun _ ps q => ⟨#[], by rw [q]; simp⟩⟩
theorem Un.refl : Un fs ex H H h h := Un.kept fun _ _ q => q
theorem Un.laid (k : ∀ b u, h.get? b = some u → h'.get? b = some u) (hp : h.objs.size ≤ a) (hn : H a = none) : Un fs ex H (upd H a o) h h' where
  keep := fun b u q _ _ _ => k b u q
  slot := fun b u q _ _ _ => ⟨u.slots, k b u q⟩
  free := fun b u q n _ => by rw [upd_ne (Nat.ne_of_lt (Nat.lt_of_lt_of_le (Heap.lt_size q) hp))]; exact n
  there := fun b u q _ => ⟨u, k b u q⟩
  tups := fun b xs q => by rw [upd_ne (ne_of_none q hn)]; exact q
  frzs := fun b u xs q => by rw [upd_ne (ne_of_none q hn)]; exact q
  tbls := fun b ps q => ⟨#[], by rw [upd_ne (ne_of_none q hn), q]; simp⟩
theorem Un.write (mu : Mut (H x)) (he : e = x ∨ H e = some (.own x)) (k : ∀ b u, b ≠ e → h.get? b = some u → h'.get? b = some u) (heo : ∃ u, h'.get? e = some u) : Un fs ex H (upd H x o) h h' := by
  have hx : ∀ b, H b = none → b ≠ x := fun b n z => by subst z; rw [n] at mu; exact mu
  have hb : ∀ b, H b = none → b ≠ e := fun b n z => by
    subst z
    rcases he with r | r
    · exact hx b n r
    · rw [n] at r; cases r
  have hm : ∀ b u, H b = some u → ¬ Mut (some u) → b ≠ x := fun b u q nm z => by subst z; rw [q] at mu; exact nm mu
  refine ⟨fun b u q n _ _ => k b u (hb b n) q, fun b u q n _ _ => ⟨u.slots, k b u (hb b n) q⟩, fun b u q n _ => by rw [upd_ne (hx b n)]; exact n, fun b u q _ => ?_,
    fun b xs q => by rw [upd_ne (hm b _ q fun z => z)]; exact q, fun b u xs q => by rw [upd_ne (hm b _ q fun z => z)]; exact q, fun b ps q => ⟨#[], by rw [upd_ne (hm b _ q fun z => z), q]; simp⟩⟩
  by_cases hbe : b = e
  · subst hbe; exact heo
  · exact ⟨u, k b u hbe q⟩
end
def trk (h : Heap) (H : Hp) : List Addr := (List.range h.objs.size).filter fun a => (H a).isSome
def hidT (h : Heap) (H : Hp) : Heap := PySem.W.hideAll h (trk h H)
theorem hidT_size (h : Heap) (H : Hp) : (hidT h H).objs.size = h.objs.size := PySem.W.hideAll_size _ _
theorem hidT_get {h : Heap} {H : Hp} {b : Addr} {o : Obj} (e : h.get? b = some o) (n : H b = none) : (hidT h H).get? b = some o :=
  PySem.W.hideAll_get _ e fun hm => by
    have q : (H b).isSome = true := (List.mem_filter.mp hm).2
    rw [n] at q; simp at q
theorem of_hidT {h : Heap} {H : Hp} {b : Addr} {o : Obj} (e : (hidT h H).get? b = some o) : h.get? b = some o ∧ H b = none := by
  have e' : h.get? b = some o := PySem.W.of_hideAll (trk h H) e
  refine ⟨e', ?_⟩
  cases q : H b with
  | none => rfl
  | some x =>
    have hm : b ∈ trk h H := List.mem_filter.mpr ⟨List.mem_range.mpr (Heap.lt_size e'), by simp [q]⟩
    have z : (hidT h H).get? b = none := PySem.W.hideAll_none (trk h H) hm
    rw [z] at e; cases e
def allNews (g h : Heap) (L : Addr) : List (Addr × Obj) := (List.range h.objs.size).filterMap fun a => if a = L ∨ (g.get? a).isSome = true then none else (h.get? a).map fun o => (a, o)
def rest (g h : Heap) (L d : Addr) : List (Addr × Obj) := (allNews g h L).filter fun p => decide (p.1 ≠ d)
end L2

namespace L2
open PySem PySem.Spec PyProof.Rows
structure Mod (K : PySem.W.Frag) (mg : Str → Option Value) (base : Heap) : Prop where
  kin : K.In base
  glob : base.Ns mainGlobals mg
  blt : ∃ mb, base.Ns builtinsNs mb ∧ ∀ x : Str, x ≠ "__name__" → mb x = bootBuiltins x
  nolimit : base.NoLimit

/-- the context: a def's body (or a comprehension's block) running. base: fixed through the whole law; s₀, H₀: the entry; outer: the frames whose slots others may change (a def's callers); stack: all frames that run;
   ex: iterators that were made ahead of the entry and are walked here (a comprehension's); fn: the names whose cells were made at the entry (a def: all; a comprehension's block: its own); calm: not within an except suite; pn: pins that every state bears; xe: what is wanted of an exception that leaves the code -/
structure Cx where
  prog : Program
  w : World
  K : PySem.W.Frag
  mg : Str → Option Value
  base : Heap
  A : Around
  N : List Str
  s₀ : Shared
  H₀ : Hp
  env : Env
  outer : List Env
  stack : List Env
  ex : List Addr
  fn : Str → Bool
  calm : Bool
  pn : List (Addr × Obj)
  xe : Value → Shared → Prop
def frs (l : List Env) : List Addr := l.filterMap (·.frame)
abbrev Cx.fs (X : Cx) : List Addr := frs X.outer

def Vis (sc : Scope) (x : Str) : Prop := sc.names.lookup x = some .local ∨ sc.names.lookup x = some .cell ∨ sc.names.lookup x = some .free
def Loc (sc : Scope) (x : Str) : Prop := sc.names.lookup x = some .local ∨ sc.names.lookup x = some .cell
def Look (env : Env) (h : Heap) (m : Str → Option Value) (x : Str) (u : Value) : Prop :=
  (env.kindOf x = some .local ∧ m x = some u) ∨ ((env.kindOf x = some .cell ∨ env.kindOf x = some .free) ∧ ∃ c, env.cells.lookup x = some c ∧ h.IsCell c (some u))

structure Cx.Ok (X : Cx) : Prop where
  mod : Mod X.K X.mg X.base
  kind : X.env.scope.kind = .function
  glob : X.env.globals = mainGlobals
  blt : X.env.builtins = builtinsNs
  above : X.s₀.heap.objs.size ≤ X.env.locals
  inj : ∀ x y c, X.env.cells.lookup x = some c → X.env.cells.lookup y = some c → x = y
  has : ∀ x, (X.env.kindOf x = some .cell ∨ X.env.kindOf x = some .free) → ∃ c, X.env.cells.lookup x = some c
  cab : ∀ x c, X.fn x = true → X.env.cells.lookup x = some c → X.s₀.heap.objs.size ≤ c
  hd : X.calm = true → X.A.handled = none
  frames : X.A.frames = some X.stack
  stk : X.stack = X.outer ∨ (X.stack = X.env :: X.outer ∧ X.env.frame = some X.env.locals)
  exf : ∀ b ∈ X.ex, b ≠ X.env.locals ∧ ∀ x c, X.env.cells.lookup x = some c → c ≠ b
  bs : ∀ b o, X.base.get? b = some o → X.s₀.heap.get? b = some o ∧ X.H₀ b = none
  bsz : X.base.objs.size ≤ X.s₀.heap.objs.size
  noex : ∀ b o, X.base.get? b = some o → b ∉ X.ex
  exfs : ∀ b ∈ X.ex, b ∉ X.fs
  funs : X.s₀.heap.FunFrames X.base X.outer
  frf : ∀ b ∈ X.fs, X.H₀ b = none

structure Inv (X : Cx) (pins : List (Addr × Obj)) (σ : List (Option V)) (H : Hp) (s : Shared) : Prop where
  ok : X.Ok
  os : s.os = X.s₀.os
  bare : AllBare s.gens
  base : Un X.fs X.ex X.H₀ H X.s₀.heap s.heap
  loc : ∃ m, s.heap.Ns X.env.locals m ∧ ∀ (i : Nat) (x : Str) (v : V), X.N[i]? = some x → σ[i]? = some (some v) → Vis X.env.scope x → ∃ u, RelV v u ∧ Look X.env s.heap m x u
  cell : ∀ x c, X.env.cells.lookup x = some c → ∃ v, s.heap.IsCell c v
  free : H X.env.locals = none
  freeC : ∀ x c, X.env.cells.lookup x = some c → H c = none
  pin : ∀ p ∈ X.pn ++ pins, s.heap.get? p.1 = some p.2 ∧ H p.1 = none ∧ p.1 ≠ X.env.locals ∧ p.1 ∉ X.fs ∧ ∀ v, p.2.data ≠ .cell v
  hok : HOk X.prog X.w H s.heap
  len : σ.length = X.N.length

section
variable {X : Cx} {pins : List (Addr × Obj)} {σ : List (Option V)} {H H' : Hp} {s : Shared} {h' : Heap}

theorem Cx.Ok.nofr (ok : X.Ok) {b : Addr} {o : Obj} (e : X.base.get? b = some o) : b ∉ X.fs := fun hb => by
  have := (ok.funs.mem hb).1
  rw [e] at this; cases this
theorem Inv.bs (I : Inv X pins σ H s) : ∀ b o, X.base.get? b = some o → s.heap.get? b = some o ∧ H b = none := fun b o e =>
  ⟨I.base.keep b o (I.ok.bs b o e).1 (I.ok.bs b o e).2 (I.ok.nofr e) (I.ok.noex b o e), I.base.free b o (I.ok.bs b o e).1 (I.ok.bs b o e).2 (I.ok.noex b o e)⟩
theorem Inv.bk (I : Inv X pins σ H s) : ∀ b o, X.base.get? b = some o → s.heap.get? b = some o := fun b o e => (I.bs b o e).1
theorem Inv.mod (I : Inv X pins σ H s) : Mod X.K X.mg X.base := I.ok.mod
theorem Inv.kIn (I : Inv X pins σ H s) : X.K.In s.heap := I.ok.mod.kin.keeps I.bk
theorem Inv.lt (I : Inv X pins σ H s) : X.env.locals < s.heap.objs.size := let ⟨_, hn, _⟩ := I.loc; hn.lt
theorem Inv.sz (I : Inv X pins σ H s) : X.s₀.heap.objs.size ≤ s.heap.objs.size := Nat.le_trans I.ok.above (Nat.le_of_lt I.lt)
theorem Inv.nofs (I : Inv X pins σ H s) {a : Addr} (h : s.heap.objs.size ≤ a) : a ∉ X.fs := fun hb => by
  obtain ⟨_, o, ho, _⟩ := I.ok.funs.mem hb
  exact absurd (Nat.lt_of_lt_of_le (Heap.lt_size ho) (Nat.le_trans I.sz h)) (Nat.lt_irrefl _)
theorem Inv.cne (I : Inv X pins σ H s) : ∀ x c, X.env.cells.lookup x = some c → c ≠ X.env.locals := fun x c e z => by
  obtain ⟨v, o, ho, hd⟩ := I.cell x c e
  obtain ⟨m, ⟨o', es, ep, ho', hd', _⟩, _⟩ := I.loc
  rw [z, ho'] at ho; cases ho; rw [hd'] at hd; cases hd
theorem Inv.funs (I : Inv X pins σ H s) : s.heap.FunFrames X.base X.outer := by
  have all : ∀ (l : List Env), (∀ b ∈ frs l, b ∈ X.fs) → X.s₀.heap.FunFrames X.base l → s.heap.FunFrames X.base l := by
    intro l
    induction l with
    | nil => intro _ _; trivial
    | cons env r ih =>
      intro hs hl
      obtain ⟨hk, ⟨L, o, hf, hn, ho, hd⟩, hr⟩ := hl
      have hL : L ∈ X.fs := hs L (by unfold frs; rw [List.filterMap_cons, hf]; exact List.mem_cons_self)
      obtain ⟨sl, e⟩ := I.base.slot L o ho (I.ok.frf L hL) hL fun z => I.ok.exfs L z hL
      exact ⟨hk, ⟨L, _, hf, hn, e, hd⟩, ih (fun b hb => hs b (by unfold frs; rw [List.filterMap_cons, hf]; exact List.mem_cons_of_mem _ hb)) hr⟩
  exact all X.outer (fun _ hb => hb) I.ok.funs
theorem Inv.stack (I : Inv X pins σ H s) : s.heap.FunFrames X.base X.stack := by
  rcases I.ok.stk with e | ⟨e, hf⟩
  · rw [e]; exact I.funs
  · rw [e]
    obtain ⟨m, hn, _⟩ := I.loc
    refine .cons (by rw [I.ok.kind]; decide) hf hn ?_ I.funs
    exact Heap.get?_none_of_le (Nat.le_trans I.ok.bsz I.ok.above)
theorem Inv.stkSub (I : Inv X pins σ H s) : ∀ b ∈ frs X.stack, b ∈ X.env.locals :: X.fs := fun b hb => by
  rcases I.ok.stk with e | ⟨e, hf⟩
  · rw [e] at hb; exact List.mem_cons_of_mem _ hb
  · rw [e] at hb
    unfold frs at hb
    rw [List.filterMap_cons, hf] at hb
    exact hb
theorem Inv.stkFree (I : Inv X pins σ H s) : ∀ b ∈ frs X.stack, H b = none := fun b hb => by
  rcases List.mem_cons.mp (I.stkSub b hb) with e | hb
  · rw [e]; exact I.free
  · obtain ⟨_, o, ho, _⟩ := I.ok.funs.mem hb
    exact I.base.free b o ho (I.ok.frf b hb) fun z => I.ok.exfs b z hb
theorem Inv.step {g' : Array GenState} {t' : Nat} {d' : Drawn} {ch : List Addr} (I : Inv X pins σ H s)
    (hch : ∀ b ∈ ch, (b ∈ X.ex ∨ X.s₀.heap.objs.size ≤ b) ∧ b ≠ X.env.locals ∧ (∀ x c, X.env.cells.lookup x = some c → c ≠ b) ∧ ∀ p ∈ X.pn ++ pins, p.1 ≠ b)
    (keep : ∀ b o, b ≠ X.env.locals → b ∉ X.fs → b ∉ ch → s.heap.get? b = some o → H b = none → h'.get? b = some o)
    (slot : ∀ b o, b ≠ X.env.locals → b ∈ X.fs → b ∉ ch → s.heap.get? b = some o → H b = none → ∃ sl, h'.get? b = some { o with slots := sl }) (free : ∀ b o, b ∉ ch → s.heap.get? b = some o → H b = none → H' b = none)
    (there : ∀ b o, b ∉ ch → s.heap.get? b = some o → ∃ o', h'.get? b = some o')
    (tups : ∀ b xs, H b = some (.tup xs) → H' b = some (.tup xs)) (frzs : ∀ b o u, H b = some (.frz o u) → H' b = some (.frz o u)) (tbls : ∀ b ps, H b = some (.tbl ps) → ∃ more, H' b = some (.tbl (ps ++ more)))
    (ns : ∀ m, s.heap.Ns X.env.locals m → h'.Ns X.env.locals m) (hok : HOk X.prog X.w H' h') (hg : AllBare g') :
    Inv X pins σ H' { s with heap := h', gens := g', drawn := d', toks := t' } := by
  have neL : ∀ b o, X.s₀.heap.get? b = some o → b ≠ X.env.locals := fun b o e => Nat.ne_of_lt (Nat.lt_of_lt_of_le (Heap.lt_size e) I.ok.above)
  have neC : ∀ b o, X.s₀.heap.get? b = some o → b ∉ X.ex → b ∉ ch := fun b o e hx hb => by
    rcases (hch b hb).1 with z | z
    · exact hx z
    · exact absurd (Nat.lt_of_lt_of_le (Heap.lt_size e) z) (Nat.lt_irrefl _)
  have cellK : ∀ x c, X.env.cells.lookup x = some c → ∀ v, s.heap.IsCell c v → h'.IsCell c v := fun x c e v ⟨o, ho, hd⟩ => by
    have nch : c ∉ ch := fun z => (hch c z).2.2.1 x c e rfl
    by_cases hc : c ∈ X.fs
    · obtain ⟨sl, q⟩ := slot c o (I.cne x c e) hc nch ho (I.freeC x c e)
      exact ⟨_, q, hd⟩
    · exact ⟨o, keep c o (I.cne x c e) hc nch ho (I.freeC x c e), hd⟩
  refine ⟨I.ok, I.os, hg, ⟨fun b o e n hb hx => ?_, fun b o e n hb hx => ?_, fun b o e n hx => ?_, fun b o e hx => ?_, fun b xs e => tups b xs (I.base.tups b xs e), fun b o xs e => frzs b o xs (I.base.frzs b o xs e), fun b ps e => ?_⟩, ?_, fun x c e => ?_, ?_, fun x c e => ?_, fun p hp => ?_, hok, I.len⟩
  · exact keep b o (neL b o e) hb (neC b o e hx) (I.base.keep b o e n hb hx) (I.base.free b o e n hx)
  · obtain ⟨sl, e1⟩ := I.base.slot b o e n hb hx
    obtain ⟨sl', e2⟩ := slot b _ (neL b o e) hb (neC b o e hx) e1 (I.base.free b o e n hx)
    exact ⟨sl', e2⟩
  · obtain ⟨o', e1⟩ := I.base.there b o e hx
    exact free b o' (neC b o e hx) e1 (I.base.free b o e n hx)
  · obtain ⟨o', e1⟩ := I.base.there b o e hx
    exact there b o' (neC b o e hx) e1
  · obtain ⟨m1, e1⟩ := I.base.tbls b ps e
    obtain ⟨m2, e2⟩ := tbls b _ e1
    exact ⟨m1 ++ m2, by rw [e2, Array.append_assoc]⟩
  · obtain ⟨m, hn, hl⟩ := I.loc
    refine ⟨m, ns m hn, fun i x v e1 e2 e3 => ?_⟩
    obtain ⟨u, r, l⟩ := hl i x v e1 e2 e3
    refine ⟨u, r, ?_⟩
    rcases l with l | ⟨k, c, e, z⟩
    · exact .inl l
    · exact .inr ⟨k, c, e, cellK x c e _ z⟩
  · obtain ⟨v, z⟩ := I.cell x c e
    exact ⟨v, cellK x c e v z⟩
  · obtain ⟨m, ⟨o, _, _, ho, _⟩, _⟩ := I.loc
    exact free _ o (fun z => (hch _ z).2.1 rfl) ho I.free
  · obtain ⟨v, o, ho, hd⟩ := I.cell x c e
    exact free c o (fun z => (hch c z).2.2.1 x c e rfl) ho (I.freeC x c e)
  · obtain ⟨e, n, ne, nf, d⟩ := I.pin p hp
    have nch : p.1 ∉ ch := fun z => (hch p.1 z).2.2.2 p hp rfl
    exact ⟨keep p.1 p.2 ne nf nch e n, free p.1 p.2 nch e n, ne, nf, d⟩
theorem Inv.un {t' : Nat} (I : Inv X pins σ H s) (u : Un X.fs [] H H' s.heap h') (hok : HOk X.prog X.w H' h') : Inv X pins σ H' { s with heap := h', toks := t' } := by
  obtain ⟨m, ⟨o, es, ep, ho, r⟩, _⟩ := id I.loc
  obtain ⟨sl, hL⟩ := u.any ho I.free (by simp)
  exact I.step (g' := s.gens) (d' := s.drawn) (ch := []) (fun _ z => nomatch z) (fun b o _ hb _ e n => u.keep b o e n hb (by simp)) (fun b o _ hb _ e n => u.slot b o e n hb (by simp)) (fun b o _ e n => u.free b o e n (by simp)) (fun b o _ e => u.there b o e (by simp)) u.tups u.frzs u.tbls (fun m' hm => by
    obtain ⟨o', es', ep', ho', r'⟩ := hm
    rw [ho] at ho'; cases ho'
    exact ⟨_, es', ep', hL, r'⟩) hok I.bare
theorem Inv.call {g' : Array GenState} {t' : Nat} {d' : Drawn} {ch : List Addr} (I : Inv X pins σ H s) (u : Un (frs X.stack) ch H H' s.heap h') (hok : HOk X.prog X.w H' h') (hg : AllBare g')
    (hch : ∀ b ∈ ch, (b ∈ X.ex ∨ X.s₀.heap.objs.size ≤ b) ∧ b ≠ X.env.locals ∧ (∀ x c, X.env.cells.lookup x = some c → c ≠ b) ∧ ∀ p ∈ X.pn ++ pins, p.1 ≠ b) :
    Inv X pins σ H' { s with heap := h', gens := g', drawn := d', toks := t' } := by
  obtain ⟨m, ⟨o, es, ep, ho, r⟩, _⟩ := id I.loc
  obtain ⟨sl, hL⟩ := u.any ho I.free fun z => (hch _ z).2.1 rfl
  exact I.step (ch := ch) hch (fun b o hL hb hc e n => u.keep b o e n (fun z => (List.mem_cons.mp (I.stkSub b z)).elim hL hb) hc) (fun b o _ _ hc e n => u.any e n hc) (fun b o hc e n => u.free b o e n hc) (fun b o hc e => u.there b o e hc) u.tups u.frzs u.tbls (fun m' hm => by
    obtain ⟨o', es', ep', ho', r'⟩ := hm
    rw [ho] at ho'; cases ho'
    exact ⟨_, es', ep', hL, r'⟩) hok hg
theorem Inv.turned {t' : Nat} {it : Addr} (I : Inv X pins σ H s) (k : ∀ b o, b ≠ it → s.heap.get? b = some o → h'.get? b = some o) (hn : H it = none) (hL : it ≠ X.env.locals)
    (h1 : it ∈ X.ex ∨ X.s₀.heap.objs.size ≤ it) (h2 : ∀ x c, X.env.cells.lookup x = some c → c ≠ it) (h3 : ∀ p ∈ X.pn ++ pins, p.1 ≠ it) : Inv X pins σ H { s with heap := h', toks := t' } := by
  have nit : ∀ b u, H b = some u → b ≠ it := fun b u e z => by rw [z, hn] at e; cases e
  refine I.step (g' := s.gens) (d' := s.drawn) (ch := [it]) (fun b hb => ?_) (fun b o _ _ hc e _ => k b o (fun z => hc (by simp [z])) e) (fun b o _ _ hc e _ => ⟨o.slots, k b o (fun z => hc (by simp [z])) e⟩) (fun _ _ _ _ n => n)
    (fun b o hc e => ⟨o, k b o (fun z => hc (by simp [z])) e⟩) (fun _ _ e => e) (fun _ _ _ e => e) (fun b ps e => ⟨#[], by rw [e]; simp⟩) (fun m hm => ?_) (fun b u e => ?_) I.bare
  · have e : b = it := by simpa using hb
    subst e
    exact ⟨h1, hL, h2, h3⟩
  · obtain ⟨o, es, ep, ho, r⟩ := hm
    exact ⟨o, es, ep, k _ o (Ne.symm hL) ho, r⟩
  · refine (I.hok b u e).stay (fun c v hc q => k c v ?_ q) (fun _ q => q) fun _ _ q => q
    rcases hc with z | z
    · rw [z]; exact nit b u e
    · exact nit c _ z
theorem Inv.tok (I : Inv X pins σ H s) (t : Nat) : Inv X pins σ H { s with toks := t } := I.un (h' := s.heap) (t' := t) Un.refl I.hok
theorem Inv.kept {t' : Nat} (I : Inv X pins σ H s) (k : ∀ b u, s.heap.get? b = some u → h'.get? b = some u) : Inv X pins σ H { s with heap := h', toks := t' } := I.un (Un.kept k) (I.hok.kept k)
theorem Inv.laid {a : Addr} {o : HO} {t' : Nat} (I : Inv X pins σ H s) (k : ∀ b u, s.heap.get? b = some u → h'.get? b = some u) (hp : s.heap.objs.size ≤ a) (new : ObjOk X.prog X.w (upd H a o) h' a o) :
    Inv X pins σ (upd H a o) { s with heap := h', toks := t' } := I.un (Un.laid k hp (I.hok.fresh hp)) (I.hok.laid k hp new)
theorem Inv.write {x e : Addr} {o : HO} {t' : Nat} (I : Inv X pins σ H s) (mu : Mut (H x)) (he : e = x ∨ H e = some (.own x)) (k : ∀ b u, b ≠ e → s.heap.get? b = some u → h'.get? b = some u) (heo : ∃ u, h'.get? e = some u)
    (new : ObjOk X.prog X.w (upd H x o) h' x o) : Inv X pins σ (upd H x o) { s with heap := h', toks := t' } := I.un (Un.write mu he k heo) (I.hok.write mu he k heo new)
theorem Inv.pins_of {pins' : List (Addr × Obj)} (I : Inv X pins σ H s) (h : ∀ p ∈ pins', s.heap.get? p.1 = some p.2 ∧ H p.1 = none ∧ p.1 ≠ X.env.locals ∧ p.1 ∉ X.fs ∧ ∀ v, p.2.data ≠ .cell v) : Inv X pins' σ H s :=
  ⟨I.ok, I.os, I.bare, I.base, I.loc, I.cell, I.free, I.freeC, fun p hp => (List.mem_append.mp hp).elim (fun z => I.pin p (List.mem_append_left _ z)) (h p), I.hok, I.len⟩

theorem nodup_ix {N : List Str} (hN : N.Nodup) {i j : Nat} {x : Str} (a : N[i]? = some x) (b : N[j]? = some x) : i = j := by
  obtain ⟨h1, e1⟩ := List.getElem?_eq_some_iff.mp a
  obtain ⟨h2, e2⟩ := List.getElem?_eq_some_iff.mp b
  exact (List.getElem_inj hN).mp (e1.trans e2.symm)
theorem store_ok2 {M : Model} {A : Around} {E : Value → Shared → Prop} {i : Nat} {x : Str} {v : V} {u : Value} {Q : Unit → Shared → Prop} (I : Inv X pins σ H s) (hN : X.N.Nodup) (hi : X.N[i]? = some x) (hx : Loc X.env.scope x) (r : RelV v u)
    (h : ∀ s', Inv X pins (σ.set i (some v)) H s' → (∃ a, Heap.SameBut a s.heap s'.heap ∧ (a = X.env.locals ∨ X.env.cells.lookup x = some a)) → Q () s') (hf : X.fn x = true ∨ X.env.scope.names.lookup x = some .local := by first | exact .inl rfl | exact .inr rfl | assumption) : wpAny M A (storeName X.env x u) Q E s := by
  obtain ⟨m, hn, hl⟩ := id I.loc
  have hcls : (X.env.scope.kind == .class || (X.env.scope.kind == .module && X.env.locals != X.env.globals)) = false := by rw [I.ok.kind]; rfl
  have hiσ : i < σ.length := by rw [I.len]; exact (List.getElem?_eq_some_iff.mp hi).1
  have cne := I.cne
  have tracked : ∀ {a : Addr} {h' : Heap}, (∃ o, s.heap.get? a = some o ∧ H a = none) → Heap.SameBut a s.heap h' → HOk X.prog X.w H h' := fun {a h'} ha hs b ob e => by
    obtain ⟨_, _, hfree⟩ := ha
    refine (I.hok b ob e).stay (fun c w' hc q => (hs.2 c ?_).trans q) (fun _ q => q) fun _ _ q => q
    rintro rfl
    rcases hc with rfl | hc
    · rw [hfree] at e; cases e
    · rw [hfree] at hc; cases hc
  rcases hx with hk | hk
  · refine wpAny_storeName_local hk hn (fun h' hn' hs => ?_) hcls
    obtain ⟨oL, _, _, hoL, _⟩ := id hn
    refine h _ ⟨I.ok, I.os, I.bare, ⟨fun b o e n hb hx => ?_, fun b o e n hb hx => ?_, I.base.free, fun b o e hx => ?_, I.base.tups, I.base.frzs, I.base.tbls⟩, ⟨_, hn', fun j y v' e1 e2 e3 => ?_⟩, fun y c e => ?_, I.free, I.freeC, fun p hp => ?_, tracked ⟨oL, hoL, I.free⟩ hs, by simpa using I.len⟩ ⟨_, hs, .inl rfl⟩
    · exact (hs.2 b (Nat.ne_of_lt (Nat.lt_of_lt_of_le (Heap.lt_size e) I.ok.above))).trans (I.base.keep b o e n hb hx)
    · obtain ⟨sl, e1⟩ := I.base.slot b o e n hb hx
      exact ⟨sl, (hs.2 b (Nat.ne_of_lt (Nat.lt_of_lt_of_le (Heap.lt_size e) I.ok.above))).trans e1⟩
    · obtain ⟨o', e1⟩ := I.base.there b o e hx
      exact ⟨o', (hs.2 b (Nat.ne_of_lt (Nat.lt_of_lt_of_le (Heap.lt_size e) I.ok.above))).trans e1⟩
    · by_cases hj : j = i
      · subst hj
        rw [hi] at e1; cases e1
        rw [List.getElem?_set_self hiσ] at e2
        cases e2
        exact ⟨u, r, .inl ⟨hk, by simp⟩⟩
      · rw [List.getElem?_set_ne (Ne.symm hj)] at e2
        obtain ⟨u', r', q⟩ := hl j y v' e1 e2 e3
        refine ⟨u', r', ?_⟩
        rcases q with ⟨k, e⟩ | ⟨k, c, e, z⟩
        · refine .inl ⟨k, ?_⟩
          have : y ≠ x := fun e => hj (nodup_ix hN e1 (e ▸ hi))
          simp [this, e]
        · exact .inr ⟨k, c, e, z.sameBut hs (cne y c e)⟩
    · obtain ⟨w', z⟩ := I.cell y c e
      exact ⟨w', z.sameBut hs (cne y c e)⟩
    · obtain ⟨e, n, ne, nf, d⟩ := I.pin p hp
      exact ⟨(hs.2 p.1 ne).trans e, n, ne, nf, d⟩
  · have hfn : X.fn x = true := by
      rcases hf with z | z
      · exact z
      · rw [z] at hk; cases hk
    obtain ⟨c, hc⟩ := I.ok.has x (.inl hk)
    obtain ⟨w', z⟩ := I.cell x c hc
    refine wpAny_storeName_cell I.ok.kind hk hc z (fun h' hc' hs => ?_)
    obtain ⟨oc, hoc, hocd⟩ := id z
    refine h { s with heap := h' } ⟨I.ok, I.os, I.bare, ⟨fun b o e n hb hx => ?_, fun b o e n hb hx => ?_, I.base.free, fun b o e hx => ?_, I.base.tups, I.base.frzs, I.base.tbls⟩, ⟨m, hn.sameBut hs (Ne.symm (cne x c hc)), fun j y v' e1 e2 e3 => ?_⟩, fun y c' e => ?_, I.free, I.freeC, fun p hp => ?_, tracked ⟨oc, hoc, I.freeC x c hc⟩ hs, by simpa using I.len⟩ ⟨c, hs, .inr hc⟩
    · exact (hs.2 b (Nat.ne_of_lt (Nat.lt_of_lt_of_le (Heap.lt_size e) (I.ok.cab x c hfn hc)))).trans (I.base.keep b o e n hb hx)
    · obtain ⟨sl, e1⟩ := I.base.slot b o e n hb hx
      exact ⟨sl, (hs.2 b (Nat.ne_of_lt (Nat.lt_of_lt_of_le (Heap.lt_size e) (I.ok.cab x c hfn hc)))).trans e1⟩
    · obtain ⟨o', e1⟩ := I.base.there b o e hx
      exact ⟨o', (hs.2 b (Nat.ne_of_lt (Nat.lt_of_lt_of_le (Heap.lt_size e) (I.ok.cab x c hfn hc)))).trans e1⟩
    · by_cases hj : j = i
      · subst hj
        rw [hi] at e1; cases e1
        rw [List.getElem?_set_self hiσ] at e2
        cases e2
        exact ⟨u, r, .inr ⟨.inl hk, c, hc, hc'⟩⟩
      · rw [List.getElem?_set_ne (Ne.symm hj)] at e2
        obtain ⟨u', r', q⟩ := hl j y v' e1 e2 e3
        refine ⟨u', r', ?_⟩
        rcases q with q | ⟨k, c', e, z'⟩
        · exact .inl q
        · refine .inr ⟨k, c', e, z'.sameBut hs ?_⟩
          rintro rfl
          exact hj (nodup_ix hN e1 (I.ok.inj _ _ _ e hc ▸ hi))
    · by_cases hcc : c' = c
      · subst hcc; exact ⟨_, hc'⟩
      · obtain ⟨w2, z2⟩ := I.cell y c' e
        exact ⟨w2, z2.sameBut hs hcc⟩
    · obtain ⟨e, n, ne, nf, d⟩ := I.pin p hp
      refine ⟨(hs.2 p.1 ?_).trans e, n, ne, nf, d⟩
      intro q
      rw [q, hoc] at e
      have q' : oc = p.2 := Option.some.inj e
      exact d w' (by rw [← q']; exact hocd)
theorem store_ok {M : Model} {A : Around} {E : Value → Shared → Prop} {i : Nat} {x : Str} {v : V} {u : Value} {Q : Unit → Shared → Prop} (I : Inv X pins σ H s) (hN : X.N.Nodup) (hi : X.N[i]? = some x) (hx : Loc X.env.scope x) (r : RelV v u)
    (h : ∀ s', Inv X pins (σ.set i (some v)) H s' → Q () s') (hf : X.fn x = true ∨ X.env.scope.names.lookup x = some .local := by first | exact .inl rfl | exact .inr rfl | assumption) : wpAny M A (storeName X.env x u) Q E s :=
  store_ok2 I hN hi hx r (fun s' I' _ => h s' I') hf
theorem Inv.call' {s' : Shared} {ch : List Addr} (I : Inv X pins σ H s) (ho : s'.os = s.os) (u : Un (frs X.stack) ch H H' s.heap s'.heap) (hok : HOk X.prog X.w H' s'.heap) (hg : AllBare s'.gens)
    (hch : ∀ b ∈ ch, (b ∈ X.ex ∨ X.s₀.heap.objs.size ≤ b) ∧ b ≠ X.env.locals ∧ (∀ x c, X.env.cells.lookup x = some c → c ≠ b) ∧ ∀ p ∈ X.pn ++ pins, p.1 ≠ b) : Inv X pins σ H' s' := by
  obtain ⟨h', g', d', t', o'⟩ := s'
  have e : o' = s.os := ho
  subst e
  exact I.call (g' := g') (t' := t') (d' := d') u hok hg hch
end
abbrev XK := Value → Option Addr → Hp → Prop
abbrev St := List (Option V)
abbrev VK := V → Hp → Prop
abbrev TE := St → Hp → VK → Prop
abbrev TT := St → Hp → (Bool → Hp → Prop) → Prop
abbrev TA := St → Hp → (List V → Hp → Prop) → Prop
structure Ends where
  nx : St → Hp → Prop
  rt : VK
  bk : St → Hp → Prop := fun _ _ => False
  ct : St → Hp → Prop := fun _ _ => False
abbrev TS := Ends → St → Hp → Prop

def EP (X : Cx) (pins : List (Addr × Obj)) (σ : St) (Q : VK) (u : Value) (s' : Shared) : Prop := ∃ v H', Inv X pins σ H' s' ∧ RelV v u ∧ Q v H'
def TP (X : Cx) (pins : List (Addr × Obj)) (σ : St) (Q : Bool → Hp → Prop) (b : Bool) (s' : Shared) : Prop := ∃ H', Inv X pins σ H' s' ∧ Q b H'
def AP (X : Cx) (pins : List (Addr × Obj)) (σ : St) (Q : List V → Hp → Prop) (us : List Value) (s' : Shared) : Prop := ∃ vs H', Inv X pins σ H' s' ∧ Vals vs us ∧ Q vs H'
def SP (X : Cx) (pins : List (Addr × Obj)) (D : Ends) (f : Flow) (s' : Shared) : Prop :=
  match f with
  | .next => ∃ σ' H', Inv X pins σ' H' s' ∧ D.nx σ' H'
  | .brk => ∃ σ' H', Inv X pins σ' H' s' ∧ D.bk σ' H'
  | .cont => ∃ σ' H', Inv X pins σ' H' s' ∧ D.ct σ' H'
  | .ret u => ∃ v σ' H', Inv X pins σ' H' s' ∧ RelV v u ∧ D.rt v H'

def PE (X : Cx) (e : Expr) (t : TE) : Prop :=
  ∀ (pins : List (Addr × Obj)) (s : Shared) (σ : St) (H : Hp) (Q : VK), Inv X pins σ H s → t σ H Q → wpAny (model X.prog X.w) X.A (eval e X.env) (EP X pins σ Q) X.xe s
def PT (X : Cx) (e : Expr) (t : TT) : Prop :=
  ∀ (pins : List (Addr × Obj)) (s : Shared) (σ : St) (H : Hp) (Q : Bool → Hp → Prop), Inv X pins σ H s → t σ H Q → wpAny (model X.prog X.w) X.A (isTrue e X.env (eval e X.env)) (TP X pins σ Q) X.xe s
def PW (X : Cx) (e : Expr) (t : TT) : Prop :=
  ∀ (whole : Sem Value) (pins : List (Addr × Obj)) (s : Shared) (σ : St) (H : Hp) (Q : Bool → Hp → Prop), Inv X pins σ H s → t σ H Q → wpAny (model X.prog X.w) X.A (isTrue e X.env whole) (TP X pins σ Q) X.xe s
theorem PW.pt {X : Cx} {e : Expr} {t : TT} (h : PW X e t) : PT X e t := h _
def PA (X : Cx) (es : List Expr) (t : TA) : Prop :=
  ∀ (pos : Pos) (pins : List (Addr × Obj)) (s : Shared) (σ : St) (H : Hp) (Q : List V → Hp → Prop), Inv X pins σ H s → t σ H Q → wpAny (model X.prog X.w) X.A (spliced (backTo pos (starEach es X.env))) (AP X pins σ Q) X.xe s
def PS (X : Cx) (st : Stmt) (t : TS) : Prop :=
  ∀ (pins : List (Addr × Obj)) (s : Shared) (σ : St) (H : Hp) (D : Ends), Inv X pins σ H s → t D σ H → wpAny (model X.prog X.w) X.A (exec st X.env) (SP X pins D) X.xe s
def PSs (X : Cx) (st : List Stmt) (t : TS) : Prop :=
  ∀ (pins : List (Addr × Obj)) (s : Shared) (σ : St) (H : Hp) (D : Ends), Inv X pins σ H s → t D σ H → wpAny (model X.prog X.w) X.A (execs st X.env) (SP X pins D) X.xe s
theorem thn {α : Type} {t : Sem α} {Q Q' : α → Shared → Prop} {M : Model} {A : Around} {E : Value → Shared → Prop} {s : Shared} (h : wpAny M A t Q E s) (hQ : ∀ a s, Q a s → Q' a s) : wpAny M A t Q' E s := wpAny_mono h hQ fun _ _ x => x
end L2

namespace L2
open PySem PySem.Spec PyProof.Rows
section
variable {X : Cx}
def tVar (i : Nat) : TE := fun σ H Q => ∃ v, σ[i]? = some (some v) ∧ Q v H
def tC (v : V) : TE := fun _ H Q => Q v H
theorem pe_var {i : Nat} {x : Str} {pos : Pos} (hN : X.N[i]? = some x) (hv : Vis X.env.scope x) (hd : (x == ("__debug__" : Str)) = false := by decide) (hcd : (x == ("__classdict__" : Str)) = false := by decide) : PE X (.Name x pos) (tVar i) := by
  intro pins s σ H Q I h
  obtain ⟨v, e, h⟩ := h
  obtain ⟨m, hn, hl⟩ := I.loc
  obtain ⟨u, r, l⟩ := hl i x v hN e hv
  have fin : EP X pins σ Q u s := ⟨v, H, I, r, h⟩
  rcases l with ⟨hk, hm⟩ | ⟨hk, c, hc, hcell⟩
  · exact wpAny_Name (wpAny_loadName_local I.ok.kind hk hn hm fin) hd
  · rcases hk with hk | hk
    · exact wpAny_Name (wpAny_loadName_cell I.ok.kind hk hc hcell fin) hd
    · exact wpAny_Name (wpAny_loadName_free I.ok.kind hk hc hcell fin hcd) hd
theorem pe_int {i j pos} : PE X (.Constant (.int i) j pos) (tC (.int i)) := fun _ _ _ H _ I h => wpAny_Constant_int ⟨.int i, H, I.tok _, ⟨_, rfl⟩, h⟩
theorem pe_bl {b j pos} : PE X (.Constant (.bool b) j pos) (tC (.bl b)) := fun _ _ _ H _ I h => Constant_bool ⟨.bl b, H, I, rfl, h⟩
theorem pe_non {j pos} : PE X (.Constant .none j pos) (tC .non) := fun _ _ _ H _ I h => Constant_none ⟨.non, H, I, rfl, h⟩
theorem pe_str {x j pos} : PE X (.Constant (.str x) j pos) (tC (.str x)) := fun _ _ _ H _ I h => Calls.Constant_str ⟨.str x, H, I.tok _, ⟨_, rfl⟩, h⟩
def Gl (X : Cx) (x : Str) : Prop := X.env.kindOf x = some .globalImplicit
theorem ld_glob {E : Value → Shared → Prop} {pins : List (Addr × Obj)} {s : Shared} {σ : St} {H : Hp} {x : Str} {u : Value} {pos : Pos} {Q : Value → Shared → Prop} (I : Inv X pins σ H s) (hg : Gl X x) (hm : X.mg x = some u) (h : Q u s)
    (hd : (x == ("__debug__" : Str)) = false := by decide) : wpAny (model X.prog X.w) X.A (eval (.Name x pos) X.env) Q E s :=
  Calls.Name_function_global I.ok.kind hg (Calls.loadGlobal_global (by rw [I.ok.glob]; exact I.mod.glob.keeps I.bk) hm h) hd
theorem ld_blt {E : Value → Shared → Prop} {pins : List (Addr × Obj)} {s : Shared} {σ : St} {H : Hp} {x : Str} {u : Value} {pos : Pos} {Q : Value → Shared → Prop} (I : Inv X pins σ H s) (hg : Gl X x) (hm : X.mg x = none) (hv : bootBuiltins x = some u) (h : Q u s)
    (hn : x ≠ "__name__" := by decide) (hd : (x == ("__debug__" : Str)) = false := by decide) : wpAny (model X.prog X.w) X.A (eval (.Name x pos) X.env) Q E s := by
  obtain ⟨mb, h1, h2⟩ := I.mod.blt
  exact Calls.Name_function_global I.ok.kind hg (Calls.loadGlobal_builtin (by rw [I.ok.glob]; exact I.mod.glob.keeps I.bk) hm (by rw [I.ok.blt]; exact h1.keeps I.bk) ((h2 x hn).trans hv) h) hd
theorem pe_glob {x : Str} {v : V} {u : Value} {pos : Pos} (hg : Gl X x) (hm : X.mg x = some u) (r : RelV v u) (hd : (x == ("__debug__" : Str)) = false := by decide) : PE X (.Name x pos) (tC v) :=
  fun _ _ _ H _ I h => ld_glob I hg hm ⟨v, H, I, r, h⟩ hd
theorem pe_bltn {x : Str} {v : V} {u : Value} {pos : Pos} (hg : Gl X x) (hm : X.mg x = none) (hv : bootBuiltins x = some u) (r : RelV v u) (hn : x ≠ "__name__" := by decide) (hd : (x == ("__debug__" : Str)) = false := by decide) : PE X (.Name x pos) (tC v) :=
  fun _ _ _ H _ I h => ld_blt I hg hm hv ⟨v, H, I, r, h⟩ hn hd
def t2I (ta tb : TE) (k : Int → Int → Hp → Prop) : St → Hp → Prop := fun σ H => ta σ H fun x H1 => tb σ H1 fun y H2 => ∃ i j, x = .int i ∧ y = .int j ∧ k i j H2
def tAdd (ta tb : TE) : TE := fun σ H Q => t2I ta tb (fun i j H2 => Q (.int (i + j)) H2) σ H
def tSub (ta tb : TE) : TE := fun σ H Q => t2I ta tb (fun i j H2 => Q (.int (i - j)) H2) σ H
def tMul (ta tb : TE) : TE := fun σ H Q => t2I ta tb (fun i j H2 => (-(2 ^ 64) < i ∧ i < 2 ^ 64) ∧ Q (.int (i * j)) H2) σ H
variable {a b : Expr} {ta tb : TE} {pos : Pos}
def PC (X : Cx) (op : CmpOp) (a b : Expr) (t : TE) : Prop :=
  ∀ (pins : List (Addr × Obj)) (s : Shared) (σ : St) (H : Hp) (Q : VK), Inv X pins σ H s → t σ H Q →
    wpAny (model X.prog X.w) X.A (eval a X.env) (fun v s₁ => wpAny (model X.prog X.w) X.A (eval b X.env) (fun u s₂ => wpAny (model X.prog X.w) X.A (compareOp op v u) (EP X pins σ Q) X.xe s₂) X.xe s₁) X.xe s
def tCmp (p : Int → Int → Bool) (ta tb : TE) : TE := fun σ H Q => t2I ta tb (fun i j H2 => Q (.bl (p i j)) H2) σ H
abbrev tLt : TE → TE → TE := tCmp fun i j => decide (i < j)
abbrev tLe : TE → TE → TE := tCmp fun i j => decide (i ≤ j)
abbrev tGt : TE → TE → TE := tCmp fun i j => decide (j < i)
abbrev tGe : TE → TE → TE := tCmp fun i j => decide (j ≤ i)
abbrev tEqI : TE → TE → TE := tCmp fun i j => decide (i = j)
abbrev tNeI : TE → TE → TE := tCmp fun i j => !decide (i = j)
def tIsN (ta : TE) : TE := fun σ H Q => ta σ H fun x H1 => Q (.bl (decide (x = .non))) H1
def tNotN (ta : TE) : TE := fun σ H Q => ta σ H fun x H1 => Q (.bl (!decide (x = .non))) H1
def tB (t : TE) : TT := fun σ H Q => t σ H fun x H1 => ∃ c, x = .bl c ∧ Q c H1
theorem pt_val {e : Expr} {t : TE} (h : PE X e t) (he : ∀ whole, isTrue e X.env whole = (do let v ← whole; standAt e.pos; holding [v] (truthy v)) := by intro _; rfl) : PT X e (tB t) := by
  intro pins s σ H Q I hw
  refine isTrue_plain (thn (h pins s σ H _ I hw) fun v s1 ⟨x, H1, I1, r1, q1⟩ => ?_) (he _)
  obtain ⟨d, rfl, q⟩ := q1
  cases r1
  exact wpAny_truthy_bool ⟨H1, I1, q⟩
variable {tA tB' : TT} {rest : List Expr}
def tAnd (t u : TT) : TT := fun σ H Q => t σ H fun c H1 => if c = true then u σ H1 Q else Q false H1
def tOr (t u : TT) : TT := fun σ H Q => t σ H fun c H1 => if c = true then Q true H1 else u σ H1 Q
def tNot (t : TT) : TT := fun σ H Q => t σ H fun c H1 => Q (!c) H1
theorem pw_and1 (ha : PT X a tA) : PW X (.BoolOp .And [a] pos) tA := by
  intro wh pins s σ H Q I h
  refine isTrue_and (thn (ha pins s σ H Q I h) fun c s1 e => ?_)
  cases c with
  | true => exact isTrue_and_nil e
  | false => exact e
theorem pw_or1 (ha : PT X a tA) : PW X (.BoolOp .Or [a] pos) tA := by
  intro wh pins s σ H Q I h
  refine isTrue_or (thn (ha pins s σ H Q I h) fun c s1 e => ?_)
  cases c with
  | false => exact isTrue_or_nil e
  | true => exact e
theorem pw_and (ha : PT X a tA) (hb : PW X (.BoolOp .And (b :: rest) pos) tB') : PW X (.BoolOp .And (a :: b :: rest) pos) (tAnd tA tB') := by
  intro wh pins s σ H Q I h
  refine isTrue_and (thn (ha pins s σ H _ I h) fun c s1 ⟨H1, I1, q1⟩ => ?_)
  cases c with
  | true => exact hb wh pins s1 σ H1 Q I1 q1
  | false => exact ⟨H1, I1, q1⟩
theorem pw_or (ha : PT X a tA) (hb : PW X (.BoolOp .Or (b :: rest) pos) tB') : PW X (.BoolOp .Or (a :: b :: rest) pos) (tOr tA tB') := by
  intro wh pins s σ H Q I h
  refine isTrue_or (thn (ha pins s σ H _ I h) fun c s1 ⟨H1, I1, q1⟩ => ?_)
  cases c with
  | true => exact ⟨H1, I1, q1⟩
  | false => exact hb wh pins s1 σ H1 Q I1 q1
theorem pt_not (ha : PT X a tA) : PT X (.UnaryOp .Not a pos) (tNot tA) := by
  intro pins s σ H Q I h
  exact isTrue_not (ha pins s σ H (fun c H1 => Q (!c) H1) I h)
def tAndV (ta tb : TE) : TE := fun σ H Q => ta σ H fun x H1 => ∃ c, x = .bl c ∧ if c = true then tb σ H1 Q else Q (.bl false) H1
def tOrV (ta tb : TE) : TE := fun σ H Q => ta σ H fun x H1 => ∃ c, x = .bl c ∧ if c = true then Q (.bl true) H1 else tb σ H1 Q
def tNotV (ta : TE) : TE := fun σ H Q => ta σ H fun x H1 => ∃ c, x = .bl c ∧ Q (.bl (!c)) H1
theorem pe_one {op} {t : TE} (h : PE X a t) : PE X (.BoolOp op [a] pos) t := fun pins s σ H Q I hw => BoolOp_one (h pins s σ H Q I hw)
theorem pe_and (ha : PE X a ta) (hb : PE X (.BoolOp .And (b :: rest) pos) tb) : PE X (.BoolOp .And (a :: b :: rest) pos) (tAndV ta tb) := by
  intro pins s σ H Q I h
  refine BoolOp_and (thn (ha pins s σ H _ I h) fun v s1 ⟨x, H1, I1, r1, q1⟩ => ?_)
  obtain ⟨c, rfl, q1⟩ := q1
  cases r1
  refine wpAny_truthy_bool ?_
  cases c with
  | true => exact hb pins s1 σ H1 Q I1 q1
  | false => exact ⟨.bl false, H1, I1, rfl, q1⟩
theorem pe_or (ha : PE X a ta) (hb : PE X (.BoolOp .Or (b :: rest) pos) tb) : PE X (.BoolOp .Or (a :: b :: rest) pos) (tOrV ta tb) := by
  intro pins s σ H Q I h
  refine BoolOp_or (thn (ha pins s σ H _ I h) fun v s1 ⟨x, H1, I1, r1, q1⟩ => ?_)
  obtain ⟨c, rfl, q1⟩ := q1
  cases r1
  refine wpAny_truthy_bool ?_
  cases c with
  | false => exact hb pins s1 σ H1 Q I1 q1
  | true => exact ⟨.bl true, H1, I1, rfl, q1⟩
theorem pe_not (ha : PE X a ta) : PE X (.UnaryOp .Not a pos) (tNotV ta) := by
  intro pins s σ H Q I h
  refine UnaryOp_ (thn (ha pins s σ H _ I h) fun v s1 ⟨x, H1, I1, r1, q1⟩ => ?_)
  obtain ⟨c, rfl, q1⟩ := q1
  cases r1
  exact not_of (wpAny_truthy_bool ⟨.bl (!c), H1, I1, rfl, q1⟩)
def tIf (t : TT) (ta tb : TE) : TE := fun σ H Q => t σ H fun c H1 => if c = true then ta σ H1 Q else tb σ H1 Q
theorem pe_ifExp {c : Expr} (hc : PT X c tA) (ha : PE X a ta) (hb : PE X b tb) : PE X (.IfExp c a b pos) (tIf tA ta tb) := by
  intro pins s σ H Q I h
  refine wpAny_IfExp (thn (hc pins s σ H _ I h) fun d s1 ⟨H1, I1, q1⟩ => ?_)
  cases d with
  | true => exact ha pins s1 σ H1 Q I1 q1
  | false => exact hb pins s1 σ H1 Q I1 q1
end
end L2

namespace L2
open PySem PySem.Spec PyProof.Rows
def SqL (K : PySem.W.Frag) (H : Hp) (a : Addr) (xs : List V) : Prop :=
  Rd H a (.lst xs) ∨
    ∃ (o : Obj) (its : Array Value) (n : Nat), K.lookup a = some o ∧ o.cls = .type "list" ∧ o.dict = none ∧ o.data = .seq its n ∧ its.size ≤ sizeLine ∧ Vals xs its.toList
def SqT (K : PySem.W.Frag) (H : Hp) (a : Addr) (xs : List V) : Prop :=
  Rd H a (.tup xs) ∨
    ∃ (o : Obj) (its : Array Value) (n : Nat), K.lookup a = some o ∧ o.cls = .type "tuple" ∧ o.data = .seq its n ∧ its.size ≤ sizeLine ∧ Vals xs its.toList
def absV : Value → Option V
  | .none => some .non
  | .bool b => some (.bl b)
  | .int i _ => some (.int i)
  | .str x _ => some (.str x)
  | .bytes b _ => some (.byt b)
  | .float b _ => some (.flt b)
  | .ref a => some (.ref a)
  | .type n => some (.ty n)
  | _ => none
theorem RelV.abs {x : V} {u : Value} (r : RelV x u) : absV u = some x := by
  cases x with
  | non => cases r; rfl
  | bl _ => cases r; rfl
  | int _ => obtain ⟨t, rfl⟩ := r; rfl
  | str _ => obtain ⟨t, rfl⟩ := r; rfl
  | byt _ => obtain ⟨t, rfl⟩ := r; rfl
  | flt _ => obtain ⟨t, rfl⟩ := r; rfl
  | ref _ => cases r; rfl
  | ty _ => cases r; rfl
theorem RelV.inj {x y : V} {u : Value} (r : RelV x u) (q : RelV y u) : x = y := Option.some.inj (r.abs.symm.trans q.abs)
theorem Vals.inj : ∀ {xs ys : List V} {us : List Value}, Vals xs us → Vals ys us → xs = ys
  | _, _, _, .nil, .nil => rfl
  | _, _, _, .cons r t, .cons r' t' => by rw [r.inj r', Vals.inj t t']
section
variable {X : Cx} {pins : List (Addr × Obj)} {σ : St} {H : Hp} {s : Shared} {a : Addr} {xs ys : List V}
theorem SqL.of {K : PySem.W.Frag} (h : H a = some (.lst xs)) : SqL K H a xs := .inl (.inl h)
theorem SqT.of {K : PySem.W.Frag} (h : H a = some (.tup xs)) : SqT K H a xs := .inl (.inl h)
theorem Inv.list (I : Inv X pins σ H s) (h : SqL X.K H a xs) : ∃ its : List Value, Vals xs its ∧ PlainL s.heap a its.toArray ∧ xs.length ≤ sizeLine := by
  rcases h with h | ⟨o, its, n, hk, hc, hd, hs, hz, r⟩
  · obtain ⟨z, its, n, r, e⟩ := h.ok I.hok
    exact ⟨its, r, ⟨_, n, e, rfl, rfl, rfl⟩, z⟩
  · refine ⟨its.toList, r, ⟨o, n, I.kIn a o hk, hc, hd, by simpa using hs⟩, ?_⟩
    have e := r.length
    simp only [Array.length_toList] at e
    omega
theorem Inv.tuple (I : Inv X pins σ H s) (h : SqT X.K H a xs) : ∃ its : List Value, Vals xs its ∧ IsTup s.heap a its.toArray ∧ xs.length ≤ sizeLine := by
  rcases h with h | ⟨o, its, n, hk, hc, hs, hz, r⟩
  · obtain ⟨z, its, r, p⟩ := h.ok I.hok
    exact ⟨its, r, p, z⟩
  · refine ⟨its.toList, r, ⟨o, I.kIn a o hk, hc, n, by simpa using hs⟩, ?_⟩
    have e := r.length
    simp only [Array.length_toList] at e
    omega
theorem Inv.list_inj (I : Inv X pins σ H s) (h : SqL X.K H a xs) (h' : SqL X.K H a ys) : xs = ys := by
  obtain ⟨its, r, ⟨o, n, e, _, _, d⟩, _⟩ := I.list h
  obtain ⟨its', r', ⟨o', n', e', _, _, d'⟩, _⟩ := I.list h'
  rw [e] at e'; cases e'
  rw [d] at d'
  injection d' with d1 _
  have : its = its' := by simpa using congrArg Array.toList d1
  subst this
  exact r.inj r'
end
abbrev Cx.wish (X : Cx) (E : Value → Shared → Prop) : Cx := { X with xe := E }
abbrev Cx.nox (X : Cx) : Cx := X.wish fun _ _ => False
theorem Cx.Ok.wish {X : Cx} (ok : X.Ok) (E : Value → Shared → Prop) : (X.wish E).Ok :=
  ⟨ok.mod, ok.kind, ok.glob, ok.blt, ok.above, ok.inj, ok.has, ok.cab, ok.hd, ok.frames, ok.stk, ok.exf, ok.bs, ok.bsz, ok.noex, ok.exfs, ok.funs, ok.frf⟩
theorem Cx.Ok.unwish {X : Cx} {E : Value → Shared → Prop} (ok : (X.wish E).Ok) : X.Ok :=
  ⟨ok.mod, ok.kind, ok.glob, ok.blt, ok.above, ok.inj, ok.has, ok.cab, ok.hd, ok.frames, ok.stk, ok.exf, ok.bs, ok.bsz, ok.noex, ok.exfs, ok.funs, ok.frf⟩
section
variable {X : Cx} {pins : List (Addr × Obj)} {σ : St} {H : Hp} {s : Shared} {E : Value → Shared → Prop}
theorem Inv.wish (I : Inv X pins σ H s) (E : Value → Shared → Prop) : Inv (X.wish E) pins σ H s := ⟨I.ok.wish E, I.os, I.bare, I.base, I.loc, I.cell, I.free, I.freeC, I.pin, I.hok, I.len⟩
theorem Inv.unwish (I : Inv (X.wish E) pins σ H s) : Inv X pins σ H s := ⟨I.ok.unwish, I.os, I.bare, I.base, I.loc, I.cell, I.free, I.freeC, I.pin, I.hok, I.len⟩
theorem SP.unwish {D : Ends} {f : Flow} {s' : Shared} (h : SP (X.wish E) pins D f s') : SP X pins D f s' := by
  cases f with
  | next => obtain ⟨σ', H', I, q⟩ := h; exact ⟨σ', H', I.unwish, q⟩
  | brk => obtain ⟨σ', H', I, q⟩ := h; exact ⟨σ', H', I.unwish, q⟩
  | cont => obtain ⟨σ', H', I, q⟩ := h; exact ⟨σ', H', I.unwish, q⟩
  | ret u => obtain ⟨v, σ', H', I, r, q⟩ := h; exact ⟨v, σ', H', I.unwish, r, q⟩
theorem PSs.nox {st : List Stmt} {t : TS} (h : PSs X.nox st t) : PSs X st t := fun pins s σ H D I hw =>
  wpAny_mono (h pins s σ H D (I.wish _) hw) (fun _ _ q => q.unwish) fun _ _ z => False.elim z
end
section
variable {X : Cx} {st : Stmt} {rest : List Stmt} {t u : TS} {e : Expr} {te : TE} {pos : Pos}
def tNext : TS := fun D σ H => D.nx σ H
def tSeq (t u : TS) : TS := fun D σ H => t { D with nx := u D } σ H
theorem pss_nil : PSs X [] tNext := fun _ _ σ H _ I h => wpAny_execs_nil ⟨σ, H, I, h⟩
theorem pss_cons (h1 : PS X st t) (h2 : PSs X rest u) : PSs X (st :: rest) (tSeq t u) := by
  intro pins s σ H D I h
  refine wpAny_execs_cons (thn (h1 pins s σ H { D with nx := u D } I h) fun f s1 q => ?_)
  cases f with
  | next =>
    obtain ⟨σ', H', I', q⟩ := q
    exact h2 pins s1 σ' H' D I' q
  | ret v => exact q
  | brk => exact q
  | cont => exact q
theorem pss_one (h1 : PS X st t) : PSs X [st] t := by
  intro pins s σ H D I h
  refine wpAny_execs_cons (thn (h1 pins s σ H D I h) fun f s1 q => ?_)
  cases f with
  | next => exact wpAny_execs_nil q
  | ret v => exact q
  | brk => exact q
  | cont => exact q
def tBreak : TS := fun D σ H => D.bk σ H
def tCont : TS := fun D σ H => D.ct σ H
theorem Inv.quiet {pins : List (Addr × Obj)} {σ : St} {H : Hp} {s : Shared} (I : Inv X pins σ H s) : interactive X.env = false := by simp [interactive, I.ok.kind]
def tDrop (te : TE) : TS := fun D σ H => te σ H fun _ H1 => D.nx σ H1
theorem ps_expr (he : PE X e te) (hs : swapsWith e none pos.line X.env = pure false := by rfl) : PS X (.Expr e pos) (tDrop te) := by
  intro pins s σ H D I h
  exact wpAny_Expr_any (thn (he pins s σ H _ I h) fun v s1 ⟨x, H1, I1, r1, q1⟩ => ⟨σ, H1, I1, q1⟩) I.quiet hs
def tRet (te : TE) : TS := fun D σ H => te σ H D.rt
theorem ps_ret (he : PE X e te) : PS X (.Return (some e) pos) (tRet te) := by
  intro pins s σ H D I h
  exact wpAny_Return_some (thn (he pins s σ H _ I h) fun v s1 ⟨x, H1, I1, r1, q1⟩ => ⟨x, σ, H1, I1, r1, q1⟩)
def tRetN : TS := fun D _ H => D.rt .non H
def tIfS (c : TT) (t u : TS) : TS := fun D σ H => c σ H fun b H1 => if b = true then t D σ H1 else u D σ H1
theorem ps_if {c : Expr} {a b : List Stmt} {tc : TT} (hc : PT X c tc) (ha : PSs X a t) (hb : PSs X b u) : PS X (.If c a b pos) (tIfS tc t u) := by
  intro pins s σ H D I h
  refine wpAny_If (thn (hc pins s σ H _ I h) fun d s1 ⟨H1, I1, q1⟩ => ?_)
  cases d with
  | true => exact ha pins s1 σ H1 D I1 q1
  | false => exact hb pins s1 σ H1 D I1 q1
def tNever : TS := fun _ _ _ => False
end
abbrev TG := V → St → Hp → (St → Hp → Prop) → Prop
abbrev TGs := List V → St → Hp → (St → Hp → Prop) → Prop
def PG (X : Cx) (target : Expr) (t : TG) : Prop :=
  ∀ (pins : List (Addr × Obj)) (s : Shared) (σ : St) (H : Hp) (v : V) (u : Value) (Q : St → Hp → Prop), Inv X pins σ H s → RelV v u → t v σ H Q →
    wpAny (model X.prog X.w) X.A (assign target X.env u) (fun _ s' => ∃ σ' H', Inv X pins σ' H' s' ∧ Q σ' H') X.xe s
def PGs (X : Cx) (ts : List Expr) (t : TGs) : Prop :=
  ∀ (pins : List (Addr × Obj)) (s : Shared) (σ : St) (H : Hp) (vs : List V) (us : List Value) (Q : St → Hp → Prop), Inv X pins σ H s → Vals vs us → t vs σ H Q →
    wpAny (model X.prog X.w) X.A (assignInOrder ((assignEach ts X.env).map (·.2)) us) (fun _ s' => ∃ σ' H', Inv X pins σ' H' s' ∧ Q σ' H') X.xe s
abbrev TSet := V → V → V → Hp → (Hp → Prop) → Prop
def PSet (X : Cx) (t : TSet) : Prop :=
  ∀ (pins : List (Addr × Obj)) (s : Shared) (σ : St) (H : Hp) (o i v : V) (ov iv u : Value) (Q : Hp → Prop), Inv X pins σ H s → RelV o ov → RelV i iv → RelV v u → t o i v H Q →
    wpAny (model X.prog X.w) X.A (setItem ov iv u) (fun _ s' => ∃ H', Inv X pins σ H' s' ∧ Q H') X.xe s
abbrev TIp := V → V → Hp → VK → Prop
def PIp (X : Cx) (op : Operator) (t : TIp) : Prop :=
  ∀ (pins : List (Addr × Obj)) (s : Shared) (σ : St) (H : Hp) (x y : V) (v u : Value) (Q : VK), Inv X pins σ H s → RelV x v → RelV y u → t x y H Q →
    wpAny (model X.prog X.w) X.A (inplaceOp op v u) (EP X pins σ Q) X.xe s
section
variable {X : Cx} {pos : Pos}
def gName (i : Nat) : TG := fun v σ H Q => Q (σ.set i (some v)) H
theorem pg_name {i : Nat} {x : Str} (hN : X.N.Nodup) (hi : X.N[i]? = some x) (hx : Loc X.env.scope x) (hf : X.fn x = true ∨ X.env.scope.names.lookup x = some .local := by first | exact .inl rfl | exact .inr rfl | assumption) : PG X (.Name x pos) (gName i) := by
  intro pins s σ H v u Q I r h
  exact wpAny_assign_Name (store_ok I hN hi hx r (fun s' I' => ⟨_, H, I', h⟩) hf)
def gNil : TGs := fun vs σ H Q => vs = [] ∧ Q σ H
def gCons (t : TG) (u : TGs) : TGs := fun vs σ H Q => ∃ v r, vs = v :: r ∧ t v σ H fun σ' H' => u r σ' H' Q
theorem pgs_nil : PGs X [] gNil := by
  intro pins s σ H vs us Q I r h
  obtain ⟨e, h⟩ := h
  subst e
  cases r
  exact assignInOrder_nil ⟨σ, H, I, h⟩
theorem pgs_cons {e : Expr} {es : List Expr} {t : TG} {u : TGs} (h1 : PG X e t) (h2 : PGs X es u)
    (hs : (assignEach (e :: es) X.env).map (·.2) = assign e X.env :: (assignEach es X.env).map (·.2) := by rfl) : PGs X (e :: es) (gCons t u) := by
  intro pins s σ H vs us Q I r h
  obtain ⟨v, vr, e1, h⟩ := h
  subst e1
  cases r with
  | cons r rr =>
    rw [hs]
    refine assignInOrder_cons (thn (h1 pins s σ H _ _ _ I r h) fun _ s1 ⟨σ1, H1, I1, q1⟩ => ?_)
    exact h2 pins s1 σ1 H1 _ _ Q I1 rr q1
def gTup (K : PySem.W.Frag) (n : Nat) (t : TGs) : TG := fun v σ H Q => ∃ a xs, v = .ref a ∧ SqT K H a xs ∧ xs.length = n ∧ t xs σ H Q
theorem pg_tup {es : List Expr} {k : Nat} {t : TGs} {n : Nat} (hc : X.calm = true) (h : PGs X es t)
    (hn : (assignEach es X.env).length = n := by rfl) (hst : (assignEach es X.env).findIdx? (·.1) = none := by rfl) : PG X (.Tuple es k pos) (gTup X.K n t) := by
  intro pins s σ H v u Q I r hw
  obtain ⟨a, xs, e1, hq, hl, hw⟩ := hw
  subst e1
  cases r
  obtain ⟨its, rv, ht, hz⟩ := I.tuple hq
  refine assign_Tuple_tuple (I.ok.hd hc) ht (by simp [hn, ← hl, rv.length]) hst fun h' hx => ?_
  have I1 : Inv X pins σ H { s with heap := h' } := I.kept (t' := s.toks) fun b o e => hx b o (Nat.ne_of_lt (Heap.lt_size e)) e
  exact h pins _ σ H xs _ Q I1 (by simpa using rv) hw
def gSub (to ti : TE) (t : TSet) : TG := fun v σ H Q => to σ H fun o H1 => ti σ H1 fun i H2 => t o i v H2 fun H3 => Q σ H3
theorem pg_sub {o i : Expr} {to ti : TE} {t : TSet} (ho : PE X o to) (hi : PE X i ti) (hs : PSet X t)
    (ha : ∀ v, assign (.Subscript o i pos) X.env v = (do
      let ov ← holding [v] (eval o X.env)
      let iv ← holding [v, ov] (eval i X.env)
      standAt pos
      holding [v, ov, iv] (setItem ov iv v)
      release [v, ov, iv] []) := by intro _; rfl) : PG X (.Subscript o i pos) (gSub to ti t) := by
  intro pins s σ H v u Q I r h
  rw [ha]
  refine wpAny_bind (wpAny_holding (thn (ho pins s σ H _ I h) fun ov s1 ⟨x, H1, I1, r1, q1⟩ => ?_))
  refine wpAny_bind (wpAny_holding (thn (hi pins s1 σ H1 _ I1 q1) fun iv s2 ⟨y, H2, I2, r2, q2⟩ => ?_))
  refine wpAny_bind (wpAny_standAt (wpAny_bind (wpAny_holding (thn (hs pins s2 σ H2 x y v ov iv u _ I2 r1 r2 r q2) fun _ s3 ⟨H3, I3, q3⟩ => ?_))))
  exact wpAny_release ⟨σ, H3, I3, q3⟩
def tAsg (te : TE) (g : TG) : TS := fun D σ H => te σ H fun x H1 => g x σ H1 D.nx
theorem ps_asg {tg e : Expr} {te : TE} {g : TG} (he : PE X e te) (hg : PG X tg g) (hs : swapsWithSole [tg] e pos.line X.env = pure false := by rfl) (hw : swappedStores [tg] e X.env = pure none := by rfl)
    (h1 : (assignEach [tg] X.env).map (·.2) = [assign tg X.env] := by rfl) : PS X (.Assign [tg] e pos) (tAsg te g) := by
  intro pins s σ H D I h
  refine wpAny_Assign_stores (thn (he pins s σ H _ I h) fun v s1 ⟨x, H1, I1, r1, q1⟩ => ?_) hs hw
  rw [h1]
  exact thn (hg pins s1 σ H1 x v _ I1 r1 q1) fun _ s2 q => q
theorem ps_set {i : Nat} {x : Str} {e : Expr} {te : TE} {pos' : Pos} (hN : X.N.Nodup) (hi : X.N[i]? = some x) (hx : Loc X.env.scope x) (he : PE X e te) (hs : swapsWith e (some (.Name x pos')) pos.line X.env = pure false := by rfl) (hf : X.fn x = true ∨ X.env.scope.names.lookup x = some .local := by first | exact .inl rfl | exact .inr rfl | assumption) :
    PS X (.Assign [.Name x pos'] e pos) (tAsg te (gName i)) := by
  intro pins s σ H D I h
  refine wpAny_Assign_Name (thn (he pins s σ H _ I h) fun v s1 ⟨y, H1, I1, r1, q1⟩ => ?_) hs
  exact store_ok I1 hN hi hx r1 (fun s2 I2 => ⟨_, H1, I2, q1⟩) hf
def tPar (i j : Nat) (ta : TA) : TS := fun D σ H => ta σ H fun vs H1 => ∃ v w, vs = [v, w] ∧ D.nx ((σ.set i (some v)).set j (some w)) H1
theorem ps_par {i j : Nat} {x y : Str} {a b : Expr} {ta : TA} {px py pt : Pos} {kt k2 pt2} (hc : X.calm = true) (hN : X.N.Nodup) (hi : X.N[i]? = some x) (hj : X.N[j]? = some y) (hij : i ≠ j)
    (hx : X.env.scope.names.lookup x = some .local) (hy : X.env.scope.names.lookup y = some .local) (ha : PA X [a, b] ta)
    (hw : swappedStores [.Tuple [.Name x px, .Name y py] kt pt] (.Tuple [a, b] k2 pt2) X.env = pure (some [x, y]))
    (hs : swapsWithSole [.Tuple [.Name x px, .Name y py] kt pt] (.Tuple [a, b] k2 pt2) pos.line X.env = pure false := by rfl) :
    PS X (.Assign [.Tuple [.Name x px, .Name y py] kt pt] (.Tuple [a, b] k2 pt2) pos) (tPar i j ta) := by
  intro pins s σ H D I h
  rw [exec_Assign_arm]
  refine wpAny_bind (wpAny_standAt ?_)
  rw [hs]
  refine wpAny_bind (wpAny_pure ?_)
  rw [if_neg (by decide)]
  refine wpAny_bind (Tuple_ (thn (ha _ pins s σ H _ I h) fun us s1 ⟨vs, H1, I1, r1, q1⟩ => ?_))
  obtain ⟨v, w, e1, q1⟩ := q1
  subst e1
  obtain ⟨u1, u2, rfl, rv, rw'⟩ : ∃ u1 u2, us = [u1, u2] ∧ RelV v u1 ∧ RelV w u2 := by
    cases r1 with
    | cons p q =>
      cases q with
      | cons p' q' =>
        cases q'
        exact ⟨_, _, rfl, p, p'⟩
  refine wpAny_newObj_type ?_ (by show 2 ≤ sizeLine; decide)
  have I2 : Inv X pins σ H1 { s1 with heap := s1.heap.push { cls := .type "tuple", data := .seq [u1, u2].toArray } } := I1.kept (t' := s1.toks) fun b o e => Heap.get?_push_of_some _ e
  rw [hw]
  refine wpAny_bind (wpAny_pure ?_)
  show wpAny (model X.prog X.w) X.A (do rule "assign.swapped-stores"; let items ← unpackItems (.ref s1.heap.objs.size) 2 none; assignInOrder [fun v => bindName X.env y v, fun v => bindName X.env x v] items.reverse; pure Flow.next) _ _ _
  refine wpAny_bind (wpAny_rule (wpAny_bind (unpackItems_tuple (items := #[u1, u2]) (I.ok.hd hc) (IsTup.new s1.heap _) fun h' hx' => ?_)))
  have I3 := I2.kept (h' := h') (t' := s1.toks) fun b o e => hx' b o (Nat.ne_of_lt (Heap.lt_size e)) e
  show wpAny _ _ (assignInOrder [fun v => bindName X.env y v, fun v => bindName X.env x v] [u2, u1] >>= fun _ => pure Flow.next) _ _ _
  refine wpAny_bind (assignInOrder_cons (wpAny_bindName (store_ok I3 hN hj (.inl hy) rw' (fun s2 I4 => ?_) (.inr hy))))
  refine assignInOrder_cons (wpAny_bindName (store_ok I4 hN hi (.inl hx) rv (fun s3 I5 => assignInOrder_nil (wpAny_pure ?_)) (.inr hx)))
  rw [List.set_comm _ _ (Ne.symm hij)] at I5
  exact ⟨_, H1, I5, q1⟩
def tAug (i : Nat) (te : TE) (ti : TIp) : TS := fun D σ H => ∃ x, σ[i]? = some (some x) ∧ te σ H fun y H1 => ti x y H1 fun z H2 => D.nx (σ.set i (some z)) H2
theorem ps_aug {i : Nat} {x : Str} {e : Expr} {te : TE} {op : Operator} {ti : TIp} {pos' : Pos} (hN : X.N.Nodup) (hi : X.N[i]? = some x) (hx : Loc X.env.scope x) (he : PE X e te) (ho : PIp X op ti) (hf : X.fn x = true ∨ X.env.scope.names.lookup x = some .local := by first | exact .inl rfl | exact .inr rfl | assumption) :
    PS X (.AugAssign (.Name x pos') op e pos) (tAug i te ti) := by
  intro pins s σ H D I h
  obtain ⟨v, e1, h⟩ := h
  obtain ⟨m, hn, hl⟩ := I.loc
  have vis : Vis X.env.scope x := by rcases hx with k | k; exact .inl k; exact .inr (.inl k)
  obtain ⟨u, r, l⟩ := hl i x v hi e1 vis
  refine wpAny_AugAssign_Name ?_
  have go : wpAny (model X.prog X.w) X.A (eval e X.env) (fun w s₂ => wpAny (model X.prog X.w) X.A (inplaceOp op u w) (fun r s₃ => wpAny (model X.prog X.w) X.A (storeName X.env x r) (fun _ => SP X pins D .next) X.xe s₃) X.xe s₂) X.xe s := by
    refine thn (he pins s σ H _ I h) fun w s1 ⟨y, H1, I1, r1, q1⟩ => ?_
    refine thn (ho pins s1 σ H1 v y u w _ I1 r r1 q1) fun z s2 ⟨zv, H2, I2, r2, q2⟩ => ?_
    exact store_ok I2 hN hi hx r2 (fun s3 I3 => ⟨_, H2, I3, q2⟩) hf
  rcases l with ⟨hk, hm⟩ | ⟨hk, c, hc, hcell⟩
  · exact wpAny_loadName_local I.ok.kind hk hn hm go
  · rcases hk with hk | hk
    · exact wpAny_loadName_cell I.ok.kind hk hc hcell go
    · rcases hx with k | k
      · have : X.env.scope.names.lookup x = some .free := hk
        rw [k] at this; cases this
      · have : X.env.scope.names.lookup x = some .free := hk
        rw [k] at this; cases this
def tAugS (to ti te : TE) (tget : V → V → Hp → VK → Prop) (tip : TIp) (tset : TSet) : TS := fun D σ H => to σ H fun o H1 => ti σ H1 fun i H2 => tget o i H2 fun x H3 => te σ H3 fun y H4 => tip x y H4 fun z H5 => tset o i z H5 fun H6 => D.nx σ H6
def PGet (X : Cx) (t : V → V → Hp → VK → Prop) : Prop :=
  ∀ (pins : List (Addr × Obj)) (s : Shared) (σ : St) (H : Hp) (o i : V) (ov iv : Value) (Q : VK), Inv X pins σ H s → RelV o ov → RelV i iv → t o i H Q →
    wpAny (model X.prog X.w) X.A (getItem ov iv) (EP X pins σ Q) X.xe s
def ipI (f : Int → Int → Int) : TIp := fun x y H Q => ∃ i j, x = .int i ∧ y = .int j ∧ Q (.int (f i j)) H
theorem ip_add : PIp X .Add (ipI fun i j => i + j) := by
  intro pins s σ H x y v u Q I r1 r2 h
  obtain ⟨i, j, e1, e2, q⟩ := h
  subst e1; subst e2
  obtain ⟨t, rfl⟩ := r1
  obtain ⟨t', rfl⟩ := r2
  exact iadd_int ⟨.int _, H, I.tok _, ⟨_, rfl⟩, q⟩
end
section
variable {X : Cx} {pos : Pos}
def tWhile (c : TT) (tb : TS) : TS := fun D σ H => ∃ W : Nat → St → Hp → Prop, (∃ m, W m σ H) ∧ ∀ m σ H, W m σ H →
  c σ H fun b H1 => if b = true then ∃ N : St → Hp → Prop, (∀ σ' H', N σ' H' → ∃ m', m' < m ∧ W m' σ' H') ∧ tb { D with nx := N, ct := N, bk := D.nx } σ H1 else D.nx σ H1
theorem ps_while {c : Expr} {body : List Stmt} {tc : TT} {tb : TS} (hp : PassesOwn (model X.prog X.w) X.A X.env X.xe) (hc : PT X c tc) (hb : PSs X body tb) : PS X (.While c body [] pos) (tWhile tc tb) := by
  intro pins s σ H D I h
  obtain ⟨W, ⟨m0, w0⟩, turn⟩ := h
  refine wpAny_While (codeAny_whileLoop (fun n s' => ∃ σ' H', Inv X pins σ' H' s' ∧ W n σ' H') ?_ m0 ⟨σ, H, I, w0⟩)
  rintro n s1 ⟨σ1, H1, I1, w1⟩
  refine wpAny_passesOwn hp (thn (hc pins s1 σ1 H1 _ I1 (turn n σ1 H1 w1)) fun b s2 ⟨H2, I2, q2⟩ => ?_)
  cases b with
  | true =>
    obtain ⟨N, hN, q2⟩ := q2
    rw [if_pos rfl]
    refine wpAny_passesOwn hp (thn (hb pins s2 σ1 H2 _ I2 q2) fun f s3 q3 => ?_)
    cases f with
    | next =>
      obtain ⟨σ3, H3, I3, n3⟩ := q3
      obtain ⟨m', hm, w3⟩ := hN σ3 H3 n3
      exact ⟨m', hm, σ3, H3, I3, w3⟩
    | cont =>
      obtain ⟨σ3, H3, I3, n3⟩ := q3
      obtain ⟨m', hm, w3⟩ := hN σ3 H3 n3
      exact ⟨m', hm, σ3, H3, I3, w3⟩
    | brk => exact q3
    | ret v => exact q3
  | false =>
    rw [if_neg Bool.false_ne_true]
    exact wpAny_execs_nil ⟨σ1, H2, I2, q2⟩
end
structure It where
  go : Nat → Hp → Prop
  yld : Nat → Hp → V → Hp → Prop
  stop : Nat → Hp → Prop
def FpOk (X : Cx) (pins : List (Addr × Obj)) (H : Hp) (b : Addr) : Prop :=
  H b = none ∧ b ≠ X.env.locals ∧ b ∉ X.fs ∧ (b ∈ X.ex ∨ X.s₀.heap.objs.size ≤ b) ∧ (∀ x c, X.env.cells.lookup x = some c → c ≠ b) ∧ ∀ p ∈ X.pn ++ pins, p.1 ≠ b
theorem Inv.fpOk {X : Cx} {pins : List (Addr × Obj)} {σ : St} {H H' : Hp} {s : Shared} {b : Addr} (I : Inv X pins σ H s) (hb : s.heap.objs.size ≤ b) (hn : H' b = none) : FpOk X pins H' b := by
  refine ⟨hn, Nat.ne_of_gt (Nat.lt_of_lt_of_le I.lt hb), I.nofs hb, .inr (Nat.le_trans I.sz hb), fun x c e z => ?_, fun p hp z => ?_⟩
  · obtain ⟨v, q⟩ := I.cell x c e
    exact absurd (Nat.lt_of_lt_of_le q.lt (by rw [z]; exact hb)) (Nat.lt_irrefl _)
  · exact absurd (Nat.lt_of_lt_of_le (Heap.lt_size (I.pin p hp).1) (by rw [z]; exact hb)) (Nat.lt_irrefl _)
structure Turn (P : Program) (w : World) (K : PySem.W.Frag) (tg : Expr) (J : It) (fp : List Addr) (it : Addr) (tn : Nat → Heap → Prop) : Prop where
  mem : it ∈ fp
  obj : ∀ i h, tn i h → ∀ b ∈ fp, ∃ o, h.get? b = some o ∧ ∀ v, o.data ≠ .cell v
  keep : ∀ i h h', tn i h → (∀ b ∈ fp, ∀ o, h.get? b = some o → h'.get? b = some o) → tn i h'
  item : ∀ (X : Cx), X.prog = P → X.w = w → X.K = K → X.calm = true → ∀ (i : Nat) (pins : List (Addr × Obj)) (s : Shared) (σ : St) (H : Hp) (E : Value → Shared → Prop), Inv X pins σ H s → (∀ b ∈ fp, FpOk X pins H b) → tn i s.heap → J.go i H →
    wpAny (model P w) X.A (pyNext (.ref it)) (fun r s1 => ∃ u, r = some u ∧
      wpAny (model P w) X.A (letOwnedTupleGo tg (.ref it) u) (fun _ s2 => ∃ x H', Inv X pins σ H' s2 ∧ RelV x u ∧ J.yld i H x H' ∧ tn (i + 1) s2.heap ∧ ∀ b ∈ fp, H' b = none) E s1) E s
  done : ∀ (X : Cx), X.prog = P → X.w = w → X.K = K → X.calm = true → ∀ (i : Nat) (pins : List (Addr × Obj)) (s : Shared) (σ : St) (H : Hp) (E : Value → Shared → Prop), Inv X pins σ H s → (∀ b ∈ fp, FpOk X pins H b) → tn i s.heap → J.stop i H →
    wpAny (model P w) X.A (pyNext (.ref it)) (fun r s1 => r = none ∧ Inv X pins σ H s1) E s
  self : ∀ (A : Around) (i : Nat) (s : Shared) (Q : Value → Shared → Prop) (E : Value → Shared → Prop), tn i s.heap → Q (.ref it) s → wpAny (model P w) A (pyIter (.ref it)) Q E s
abbrev TI := St → Hp → (It → Hp → Prop) → Prop
def PIE (X : Cx) (pins : List (Addr × Obj)) (σ : St) (tg : Expr) (R : It → Hp → Prop) (itv : Value) (s2 : Shared) : Prop :=
  ∃ (it : Addr) (fp : List Addr) (tn : Nat → Heap → Prop) (J : It) (H' : Hp), itv = .ref it ∧ Inv X pins σ H' s2 ∧ Turn X.prog X.w X.K tg J fp it tn ∧ tn 0 s2.heap ∧ (∀ b ∈ fp, FpOk X pins H' b) ∧ R J H'
def PI (X : Cx) (tg iter : Expr) (wi : TI) : Prop :=
  ∀ (pins : List (Addr × Obj)) (s : Shared) (σ : St) (H : Hp) (R : It → Hp → Prop), Inv X pins σ H s → wi σ H R →
    wpAny (model X.prog X.w) X.A (eval iter X.env) (fun v s1 => wpAny (model X.prog X.w) X.A (pyIter v) (PIE X pins σ tg R) X.xe s1) X.xe s
theorem go_of {M : Model} {A : Around} {E : Value → Shared → Prop} {s : Shared} {tg : Expr} {it : Addr} {u : Value} {o : Obj} {n : String} {vs : Array Value} {Q : Unit → Shared → Prop} (ho : s.heap.get? it = some o) (hc : o.cls = .type n) (hd : o.data = .fields vs)
    (hn : ["enumerate", "zip", "dict_itemiterator", "dict_reverseitemiterator", "odict_iterator", "itertools.zip_longest", "itertools.pairwise"].contains n = false) (hQ : Q () s) : wpAny M A (letOwnedTupleGo tg (.ref it) u) Q E s := by
  unfold letOwnedTupleGo
  cases tg <;> first
    | exact wpAny_pure hQ
    | (cases u <;> first
        | exact wpAny_pure hQ
        | (refine wpAny_bind (wpAny_load ho ?_)
           rw [hc, hd]
           show wpAny M A (if (["enumerate", "zip", "dict_itemiterator", "dict_reverseitemiterator", "odict_iterator", "itertools.zip_longest", "itertools.pairwise"].contains n && vs[0]? == some (rawInt _)) = true then _ else _) Q E s
           rw [if_neg (by intro h; rw [hn, Bool.false_and] at h; cases h)]
           exact wpAny_pure hQ))
def Itl (K : PySem.W.Frag) (a : Addr) : It :=
  ⟨fun i H => ∃ xs x, SqL K H a xs ∧ xs[i]? = some x, fun i H x H' => H' = H ∧ ∀ xs, SqL K H a xs → xs[i]? = some x, fun i H => ∃ xs, SqL K H a xs ∧ xs.length ≤ i⟩
def Itt (K : PySem.W.Frag) (a : Addr) : It :=
  ⟨fun i H => ∃ xs x, SqT K H a xs ∧ xs[i]? = some x, fun i H x H' => H' = H ∧ ∀ xs, SqT K H a xs → xs[i]? = some x, fun i H => ∃ xs, SqT K H a xs ∧ xs.length ≤ i⟩
def Itr (lo : Int) (n : Nat) : It := ⟨fun i _ => i < n, fun i H x H' => H' = H ∧ x = .int (lo + i), fun i _ => n ≤ i⟩
theorem turn_list {P : Program} {w : World} {K : PySem.W.Frag} {tg : Expr} (a it : Addr) : Turn P w K tg (Itl K a) [it] it (fun i h => h.IsListIter it a i) where
  mem := by simp
  obj := fun i h st b hb => by
    have e : b = it := by simpa using hb
    subst e
    obtain ⟨o, e, c, d⟩ := st
    exact ⟨o, e, fun v z => by rw [d] at z; cases z⟩
  keep := fun i h h' st k => st.at fun o e => k it (by simp) o e
  item := by
    intro X hP hw hK hc i pins s σ H E I hf st hg
    subst hP hw hK
    obtain ⟨xs, x, hq, hx⟩ := hg
    obtain ⟨its, rv, p, hz⟩ := I.list hq
    obtain ⟨u, hu, ru⟩ := rv.get hx
    obtain ⟨f0, f1, f2, f3, f4, f5⟩ := hf it (by simp)
    refine wpAny_pyNext_list_item st p.isList (x := u) (by simpa using hu) fun h' st' sb => ?_
    have I1 : Inv X pins σ H { s with heap := h' } := I.turned (t' := s.toks) (fun b o hb e => (sb.2 b hb).trans e) f0 f1 f3 f4 f5
    obtain ⟨o, e, c, d⟩ := id st'
    exact ⟨u, rfl, go_of (s := { s with heap := h' }) e c d (by decide) ⟨x, H, I1, ru, ⟨rfl, fun ys hy => by rw [I.list_inj hy hq]; exact hx⟩, st', fun b hb => (hf b hb).1⟩⟩
  done := by
    intro X hP hw hK hc i pins s σ H E I hf st hg
    subst hP hw hK
    obtain ⟨xs, hq, hx⟩ := hg
    obtain ⟨its, rv, p, hz⟩ := I.list hq
    obtain ⟨f0, f1, f2, f3, f4, f5⟩ := hf it (by simp)
    have hl := rv.length
    exact wpAny_pyNext_list_end (I.ok.hd hc) st p.isList (by simp; omega) fun h' eb => ⟨rfl, I.turned (t' := s.toks) (fun b o hb e => eb b o hb e) f0 f1 f3 f4 f5⟩
  self := fun _ _ _ _ _ st h => wpAny_pyIter_listiter st h
theorem turn_range {P : Program} {w : World} {K : PySem.W.Frag} {tg : Expr} (it : Addr) (lo : Int) (n : Nat) : Turn P w K tg (Itr lo n) [it] it (fun i h => IsRangeIter h it (lo + (i : Nat) * 1) ((n : Int) - (i : Nat)) 1) where
  mem := by simp
  obj := fun i h st b hb => by
    have e : b = it := by simpa using hb
    subst e
    exact ⟨_, st, fun v z => by
      have z' : Data.fields _ = Data.cell v := z
      cases z'⟩
  keep := fun i h h' st k => k it (by simp) _ st
  item := by
    intro X hP hw hK hc i pins s σ H E I hf st hg
    subst hP hw hK
    obtain ⟨f0, f1, f2, f3, f4, f5⟩ := hf it (by simp)
    have W := Walks.range (prog := X.prog) (w := X.w) (I.ok.hd hc) it lo 1 n
    refine W.item i s _ _ hg st fun v h' tk hv st' kk => ?_
    obtain ⟨t, rfl⟩ := hv
    have I1 : Inv X pins σ H { s with heap := h', toks := tk } := I.turned (fun b o hb e => kk b o (by simpa using hb) e) f0 f1 f3 f4 f5
    refine ⟨_, rfl, go_of (s := { s with heap := h', toks := tk }) (n := "range_iterator") st' rfl rfl (by decide) ⟨.int (lo + i), H, I1, ⟨t, ?_⟩, ⟨rfl, rfl⟩, st', fun b hb => (hf b hb).1⟩⟩
    rw [Int.mul_one]
  done := by
    intro X hP hw hK hc i pins s σ H E I hf st hg
    subst hP hw hK
    obtain ⟨f0, f1, f2, f3, f4, f5⟩ := hf it (by simp)
    exact wpAny_pyNext_range_end (I.ok.hd hc) st (by have : n ≤ i := hg; omega) fun h' eb => ⟨rfl, I.turned (t' := s.toks) (fun b o hb e => eb b o hb e) f0 f1 f3 f4 f5⟩
  self := fun _ _ _ _ _ st h => wpAny_pyIter_rangeiter st h
end L2

namespace L2
open PySem PySem.Spec PyProof.Rows
section
variable {X : Cx} {tg : Expr}
def iList (K : PySem.W.Frag) (tl : TE) : TI := fun σ H R => tl σ H fun x H1 => ∃ a, x = .ref a ∧ (∃ xs, SqL K H1 a xs) ∧ R (Itl K a) H1
def iTup (K : PySem.W.Frag) (tl : TE) : TI := fun σ H R => tl σ H fun x H1 => ∃ a, x = .ref a ∧ (∃ xs, SqT K H1 a xs) ∧ R (Itt K a) H1
theorem pi_list {l : Expr} {tl : TE} (hl : PE X l tl) : PI X tg l (iList X.K tl) := by
  intro pins s σ H R I h
  refine thn (hl pins s σ H _ I h) fun v s1 ⟨x, H1, I1, r1, q1⟩ => ?_
  obtain ⟨a, e, ⟨xs, hq⟩, q⟩ := q1
  subst e
  cases r1
  obtain ⟨its, rv, p, hz⟩ := I1.list hq
  refine wpAny_pyIter_list p.isList ?_
  refine ⟨s1.heap.objs.size, [s1.heap.objs.size], _, _, H1, rfl, I1.kept (t' := s1.toks) fun b o e => Heap.get?_push_of_some _ e, turn_list a _, ⟨_, Heap.get?_push_size _ rfl, rfl, rfl⟩, fun b hb => ?_, q⟩
  have e : b = s1.heap.objs.size := by simpa using hb
  subst e
  exact I1.fpOk (Nat.le_refl _) (I1.hok.fresh (Nat.le_refl _))
theorem range_it {pins : List (Addr × Obj)} {σ : St} {H : Hp} {s : Shared} {R : It → Hp → Prop} {E : Value → Shared → Prop} {lo hi : Int} {t u v : Tok} {tk : Nat} (I : Inv X pins σ H s) (h1 : -(2 ^ 62) ≤ lo) (h2 : lo < 2 ^ 62) (h3 : -(2 ^ 62) ≤ hi) (h4 : hi < 2 ^ 62)
    (q : R (Itr lo (hi - lo).toNat) H) : wpAny (model X.prog X.w) X.A (pyIter (.ref s.heap.objs.size)) (PIE X pins σ tg R) E { s with heap := s.heap.push { cls := .type "range", data := .fields #[.int lo t, .int hi u, .int 1 v] }, toks := tk } := by
  refine wpAny_pyIter_range (IsRange.new ..) (small_one h1 h2 h3 h4) ?_
  have I1 : Inv X pins σ H { s with heap := s.heap.push { cls := .type "range", data := .fields #[.int lo t, .int hi u, .int 1 v] }, toks := tk } := I.kept fun b o e => Heap.get?_push_of_some _ e
  refine ⟨(s.heap.push { cls := .type "range", data := .fields #[.int lo t, .int hi u, .int 1 v] }).objs.size, [(s.heap.push { cls := .type "range", data := .fields #[.int lo t, .int hi u, .int 1 v] }).objs.size], _, _, H, rfl,
    I1.kept (t' := tk) fun b o e => Heap.get?_push_of_some _ e, turn_range _ lo (hi - lo).toNat, ?_, fun b hb => ?_, q⟩
  · have e1 : lo + ((0 : Nat) : Int) * 1 = lo := by simp
    have e2 : (((hi - lo).toNat : Nat) : Int) - ((0 : Nat) : Int) = Builtin.Range.rangeSize lo hi 1 := by rw [rangeSize_one]; split <;> omega
    show IsRangeIter _ _ (lo + ((0 : Nat) : Int) * 1) ((((hi - lo).toNat : Nat) : Int) - ((0 : Nat) : Int)) 1
    rw [e1, e2]
    exact Heap.get?_push_size _ rfl
  · have e : b = (s.heap.push { cls := .type "range", data := .fields #[.int lo t, .int hi u, .int 1 v] }).objs.size := by simpa using hb
    subst e
    exact I1.fpOk (Nat.le_refl _) (I1.hok.fresh (Nat.le_refl _))
def iRng1 (ta : TA) : TI := fun σ H R => ta σ H fun vs H1 => ∃ j : Int, vs = [.int j] ∧ -(2 ^ 62) ≤ j ∧ j < 2 ^ 62 ∧ R (Itr 0 j.toNat) H1
def iRng2 (ta : TA) : TI := fun σ H R => ta σ H fun vs H1 => ∃ i j : Int, vs = [.int i, .int j] ∧ (-(2 ^ 62) ≤ i ∧ i < 2 ^ 62 ∧ -(2 ^ 62) ≤ j ∧ j < 2 ^ 62) ∧ R (Itr i (j - i).toNat) H1
theorem pi_range1 {a : Expr} {ta : TA} {p pos : Pos} (hg : Gl X "range") (hm : X.mg "range" = none) (ha : PA X [a] ta) (hs : starEach [a] X.env = [(false, eval a X.env)] := by rfl) : PI X tg (.Call (.Name "range" p) [a] [] pos) (iRng1 ta) := by
  intro pins s σ H R I h
  refine Call_ (ld_blt I hg hm boot_range (PyProof.Rows.callWith_type1 (thn (ha pos pins s σ H _ I h) fun us s1 ⟨vs, H1, I1, r1, q1⟩ => ?_) hs rfl))
  obtain ⟨j, e, q1, q2, q⟩ := q1
  subst e
  cases r1 with
  | cons r rr =>
    cases rr
    obtain ⟨t, rfl⟩ := r
    exact call_range_1 (range_it I1 (by omega) (by omega) q1 q2 (by simpa using q))
theorem pi_range2 {a b : Expr} {ta : TA} {p pos : Pos} (hg : Gl X "range") (hm : X.mg "range" = none) (ha : PA X [a, b] ta) (hs : starEach [a, b] X.env = [(false, eval a X.env), (false, eval b X.env)] := by rfl) (hs2 : starEach [b] X.env = [(false, eval b X.env)] := by rfl) :
    PI X tg (.Call (.Name "range" p) [a, b] [] pos) (iRng2 ta) := by
  intro pins s σ H R I h
  refine Call_ (ld_blt I hg hm boot_range (PyProof.Rows.callWith_type1 (thn (ha pos pins s σ H _ I h) fun us s1 ⟨vs, H1, I1, r1, q1⟩ => ?_) (by rw [hs, hs2]) (by rw [hs2]; rfl)))
  obtain ⟨i, j, e, ⟨q1, q2, q3, q4⟩, q⟩ := q1
  subst e
  cases r1 with
  | cons r rr =>
    cases rr with
    | cons r' rr =>
      cases rr
      obtain ⟨t, rfl⟩ := r
      obtain ⟨t', rfl⟩ := r'
      exact call_range_2 (range_it I1 q1 q2 q3 q4 q)
def tFor (wi : TI) (g : TG) (tb : TS) : TS := fun D σ H => wi σ H fun J H1 => ∃ W : Nat → Nat → St → Hp → Prop, (∃ m, W 0 m σ H1) ∧ ∀ i m σ H, W i m σ H →
  (J.stop i H ∧ D.nx σ H) ∨ (J.go i H ∧ ∃ N : St → Hp → Prop, (∀ σ' H', N σ' H' → ∃ m', m' < m ∧ W (i + 1) m' σ' H') ∧ ∀ x H', J.yld i H x H' → g x σ H' fun σ2 H2 => tb { D with nx := N, ct := N, bk := D.nx } σ2 H2)
def pinsAt (fp : List Addr) (h : Heap) : List (Addr × Obj) := fp.filterMap fun b => (h.get? b).map fun o => (b, o)
theorem mem_pinsAt {fp : List Addr} {h : Heap} {b : Addr} {o : Obj} (hb : b ∈ fp) (e : h.get? b = some o) : (b, o) ∈ pinsAt fp h := List.mem_filterMap.mpr ⟨b, hb, by rw [e]; rfl⟩
theorem of_pinsAt {fp : List Addr} {h : Heap} {p : Addr × Obj} (hp : p ∈ pinsAt fp h) : p.1 ∈ fp ∧ h.get? p.1 = some p.2 := by
  obtain ⟨b, hb, e⟩ := List.mem_filterMap.mp hp
  cases q : h.get? b with
  | none => rw [q] at e; cases e
  | some o =>
    rw [q] at e
    have e' : (b, o) = p := Option.some.inj e
    subst e'
    exact ⟨hb, q⟩
theorem Inv.pinned {pins : List (Addr × Obj)} {σ : St} {H : Hp} {s : Shared} {fp : List Addr} (I : Inv X pins σ H s) (hf : ∀ b ∈ fp, FpOk X pins H b) (ho : ∀ b ∈ fp, ∃ o, s.heap.get? b = some o ∧ ∀ v, o.data ≠ .cell v) : Inv X (pins ++ pinsAt fp s.heap) σ H s :=
  I.pins_of fun p hp => (List.mem_append.mp hp).elim (fun z => I.pin p (List.mem_append_right _ z)) fun z => by
    obtain ⟨hb, e⟩ := of_pinsAt z
    obtain ⟨f0, f1, f2, _⟩ := hf p.1 hb
    obtain ⟨o, e', d⟩ := ho p.1 hb
    rw [e] at e'; cases e'
    exact ⟨e, f0, f1, f2, d⟩
theorem Inv.unpinned {pins pl : List (Addr × Obj)} {σ : St} {H : Hp} {s : Shared} (I : Inv X (pins ++ pl) σ H s) : Inv X pins σ H s := I.pins_of fun p hp => I.pin p (List.mem_append_right _ (List.mem_append_left _ hp))
theorem ps_for {iter : Expr} {body : List Stmt} {wi : TI} {g : TG} {tb : TS} {pos : Pos} (hp : PassesOwn (model X.prog X.w) X.A X.env X.xe) (hc : X.calm = true) (hi : PI X tg iter wi) (hg : PG X tg g) (hb : PSs X body tb)
    (hs : ∀ x, foldedSetIterable iter X.env x = pure x := by intro _; rfl) : PS X (.For tg iter body [] pos) (tFor wi g tb) := by
  intro pins s σ H D I h
  refine wpAny_For (thn (hi pins s σ H _ I h) fun v s1 h1 => thn h1 fun itv s2 h2 => ?_) hs
  obtain ⟨it, fp, tn, J, H2, e, I2, T, st2, f2, W, ⟨m0, w0⟩, turn⟩ := h2
  subst e
  -- what stays true of the iterator's objects through the loop
  have stat : ∀ {H' : Hp}, (∀ b ∈ fp, H' b = none) → ∀ b ∈ fp, FpOk X pins H' b := fun hn b hb => ⟨hn b hb, (f2 b hb).2⟩
  refine codeAny_forLoop_any (fun n s' => ∃ i σ' H', Inv X pins σ' H' s' ∧ tn i s'.heap ∧ (∀ b ∈ fp, H' b = none) ∧ W i n σ' H') ?_ m0 ⟨0, σ, H2, I2, st2, fun b hb => (f2 b hb).1, w0⟩
  rintro n s3 ⟨i, σ3, H3, I3, st3, fr3, w3⟩
  rcases turn i n σ3 H3 w3 with ⟨stop, qn⟩ | ⟨go, N, hN, step⟩
  · refine wpAny_passesOwn hp (thn (T.done X rfl rfl rfl hc i pins s3 σ3 H3 X.xe I3 (stat fr3) st3 stop) fun r s4 ⟨hr, I4⟩ => ?_)
    subst hr
    exact wpAny_execs_nil ⟨σ3, H3, I4, qn⟩
  · refine wpAny_passesOwn hp (thn (T.item X rfl rfl rfl hc i pins s3 σ3 H3 X.xe I3 (stat fr3) st3 go) fun r s4 ⟨u, hr, h4⟩ => ?_)
    subst hr
    refine wpAny_passesOwn hp (thn h4 fun _ s5 ⟨x, H5, I5, r5, y5, st5, fr5⟩ => ?_)
    have I5' := I5.pinned (stat fr5) (T.obj _ _ st5)
    refine wpAny_passesOwn hp (thn (hg _ s5 σ3 H5 x u _ I5' r5 (step x H5 y5)) fun _ s6 ⟨σ6, H6, I6, q6⟩ => ?_)
    refine wpAny_passesOwn hp (thn (hb _ s6 σ6 H6 _ I6 q6) fun f s7 q7 => ?_)
    have again : ∀ {σ7 : St} {H7 : Hp}, Inv X (pins ++ pinsAt fp s5.heap) σ7 H7 s7 → N σ7 H7 → ∃ m, m < n ∧ ∃ i σ' H', Inv X pins σ' H' s7 ∧ tn i s7.heap ∧ (∀ b ∈ fp, H' b = none) ∧ W i m σ' H' := fun {σ7 H7} I7 n7 => by
      obtain ⟨m', hm, w7⟩ := hN σ7 H7 n7
      refine ⟨m', hm, i + 1, σ7, H7, I7.unpinned, T.keep _ _ _ st5 fun b hb o e => (I7.pin (b, o) (List.mem_append_right _ (List.mem_append_right _ (mem_pinsAt hb e)))).1, fun b hb => ?_, w7⟩
      obtain ⟨o, e, d⟩ := T.obj _ _ st5 b hb
      exact (I7.pin (b, o) (List.mem_append_right _ (List.mem_append_right _ (mem_pinsAt hb e)))).2.1
    cases f with
    | next => obtain ⟨σ7, H7, I7, n7⟩ := q7; exact again I7 n7
    | cont => obtain ⟨σ7, H7, I7, n7⟩ := q7; exact again I7 n7
    | brk => obtain ⟨σ7, H7, I7, q7⟩ := q7; exact ⟨σ7, H7, I7.unpinned, q7⟩
    | ret v => obtain ⟨x7, σ7, H7, I7, r7, q7⟩ := q7; exact ⟨x7, σ7, H7, I7.unpinned, r7, q7⟩
end
theorem for_list {K : PySem.W.Frag} {a : Addr} {xs : List V} {g : TG} {tb : TS} {D : Ends} {σ : St} {H : Hp} (Pv : Nat → St → Hp → Prop) (h0 : Pv 0 σ H) (hl : ∀ i σ H, i ≤ xs.length → Pv i σ H → SqL K H a xs)
    (hs : ∀ i x σ H, xs[i]? = some x → Pv i σ H → g x σ H fun σ2 H2 => tb { D with nx := Pv (i + 1), ct := Pv (i + 1), bk := D.nx } σ2 H2) (hd : ∀ σ H, Pv xs.length σ H → D.nx σ H) :
    ∃ W : Nat → Nat → St → Hp → Prop, (∃ m, W 0 m σ H) ∧ ∀ i m σ H, W i m σ H →
      ((Itl K a).stop i H ∧ D.nx σ H) ∨ ((Itl K a).go i H ∧ ∃ N : St → Hp → Prop, (∀ σ' H', N σ' H' → ∃ m', m' < m ∧ W (i + 1) m' σ' H') ∧ ∀ x H', (Itl K a).yld i H x H' → g x σ H' fun σ2 H2 => tb { D with nx := N, ct := N, bk := D.nx } σ2 H2) := by
  refine ⟨fun i m σ H => m = xs.length - i ∧ i ≤ xs.length ∧ Pv i σ H, ⟨xs.length, by simp, Nat.zero_le _, h0⟩, ?_⟩
  rintro i m σ H ⟨rfl, hi, p⟩
  have q := hl i σ H hi p
  by_cases hlt : i < xs.length
  · refine .inr ⟨⟨xs, xs[i], q, by simp [hlt]⟩, Pv (i + 1), fun σ' H' p' => ⟨xs.length - (i + 1), by omega, rfl, hlt, p'⟩, fun x H' y => ?_⟩
    obtain ⟨e, y⟩ := y
    subst e
    exact hs i x σ _ (y xs q) p
  · have e : i = xs.length := by omega
    subst e
    exact .inl ⟨⟨xs, q, Nat.le_refl _⟩, hd σ H p⟩
theorem for_range {lo : Int} {n : Nat} {g : TG} {tb : TS} {D : Ends} {σ : St} {H : Hp} (Pv : Nat → St → Hp → Prop) (h0 : Pv 0 σ H)
    (hs : ∀ i σ H, i < n → Pv i σ H → g (.int (lo + i)) σ H fun σ2 H2 => tb { D with nx := Pv (i + 1), ct := Pv (i + 1), bk := D.nx } σ2 H2) (hd : ∀ σ H, Pv n σ H → D.nx σ H) :
    ∃ W : Nat → Nat → St → Hp → Prop, (∃ m, W 0 m σ H) ∧ ∀ i m σ H, W i m σ H →
      ((Itr lo n).stop i H ∧ D.nx σ H) ∨ ((Itr lo n).go i H ∧ ∃ N : St → Hp → Prop, (∀ σ' H', N σ' H' → ∃ m', m' < m ∧ W (i + 1) m' σ' H') ∧ ∀ x H', (Itr lo n).yld i H x H' → g x σ H' fun σ2 H2 => tb { D with nx := N, ct := N, bk := D.nx } σ2 H2) := by
  refine ⟨fun i m σ H => m = n - i ∧ i ≤ n ∧ Pv i σ H, ⟨n, by simp, Nat.zero_le _, h0⟩, ?_⟩
  rintro i m σ H ⟨rfl, hi, p⟩
  by_cases hlt : i < n
  · refine .inr ⟨hlt, Pv (i + 1), fun σ' H' p' => ⟨n - (i + 1), by omega, rfl, hlt, p'⟩, fun x H' y => ?_⟩
    obtain ⟨e, y⟩ := y
    subst e y
    exact hs i σ _ hlt p
  · have e : i = n := by omega
    subst e
    exact .inl ⟨Nat.le_refl _, hd σ H p⟩
end L2

namespace L2
open PySem PySem.Spec PyProof.Rows

abbrev R2 := V → V → Hp → VK → Prop
def OpR (X : Cx) (f : Value → Value → Sem Value) (r : R2) : Prop :=
  ∀ (pins : List (Addr × Obj)) (s : Shared) (σ : St) (H : Hp) (x y : V) (v u : Value) (Q : VK), Inv X pins σ H s → RelV x v → RelV y u → r x y H Q →
    wpAny (model X.prog X.w) X.A (f v u) (EP X pins σ Q) X.xe s
def UnR (X : Cx) (f : Value → Sem Value) (r : V → Hp → VK → Prop) : Prop :=
  ∀ (pins : List (Addr × Obj)) (s : Shared) (σ : St) (H : Hp) (x : V) (v : Value) (Q : VK), Inv X pins σ H s → RelV x v → r x H Q →
    wpAny (model X.prog X.w) X.A (f v) (EP X pins σ Q) X.xe s
def CallR (X : Cx) (f : Value) (r : List V → Hp → VK → Prop) : Prop :=
  ∀ (pins : List (Addr × Obj)) (s : Shared) (σ : St) (H : Hp) (xs : List V) (us : List Value) (Q : VK), Inv X pins σ H s → Vals xs us → r xs H Q →
    wpAny (model X.prog X.w) X.A (call f us) (EP X pins σ Q) X.xe s
def TruR (X : Cx) (r : V → Hp → (Bool → Hp → Prop) → Prop) : Prop :=
  ∀ (pins : List (Addr × Obj)) (s : Shared) (σ : St) (H : Hp) (x : V) (v : Value) (Q : Bool → Hp → Prop), Inv X pins σ H s → RelV x v → r x H Q →
    wpAny (model X.prog X.w) X.A (truthy v) (TP X pins σ Q) X.xe s

def tOp (r : R2) (ta tb : TE) : TE := fun σ H Q => ta σ H fun x H1 => tb σ H1 fun y H2 => r x y H2 Q
def tUn (r : V → Hp → VK → Prop) (ta : TE) : TE := fun σ H Q => ta σ H fun x H1 => r x H1 Q
def rI (C : Int → Int → Prop) (g : Int → Int → V) : R2 := fun x y H Q => ∃ i j, x = .int i ∧ y = .int j ∧ C i j ∧ Q (g i j) H
def rI0 (g : Int → Int → V) : R2 := fun x y H Q => ∃ i j, x = .int i ∧ y = .int j ∧ Q (g i j) H
def rU (g : Int → V) : V → Hp → VK → Prop := fun x H Q => ∃ i, x = .int i ∧ Q (g i) H

section
variable {X : Cx} {a b c : Expr} {ta tb tc : TE} {pos : Pos}

theorem binT (ha : PE X a ta) (hb : PE X b tb) {pins : List (Addr × Obj)} {s : Shared} {σ : St} {H : Hp} {R : V → V → Hp → Prop} (I : Inv X pins σ H s)
    (h : ta σ H fun x H1 => tb σ H1 fun y H2 => R x y H2) {Q : Value → Shared → Prop} {f : Value → Value → Sem Value}
    (hf : ∀ v u s2 x y H2, Inv X pins σ H2 s2 → RelV x v → RelV y u → R x y H2 → wpAny (model X.prog X.w) X.A (f v u) Q X.xe s2) :
    wpAny (model X.prog X.w) X.A (eval a X.env) (fun v s₁ => wpAny (model X.prog X.w) X.A (eval b X.env) (fun u s₂ => wpAny (model X.prog X.w) X.A (f v u) Q X.xe s₂) X.xe s₁) X.xe s := by
  refine thn (ha pins s σ H _ I h) fun v s1 ⟨x, H1, I1, r1, q1⟩ => ?_
  refine thn (hb pins s1 σ H1 _ I1 q1) fun u s2 ⟨y, H2, I2, r2, q2⟩ => ?_
  exact hf v u s2 x y H2 I2 r1 r2 q2

theorem pe_op {op : Operator} {r : R2} (ho : OpR X (binaryOp op) r) (ha : PE X a ta) (hb : PE X b tb) : PE X (.BinOp a op b pos) (tOp r ta tb) := by
  intro pins s σ H Q I h
  exact wpAny_BinOp (binT ha hb I h fun v u s2 x y H2 I2 rx ry q => ho pins s2 σ H2 x y v u Q I2 rx ry q)
theorem pe_un {op : UnaryOp} {r : V → Hp → VK → Prop} (ho : UnR X (unaryOp op) r) (ha : PE X a ta) : PE X (.UnaryOp op a pos) (tUn r ta) := by
  intro pins s σ H Q I h
  exact UnaryOp_ (thn (ha pins s σ H _ I h) fun v s1 ⟨x, H1, I1, r1, q1⟩ => ho pins s1 σ H1 x v Q I1 r1 q1)
theorem opI {f : Value → Value → Sem Value} {C : Int → Int → Prop} {g : Int → Int → Int}
    (rule : ∀ (i j : Int) (t u : Tok) (s : Shared) (Q : Value → Shared → Prop) (E : Value → Shared → Prop), C i j → Q (.int (g i j) s.toks) { s with toks := s.toks + 1 } → wpAny (model X.prog X.w) X.A (f (.int i t) (.int j u)) Q E s) :
    OpR X f (rI C fun i j => .int (g i j)) := by
  intro pins s σ H x y v u Q I rx ry h
  obtain ⟨i, j, rfl, rfl, hc, q⟩ := h
  obtain ⟨t, rfl⟩ := rx
  obtain ⟨t', rfl⟩ := ry
  exact rule i j t t' s _ _ hc ⟨.int (g i j), H, I.tok _, ⟨_, rfl⟩, q⟩
theorem opI0 {f : Value → Value → Sem Value} {g : Int → Int → Int}
    (rule : ∀ (i j : Int) (t u : Tok) (s : Shared) (Q : Value → Shared → Prop) (E : Value → Shared → Prop), Q (.int (g i j) s.toks) { s with toks := s.toks + 1 } → wpAny (model X.prog X.w) X.A (f (.int i t) (.int j u)) Q E s) :
    OpR X f (rI0 fun i j => .int (g i j)) := by
  intro pins s σ H x y v u Q I rx ry h
  obtain ⟨i, j, rfl, rfl, q⟩ := h
  obtain ⟨t, rfl⟩ := rx
  obtain ⟨t', rfl⟩ := ry
  exact rule i j t t' s _ _ ⟨.int (g i j), H, I.tok _, ⟨_, rfl⟩, q⟩
theorem opB0 {f : Value → Value → Sem Value} {g : Int → Int → Bool}
    (rule : ∀ (i j : Int) (t u : Tok) (s : Shared) (Q : Value → Shared → Prop) (E : Value → Shared → Prop), Q (.bool (g i j)) s → wpAny (model X.prog X.w) X.A (f (.int i t) (.int j u)) Q E s) :
    OpR X f (rI0 fun i j => .bl (g i j)) := by
  intro pins s σ H x y v u Q I rx ry h
  obtain ⟨i, j, rfl, rfl, q⟩ := h
  obtain ⟨t, rfl⟩ := rx
  obtain ⟨t', rfl⟩ := ry
  exact rule i j t t' s _ _ ⟨.bl (g i j), H, I, rfl, q⟩

def CDiv (i j : Int) : Prop := 0 < j ∧ j < 1073741824
def CDivN (i j : Int) : Prop := j ≠ 0 ∧ j.natAbs < 1073741824
def CPow (i j : Int) : Prop := 0 ≤ j ∧ j ≤ 1000000 ∧ i.natAbs < 2 ^ 64
def CMul (i j : Int) : Prop := (-(2 ^ 64) < i ∧ i < 2 ^ 64) ∨ (-(2 ^ 64) < j ∧ j < 2 ^ 64)
theorem CMul.ok {i j : Int} (h : CMul i j) : IntMulOk i j := by
  rcases h with ⟨h1, h2⟩ | ⟨h1, h2⟩
  · exact .of_left (intBits_le_64 h1 h2)
  · exact .of_right (intBits_le_64 h1 h2)
theorem two_pow_nn (k : Nat) : (0 : Int) ≤ 2 ^ k := by
  rw [two_pow_cast]
  exact Int.natCast_nonneg _

theorem op_add : OpR X (binaryOp .Add) (rI0 fun i j => .int (i + j)) := opI0 fun _ _ _ _ _ _ _ q => add_int q
theorem op_sub : OpR X (binaryOp .Sub) (rI0 fun i j => .int (i - j)) := opI0 fun _ _ _ _ _ _ _ q => sub_int q
theorem op_mul : OpR X (binaryOp .Mult) (rI CMul fun i j => .int (i * j)) := opI fun _ _ _ _ _ _ _ hc q => mul_int q hc.ok
theorem op_fdiv : OpR X (binaryOp .FloorDiv) (rI CDiv fun i j => .int (i / j)) := opI fun i j _ _ _ _ _ hc q => by
  have h1 : (0 : Int) < j := hc.1
  have h2 : j < 1073741824 := hc.2
  exact floordiv_int (by omega) (by rw [Int.fdiv_eq_ediv_of_nonneg i (by omega)]; exact q) (.inl (PyProof.noPylong_small (by omega)))
theorem op_mod : OpR X (binaryOp .Mod) (rI (fun _ j => 0 < j) fun i j => .int (i % j)) := opI fun i j _ _ _ _ _ hc q => by
  have h1 : (0 : Int) < j := hc
  exact mod_int' (by omega) (by rw [Int.fmod_eq_emod_of_nonneg i (by omega)]; exact q)
theorem op_pow : OpR X (binaryOp .Pow) (rI CPow fun i j => .int (i ^ j.toNat)) := opI fun _ _ _ _ _ _ _ hc q => pow_int_small hc.1 hc.2.1 hc.2.2 q
theorem op_shl : OpR X (binaryOp .LShift) (rI CPow fun i j => .int (i * 2 ^ j.toNat)) := opI fun _ _ _ _ _ _ _ hc q => lshift_int_small hc.1 hc.2.1 hc.2.2 q
theorem op_shr : OpR X (binaryOp .RShift) (rI (fun _ j => 0 ≤ j) fun i j => .int (i / 2 ^ j.toNat)) := opI fun i j _ _ _ _ _ hc q =>
  rshift_int hc (by rw [Int.fdiv_eq_ediv_of_nonneg i (two_pow_nn _)]; exact q)
theorem op_and : OpR X (binaryOp .BitAnd) (rI0 fun i j => .int (Builtin.bitAnd i j)) := opI0 fun _ _ _ _ _ _ _ q => and_int q
theorem op_or : OpR X (binaryOp .BitOr) (rI0 fun i j => .int (Builtin.bitOr i j)) := opI0 fun _ _ _ _ _ _ _ q => or_int q
theorem unI {f : Value → Sem Value} {g : Int → Int}
    (rule : ∀ (i : Int) (t : Tok) (s : Shared) (Q : Value → Shared → Prop) (E : Value → Shared → Prop), Q (.int (g i) s.toks) { s with toks := s.toks + 1 } → wpAny (model X.prog X.w) X.A (f (.int i t)) Q E s) :
    UnR X f (rU fun i => .int (g i)) := by
  intro pins s σ H x v Q I rx h
  obtain ⟨i, rfl, q⟩ := h
  obtain ⟨t, rfl⟩ := rx
  exact rule i t s _ _ ⟨.int (g i), H, I.tok _, ⟨_, rfl⟩, q⟩
theorem un_neg : UnR X (unaryOp .USub) (rU fun i => .int (-i)) := unI fun _ _ _ _ _ q => neg_int q
end
def scal : V → V → Bool
  | .non, .non => true | .non, .int _ => true | .int _, .non => true | .non, .bl _ => true | .bl _, .non => true | .non, .str _ => true | .str _, .non => true
  | .int _, .int _ => true | .bl _, .bl _ => true | .str _, .str _ => true | .byt _, .byt _ => true
  | .int _, .str _ => true | .str _, .int _ => true | .bl _, .str _ => true | .str _, .bl _ => true
  | _, _ => false
def rEq : R2 := fun x y H Q => scal x y = true ∧ Q (.bl (decide (x = y))) H
def rNe : R2 := fun x y H Q => scal x y = true ∧ Q (.bl (!decide (x = y))) H

theorem dec_int {i j : Int} : decide (V.int i = V.int j) = (i == j) := by
  rw [Bool.eq_iff_iff]
  simp
theorem dec_bl {i j : Bool} : decide (V.bl i = V.bl j) = (i == j) := by
  rw [Bool.eq_iff_iff]
  simp
theorem dec_str {i j : Str} : decide (V.str i = V.str j) = (i == j) := by
  rw [Bool.eq_iff_iff]
  simp
theorem dec_byt {i j : Array UInt8} : decide (V.byt i = V.byt j) = (i.toList == j.toList) := by
  rw [Bool.eq_iff_iff]
  cases i
  cases j
  simp

section
variable {X : Cx} {a b c : Expr} {ta tb tc : TE} {pos : Pos}
theorem fin_bl {pins : List (Addr × Obj)} {σ : St} {H : Hp} {s : Shared} {Q : VK} {k k' : Bool} (I : Inv X pins σ H s) (q : Q (.bl k) H) (e : k = k') : EP X pins σ Q (.bool k') s := by
  subst e
  exact ⟨.bl k, H, I, rfl, q⟩
theorem op_eq : OpR X (compareOp .Eq) rEq := by
  intro pins s σ H x y v u Q I rx ry h
  obtain ⟨hs, q⟩ := h
  cases x with
  | non =>
    cases rx
    cases y with
    | non => cases ry; exact PySem.EqNone.eq_none_none (fin_bl I q (by simp))
    | bl j => cases ry; exact PySem.EqNone.eq_none_bool (fin_bl I q (by simp))
    | int j => obtain ⟨t', rfl⟩ := ry; exact PySem.EqNone.eq_none_int (fin_bl I q (by simp))
    | str j => obtain ⟨t', rfl⟩ := ry; exact PySem.EqNone.eq_none_str (fin_bl I q (by simp))
    | _ => exact absurd (show false = true from hs) Bool.false_ne_true
  | bl i =>
    cases rx
    cases y with
    | non => cases ry; exact PySem.EqNone.eq_bool_none (fin_bl I q (by simp))
    | bl j => cases ry; exact eq_bool (fin_bl I q dec_bl)
    | str j => obtain ⟨t', rfl⟩ := ry; exact PySem.EqMixed.eq_bool_str (fin_bl I q (by simp))
    | _ => exact absurd (show false = true from hs) Bool.false_ne_true
  | int i =>
    obtain ⟨t, rfl⟩ := rx
    cases y with
    | non => cases ry; exact PySem.EqNone.eq_int_none (fin_bl I q (by simp))
    | int j => obtain ⟨t', rfl⟩ := ry; exact eq_int (fin_bl I q dec_int)
    | str j => obtain ⟨t', rfl⟩ := ry; exact PySem.EqMixed.eq_int_str (fin_bl I q (by simp))
    | _ => exact absurd (show false = true from hs) Bool.false_ne_true
  | str i =>
    obtain ⟨t, rfl⟩ := rx
    cases y with
    | non => cases ry; exact PySem.EqNone.eq_str_none (fin_bl I q (by simp))
    | bl j => cases ry; exact PySem.EqMixed.eq_str_bool (fin_bl I q (by simp))
    | int j => obtain ⟨t', rfl⟩ := ry; exact PySem.EqMixed.eq_str_int (fin_bl I q (by simp))
    | str j => obtain ⟨t', rfl⟩ := ry; exact eq_str (fin_bl I q dec_str)
    | _ => exact absurd (show false = true from hs) Bool.false_ne_true
  | byt i =>
    obtain ⟨t, rfl⟩ := rx
    cases y with
    | byt j => obtain ⟨t', rfl⟩ := ry; exact PySem.W.eq_bytes (fin_bl I q dec_byt)
    | _ => exact absurd (show false = true from hs) Bool.false_ne_true
  | _ => cases y <;> exact absurd (show false = true from hs) Bool.false_ne_true
theorem op_ne : OpR X (compareOp .NotEq) rNe := by
  intro pins s σ H x y v u Q I rx ry h
  obtain ⟨hs, q⟩ := h
  cases x with
  | non =>
    cases rx
    cases y with
    | non => cases ry; exact PySem.EqNone.ne_none_none (fin_bl I q (by simp))
    | bl j => cases ry; exact PySem.EqNone.ne_none_bool (fin_bl I q (by simp))
    | int j => obtain ⟨t', rfl⟩ := ry; exact PySem.EqNone.ne_none_int (fin_bl I q (by simp))
    | str j => obtain ⟨t', rfl⟩ := ry; exact PySem.EqNone.ne_none_str (fin_bl I q (by simp))
    | _ => exact absurd (show false = true from hs) Bool.false_ne_true
  | bl i =>
    cases rx
    cases y with
    | non => cases ry; exact PySem.EqNone.ne_bool_none (fin_bl I q (by simp))
    | bl j => cases ry; exact ne_bool (fin_bl I q (congrArg not dec_bl))
    | str j => obtain ⟨t', rfl⟩ := ry; exact PySem.EqMixed.ne_bool_str (fin_bl I q (by simp))
    | _ => exact absurd (show false = true from hs) Bool.false_ne_true
  | int i =>
    obtain ⟨t, rfl⟩ := rx
    cases y with
    | non => cases ry; exact PySem.EqNone.ne_int_none (fin_bl I q (by simp))
    | int j => obtain ⟨t', rfl⟩ := ry; exact ne_int (fin_bl I q (congrArg not dec_int))
    | str j => obtain ⟨t', rfl⟩ := ry; exact PySem.EqMixed.ne_int_str (fin_bl I q (by simp))
    | _ => exact absurd (show false = true from hs) Bool.false_ne_true
  | str i =>
    obtain ⟨t, rfl⟩ := rx
    cases y with
    | non => cases ry; exact PySem.EqNone.ne_str_none (fin_bl I q (by simp))
    | bl j => cases ry; exact PySem.EqMixed.ne_str_bool (fin_bl I q (by simp))
    | int j => obtain ⟨t', rfl⟩ := ry; exact PySem.EqMixed.ne_str_int (fin_bl I q (by simp))
    | str j => obtain ⟨t', rfl⟩ := ry; exact ne_str (fin_bl I q (congrArg not dec_str))
    | _ => exact absurd (show false = true from hs) Bool.false_ne_true
  | byt i =>
    obtain ⟨t, rfl⟩ := rx
    cases y with
    | byt j => obtain ⟨t', rfl⟩ := ry; exact PySem.W.ne_bytes (fin_bl I q (congrArg not dec_byt))
    | _ => exact absurd (show false = true from hs) Bool.false_ne_true
  | _ => cases y <;> exact absurd (show false = true from hs) Bool.false_ne_true

theorem op_lt : OpR X (compareOp .Lt) (rI0 fun i j => .bl (decide (i < j))) := opB0 fun _ _ _ _ _ _ _ q => lt_int q
theorem op_le : OpR X (compareOp .LtE) (rI0 fun i j => .bl (decide (i ≤ j))) := opB0 fun _ _ _ _ _ _ _ q => le_int q
theorem op_gt : OpR X (compareOp .Gt) (rI0 fun i j => .bl (decide (j < i))) := opB0 fun _ _ _ _ _ _ _ q => gt_int q
theorem op_ge : OpR X (compareOp .GtE) (rI0 fun i j => .bl (decide (j ≤ i))) := opB0 fun _ _ _ _ _ _ _ q => ge_int q
theorem op_isN : OpR X (compareOp .Is) (fun x y H Q => y = .non ∧ Q (.bl (decide (x = .non))) H) := by
  intro pins s σ H x y v u Q I rx ry h
  obtain ⟨rfl, q⟩ := h
  cases ry
  refine is_none_gen (fin_bl I q ?_)
  cases x <;> first
    | (cases rx; rfl)
    | (obtain ⟨t, rfl⟩ := rx; rfl)
theorem op_notN : OpR X (compareOp .IsNot) (fun x y H Q => y = .non ∧ Q (.bl (!decide (x = .non))) H) := by
  intro pins s σ H x y v u Q I rx ry h
  obtain ⟨rfl, q⟩ := h
  cases ry
  refine isnot_none_gen (fin_bl I q ?_)
  cases x <;> first
    | (cases rx; rfl)
    | (obtain ⟨t, rfl⟩ := rx; rfl)
def isObj : HO → Bool
  | .lst _ => true
  | .ins _ _ _ => true
  | _ => false
theorem nomark (b : Expr) {op : CmpOp} (h : op ≠ .In := by decide) (h2 : op ≠ .NotIn := by decide) : behindInMarks op b = false := by
  have e1 : (op == CmpOp.In) = false := by cases op <;> first | rfl | exact absurd rfl h
  have e2 : (op == CmpOp.NotIn) = false := by cases op <;> first | rfl | exact absurd rfl h2
  cases b <;> simp [behindInMarks, e1, e2]
theorem pe_cmpR {op : CmpOp} {r : R2} (ho : OpR X (compareOp op) r) (ha : PE X a ta) (hb : PE X b tb) (hm : behindInMarks op b = false) : PE X (.Compare a [op] [b] pos) (tOp r ta tb) := by
  intro pins s σ H Q I h
  exact wpAny_Compare1 (binT ha hb I h fun v u s2 x y H2 I2 rx ry q => ho pins s2 σ H2 x y v u Q I2 rx ry q) hm
def tTest (t : TE) : TT := fun σ H Q => t σ H fun x H' => ∃ k, x = .bl k ∧ Q k H'
theorem pt_cmpR {op : CmpOp} {r : R2} (ho : OpR X (compareOp op) r) (ha : PE X a ta) (hb : PE X b tb) (hm : behindInMarks op b = false) : PT X (.Compare a [op] [b] pos) (tTest (tOp r ta tb)) := by
  intro pins s σ H Q I h
  refine wpAny_isTrue_Compare1 (thn (ha pins s σ H _ I h) fun v s1 ⟨x, H1, I1, r1, q1⟩ => thn (hb pins s1 σ H1 _ I1 q1) fun u s2 ⟨y, H2, I2, r2, q2⟩ =>
    thn (ho pins s2 σ H2 x y v u _ I2 r1 r2 q2) fun c s3 ⟨z, H3, I3, r3, k, e, q3⟩ => ?_) hm
  subst e
  cases r3
  exact wpAny_truthy_bool ⟨H3, I3, q3⟩
def tChain (r r' : R2) (ta tb tc : TE) : TE := fun σ H Q => ta σ H fun x H1 => tb σ H1 fun y H2 => r x y H2 fun z H3 => ∃ k, z = .bl k ∧
  (if k = true then tc σ H3 fun w' H4 => r' y w' H4 Q else Q (.bl false) H3)
theorem pe_chain {op op' : CmpOp} {r r' : R2} (ho : OpR X (compareOp op) r) (ho' : OpR X (compareOp op') r') (ha : PE X a ta) (hb : PE X b tb) (hc : PE X c tc)
    (hm : lastMarks [op, op'] [b, c] = false := by with_unfolding_all rfl) : PE X (.Compare a [op, op'] [b, c] pos) (tChain r r' ta tb tc) := by
  intro pins s σ H Q I h
  refine Compare_chain (thn (ha pins s σ H _ I h) fun v s1 ⟨x, H1, I1, r1, q1⟩ => chain_link (thn (hb pins s1 σ H1 _ I1 q1) fun u s2 ⟨y, H2, I2, r2, q2⟩ =>
    thn (ho pins s2 σ H2 x y v u _ I2 r1 r2 q2) fun d s3 ⟨z, H3, I3, r3, k, e, q3⟩ => ?_)) hm
  subst e
  cases r3
  refine wpAny_truthy_bool ?_
  cases k with
  | false => exact ite_ff ⟨.bl false, H3, I3, rfl, q3⟩
  | true => exact ite_tt (chain_last (thn (hc pins s3 σ H3 _ I3 q3) fun w' s4 ⟨z', H4, I4, r4, q4⟩ => ho' pins s4 σ H4 y z' u w' Q I4 r2 r4 q4))
theorem pt_chain {op op' : CmpOp} {r r' : R2} (ho : OpR X (compareOp op) r) (ho' : OpR X (compareOp op') r') (ha : PE X a ta) (hb : PE X b tb) (hc : PE X c tc)
    (hm : lastMarks [op, op'] [b, c] = false := by with_unfolding_all rfl) : PT X (.Compare a [op, op'] [b, c] pos) (tTest (tChain r r' ta tb tc)) := by
  intro pins s σ H Q I h
  refine isTrue_chain (thn (ha pins s σ H _ I h) fun v s1 ⟨x, H1, I1, r1, q1⟩ => test_link (thn (hb pins s1 σ H1 _ I1 q1) fun u s2 ⟨y, H2, I2, r2, q2⟩ =>
    thn (ho pins s2 σ H2 x y v u _ I2 r1 r2 q2) fun d s3 ⟨z, H3, I3, r3, k, e, q3⟩ => ?_)) hm
  subst e
  cases r3
  refine wpAny_truthy_bool ?_
  cases k with
  | false =>
    obtain ⟨k', e', q'⟩ := q3
    cases e'
    exact ite_ff ⟨H3, I3, q'⟩
  | true =>
    refine ite_tt (test_last (thn (hc pins s3 σ H3 _ I3 q3) fun w' s4 ⟨z', H4, I4, r4, q4⟩ => thn (ho' pins s4 σ H4 y z' u w' _ I4 r2 r4 q4) fun d' s5 ⟨z2, H5, I5, r5, k2, e2, q5⟩ => ?_))
    subst e2
    cases r5
    exact wpAny_truthy_bool ⟨H5, I5, q5⟩
def TruV (K : PySem.W.Frag) (x : V) (H : Hp) (k : Bool) : Prop :=
  match x with
  | .non => k = false
  | .bl b => k = b
  | .int i => k = (i != 0)
  | .str y => y.length ≤ sizeLine ∧ k = ((y.length : Int) != 0)
  | .byt y => y.size ≤ sizeLine ∧ k = ((y.size : Int) != 0)
  | .ref p => (∃ xs, SqL K H p xs ∧ k = !xs.isEmpty) ∨ (∃ xs, SqT K H p xs ∧ k = !xs.isEmpty) ∨ ∃ kvs, H p = some (.dK kvs) ∧ k = !kvs.isEmpty
  | _ => False
theorem line63 : (sizeLine : Nat) < 2 ^ 63 := by rw [sizeLine_eq]; decide
def PlainIxT (b : Expr) : Prop := ∀ o i, subscripted b false o i = operate [o, i] (getItem o i)
theorem vals1 {x : V} {us : List Value} (r : Vals [x] us) : ∃ u, us = [u] ∧ RelV x u := by
  cases r with
  | cons r1 r2 => cases r2; exact ⟨_, rfl, r1⟩
theorem vals2 {x y : V} {us : List Value} (r : Vals [x, y] us) : ∃ u w', us = [u, w'] ∧ RelV x u ∧ RelV y w' := by
  cases r with
  | cons r1 r2 =>
    cases r2 with
    | cons r3 r4 => cases r4; exact ⟨_, _, rfl, r1, r3⟩
theorem call_abs : CallR X (.builtin "abs") (fun xs H Q => ∃ i, xs = [.int i] ∧ Q (.int (if i < 0 then -i else i)) H) := by
  intro pins s σ H xs us Q I r h
  obtain ⟨i, rfl, q⟩ := h
  obtain ⟨u, rfl, t, rfl⟩ := vals1 r
  exact call_abs_int fun u tk => ⟨.int (if i < 0 then -i else i), H, I.tok _, ⟨_, rfl⟩, q⟩
theorem call_max2 (hc : X.calm = true) : CallR X (.builtin "max") (fun xs H Q => ∃ i j, xs = [.int i, .int j] ∧ Q (.int (if j > i then j else i)) H) := by
  intro pins s σ H xs us Q I r h
  obtain ⟨i, j, rfl, q⟩ := h
  obtain ⟨u, w', rfl, ⟨t, rfl⟩, ⟨t', rfl⟩⟩ := vals2 r
  refine max_two_ints (I.ok.hd hc) fun h' tk k => ⟨_, H, I.kept k, ?_, q⟩
  by_cases hj : j > i
  · rw [if_pos hj, if_pos hj]; exact ⟨_, rfl⟩
  · rw [if_neg hj, if_neg hj]; exact ⟨_, rfl⟩
theorem call_int1 : CallR X (.type "int") (fun xs H Q => (∃ i, xs = [.int i] ∧ Q (.int i) H) ∨ ∃ k, xs = [.bl k] ∧ Q (.int (if k then 1 else 0)) H) := by
  intro pins s σ H xs us Q I r h
  rcases h with ⟨i, rfl, q⟩ | ⟨k, rfl, q⟩
  · obtain ⟨u, rfl, t, rfl⟩ := vals1 r
    exact call_int_int ⟨.int i, H, I, ⟨_, rfl⟩, q⟩
  · obtain ⟨u, rfl, r1⟩ := vals1 r
    cases r1
    exact call_int_bool ⟨.int (if k then 1 else 0), H, I.tok _, ⟨_, rfl⟩, q⟩
def LenV (K : PySem.W.Frag) (x : V) (H : Hp) (n : Nat) : Prop :=
  match x with
  | .str y => y.length ≤ sizeLine ∧ n = y.length
  | .byt y => y.size ≤ sizeLine ∧ n = y.size
  | .ref p => (∃ xs, SqL K H p xs ∧ n = xs.length) ∨ ∃ xs, SqT K H p xs ∧ n = xs.length
  | _ => False
end
end L2

namespace L2
open PySem PySem.Spec PyProof.Rows
structure ObjM (h : Heap) (x dx C : Addr) (mA : Str → Option Value) : Prop where
  obj : h.get? x = some (PySem.W.instObj C dx)
  ns : h.Ns1 dx mA
  ne : dx ≠ x

theorem lookIn_ns {h : Heap} {dx : Addr} {mA : Str → Option Value} (n : h.Ns1 dx mA) : ∃ od, h.get? dx = some od ∧ ∀ name, PySem.W.lookIn name od = some (mA name) := by
  obtain ⟨o, es, ep, ho, hd, hk, _, hm⟩ := n
  refine ⟨o, ho, fun name => ?_⟩
  have e := hm name
  unfold nsFind findBy at e
  rw [← Array.find?_toList] at e
  unfold PySem.W.lookIn
  rw [hd]
  dsimp only
  split
  · rename_i y q
    rw [q] at e
    exact congrArg some e
  · rename_i q
    rw [q] at e
    have a : es.toList.any (·.refKey) = false := by
      rw [List.any_eq_false]
      intro y hy
      obtain ⟨z, t, hkey⟩ := hk y (Array.mem_toList_iff.mp hy)
      simp [DictEntry.refKey, hkey]
    have a' : ¬ es.toList.any (·.refKey) = true := by rw [a]; exact Bool.false_ne_true
    rw [if_neg a']
    exact congrArg some e

theorem ObjM.look {h : Heap} {x dx C : Addr} {mA : Str → Option Value} (I : ObjM h x dx C mA) : ∃ od, PySem.W.InstAt h x (PySem.W.instObj C dx) C (some od) ∧ ∀ name, PySem.W.lookIn name od = some (mA name) :=
  let ⟨od, ho, hl⟩ := lookIn_ns I.ns
  ⟨od, ⟨I.obj, rfl, rfl, ho⟩, hl⟩

section
variable {prog : Program} {w : World} {A : Around} {E : Value → Shared → Prop} {s : Shared} {K : PySem.W.Frag} {x dx C f : Addr} {mA : Str → Option Value} {name : Str} {v : Value}

theorem get_map {expr : Bool} {Q : Value → Shared → Prop} (X : K.In s.heap) (I : ObjM s.heap x dx C mA) (hg : PySem.W.plainGet K C name = true) (hh : PySem.W.hasDictIn K C = true)
    (ha : PySem.W.findIn K (.ref C) name = some none) (hv : mA name = some v) (hv' : PySem.W.handedIn v = true) (h : Q v { s with toks := s.toks + 1 }) :
    wpAny (model prog w) A (getAttr (.ref x) name expr) Q E s := by
  obtain ⟨od, J, hl⟩ := I.look
  exact PySem.W.get_value X J (PySem.W.plainGet_of hg).1 (PySem.W.findObj_own hh ha rfl (by rw [hl, hv])) hv' h

theorem get_meth {pl : Sem Bool} {Q : Value × List Value → Shared → Prop} (X : K.In s.heap) (I : ObjM s.heap x dx C mA) (hg : PySem.W.plainGet K C name = true)
    (hf : PySem.W.findIn K (.ref C) name = some (some (.ref f))) (ht : PySem.W.isFn K (.ref f) = true) (hv : mA name = none) (h : Q (.ref f, [.ref x]) s) :
    wpAny (model prog w) A (getMethod (.ref x) name pl) Q E s := by
  obtain ⟨od, J, hl⟩ := I.look
  exact PySem.W.method_fn X J (PySem.W.plainGet_of hg).1 (PySem.W.plainGet_of hg).2 hf (beq_iff_eq.mp ht) (by show (PySem.W.lookIn name od).map (·.isSome) = some false; rw [hl, hv]; rfl) h

theorem set_map {ns : List Str} {Q : Unit → Shared → Prop} (X : K.In s.heap) (I : ObjM s.heap x dx C mA)
    (hs : PySem.W.findIn K (.ref C) "__setattr__" = some (some (.builtin "object.__setattr__"))) (hp : PySem.W.plainOver K C = true) (ht : PySem.W.takerIn K C name = some none) (hh : PySem.W.hasDictIn K C = true)
    (hw : PySem.Within mA ns) (hsz : ns.length ≤ sizeLine)
    (h : ∀ h', ObjM h' x dx C (fun y => if y = name then some v else mA y) → Heap.SameBut dx s.heap h' → Q () { s with heap := h', toks := s.toks + 2 }) :
    wpAny (model prog w) A (setAttr (.ref x) name v) Q E s := by
  obtain ⟨od, J, hl⟩ := I.look
  refine PySem.W.set_plain X J hs (PySem.W.osa_open (s := { s with toks := s.toks + 1 }) (r := none) X J hp ht fun b => ?_)
  obtain ⟨cd, hc, hd'⟩ := PySem.W.any_some hh
  have hx : s.heap.get? x = some ⟨.ref C, some dx, .plain, #[]⟩ := I.obj
  refine wpAny_bind (wpAny_pure (wpAny_bind (wpAny_bind (wpAny_loadPart hx (wpAny_bind (PySem.W.Looks.here (s := { s with toks := s.toks + 1 }) (PySem.W.looks_clsIn X hc) ?_))))))
  rw [hd']
  refine wpAny_pure (a := some dx) (wpAny_bind (wpAny_pure (wpAny_bind ?_)))
  refine wpAny_nsSet1 (s := { s with toks := s.toks + 1 }) I.ns fun h' hn2 hs2 => ?_
  obtain ⟨oD, esD, epD, hoD, hdD, hcD⟩ := hn2.count (PySem.Within.cons name v hw)
  refine wpAny_bind (wpAny_lookBehind hoD (by rw [hdD]; exact pastItsLine_dict (Nat.le_trans hcD (by rw [List.length_cons]; omega))) ?_)
  exact wpAny_pure (h _ ⟨(hs2.2 _ (Ne.symm I.ne)).trans I.obj, hn2, I.ne⟩ hs2)
theorem make_map {R : Result → Shared → Prop} {vs : List Value} {kw : List (Str × Value)} (X : K.In s.heap) (hm : PySem.W.makesIn K C = true)
    (hi : PySem.W.findIn K (.ref C) "__init__" = some (some (.ref f))) (hf : PySem.W.typeIn K (.ref f) = some (.type "function"))
    (h : codeAny (model prog w) (A.under (.builtin "type.__call__" ⟨.ref C :: vs, kw⟩)) (.call (.ref f) ⟨.ref (s.heap.objs.size + 1) :: vs, kw⟩) (PySem.W.InitBack (s.heap.objs.size + 1) R)
      { s with heap := (s.heap.push PySem.W.emptyDict).push (PySem.W.instObj C s.heap.objs.size) }) :
    codeAny (model prog w) A (.call (.ref C) ⟨vs, kw⟩) R s := by
  obtain ⟨hh, g, d, t, os⟩ := s
  exact PySem.W.make_core (PySem.W.makes_of X hm) (PySem.W.looks_findIn X hi) (fun self => PySem.W.bind_fn X self hf) (.inl rfl) h
end
def putF (f : Str) (v : V) : List (Str × V) → List (Str × V)
  | [] => [(f, v)]
  | (g, x) :: r => if g = f then (g, v) :: r else (g, x) :: putF f v r
theorem lookup_putF (f g : Str) (v : V) : ∀ fs : List (Str × V), (putF f v fs).lookup g = if g = f then some v else fs.lookup g
  | [] => by
    show List.lookup g [(f, v)] = _
    by_cases h : g = f
    · have hb : (g == f) = true := beq_iff_eq.mpr h
      simp only [List.lookup, hb, if_pos h]
    · have hb : (g == f) = false := beq_eq_false_iff_ne.mpr h
      simp only [List.lookup, hb, if_neg h]
  | (k, x) :: r => by
    have ih := lookup_putF f g v r
    rw [show putF f v ((k, x) :: r) = (if k = f then (k, v) :: r else (k, x) :: putF f v r) from rfl]
    by_cases hk : k = f
    · rw [if_pos hk]
      by_cases h : g = k
      · have hb : (g == k) = true := beq_iff_eq.mpr h
        simp only [List.lookup, hb, if_pos (h.trans hk)]
      · have hb : (g == k) = false := beq_eq_false_iff_ne.mpr h
        simp only [List.lookup, hb, if_neg (fun e : g = f => h (e.trans hk.symm))]
    · rw [if_neg hk]
      by_cases h : g = k
      · have hb : (g == k) = true := beq_iff_eq.mpr h
        simp only [List.lookup, hb, if_neg (fun e : g = f => hk (h.symm.trans e))]
      · have hb : (g == k) = false := beq_eq_false_iff_ne.mpr h
        simp only [List.lookup, hb]
        exact ih
theorem keys_putF (f : Str) (v : V) : ∀ fs : List (Str × V), f ∈ (putF f v fs).map (·.1) ∧ ∀ g, g ∈ fs.map (·.1) → g ∈ (putF f v fs).map (·.1)
  | [] => ⟨by simp [putF], fun g h => by simp at h⟩
  | (k, x) :: r => by
    obtain ⟨i1, i2⟩ := keys_putF f v r
    rw [show putF f v ((k, x) :: r) = (if k = f then (k, v) :: r else (k, x) :: putF f v r) from rfl]
    by_cases hk : k = f
    · rw [if_pos hk]
      subst hk
      exact ⟨by simp, fun g h => by simpa using h⟩
    · rw [if_neg hk]
      refine ⟨?_, fun g h => ?_⟩
      · rw [List.map_cons]
        exact List.mem_cons_of_mem _ i1
      · rw [List.map_cons] at h ⊢
        rcases List.mem_cons.mp h with e | e
        · exact List.mem_cons.mpr (.inl e)
        · exact List.mem_cons_of_mem _ (i2 g e)
theorem length_putF (f : Str) (v : V) : ∀ fs : List (Str × V), (putF f v fs).length ≤ fs.length + 1
  | [] => by simp [putF]
  | (k, x) :: r => by
    have ih := length_putF f v r
    rw [show putF f v ((k, x) :: r) = (if k = f then (k, v) :: r else (k, x) :: putF f v r) from rfl]
    by_cases hk : k = f
    · rw [if_pos hk, List.length_cons, List.length_cons]; omega
    · rw [if_neg hk, List.length_cons, List.length_cons]; omega

theorem RelO.some_of {v : V} {o : Option Value} (r : RelO (some v) o) : ∃ u, o = some u ∧ RelV v u := by
  cases o with
  | none => exact (show False from r).elim
  | some u => exact ⟨u, rfl, r⟩
theorem RelO.none_of {o : Option Value} (r : RelO none o) : o = none := by
  cases o with
  | none => rfl
  | some u => exact (show False from r).elim
theorem handed_of {v : V} {u : Value} (r : RelV v u) : PySem.W.handedIn u = true := by
  cases v with
  | non => cases (show u = Value.none from r); rfl
  | bl b => cases (show u = Value.bool b from r); rfl
  | int i => obtain ⟨t, e⟩ := (show ∃ t, u = Value.int i t from r); cases e; rfl
  | str x => obtain ⟨t, e⟩ := (show ∃ t, u = Value.str x t from r); cases e; rfl
  | byt b => obtain ⟨t, e⟩ := (show ∃ t, u = Value.bytes b t from r); cases e; rfl
  | flt b => obtain ⟨t, e⟩ := (show ∃ t, u = Value.float b t from r); cases e; rfl
  | ref a => cases (show u = Value.ref a from r); rfl
  | ty n => cases (show u = Value.type n from r); rfl

section
variable {P : Program} {w : World} {H H' : Hp} {h h' : Heap} {a C dx : Addr} {fs fs' : List (Str × V)}
theorem ins_get (hok : HOk P w H h) (e : H a = some (.ins C dx fs)) : ∃ mA, ObjM h a dx C mA ∧ (∀ f, RelO (fs.lookup f) (mA f)) ∧ PySem.Within mA (fs.map (·.1)) ∧ fs.length ≤ 1000 ∧ H dx = some (.own a) := by
  obtain ⟨d, z, ne, ob, mA, n, r, q⟩ := (show ObjOk P w H h a (.ins C dx fs) from hok a _ e)
  exact ⟨mA, ⟨ob, n, ne⟩, r, q, z, d⟩
end
structure Cls (K : PySem.W.Frag) (C : Addr) : Prop where
  pg : PySem.W.plainGet K C Str.empty = true
  hd : PySem.W.hasDictIn K C = true
  po : PySem.W.plainOver K C = true
  sa : PySem.W.findIn K (.ref C) "__setattr__" = some (some (.builtin "object.__setattr__"))
theorem Cls.get {K : PySem.W.Frag} {C : Addr} (c : Cls K C) (f : Str) : PySem.W.plainGet K C f = true := c.pg
def NoAttr (K : PySem.W.Frag) (C : Addr) (f : Str) : Prop := PySem.W.findIn K (.ref C) f = some none
theorem NoAttr.taker {K : PySem.W.Frag} {C : Addr} {f : Str} (n : NoAttr K C f) : PySem.W.takerIn K C f = some none := by
  unfold PySem.W.takerIn
  rw [show PySem.W.findIn K (.ref C) f = some none from n]
  rfl
structure Con (K : PySem.W.Frag) (C : Addr) (f : Str) (v : V) (u : Value) : Prop where
  at_ : PySem.W.findIn K (.ref C) f = some (some u)
  rel : RelV v u
  get : PySem.W.specialIn K u "__get__" = some none
  cp : PySem.W.copiedNames.contains f = false
structure Meth (K : PySem.W.Frag) (C : Addr) (m : Str) (f : Addr) : Prop where
  at_ : PySem.W.findIn K (.ref C) m = some (some (.ref f))
  fn : PySem.W.isFn K (.ref f) = true
  kp : PySem.W.keepIn K (.ref f) = true

section
variable {X : Cx} {pins : List (Addr × Obj)} {σ : St} {H : Hp} {s : Shared} {a C dx : Addr} {fs : List (Str × V)} {f : Str} {v : V} {A : Around} {E : Value → Shared → Prop}

theorem getattr_ok {b : Bool} {Q : Value → Shared → Prop} (I : Inv X pins σ H s) (e : H a = some (.ins C dx fs)) (c : Cls X.K C) (n : NoAttr X.K C f) (l : fs.lookup f = some v)
    (h : ∀ u s', Inv X pins σ H s' → RelV v u → Q u s') : wpAny (model X.prog X.w) A (getAttr (.ref a) f b) Q E s := by
  obtain ⟨mA, O, r, _, _, _⟩ := ins_get I.hok e
  obtain ⟨u, hu, ru⟩ := RelO.some_of (v := v) (o := mA f) (by rw [← l]; exact r f)
  exact get_map I.kIn O (c.get f) c.hd n hu (handed_of ru) (h u _ (I.tok _) ru)

theorem getmeth_ok {m : Str} {g : Addr} {pl : Sem Bool} {Q : Value × List Value → Shared → Prop} (I : Inv X pins σ H s) (e : H a = some (.ins C dx fs)) (c : Cls X.K C) (k : Meth X.K C m g) (l : fs.lookup m = none)
    (h : Q (.ref g, [.ref a]) s) : wpAny (model X.prog X.w) A (getMethod (.ref a) m pl) Q E s := by
  obtain ⟨mA, O, r, _, _, _⟩ := ins_get I.hok e
  have hn : mA m = none := RelO.none_of (by rw [← l]; exact r m)
  exact get_meth I.kIn O (c.get m) k.at_ k.fn hn h

theorem setattr_ok {y : V} {u : Value} {Q : Unit → Shared → Prop} (I : Inv X pins σ H s) (e : H a = some (.ins C dx fs)) (c : Cls X.K C) (n : NoAttr X.K C f) (hl : fs.length < 1000) (ry : RelV y u)
    (h : ∀ s', Inv X pins σ (upd H a (.ins C dx (putF f y fs))) s' → Q () s') : wpAny (model X.prog X.w) A (setAttr (.ref a) f u) Q E s := by
  obtain ⟨mA, O, r, wi, _, ho⟩ := ins_get I.hok e
  have hz : (fs.map (·.1)).length ≤ sizeLine := by rw [List.length_map, sizeLine_eq]; omega
  refine set_map I.kIn O c.sa c.po n.taker c.hd wi hz fun h' O' sb => h _ ?_
  have hd : ∃ o, h'.get? dx = some o := let ⟨o, _, _, e', _⟩ := O'.ns; ⟨o, e'⟩
  refine I.write (x := a) (e := dx) (by rw [e]; exact True.intro) (.inr ho) (fun b q hb z => (sb.2 b hb).trans z) hd ?_
  refine ⟨by rw [upd_ne O.ne]; exact ho, ?_, O.ne, O'.obj, _, O'.ns, fun g => ?_, fun g hg => ?_⟩
  · have := length_putF f y fs; omega
  · show RelO ((putF f y fs).lookup g) (if g = f then some u else mA g)
    rw [lookup_putF]
    by_cases q : g = f
    · rw [if_pos q, if_pos q]; exact ry
    · rw [if_neg q, if_neg q]; exact r g
  · by_cases q : g = f
    · rw [q]; exact (keys_putF f y fs).1
    · refine (keys_putF f y fs).2 g (wi g fun z => hg ?_)
      show (if g = f then some u else mA g) = none
      rw [if_neg q]; exact z
theorem Inv.made (I : Inv X pins σ H s) : Inv X pins σ (upd (upd H s.heap.objs.size (.own (s.heap.objs.size + 1))) (s.heap.objs.size + 1) (.ins C s.heap.objs.size []))
    { s with heap := (s.heap.push PySem.W.emptyDict).push (PySem.W.instObj C s.heap.objs.size) } := by
  have e1 : (s.heap.push PySem.W.emptyDict).get? s.heap.objs.size = some PySem.W.emptyDict := Heap.get?_push_size s.heap rfl
  have e2 : ((s.heap.push PySem.W.emptyDict).push (PySem.W.instObj C s.heap.objs.size)).get? (s.heap.objs.size + 1) = some (PySem.W.instObj C s.heap.objs.size) := by
    have := Heap.get?_push_size (s.heap.push PySem.W.emptyDict) (o := PySem.W.instObj C s.heap.objs.size) rfl
    rwa [Heap.size_push] at this
  have e3 : (s.heap.push PySem.W.emptyDict).Ns s.heap.objs.size (fun _ => none) := ⟨PySem.W.emptyDict, #[], _, e1, rfl, (fun e he => absurd he (by simp)), fun _ => rfl⟩
  have I1 := I.laid (a := s.heap.objs.size) (o := .own (s.heap.objs.size + 1)) (h' := s.heap.push PySem.W.emptyDict) (t' := s.toks) (fun b u q => Heap.get?_push_of_some _ q) (Nat.le_refl _) ⟨_, e1⟩
  refine I1.laid (a := s.heap.objs.size + 1) (o := .ins C s.heap.objs.size []) (t' := s.toks) (fun b u q => Heap.get?_push_of_some _ q) (Nat.le_of_eq (Heap.size_push _ _)) ?_
  have ne : s.heap.objs.size ≠ s.heap.objs.size + 1 := Nat.ne_of_lt (Nat.lt_succ_self _)
  refine ⟨by rw [upd_ne ne, upd_same], Nat.zero_le _, ne, e2, fun _ => none, (Heap.Ns1.of_empty e3).at fun o q => Heap.get?_push_of_some _ q, fun _ => True.intro, fun y hy => absurd rfl hy⟩
theorem attr_of {prog : Program} {w : World} {env : Env} {e : Expr} {f : Str} {pos : Pos} {s : Shared} {Q : Value → Shared → Prop} (hb : attributeBase e f env (eval e env) = eval e env)
    (h : wpAny (model prog w) A (eval e env) (fun o s₁ => wpAny (model prog w) A (getAttr o f true) Q E s₁) E s) : wpAny (model prog w) A (eval (.Attribute e f pos) env) Q E s :=
  Attribute_any_ h (by rw [arm_eval_Attribute, hb])
end
def tFld (K : PySem.W.Frag) (ta : TE) (f : Str) : TE := fun σ H Q => ta σ H fun x H1 => ∃ a C dx fs v, x = .ref a ∧ H1 a = some (.ins C dx fs) ∧ Cls K C ∧ NoAttr K C f ∧ fs.lookup f = some v ∧ Q v H1
def tCon (K : PySem.W.Frag) (ta : TE) (f : Str) : TE := fun σ H Q => ta σ H fun x H1 => ∃ a C dx fs v u, x = .ref a ∧ H1 a = some (.ins C dx fs) ∧ Cls K C ∧ Con K C f v u ∧ fs.lookup f = none ∧ Q v H1
def sFld (K : PySem.W.Frag) (ta tv : TE) (f : Str) : TS := fun D σ H => tv σ H fun y H1 => ta σ H1 fun x H2 => ∃ a C dx fs, x = .ref a ∧ H2 a = some (.ins C dx fs) ∧ Cls K C ∧ NoAttr K C f ∧ fs.length < 1000 ∧
  D.nx σ (upd H2 a (.ins C dx (putF f y fs)))
def InOp (X : Cx) (op : Operator) (rd : V → V → Hp → VK → Prop) : Prop :=
  ∀ (pins : List (Addr × Obj)) (s : Shared) (σ : St) (H : Hp) (x y : V) (u v : Value) (Q : VK), Inv X pins σ H s → RelV x u → RelV y v → rd x y H Q → wpAny (model X.prog X.w) X.A (inplaceOp op u v) (EP X pins σ Q) X.xe s
def sFldAug (K : PySem.W.Frag) (ta tv : TE) (rd : V → V → Hp → VK → Prop) (f : Str) : TS := fun D σ H => ta σ H fun x H1 => ∃ a C dx fs v, x = .ref a ∧ H1 a = some (.ins C dx fs) ∧ Cls K C ∧ NoAttr K C f ∧ fs.lookup f = some v ∧
  tv σ H1 fun y H2 => rd v y H2 fun z H3 => ∃ dx' fs', H3 a = some (.ins C dx' fs') ∧ fs'.length < 1000 ∧ D.nx σ (upd H3 a (.ins C dx' (putF f z fs')))

section
variable {X : Cx} {o e value : Expr} {f : Str} {pos pos' tpos : Pos} {ta tv : TE}
theorem pe_fld (he : PE X e ta) (hb : attributeBase e f X.env (eval e X.env) = eval e X.env) : PE X (.Attribute e f pos) (tFld X.K ta f) := by
  intro pins s σ H Q I h
  refine attr_of hb (thn (he pins s σ H _ I h) fun u s1 ⟨x, H1, I1, rx, a, C, dx, fs, v, ex, ea, c, n, l, q⟩ => ?_)
  subst ex
  obtain rfl : u = Value.ref a := rx
  exact getattr_ok I1 ea c n l fun u' s2 I2 ru => ⟨v, H1, I2, ru, q⟩
theorem ps_fld (ha : PE X o ta) (hv : PE X value tv) (hs : swapsWith value (some (.Attribute o f pos')) pos.line X.env = pure false) : PS X (.Assign [.Attribute o f pos'] value pos) (sFld X.K ta tv f) := by
  intro pins s σ H D I h
  refine plainObj_wpAny_Assign_Attribute (thn (hv pins s σ H _ I h) fun u s1 ⟨y, H1, I1, ry, q⟩ => thn (ha pins s1 σ H1 _ I1 q) fun ov s2 ⟨x, H2, I2, rx, a, C, dx, fs, ex, ea, c, n, l, q2⟩ => ?_) hs
  subst ex
  obtain rfl : ov = Value.ref a := rx
  exact setattr_ok I2 ea c n l ry fun s3 I3 => ⟨σ, _, I3, q2⟩
def rAdd : V → V → Hp → VK → Prop := fun x y H Q => ∃ i j, x = .int i ∧ y = .int j ∧ Q (.int (i + j)) H
def rSub : V → V → Hp → VK → Prop := fun x y H Q => ∃ i j, x = .int i ∧ y = .int j ∧ Q (.int (i - j)) H
end
section
variable {X : Cx} {pins : List (Addr × Obj)} {σ : St} {H : Hp} {s : Shared} {A : Around} {E : Value → Shared → Prop} {Q : Value → Shared → Prop} {c : Value} {b : Bool}
inductive TyOf (K : PySem.W.Frag) (H : Hp) : V → Value → Prop where
  | non : TyOf K H .non (.type "NoneType")
  | bl (x : Bool) : TyOf K H (.bl x) (.type "bool")
  | int (i : Int) : TyOf K H (.int i) (.type "int")
  | str (x : Str) : TyOf K H (.str x) (.type "str")
  | flt (x : UInt64) : TyOf K H (.flt x) (.type "float")
  | lst {a : Addr} {xs : List V} (e : H a = some (.lst xs)) : TyOf K H (.ref a) (.type "list")
  | frz {a : Addr} {o : Obj} {xs : List V} (e : H a = some (.frz o (.lst xs))) : TyOf K H (.ref a) (.type "list")
  | tup {a : Addr} {xs : List V} (e : H a = some (.tup xs)) : TyOf K H (.ref a) (.type "tuple")
  | dK {a : Addr} {kvs : List (Key × V)} (e : H a = some (.dK kvs)) : TyOf K H (.ref a) (.type "dict")
  | dT {a : Addr} {kvs : List (List Key × V)} (e : H a = some (.dT kvs)) : TyOf K H (.ref a) (.type "dict")
  | ins {a C dx : Addr} {fs : List (Str × V)} (e : H a = some (.ins C dx fs)) (cl : Cls K C) (ha : PySem.W.findIn K (.ref C) "__class__" = some (some (.builtin "object.__class__")))
      (hn : PySem.W.specialIn K (.builtin "object.__class__") "__get__" = some (some (.builtin "getset_descriptor.__get__"))) (htk : PySem.W.takesIn K (.builtin "object.__class__") = some true)
      (hm : PySem.W.mroIn K C (.type "object") = some true) : TyOf K H (.ref a) (.ref C)
end
end L2

namespace L2
open PySem PySem.Spec PyProof.Rows
structure Room (k : Nat) (A : Around) : Prop where
  hd : A.handled = none
  dp : A.depth + 3 * k + 5 < recursionLimit
  un : A.units + 16 * k + 200 < cLine
theorem Room.mono {j k : Nat} {A : Around} (r : Room k A) (h : j ≤ k) : Room j A := ⟨r.hd, by have := r.dp; omega, by have := r.un; omega⟩
theorem Room.deeper {k : Nat} {A : Around} (r : Room (k + 1) A) (env : Env) : Room k (A.deeper env) :=
  ⟨r.hd, by have := r.dp; show A.depth + 1 + 3 * k + 5 < _; omega, by have := r.un; show A.units + 3 + 16 * k + 200 < _; omega⟩
theorem make_depth {A : Around} {C : Addr} {us : List Value} {kw : List (Str × Value)} : (A.under (.builtin "type.__call__" ⟨.ref C :: us, kw⟩)).depth = A.depth + 1 := by
  first | rfl | simp [Around.under, Code.weight, Code.isCreation, Code.isGuard, Code.isCaller, Code.frames, Code.isFrame, guardIds]
theorem make_units {A : Around} {C : Addr} {us : List Value} {kw : List (Str × Value)} : (A.under (.builtin "type.__call__" ⟨.ref C :: us, kw⟩)).units = A.units + 1 := by
  first | rfl | simp [Around.under, Code.cUnits, Code.frames, Code.isFrame]
theorem Room.make {k : Nat} {A : Around} (r : Room (k + 1) A) (C : Addr) (us : List Value) (kw : List (Str × Value)) : Room k (A.under (.builtin "type.__call__" ⟨.ref C :: us, kw⟩)) :=
  ⟨r.hd, by have := r.dp; rw [make_depth]; omega, by have := r.un; rw [make_units]; omega⟩
theorem Room.depth {k : Nat} {A : Around} (r : Room k A) : A.depth < recursionLimit := by have := r.dp; omega
theorem Room.units {k : Nat} {A : Around} (r : Room k A) : A.units + 64 < cLine := by have := r.un; omega
def tNil : TA := fun _ H Q => Q [] H
def tCons (ta : TE) (tr : TA) : TA := fun σ H Q => ta σ H fun x H1 => tr σ H1 fun xs H2 => Q (x :: xs) H2
section
variable {X : Cx} {e : Expr} {es : List Expr} {te : TE} {t : TA} {pos : Pos}
theorem pa_nil : PA X [] tNil := fun _ _ _ _ H Q I h => Calls.spliced_nil ⟨[], H, I, .nil, h⟩
theorem pa_cons (ha : PE X e te) (hr : PA X es t) (hs : starEach (e :: es) X.env = (false, eval e X.env) :: starEach es X.env := by rfl) : PA X (e :: es) (tCons te t) := by
  intro pos pins s σ H Q I h
  rw [hs]
  show wpAny _ _ (spliced ((false, eval e X.env) :: backTo pos (starEach es X.env))) _ _ s
  refine Calls.spliced_cons (thn (ha pins s σ H _ I h) fun u s1 ⟨x, H1, I1, r1, q1⟩ => ?_)
  exact thn (hr pos pins s1 σ H1 _ I1 q1) fun us s2 ⟨xs, H2, I2, r2, q2⟩ => ⟨x :: xs, H2, I2, .cons r1 r2, q2⟩
def tTup (t : TA) : TE := fun σ H Q => t σ H fun xs H1 => xs.length ≤ sizeLine ∧ ∀ p, H1 p = none → Q (.ref p) (upd H1 p (.tup xs))
def tLst (t : TA) : TE := fun σ H Q => t σ H fun xs H1 => xs.length ≤ sizeLine ∧ ∀ p, H1 p = none → Q (.ref p) (upd H1 p (.lst xs))
theorem pe_tup {x1} (h : PA X es t) : PE X (.Tuple es x1 pos) (tTup t) := by
  intro pins s σ H Q I hq
  refine wpAny_Tuple_spliced (thn (h pos pins s σ H _ I hq) fun us s1 ⟨xs, H1, I1, r, z, q⟩ => ⟨by rw [← r.length]; exact z, ?_⟩)
  have hf : H1 s1.heap.objs.size = none := I1.hok.fresh (Nat.le_refl _)
  refine ⟨.ref s1.heap.objs.size, upd H1 s1.heap.objs.size (.tup xs), I1.laid (t' := s1.toks) (fun b u e => Heap.get?_push_of_some _ e) (Nat.le_refl _) ?_, rfl, q _ hf⟩
  exact ⟨z, us, r, ⟨_, Heap.get?_push_size _ rfl, rfl, _, rfl⟩⟩
theorem pe_lst (h : PA X es t) : PE X (.List es pos) (tLst t) := by
  intro pins s σ H Q I hq
  refine wpAny_List_spliced (thn (h pos pins s σ H _ I hq) fun us s1 ⟨xs, H1, I1, r, z, q⟩ => ⟨by rw [← r.length]; exact z, ?_⟩)
  have hf : H1 s1.heap.objs.size = none := I1.hok.fresh (Nat.le_refl _)
  refine ⟨.ref s1.heap.objs.size, upd H1 s1.heap.objs.size (.lst xs), I1.laid (t' := s1.toks) (fun b u e => Heap.get?_push_of_some _ e) (Nat.le_refl _) ?_, rfl, q _ hf⟩
  exact ⟨z, us, 0, r, Heap.get?_push_size _ rfl⟩
end
abbrev Sp := List V → Hp → VK → XK → Prop
abbrev CXT := List Env → Hp → Shared → XK → Value → Shared → Prop
structure Env0 (P : Program) (w : World) (K : PySem.W.Frag) (mg : Str → Option Value) (base : Heap) (A : Around) (outer : List Env) (s : Shared) (H : Hp) : Prop where
  frames : A.frames = some outer
  mod : Mod K mg base
  bs : ∀ b o, base.get? b = some o → s.heap.get? b = some o ∧ H b = none
  bsz : base.objs.size ≤ s.heap.objs.size
  funs : s.heap.FunFrames base outer
  frf : ∀ b ∈ frs outer, H b = none
  hok : HOk P w H s.heap
  bare : AllBare s.gens
def CE (outer : List Env) (P : Program) (w : World) (H : Hp) (s : Shared) (Q : VK) (u : Value) (s' : Shared) : Prop :=
  ∃ v H', s'.os = s.os ∧ AllBare s'.gens ∧ Un (frs outer) [] H H' s.heap s'.heap ∧ HOk P w H' s'.heap ∧ RelV v u ∧ Q v H'
def CR (CX : CXT) (outer : List Env) (P : Program) (w : World) (H : Hp) (s : Shared) (Q : VK) (E : XK) (r : Result) (s' : Shared) : Prop :=
  match r with
  | .ok (.ret u) => CE outer P w H s Q u s'
  | .ok _ => False
  | .error e => CX outer H s E e s'
structure FnOk (P : Program) (w : World) (K : PySem.W.Frag) (mg : Str → Option Value) (base : Heap) (CX : CXT) (k : Nat) (f : Addr) (fd : FuncData) (ps : List Str) (sp : Sp) : Prop where
  len : ∀ vs H Q E, sp vs H Q E → vs.length = ps.length
  run : ∀ (A : Around) (outer : List Env) (s : Shared) (H : Hp) (args : Args) (us : List Value) (vs : List V) (Q : VK) (E : XK), Room k A → Env0 P w K mg base A outer s H → BindsTo s fd args (ps.zip us) → Vals vs us → sp vs H Q E →
    codeAny (model P w) A (.call (.ref f) args) (CR CX outer P w H s Q E) s
theorem Env0.make {P : Program} {w : World} {K : PySem.W.Frag} {mg : Str → Option Value} {base : Heap} {A : Around} {outer : List Env} {s : Shared} {H : Hp} (e : Env0 P w K mg base A outer s H) (C : Addr) (us : List Value) (kw : List (Str × Value)) :
    Env0 P w K mg base (A.under (.builtin "type.__call__" ⟨.ref C :: us, kw⟩)) outer s H := ⟨by first | exact e.frames | (simpa [Around.under, Code.envs, Code.isFrame, pushEnvs] using e.frames), e.mod, e.bs, e.bsz, e.funs, e.frf, e.hok, e.bare⟩
section
variable {X : Cx} {pins : List (Addr × Obj)} {σ : St} {H : Hp} {s s' : Shared}
theorem Inv.env0 (I : Inv X pins σ H s) : Env0 X.prog X.w X.K X.mg X.base X.A X.stack s H :=
  ⟨I.ok.frames, I.ok.mod, I.bs, Nat.le_trans I.ok.bsz I.sz, I.stack, I.stkFree, I.hok, I.bare⟩
theorem Inv.after {Q : VK} {u : Value} (I : Inv X pins σ H s) (h : CE X.stack X.prog X.w H s Q u s') : EP X pins σ Q u s' := by
  obtain ⟨v, H', os, bare, un, hok, r, q⟩ := h
  obtain ⟨hh, g, d, t, os'⟩ := s'
  obtain rfl : os' = s.os := os
  exact ⟨v, H', I.call (h' := hh) (g' := g) (d' := d) (t' := t) (ch := []) un hok bare (fun b z => absurd z (by simp)), r, q⟩
end
def tCall (sp : Sp) (dvs : List V) (E : XK) (t : TA) : TE := fun σ H Q => t σ H fun vs H1 => sp (vs ++ dvs) H1 Q E
def tMeth (C : Addr) (m : Str) (sp : Sp) (dvs : List V) (E : XK) (ta : TE) (t : TA) : TE := fun σ H Q => ta σ H fun x H1 => ∃ a dx fs, x = .ref a ∧ H1 a = some (.ins C dx fs) ∧ fs.lookup m = none ∧
  t σ H1 fun vs H2 => sp (x :: (vs ++ dvs)) H2 Q E
def tMake (C : Addr) (sp : Sp) (dvs : List V) (E : XK) (t : TA) : TE := fun σ H Q => t σ H fun vs H1 => ∀ x dx, H1 x = none → H1 dx = none → dx ≠ x →
  sp (.ref x :: (vs ++ dvs)) (upd (upd H1 dx (.own x)) x (.ins C dx [])) (fun v H2 => v = .non ∧ Q (.ref x) H2) E
def Binds (K : PySem.W.Frag) (fd : FuncData) (ps : List Str) (ds : List Value) : Prop :=
  ∀ (s : Shared) (us : List Value), K.In s.heap → (us ++ ds).length = ps.length → BindsTo s fd ⟨us, []⟩ (ps.zip (us ++ ds))
theorem Binds.all {K : PySem.W.Frag} {fd : FuncData} {ps : List Str} (h : ∀ us : List Value, us.length = ps.length → bindArgs fd ⟨us, []⟩ = pure (ps.zip us)) : Binds K fd ps [] := fun s us _ hl => by
  rw [List.append_nil] at hl ⊢
  exact .of_eq (h us hl)
def Passes (CX : CXT) (X : Cx) (E : XK) : Prop := ∀ (pins : List (Addr × Obj)) (σ : St) (H : Hp) (s : Shared) (e : Value) (s' : Shared), Inv X pins σ H s → CX X.stack H s E e s' → X.xe e s'

section
variable {X : Cx} {CX : CXT} {k : Nat} {f C : Addr} {fd : FuncData} {ps : List Str} {sp : Sp} {dvs : List V} {ds : List Value} {E : XK} {x m : Str} {p pos apos : Pos} {e o : Expr} {es : List Expr} {ta : TE} {t : TA}
theorem run_fn {pins : List (Addr × Obj)} {σ : St} {H : Hp} {s : Shared} {Q : VK} {us : List Value} {vs : List V} (F : FnOk X.prog X.w X.K X.mg X.base CX k f fd ps sp) (hr : Room k X.A) (hb : Binds X.K fd ps ds) (hd : Vals dvs ds) (hx : Passes CX X E)
    (I : Inv X pins σ H s) (r : Vals vs us) (h : sp (vs ++ dvs) H Q E) : wpAny (model X.prog X.w) X.A (call (.ref f) us) (EP X pins σ Q) X.xe s := by
  have r2 : Vals (vs ++ dvs) (us ++ ds) := r.append hd
  have hl : (us ++ ds).length = ps.length := by rw [← r2.length]; exact F.len _ _ _ _ h
  refine wpAny_call (codeAny_mono (F.run X.A X.stack s H ⟨us, []⟩ (us ++ ds) (vs ++ dvs) Q E hr I.env0 (hb s us I.kIn hl) r2 h) fun r s' hq => ?_)
  cases r with
  | error e => exact hx pins σ H s e s' I hq
  | ok fl =>
    cases fl with
    | ret u => exact I.after hq
    | next => exact False.elim hq
    | brk => exact False.elim hq
    | cont => exact False.elim hq

theorem pe_call (F : FnOk X.prog X.w X.K X.mg X.base CX k f fd ps sp) (hr : Room k X.A) (hg : Gl X x) (hm : X.mg x = some (.ref f)) (hk : PySem.W.keepIn X.K (.ref f) = true) (hb : Binds X.K fd ps ds) (hd : Vals dvs ds) (hx : Passes CX X E)
    (ha : PA X (e :: es) t) (hdb : (x == ("__debug__" : Str)) = false := by decide) (he : starEach (e :: es) X.env = (false, eval e X.env) :: starEach es X.env := by rfl) (hpl : (backTo pos (starEach es X.env)).any (·.1) = false := by rfl) :
    PE X (.Call (.Name x p) (e :: es) [] pos) (tCall sp dvs E t) := by
  intro pins s σ H Q I h
  refine wpAny_Call_Name_kw (ld_glob I hg hm ?_ hdb)
  refine PySem.W.callWith_K (h₀ := X.base) I.ok.mod.kin hk (thn (ha pos pins s σ H _ I h) fun us s1 ⟨vs, H1, I1, r, q⟩ => ⟨I1.kIn, ?_⟩) he hpl
  exact run_fn F hr hb hd hx I1 r q
structure Mk (K : PySem.W.Frag) (C f : Addr) : Prop where
  makes : PySem.W.makesIn K C = true
  init : PySem.W.findIn K (.ref C) "__init__" = some (some (.ref f))
  fn : PySem.W.isFn K (.ref f) = true
  kp : PySem.W.keepIn K (.ref C) = true

end
def PK (X : Cx) (kws : List Keyword) (t : TA) : Prop :=
  ∀ (pos : Pos) (pins : List (Addr × Obj)) (s : Shared) (σ : St) (H : Hp) (Q : List V → Hp → Prop), Inv X pins σ H s → t σ H Q → wpAny (model X.prog X.w) X.A (evalAll ((backToKw pos (keywordEach kws X.env)).map (·.2))) (AP X pins σ Q) X.xe s
section
variable {X : Cx} {CX : CXT} {k : Nat} {f C : Addr} {fd : FuncData} {ps ks : List Str} {sp : Sp} {E : XK} {x m : Str} {p pos apos kpos : Pos} {e o : Expr} {es : List Expr} {kws : List Keyword} {te ta : TE} {t tk : TA} {nm : Option Str}
structure KBinds (K : PySem.W.Frag) (fd : FuncData) (ps ks : List Str) (g : List Value → List Value → List Value) (gV : List V → List V → List V) : Prop where
  to : ∀ (s : Shared) (us ws : List Value), K.In s.heap → (g us ws).length = ps.length → BindsTo s fd ⟨us, ks.zip ws⟩ (ps.zip (g us ws))
  rel : ∀ {vs : List V} {us : List Value} {zs : List V} {ws : List Value}, Vals vs us → Vals zs ws → Vals (gV vs zs) (g us ws)
def tCallK (sp : Sp) (gV : List V → List V → List V) (E : XK) (t tk : TA) : TE := fun σ H Q => t σ H fun vs H1 => tk σ H1 fun zs H2 => sp (gV vs zs) H2 Q E
variable {g : List Value → List Value → List Value} {gV : List V → List V → List V}
end
structure FnScope (N P : List Str) (sc : Scope) : Prop where
  kind : sc.kind = .function
  co : sc.isCoroutine = false
  gen : sc.isGenerator = false
  nd : N.Nodup
  pre : N.take P.length = P
  par : ∀ x ∈ P, sc.names.lookup x = some .local ∨ sc.names.lookup x = some .cell
  nofree : ∀ y ∈ sc.names, y.2 ≠ .free

theorem bindL_out {kindOf : Str → Option NameKind} {x : Str} : ∀ {binds : List (Str × Value)} {m : Str → Option Value}, (∀ v, (x, v) ∉ binds) → bindL kindOf binds m x = m x
  | [], _, _ => rfl
  | (n, v) :: r, m, h => by
    unfold bindL
    rw [bindL_out fun w hw => h w (List.mem_cons_of_mem _ hw)]
    split
    · have : x ≠ n := by rintro rfl; exact h v List.mem_cons_self
      simp [this]
    · rfl
theorem bindC_out {kindOf : Str → Option NameKind} {x : Str} : ∀ {binds : List (Str × Value)} {m : Str → Option Value}, (∀ v, (x, v) ∉ binds) → bindC kindOf binds m x = m x
  | [], _, _ => rfl
  | (n, v) :: r, m, h => by
    unfold bindC
    rw [bindC_out fun w hw => h w (List.mem_cons_of_mem _ hw)]
    split
    · rfl
    · have : x ≠ n := by rintro rfl; exact h v List.mem_cons_self
      simp [this]
theorem bindL_get {kindOf : Str → Option NameKind} {x : Str} {v : Value} : ∀ {P : List Str} {vs : List Value} {i : Nat} {m : Str → Option Value}, P.Nodup → P[i]? = some x → vs[i]? = some v → kindOf x = some .local →
    bindL kindOf (P.zip vs) m x = some v
  | [], _, _, _, _, h, _, _ => by simp at h
  | _ :: _, [], _, _, _, _, h, _ => by simp at h
  | p :: P, w :: vs, 0, m, nd, h1, h2, hk => by
    simp at h1 h2; subst h1; subst h2
    show bindL kindOf ((p, w) :: P.zip vs) m p = _
    unfold bindL
    rw [bindL_out fun v hv => (List.nodup_cons.mp nd).1 (List.of_mem_zip hv).1, if_pos hk]
    simp
  | p :: P, w :: vs, i + 1, m, nd, h1, h2, hk => by
    show bindL kindOf ((p, w) :: P.zip vs) m x = _
    unfold bindL
    exact bindL_get (i := i) (List.nodup_cons.mp nd).2 (by simpa using h1) (by simpa using h2) hk
theorem bindC_get {kindOf : Str → Option NameKind} {x : Str} {v : Value} : ∀ {P : List Str} {vs : List Value} {i : Nat} {m : Str → Option Value}, P.Nodup → P[i]? = some x → vs[i]? = some v → kindOf x ≠ some .local →
    bindC kindOf (P.zip vs) m x = some v
  | [], _, _, _, _, h, _, _ => by simp at h
  | _ :: _, [], _, _, _, _, h, _ => by simp at h
  | p :: P, w :: vs, 0, m, nd, h1, h2, hk => by
    simp at h1 h2; subst h1; subst h2
    show bindC kindOf ((p, w) :: P.zip vs) m p = _
    unfold bindC
    rw [bindC_out fun v hv => (List.nodup_cons.mp nd).1 (List.of_mem_zip hv).1, if_neg hk]
    simp
  | p :: P, w :: vs, i + 1, m, nd, h1, h2, hk => by
    show bindC kindOf ((p, w) :: P.zip vs) m x = _
    unfold bindC
    exact bindC_get (i := i) (List.nodup_cons.mp nd).2 (by simpa using h1) (by simpa using h2) hk
def start (N : List Str) (vs : List V) : St := vs.map some ++ List.replicate (N.length - vs.length) none
def cxOf (CX : CXT) (P : Program) (w : World) (K : PySem.W.Frag) (mg : Str → Option Value) (base : Heap) (N : List Str) (qual : Str) (scope : Scope) (f : Addr) (cd : Value) (A : Around) (outer : List Env) (s : Shared) (H : Hp) (E : XK) : Cx where
  prog := P
  w := w
  K := K
  mg := mg
  base := base
  A := A.deeper (envOfC qual scope s.heap.objs.size f cd)
  N := N
  s₀ := s
  H₀ := H
  env := envOfC qual scope s.heap.objs.size f cd
  outer := outer
  stack := envOfC qual scope s.heap.objs.size f cd :: outer
  ex := []
  calm := true
  fn := fun _ => true
  pn := []
  xe := fun e s' => wpAny (model P w) (A.deeper (envOfC qual scope s.heap.objs.size f cd)) (leaving (envOfC qual scope s.heap.objs.size f cd) e) (fun _ s'' => CX outer H s E e s'') (fun e' s'' => CX outer H s E e' s'') s'

theorem cell_has {sc : Scope} {n : Nat} {x : Str} (h : sc.names.lookup x = some .cell) : ∃ c, (cellsFrom n sc.names []).lookup x = some c := by
  have q := PySem.W.cellsFrom_some sc.names n [] (.inl h)
  exact Option.isSome_iff_exists.mp q

theorem inv_start {CX : CXT} {P : Program} {w : World} {K : PySem.W.Frag} {mg : Str → Option Value} {base : Heap} {N ps : List Str} {qual : Str} {scope : Scope} {f : Addr} {cd : Value} {A : Around} {outer : List Env} {s s1 : Shared} {H : Hp} {E : XK} {us : List Value} {vs : List V}
    (S : FnScope N ps scope) (hd : A.handled = none) (e0 : Env0 P w K mg base A outer s H) (hl : vs.length = ps.length) (r : Vals vs us)
    (x : InCallC s s.heap.objs.size (bindL (envOfC qual scope s.heap.objs.size f cd).kindOf (ps.zip us) fun _ => none) (cellsFrom (s.heap.objs.size + 1) scope.names []) (bindC (envOfC qual scope s.heap.objs.size f cd).kindOf (ps.zip us) fun _ => none) s1) :
    Inv (cxOf CX P w K mg base N qual scope f cd A outer s H E) [] (start N vs) H s1 := by
  have hpl : ps.length ≤ N.length := by have := congrArg List.length S.pre; rw [List.length_take] at this; omega
  obtain ⟨h1, tk, rfl, hk⟩ := x.done
  have noA : ∀ b : Addr, b ∉ (cxOf CX P w K mg base N qual scope f cd A outer s H E).ex := fun b z => absurd (show b ∈ ([] : List Addr) from z) (by simp)
  refine ⟨⟨e0.mod, S.kind, rfl, rfl, Nat.le_refl _, fun y z c h1 h2 => ?_, fun y hy => ?_, fun y c _ h => ?_, fun _ => hd, Around.frames_deeper e0.frames, .inr ⟨rfl, rfl⟩, fun b z => absurd z (noA b), e0.bs, e0.bsz, fun b _ _ => noA b, fun b z => absurd z (noA b), e0.funs, e0.frf⟩,
    rfl, e0.bare, Un.kept hk, ⟨_, x.toInCall.ns, fun i y v h1 h2 h3 => ?_⟩, fun y c h => ⟨_, x.cell y c h⟩, e0.hok.fresh (Nat.le_refl _), fun y c h => ?_, fun p hp => absurd (show p ∈ ([] : List (Addr × Obj)) from hp) (by simp), e0.hok.kept hk, ?_⟩
  · exact name_of_addr x.apart (PySem.mem_of_lookup h1) (PySem.mem_of_lookup h2)
  · have hy : scope.names.lookup y = some .cell ∨ scope.names.lookup y = some .free := hy
    rcases hy with hy | hy
    · exact cell_has hy
    · exact absurd rfl (S.nofree _ (PySem.mem_of_lookup hy))
  · exact Nat.le_of_lt (x.above y c (PySem.mem_of_lookup h))
  · have hi : i < vs.length := by
      unfold start at h2
      by_cases hi : i < vs.length
      · exact hi
      · rw [List.getElem?_append_right (by simpa using hi)] at h2
        rw [List.getElem?_replicate] at h2
        split at h2 <;> cases h2
    have ha : vs[i]? = some v := by
      unfold start at h2
      rw [List.getElem?_append_left (by simpa using hi), List.getElem?_map] at h2
      cases e : vs[i]? with
      | none => rw [e] at h2; cases h2
      | some a => rw [e] at h2; cases h2; rfl
    obtain ⟨u, hu, rv⟩ := r.get ha
    have hp : ps[i]? = some y := by
      rw [← S.pre, List.getElem?_take_of_lt (by omega)]; exact h1
    have ndP : ps.Nodup := by rw [← S.pre]; exact S.nd.sublist (List.take_sublist _ _)
    refine ⟨u, rv, ?_⟩
    rcases S.par y (List.mem_of_getElem? hp) with k | k
    · exact .inl ⟨k, bindL_get ndP hp hu k⟩
    · obtain ⟨c, e⟩ := cell_has (n := s.heap.objs.size + 1) k
      refine .inr ⟨.inl k, c, e, ?_⟩
      have q := x.cell y c e
      rw [bindC_get ndP hp hu (by show scope.names.lookup y ≠ _; rw [k]; decide)] at q
      exact q
  · exact e0.hok.fresh (Nat.le_of_lt (x.above y c (PySem.mem_of_lookup h)))
  · unfold start
    show _ = N.length
    rw [List.length_append, List.length_map, List.length_replicate]
    omega
theorem fn_of {CX : CXT} {P : Program} {w : World} {K : PySem.W.Frag} {mg : Str → Option Value} {base : Heap} {k : Nat} {f : Addr} {name qual : Str} {params : Arguments} {body : List Stmt} {scope : Scope} {dV kV doc pm cdv ct oc : Value} {an od : Option Addr}
    {osl : Array (Option Value)} {N ps : List Str} {sp : Sp} (lk : K.lookup f = some ⟨oc, od, .func (PySem.W.fnOf name qual params body scope dV kV doc pm an cdv ct), osl⟩) (hcd : PySem.W.codeIn K cdv qual = true) (S : FnScope N ps scope)
    (len : ∀ vs H Q E, sp vs H Q E → vs.length = ps.length)
    (hbody : ∀ (A : Around) (outer : List Env) (s : Shared) (H : Hp) (vs : List V) (Q : VK) (E : XK), Room k (A.deeper (envOfC qual scope s.heap.objs.size f cdv)) → sp vs H Q E →
      ∃ t, PSs (cxOf CX P w K mg base N qual scope f cdv A outer s H E) body t ∧ t { nx := fun _ H' => Q .non H', rt := Q } (start N vs) H) :
    FnOk P w K mg base CX (k + 1) f (PySem.W.fnOf name qual params body scope dV kV doc pm an cdv ct) ps sp := by
  refine ⟨len, fun A outer s H args us vs Q E hr e0 hb r hsp => ?_⟩
  have hl := len _ _ _ _ hsp
  have KX : K.In s.heap := e0.mod.kin.keeps fun b o e => (e0.bs b o e).1
  have lim : s.heap.NoLimit := e0.mod.nolimit.keeps fun b o e => (e0.bs b o e).1
  have hkind : ∀ y ∈ ps.zip us, scope.names.lookup y.1 = some .local ∨ (scope.names.lookup y.1 = some .cell ∧ ((cellsFrom (s.heap.objs.size + 1) scope.names []).lookup y.1).isSome = true) := fun ⟨n, v⟩ hy => by
    rcases S.par n (List.of_mem_zip hy).1 with q | q
    · exact .inl q
    · exact .inr ⟨q, PySem.W.cellsFrom_some _ _ _ (.inl q)⟩
  refine codeAny_call_function hr.depth (KX _ _ lk) rfl S.co S.gen rfl (PySem.W.codeRec_of KX hcd) (hb _ _ _ _ ?_)
  refine wpAny_newFunctionEnv_cells S.kind hkind fun env he s1 x => ?_
  subst he
  refine ⟨lim.keeps x.toInCall.keep, codeAny_func ?_⟩
  obtain ⟨t, ht, hq⟩ := hbody A outer s H vs Q E (hr.deeper _) hsp
  have I : Inv (cxOf CX P w K mg base N qual scope f cdv A outer s H E) [] (start N vs) H s1 := inv_start S hr.hd e0 hl r x
  refine wpAny_mono (ht [] s1 (start N vs) H _ I hq) (fun fl s' hs => ?_) fun e s' hs => hs
  have fin : ∀ {σ' : St} {H' : Hp} {v : V} {u : Value}, Inv (cxOf CX P w K mg base N qual scope f cdv A outer s H E) [] σ' H' s' → RelV v u → Q v H' → CE outer P w H s Q u s' :=
    fun {σ' H' v u} J rv q => ⟨v, H', J.os, J.bare, J.base, J.hok, rv, q⟩
  cases fl with
  | ret u =>
    obtain ⟨v, σ', H', J, rv, q⟩ := hs
    exact fin J rv q
  | next =>
    obtain ⟨σ', H', J, q⟩ := hs
    exact fin (v := V.non) (u := Value.none) J rfl q
  | brk =>
    obtain ⟨_, _, _, q⟩ := hs
    exact False.elim q
  | cont =>
    obtain ⟨_, _, _, q⟩ := hs
    exact False.elim q
end L2

namespace L2
open PySem PySem.Spec PyProof.Rows
section
variable {X : Cx} {x : Str} {p pos : Pos} {e : Expr} {es : List Expr} {t : TA} {id T : String} {r : List V → Hp → VK → Prop}

def tCB (r : List V → Hp → VK → Prop) (t : TA) : TE := fun σ H Q => t σ H fun vs H1 => r vs H1 Q
theorem pe_callB (hc : CallR X (.builtin id) r) (hg : Gl X x) (hm : X.mg x = none) (hv : bootBuiltins x = some (.builtin id)) (ha : PA X (e :: es) t) (hn : x ≠ "__name__" := by decide) (hdb : (x == ("__debug__" : Str)) = false := by decide)
    (he : starEach (e :: es) X.env = (false, eval e X.env) :: starEach es X.env := by rfl) (hpl : (backTo pos (starEach es X.env)).any (·.1) = false := by rfl) : PE X (.Call (.Name x p) (e :: es) [] pos) (tCB r t) := by
  intro pins s σ H Q I h
  refine wpAny_Call_Name_kw (ld_blt I hg hm hv ?_ hn hdb)
  exact PyProof.Rows.callWith_builtin1 (thn (ha pos pins s σ H _ I h) fun us s1 ⟨vs, H1, I1, r1, q1⟩ => hc pins s1 σ H1 vs us Q I1 r1 q1) he hpl
theorem pe_callTy (hc : CallR X (.type T) r) (hg : Gl X x) (hm : X.mg x = none) (hv : bootBuiltins x = some (.type T)) (ha : PA X (e :: es) t) (hn : x ≠ "__name__" := by decide) (hdb : (x == ("__debug__" : Str)) = false := by decide)
    (he : starEach (e :: es) X.env = (false, eval e X.env) :: starEach es X.env := by rfl) (hpl : (backTo pos (starEach es X.env)).any (·.1) = false := by rfl) : PE X (.Call (.Name x p) (e :: es) [] pos) (tCB r t) := by
  intro pins s σ H Q I h
  refine wpAny_Call_Name_kw (ld_blt I hg hm hv ?_ hn hdb)
  exact PyProof.Rows.callWith_type1 (thn (ha pos pins s σ H _ I h) fun us s1 ⟨vs, H1, I1, r1, q1⟩ => hc pins s1 σ H1 vs us Q I1 r1 q1) he hpl
end
end L2

namespace HT
open PySem PyProof.Rows
def lexLt : List Int → List Int → Bool
  | [], [] => false
  | [], _ :: _ => true
  | _ :: _, [] => false
  | x :: xs, y :: ys => if x = y then lexLt xs ys else decide (x < y)
section
open PySem.SeqAt
open PySem.AutoSeq1 (wpAny_loadPart')
open PySem.MeetsSeq PySem.MeetsSeq2 PySem.MeetsSeq3

end

section
variable {prog : Program} {w : World} {A : Around} {E : Value → Shared → Prop} {s : Shared}
def sIx (n d : Nat) : Option Int → Nat
  | none => d
  | some v => if v < 0 then (v + (n : Int)).toNat else min v.toNat n
theorem sIx_none (n d : Nat) : sIx n d none = d := rfl
theorem sIx_nat (n d k : Nat) : sIx n d (some (k : Int)) = min k n := by
  show (if (k : Int) < 0 then ((k : Int) + (n : Int)).toNat else min (k : Int).toNat n) = min k n
  rw [if_neg (by omega), Int.toNat_natCast]
theorem sIx_le (n d : Nat) (hd : d ≤ n) (o : Option Int) : sIx n d o ≤ n := by
  cases o with
  | none => exact hd
  | some v =>
    show (if v < 0 then (v + (n : Int)).toNat else min v.toNat n) ≤ n
    by_cases hv : v < 0
    · rw [if_pos hv]; omega
    · rw [if_neg hv]; exact Nat.min_le_right _ _
theorem clip_eq (v : Int) (n d : Nat) : (if v < 0 then max (v + (n : Int)) 0 else min v (n : Int)) = ((sIx n d (some v) : Nat) : Int) := by
  show (if v < 0 then max (v + (n : Int)) 0 else min v (n : Int)) = (((if v < 0 then (v + (n : Int)).toNat else min v.toNat n) : Nat) : Int)
  by_cases hv : v < 0
  · simp only [if_pos hv]; omega
  · simp only [if_neg hv]; omega
theorem adjust_gen (lo hi : Option Int) (n : Nat) : Builtin.Slice.sliceAdjust lo hi 1 (n : Int) = (((sIx n 0 lo : Nat) : Int), ((sIx n n hi : Nat) : Int)) := by
  have h1 : ¬ ((1 : Int) < 0) := by omega
  unfold Builtin.Slice.sliceAdjust
  simp only [h1, if_false]
  refine Prod.ext ?_ ?_
  · cases lo with
    | none => rfl
    | some v => exact clip_eq v n 0
  · cases hi with
    | none => rfl
    | some v => exact clip_eq v n n
theorem places_gen (i j : Nat) : Builtin.Slice.slicePlaces (i : Int) (j : Int) 1 = j - i := by
  unfold Builtin.Slice.slicePlaces
  have h1 : (1 : Int) > 0 := by omega
  simp only [h1, if_true, Int.ediv_one]
  split <;> omega
theorem slicePart_ {v : Value} {o : Option Int} {Q : Option Int → Shared → Prop} (p : IsPart v o) (h : Q o s) : wpAny (model prog w) A (Builtin.Slice.slicePartIndex v) Q E s := by
  cases p with
  | none => exact slicePart_none h
  | int i t => exact slicePart_int h
theorem sliceApplied_gen {sl : Addr} {vl vu : Value} {lo hi : Option Int} {n : Nat} {Q : Int × Int × Nat → Shared → Prop} (hs : s.heap.IsSliceOf sl vl vu .none) (pl : IsPart vl lo) (pu : IsPart vu hi)
    (h : Q (((sIx n 0 lo : Nat) : Int), 1, sIx n n hi - sIx n 0 lo) s) : wpAny (model prog w) A (Builtin.Slice.sliceApplied (.ref sl) (pure (n : Int))) Q E s := by
  obtain ⟨os, hos, hcs, hds⟩ := id hs
  unfold Builtin.Slice.sliceApplied Builtin.Slice.sliceFields
  refine wpAny_bind (wpAny_bind (wpAny_field hos hds (x := vl) rfl (wpAny_bind (wpAny_field hos hds (x := vu) rfl (wpAny_bind (wpAny_field hos hds (x := .none) rfl (wpAny_pure ?_)))))))
  refine wpAny_bind (slicePart_none ?_)
  show wpAny _ _ (if ((1 : Int) == 0) = true then _ else _) _ _ s
  rw [if_neg (by decide)]
  refine wpAny_bind (slicePart_ pl (wpAny_bind (slicePart_ pu (wpAny_bind (wpAny_pure ?_)))))
  show wpAny _ _ (match Builtin.Slice.sliceAdjust lo hi 1 (n : Int) with | (lo, hi) => pure (lo, (1 : Int), Builtin.Slice.slicePlaces lo hi 1)) _ _ s
  rw [adjust_gen lo hi n]
  show wpAny _ _ (pure (((sIx n 0 lo : Nat) : Int), (1 : Int), Builtin.Slice.slicePlaces ((sIx n 0 lo : Nat) : Int) ((sIx n n hi : Nat) : Int) 1)) _ _ s
  rw [places_gen]
  exact wpAny_pure h
theorem pick_gen (xs : Array Value) (i k : Nat) : ((List.range k).filterMap fun (m : Nat) => xs[((i : Int) + (m : Int) * 1).toNat]?).toArray = ((xs.toList.drop i).take k).toArray := by
  have e : (fun (m : Nat) => xs[((i : Int) + (m : Int) * 1).toNat]?) = fun m => xs[i + m]? := by
    funext m
    have : ((i : Int) + (m : Int) * 1).toNat = i + m := by omega
    rw [this]
  rw [e]
  have := pick_run xs i k
  rw [List.filterMap_map] at this
  have e2 : ((fun x => xs[x]?) ∘ fun x => i + x) = fun m => xs[i + m]? := rfl
  rw [e2] at this
  rw [this]

theorem getItem_tuple_cut {t sl : Addr} {items : Array Value} {vl vu : Value} {lo hi : Option Int} {Q : Value → Shared → Prop} (ht : IsTup s.heap t items) (hs : s.heap.IsSliceOf sl vl vu .none) (pl : IsPart vl lo) (pu : IsPart vu hi)
    (hw : ¬ (sIx items.size 0 lo = 0 ∧ sIx items.size items.size hi = items.size))
    (h : Q (.ref s.heap.objs.size) { s with heap := s.heap.push { cls := .type "tuple", data := .seq ((items.toList.drop (sIx items.size 0 lo)).take (sIx items.size items.size hi - sIx items.size 0 lo)).toArray } })
    (hsz : items.size ≤ sizeLine) : wpAny (model prog w) A (getItem (.ref t) (.ref sl)) Q E s := by
  have htake : sizeOk (.seq ((items.toList.drop (sIx items.size 0 lo)).take (sIx items.size items.size hi - sIx items.size 0 lo)).toArray) := by
    show ((items.toList.drop (sIx items.size 0 lo)).take (sIx items.size items.size hi - sIx items.size 0 lo)).toArray.size ≤ sizeLine
    rw [List.size_toArray, List.length_take, List.length_drop, Array.length_toList]
    omega
  have hj : sIx items.size items.size hi ≤ items.size := sIx_le _ _ (Nat.le_refl _) hi
  obtain ⟨os, hos, hcs, hds⟩ := id hs
  have hTs : s.TypeIs (.ref sl) "slice" := ⟨os, hos, hcs⟩
  unfold getItem
  try with_reducible refine wpAny_holding ?_
  first | refine wpAny_bind (wpAny_pure ?_) | skip
  refine wpAny_bind (wpAny_sequenceKey ht.typeIs (by decide) ?_)
  refine wpAny_bind (wpAny_callSpecial?_slot (name := Str.ofString "__getitem__") ht.typeIs PyProof.Rows.slot_tuple_getitem
    (wpAny_call_entry PyProof.Rows.slot_tuple_getitem ht.typeIs entry_tuple_getitem ?_ (args_tuple_getitem _ _)))
  show wpAny _ _ (Builtin.Tuple.tupleItemsOf (.ref t) >>= _) _ _ s
  refine wpAny_bind (tupleItemsOf_ ht ?_)
  refine wpAny_bind (wpAny_typeOf hTs ?_)
  rw [if_pos (by decide)]
  refine wpAny_bind (sliceApplied_gen hs pl pu ?_)
  have hno : ¬ ((((sIx items.size 0 lo : Nat) : Int) == 0 && (1 : Int) == 1 && (sIx items.size items.size hi - sIx items.size 0 lo) == items.size) = true) := by
    intro q
    rw [Bool.and_eq_true, Bool.and_eq_true] at q
    have q1 : ((sIx items.size 0 lo : Nat) : Int) = 0 := eq_of_beq q.1.1
    have q2 : sIx items.size items.size hi - sIx items.size 0 lo = items.size := eq_of_beq q.2
    exact hw ⟨by omega, by omega⟩
  show wpAny _ _ (if (((sIx items.size 0 lo : Nat) : Int) == 0 && (1 : Int) == 1 && (sIx items.size items.size hi - sIx items.size 0 lo) == items.size) = true then _ else _) _ _ s
  rw [if_neg hno, pick_gen]
  first
    | exact wpAny_bind (m := Builtin.Tuple.tupleExact _) (wpAny_newObj_type (wpAny_pure ⟨_, rfl, wpAny_pure h⟩) htake)
    | exact wpAny_bind (m := Builtin.Tuple.tupleExact _) (wpAny_newObj_type (wpAny_bind (wpAny_pure (wpAny_pure ⟨_, rfl, wpAny_pure h⟩))) htake)
    | exact wpAny_bind (wpAny_bind (m := Builtin.Tuple.tupleExact _) (wpAny_newObj_type (wpAny_pure (wpAny_pure ⟨_, rfl, wpAny_pure h⟩)) htake))
    | exact wpAny_bind (wpAny_bind (m := Builtin.Tuple.tupleExact _) (wpAny_newObj_type (wpAny_pure ⟨_, rfl, wpAny_pure h⟩) htake))
end
end HT

namespace L2
open PySem PySem.Spec PyProof.Rows
abbrev TO := St → Hp → (Option Int → Hp → Prop) → Prop
def PO (X : Cx) (e : Option Expr) (t : TO) : Prop :=
  ∀ (pins : List (Addr × Obj)) (s : Shared) (σ : St) (H : Hp) (Q : Option Int → Hp → Prop), Inv X pins σ H s → t σ H Q →
    wpAny (model X.prog X.w) X.A (evalPart e X.env) (fun u s' => ∃ o H', Inv X pins σ H' s' ∧ IsPart u o ∧ Q o H') X.xe s
def tNoPart : TO := fun _ H Q => Q none H
def tPart (t : TE) : TO := fun σ H Q => t σ H fun x H1 => ∃ i, x = .int i ∧ Q (some i) H1

theorem intsAre_of {ns : List Int} : ∀ {us : List Value}, Vals (ns.map V.int) us → IntsAre us ns := by
  induction ns with
  | nil => intro us r; rw [List.map_nil] at r; cases r; exact .nil
  | cons n ns ih =>
    intro us r
    rw [List.map_cons] at r
    cases r with
    | cons r1 r2 =>
      obtain ⟨t, e⟩ := r1
      subst e
      exact .cons n t (ih r2)

section
variable {X : Cx} {e : Expr} {te : TE} {lo hi : Option Expr} {tl th : TO} {pos p2 : Pos}

theorem po_none : PO X none tNoPart := by
  intro pins s σ H Q I h
  rw [evalPart_none]
  exact wpAny_pure ⟨none, H, I, .none, h⟩
theorem po_some (h : PE X e te) : PO X (some e) (tPart te) := by
  intro pins s σ H Q I hw
  rw [evalPart_some]
  refine thn (h pins s σ H _ I hw) fun u s1 ⟨x, H1, I1, r1, q1⟩ => ?_
  obtain ⟨i, rfl, q⟩ := q1
  obtain ⟨t, rfl⟩ := r1
  exact ⟨some i, H1, I1, .int i t, q⟩
def SlR (X : Cx) (r : V → Option Int → Option Int → Hp → VK → Prop) : Prop :=
  ∀ (pins : List (Addr × Obj)) (s : Shared) (σ : St) (H : Hp) (x : V) (v vl vu : Value) (lo hi : Option Int) (sl : Addr) (Q : VK), Inv X pins σ H s → RelV x v → s.heap.IsSliceOf sl vl vu .none → IsPart vl lo → IsPart vu hi → r x lo hi H Q →
    ∃ T id, typeLookup (.type T) "__getitem__" = pure (some (.builtin id)) ∧ s.TypeIs v T ∧ wpAny (model X.prog X.w) X.A (getItem v (.ref sl)) (EP X pins σ Q) X.xe s
def tSl (r : V → Option Int → Option Int → Hp → VK → Prop) (te : TE) (tl th : TO) : TE := fun σ H Q => te σ H fun x H1 => tl σ H1 fun l H2 => th σ H2 fun u H3 => r x l u H3 Q
theorem pe_slice {r : V → Option Int → Option Int → Hp → VK → Prop} (hr : SlR X r) (he : PE X e te) (hl : PO X lo tl) (hu : PO X hi th) : PE X (.Subscript e (.Slice lo hi none p2) pos) (tSl r te tl th) := by
  intro pins s σ H Q I h
  refine Subscript_ (thn (he pins s σ H _ I h) fun v s1 ⟨x, H1, I1, r1, q1⟩ => ?_)
  refine wpAny_Slice (thn (hl pins s1 σ H1 _ I1 q1) fun vl s2 ⟨l, H2, I2, pl, q2⟩ => thn (hu pins s2 σ H2 _ I2 q2) fun vu s3 ⟨u, H3, I3, pu, q3⟩ => ?_)
  rw [evalPart_none]
  refine wpAny_pure ?_
  have I4 : Inv X pins σ H3 { s3 with heap := s3.heap.push { cls := .type "slice", data := .fields #[vl, vu, .none] } } := I3.kept (t' := s3.toks) fun b ob q => Heap.get?_push_of_some _ q
  obtain ⟨T, id, hT, ht, hg⟩ := hr pins { s3 with heap := s3.heap.push { cls := .type "slice", data := .fields #[vl, vu, .none] } } σ H3 x v vl vu l u s3.heap.objs.size Q I4 r1 (Heap.IsSliceOf.new ..) pl pu q3
  show wpAny (model X.prog X.w) X.A (subscriptTail e (.Slice lo hi none p2) v (.ref s3.heap.objs.size)) (EP X pins σ Q) X.xe { s3 with heap := s3.heap.push { cls := .type "slice", data := .fields #[vl, vu, .none] } }
  exact tail_any (ops := [.ref s3.heap.objs.size, v]) ht hT hg (by with_unfolding_all rfl)
def cutV (xs : List V) (lo hi : Option Int) : List V := (xs.drop (HT.sIx xs.length 0 lo)).take (HT.sIx xs.length xs.length hi - HT.sIx xs.length 0 lo)
theorem cutV_length (xs : List V) (lo hi : Option Int) : (cutV xs lo hi).length ≤ xs.length := by
  unfold cutV
  rw [List.length_take, List.length_drop]
  omega
def rSlT (K : PySem.W.Frag) : V → Option Int → Option Int → Hp → VK → Prop := fun x lo hi H Q => ∃ a xs, x = .ref a ∧ SqT K H a xs ∧
  ¬ (HT.sIx xs.length 0 lo = 0 ∧ HT.sIx xs.length xs.length hi = xs.length) ∧ ∀ p, H p = none → Q (.ref p) (upd H p (.tup (cutV xs lo hi)))
theorem sl_tup : SlR X (rSlT X.K) := by
  intro pins s σ H x v vl vu lo hi sl Q I rx hs pl pu h
  obtain ⟨a, xs, rfl, hx, hw, q⟩ := h
  cases rx
  obtain ⟨its, r, ht, hz⟩ := I.tuple hx
  have hlen : its.toArray.size = xs.length := by rw [List.size_toArray]; exact r.length.symm
  refine ⟨"tuple", _, PyProof.Rows.slot_tuple_getitem.lookup, ht.typeIs, ?_⟩
  refine HT.getItem_tuple_cut ht hs pl pu (by rw [hlen]; exact hw) ?_ (by rw [hlen]; exact hz)
  rw [hlen]
  refine ⟨.ref s.heap.objs.size, _, I.laid (t' := s.toks) (o := .tup (cutV xs lo hi)) (fun b ob q => Heap.get?_push_of_some _ q) (Nat.le_refl _) ?_, rfl, q _ (I.hok.fresh (Nat.le_refl _))⟩
  exact ⟨Nat.le_trans (cutV_length xs lo hi) hz, _, (r.drop (HT.sIx xs.length 0 lo)).take (HT.sIx xs.length xs.length hi - HT.sIx xs.length 0 lo), IsTup.new _ _⟩
def rLtT (K : PySem.W.Frag) : R2 := fun x y H Q => ∃ a b ns ms, x = .ref a ∧ y = .ref b ∧ SqT K H a (ns.map V.int) ∧ SqT K H b (ms.map V.int) ∧ Q (.bl (HT.lexLt ns ms)) H
def rCatT (K : PySem.W.Frag) : R2 := fun x y H Q => ∃ a b xs ys, x = .ref a ∧ y = .ref b ∧ SqT K H a xs ∧ SqT K H b ys ∧ xs ≠ [] ∧ xs.length + ys.length ≤ sizeLine ∧
  (ys = [] → Q (.ref a) H) ∧ (ys ≠ [] → ∀ p, H p = none → Q (.ref p) (upd H p (.tup (xs ++ ys))))
end
end L2

namespace L2
open PySem PySem.Spec PyProof.Rows
def ixN (n : Nat) (i : Int) : Option Nat := if 0 ≤ i then (if i < n then some i.toNat else none) else if -(n : Int) ≤ i then some (i + n).toNat else none
def atI {α : Type} (xs : List α) (i : Int) : Option α := (ixN xs.length i).bind fun j => xs[j]?
theorem ixN_seq {n : Nat} {i : Int} {j : Nat} (h : ixN n i = some j) : seqIndex? i n = some j ∧ j < n ∧ -(n : Int) ≤ i ∧ i < n := by
  unfold ixN at h
  by_cases h0 : 0 ≤ i
  · rw [if_pos h0] at h
    by_cases h1 : i < n
    · rw [if_pos h1] at h
      have e : i.toNat = j := Option.some.inj h
      exact ⟨by rw [seqIndex_of h0 h1, e], by omega, by omega, h1⟩
    · rw [if_neg h1] at h; cases h
  · rw [if_neg h0] at h
    by_cases h1 : -(n : Int) ≤ i
    · rw [if_pos h1] at h
      have e : (i + n).toNat = j := Option.some.inj h
      exact ⟨by rw [seqIndex_neg (by omega) h1, e], by omega, h1, by omega⟩
    · rw [if_neg h1] at h; cases h
theorem atI_get {α : Type} {xs : List α} {i : Int} {v : α} (h : atI xs i = some v) : ∃ j, seqIndex? i xs.length = some j ∧ xs[j]? = some v ∧ j < xs.length ∧ -(xs.length : Int) ≤ i ∧ i < xs.length := by
  unfold atI at h
  cases e : ixN xs.length i with
  | none => rw [e] at h; cases h
  | some j =>
    rw [e] at h
    obtain ⟨h1, h2, h3, h4⟩ := ixN_seq e
    exact ⟨j, h1, h, h2, h3, h4⟩
theorem atI_nat {α : Type} {xs : List α} {j : Nat} {v : α} (h : xs[j]? = some v) : atI xs (j : Int) = some v := by
  have hj : j < xs.length := (List.getElem?_eq_some_iff.mp h).1
  have e : ixN xs.length (j : Int) = some j := by
    unfold ixN
    rw [if_pos (by omega), if_pos (by omega)]; simp
  unfold atI; rw [e]; exact h
def PlainIx (b : Expr) : Prop := ∀ o i, subscripted b false o i = operate [o, i] (getItem o i)
def IxR (X : Cx) (r : R2) : Prop :=
  ∀ (value slice : Expr) (pins : List (Addr × Obj)) (s : Shared) (σ : St) (H : Hp) (x y : V) (v u : Value) (Q : VK), Inv X pins σ H s → RelV x v → RelV y u → r x y H Q →
    subscripted slice false v u = operate [v, u] (getItem v u) → wpAny (model X.prog X.w) X.A (subscriptTail value slice v u) (EP X pins σ Q) X.xe s
def MtR (X : Cx) (id : String) (r : V → List V → Hp → VK → Prop) : Prop :=
  ∀ (pins : List (Addr × Obj)) (s : Shared) (σ : St) (H : Hp) (x : V) (xs : List V) (v : Value) (us : List Value) (Q : VK), Inv X pins σ H s → RelV x v → Vals xs us → r x xs H Q →
    wpAny (model X.prog X.w) X.A (call (.builtin id) (v :: us)) (EP X pins σ Q) X.xe s
section
variable {X : Cx} {a b : Expr} {ta tb : TE} {pos : Pos}
theorem pe_ix {r : R2} (hr : IxR X r) (ha : PE X a ta) (hb : PE X b tb) (hs : PlainIx b) : PE X (.Subscript a b pos) (tOp r ta tb) := by
  intro pins s σ H Q I h
  exact Subscript_ (binT ha hb I h fun v u s2 x y H2 I2 rx ry q => hr a b pins s2 σ H2 x y v u Q I2 rx ry q (hs _ _))

def rIxL (K : PySem.W.Frag) : R2 := fun x y H Q => ∃ p xs i v, x = .ref p ∧ y = .int i ∧ SqL K H p xs ∧ atI xs i = some v ∧ Q v H
def rIxT (K : PySem.W.Frag) : R2 := fun x y H Q => ∃ p xs i v, x = .ref p ∧ y = .int i ∧ SqT K H p xs ∧ atI xs i = some v ∧ Q v H
def rIxS : R2 := fun x y H Q => ∃ z i c, x = .str z ∧ y = .int i ∧ z.length ≤ sizeLine ∧ atI z.cps.toList i = some c ∧ Q (.str ⟨#[c]⟩) H
theorem ix_list : IxR X (rIxL X.K) := by
  intro value slice pins s σ H x y v u Q I rx ry h hs
  obtain ⟨p, xs, i, z, rfl, rfl, hq, he, q⟩ := h
  cases rx
  obtain ⟨t, rfl⟩ := ry
  obtain ⟨its, r, pl, hz⟩ := I.list hq
  obtain ⟨j, h1, h2, h3, h4, h5⟩ := atI_get he
  obtain ⟨w, ew, rw'⟩ := r.get h2
  have hl := r.length
  have hn := line63
  have fin : EP X pins σ Q w s := ⟨z, H, I, rw', q⟩
  by_cases h0 : 0 ≤ i
  · have hj : i.toNat = j := by
      rw [seqIndex_of h0 h5] at h1
      exact Option.some.inj h1
    exact item_listR pl.isList h0 (by omega) (by rw [hj]; simpa using ew) fin hs
  · have hj : (i + (its.toArray.size : Int)).toNat = j := by
      rw [seqIndex_neg (by omega) h4] at h1
      rw [List.size_toArray, ← hl]
      exact Option.some.inj h1
    exact subscriptTail_builtinR (x := w) pl.isList.typeIs slot_list_getitem.lookup
      (wpAny_getItem_list_neg (Q := fun r s' => r = w ∧ EP X pins σ Q r s') pl.isList (by omega) (by rw [List.size_toArray] <;> omega) (by omega) (by rw [hj]; simpa using ew) ⟨rfl, fin⟩) hs
theorem ix_tup : IxR X (rIxT X.K) := by
  intro value slice pins s σ H x y v u Q I rx ry h hs
  obtain ⟨p, xs, i, z, rfl, rfl, hq, he, q⟩ := h
  cases rx
  obtain ⟨t, rfl⟩ := ry
  obtain ⟨its, r, pl, hz⟩ := I.tuple hq
  obtain ⟨j, h1, h2, h3, h4, h5⟩ := atI_get he
  obtain ⟨w, ew, rw'⟩ := r.get h2
  have hl := r.length
  have hn := line63
  have fin : EP X pins σ Q w s := ⟨z, H, I, rw', q⟩
  exact subscriptTail_builtinR (x := w) pl.typeIs slot_tuple_getitem.lookup
    (getItem_tuple (j := j) (Q := fun r s' => r = w ∧ EP X pins σ Q r s') pl (by omega) (by omega) (by rw [List.size_toArray, ← hl]; exact h1) (by simpa using ew) ⟨rfl, fin⟩) hs
def rIx (K : PySem.W.Frag) : R2 := fun x y H Q => rIxL K x y H Q ∨ rIxT K x y H Q ∨ rIxS x y H Q
theorem mapSeq_set (its : List Value) (n j : Nat) (u : Value) : Obj.mapSeq (·.setIfInBounds j u) { cls := .type "list", data := .seq its.toArray n } = { cls := .type "list", data := .seq (its.set j u).toArray n } := by
  simp [Obj.mapSeq]
theorem Inv.lst {pins : List (Addr × Obj)} {σ : St} {H : Hp} {s : Shared} {p : Addr} {xs : List V} (I : Inv X pins σ H s) (h : H p = some (.lst xs)) :
    ∃ (its : List Value) (n : Nat), Vals xs its ∧ s.heap.get? p = some { cls := .type "list", data := .seq its.toArray n } ∧ xs.length ≤ sizeLine := by
  obtain ⟨z, its, n, r, e⟩ := I.hok p _ h
  exact ⟨its, n, r, e, z⟩
theorem Inv.lstUpd {pins : List (Addr × Obj)} {σ : St} {H : Hp} {s : Shared} {p : Addr} {xs ys : List V} {its its' : List Value} {n n' : Nat} {f : Obj → Obj} (I : Inv X pins σ H s) (h : H p = some (.lst xs))
    (ho : s.heap.get? p = some { cls := .type "list", data := .seq its.toArray n }) (hf : f { cls := .type "list", data := .seq its.toArray n } = { cls := .type "list", data := .seq its'.toArray n' }) (r : Vals ys its') (hz : ys.length ≤ sizeLine) (t : Nat) :
    Inv X pins σ (upd H p (.lst ys)) { s with heap := s.heap.update p f, toks := t } := by
  have e : (s.heap.update p f).get? p = some { cls := .type "list", data := .seq its'.toArray n' } := by
    rw [Heap.get?_update_self f ho (by rw [hf] <;> rfl), hf]
  refine I.write (x := p) (e := p) (by rw [h]; trivial) (.inl rfl) (fun b u hb q => (Heap.get?_update_other _ _ (Ne.symm hb)).trans q) ⟨_, e⟩ ?_
  exact ⟨hz, its', n', r, e⟩
def rSetL : V → V → V → Hp → (Hp → Prop) → Prop := fun o i v H Q => ∃ p xs k j, o = .ref p ∧ i = .int k ∧ H p = some (.lst xs) ∧ ixN xs.length k = some j ∧ Q (upd H p (.lst (xs.set j v)))
theorem set_list : PSet X rSetL := by
  intro pins s σ H o i v ov iv u Q I ro ri rv h
  obtain ⟨p, xs, k, j, rfl, rfl, hp, hj, q⟩ := h
  cases ro
  obtain ⟨t, rfl⟩ := ri
  obtain ⟨its, n, r, ho, hz⟩ := I.lst hp
  obtain ⟨h1, h2, h3, h4⟩ := ixN_seq hj
  have hl := r.length
  have hn := line63
  have I' : Inv X pins σ (upd H p (.lst (xs.set j v))) { s with heap := s.heap.update p (Obj.mapSeq (·.setIfInBounds j u)) } :=
    I.lstUpd hp ho (mapSeq_set its n j u) (r.set rv j) (by rw [List.length_set]; exact hz) s.toks
  by_cases h0 : 0 ≤ k
  · have hk : k.toNat = j := by
      rw [seqIndex_of h0 h4] at h1
      exact Option.some.inj h1
    exact PySem.W.ki_setAt ho h0 (by omega) (by rw [List.size_toArray, ← hl]; exact h4) (by rw [hk]; exact ⟨_, I', q⟩)
  · have hk : (k + (its.toArray.size : Int)).toNat = j := by
      rw [seqIndex_neg (by omega) h3] at h1
      rw [List.size_toArray, ← hl]
      exact Option.some.inj h1
    exact PySem.W.ki_setBack ho (by omega) (by rw [List.size_toArray, ← hl]; exact h3) (by omega) (by rw [hk]; exact ⟨_, I', q⟩)
theorem slice_bounds (lo hi : Option Int) (n : Nat) : (sliceBounds lo hi none n).1 = ((HT.sIx n 0 lo : Nat) : Int) ∧ (sliceBounds lo hi none n).2.1 = ((HT.sIx n n hi : Nat) : Int) ∧ (sliceBounds lo hi none n).2.2 = 1 := by
  refine ⟨?_, ?_, rfl⟩
  · cases lo with
    | none => simp [sliceBounds, HT.sIx]
    | some i =>
      simp only [sliceBounds, HT.sIx, Option.getD_none, show (1 : Int) > 0 by decide, if_true]
      by_cases h : i < 0
      · simp only [h, if_true] <;> omega
      · simp only [h, if_false] <;> omega
  · cases hi with
    | none => simp [sliceBounds, HT.sIx]
    | some i =>
      simp only [sliceBounds, HT.sIx, Option.getD_none, show (1 : Int) > 0 by decide, if_true]
      by_cases h : i < 0
      · simp only [h, if_true] <;> omega
      · simp only [h, if_false] <;> omega
theorem slicePick_cut (its : List Value) (lo hi : Option Int) : slicePick its.toArray lo hi none = ((its.drop (HT.sIx its.length 0 lo)).take (HT.sIx its.length its.length hi - HT.sIx its.length 0 lo)).toArray := by
  obtain ⟨h1, h2, h3⟩ := slice_bounds lo hi its.toArray.size
  unfold slicePick
  rw [h1, h2, h3]
  simp only [sliceRange_one, pick_run, List.size_toArray] <;> rfl
def rSlL (K : PySem.W.Frag) : V → Option Int → Option Int → Hp → VK → Prop := fun x lo hi H Q => ∃ a xs, x = .ref a ∧ SqL K H a xs ∧ ∀ p, H p = none → Q (.ref p) (upd H p (.lst (cutV xs lo hi)))
theorem sl_list : SlR X (rSlL X.K) := by
  intro pins s σ H x v vl vu lo hi sl Q I rx hs pl pu h
  obtain ⟨a, xs, rfl, hx, q⟩ := h
  cases rx
  obtain ⟨its, r, ht, hz⟩ := I.list hx
  have hlen := r.length
  refine ⟨"list", _, slot_list_getitem.lookup, ht.isList.typeIs, ?_⟩
  refine wpAny_getItem_list_slice ht.isList hs pl pu .none (by simp) ?_ (by rw [List.size_toArray] <;> omega)
  rw [slicePick_cut, ← hlen]
  refine ⟨.ref s.heap.objs.size, _, I.laid (t' := s.toks) (o := .lst (cutV xs lo hi)) (fun b ob q => Heap.get?_push_of_some _ q) (Nat.le_refl _) ?_, rfl, q _ (I.hok.fresh (Nat.le_refl _))⟩
  exact ⟨Nat.le_trans (cutV_length xs lo hi) hz, _, 0, (r.drop (HT.sIx xs.length 0 lo)).take (HT.sIx xs.length xs.length hi - HT.sIx xs.length 0 lo), Heap.get?_push_size _ rfl⟩
def flatV : V → Bool
  | .non => true
  | .bl _ => true
  | .int _ => true
  | .str _ => true
  | _ => false
def eqV : V → V → Bool
  | .non, .non => true
  | .bl a, .bl b => a == b
  | .bl a, .int b => (if a then 1 else 0) == b
  | .int a, .bl b => a == (if b then 1 else 0)
  | .int a, .int b => a == b
  | .str a, .str b => a == b
  | _, _ => false
theorem eqAt_V {A : Around} {s : Shared} {y x : V} {u v : Value} (ry : RelV y u) (rx : RelV x v) (fy : flatV y = true) (fx : flatV x = true) : SeqAt.EqAt A s u v (eqV y x) := by
  cases y with
  | non =>
    cases ry
    cases x with
    | non => cases rx; exact SeqAt.EqAt.same _
    | bl b => cases rx; exact SeqAt.EqAt.none_bool b
    | int b => obtain ⟨t, rfl⟩ := rx; exact SeqAt.EqAt.none_int b t
    | str b => obtain ⟨t, rfl⟩ := rx; exact SeqAt.EqAt.none_str b t
    | _ => exact absurd (show false = true from fx) Bool.false_ne_true
  | bl a =>
    cases ry
    cases x with
    | non => cases rx; exact SeqAt.EqAt.bool_none a
    | bl b => cases rx; exact SeqAt.EqAt.bool_bool a b
    | int b => obtain ⟨t, rfl⟩ := rx; exact SeqAt.EqAt.bool_int a b t
    | str b => obtain ⟨t, rfl⟩ := rx; exact SeqAt.EqAt.bool_str a b t
    | _ => exact absurd (show false = true from fx) Bool.false_ne_true
  | int a =>
    obtain ⟨t', rfl⟩ := ry
    cases x with
    | non => cases rx; exact SeqAt.EqAt.int_none a t'
    | bl b => cases rx; exact SeqAt.EqAt.int_bool a t' b
    | int b => obtain ⟨t, rfl⟩ := rx; exact SeqAt.EqAt.int_int a t' b t
    | str b => obtain ⟨t, rfl⟩ := rx; exact SeqAt.EqAt.int_str a t' b t
    | _ => exact absurd (show false = true from fx) Bool.false_ne_true
  | str a =>
    obtain ⟨t', rfl⟩ := ry
    cases x with
    | non => cases rx; exact SeqAt.EqAt.str_none a t'
    | bl b => cases rx; exact SeqAt.EqAt.str_bool a t' b
    | int b => obtain ⟨t, rfl⟩ := rx; exact SeqAt.EqAt.str_int a t' b t
    | str b => obtain ⟨t, rfl⟩ := rx; exact SeqAt.EqAt.str_str a t' b t
    | _ => exact absurd (show false = true from fx) Bool.false_ne_true
  | _ => exact absurd (show false = true from fy) Bool.false_ne_true
def eqU (x : V) (u : Value) : Bool := match u with
  | .none => eqV .non x
  | .bool b => eqV (.bl b) x
  | .int i _ => eqV (.int i) x
  | .str z _ => eqV (.str z) x
  | _ => false
theorem eqU_of {x y : V} {u : Value} (r : RelV y u) (f : flatV y = true) : eqU x u = eqV y x := by
  cases y with
  | non => cases r; rfl
  | bl b => cases r; rfl
  | int i => obtain ⟨t, rfl⟩ := r; rfl
  | str z => obtain ⟨t, rfl⟩ := r; rfl
  | _ => exact absurd (show false = true from f) Bool.false_ne_true
theorem any_eqU {x : V} : ∀ {xs : List V} {us : List Value}, Vals xs us → xs.all flatV = true → us.any (eqU x) = xs.any fun y => eqV y x
  | _, _, .nil, _ => rfl
  | y :: xs, u :: us, .cons r t, f => by
    rw [List.all_cons, Bool.and_eq_true] at f
    rw [List.any_cons, List.any_cons, eqU_of r f.1, any_eqU t f.2]
theorem mem_eqAt {A : Around} {s : Shared} {x : V} {v : Value} (rx : RelV x v) (fx : flatV x = true) : ∀ {xs : List V} {us : List Value}, Vals xs us → xs.all flatV = true → ∀ u ∈ us, SeqAt.EqAt A s u v (eqU x u)
  | _, _, .nil, _ => fun u hu => by cases hu
  | y :: xs, u :: us, .cons r t, f => fun u' hu => by
    rw [List.all_cons, Bool.and_eq_true] at f
    rcases List.mem_cons.mp hu with rfl | hu
    · rw [eqU_of r f.1]; exact eqAt_V r rx f.1 fx
    · exact mem_eqAt rx fx t f.2 u' hu
def inV (x : V) (xs : List V) : Bool := xs.any fun y => eqV y x
def rIn (K : PySem.W.Frag) (neg : Bool) : R2 := fun x y H Q => ∃ p xs, y = .ref p ∧ (SqL K H p xs ∨ SqT K H p xs) ∧ flatV x = true ∧ xs.all flatV = true ∧ Q (.bl (if neg then !inV x xs else inV x xs)) H
theorem op_notIn_seq : OpR X (compareOp .NotIn) (rIn X.K true) := by
  intro pins s σ H x y v u Q I rx ry h
  obtain ⟨p, xs, rfl, hq, fx, fs, q⟩ := h
  cases ry
  rcases hq with hq | hq
  · obtain ⟨its, r, pl, hz⟩ := I.list hq
    refine SeqAt.notIn_listAt (eqU x) pl.isList (fun w hw => mem_eqAt rx fx r fs w (by simpa using hw)) ⟨.bl _, H, I, rfl, ?_⟩
    rw [show its.toArray.any (eqU x) = its.any (eqU x) by simp, any_eqU r fs]
    exact q
  · obtain ⟨its, r, pl, hz⟩ := I.tuple hq
    refine SeqAt.notIn_tupleAt (eqU x) pl (fun w hw => mem_eqAt rx fx r fs w (by simpa using hw)) ⟨.bl _, H, I, rfl, ?_⟩
    rw [show its.toArray.any (eqU x) = its.any (eqU x) by simp, any_eqU r fs]
    exact q
theorem call_len_seq : CallR X (.builtin "len") (fun xs H Q => ∃ p ys, xs = [.ref p] ∧ (SqL X.K H p ys ∨ SqT X.K H p ys) ∧ Q (.int ys.length) H) := by
  intro pins s σ H xs us Q I r h
  obtain ⟨p, ys, rfl, hq, q⟩ := h
  obtain ⟨u, rfl, rx⟩ := vals1 r
  cases rx
  have hn := line63
  rcases hq with hq | hq
  · obtain ⟨its, r', pl, hz⟩ := I.list hq
    have hlen := r'.length
    exact Calls.call_len_list pl.isList (by simp only [List.size_toArray] <;> omega) ⟨.int ys.length, H, I.tok _, ⟨s.toks + 1, by rw [List.size_toArray, hlen]⟩, q⟩
  · obtain ⟨its, r', pl, hz⟩ := I.tuple hq
    have hlen := r'.length
    exact len_tuple pl (by simp only [List.size_toArray] <;> omega) ⟨.int ys.length, H, I.tok _, ⟨s.toks + 1, by rw [List.size_toArray, hlen]⟩, q⟩
theorem call_list_of : CallR X (.type "list") (fun xs H Q => ∃ p ys, xs = [.ref p] ∧ (SqL X.K H p ys ∨ SqT X.K H p ys) ∧ ∀ l, H l = none → Q (.ref l) (upd H l (.lst ys))) := by
  intro pins s σ H xs us Q I r h
  obtain ⟨p, ys, rfl, hq, q⟩ := h
  obtain ⟨u, rfl, rx⟩ := vals1 r
  cases rx
  have fin : ∀ (its : List Value), Vals ys its → ys.length ≤ sizeLine → ∀ (h' : Heap) (c' : Nat), (∀ b o', s.heap.get? b = some o' → h'.get? b = some o') →
      h'.get? s.heap.objs.size = some { cls := .type "list", dict := none, data := .seq its.toArray c', slots := #[] } → EP X pins σ Q (.ref s.heap.objs.size) { s with heap := h' } := fun its r' hz h' c' kp e =>
    ⟨.ref s.heap.objs.size, _, I.laid (t' := s.toks) kp (Nat.le_refl _) (show ObjOk X.prog X.w _ h' _ (.lst ys) from ⟨hz, its, c', r', e⟩), rfl, q _ (I.hok.fresh (Nat.le_refl _))⟩
  rcases hq with hq | hq
  · obtain ⟨its, r', pl, hz⟩ := I.list hq
    have hlen := r'.length
    obtain ⟨o, ho, hc, n, hd⟩ := pl.isList
    exact call_list_seq p (.inl rfl) ho hc hd (fun h' c' kp e => fin its r' hz h' c' kp e) (by simp only [List.size_toArray] <;> omega)
  · obtain ⟨its, r', pl, hz⟩ := I.tuple hq
    have hlen := r'.length
    obtain ⟨o, ho, hc, n, hd⟩ := pl
    exact call_list_seq p (.inr rfl) ho hc hd (fun h' c' kp e => fin its r' hz h' c' kp e) (by simp only [List.size_toArray] <;> omega)
def tyV (K : PySem.W.Frag) (T : String) (x : V) (H : Hp) : Prop := match x with
  | .str _ => T = "str"
  | .int _ => T = "int"
  | .ref p => (T = "list" ∧ ∃ xs, SqL K H p xs) ∨ (T = "tuple" ∧ ∃ o, K.lookup p = some o ∧ o.cls = .type "tuple" ∧ o.dict = none) ∨
      (T = "dict" ∧ ((∃ kvs, H p = some (.dK kvs)) ∨ ∃ kvs, H p = some (.dT kvs))) ∨ (T = "set" ∧ ∃ S n, H p = some (.set S n))
  | _ => False
theorem tyV_is {pins : List (Addr × Obj)} {σ : St} {H : Hp} {s : Shared} {T : String} {x : V} {v : Value} (I : Inv X pins σ H s) (r : RelV x v) (ty : tyV X.K T x H) :
    s.TypeIs v T ∧ ∀ a, v = .ref a → ∃ ob, s.heap.get? a = some ob ∧ ob.dict = none := by
  cases x with
  | str z =>
    obtain ⟨t, rfl⟩ := r
    cases (show T = "str" from ty)
    exact ⟨typeIs_str s z t, fun _ e => nomatch e⟩
  | int i =>
    obtain ⟨t, rfl⟩ := r
    cases (show T = "int" from ty)
    exact ⟨typeIs_int s i t, fun _ e => nomatch e⟩
  | ref p =>
    cases r
    rcases ty with ⟨rfl, xs, hq⟩ | ⟨rfl, o, hk, hc, hd⟩ | ⟨rfl, hk⟩ | ⟨rfl, S, n, hk⟩
    · obtain ⟨its, _, pl, _⟩ := I.list hq
      refine ⟨pl.isList.typeIs, fun a e => ?_⟩
      cases e
      obtain ⟨o, n, e, c, hd, _⟩ := pl
      exact ⟨o, e, hd⟩
    · refine ⟨⟨o, I.kIn p o hk, hc⟩, fun a e => ?_⟩
      cases e
      exact ⟨o, I.kIn _ o hk, hd⟩
    · have z : ∃ o, s.heap.get? p = some o ∧ o.ExactDict := by
        rcases hk with ⟨kvs, hk⟩ | ⟨kvs, hk⟩
        · obtain ⟨_, _, _, _, o, _, _, e, ex, _⟩ := I.hok p _ hk
          exact ⟨o, e, ex⟩
        · obtain ⟨_, _, _, _, o, _, _, e, ex, _⟩ := I.hok p _ hk
          exact ⟨o, e, ex⟩
      obtain ⟨o, e, ex⟩ := z
      refine ⟨⟨o, e, ex.1⟩, fun a e2 => ?_⟩
      cases e2
      exact ⟨o, e, ex.2.1⟩
    · obtain ⟨o, _, _, _, e, ex, _⟩ := I.hok p _ hk
      refine ⟨⟨o, e, ex.1⟩, fun a e2 => ?_⟩
      cases e2
      exact ⟨o, e, ex.2.1⟩
  | _ => exact False.elim ty
def tBM0 (K : PySem.W.Frag) (T : String) (r : V → List V → Hp → VK → Prop) (to : TE) : TE := fun σ H Q => to σ H fun x H1 => tyV K T x H1 ∧ r x [] H1 Q
def tBM (K : PySem.W.Frag) (T : String) (r : V → List V → Hp → VK → Prop) (to : TE) (t : TA) : TE := fun σ H Q => to σ H fun x H1 => tyV K T x H1 ∧ t σ H1 fun xs H2 => r x xs H2 Q
variable {o e : Expr} {es : List Expr} {to : TE} {t : TA} {name : Str} {apos cpos : Pos} {T id : String} {r : V → List V → Hp → VK → Prop}
theorem pe_bm (pa : PlainAttrs T) (slot : Slot T name id) (hty : typeOf (.builtin id) = pure (.type "method_descriptor")) (hm : MtR X id r) (ho : PE X o to) (ha : PA X (e :: es) t)
    (hbase : attributeBase o name X.env (eval o X.env) = eval o X.env := by rfl)
    (hfew : ((backTo cpos (starEach (e :: es) X.env)).all (fun x => !x.1) && (backToKw cpos (keywordEach [] X.env)).all (fun x => x.1.isSome)
      && decide ((e :: es).length + ([] : List Keyword).length + (if ([] : List Keyword).isEmpty then 0 else 1) < 30)) = true := by rfl)
    (hline : (apos.endLine == cpos.line) = true := by rfl) (hs : starEach (e :: es) X.env = (false, eval e X.env) :: starEach es X.env := by rfl) (hplain : (backTo cpos (starEach es X.env)).any (·.1) = false := by rfl) :
    PE X (.Call (.Attribute o name apos) (e :: es) [] cpos) (tBM X.K T r to t) := by
  intro pins s σ H Q I h
  refine wpAny_Call_method_late hbase hfew hline rfl (thn (ho pins s σ H _ I h) fun v s1 ⟨x, H1, I1, r1, ty, q1⟩ => ?_)
  obtain ⟨h1, h2⟩ := tyV_is I1 r1 ty
  refine ⟨T, id, pa, slot, hty, h1, h2, ?_⟩
  have hA := ha cpos pins s1 σ H1 _ I1 q1
  rw [hs] at hA ⊢
  refine Calls.callWith_builtin (by show (false || (backTo cpos (starEach es X.env)).any (·.1)) = false; rw [hplain] <;> rfl) (Calls.evalArgs_plain ?_)
  exact thn hA fun us s2 ⟨vs, H2, I2, r2, q2⟩ => hm pins s2 σ H2 x vs v us Q I2 r1 r2 q2
/- xs.append(e), list.index on a module's tuple .. are MtR facts of 06m -/
end
end L2

namespace L2
open PySem PySem.Spec PyProof.Rows

def MtM (X : Cx) (id : String) (r : V → List V → Hp → VK → Prop) : Prop :=
  ∀ (pins : List (Addr × Obj)) (s : Shared) (σ : St) (H : Hp) (x : V) (xs : List V) (v : Value) (us : List Value) (Q : VK), Inv X pins σ H s → RelV x v → Vals xs us → r x xs H Q →
    wpAny (model X.prog X.w) X.A (call (.builtin id) (v :: us)) (EP X pins σ Q) X.xe s
theorem Vals.one : ∀ {x : V} {us : List Value}, Vals [x] us → ∃ u, us = [u] ∧ RelV x u
  | _, _, .cons r .nil => ⟨_, rfl, r⟩
theorem Vals.eraseIdx : ∀ {xs : List V} {us : List Value} (i : Nat), Vals xs us → Vals (xs.eraseIdx i) (us.eraseIdx i)
  | _, _, _, .nil => .nil
  | _, _, 0, .cons _ t => t
  | _, _, i + 1, .cons r t => .cons r (Vals.eraseIdx i t)
theorem Vals.rep {xs : List V} {us : List Value} (h : Vals xs us) : ∀ k : Nat, Vals (List.replicate k xs).flatten (List.replicate k us).flatten
  | 0 => .nil
  | k + 1 => by
    rw [List.replicate_succ, List.replicate_succ, List.flatten_cons, List.flatten_cons]
    exact Vals.append h (Vals.rep h k)
theorem len_erase {α : Type} : ∀ (l : List α) (i : Nat), (l.eraseIdx i).length ≤ l.length
  | [], _ => Nat.le_refl _
  | _ :: _, 0 => Nat.le_succ _
  | _ :: r, i + 1 => Nat.succ_le_succ (len_erase r i)
theorem foldl_rep (its : List Value) : ∀ (k : Nat) (acc : List Value),
    List.foldl (fun x1 x2 => x1 ++ x2) acc.toArray (List.replicate k its.toArray) = (acc ++ (List.replicate k its).flatten).toArray
  | 0, acc => by simp
  | k + 1, acc => by
    have e : acc.toArray ++ its.toArray = (acc ++ its).toArray := by simp
    have e2 : (acc ++ its) ++ (List.replicate k its).flatten = acc ++ (List.replicate (k + 1) its).flatten := by
      rw [List.replicate_succ, List.flatten_cons, List.append_assoc]
    rw [← e2, ← foldl_rep its k (acc ++ its), ← e, List.replicate_succ, List.foldl_cons]

section
variable {X : Cx} {pins : List (Addr × Obj)} {σ : St} {H : Hp} {s : Shared} {l b : Addr} {xs ys zs : List V}
theorem Inv.lset {its its' : List Value} {n : Nat} {f : Array Value → Array Value} {t' : Nat} (I : Inv X pins σ H s) (hH : H l = some (.lst xs))
    (e : s.heap.get? l = some { cls := .type "list", data := .seq its.toArray n }) (hf : f its.toArray = its'.toArray) (hv : Vals ys its') (hz : ys.length ≤ sizeLine) :
    Inv X pins σ (upd H l (.lst ys)) { s with heap := s.heap.update l (Obj.mapSeq f), toks := t' } := by
  have q := PySem.IsL.update e f
  rw [hf] at q
  refine I.write (x := l) (e := l) (by rw [hH]; exact trivial) (.inl rfl) (fun b' u hb hu => (Heap.get?_update_other s.heap (Obj.mapSeq f) (Ne.symm hb)).trans hu) ⟨_, q⟩ ?_
  exact ⟨hz, its', _, hv, q⟩
theorem Inv.lnew {its : List Value} {t' : Nat} (I : Inv X pins σ H s) (hv : Vals ys its) (hz : ys.length ≤ sizeLine) :
    Inv X pins σ (upd H s.heap.objs.size (.lst ys)) { s with heap := s.heap.push { cls := .type "list", data := .seq its.toArray }, toks := t' } :=
  I.laid (fun _ _ q => Heap.get?_push_of_some _ q) (Nat.le_refl _) ⟨hz, its, 0, hv, Heap.get?_push_size _ rfl⟩
theorem Inv.fresh (I : Inv X pins σ H s) : H s.heap.objs.size = none := I.hok.fresh (Nat.le_refl _)
theorem Inv.lstM (I : Inv X pins σ H s) (hH : H l = some (.lst xs)) : xs.length ≤ sizeLine ∧ ∃ (its : List Value) (n : Nat), Vals xs its ∧ xs.length = its.length ∧ s.heap.get? l = some { cls := .type "list", data := .seq its.toArray n } := by
  obtain ⟨z, its, n, r, e⟩ := I.hok l _ hH
  exact ⟨z, its, n, r, r.length, e⟩

theorem notLongL {n : Nat} (h : n ≤ sizeLine) : Builtin.List.listTooLong n = false := by
  unfold Builtin.List.listTooLong
  exact decide_eq_false (by omega)
end

section
variable {X : Cx}
def rAppend : V → List V → Hp → VK → Prop := fun x vs H Q => ∃ l xs y, x = .ref l ∧ vs = [y] ∧ H l = some (.lst xs) ∧ xs.length < sizeLine ∧ Q .non (upd H l (.lst (xs ++ [y])))
theorem mt_append : MtM X "list.append" rAppend := by
  intro pins s σ H x vs v us Q I rx rv h
  obtain ⟨l, xs, y, rfl, rfl, hH, hz, q⟩ := h
  cases rx
  obtain ⟨u, rfl, ru⟩ := rv.one
  obtain ⟨z, its, n, r, hl, e⟩ := I.lstM hH
  refine call_meets F.slot_list_append ⟨_, e, rfl⟩ F.entry_list_append (F.args_list_append_2 _ _) (PySem.list_append l its.toArray n u (by rw [List.size_toArray]; omega)) ⟨e, ?_⟩
  refine ⟨.non, _, I.lset (its' := its ++ [u]) hH e (by simp) (r.append (.cons ru .nil)) ?_, rfl, q⟩
  rw [List.length_append, List.length_singleton]
  omega

def rExtend : V → List V → Hp → VK → Prop := fun x vs H Q => ∃ l b xs zs, x = .ref l ∧ vs = [.ref b] ∧ H l = some (.lst xs) ∧ H b = some (.lst zs) ∧ xs.length + zs.length ≤ sizeLine ∧ Q .non (upd H l (.lst (xs ++ zs)))
def rPop : V → List V → Hp → VK → Prop := fun x vs H Q => ∃ l xs y, x = .ref l ∧ vs = [] ∧ H l = some (.lst xs) ∧ xs[xs.length - 1]? = some y ∧ Q y (upd H l (.lst xs.dropLast))
def rPopAt : V → List V → Hp → VK → Prop := fun x vs H Q => ∃ l xs i k y, x = .ref l ∧ vs = [.int i] ∧ H l = some (.lst xs) ∧ -(2 ^ 63) ≤ i ∧ i < 2 ^ 63 ∧ seqIndex? i xs.length = some k ∧ xs[k]? = some y ∧ Q y (upd H l (.lst (xs.eraseIdx k)))
theorem mt_popAt : MtM X "list.pop" rPopAt := by
  intro pins s σ H x vs v us Q I rx rv h
  obtain ⟨l, xs, i, k, y, rfl, rfl, hH, h1, h2, hk, hy, q⟩ := h
  cases rx
  obtain ⟨u, rfl, ru⟩ := rv.one
  obtain ⟨t, rfl⟩ := ru
  obtain ⟨z, its, n, r, hl, e⟩ := I.lstM hH
  obtain ⟨w, hw, rw'⟩ := r.get hy
  refine call_meets F.slot_list_pop ⟨_, e, rfl⟩ F.entry_list_pop (F.args_list_pop_2 _ _)
    (MeetsSeq.list_pop_at l its.toArray n i t k w (fitsIndex_both h1 h2) (by rw [List.size_toArray, ← hl]; exact hk) (by rw [← Array.getElem?_toList]; exact hw) (by rw [List.size_toArray]; omega)) ⟨e, ?_⟩
  refine ⟨y, _, I.lset (its' := its.eraseIdx k) hH e ?_ (r.eraseIdx k) ?_, rw', q⟩
  · show its.toArray.eraseIdxIfInBounds k = (its.eraseIdx k).toArray
    rw [List.eraseIdxIfInBounds_toArray]
  · have := len_erase xs k
    omega

def rReverse : V → List V → Hp → VK → Prop := fun x vs H Q => ∃ l xs, x = .ref l ∧ vs = [] ∧ H l = some (.lst xs) ∧ Q .non (upd H l (.lst xs.reverse))
def rClear : V → List V → Hp → VK → Prop := fun x vs H Q => ∃ l xs, x = .ref l ∧ vs = [] ∧ H l = some (.lst xs) ∧ Q .non (upd H l (.lst []))
def rCat : R2 := fun x y H Q => ∃ l b xs zs, x = .ref l ∧ y = .ref b ∧ H l = some (.lst xs) ∧ H b = some (.lst zs) ∧ xs.length + zs.length ≤ sizeLine ∧ ∀ p, H p = none → Q (.ref p) (upd H p (.lst (xs ++ zs)))
def rRep : R2 := fun x y H Q => ∃ l k xs, x = .ref l ∧ y = .int k ∧ H l = some (.lst xs) ∧ -(2 ^ 63) ≤ k ∧ k < 2 ^ 63 ∧ xs.length * k.toNat ≤ sizeLine ∧
  ∀ p, H p = none → Q (.ref p) (upd H p (.lst (List.replicate k.toNat xs).flatten))
theorem len_rep {α : Type} (xs : List α) (k : Nat) : (List.replicate k xs).flatten.length = k * xs.length := by
  induction k with
  | zero => simp
  | succ k ih => rw [List.replicate_succ, List.flatten_cons, List.length_append, ih, Nat.succ_mul, Nat.add_comm]
theorem op_rep : OpR X (binaryOp .Mult) rRep := by
  intro pins s σ H x y v u Q I rx ry h
  obtain ⟨l, k, xs, rfl, rfl, hH, h1, h2, hz, q⟩ := h
  cases rx
  obtain ⟨t, rfl⟩ := ry
  obtain ⟨z, its, n, r, hl, e⟩ := I.lstM hH
  have hlen : its.toArray.size * k.toNat ≤ sizeLine := by rw [List.size_toArray, ← hl]; exact hz
  have hcap : ¬ its.toArray.size * k.toNat > (2 ^ 63 - 1) / 8 := by
    have : (sizeLine : Nat) ≤ (2 ^ 63 - 1) / 8 := by decide
    omega
  have hfit : ¬ (!Builtin.List.listFitsIndex k) = true := by
    rw [fitsIndex_both h1 h2]
    exact Bool.false_ne_true
  have hlong : ¬ Builtin.List.listTooLong (its.toArray.size * k.toNat) = true := by
    rw [notLongL hlen]
    exact Bool.false_ne_true
  have hnew : List.foldl (fun x1 x2 => x1 ++ x2) #[] (List.replicate (if its.toArray.isEmpty = true then 0 else k.toNat) its.toArray) = (List.replicate k.toNat its).flatten.toArray := by
    have f0 : ∀ m : Nat, List.foldl (fun x1 x2 => x1 ++ x2) #[] (List.replicate m its.toArray) = (List.replicate m its).flatten.toArray := fun m => by
      have := foldl_rep its m []
      rw [List.nil_append] at this
      exact this
    rw [f0]
    cases its with
    | nil => simp
    | cons a r' => rw [if_neg (by simp)]
  refine wpAny_binaryOp_repeat_ref (T := "list") (U := "int") (by decide) ⟨_, e, rfl⟩ (fun s' => typeIs_int s' k t) noFill_list_mul F.fills_int_mul F.slot_int_rmul repeat_list F.slot_int_index.lookup
    (call_meets F.slot_int_rmul (typeIs_int s k t) F.entry_int_rmul (F.args_int_rmul_2 _ _) (int___rmul___int_list k t l its.toArray n)
      ⟨e, rfl, ⟨_, e, rfl⟩, call_meets F.slot_list_mul ⟨_, e, rfl⟩ F.entry_list_mul (F.args_list_mul_2 _ _) (AutoListH.list___mul___list_int_3 l its.toArray n k t hfit hcap hlong) ⟨e, ?_⟩⟩)
  rw [hnew]
  exact ⟨.ref _, _, I.lnew (t' := s.toks) (r.rep k.toNat) (by rw [len_rep, Nat.mul_comm]; exact hz), rfl, q _ I.fresh⟩
end
section
variable {prog : Program} {w : World} {A : Around} {E : Value → Shared → Prop} {s : Shared}
set_option maxRecDepth 100000 in
end

section
variable {X : Cx}
end
end L2

namespace Att
open PySem PySem.W PySem.Calls PyProof.Rows
theorem ints_of_wellAll {P : Params} {h : Heap} : ∀ (ns : List Int) (vs : List Value), WellAll P h vs (ns.map WData.int) → IntsAre vs ns := by
  intro ns
  induction ns with
  | nil =>
    intro vs w
    rw [List.map_nil] at w
    cases w
    exact .nil
  | cons n ns ih =>
    intro vs w
    rw [List.map_cons] at w
    cases w with
    | cons a b =>
      cases a
      exact .cons _ _ (ih _ b)

theorem script_of {l : OpenLaw} {n : Nat} (hn : l.most = some n) {P : Params} {h : Heap} {args : List WData} {vals : List Value}
    (hpre : l.row.toRowW.claim.pre args = true) (hwl : WellAll P h vals args) :
    ∃ a vs ns, vals = [Value.ref a] ∧ args = [WData.list (ns.map WData.int)] ∧ h.get? a = some { cls := .type "list", data := .seq vs.toArray } ∧ IntsAre vs ns ∧ ns.length ≤ n := by
  have hsh : WShape.hasAll [] args [.list .int] = true := (pre_splitW hpre).1
  have hc : l.pre.holds [] { args := args } = true := (pre_splitW hpre).2
  obtain ⟨d, r, rfl, h1, h2⟩ := hasAllW_cons hsh
  obtain rfl := hasAllW_nil h2
  obtain ⟨xs, rfl, h3⟩ := hasW_list h1
  obtain ⟨ns, rfl⟩ := items_int h3
  have hlen : ns.length ≤ n := by
    unfold OpenLaw.pre at hc
    have h4 : (WTm.not (.lt (.lit (.int (n : Int))) (.len (.arg 0)))).holds [] { args := [.list (ns.map .int)] } = true := by
      have h4 := (holds_andW hc).1
      rw [hn] at h4
      exact h4
    have h5 := condW_of h4 (w_not (w_lt w_lit (w_len_list (w_arg rfl))))
    rw [List.length_map] at h5
    refine Nat.le_of_not_lt fun q => ?_
    have q' : (n : Int) < ((ns.length : Nat) : Int) := by omega
    first
      | (rw [decide_eq_true q'] at h5; exact absurd h5 (by decide))
      | (simp at h5; omega)
  cases hwl with
  | cons w1 w2 =>
    cases w2
    cases w1 with
    | list ho hall => exact ⟨_, _, ns, rfl, rfl, ho, ints_of_wellAll ns _ hall, hlen⟩

theorem post_true (l : OpenLaw) (args : List WData) : l.row.toRowW.claim.post args (.bool true) args = true :=
  postW_of (r := l.row.toRowW) (X := (true == true))
    (show WShape.has [] (.bool true) .bool = true by first | rfl | decide | simp [WShape.has, WShape.arms, WShape.armsAll])
    (show (WTm.eq .res (.lit (.bool true))).value [] { args := args, res := some (.bool true), after := args } = some (.bool (true == true)) from w_eq_bool (w_res rfl) w_lit) rfl
theorem attach_call {l : OpenLaw} {n : Nat} {q : Program} {loose : List Str} {XP : (Str → Option Value) → Heap → Prop} {YP : World → Heap → Prop} {d : DefRec}
    (hn : l.most = some n) (hdf : d.params.defaults = [])
    (call : ∀ (w : World) (s₀ s₁ : Shared) (mg mb : Str → Option Value) (fa : Addr) (o : Obj) (pm cd doc : Value) (a : Addr) (vs : List Value) (ns : List Int),
      Ground q loose [] XP w s₀ mg mb s₁.heap → YP w s₁.heap →
      s₁.heap.get? fa = some o → o.data = .func (docDef d.name d.params d.body d.scope pm cd doc) → s₁.heap.CodeRec cd d.name → mg d.name = some (.ref fa) →
      s₁.heap.get? a = some { cls := .type "list", data := .seq vs.toArray } → IntsAre vs ns → ns.length ≤ n → s₁.gens = #[] →
      codeAny (model l.prog w) callerA (.call (.ref fa) ⟨[.ref a], []⟩) (fun r s' => r = .ok (.ret (.bool true)) ∧ OldK s₁.heap s'.heap ∧ s'.os = s₁.os ∧ AllBare s'.gens) s₁) :
    WalkO q loose XP YP l.row.toRowW d [] (fun f vs => PySem.call f vs) := by
  intro w s₀ s₁ mg mb G Y fa o pm cd doc dV kV ho hd hcd hD hmg hg args vals as hpre hlay hrd hwl hlo
  obtain rfl : dV = .none := Dflts.none hD hdf
  obtain rfl : kV = .none := Dflts.noKw hD
  obtain ⟨a, vs, ns, rfl, rfl, hobj, hints, hlen⟩ := script_of hn hpre hwl
  refine enter_call (codeAny_mono (call w s₀ s₁ mg mb fa o pm cd doc a vs ns G Y ho (fd_plain hd) hcd hmg hobj hints hlen hg) fun r s' hq => ?_)
  obtain ⟨rfl, h2, h3, h4⟩ := hq
  exact ⟨.inl ⟨.bool true, .bool true, [], rfl, fun _ => rfl, .bool true, post_true l _, fun _ => ⟨List.Pairwise.nil, fun _ hm => (nomatch hm)⟩⟩, h2, h3, h4⟩
section
variable {prog : Program} {w : World} {A : Around} {E : Value → Shared → Prop} {s : Shared} {K : Frag}
def noObjs (h : Heap) : Heap := { h with objs := #[] }
def ledger (h : Heap) (L d : Addr) : List (Addr × Obj) := (List.range h.objs.size).filterMap fun a => if a = L ∨ a = d then none else (h.get? a).map fun o => (a, o)
end
end Att

namespace L2
open PySem PySem.Spec PyProof.Rows

theorem vals_ints : ∀ {vs : List Value} {ns : List Int}, IntsAre vs ns → Vals (ns.map V.int) vs
  | _, _, .nil => .nil
  | _, _, .cons n t h => .cons ⟨t, rfl⟩ (vals_ints h)
def Only (H : Hp) : Prop := ∀ b, H b = none ∨ ∃ o xs, H b = some (.frz o (.lst xs))
theorem law_call {P : Program} {w : World} {K : PySem.W.Frag} {mg mb : Str → Option Value} {CX : CXT} {k : Nat} {fa a : Addr} {fd : FuncData} {x : Str} {sp : Sp} {s₁ : Shared} {vs : List Value} {ns : List Int}
    (KX : K.In s₁.heap) (hns : s₁.heap.Ns mainGlobals mg) (hb : s₁.heap.Ns builtinsNs mb) (hbb : ∀ x : Str, x ≠ "__name__" → mb x = bootBuiltins x) (hlim : s₁.heap.NoLimit) (hg : s₁.gens = #[])
    (ha : s₁.heap.get? a = some { cls := .type "list", data := .seq vs.toArray }) (hi : IntsAre vs ns) (hl : ns.length ≤ sizeLine) (hr : Room k callerA)
    (F : ∀ base : Heap, K.In base → base.Ns mainGlobals mg → FnOk P w K mg base CX k fa fd [x] sp) (hbind : ∀ (s : Shared) (u : Value), BindsTo s fd ⟨[u], []⟩ [(x, u)])
    (hsp : ∀ H : Hp, Only H → SqL K H a (ns.map V.int) → sp [.ref a] H (fun v _ => v = .bl true) fun _ _ _ => False)
    (hCX : ∀ H e s', CX [] H s₁ (fun _ _ _ => False) e s' → False) :
    codeAny (model P w) callerA (.call (.ref fa) ⟨[.ref a], []⟩) (fun r s' => r = .ok (.ret (.bool true)) ∧ OldK s₁.heap s'.heap ∧ s'.os = s₁.os ∧ AllBare s'.gens) s₁ := by
  have rv := vals_ints hi
  have lenV := hi.length
  -- from an abstract heap in which nothing but the script may be tracked
  have core : ∀ H : Hp, Only H → SqL K H a (ns.map V.int) → HOk P w H s₁.heap → (∀ b, H b ≠ none → b = a) → (H a ≠ none → K.lookup a = none) →
      codeAny (model P w) callerA (.call (.ref fa) ⟨[.ref a], []⟩) (fun r s' => r = .ok (.ret (.bool true)) ∧ OldK s₁.heap s'.heap ∧ s'.os = s₁.os ∧ AllBare s'.gens) s₁ := by
    intro H hO hS hok hA hK
    have base_of : ∀ {b : Addr} {o : Obj}, s₁.heap.get? b = some o → H b = none → (hidT s₁.heap H).get? b = some o := fun e n => hidT_get e n
    have noA : ∀ {b : Addr} {o : Obj} {es : Array DictEntry} {ep : Nat}, s₁.heap.get? b = some o → o.data = .dict es ep → H b = none := fun {b o es ep} e d => by
      cases q : H b with
      | none => rfl
      | some u =>
        have e' : b = a := hA b (by rw [q]; simp)
        subst e'
        rw [ha] at e; cases e
        have d' : Data.seq vs.toArray _ = Data.dict es ep := d
        cases d'
    have nsK : ∀ {b : Addr} {m : Str → Option Value}, s₁.heap.Ns b m → (hidT s₁.heap H).Ns b m := fun {b m} ⟨o, es, ep, e, d, r⟩ => ⟨o, es, ep, base_of e (noA e d), d, r⟩
    have hKb : K.In (hidT s₁.heap H) := fun b o e => base_of (KX b o e) (by
      cases q : H b with
      | none => rfl
      | some u =>
        have e' : b = a := hA b (by rw [q]; simp)
        subst e'
        rw [hK (by rw [q]; simp)] at e; cases e)
    have hM : Mod K mg (hidT s₁.heap H) := ⟨hKb, nsK hns, ⟨mb, nsK hb, hbb⟩, let ⟨mc, h1, h2⟩ := hlim; ⟨mc, nsK h1, h2⟩⟩
    have e0 : Env0 P w K mg (hidT s₁.heap H) callerA [] s₁ H := ⟨rfl, hM, fun b o e => of_hidT e, Nat.le_of_eq (hidT_size _ _), trivial, fun b hb => absurd (show b ∈ ([] : List Addr) from hb) (by simp), hok, .of_eq hg⟩
    refine codeAny_mono ((F _ hKb (nsK hns)).run callerA [] s₁ H ⟨[.ref a], []⟩ [.ref a] [.ref a] _ _ hr e0 (hbind s₁ (.ref a)) (.cons rfl .nil) (hsp H hO hS)) fun r s' h => ?_
    cases r with
    | error e => exact (hCX H e s' h).elim
    | ok fl =>
      cases fl with
      | next => exact False.elim h
      | brk => exact False.elim h
      | cont => exact False.elim h
      | ret u =>
        obtain ⟨v, H', os, bare, un, hok', r', q⟩ := h
        have q' : v = .bl true := q
        subst q'
        obtain rfl : u = Value.bool true := r'
        refine ⟨rfl, OldK.of_keep fun b o e => ?_, os, bare⟩
        cases q : H b with
        | none => exact un.keep b o e q (by intro z; exact absurd (show b ∈ ([] : List Addr) from z) (by simp)) (by simp)
        | some u =>
          rcases hO b with z | ⟨ob, xs, z⟩
          · rw [q] at z; cases z
          · have z2 := un.frzs b ob _ z
            obtain ⟨e1, _⟩ := hok b _ z
            obtain ⟨e2, _⟩ := hok' b _ z2
            rw [e] at e1; cases e1
            exact e2
  cases hk : K.lookup a with
  | some o =>
    -- the script is one of the module's own objects
    have e := KX a o hk
    rw [ha] at e
    cases e
    refine core (fun _ => none) (fun _ => .inl rfl) (.inr ⟨_, vs.toArray, _, hk, rfl, rfl, rfl, by rw [List.size_toArray, lenV]; exact hl, by simpa using rv⟩) (fun b u z => by have z' : (none : Option HO) = some u := z; cases z') (fun b z => absurd rfl z) fun z => absurd rfl z
  | none =>
    refine core (fun b => if b = a then some (.frz { cls := .type "list", data := .seq vs.toArray } (.lst (ns.map V.int))) else none) (fun b => ?_) (.inl (.inr ⟨{ cls := .type "list", data := .seq vs.toArray }, if_pos rfl⟩)) (fun b u z => ?_) (fun b z => ?_) fun _ => hk
    · by_cases hb : b = a
      · exact .inr ⟨_, _, if_pos hb⟩
      · exact .inl (if_neg hb)
    · by_cases hb : b = a
      · have z' := (if_pos hb).symm.trans z
        cases z'
        subst hb
        exact ⟨ha, by rw [List.length_map]; exact hl, vs, _, rv, ha⟩
      · have z' := (if_neg hb).symm.trans z
        cases z'
    · by_cases hb : b = a
      · exact hb
      · exact absurd (if_neg hb) z
end L2

namespace L2
open PySem PySem.Spec PyProof.Rows

abbrev KOf {K : PySem.W.Frag} {h : Heap} (_ : K.In h) : PySem.W.Frag := K
theorem walk_of {l : PySem.W.OpenLaw} {n k : Nat} {q : Program} {loose : List Str} {XP : (Str → Option Value) → Heap → Prop} {YP : World → Heap → Prop} {d : DefRec} {K : Params → PySem.W.Frag} {CX : World → CXT} {sp : World → Sp} {x : Str}
    (hn : l.most = some n) (hn2 : n ≤ sizeLine) (hdf : d.params.defaults = []) (hr : Room k callerA)
    (hY : ∀ (w : World) (h : Heap), YP w h → (K w.params).In h)
    (F : ∀ (w : World) (mg : Str → Option Value) (fa : Addr) (h : Heap), (K w.params).In h → h.Ns mainGlobals mg → mg d.name = some (.ref fa) →
      ∃ fd : FuncData, (∀ (s : Shared) (u : Value), BindsTo s fd ⟨[u], []⟩ [(x, u)]) ∧
        ∀ base : Heap, (K w.params).In base → base.Ns mainGlobals mg → FnOk l.prog w (K w.params) mg base (CX w) k fa fd [x] (sp w))
    (hsp : ∀ (w : World) (H : Hp) (a : Addr) (ns : List Int), ns.length ≤ n → Only H → SqL (K w.params) H a (ns.map V.int) → sp w [.ref a] H (fun v _ => v = .bl true) fun _ _ _ => False)
    (hCX : ∀ (w : World) (H : Hp) (s : Shared) (e : Value) (s' : Shared), CX w [] H s (fun _ _ _ => False) e s' → False) :
    PySem.W.WalkO q loose XP YP l.row.toRowW d [] (fun f vs => PySem.call f vs) := by
  refine Att.attach_call hn hdf fun w s₀ s₁ mg mb fa o pm cd doc a vs ns G Y ho hd hcd hmg hobj hints hlen hg => ?_
  have KX := hY w _ Y
  obtain ⟨fd, hb, hF⟩ := F w mg fa _ KX G.T.g hmg
  exact law_call KX G.T.g G.T.b G.T.builtins G.T.nolimit hg hobj hints (Nat.le_trans hlen hn2) hr hF hb (fun H hO hS => hsp w H a ns hlen hO hS) fun H e s' => hCX w H s₁ e s'
end L2

/- THE LAST THEOREM (shape; LID, My.* are yours):
   My.Adr: a structure of the addresses that your layer names (classes, functions); My.Txt K t: a structure (Prop) of the equations over K;
   My.txt_mk : {K} {implicit addresses ..} (e1 : nsIn K mainGlobals "law" = some (some (.ref f))) (e2 : K.lookup f = some ⟨oc, od, .func (fnOf "law" "law" params body scope dV kV doc pm an cdv ct), sl⟩) (e3 : codeIn K cdv "law" = true) .. : ∃ t, My.Txt K t

set_option maxRecDepth 100000 in
set_option maxHeartbeats 0 in
(the tactic k_is has no namespace: write k_is) -/
namespace L2
open PySem PySem.Spec PyProof.Rows
def inClass (s : Stmt) (j : Nat) : Stmt := match s with
  | .ClassDef _ _ _ body _ _ _ _ _ _ _ => body.getD j (.Pass ⟨0, 0, 0, 0⟩)
  | _ => .Pass ⟨0, 0, 0, 0⟩
def defArgs (s : Stmt) : Arguments := match s with
  | .FunctionDef _ a _ _ _ _ _ _ _ _ => a
  | _ => { posonlyargs := [], args := [], vararg := none, kwonlyargs := [], kw_defaults := [], kwarg := none, defaults := [] }
def defBody (s : Stmt) : List Stmt := match s with
  | .FunctionDef _ _ b _ _ _ _ _ _ _ => b
  | _ => []
def defScope (s : Stmt) : Scope := match s with
  | .FunctionDef _ _ _ _ _ _ sc _ _ _ => sc
  | _ => { kind := .function, names := [], isGenerator := false, isCoroutine := false }
abbrev CX0 : CXT := fun _ _ _ _ _ _ => False
abbrev E0 : XK := fun _ _ _ => False
theorem pass0 {X : Cx} : Passes CX0 X E0 := fun _ _ _ _ _ _ _ h => h.elim
structure Fun (K : PySem.W.Frag) (x qual : Str) (st : Stmt) (f : Addr) (fd : FuncData) : Prop where
  ex : ∃ (oc : Value) (od : Option Addr) (kV doc pm : Value) (an : Option Addr) (cdv ct : Value) (osl : Array (Option Value)),
    fd = PySem.W.fnOf x qual (defArgs st) (defBody st) (defScope st) .none kV doc pm an cdv ct ∧ K.lookup f = some ⟨oc, od, .func fd, osl⟩ ∧ PySem.W.codeIn K cdv qual = true
  kp : PySem.W.keepIn K (.ref f) = true
section
variable {P : Program} {w : World} {K : PySem.W.Frag} {mg : Str → Option Value} {base : Heap}
theorem Fun.ok {x qual : Str} {st : Stmt} {f : Addr} {fd : FuncData} {N ps : List Str} {k : Nat} {sp : Sp} (F : Fun K x qual st f fd) (S : FnScope N ps (defScope st)) (len : ∀ vs H Q E, sp vs H Q E → vs.length = ps.length)
    (hbody : ∀ (cdv : Value) (A : Around) (outer : List Env) (s : Shared) (H : Hp) (vs : List V) (Q : VK) (E : XK), Room k (A.deeper (envOfC qual (defScope st) s.heap.objs.size f cdv)) → sp vs H Q E →
      ∃ t, PSs (cxOf CX0 P w K mg base N qual (defScope st) f cdv A outer s H E).nox (defBody st) t ∧ t { nx := fun _ H' => Q .non H', rt := Q } (start N vs) H) : FnOk P w K mg base CX0 (k + 1) f fd ps sp := by
  obtain ⟨oc, od, kV, doc, pm, an, cdv, ct, osl, rfl, lk, hcd⟩ := F.ex
  refine fn_of lk hcd S len fun A outer s H vs Q E hr hsp => ?_
  obtain ⟨t, h, q⟩ := hbody cdv A outer s H vs Q E hr hsp
  exact ⟨t, h.nox, q⟩
theorem fun_mk {x qual : Str} {st : Stmt} {f : Addr} {oc : Value} {od an : Option Addr} {osl : Array (Option Value)} {kV doc pm cdv ct : Value} (l : K.lookup f = some ⟨oc, od, .func (PySem.W.fnOf x qual (defArgs st) (defBody st) (defScope st) .none kV doc pm an cdv ct), osl⟩)
    (c : PySem.W.codeIn K cdv qual = true) (k : PySem.W.keepIn K (.ref f) = true) : Fun K x qual st f (PySem.W.fnOf x qual (defArgs st) (defBody st) (defScope st) .none kV doc pm an cdv ct) := ⟨⟨oc, od, kV, doc, pm, an, cdv, ct, osl, rfl, l, c⟩, k⟩
end
theorem small1000 {n : Nat} (h : n ≤ 1000) : n < sizeLine := Nat.lt_of_le_of_lt h (by decide)
section
variable {X : Cx}
theorem pv (i : Nat) {x : Str} {pos : Pos} (hN : X.N[i]? = some x := by rfl) (hv : Vis X.env.scope x := by first | exact Or.inl rfl | exact Or.inr (Or.inl rfl) | exact Or.inr (Or.inr rfl)) (hd : (x == ("__debug__" : Str)) = false := by decide)
    (hcd : (x == ("__classdict__" : Str)) = false := by decide) : PE X (.Name x pos) (tVar i) := pe_var hN hv hd hcd
end
theorem iteF {A B : Prop} (h : B) : if false = true then A else B := by
  rw [if_neg Bool.false_ne_true]
  exact h
theorem iteT {A B : Prop} (h : A) : if true = true then A else B := by
  rw [if_pos rfl]
  exact h
theorem ite2 {c A B : Prop} [Decidable c] (h1 : c → A) (h2 : ¬ c → B) : if c then A else B := by
  by_cases h : c
  · rw [if_pos h]
    exact h1 h
  · rw [if_neg h]
    exact h2 h
theorem iteNS {c A B : Prop} [Decidable c] (hc : c) (h : B) : if (!decide c) = true then A else B := by
  rw [decide_eq_true hc]
  exact iteF h
def Same (H H' : Hp) : Prop := ∀ b o, H b = some o → H' b = some o
theorem Same.refl (H : Hp) : Same H H := fun _ _ h => h
theorem Same.trans {H H1 H2 : Hp} (a : Same H H1) (b : Same H1 H2) : Same H H2 := fun c o h => b c o (a c o h)
theorem Same.free {H H' : Hp} (e : Same H H') {l : Addr} (h : H' l = Option.none) : H l = Option.none := by
  cases q : H l with
  | none => rfl
  | some o =>
    rw [e l o q] at h
    cases h
theorem Same.seq {K : PySem.W.Frag} {H H' : Hp} {a : Addr} {xs : List V} (e : Same H H') (h : SqL K H a xs) : SqL K H' a xs := by
  rcases h with (h | ⟨o, h⟩) | h
  · exact .inl (.inl (e _ _ h))
  · exact .inl (.inr ⟨o, e _ _ h⟩)
  · exact .inr h

end L2

set_option Elab.async false
set_option linter.all false
set_option maxRecDepth 100000
namespace L2
open PySem PySem.Spec PyProof.Rows
def AllLk (cells : List (Str × Addr)) : List (Str × Addr) → Prop
  | [] => True
  | p :: r => cells.lookup p.1 = some p.2 ∧ AllLk cells r
theorem AllLk.of {cells : List (Str × Addr)} : ∀ {cl : List (Str × Addr)}, AllLk cells cl → ∀ x c, cl.lookup x = some c → cells.lookup x = some c
  | [], _, x, c, h => by cases h
  | (y, d) :: r, hl, x, c, h => by
    rw [List.lookup_cons] at h
    cases hx : x == y with
    | true =>
      rw [hx] at h
      have e : x = y := by simpa using hx
      subst e
      cases h
      exact hl.1
    | false =>
      rw [hx] at h
      exact AllLk.of hl.2 x c h
def blk (X : Cx) (NB : List Str) (sc : Scope) (cl : List (Str × Addr)) (s₃ : Shared) (H₃ : Hp) (fp : List Addr) : Cx :=
  { X with N := NB, s₀ := s₃, H₀ := H₃, env := compEnvC sc cl s₃.heap.objs.size X.env, outer := X.stack, stack := X.stack, ex := fp, fn := fun _ => false, pn := [], xe := fun _ _ => False }
structure Blk (X : Cx) (NB : List Str) (pick : List (Option Nat)) (sc : Scope) (cl : List (Str × Addr)) : Prop where
  clos : closureFor sc X.env = pure cl
  kind : sc.kind = .function
  nocell : ∀ y ∈ sc.names, y.2 ≠ .cell
  names : ∀ y ∈ sc.names, y.2 = .local → sc.names.lookup y.1 = some .local
  sub : AllLk X.env.cells cl
  has : ∀ x, ((relabel sc X.env).names.lookup x = some .cell ∨ (relabel sc X.env).names.lookup x = some .free) → ∃ c, cl.lookup x = some c
  len : pick.length = NB.length
  got : ∀ (j i : Nat) (x : Str), pick[j]? = some (some i) → NB[j]? = some x → X.N[i]? = some x ∧ (X.env.kindOf x = some .cell ∨ X.env.kindOf x = some .free) ∧ (relabel sc X.env).names.lookup x = some .cell

def hasB (cl : List (Str × Addr)) (L : List (Str × NameKind)) : Bool := L.all fun p => !(p.2 == .cell || p.2 == .free) || (cl.lookup p.1).isSome
theorem hasB_of {cl : List (Str × Addr)} {L : List (Str × NameKind)} (h : hasB cl L = true) (x : Str) (hx : L.lookup x = some .cell ∨ L.lookup x = some .free) : ∃ c, cl.lookup x = some c := by
  have get : ∀ k, L.lookup x = some k → (k == NameKind.cell || k == NameKind.free) = true → ∃ c, cl.lookup x = some c := fun k hk hb => by
    have z := List.all_eq_true.mp h (x, k) (PySem.mem_of_lookup hk)
    dsimp only at z
    rw [hb] at z
    exact Option.isSome_iff_exists.mp z
  rcases hx with hx | hx
  · exact get _ hx rfl
  · exact get _ hx rfl
def gotB (N : List Str) (k1 k2 : List (Str × NameKind)) : List (Option Nat) → List Str → Bool
  | some i :: p, x :: r => decide (N[i]? = some x) && (decide (k1.lookup x = some .cell) || decide (k1.lookup x = some .free)) && decide (k2.lookup x = some .cell) && gotB N k1 k2 p r
  | none :: p, _ :: r => gotB N k1 k2 p r
  | [], [] => true
  | _, _ => false
theorem gotB_len {N : List Str} {k1 k2 : List (Str × NameKind)} : ∀ {p : List (Option Nat)} {r : List Str}, gotB N k1 k2 p r = true → p.length = r.length
  | [], [], _ => rfl
  | [], _ :: _, h => by cases h
  | none :: _, [], h => by cases h
  | some _ :: _, [], h => by cases h
  | none :: p, _ :: r, h => congrArg Nat.succ (gotB_len (p := p) (r := r) h)
  | some i :: p, x :: r, h => by
    have h' : (decide (N[i]? = some x) && (decide (k1.lookup x = some .cell) || decide (k1.lookup x = some .free)) && decide (k2.lookup x = some .cell) && gotB N k1 k2 p r) = true := h
    rw [Bool.and_eq_true] at h'
    exact congrArg Nat.succ (gotB_len h'.2)
theorem gotB_of {N : List Str} {k1 k2 : List (Str × NameKind)} : ∀ {p : List (Option Nat)} {r : List Str}, gotB N k1 k2 p r = true → ∀ (j i : Nat) (x : Str), p[j]? = some (some i) → r[j]? = some x →
    N[i]? = some x ∧ (k1.lookup x = some .cell ∨ k1.lookup x = some .free) ∧ k2.lookup x = some .cell
  | [], _, _, j, i, x, h1, _ => by simp at h1
  | none :: _, [], h, _, _, _, _, _ => by cases h
  | some _ :: _, [], h, _, _, _, _, _ => by cases h
  | none :: p, _ :: r, h, j, i, x, h1, h2 => by
    cases j with
    | zero => simp at h1
    | succ j => exact gotB_of (p := p) (r := r) h j i x (by simpa using h1) (by simpa using h2)
  | some i' :: p, x' :: r, h, j, i, x, h1, h2 => by
    have h' : (decide (N[i']? = some x') && (decide (k1.lookup x' = some .cell) || decide (k1.lookup x' = some .free)) && decide (k2.lookup x' = some .cell) && gotB N k1 k2 p r) = true := h
    rw [Bool.and_eq_true, Bool.and_eq_true, Bool.and_eq_true, Bool.or_eq_true] at h'
    obtain ⟨⟨⟨a, b⟩, c⟩, d⟩ := h'
    cases j with
    | zero =>
      simp at h1 h2
      subst h1 h2
      exact ⟨of_decide_eq_true a, b.elim (fun z => .inl (of_decide_eq_true z)) fun z => .inr (of_decide_eq_true z), of_decide_eq_true c⟩
    | succ j => exact gotB_of d j i x (by simpa using h1) (by simpa using h2)
theorem blk_mk {X : Cx} {NB : List Str} {pick : List (Option Nat)} {sc : Scope} {cl : List (Str × Addr)} (clos : closureFor sc X.env = pure cl) (sub : AllLk X.env.cells cl) (kind : sc.kind = .function) (nocell : ∀ y ∈ sc.names, y.2 ≠ .cell)
    (names : ∀ y ∈ sc.names, y.2 = .local → sc.names.lookup y.1 = some .local) (has : hasB cl (relabel sc X.env).names = true) (got : gotB X.N X.env.scope.names (relabel sc X.env).names pick NB = true) : Blk X NB pick sc cl :=
  ⟨clos, kind, nocell, names, sub, hasB_of has, gotB_len got, fun j i x h1 h2 => gotB_of got j i x h1 h2⟩

def pickσ (pick : List (Option Nat)) (σ : St) : St := pick.map fun o => o.bind fun i => (σ[i]?).join

section
variable {X : Cx} {NB : List Str} {pick : List (Option Nat)} {sc : Scope} {cl : List (Str × Addr)} {pins : List (Addr × Obj)} {σ : St} {H : Hp} {s : Shared} {fp : List Addr}

theorem blk_ok (I : Inv X pins σ H s) (B : Blk X NB pick sc cl) (hf : ∀ b ∈ fp, FpOk X pins H b) (hex : ∀ b ∈ fp, ∃ o, s.heap.get? b = some o) : (blk X NB sc cl s H fp).Ok := by
  have nfs : ∀ b ∈ fp, b ∉ frs X.stack := fun b hb z => by
    rcases List.mem_cons.mp (I.stkSub b z) with e | e
    · exact (hf b hb).2.1 e
    · exact (hf b hb).2.2.1 e
  refine ⟨I.ok.mod, B.kind, I.ok.glob, I.ok.blt, Nat.le_refl _, fun x y c h1 h2 => ?_, fun x hx => B.has x hx, fun x c h _ => (Bool.false_ne_true h).elim, I.ok.hd, I.ok.frames, .inl rfl, fun b hb => ⟨?_, fun x c h e => ?_⟩, I.bs, Nat.le_trans I.ok.bsz I.sz, fun b o e hb => ?_, nfs, I.stack, I.stkFree⟩
  · exact I.ok.inj x y c (B.sub.of x c h1) (B.sub.of y c h2)
  · obtain ⟨o, ho⟩ := hex b hb
    exact Nat.ne_of_lt (Heap.lt_size ho)
  · exact (hf b hb).2.2.2.2.1 x c (B.sub.of x c h) e
  · rcases (hf b hb).2.2.2.1 with z | z
    · exact I.ok.noex b o e z
    · exact absurd (Nat.lt_of_lt_of_le (Heap.lt_size (I.ok.bs b o e).1) z) (Nat.lt_irrefl _)

theorem blk_start {h' : Heap} (I : Inv X pins σ H s) (B : Blk X NB pick sc cl) (hf : ∀ b ∈ fp, FpOk X pins H b) (hex : ∀ b ∈ fp, ∃ o, s.heap.get? b = some o)
    (hn : h'.Ns s.heap.objs.size (fun _ => none)) (hs : ∀ b o, s.heap.get? b = some o → h'.get? b = some o) (t : Nat) : Inv (blk X NB sc cl s H fp) [] (pickσ pick σ) H { s with heap := h', toks := t } := by
  refine ⟨blk_ok I B hf hex, rfl, I.bare, Un.kept hs, ⟨_, hn, fun j x v h1 h2 h3 => ?_⟩, fun x c e => ?_, I.hok.fresh (Nat.le_refl _), fun x c e => I.freeC x c (B.sub.of x c e), fun p hp => absurd (show p ∈ ([] : List (Addr × Obj)) from hp) (by simp), I.hok.kept hs, ?_⟩
  · have h2' : (pick.map fun o => o.bind fun i => (σ[i]?).join)[j]? = some (some v) := h2
    rw [List.getElem?_map] at h2'
    cases hp : pick[j]? with
    | none => rw [hp] at h2'; cases h2'
    | some o =>
      rw [hp] at h2'
      cases o with
      | none => cases h2'
      | some i =>
        have h2'' : (σ[i]?).join = some v := Option.some.inj h2'
        obtain ⟨g1, g2, g3⟩ := B.got j i x hp h1
        have hσ : σ[i]? = some (some v) := by
          cases hq : σ[i]? with
          | none => rw [hq] at h2''; cases h2''
          | some z => rw [hq] at h2''; have e : z = some v := h2''; rw [e]
        obtain ⟨m, _, hl⟩ := I.loc
        obtain ⟨u, r, L⟩ := hl i x v g1 hσ (.inr g2)
        refine ⟨u, r, ?_⟩
        rcases L with ⟨k, _⟩ | ⟨_, c, hc, ⟨o, ho, hd⟩⟩
        · rcases g2 with g2 | g2 <;> rw [k] at g2 <;> cases g2
        · obtain ⟨c', hc'⟩ := B.has x (.inl g3)
          have e : c' = c := Option.some.inj ((B.sub.of x c' hc').symm.trans hc)
          subst e
          exact .inr ⟨.inl g3, c', hc', o, hs _ _ ho, hd⟩
  · obtain ⟨v, o, ho, hd⟩ := I.cell x c (B.sub.of x c e)
    exact ⟨v, o, hs _ _ ho, hd⟩
  · show (pickσ pick σ).length = NB.length
    unfold pickσ
    rw [List.length_map]
    exact B.len
theorem blk_end {σ' : St} {H' : Hp} {s' : Shared} (I : Inv X pins σ H s) (hf : ∀ b ∈ fp, FpOk X pins H b) (J : Inv (blk X NB sc cl s H fp) [] σ' H' s') : Inv X pins σ H' s' := by
  refine I.call' (ch := fp) J.os J.base J.hok J.bare fun b hb => ?_
  obtain ⟨_, f1, _, f3, f4, f5⟩ := hf b hb
  exact ⟨f3, f1, f4, f5⟩
end
def tComp (wi : TI) (pick : List (Option Nat)) (g : TG) (c : TT) (te : TE) : St → Hp → (Addr → Hp → Prop) → Prop := fun σ H Q =>
  wi σ H fun J H1 => ∀ D, H1 D = none → ∃ W : Nat → Nat → St → Hp → Prop, (∃ m, W 0 m (pickσ pick σ) (upd H1 D (.lst []))) ∧ ∀ i m σ1 H2, W i m σ1 H2 →
    (J.stop i H2 ∧ Q D H2) ∨ (J.go i H2 ∧ ∃ N : St → Hp → Prop, (∀ σ' H', N σ' H' → ∃ m', m' < m ∧ W (i + 1) m' σ' H') ∧
      ∀ x H', J.yld i H2 x H' → g x σ1 H' fun σ2 H3 => c σ2 H3 fun b H4 => if b = true then te σ2 H4 fun y H5 => ∃ xs, H5 D = some (.lst xs) ∧ xs.length < sizeLine ∧ N σ2 (upd H5 D (.lst (xs ++ [y]))) else N σ2 H4)

section
variable {prog : Program} {w : World} {A : Around} {R : Result → Shared → Prop} {s : Shared}
theorem compLoop_any {elt target iter : Expr} {ifs : List Expr} {scope : Scope} {pos : Pos} {it acc : Value} {env : Env} (W : Nat → Shared → Prop)
    (turn : ∀ n s, W n s → wpAny (model prog w) A (pyNext it) (fun r s₁ => match r with
      | none => R (.ok .next) s₁
      | some v => wpAny (model prog w) A (letOwnedTupleGo target it v) (fun _ s₀ => wpAny (model prog w) A (assign target env v) (fun _ s₂ =>
          wpAny (model prog w) A (forIn ifs true fun c r => if r = true then do let ok ← isTrue c env (eval c env); pure (ForInStep.yield ok) else pure (ForInStep.yield r)) (fun ok s₃ =>
            if ok = true then wpAny (model prog w) A (eval elt env) (fun x s₄ =>
              wpAny (model prog w) A (call (.builtin "list.append") [acc, x]) (fun _ s₅ => ∃ m, m < n ∧ W m s₅) (fun _ _ => False) s₄) (fun _ _ => False) s₃
            else ∃ m, m < n ∧ W m s₃) (fun _ _ => False) s₂) (fun _ _ => False) s₀) (fun _ _ => False) s₁) (fun _ _ => False) s)
    (n : Nat) (h : W n s) :
    codeAny (model prog w) A (.compLoop (.ListComp elt [⟨target, iter, ifs, 0⟩] scope pos) 0 it acc env) R s := by
  refine codeAny_loop rfl W (fun n s hI => ?_) n h
  show wpAny _ A ((compTurn (.ListComp elt [⟨target, iter, ifs, 0⟩] scope pos) 0 it acc env).onRaise (fun x => do noteFrame x env; theTreesLotGoes x)) _ _ s
  refine wpAny_noted (wpAny_noRaise ?_)
  rw [compTurn_list]
  refine wpAny_bind (wpAny_standAt (wpAny_bind (thn (turn n s hI) fun r s₁ h₁ => ?_)))
  cases r with
  | none => exact wpAny_pure h₁
  | some v =>
    refine wpAny_bind (thn h₁ fun _ s₀ h₀ => wpAny_bind (thn h₀ fun _ s₂ h₂ => wpAny_bind (thn h₂ fun ok s₃ h₃ => ?_)))
    cases ok with
    | false => exact wpAny_pure ⟨rfl, h₃⟩
    | true => exact wpAny_bind (wpAny_bind (thn h₃ fun x s₄ h₄ => wpAny_bind (thn h₄ fun _ s₅ h₅ => wpAny_pure (wpAny_pure ⟨rfl, h₅⟩))))
end
def PIfs (X : Cx) (ifs : List Expr) (c : TT) : Prop :=
  ∀ (pins : List (Addr × Obj)) (s : Shared) (σ : St) (H : Hp) (Q : Bool → Hp → Prop), Inv X pins σ H s → c σ H Q →
    wpAny (model X.prog X.w) X.A (forIn ifs true fun c r => if r = true then do let ok ← isTrue c X.env (eval c X.env); pure (ForInStep.yield ok) else pure (ForInStep.yield r)) (TP X pins σ Q) X.xe s
def tYes : TT := fun _ H Q => Q true H
theorem pif_nil {X : Cx} : PIfs X [] tYes := fun pins s σ H Q I h => wpAny_pure ⟨H, I, h⟩
theorem pif_one {X : Cx} {e : Expr} {c : TT} (hc : PT X e c) : PIfs X [e] c := fun pins s σ H Q I h => wpAny_tests_one (hc pins s σ H Q I h)

section
variable {X : Cx} {NB : List Str} {pick : List (Option Nat)} {sc : Scope} {cl : List (Str × Addr)} {elt target iter : Expr} {ifs : List Expr} {pos : Pos} {wi : TI} {g : TG} {c : TT} {te : TE}
theorem comp_run {pins : List (Addr × Obj)} {s : Shared} {σ : St} {H : Hp} {use : Option (Value → Sem Unit)} {Q : Addr → Hp → Prop} {QV : Value → Shared → Prop} (B : Blk X NB pick sc cl) (hc : X.calm = true) (hi : PI X target iter wi)
    (hg : ∀ s₃ H₃ fp, PG (blk X NB sc cl s₃ H₃ fp) target g) (ht : ∀ s₃ H₃ fp, PIfs (blk X NB sc cl s₃ H₃ fp) ifs c) (he : ∀ s₃ H₃ fp, PE (blk X NB sc cl s₃ H₃ fp) elt te)
    (hs : ∀ x, foldedSetIterable iter X.env x = pure x) (I : Inv X pins σ H s) (h : tComp wi pick g c te σ H Q)
    (fin : ∀ (D C : Addr) (s' : Shared) (H' : Hp), Inv X pins σ H' s' → Q D H' → H' C = none → C ≠ X.env.locals → X.s₀.heap.objs.size ≤ C → (∀ x a, X.env.cells.lookup x = some a → a ≠ C) → (∀ p ∈ X.pn ++ pins, p.1 ≠ C) → (∃ m, s'.heap.Ns C m) →
      compPost (model X.prog X.w) X.A X.xe use QV (.ref D) C (.ok .next) s') :
    wpAny (model X.prog X.w) X.A (comprehension (.ListComp elt [⟨target, iter, ifs, 0⟩] sc pos) sc X.env (firstIterPos [⟨target, iter, ifs, 0⟩] pos) (newList []) false (eval iter X.env) use) QV X.xe s := by
  refine wpAny_comprehension_free rfl hs B.clos B.kind B.names (thn (hi pins s σ H _ I h) fun v s1 h1 => thn h1 fun itv s2 h2 => ?_)
  obtain ⟨it, fp, tn, J, H2, e, I2, T, st2, f2, h2⟩ := h2
  subst e
  refine wpAny_newObj_type ?_
  have I3 : Inv X pins σ (upd H2 s2.heap.objs.size (.lst [])) { s2 with heap := s2.heap.push { cls := .type "list", dict := none, data := .seq ([] : List Value).toArray } } :=
    I2.laid (t' := s2.toks) (fun b u e => Heap.get?_push_of_some _ e) (Nat.le_refl _) ⟨Nat.zero_le _, [], 0, .nil, Heap.get?_push_size _ rfl⟩
  have hf : H2 s2.heap.objs.size = none := I2.hok.fresh (Nat.le_refl _)
  have lt : ∀ b ∈ fp, b ≠ s2.heap.objs.size := fun b hb => by
    obtain ⟨o, ho, _⟩ := T.obj _ _ st2 b hb
    exact Nat.ne_of_lt (Heap.lt_size ho)
  have f3 : ∀ b ∈ fp, FpOk X pins (upd H2 s2.heap.objs.size (.lst [])) b := fun b hb => ⟨by rw [upd_ne (lt b hb)]; exact (f2 b hb).1, (f2 b hb).2⟩
  generalize hs3 : ({ s2 with heap := s2.heap.push { cls := .type "list", dict := none, data := .seq ([] : List Value).toArray } } : Shared) = s3 at I3 ⊢
  have kp3 : ∀ b o, s2.heap.get? b = some o → s3.heap.get? b = some o := fun b o e => by
    rw [← hs3]
    exact Heap.get?_push_of_some _ e
  have hex : ∀ b ∈ fp, ∃ o, s3.heap.get? b = some o := fun b hb => by
    obtain ⟨o, ho, _⟩ := T.obj _ _ st2 b hb
    exact ⟨o, kp3 b o ho⟩
  have st3 : tn 0 s3.heap := T.keep _ _ _ st2 fun b _ o e => kp3 b o e
  obtain ⟨W, ⟨m0, w0⟩, turn⟩ := h2 _ hf
  refine wpAny_newFunctionEnv B.nocell (by intro y hy; simp at hy) (fun h₁ hns₁ hsb₁ => ?_) B.kind
  have kp4 : ∀ b o, s3.heap.get? b = some o → h₁.get? b = some o := fun b o e => (hsb₁.2 b (Nat.ne_of_lt (Heap.lt_size e))).trans (Heap.get?_push_of_some _ e)
  have J4 := blk_start I3 B f3 hex hns₁ kp4 (s3.toks + ([] : List (Str × Value)).length)
  have st4 : tn 0 h₁ := T.keep _ _ _ st3 fun b _ o e => kp4 b o e
  have stat : ∀ {H' : Hp}, (∀ b ∈ fp, H' b = none) → ∀ b ∈ fp, FpOk (blk X NB sc cl s3 (upd H2 s2.heap.objs.size (.lst [])) fp) [] H' b := fun {H'} hn b hb => by
    obtain ⟨o, ho⟩ := hex b hb
    refine ⟨hn b hb, Nat.ne_of_lt (Heap.lt_size ho), fun z => ?_, .inl hb, fun x a e => (f2 b hb).2.2.2.2.1 x a (B.sub.of x a e), fun p hp => absurd (show p ∈ ([] : List (Addr × Obj)) from hp) (by simp)⟩
    rcases List.mem_cons.mp (I2.stkSub b z) with e | e
    · exact (f2 b hb).2.1 e
    · exact (f2 b hb).2.2.1 e
  have loop : codeAny (model X.prog X.w) X.A (.compLoop (.ListComp elt [⟨target, iter, ifs, 0⟩] sc pos) 0 (.ref it) (.ref s2.heap.objs.size) (blk X NB sc cl s3 (upd H2 s2.heap.objs.size (.lst [])) fp).env)
      (compPost (model X.prog X.w) X.A X.xe use QV (.ref s2.heap.objs.size) s3.heap.objs.size) { s3 with heap := h₁, toks := s3.toks + ([] : List (Str × Value)).length } := by
    refine compLoop_any (fun n s' => ∃ i σ' H', Inv (blk X NB sc cl s3 (upd H2 s2.heap.objs.size (.lst [])) fp) [] σ' H' s' ∧ tn i s'.heap ∧ (∀ b ∈ fp, H' b = none) ∧ W i n σ' H') ?_ m0 ⟨0, _, _, J4, st4, fun b hb => (f3 b hb).1, w0⟩
    rintro n s5 ⟨i, σ5, H5, I5, st5, fr5, w5⟩
    rcases turn i n σ5 H5 w5 with ⟨stop, qn⟩ | ⟨go, N, hN, step⟩
    · refine thn (T.done (blk X NB sc cl s3 (upd H2 s2.heap.objs.size (.lst [])) fp) rfl rfl rfl hc i [] s5 σ5 H5 _ I5 (stat fr5) st5 stop) fun r s6 ⟨hr, I6⟩ => ?_
      subst hr
      refine fin s2.heap.objs.size s3.heap.objs.size s6 H5 (blk_end I3 f3 I6) qn I6.free (Nat.ne_of_lt I3.lt).symm I3.sz (fun x a e => ?_) (fun p hp => ?_) ?_
      · obtain ⟨v, o, ho, _⟩ := I3.cell x a e
        exact Nat.ne_of_lt (Heap.lt_size ho)
      · exact Nat.ne_of_lt (Heap.lt_size (I3.pin p hp).1)
      · obtain ⟨m, hn, _⟩ := I6.loc
        exact ⟨m, hn⟩
    · refine thn (T.item (blk X NB sc cl s3 (upd H2 s2.heap.objs.size (.lst [])) fp) rfl rfl rfl hc i [] s5 σ5 H5 _ I5 (stat fr5) st5 go) fun r s6 ⟨u, hr, h6⟩ => ?_
      subst hr
      refine thn h6 fun _ s7 ⟨x, H7, I7, r7, y7, st7, fr7⟩ => ?_
      have I7' := I7.pinned (stat fr7) (T.obj _ _ st7)
      have again : ∀ {s9 : Shared} {σ9 : St} {H9 : Hp}, Inv (blk X NB sc cl s3 (upd H2 s2.heap.objs.size (.lst [])) fp) ([] ++ pinsAt fp s7.heap) σ9 H9 s9 → N σ9 H9 →
          ∃ m, m < n ∧ ∃ i σ' H', Inv (blk X NB sc cl s3 (upd H2 s2.heap.objs.size (.lst [])) fp) [] σ' H' s9 ∧ tn i s9.heap ∧ (∀ b ∈ fp, H' b = none) ∧ W i m σ' H' := fun {s9 σ9 H9} I9 n9 => by
        obtain ⟨m', hm, w9⟩ := hN σ9 H9 n9
        refine ⟨m', hm, i + 1, σ9, H9, I9.unpinned, T.keep _ _ _ st7 fun b hb o e => (I9.pin (b, o) (List.mem_append_right _ (List.mem_append_right _ (mem_pinsAt hb e)))).1, fun b hb => ?_, w9⟩
        obtain ⟨o, e, d⟩ := T.obj _ _ st7 b hb
        exact (I9.pin (b, o) (List.mem_append_right _ (List.mem_append_right _ (mem_pinsAt hb e)))).2.1
      refine thn (hg _ _ _ _ s7 σ5 H7 x u _ I7' r7 (step x H7 y7)) fun _ s8 ⟨σ8, H8, I8, q8⟩ => ?_
      refine thn (ht _ _ _ _ s8 σ8 H8 _ I8 q8) fun b s9 ⟨H9, I9, q9⟩ => ?_
      cases b with
      | false =>
        rw [if_neg Bool.false_ne_true]
        exact again I9 (by rw [if_neg Bool.false_ne_true] at q9; exact q9)
      | true =>
        rw [if_pos rfl] at q9 ⊢
        refine thn (he _ _ _ _ s9 σ8 H9 _ I9 q9) fun y s10 ⟨vy, H10, I10, r10, xs, hD, hl, q10⟩ => ?_
        refine thn (mt_append _ s10 σ8 H10 (.ref s2.heap.objs.size) [vy] (.ref s2.heap.objs.size) [y] (fun _ H' => N σ8 H') I10 rfl (.cons r10 .nil) ⟨_, xs, vy, rfl, rfl, hD, hl, q10⟩) fun _ s11 ⟨_, H11, I11, _, q11⟩ => ?_
        exact again I11 q11
  refine codeAny_compStart_list loop (T.self _ 0 _ _ _ st4 loop)
theorem pe_comp (B : Blk X NB pick sc cl) (hc : X.calm = true) (hi : PI X target iter wi)
    (hg : ∀ s₃ H₃ fp, PG (blk X NB sc cl s₃ H₃ fp) target g) (ht : ∀ s₃ H₃ fp, PIfs (blk X NB sc cl s₃ H₃ fp) ifs c) (he : ∀ s₃ H₃ fp, PE (blk X NB sc cl s₃ H₃ fp) elt te)
    (hs : ∀ x, foldedSetIterable iter X.env x = pure x := by intro _; rfl) : PE X (.ListComp elt [⟨target, iter, ifs, 0⟩] sc pos) (fun σ H Q => tComp wi pick g c te σ H fun D H' => Q (.ref D) H') := by
  intro pins s σ H Q I h
  rw [eval_ListComp]
  refine comp_run (use := none) (QV := EP X pins σ Q) B hc hi hg ht he hs I h fun D C s' H' I' q c0 c1 c2 c3 c4 hn => ?_
  obtain ⟨m, hm⟩ := hn
  exact ⟨m, hm, fun hh hsb => ⟨.ref D, H', I'.turned (t' := s'.toks) (fun b o hb e => (hsb.2 b hb).trans e) c0 c1 (.inr c2) c3 c4, rfl, q⟩⟩
theorem ps_setC {i : Nat} {x : Str} {pos' spos : Pos} (hN : X.N.Nodup) (hx1 : X.N[i]? = some x) (hx2 : Loc X.env.scope x)
    (hsw : swapsWith (.ListComp elt [⟨target, iter, ifs, 0⟩] sc pos) (some (.Name x pos')) spos.line X.env = pure true) (B : Blk X NB pick sc cl) (hc : X.calm = true) (hi : PI X target iter wi)
    (hg : ∀ s₃ H₃ fp, PG (blk X NB sc cl s₃ H₃ fp) target g) (ht : ∀ s₃ H₃ fp, PIfs (blk X NB sc cl s₃ H₃ fp) ifs c) (he : ∀ s₃ H₃ fp, PE (blk X NB sc cl s₃ H₃ fp) elt te)
    (hs : ∀ x, foldedSetIterable iter X.env x = pure x := by intro _; rfl) (hfn : X.fn x = true ∨ X.env.scope.names.lookup x = some .local := by first | exact .inl rfl | exact .inr rfl | assumption) :
    PS X (.Assign [.Name x pos'] (.ListComp elt [⟨target, iter, ifs, 0⟩] sc pos) spos) (fun D σ H => tComp wi pick g c te σ H fun l H' => D.nx (σ.set i (some (.ref l))) H') := by
  intro pins s σ H D I h
  rw [exec_Assign_Name_used _ _ _ _ hsw]
  refine wpAny_bind (wpAny_standAt (wpAny_bind ?_))
  show wpAny _ _ (do let _ ← comprehension (.ListComp elt [⟨target, iter, ifs, 0⟩] sc pos) sc X.env _ (newList []) false (eval iter X.env) (some (assign (.Name x pos') X.env))) _ _ s
  refine wpAny_bind (thn (comp_run (use := some (assign (.Name x pos') X.env)) (QV := fun _ s' => SP X pins D .next s') B hc hi hg ht he hs I h fun l C s' H' I' q c0 c1 c2 c3 c4 hn => ?_) fun _ s' hq => wpAny_pure (wpAny_pure hq))
  obtain ⟨m, hm⟩ := hn
  show wpAny _ _ (assign (.Name x pos') X.env (.ref l)) _ _ _
  refine wpAny_assign_Name (store_ok2 (v := .ref l) I' hN hx1 hx2 rfl (fun s'' I'' ⟨a, hsb, ha⟩ => ?_) hfn)
  have ne : C ≠ a := by
    rcases ha with e | e
    · rw [e]; exact c1
    · exact (c3 x a e).symm
  refine ⟨m, hm.sameBut hsb ne, fun hh hsb2 => ?_⟩
  exact ⟨_, H', I''.turned (t' := s''.toks) (fun b o hb e => (hsb2.2 b hb).trans e) c0 c1 (.inr c2) c3 c4, q⟩
end
end L2

set_option Elab.async false
set_option linter.all false
set_option maxRecDepth 100000
namespace L2
open PySem PySem.Spec PyProof.Rows
structure Fly (P : Program) (w : World) (outer : List Env) (H : Hp) (s : Shared) (e C : Addr) (H' : Hp) (s' : Shared) : Prop where
  os : s'.os = s.os
  bare : AllBare s'.gens
  ex : ∃ (a0 : Value) (B : Heap), Heap.FlyingW B outer e (.ref C) a0 s'.heap ∧ HOk P w H' B ∧ (∀ b o, s.heap.get? b = some o → b ∉ frs outer → ∃ o', B.get? b = some o') ∧
    ∀ b o, s.heap.get? b = some o → H b = none → b ∉ frs outer → B.get? b = some o
  slot : ∀ b o, s.heap.get? b = some o → H b = none → b ∈ frs outer → ∃ sl, s'.heap.get? b = some { o with slots := sl }
  free : ∀ b o, s.heap.get? b = some o → H b = none → H' b = none
  tups : ∀ b xs, H b = some (.tup xs) → H' b = some (.tup xs)
  frzs : ∀ b o u, H b = some (.frz o u) → H' b = some (.frz o u)
  tbls : ∀ b ps, H b = some (.tbl ps) → ∃ more, H' b = some (.tbl (ps ++ more))
def CX1 (P : Program) (w : World) : CXT := fun outer H s E ev s' => ∃ (e C : Addr) (H' : Hp), ev = .ref e ∧ Fly P w outer H s e C H' s' ∧ E (.ref C) none H'

section
variable {X : Cx} {pins : List (Addr × Obj)} {σ : St} {H H' : Hp} {s s' : Shared} {e C : Addr}

end
structure Own (X : Cx) : Prop where
  st : X.stack = X.env :: X.outer
  fr : X.env.frame = some X.env.locals
  ex : X.ex = []

section
variable {X : Cx} {pins : List (Addr × Obj)} {σ : St} {H H' : Hp} {s s' : Shared} {e C : Addr} {Q : Unit → Shared → Prop} {E : Value → Shared → Prop} {M : Model}

theorem Own.sub (O : Own X) {b : Addr} (h : b ∈ X.fs) : b ∈ frs X.stack := by
  rw [O.st]
  unfold frs
  rw [List.filterMap_cons, O.fr]
  exact List.mem_cons_of_mem _ h
theorem Own.not (O : Own X) (I : Inv X pins σ H s) {b : Addr} {o : Obj} (q : X.s₀.heap.get? b = some o) (h : b ∉ X.fs) : b ∉ frs X.stack := fun z => by
  rcases List.mem_cons.mp (I.stkSub b z) with r | r
  · exact absurd (Nat.lt_of_lt_of_le (Heap.lt_size q) I.ok.above) (by rw [r]; exact Nat.lt_irrefl _)
  · exact h r
theorem Own.nex (O : Own X) (b : Addr) : b ∉ X.ex := by
  rw [O.ex]
  simp
theorem made_leaves {vs : List Value} {h' : Heap} (O : Own X) (I : Inv X pins σ H s) (hx : Heap.MadeExcOf s.heap h' e (.ref C) vs)
    (k : ∀ h'', Fly X.prog X.w X.outer X.H₀ X.s₀ e C H { s with heap := h'' } → Q () { s with heap := h'' }) : wpAny M X.A (leaving X.env (.ref e)) Q E { s with heap := h' } := by
  have hst := I.stack
  have hfr := I.ok.frames
  rw [O.st] at hst hfr
  have hin : ∀ env ∈ (X.env :: X.outer), ∀ b, env.frame = some b → b ∈ frs X.stack := fun env he b hb => by
    rw [O.st]
    exact List.mem_filterMap.mpr ⟨env, he, hb⟩
  have get : ∀ {b : Addr} {o : Obj}, s.heap.get? b = some o → b ∉ frs X.stack → (PySem.W.hideAll s.heap (frs X.stack)).get? b = some o := fun q hb => PySem.W.hideAll_get _ q hb
  refine wpAny_leaves_madeW (base := PySem.W.hideAll s.heap (frs X.stack)) (h := s.heap) (s := { s with heap := h' }) hfr O.fr (fun b o q => PySem.W.of_hideAll _ q) (PySem.W.funFrames_hide hst hin) hx fun h'' t x1 _ _ x4 => k h'' ⟨I.os, I.bare, ⟨_, _, x1, fun a o q => ?_, fun b o q hb => ?_, fun b o q n hb => ?_⟩, fun b o q n hb => ?_, fun b o q n => I.base.free b o q n (O.nex b), I.base.tups, I.base.frzs, I.base.tbls⟩
  · refine (I.hok a o q).stay (fun b u hb z => get z fun hm => ?_) (fun _ z => z) fun _ _ z => z
    have hn := I.stkFree b hm
    rcases hb with rfl | hb
    · rw [hn] at q; cases q
    · rw [hn] at hb; cases hb
  · obtain ⟨o', z⟩ := I.base.there b o q (O.nex b)
    exact ⟨o', get z (O.not I q hb)⟩
  · exact get (I.base.keep b o q n hb (O.nex b)) (O.not I q hb)
  · obtain ⟨sl, z⟩ := I.base.slot b o q n hb (O.nex b)
    obtain ⟨_, o', ho', hnf⟩ := I.ok.funs.mem hb
    rw [q] at ho'
    cases ho'
    obtain ⟨sl', z'⟩ := x4 b _ (hx.keeps b _ z) hnf
    exact ⟨sl', z'⟩
theorem on_leaves (O : Own X) (I : Inv X pins σ H s) (F : Fly X.prog X.w X.stack H s e C H' s')
    (k : ∀ h'', Fly X.prog X.w X.outer X.H₀ X.s₀ e C H' { s' with heap := h'' } → Q () { s' with heap := h'' }) : wpAny M X.A (leaving X.env (.ref e)) Q E s' := by
  obtain ⟨a0, B, fl, hok, th, kp⟩ := F.ex
  have hfr := I.ok.frames
  rw [O.st] at fl hfr
  refine wpAny_leaves_onW hfr O.fr fl fun h'' x1 x2 => k h'' ⟨F.os.trans I.os, F.bare, ⟨a0, B, x1, hok, fun b o q hb => ?_, fun b o q n hb => ?_⟩, fun b o q n hb => ?_, fun b o q n => ?_, fun b xs q => F.tups b xs (I.base.tups b xs q), fun b o u q => F.frzs b o u (I.base.frzs b o u q), fun b ps q => ?_⟩
  · obtain ⟨o', z⟩ := I.base.there b o q (O.nex b)
    exact th b o' z (O.not I q hb)
  · exact kp b o (I.base.keep b o q n hb (O.nex b)) (I.base.free b o q n (O.nex b)) (O.not I q hb)
  · obtain ⟨sl, z⟩ := I.base.slot b o q n hb (O.nex b)
    obtain ⟨sl', z'⟩ := F.slot b _ z (I.base.free b o q n (O.nex b)) (O.sub hb)
    obtain ⟨_, o', ho', hnf⟩ := I.ok.funs.mem hb
    rw [q] at ho'
    cases ho'
    obtain ⟨sl2, z2⟩ := x2 b _ z' hnf
    exact ⟨sl2, z2⟩
  · obtain ⟨o', z⟩ := I.base.there b o q (O.nex b)
    exact F.free b o' z (I.base.free b o q n (O.nex b))
  · obtain ⟨m1, e1⟩ := I.base.tbls b ps q
    obtain ⟨m2, e2⟩ := F.tbls b _ e1
    exact ⟨m1 ++ m2, by rw [e2, Array.append_assoc]⟩
end
abbrev XS := Value → St → Hp → Prop
structure Pass (X : Cx) (Ex : XS) : Prop where
  on : ∀ (pins : List (Addr × Obj)) (σ : St) (H : Hp) (s : Shared) (e C : Addr) (H' : Hp) (s' : Shared), Inv X pins σ H s → Fly X.prog X.w X.stack H s e C H' s' → Ex (.ref C) σ H' → X.xe (.ref e) s'
structure Rais (X : Cx) (Ex : XS) : Prop extends Pass X Ex where
  nw : ∀ (pins : List (Addr × Obj)) (σ : St) (H : Hp) (s : Shared) (e C : Addr) (h' : Heap) (vs : List Value), Inv X pins σ H s → Heap.MadeExcOf s.heap h' e (.ref C) vs → Ex (.ref C) σ H → X.xe (.ref e) { s with heap := h' }
  own : PassesOwn (model X.prog X.w) X.A X.env X.xe

theorem rais_def {P : Program} {w : World} {K : PySem.W.Frag} {mg : Str → Option Value} {base : Heap} {N : List Str} {qual : Str} {scope : Scope} {f : Addr} {cd : Value} {A : Around} {outer : List Env} {s : Shared} {H : Hp} {E : XK} :
    Rais (cxOf (CX1 P w) P w K mg base N qual scope f cd A outer s H E) (fun c _ H' => E c none H') where
  on := fun pins σ H1 s1 e C H' s' I F q => on_leaves ⟨rfl, rfl, rfl⟩ I F fun h'' F' => ⟨e, C, H', rfl, F', q⟩
  nw := fun pins σ H1 s1 e C h' vs I hx q => made_leaves ⟨rfl, rfl, rfl⟩ I hx fun h'' F' => ⟨e, C, H1, rfl, F', q⟩
  own := PassesOwn.leaving

section
variable {P : Program} {w : World} {K : PySem.W.Frag} {mg : Str → Option Value} {base : Heap}
theorem Fun.ok1 {x qual : Str} {st : Stmt} {f : Addr} {fd : FuncData} {N ps : List Str} {k : Nat} {sp : Sp} (F : Fun K x qual st f fd) (S : FnScope N ps (defScope st)) (len : ∀ vs H Q E, sp vs H Q E → vs.length = ps.length)
    (hbody : ∀ (cdv : Value) (A : Around) (outer : List Env) (s : Shared) (H : Hp) (vs : List V) (Q : VK) (E : XK), Room k (A.deeper (envOfC qual (defScope st) s.heap.objs.size f cdv)) → sp vs H Q E →
      ∃ t, PSs (cxOf (CX1 P w) P w K mg base N qual (defScope st) f cdv A outer s H E) (defBody st) t ∧ t { nx := fun _ H' => Q .non H', rt := Q } (start N vs) H) : FnOk P w K mg base (CX1 P w) (k + 1) f fd ps sp := by
  obtain ⟨oc, od, kV, doc, pm, an, cdv, ct, osl, rfl, lk, hcd⟩ := F.ex
  exact fn_of lk hcd S len fun A outer s H vs Q E hr hsp => hbody cdv A outer s H vs Q E hr hsp
end
def tCallX (sp : Sp) (dvs : List V) (Ex : XS) (t : TA) : TE := fun σ H Q => t σ H fun vs H1 => sp (vs ++ dvs) H1 Q fun c _ H' => Ex c σ H'
section
variable {X : Cx} {Ex : XS} {k : Nat} {f C : Addr} {fd : FuncData} {ps : List Str} {sp : Sp} {dvs : List V} {ds : List Value} {x m : Str} {p pos apos : Pos} {e o : Expr} {es : List Expr} {ta : TE} {t : TA}
theorem run_fnX {pins : List (Addr × Obj)} {σ : St} {H : Hp} {s : Shared} {Q : VK} {us : List Value} {vs : List V} (R : Pass X Ex) (F : FnOk X.prog X.w X.K X.mg X.base (CX1 X.prog X.w) k f fd ps sp) (hr : Room k X.A) (hb : Binds X.K fd ps ds) (hd : Vals dvs ds)
    (I : Inv X pins σ H s) (r : Vals vs us) (h : sp (vs ++ dvs) H Q fun c _ H' => Ex c σ H') : wpAny (model X.prog X.w) X.A (call (.ref f) us) (EP X pins σ Q) X.xe s := by
  have r2 : Vals (vs ++ dvs) (us ++ ds) := r.append hd
  have hl : (us ++ ds).length = ps.length := by rw [← r2.length]; exact F.len _ _ _ _ h
  refine wpAny_call (codeAny_mono (F.run X.A X.stack s H ⟨us, []⟩ (us ++ ds) (vs ++ dvs) Q _ hr I.env0 (hb s us I.kIn hl) r2 h) fun r s' hq => ?_)
  cases r with
  | error ev =>
    obtain ⟨e, C, H', rfl, Fl, q⟩ := hq
    exact R.on pins σ H s e C H' s' I Fl q
  | ok fl =>
    cases fl with
    | ret u => exact I.after hq
    | next => exact False.elim hq
    | brk => exact False.elim hq
    | cont => exact False.elim hq
theorem pe_callX (R : Pass X Ex) (F : FnOk X.prog X.w X.K X.mg X.base (CX1 X.prog X.w) k f fd ps sp) (hr : Room k X.A) (hg : Gl X x) (hm : X.mg x = some (.ref f)) (hk : PySem.W.keepIn X.K (.ref f) = true) (hb : Binds X.K fd ps ds) (hd : Vals dvs ds)
    (ha : PA X (e :: es) t) (hdb : (x == ("__debug__" : Str)) = false := by decide) (he : starEach (e :: es) X.env = (false, eval e X.env) :: starEach es X.env := by rfl) (hpl : (backTo pos (starEach es X.env)).any (·.1) = false := by rfl) :
    PE X (.Call (.Name x p) (e :: es) [] pos) (tCallX sp dvs Ex t) := by
  intro pins s σ H Q I h
  refine wpAny_Call_Name_kw (ld_glob I hg hm ?_ hdb)
  refine PySem.W.callWith_K (h₀ := X.base) I.ok.mod.kin hk (thn (ha pos pins s σ H _ I h) fun us s1 ⟨vs, H1, I1, r, q⟩ => ⟨I1.kIn, ?_⟩) he hpl
  exact run_fnX R F hr hb hd I1 r q
end
abbrev bmV : List Value := [.type "ValueError", .type "Exception", .type "BaseException", .type "object"]
structure ExcCls (K : PySem.W.Frag) (C : Addr) : Prop where
  cls : (PySem.W.clsIn K C).isSome = true
  ty : PySem.W.typeIn K (.ref C) = some (.type "type")
  ga : PySem.W.findIn K (.ref C) "__getattribute__" = some (some (.builtin "BaseException.__getattribute__"))
  gx : PySem.W.findIn K (.ref C) "__getattr__" = some none
  ca : PySem.W.findIn K (.ref C) "__class__" = some (some (.builtin "object.__class__"))
  cg : PySem.W.specialIn K (.builtin "object.__class__") "__get__" = some (some (.builtin "getset_descriptor.__get__"))
  ct : PySem.W.takesIn K (.builtin "object.__class__") = some true
  mo : PySem.W.mroIn K C (.type "object") = some true
  mb : PySem.W.mroIn K C (.type "BaseException") = some true

theorem exc_obj {K : PySem.W.Frag} {h : Heap} {C : Addr} {bmB : List Value} {newId : String} (X : K.In h) (q : PySem.W.excIn K C bmB newId = true) :
    ∃ bm N nm q bs hdct sn sub ab col dd k0 k1 k2 k3 k5 mN, h.get? C = some (excClassObj nm q C N bs bm hdct sn sub ab col dd k0 k1 k2 k3 k5 newId) ∧ h.Ns N mN ∧ mN "__init__" = none ∧ OwnTail h bmB bm := by
  unfold PySem.W.excIn at q
  split at q
  · rename_i dd cd sl ho
    split at q
    · rename_i C' bm k0 k1 k2 k3 n k5 hm hs
      rw [Bool.and_eq_true, Bool.and_eq_true, Bool.and_eq_true, Bool.and_eq_true, Bool.and_eq_true] at q
      obtain ⟨⟨⟨⟨⟨q1, q2⟩, q3⟩, ht⟩, hok⟩, hni⟩ := q
      obtain rfl := beq_iff_eq.mp q1
      obtain rfl := beq_iff_eq.mp q2
      have hdel : cd.hasDel = false := by
        cases z : cd.hasDel with
        | false => rfl
        | true => rw [z] at q3; cases q3
      have hni' := beq_iff_eq.mp hni
      obtain ⟨nm, bs, mro, ns, qn, hd, sn, sub, ab, col, del⟩ := cd
      dsimp only at hm hdel hok hni'
      subst hm hdel
      obtain ⟨l⟩ := sl
      dsimp only at hs
      subst hs
      exact ⟨bm, ns, nm, qn, bs, hd, sn, sub, ab, col, dd, k0, k1, k2, k3, k5, _, X _ _ ho, .of_isNs (PySem.W.isNs_of_in X hok), PySem.W.nsMap_none_of_in X hok hni', PySem.W.tail_of_in X ht⟩
    · cases q
  · cases q

def tRaise (C : Addr) (Ex : XS) (t : TA) : TS := fun _ σ H => t σ H fun vs H1 => vs.length ≤ sizeLine ∧ Ex (.ref C) σ H1
section
variable {X : Cx} {Ex : XS} {x : Str} {C : Addr} {e₀ : Expr} {rest : List Expr} {np cpos pos : Pos} {t : TA}
theorem ps_raise (R : Rais X Ex) (hc : X.calm = true) (hg : Gl X x) (hm : X.mg x = some (.ref C)) (q : PySem.W.excIn X.K C bmV "ValueError.__new__" = true) (ha : PA X (e₀ :: rest) t)
    (he : starEach (e₀ :: rest) X.env = (false, eval e₀ X.env) :: starEach rest X.env := by rfl) (hplain : (backTo cpos (starEach rest X.env)).any (·.1) = false := by rfl) (hd : (x == ("__debug__" : Str)) = false := by decide) :
    PS X (.Raise (some (.Call (.Name x np) (e₀ :: rest) [] cpos)) none pos) (tRaise C Ex t) := by
  intro pins s σ H D I h
  obtain ⟨tl, N, nm, qn, bs, hdct, sn, sub, ab, col, dd, k0, k1, k2, k3, k5, mN, hC, hN, hni, T⟩ := exc_obj I.mod.kin q
  have FB := PySem.F.excBase_ValueError
  refine wpAny_Raise_call_subT (C := C) (nm := nm) (q := qn) (N := N) (bs := bs) (bm := tl) (hdct := hdct) (sn := sn) (sub := sub) (ab := ab) (col := col) (dd := dd) (k0 := k0) (k1 := k1) (k2 := k2) (k3 := k3) (k5 := k5)
    FB (mN := mN) (T.hasType FB.hasBase) (I.ok.hd hc) (by rw [he]; show (false || (backTo cpos (starEach rest X.env)).any (·.1)) = false; rw [hplain]; rfl) hni (ld_glob I hg hm ⟨rfl, ?_⟩ hd)
  have hs := ha cpos pins s σ H _ I h
  rw [he] at hs ⊢
  refine Calls.evalArgs_plain (thn hs fun us s2 ⟨vs, H2, I2, r, z, q2⟩ => ?_)
  have kb : ∀ b o, X.base.get? b = some o → s2.heap.get? b = some o := I2.bk
  exact ⟨rfl, by show us.length ≤ sizeLine; rw [← r.length]; exact z, kb _ _ hC, hN.keeps kb, T.keeps kb, fun h' e hx => R.nw pins σ H2 s2 e C h' us I2 hx q2⟩
end
def excO (e C : Addr) : HO := .ext fun h => ∃ oe, h.get? e = some oe ∧ oe.cls = .ref C

section
variable {X : Cx} {pins : List (Addr × Obj)} {σ : St} {H H' : Hp} {s s' : Shared} {e C : Addr}
theorem Inv.track {o : HO} (I : Inv X pins σ H s) (hn : H e = none) (h0 : X.s₀.heap.get? e = none) (hL : e ≠ X.env.locals) (hc : ∀ x c, X.env.cells.lookup x = some c → c ≠ e) (hp : ∀ p ∈ X.pn ++ pins, p.1 ≠ e) (hfs : e ∉ X.fs)
    (new : ObjOk X.prog X.w (upd H e o) s.heap e o) : Inv X pins σ (upd H e o) s := by
  have ne : ∀ b u, H b = some u → b ≠ e := fun b u q => ne_of_none q hn
  refine ⟨I.ok, I.os, I.bare, ⟨I.base.keep, I.base.slot, fun b ob q n hx => ?_, I.base.there, fun b xs q => ?_, fun b ob u q => ?_, fun b ps q => ?_⟩, I.loc, I.cell, ?_, fun x c q => ?_, fun p q => ?_, fun b u q => ?_, I.len⟩
  · rw [upd_ne (fun z => by rw [z, h0] at q; cases q)]
    exact I.base.free b ob q n hx
  · have z := I.base.tups b xs q
    rw [upd_ne (ne _ _ z)]
    exact z
  · have z := I.base.frzs b ob u q
    rw [upd_ne (ne _ _ z)]
    exact z
  · obtain ⟨m, z⟩ := I.base.tbls b ps q
    exact ⟨m, by rw [upd_ne (ne _ _ z)]; exact z⟩
  · rw [upd_ne hL.symm]
    exact I.free
  · rw [upd_ne (hc x c q)]
    exact I.freeC x c q
  · obtain ⟨z1, z2, z3⟩ := I.pin p q
    exact ⟨z1, by rw [upd_ne (hp p q)]; exact z2, z3⟩
  · by_cases hb : b = e
    · subst hb
      rw [upd_same] at q
      cases q
      exact new
    · rw [upd_ne hb] at q
      exact (I.hok b u q).stay (fun c v _ z => z) (fun c z => by rw [upd_ne (ne _ _ z)]; exact z) fun c xs z => by rw [upd_ne (ne _ _ z)]; exact z
end
def hanX (X : Cx) (e : Addr) : Cx := { X with A := X.A.mark (some (.ref e)), calm := false, xe := fun _ _ => False }
def tryX (X : Cx) (pins : List (Addr × Obj)) (Ex : XS) : Cx :=
  { X with pn := X.pn ++ pins, xe := fun ev s' => ∃ e C σ H s H', ev = Value.ref e ∧ Inv X pins σ H s ∧ Fly X.prog X.w X.stack H s e C H' s' ∧ Ex (.ref C) σ H' }

section
variable {X : Cx} {pins : List (Addr × Obj)} {σ : St} {H H' : Hp} {s s' : Shared} {e C : Addr} {Ex : XS}
end
section
open Builtin Builtin.ObjectAttr Builtin.Getset_descriptor
theorem exc_find {K : PySem.W.Frag} {M : Model} {h : Heap} {e C : Addr} {name : Str} {a g : Value} (X : K.In h) (h1 : PySem.W.findIn K (.ref C) name = some (some a)) (h2 : PySem.W.specialIn K a "__get__" = some (some g)) (h3 : PySem.W.takesIn K a = some true) :
    PySem.W.Looks M h (find (.ref e) (.ref C) name) (.bind g a) := by
  have L1 := PySem.W.looks_findIn (M := M) X h1
  have L2 : PySem.W.Looks M h (getOf (some a)) (some g) := PySem.W.looks_specialIn X h2
  have L3 := PySem.W.looks_takesIn (M := M) X h3
  exact L1.andThen (L2.andThen ((show PySem.W.Looks M h (dataDescriptor? (some a) (some g)) (some (g, a)) from L3.andThen .now).andThen (PySem.W.Looks.tag .now)))
theorem exc_class_get {prog : Program} {w : World} {A : Around} {s : Shared} {K : PySem.W.Frag} {x C : Addr} {R : Result → Shared → Prop} {tp : Value} (X : K.In s.heap) (I : ∀ M, PySem.W.Looks M s.heap (typeOf (.ref x)) (.ref C))
    (hm : PySem.W.mroIn K C (.type "object") = some true) (h : R (.ok (.ret (.ref C))) s) : codeAny (model prog w) A (.call (.builtin "getset_descriptor.__get__") ⟨[.builtin "object.__class__", .ref x, tp], []⟩) R s := by
  obtain ⟨hh, g, dr, t, os⟩ := s
  have L0 := I (model prog w)
  have L1 := PySem.W.looks_mroIn (M := model prog w) X hm
  refine codeAny_call_builtin PySem.W.KF.slot_gs.plain PySem.W.KF.entry_gs (PySem.W.KF.slot_gs.check _ _ _ _ _ _ _ _ PySem.W.KF.type_class (PySem.W.KF.args_gs _ _ _) ?_)
  unfold Builtin.«getset_descriptor.__get__» descrGet
  rw [PySem.W.dga_obj]
  refine wpAny_bind (wpAny_pure ?_)
  unfold descrGetter descrCheckInstance descrNameAndClass isInstance
  simp only [PySem.W.KF.owner_class]
  repeat lk
  refine ⟨Code.quiet_builtin _ (by decide +kernel), codeAny_builtin PySem.W.KF.entry_class ?_⟩
  unfold Builtin.«object.__class__» shownTypeOf
  repeat lk
  exact h
end
theorem exc_ga_check {M : Model} {A : Around} {E : Value → Shared → Prop} {s : Shared} {K : PySem.W.Frag} {x C : Addr} {nameV : Value} {Q : Unit → Shared → Prop} (X : K.In s.heap) (I : PySem.W.Looks M s.heap (typeOf (.ref x)) (.ref C))
    (hm : PySem.W.mroIn K C (.type "BaseException") = some true) (hq : Q () s) : wpAny M A (checkBuiltinCall "BaseException.__getattribute__" ⟨[.ref x, nameV], []⟩) Q E s := by
  have hk : builtinKind "BaseException.__getattribute__" = some .slot := by decide +kernel
  have hsplit : splitId "BaseException.__getattribute__" = some ("BaseException", "__getattribute__") := by decide +kernel
  have L1 := PySem.W.looks_mroIn (M := M) X hm
  have L2 : PySem.W.Looks M s.heap (isInstance (.ref x) (.type "BaseException")) true := I.andThen L1
  have ha := F.args_bexc_ga (.ref x) nameV
  obtain ⟨hh, g, dr, t, os⟩ := s
  simp only [checkBuiltinCall, hk, hsplit]
  refine wpAny_bind (L2.at ?_)
  repeat (first | assumption | wp_step)
section
open Builtin Builtin.ObjectAttr Builtin.Getset_descriptor
theorem exc_ca {prog : Program} {w : World} {A : Around} {E : Value → Shared → Prop} {s : Shared} {K : PySem.W.Frag} {x C : Addr} {Q : Option Value → Shared → Prop} (X : K.In s.heap) (c : ExcCls K C) (I : ∀ M, PySem.W.Looks M s.heap (typeOf (.ref x)) (.ref C))
    (h : Q (some (.ref C)) { s with toks := s.toks + 1 }) : wpAny (model prog w) A (getAttr? (.ref x) "__class__") Q E s := by
  obtain ⟨hh, g, d, t, os⟩ := s
  have L0 := I (model prog w)
  have L1 := PySem.W.looks_findIn (M := model prog w) X c.ga
  have L2 := PySem.W.looks_findIn (M := model prog w) X c.gx
  have L3 := exc_find (M := model prog w) (e := x) X c.ca c.cg c.ct
  have hx2 : (Value.builtin "BaseException.__getattribute__" == Value.builtin "object.__getattribute__") = false := by decide +kernel
  have f3 := F.excAttr_ValueError.ga.bind (.ref x)
  unfold getAttr? getAttrBy? getAttrBy
  refine wpAny_bind (wpAny_mkText (wpAny_bind (wpAny_attempt (wpAny_holding (wpAny_bind (L0.at (wpAny_bind (L1.at ?_))))))))
  dsimp only
  rw [if_neg (by rw [hx2, Bool.and_false]; exact Bool.false_ne_true)]
  unfold getAttrByItsOwn hookBefore
  rw [if_pos (show onTheHeap (Value.ref C) = true from rfl)]
  refine wpAny_bind (L2.at ?_)
  refine wpAny_bind (wpAny_attempt (wpAny_holding ?_))
  unfold callGetattribute
  rw [if_neg (by decide)]
  unfold boundAndCalled
  refine wpAny_bind (wpAny_of_eq f3 ?_)
  refine wpAny_call (codeAny_call_builtin F.excAttr_ValueError.ga.plain F.entry_bexc_ga (exc_ga_check X L0 c.mb ?_))
  show wpAny _ _ (Builtin.«object.__getattribute__» ⟨[.ref x, .str "__class__" t], []⟩) _ _ _
  unfold Builtin.«object.__getattribute__»
  refine wpAny_bind (wpAny_of_eq (a := (Value.ref x, [Value.str "__class__" t])) rfl ?_)
  refine wpAny_bind (wpAny_of_eq (a := ("__class__" : Str)) rfl ?_)
  refine wpAny_bind (L0.at (wpAny_bind (L3.at ?_)))
  show wpAny _ _ (holding [Value.builtin "object.__class__"] (call (.builtin "getset_descriptor.__get__") [.builtin "object.__class__", .ref x, .ref C]) >>= ret) _ _ _
  refine wpAny_bind (wpAny_holding (wpAny_call (exc_class_get (s := ⟨hh, g, d, t + 1, os⟩) X I c.mo ?_)))
  show wpAny _ _ (ret (Value.ref C)) _ _ _
  refine wpAny_pure ?_
  show wpAny _ _ (handedOut (Value.ref C)) _ _ _
  exact PySem.W.handed_on rfl (wpAny_pure h)
end
end L2

set_option Elab.async false
set_option linter.all false
set_option maxRecDepth 100000
namespace L2
open PySem PySem.Spec PyProof.Rows
inductive TyX (K : PySem.W.Frag) (H : Hp) : V → Value → Prop where
  | of {v : V} {t : Value} (h : TyOf K H v t) : TyX K H v t
  | exc {e C : Addr} (h : H e = some (excO e C)) (c : ExcCls K C) : TyX K H (.ref e) (.ref C)

theorem kitx_exc {K : PySem.W.Frag} {e C : Addr} (c : ExcCls K C) : PySem.W.KitX K (.ref e) (.ref C) (fun h => ∃ oe, h.get? e = some oe ∧ oe.cls = .ref C) where
  ty := fun M h _ ⟨oe, h1, h2⟩ => h2 ▸ (PySem.W.Looks.ld h1).andThen .now
  it := fun _ _ X _ => by
    have z := c.cls
    unfold PySem.W.clsIn at z
    split at z
    · rename_i c' d' cd' sl' ho
      intro A' Q' E' s' k q
      unfold isType loadHead
      exact wpAny_bind (wpAny_loadPart (k _ _ (X _ _ ho)) (wpAny_pure q))
    · cases z
  ne := fun h tp dd its n sl X htp => by
    refine Bool.eq_false_iff.mpr fun q => ?_
    have e : C = tp := Value.ref.inj (beq_iff_eq.mp q)
    subst e
    have z := c.cls
    unfold PySem.W.clsIn at z
    split at z
    · rename_i c' d' cd' sl' ho
      have z := (X _ _ ho).symm.trans htp
      cases z
    · cases z
  ca := fun X ⟨oe, h1, h2⟩ k => exc_ca X c (fun M => h2 ▸ (PySem.W.Looks.ld h1).andThen .now) k

section
variable {X : Cx} {pins : List (Addr × Obj)} {σ : St} {H : Hp} {s : Shared}
theorem TyX.kit {x : V} {u t : Value} (I : Inv X pins σ H s) (rx : RelV x u) (ty : TyX X.K H x t) : ∃ φ : Heap → Prop, PySem.W.KitX X.K u t φ ∧ φ s.heap ∧ u ≠ .builtin "__main__.__loader__#opaque" := by
  cases ty with
  | exc h c =>
    rename_i e C
    cases (show u = Value.ref e from rx)
    obtain ⟨z, _⟩ := I.hok e _ h
    exact ⟨_, kitx_exc c, z, fun z => nomatch z⟩
  | of ty =>
    cases ty with
    | non => cases (show u = Value.none from rx); exact ⟨_, PySem.W.kitx_none, True.intro, fun z => nomatch z⟩
    | bl y => cases (show u = Value.bool y from rx); exact ⟨_, PySem.W.kitx_bool, True.intro, fun z => nomatch z⟩
    | int i => obtain ⟨t, q⟩ := (show ∃ t, u = Value.int i t from rx); cases q; exact ⟨_, PySem.W.kitx_int, True.intro, fun z => nomatch z⟩
    | str y => obtain ⟨t, q⟩ := (show ∃ t, u = Value.str y t from rx); cases q; exact ⟨_, PySem.W.kitx_str, True.intro, fun z => nomatch z⟩
    | flt y => obtain ⟨t, q⟩ := (show ∃ t, u = Value.float y t from rx); cases q; exact ⟨_, PySem.W.kitx_float, True.intro, fun z => nomatch z⟩
    | @lst a xs ea =>
      cases (show u = Value.ref a from rx)
      obtain ⟨_, _, n, _, h1⟩ := (show ObjOk X.prog X.w H s.heap a (.lst xs) from I.hok a _ ea)
      exact ⟨_, PySem.W.kitx_list, ⟨_, h1, rfl⟩, fun z => nomatch z⟩
    | @frz a ob xs ea =>
      cases (show u = Value.ref a from rx)
      obtain ⟨_, _, _, n, _, h1⟩ := (show ObjOk X.prog X.w H s.heap a (.frz ob (.lst xs)) from I.hok a _ ea)
      exact ⟨_, PySem.W.kitx_list, ⟨_, h1, rfl⟩, fun z => nomatch z⟩
    | @tup a xs ea =>
      cases (show u = Value.ref a from rx)
      obtain ⟨_, _, _, p⟩ := (show ObjOk X.prog X.w H s.heap a (.tup xs) from I.hok a _ ea)
      obtain ⟨o, h1, h2, _⟩ := p
      exact ⟨_, PySem.W.kitx_tuple, ⟨o, h1, h2⟩, fun z => nomatch z⟩
    | @dK a kvs ea =>
      cases (show u = Value.ref a from rx)
      obtain ⟨_, _, vs, _, p⟩ := (show ObjOk X.prog X.w H s.heap a (.dK kvs) from I.hok a _ ea)
      obtain ⟨o, es, ep, h1, h2, _⟩ := p
      exact ⟨_, PySem.W.kitx_dict, ⟨o, h1, h2.1⟩, fun z => nomatch z⟩
    | @dT a kvs ea =>
      cases (show u = Value.ref a from rx)
      obtain ⟨_, _, xs, _, o, es, ep, h1, h2, _⟩ := (show ObjOk X.prog X.w H s.heap a (.dT kvs) from I.hok a _ ea)
      exact ⟨_, PySem.W.kitx_dict, ⟨o, h1, h2.1⟩, fun z => nomatch z⟩
    | @ins a C dx fs ea cl ha hn htk hm =>
      cases (show u = Value.ref a from rx)
      obtain ⟨mA, O, _⟩ := ins_get I.hok ea
      obtain ⟨od, J, _⟩ := O.look
      exact ⟨_, PySem.W.kitx_own (cl.get _) cl.hd ha hn htk hm, J, fun z => nomatch z⟩
def clsV : V → Option Value
  | .ty n => some (.type n)
  | .ref a => some (.ref a)
  | _ => none
theorem clsV_rel {c : V} {cv u : Value} (h : clsV c = some cv) (r : RelV c u) : u = cv := by
  cases c <;> first | (cases h; exact r) | cases h
theorem call_isi : CallR X (.builtin "isinstance") (fun xs H Q => ∃ v c t cv b, xs = [v, c] ∧ clsV c = some cv ∧ TyX X.K H v t ∧ PySem.W.kitOne X.K t cv = some b ∧ Q (.bl b) H) := by
  intro pins s σ H xs us Q I r h
  obtain ⟨v, c, t, cv, b, rfl, hc, ty, hk, q⟩ := h
  obtain ⟨u, cu, rfl, ru, rc⟩ := vals2 r
  obtain rfl := clsV_rel hc rc
  obtain ⟨φ, Z, p, ne⟩ := ty.kit I ru
  exact PySem.W.kia_one Z I.kIn p hk ne fun tk => ⟨.bl b, H, I.tok tk, rfl, q⟩
end

section
variable {X : Cx}
theorem ix_listK (K : PySem.W.Frag) (h : X.K = K := by rfl) : IxR X (rIxL K) := h ▸ ix_list
theorem ix_tupK (K : PySem.W.Frag) (h : X.K = K := by rfl) : IxR X (rIxT K) := h ▸ ix_tup
theorem call_lenK (K : PySem.W.Frag) (h : X.K = K := by rfl) : CallR X (.builtin "len") (fun xs H Q => ∃ p ys, xs = [.ref p] ∧ (SqL K H p ys ∨ SqT K H p ys) ∧ Q (.int ys.length) H) := h ▸ call_len_seq
end
def tTry (tb : XS → TS) (K : PySem.W.Frag) (S : Addr) (i : Nat) (th : TS) : TS := fun D σ H =>
  tb (fun c σ' H' => ∃ C, c = .ref C ∧ PySem.W.mroIn K C (.ref S) = some true ∧ ∀ e, H' e = none →
    th { nx := fun σ2 H2 => D.nx (σ2.set i none) H2, rt := D.rt, bk := fun σ2 H2 => D.bk (σ2.set i none) H2, ct := fun σ2 H2 => D.ct (σ2.set i none) H2 } (σ'.set i (some (.ref e))) (upd H' e (excO e C))) D σ H
section
variable {X : Cx}
def rCatQ (K : PySem.W.Frag) : R2 := fun x y H Q => ∃ l b xs zs, x = .ref l ∧ y = .ref b ∧ SqL K H l xs ∧ SqL K H b zs ∧ xs.length + zs.length ≤ sizeLine ∧ ∀ p, H p = none → Q (.ref p) (upd H p (.lst (xs ++ zs)))
theorem op_catQ : OpR X (binaryOp .Add) (rCatQ X.K) := by
  intro pins s σ H x y v u Q I rx ry h
  obtain ⟨l, b, xs, zs, rfl, rfl, hH, hB, hz, q⟩ := h
  cases rx
  cases ry
  obtain ⟨its, r, pl, hl⟩ := I.list hH
  obtain ⟨its2, r2, pl2, hl2⟩ := I.list hB
  obtain ⟨⟨cls, dd, data, sl⟩, n, ho, hc, _, hd⟩ := pl
  obtain ⟨⟨cls2, dd2, data2, sl2⟩, n2, ho2, hc2, _, hd2⟩ := pl2
  dsimp only at hc hd hc2 hd2
  subst hc hd hc2 hd2
  have ea : its.toArray ++ its2.toArray = (its ++ its2).toArray := by simp
  refine concat_meets ⟨_, ho, rfl⟩ ⟨_, ho2, rfl⟩ noFill_list_add seq_list_add PySem.F.slot_list_add PySem.F.entry_list_add (PySem.F.args_list_add_2 _ _) (list_addW l b its.toArray its2.toArray n n2 dd dd2 sl sl2 (by rw [List.size_toArray, List.size_toArray, ← r.length, ← r2.length]; exact hz)) ⟨ho, ho2, ?_⟩
  rw [ea]
  exact ⟨.ref _, _, I.lnew (t' := s.toks) (r.append r2) (by rw [List.length_append]; exact hz), rfl, q _ I.fresh⟩
def rEqL (K : PySem.W.Frag) (f : Bool → Bool) : R2 := fun x y H Q => ∃ (l b : Addr) (ns ms : List Int), x = .ref l ∧ y = .ref b ∧ SqL K H l (ns.map V.int) ∧ SqL K H b (ms.map V.int) ∧ Q (.bl (f (decide (ns = ms)))) H
theorem op_eqL (hu : X.A.units + 64 < cLine) : OpR X (compareOp .Eq) (rEqL X.K id) := by
  intro pins s σ H x y v u Q I rx ry h
  obtain ⟨l, b, ns, ms, rfl, rfl, hH, hB, q⟩ := h
  cases rx
  cases ry
  obtain ⟨its, r, pl, hl⟩ := I.list hH
  obtain ⟨its2, r2, pl2, hl2⟩ := I.list hB
  exact PySem.W.eq_intsK pl.isList (intsAre_of r) pl2.isList (intsAre_of r2) hu ⟨.bl (decide (ns = ms)), H, I, rfl, q⟩
theorem op_neL (hu : X.A.units + 64 < cLine) : OpR X (compareOp .NotEq) (rEqL X.K (!·)) := by
  intro pins s σ H x y v u Q I rx ry h
  obtain ⟨l, b, ns, ms, rfl, rfl, hH, hB, q⟩ := h
  cases rx
  cases ry
  obtain ⟨its, r, pl, hl⟩ := I.list hH
  obtain ⟨its2, r2, pl2, hl2⟩ := I.list hB
  exact PySem.W.ne_intsK pl.isList (intsAre_of r) pl2.isList (intsAre_of r2) hu ⟨.bl (!decide (ns = ms)), H, I, rfl, q⟩
def CMulB (i j : Int) : Prop := CMul i j ∨ (i.natAbs < 2 ^ 2000000 ∧ j.natAbs < 2 ^ 2000000)
theorem CMulB.ok {i j : Int} (h : CMulB i j) : IntMulOk i j := by
  rcases h with h | ⟨h1, h2⟩
  · exact h.ok
  · exact IntMulOk.of_le (m := 2000000) (n := 2000000) (intBits_le_iff.mpr h1) (intBits_le_iff.mpr h2) (by decide)
theorem op_mulB : OpR X (binaryOp .Mult) (rI CMulB fun i j => .int (i * j)) := opI fun i j t u s Q E hc h => mul_int h hc.ok
def CDivB (_ j : Int) : Prop := j ≠ 0 ∧ j.natAbs < 2 ^ 8000
theorem CDivB.ok {i j : Int} (h : CDivB i j) : Builtin.divisionGoesByPylong i j = false := by
  obtain ⟨h0, h1⟩ := h
  have hl : j.natAbs.log2 < 8000 := (Nat.log2_lt (by omega)).mpr h1
  have hd : ¬ ((if (j == 0) = true then 0 else j.natAbs.log2 / 30 + 1) > 300) := by
    split
    · omega
    · omega
  show (decide ((if (j == 0) = true then 0 else j.natAbs.log2 / 30 + 1) > 300) && _) = false
  rw [decide_eq_false hd, Bool.false_and]
theorem op_fdivB : OpR X (binaryOp .FloorDiv) (rI CDivB fun i j => .int (i.fdiv j)) := opI fun i j t u s Q E hc h => floordiv_int hc.1 h (.inl hc.ok)
def tDNewK : TE := fun _ H Q => ∀ p, H p = none → Q (.ref p) (upd H p (.dK []))
end
end L2

set_option Elab.async false
set_option linter.all false
set_option maxRecDepth 100000
namespace L2
open PySem PySem.Spec PyProof.Rows
structure Tx (K : PySem.W.Frag) (mg : Str → Option Value) (x : Str) (st : Stmt) (ps : List Str) (f : Addr) (fd : FuncData) : Prop where
  fn : Fun K x x st f fd
  at_ : mg x = some (.ref f)
  bd : ∀ us : List Value, us.length = ps.length → bindArgs fd ⟨us, []⟩ = pure (ps.zip us)
theorem tx_mk {K : PySem.W.Frag} {mg : Str → Option Value} {h : Heap} {x : Str} {st : Stmt} {ps : List Str} {f : Addr} {oc : Value} {od an : Option Addr} {osl : Array (Option Value)} {kV doc pm cdv ct : Value} (X : K.In h) (G : h.Ns mainGlobals mg)
    (a : PySem.W.nsIn K mainGlobals x = some (some (.ref f))) (l : K.lookup f = some ⟨oc, od, .func (PySem.W.fnOf x x (defArgs st) (defBody st) (defScope st) .none kV doc pm an cdv ct), osl⟩)
    (c : PySem.W.codeIn K cdv x = true) (k : PySem.W.keepIn K (.ref f) = true)
    (hb : ∀ (kV doc pm : Value) (an : Option Addr) (cdv ct : Value) (us : List Value), us.length = ps.length → bindArgs (PySem.W.fnOf x x (defArgs st) (defBody st) (defScope st) .none kV doc pm an cdv ct) ⟨us, []⟩ = pure (ps.zip us)) :
    ∃ f fd, Tx K mg x st ps f fd := ⟨f, _, fun_mk l c k, PySem.W.mg_of X G a, hb kV doc pm an cdv ct⟩
structure Df (P : Program) (w : World) (K : PySem.W.Frag) (mg : Str → Option Value) (base : Heap) (CX : CXT) (k : Nat) (x : Str) (ps : List Str) (sp : Sp) (f : Addr) (fd : FuncData) : Prop where
  at_ : mg x = some (.ref f)
  kp : PySem.W.keepIn K (.ref f) = true
  ok : FnOk P w K mg base CX k f fd ps sp
  bd : Binds K fd ps []
section
variable {P : Program} {w : World} {K : PySem.W.Frag} {mg : Str → Option Value} {base : Heap} {x : Str} {st : Stmt} {ps N : List Str} {f : Addr} {fd : FuncData} {k : Nat} {sp : Sp}
theorem Tx.df0 (t : Tx K mg x st ps f fd) (S : FnScope N ps (defScope st)) (len : ∀ vs H Q E, sp vs H Q E → vs.length = ps.length)
    (hbody : ∀ (cdv : Value) (A : Around) (outer : List Env) (s : Shared) (H : Hp) (vs : List V) (Q : VK) (E : XK), Room k (A.deeper (envOfC x (defScope st) s.heap.objs.size f cdv)) → sp vs H Q E →
      ∃ t, PSs (cxOf CX0 P w K mg base N x (defScope st) f cdv A outer s H E).nox (defBody st) t ∧ t { nx := fun _ H' => Q .non H', rt := Q } (start N vs) H) : Df P w K mg base CX0 (k + 1) x ps sp f fd :=
  ⟨t.at_, t.fn.kp, t.fn.ok S len hbody, .all t.bd⟩
theorem Tx.df1 (t : Tx K mg x st ps f fd) (S : FnScope N ps (defScope st)) (len : ∀ vs H Q E, sp vs H Q E → vs.length = ps.length)
    (hbody : ∀ (cdv : Value) (A : Around) (outer : List Env) (s : Shared) (H : Hp) (vs : List V) (Q : VK) (E : XK), Room k (A.deeper (envOfC x (defScope st) s.heap.objs.size f cdv)) → sp vs H Q E →
      ∃ t, PSs (cxOf (CX1 P w) P w K mg base N x (defScope st) f cdv A outer s H E) (defBody st) t ∧ t { nx := fun _ H' => Q .non H', rt := Q } (start N vs) H) : Df P w K mg base (CX1 P w) (k + 1) x ps sp f fd :=
  ⟨t.at_, t.fn.kp, t.fn.ok1 S len hbody, .all t.bd⟩
end
section
variable {X : Cx} {Ex : XS} {k j : Nat} {f : Addr} {fd : FuncData} {ps : List Str} {sp : Sp} {x : Str} {p pos : Pos} {e : Expr} {es : List Expr} {t : TA}
theorem pe_d0 (D : Df X.prog X.w X.K X.mg X.base CX0 k x ps sp f fd) (hr : Room j X.A) (hj : k ≤ j) (hg : Gl X x) (ha : PA X (e :: es) t) (hdb : (x == ("__debug__" : Str)) = false := by decide) (he : starEach (e :: es) X.env = (false, eval e X.env) :: starEach es X.env := by rfl) (hpl : (backTo pos (starEach es X.env)).any (·.1) = false := by rfl) :
    PE X (.Call (.Name x p) (e :: es) [] pos) (tCall sp [] E0 t) := pe_call D.ok (hr.mono hj) hg D.at_ D.kp D.bd .nil pass0 ha hdb he hpl
theorem pe_d1 (R : Pass X Ex) (D : Df X.prog X.w X.K X.mg X.base (CX1 X.prog X.w) k x ps sp f fd) (hr : Room j X.A) (hj : k ≤ j) (hg : Gl X x) (ha : PA X (e :: es) t) (hdb : (x == ("__debug__" : Str)) = false := by decide) (he : starEach (e :: es) X.env = (false, eval e X.env) :: starEach es X.env := by rfl) (hpl : (backTo pos (starEach es X.env)).any (·.1) = false := by rfl) :
    PE X (.Call (.Name x p) (e :: es) [] pos) (tCallX sp [] Ex t) := pe_callX R D.ok (hr.mono hj) hg D.at_ D.kp D.bd .nil ha hdb he hpl
end
theorem pass_no {X : Cx} : Pass X (fun _ _ _ => False) := ⟨fun _ _ _ _ _ _ _ _ _ _ q => q.elim⟩
theorem comp_itr {n : Nat} {σ0 : St} {H1 : Hp} {i0 : Nat} {c : TT} {te : TE} {Q : Addr → Hp → Prop} (f : Nat → Option V) (hn : n ≤ sizeLine)
    (step : ∀ (i : Nat) (H2 : Hp) (k : VK) (k0 : Hp → Prop), i < n → (∀ y, f i = some y → k y H2) → (f i = none → k0 H2) →
      c (σ0.set i0 (some (.int (0 + (i : Int))))) H2 fun b H4 => if b = true then te (σ0.set i0 (some (.int (0 + (i : Int))))) H4 k else k0 H4)
    (h : ∀ D, H1 D = none → Q D (upd H1 D (.lst ((List.range n).filterMap f)))) :
    ∀ D, H1 D = none → ∃ W : Nat → Nat → St → Hp → Prop, (∃ m, W 0 m σ0 (upd H1 D (.lst []))) ∧ ∀ i m σ1 H2, W i m σ1 H2 →
      ((Itr 0 n).stop i H2 ∧ Q D H2) ∨ ((Itr 0 n).go i H2 ∧ ∃ N : St → Hp → Prop, (∀ σ' H', N σ' H' → ∃ m', m' < m ∧ W (i + 1) m' σ' H') ∧
        ∀ x H', (Itr 0 n).yld i H2 x H' → gName i0 x σ1 H' fun σ2 H3 => c σ2 H3 fun b H4 => if b = true then te σ2 H4 fun y H5 => ∃ xs, H5 D = some (.lst xs) ∧ xs.length < sizeLine ∧ N σ2 (upd H5 D (.lst (xs ++ [y]))) else N σ2 H4) := by
  intro D hD
  refine ⟨fun i m σ1 H2 => σ1.set i0 none = σ0.set i0 none ∧ H2 = upd H1 D (.lst ((List.range i).filterMap f)) ∧ i ≤ n ∧ m = n - i, ⟨n, rfl, rfl, Nat.zero_le _, rfl⟩, ?_⟩
  rintro i m σ1 H2 ⟨hσ, rfl, hi, rfl⟩
  have hset : ∀ v : Option V, σ1.set i0 v = σ0.set i0 v := fun v => by
    have z := congrArg (fun l => List.set l i0 v) hσ
    simpa using z
  rcases Nat.lt_or_ge i n with hlt | hge
  · right
    refine ⟨hlt, fun σ' H' => σ'.set i0 none = σ0.set i0 none ∧ H' = upd H1 D (.lst ((List.range (i + 1)).filterMap f)), fun σ' H' ⟨a, b⟩ => ⟨n - (i + 1), by omega, a, b, hlt, rfl⟩, ?_⟩
    rintro x H' ⟨rfl, rfl⟩
    show c (σ1.set i0 (some (.int (0 + (i : Int))))) _ _
    rw [hset]
    refine step i _ _ _ hlt (fun y hy => ⟨_, upd_same, ?_, ?_, ?_⟩) fun hno => ⟨?_, ?_⟩
    · refine Nat.lt_of_le_of_lt (List.length_filterMap_le _ _) ?_
      rw [List.length_range]
      omega
    · simp
    · rw [upd_upd, List.range_succ, List.filterMap_append]
      simp [hy]
    · simp
    · rw [List.range_succ, List.filterMap_append]
      simp [hno]
  · left
    obtain rfl : i = n := Nat.le_antisymm hi hge
    exact ⟨Nat.le_refl _, h D hD⟩
theorem atI_in {α : Type} {xs : List α} {i : Int} (h0 : 0 ≤ i) (h1 : i < xs.length) : ∃ v, atI xs i = some v ∧ v ∈ xs := by
  have hn : i.toNat < xs.length := by omega
  refine ⟨xs[i.toNat], ?_, List.getElem_mem hn⟩
  have z := atI_nat (xs := xs) (j := i.toNat) (List.getElem?_eq_getElem hn)
  rw [Int.toNat_of_nonneg h0] at z
  exact z
theorem Same.upd_new {H : Hp} {p : Addr} {o : HO} (h : H p = none) : Same H (upd H p o) := fun b u e => by
  rw [upd_ne (ne_of_none e h)]
  exact e
theorem Same.ty {K : PySem.W.Frag} {H H' : Hp} {v : V} {t : Value} (s : Same H H') (h : TyOf K H v t) : TyOf K H' v t := by
  cases h with
  | non => exact .non
  | bl x => exact .bl x
  | int i => exact .int i
  | str x => exact .str x
  | flt x => exact .flt x
  | lst e => exact .lst (s _ _ e)
  | frz e => exact .frz (s _ _ e)
  | tup e => exact .tup (s _ _ e)
  | dK e => exact .dK (s _ _ e)
  | dT e => exact .dT (s _ _ e)
  | ins e cl ha hn htk hm => exact .ins (s _ _ e) cl ha hn htk hm

theorem bt_isi : bootBuiltins "isinstance" = some (.builtin "isinstance") := by decide +kernel
theorem bt_int : bootBuiltins "int" = some (.type "int") := by decide +kernel
theorem bt_bool : bootBuiltins "bool" = some (.type "bool") := by decide +kernel
theorem bt_list : bootBuiltins "list" = some (.type "list") := by decide +kernel
theorem bt_tuple : bootBuiltins "tuple" = some (.type "tuple") := by decide +kernel
theorem bt_len : bootBuiltins "len" = some (.builtin "len") := by decide +kernel
theorem bt_abs : bootBuiltins "abs" = some (.builtin "abs") := by decide +kernel
theorem exc_mk {K : PySem.W.Frag} {C : Addr} (h2 : PySem.W.typeIn K (.ref C) = some (.type "type")) (h3 : PySem.W.findIn K (.ref C) "__getattribute__" = some (some (.builtin "BaseException.__getattribute__"))) (h4 : PySem.W.findIn K (.ref C) "__getattr__" = some none)
    (h5 : PySem.W.findIn K (.ref C) "__class__" = some (some (.builtin "object.__class__"))) (h6 : PySem.W.specialIn K (.builtin "object.__class__") "__get__" = some (some (.builtin "getset_descriptor.__get__"))) (h7 : PySem.W.takesIn K (.builtin "object.__class__") = some true)
    (h8 : PySem.W.mroIn K C (.type "object") = some true) (h9 : PySem.W.mroIn K C (.type "BaseException") = some true) : ExcCls K C := by
  refine ⟨?_, h2, h3, h4, h5, h6, h7, h8, h9⟩
  unfold PySem.W.mroIn at h8
  obtain ⟨cd, a, _⟩ := Option.bind_eq_some_iff.mp h8
  rw [a]
  rfl
inductive Kd : String → Prop where
  | non : Kd "NoneType"
  | bl : Kd "bool"
  | int : Kd "int"
  | str : Kd "str"
  | tup : Kd "tuple"
  | lst : Kd "list"
  | dic : Kd "dict"
theorem Kd.int_ (K : PySem.W.Frag) {T : String} (h : Kd T) : PySem.W.kitOne K (.type T) (.type "int") = some (T == "int" || T == "bool") := by
  cases h <;> rfl
theorem Kd.bool_ (K : PySem.W.Frag) {T : String} (h : Kd T) : PySem.W.kitOne K (.type T) (.type "bool") = some (T == "bool") := by
  cases h <;> rfl
theorem Kd.list_ (K : PySem.W.Frag) {T : String} (h : Kd T) : PySem.W.kitOne K (.type T) (.type "list") = some (T == "list") := by
  cases h <;> rfl
theorem Kd.tuple_ (K : PySem.W.Frag) {T : String} (h : Kd T) : PySem.W.kitOne K (.type T) (.type "tuple") = some (T == "tuple") := by
  cases h <;> rfl
def isI : V → Bool
  | .int _ => true
  | _ => false
structure Pl (K : PySem.W.Frag) (H : Hp) (v : V) : Prop where
  ex : ∃ T, TyOf K H v (.type T) ∧ Kd T
theorem Pl.int {K : PySem.W.Frag} {H : Hp} (i : Int) : Pl K H (.int i) := ⟨_, .int i, .int⟩
theorem Pl.isI {K : PySem.W.Frag} {H : Hp} {v : V} {T : String} (h : TyOf K H v (.type T)) : isI v = (T == "int") := by
  cases h <;> rfl
theorem Pl.same {K : PySem.W.Frag} {H H' : Hp} {v : V} (h : Pl K H v) (s : Same H H') : Pl K H' v := let ⟨T, a, b⟩ := h.ex; ⟨T, s.ty a, b⟩
def inB (lo hi : Int) : V → Bool
  | .int i => decide (lo ≤ i) && decide (i ≤ hi)
  | _ => false
end L2

set_option Elab.async false
set_option linter.all false
set_option maxRecDepth 100000
namespace L2
open PySem PySem.Spec PyProof.Rows
section
variable {X : Cx} {pins : List (Addr × Obj)} {σ : St} {H H' : Hp} {s : Shared} {h' : Heap}
theorem Inv.turnedL {t' : Nat} {fp : List Addr} (I : Inv X pins σ H s) (k : ∀ b o, b ∉ fp → s.heap.get? b = some o → h'.get? b = some o) (hf : ∀ b ∈ fp, FpOk X pins H b) : Inv X pins σ H { s with heap := h', toks := t' } := by
  have nit : ∀ b u, H b = some u → b ∉ fp := fun b u e z => by rw [(hf b z).1] at e; cases e
  refine I.step (g' := s.gens) (d' := s.drawn) (ch := fp) (fun b hb => ?_) (fun b o _ _ hc e _ => k b o hc e) (fun b o _ _ hc e _ => ⟨o.slots, k b o hc e⟩) (fun _ _ _ _ n => n)
    (fun b o hc e => ⟨o, k b o hc e⟩) (fun _ _ e => e) (fun _ _ _ e => e) (fun b ps e => ⟨#[], by rw [e]; simp⟩) (fun m hm => ?_) (fun b u e => ?_) I.bare
  · obtain ⟨_, f1, _, f3, f4, f5⟩ := hf b hb
    exact ⟨f3, f1, f4, f5⟩
  · obtain ⟨o, es, ep, ho, r⟩ := hm
    exact ⟨o, es, ep, k _ o (fun z => (hf _ z).2.1 rfl) ho, r⟩
  · refine (I.hok b u e).stay (fun c v hc q => k c v ?_ q) (fun _ q => q) fun _ _ q => q
    rcases hc with z | z
    · rw [z]; exact nit b u e
    · exact nit c _ z
end
def Itz (K : PySem.W.Frag) (l1 l2 : Addr) : It :=
  ⟨fun i H => ∃ xs ys x y, SqL K H l1 xs ∧ SqL K H l2 ys ∧ xs[i]? = some x ∧ ys[i]? = some y,
   fun i H v H' => ∃ t x y, v = .ref t ∧ H t = none ∧ H' = upd H t (.tup [x, y]) ∧ (∀ xs, SqL K H l1 xs → xs[i]? = some x) ∧ ∀ ys, SqL K H l2 ys → ys[i]? = some y,
   fun i H => ∃ xs ys, SqL K H l1 xs ∧ SqL K H l2 ys ∧ (xs.length ≤ i ∨ ys.length ≤ i)⟩
def zipTn (z TI TO i1 i2 l1 l2 : Addr) (i : Nat) (h : Heap) : Prop :=
  IsZip h z TI TO .none ∧ IsPair h TI (.ref i1) (.ref i2) ∧ (∃ a b, IsPair h TO a b) ∧ h.IsListIter i1 l1 i ∧ h.IsListIter i2 l2 i
theorem turn_zip {P : Program} {w : World} {K : PySem.W.Frag} {elts : List Expr} {x1} {pos : Pos} {z TI TO i1 i2 l1 l2 : Addr} (D : ZipApart z TI TO i1 i2 l1 l2) :
    Turn P w K (.Tuple elts x1 pos) (Itz K l1 l2) [z, TI, TO, i1, i2] z (zipTn z TI TO i1 i2 l1 l2) where
  mem := by simp
  obj := fun i h ⟨hz, hTI, ⟨a, b, hTO⟩, ⟨o1, h1, _, d1⟩, ⟨o2, h2, _, d2⟩⟩ b hb => by
    simp only [List.mem_cons, List.not_mem_nil, or_false] at hb
    rcases hb with rfl | rfl | rfl | rfl | rfl
    · exact ⟨_, hz, fun v q => nomatch q⟩
    · exact ⟨_, hTI, fun v q => nomatch q⟩
    · exact ⟨_, hTO, fun v q => nomatch q⟩
    · exact ⟨_, h1, fun v q => by rw [d1] at q; cases q⟩
    · exact ⟨_, h2, fun v q => by rw [d2] at q; cases q⟩
  keep := fun i h h' ⟨hz, hTI, ⟨a, b, hTO⟩, h1, h2⟩ k => ⟨k z (by simp) _ hz, k TI (by simp) _ hTI, ⟨a, b, k TO (by simp) _ hTO⟩, h1.at fun o e => k i1 (by simp) o e, h2.at fun o e => k i2 (by simp) o e⟩
  item := by
    intro X hP hw hK hc i pins s σ H E I hf st hg
    subst hP hw hK
    obtain ⟨hz, hTI, ⟨a, b, hTO⟩, h1, h2⟩ := st
    obtain ⟨xs, ys, x, y, q1, q2, hx, hy⟩ := hg
    obtain ⟨its1, r1, p1, z1⟩ := I.list q1
    obtain ⟨its2, r2, p2, z2⟩ := I.list q2
    obtain ⟨u, hu, ru⟩ := r1.get hx
    obtain ⟨v, hv, rv⟩ := r2.get hy
    refine wpAny_pyNext_zip_item D hz hTI hTO h1 h2 p1.isList p2.isList (by simpa using hu) (by simpa using hv) fun h' a1 a2 a3 a4 a5 a6 a7 => ⟨_, rfl, ?_⟩
    refine wpAny_letOwnedTupleGo_zip a1 fun h'' b1 hs => ?_
    have lt : ∀ c o, s.heap.get? c = some o → c ≠ s.heap.objs.size := fun c o e => Nat.ne_of_lt (Heap.lt_size e)
    have ltz : s.heap.objs.size ≠ z := (lt z _ hz).symm
    have I1 : Inv X pins σ H { s with heap := h'' } := I.turnedL (t' := s.toks) (fun c o hb e => (hs.2 c (fun q => hb (by simp [q]))).trans (a7 c o (fun q => hb (by simp [q])) (fun q => hb (by simp [q])) (fun q => hb (by simp [q])) (fun q => hb (by simp [q])) e)) hf
    have ht : h''.get? s.heap.objs.size = some { cls := .type "tuple", data := .seq #[u, v] } := (hs.2 _ ltz).trans a5
    have hn : H s.heap.objs.size = none := I.hok.fresh (Nat.le_refl _)
    have I2 : Inv X pins σ (upd H s.heap.objs.size (.tup [x, y])) { s with heap := h'' } := by
      refine I1.track hn (Heap.get?_none_of_le I.sz) (Nat.ne_of_lt I.lt).symm (fun y c q => ?_) (fun p hp => ?_) (I.nofs (Nat.le_refl _)) ⟨by show 2 ≤ sizeLine; decide, [u, v], .cons ru (.cons rv .nil), _, ht, rfl, _, rfl⟩
      · obtain ⟨_, o, ho, _⟩ := I.cell y c q
        exact lt c o ho
      · exact lt _ _ (I.pin p hp).1
    refine ⟨.ref s.heap.objs.size, _, I2, rfl, ⟨_, x, y, rfl, hn, rfl, fun xs' q => ?_, fun ys' q => ?_⟩, ⟨b1, (hs.2 _ D.TIz).trans (a7 _ _ D.TIz D.TITO D.TIi1 D.TIi2 hTI), ⟨_, _, (hs.2 _ D.TOz).trans a2⟩, a3.at fun o e => (hs.2 _ D.i1z).trans e, a4.at fun o e => (hs.2 _ D.i2z).trans e⟩, fun c hb => ?_⟩
    · rw [I.list_inj q q1]; exact hx
    · rw [I.list_inj q q2]; exact hy
    · obtain ⟨o, ho, _⟩ : ∃ o, s.heap.get? c = some o ∧ True := by
        simp only [List.mem_cons, List.not_mem_nil, or_false] at hb
        rcases hb with rfl | rfl | rfl | rfl | rfl
        · exact ⟨_, hz, trivial⟩
        · exact ⟨_, hTI, trivial⟩
        · exact ⟨_, hTO, trivial⟩
        · obtain ⟨o, ho, _⟩ := h1; exact ⟨o, ho, trivial⟩
        · obtain ⟨o, ho, _⟩ := h2; exact ⟨o, ho, trivial⟩
      rw [upd_ne (lt c o ho)]
      exact (hf c hb).1
  done := by
    intro X hP hw hK hc i pins s σ H E I hf st hg
    subst hP hw hK
    obtain ⟨hz, hTI, ⟨a, b, hTO⟩, h1, h2⟩ := st
    obtain ⟨xs, ys, q1, q2, hend⟩ := hg
    obtain ⟨its1, r1, p1, z1⟩ := I.list q1
    obtain ⟨its2, r2, p2, z2⟩ := I.list q2
    refine wpAny_pyNext_zip_end (I.ok.hd hc) D hz hTI hTO h1 h2 p1.isList p2.isList ?_ fun h' k => ⟨rfl, I.turnedL (t' := s.toks) (fun c o hb e => k c o (fun q => hb (by simp [q])) (fun q => hb (by simp [q])) (fun q => hb (by simp [q])) (fun q => hb (by simp [q])) e) hf⟩
    have e1 := r1.length
    have e2 := r2.length
    rcases hend with h | h
    · left
      simp
      omega
    · right
      simp
      omega
  self := fun _ _ _ _ _ st h => wpAny_pyIter_zip st.1 h

def iZip (K : PySem.W.Frag) (ta : TA) : TI := fun σ H R => ta σ H fun vs H1 => ∃ l1 l2, vs = [.ref l1, .ref l2] ∧ (∃ xs, SqL K H1 l1 xs) ∧ (∃ ys, SqL K H1 l2 ys) ∧ R (Itz K l1 l2) H1
theorem bt_zip : bootBuiltins "zip" = some (.type "zip") := by decide +kernel
theorem pi_zip {X : Cx} {elts : List Expr} {x1} {tpos : Pos} {a b : Expr} {ta : TA} {p pos : Pos} (hg : Gl X "zip") (hm : X.mg "zip" = none) (ha : PA X [a, b] ta) (hs : starEach [a, b] X.env = [(false, eval a X.env), (false, eval b X.env)] := by rfl) (hs2 : starEach [b] X.env = [(false, eval b X.env)] := by rfl) :
    PI X (.Tuple elts x1 tpos) (.Call (.Name "zip" p) [a, b] [] pos) (iZip X.K ta) := by
  intro pins s σ H R I h
  refine Call_ (ld_blt I hg hm bt_zip (PyProof.Rows.callWith_type1 (thn (ha pos pins s σ H _ I h) fun us s1 ⟨vs, H1, I1, r1, q1⟩ => ?_) (by rw [hs, hs2]) (by rw [hs2]; rfl)))
  obtain ⟨l1, l2, e, ⟨xs, q1⟩, ⟨ys, q2⟩, q⟩ := q1
  subst e
  obtain ⟨u, v, rfl, ru, rv⟩ := vals2 r1
  cases (show u = Value.ref l1 from ru)
  cases (show v = Value.ref l2 from rv)
  obtain ⟨its1, r1, p1, z1⟩ := I1.list q1
  obtain ⟨its2, r2, p2, z2⟩ := I1.list q2
  have t1 : l1 < s1.heap.objs.size := by obtain ⟨o, ho, _⟩ := p1.isList; exact Heap.lt_size ho
  have t2 : l2 < s1.heap.objs.size := by obtain ⟨o, ho, _⟩ := p2.isList; exact Heap.lt_size ho
  refine call_zip_2 p1.isList p2.isList fun h' hz hTI hTO hi1 hi2 hsz hk => ?_
  refine wpAny_pyIter_zip hz ?_
  have I2 : Inv X pins σ H1 { s1 with heap := h' } := I1.kept (t' := s1.toks) hk
  refine ⟨_, [s1.heap.objs.size + 4, s1.heap.objs.size + 2, s1.heap.objs.size + 3, s1.heap.objs.size, s1.heap.objs.size + 1], _, _, H1, rfl, I2, turn_zip (zipApart_new t1 t2), ⟨hz, hTI, ⟨_, _, hTO⟩, hi1, hi2⟩, fun c hc => ?_, q⟩
  have hge : s1.heap.objs.size ≤ c := by
    simp only [List.mem_cons, List.not_mem_nil, or_false] at hc
    rcases hc with h | h | h | h | h
    all_goals first | (rw [h]; exact Nat.le_add_right _ _) | exact Nat.le_of_eq h.symm
  have := I1.fpOk (H' := H1) hge (I1.hok.fresh hge)
  exact this
theorem for_zip {K : PySem.W.Frag} {l1 l2 : Addr} {xs ys : List V} {g : TG} {tb : TS} {D : Ends} {σ : St} {H : Hp} (Pv : Nat → St → Hp → Prop) (h0 : Pv 0 σ H) (hl : ∀ i σ H, i ≤ xs.length → Pv i σ H → SqL K H l1 xs ∧ SqL K H l2 ys) (hlen : xs.length = ys.length)
    (hs : ∀ i x y t σ H, xs[i]? = some x → ys[i]? = some y → H t = none → Pv i σ H → g (.ref t) σ (upd H t (.tup [x, y])) fun σ2 H2 => tb { D with nx := Pv (i + 1), ct := Pv (i + 1), bk := D.nx } σ2 H2) (hd : ∀ σ H, Pv xs.length σ H → D.nx σ H) :
    ∃ W : Nat → Nat → St → Hp → Prop, (∃ m, W 0 m σ H) ∧ ∀ i m σ H, W i m σ H →
      ((Itz K l1 l2).stop i H ∧ D.nx σ H) ∨ ((Itz K l1 l2).go i H ∧ ∃ N : St → Hp → Prop, (∀ σ' H', N σ' H' → ∃ m', m' < m ∧ W (i + 1) m' σ' H') ∧ ∀ x H', (Itz K l1 l2).yld i H x H' → g x σ H' fun σ2 H2 => tb { D with nx := N, ct := N, bk := D.nx } σ2 H2) := by
  refine ⟨fun i m σ H => Pv i σ H ∧ i ≤ xs.length ∧ m = xs.length - i, ⟨_, h0, Nat.zero_le _, rfl⟩, ?_⟩
  rintro i m σ H ⟨hp, hi, rfl⟩
  obtain ⟨q1, q2⟩ := hl i σ H hi hp
  rcases Nat.lt_or_ge i xs.length with hlt | hge
  · right
    obtain ⟨x, hx⟩ : ∃ x, xs[i]? = some x := ⟨_, List.getElem?_eq_getElem hlt⟩
    obtain ⟨y, hy⟩ : ∃ y, ys[i]? = some y := ⟨_, List.getElem?_eq_getElem (hlen ▸ hlt)⟩
    refine ⟨⟨xs, ys, x, y, q1, q2, hx, hy⟩, Pv (i + 1), fun σ' H' h => ⟨_, Nat.sub_lt_sub_left hlt (Nat.lt_succ_self _), h, hlt, rfl⟩, ?_⟩
    rintro v H' ⟨t, x', y', rfl, hn, rfl, e1, e2⟩
    have e1' := e1 xs q1
    have e2' := e2 ys q2
    rw [hx] at e1'
    rw [hy] at e2'
    cases e1'
    cases e2'
    exact hs i x y t σ H hx hy hn hp
  · left
    obtain rfl : i = xs.length := Nat.le_antisymm hi hge
    exact ⟨⟨xs, ys, q1, q2, .inl (Nat.le_refl _)⟩, hd σ H hp⟩
end L2

set_option Elab.async false
set_option linter.all false
set_option maxRecDepth 100000
namespace L2
open PySem PySem.Spec PyProof.Rows
@[reducible] def calmA (A : Around) : Around := { A with handled := none }
structure RoomU (k : Nat) (A : Around) : Prop where
  dp : A.depth + 3 * k + 5 < recursionLimit
  un : A.units + 16 * k + 200 < cLine
structure FnOkU (P : Program) (w : World) (K : PySem.W.Frag) (mg : Str → Option Value) (base : Heap) (k : Nat) (f : Addr) (fd : FuncData) (ps : List Str) (sp : Sp) : Prop where
  len : ∀ vs H Q E, sp vs H Q E → vs.length = ps.length
  run : ∀ (A : Around) (outer : List Env) (s : Shared) (H : Hp) (args : Args) (us : List Value) (vs : List V) (Q : VK) (E : XK), RoomU k A → Env0 P w K mg base A outer s H → BindsTo s fd args (ps.zip us) → Vals vs us → sp vs H Q E →
    codeAny (model P w) A (.call (.ref f) args) (CR CX0 outer P w H s Q E) s
def cxU (P : Program) (w : World) (K : PySem.W.Frag) (mg : Str → Option Value) (base : Heap) (N : List Str) (qual : Str) (scope : Scope) (f : Addr) (cd : Value) (A : Around) (outer : List Env) (s : Shared) (H : Hp) : Cx :=
  { cxOf CX0 P w K mg base N qual scope f cd A outer s H E0 with calm := false, xe := fun _ _ => False }
structure DfU (P : Program) (w : World) (K : PySem.W.Frag) (mg : Str → Option Value) (base : Heap) (k : Nat) (x : Str) (ps : List Str) (sp : Sp) (f : Addr) (fd : FuncData) : Prop where
  at_ : mg x = some (.ref f)
  kp : PySem.W.keepIn K (.ref f) = true
  ok : FnOkU P w K mg base k f fd ps sp
  bd : Binds K fd ps []
section
variable {X : Cx} {k j : Nat} {f : Addr} {fd : FuncData} {ps : List Str} {sp : Sp} {x : Str} {p pos : Pos} {e : Expr} {es : List Expr} {t : TA}
end
end L2

set_option Elab.async false
set_option linter.all false
set_option maxRecDepth 100000
namespace L2
open PySem PySem.Spec PyProof.Rows PySem.W PySem.Calls
def Sm (n : Nat) (i : Int) : Prop := i.natAbs < 2 ^ n
theorem if_joinN {i : Nat} {v : V} {c : TT} {t e u : TS} {D : Ends} {σ : St} {H : Hp} (P : St → Hp → Prop) (hk : ∀ σ H, P σ H → u D σ H) (h : (∀ σ H, P σ H → u D σ H) → tIfS c t e { D with nx := u D } (σ.set i (some v)) H) : gName i v σ H (tSeq (tIfS c t e) u D) := h hk
theorem Sm.mono {i : Int} {a b : Nat} (h : Sm a i) (hab : a ≤ b) : Sm b i := Nat.lt_of_lt_of_le h (Nat.pow_le_pow_right (by decide) hab)
theorem Sm.le {i j : Int} {a : Nat} (h : Sm a i) (hij : j.natAbs ≤ i.natAbs) : Sm a j := Nat.lt_of_le_of_lt hij h
theorem Sm.mul {i j : Int} {a b : Nat} (h1 : Sm a i) (h2 : Sm b j) : Sm (a + b) (i * j) := by
  unfold Sm at *
  rw [Int.natAbs_mul, Nat.pow_add]
  exact Nat.mul_lt_mul'' h1 h2
theorem Sm.add {i j : Int} {a : Nat} (h1 : Sm a i) (h2 : Sm a j) : Sm (a + 1) (i + j) := by
  unfold Sm at *
  have e : 2 ^ (a + 1) = 2 ^ a * 2 := Nat.pow_succ ..
  omega
theorem Sm.sub {i j : Int} {a : Nat} (h1 : Sm a i) (h2 : Sm a j) : Sm (a + 1) (i - j) := by
  unfold Sm at *
  have e : 2 ^ (a + 1) = 2 ^ a * 2 := Nat.pow_succ ..
  omega
theorem Sm.fdiv {i d : Int} {a : Nat} (h : Sm a i) : Sm a (i.fdiv d) := h.le (Int.natAbs_fdiv_le_natAbs i d)
theorem Sm.zero {n : Nat} : Sm n 0 := Nat.two_pow_pos _
theorem Sm.of {i : Int} (a : Nat) {b : Nat} (h : i.natAbs < 2 ^ a) (hab : a ≤ b) : Sm b i := Sm.mono (a := a) h hab
theorem Sm.mb {i j : Int} {m n : Nat} (h1 : Sm m i) (h2 : Sm n j) (hm : m ≤ 2000000 := by decide) (hn : n ≤ 2000000 := by decide) : CMulB i j := .inr ⟨h1.mono hm, h2.mono hn⟩
theorem Sm.db {i j : Int} {m : Nat} (h0 : j ≠ 0) (h1 : Sm m j) (hm : m ≤ 8000 := by decide) : CDivB i j := ⟨h0, h1.mono hm⟩
end L2

set_option Elab.async false
set_option linter.all false
set_option maxRecDepth 100000
namespace PySem.SeqAt
open AutoSeq1 (wpAny_loadPart')
open MeetsSeq MeetsSeq2 MeetsSeq3 SeqRoads2
theorem wpAny_forIn_rng {M : Model} {A : Around} {E : Value → Shared → Prop} {s : Shared} {β : Type} (f : Nat → β → Sem (ForInStep β)) (I : Nat → β → Shared → Prop) (Q : β → Shared → Prop) (n : Nat)
    (turn : ∀ i b s, i < n → I i b s → wpAny M A (f i b) (fun r s' => match r with | .yield b' => I (i + 1) b' s' | .done b' => Q b' s') E s)
    (fin : ∀ b s, I n b s → Q b s) (b : β) (h : I 0 b s) : wpAny M A (forIn [0:n] b f) Q E s := by
  rw [Std.Legacy.Range.forIn_eq_forIn_range']
  refine wpAny_forIn_list f (fun rest b s => ∃ i, i ≤ n ∧ rest = List.range' i (n - i) ∧ I i b s) Q ?_ ?_ _ b ⟨0, Nat.zero_le _, ?_, h⟩
  · rintro x rest b s ⟨i, hi, hr, hI⟩
    have hlt : i < n := by
      rcases Nat.lt_or_ge i n with z | z
      · exact z
      · rw [show n - i = 0 by omega] at hr; cases hr
    obtain ⟨k, hk⟩ : ∃ k, n - i = k + 1 := ⟨n - i - 1, by omega⟩
    rw [hk, List.range'_succ] at hr
    obtain ⟨rfl, rfl⟩ := List.cons.inj hr
    refine wpAny_mono (turn x b s hlt hI) (fun r s' hr => ?_) fun _ _ z => z
    cases r with
    | done b' => exact hr
    | yield b' => exact ⟨x + 1, hlt, by rw [show n - (x + 1) = k by omega], hr⟩
  · rintro b s ⟨i, hi, hr, hI⟩
    have : i = n := by
      rcases Nat.lt_or_ge i n with z | z
      · obtain ⟨k, hk⟩ : ∃ k, n - i = k + 1 := ⟨n - i - 1, by omega⟩
        rw [hk, List.range'_succ] at hr; cases hr
      · omega
    subst this
    exact fin _ _ hI
  · simp [Std.Legacy.Range.size]
theorem tuple_indexAt (l : Addr) (items : Array Value) (n : Nat) (dd : Option Addr) (sl : Array (Option Value)) (x : Value) (e : Value → Bool) (j : Nat) (hj : j < items.size)
    (hit : e items[j] = true) (hno : ∀ m (hm : m < items.size), m < j → e items[m] = false) :
    Meets (Builtin.«tuple.index» ⟨[.ref l, x], []⟩)
      (fun A R s => s.heap.get? l = some { cls := .type "tuple", dict := dd, data := .seq items n, slots := sl } ∧ (∀ y, y ∈ items → EqAt A.in1 s y x (e y)) ∧ R (.ok (.ret (.int (j : Nat) s.toks))) { s with toks := s.toks + 1 }) :=
  .of_wp fun prog w A R s h => by
    obtain ⟨hp, g, d, tk, os⟩ := s; obtain ⟨hl, he, h⟩ := h
    wp_walk using wpAny_loadPart' hl, wpAny_forIn_rng _ (fun i b s' => b.1 = none ∧ s' = ⟨hp, g, d, tk, os⟩ ∧ i ≤ j) _ _
    case turn =>
      rintro i b s' hi ⟨hb, rfl, hij⟩
      have hi' : i < items.size := by omega
      rw [Array.getElem?_eq_getElem hi']
      refine wpAny_bind (he _ (Array.getElem_mem hi') prog w _ _ ?_)
      rcases Nat.lt_or_ge i j with z | z
      · rw [hno i hi' z]
        wp_walk
        exact ⟨rfl, rfl, z⟩
      · obtain rfl : i = j := by omega
        rw [hit]
        wp_walk
        exact ⟨_, rfl, h⟩
    case fin =>
      rintro ⟨b1, b2⟩ s' ⟨hb, rfl, hij⟩
      omega
    case h =>
      exact ⟨rfl, rfl, Nat.zero_le _⟩
end PySem.SeqAt
namespace L2
open PySem PySem.Spec PyProof.Rows
theorem Same.sqt {K : PySem.W.Frag} {H H' : Hp} {a : Addr} {xs : List V} (e : Same H H') (h : SqT K H a xs) : SqT K H' a xs := by
  rcases h with (h | ⟨o, h⟩) | h
  · exact .inl (.inl (e _ _ h))
  · exact .inl (.inr ⟨o, e _ _ h⟩)
  · exact .inr h
theorem Same.upd_ne' {H H' : Hp} {D : Addr} {o : HO} (s : Same H H') (h : H D = none) : Same H (upd H' D o) := fun b u e => by
  rw [upd_ne (ne_of_none e h)]
  exact s b u e
theorem fm_mapV {α β : Type} (F : α → β) : ∀ xs : List α, ((List.range xs.length).filterMap fun i => (xs[i]?).bind fun x => some (F x)) = xs.map F
  | [] => rfl
  | x :: r => by
    rw [List.length_cons, List.range_succ_eq_map, List.filterMap_cons, List.filterMap_map]
    show F x :: _ = F x :: r.map F
    rw [← fm_mapV F r]
    rfl
theorem fm_bind {α β : Type} (f : α → Option β) : ∀ xs : List α, ((List.range xs.length).filterMap fun i => (xs[i]?).bind f) = xs.filterMap f
  | [] => rfl
  | x :: r => by
    rw [List.length_cons, List.range_succ_eq_map, List.filterMap_cons, List.filterMap_map, List.filterMap_cons, ← fm_bind f r]
    rfl
def SameBut (x : Addr) (H H' : Hp) : Prop := ∀ b o, b ≠ x → H b = some o → H' b = some o
theorem Same.but {H H' : Hp} (s : Same H H') (x : Addr) : SameBut x H H' := fun b o _ e => s b o e
theorem SameBut.then {x : Addr} {H H1 H2 : Hp} (a : SameBut x H H1) (b : Same H1 H2) : SameBut x H H2 := fun c o n e => b c o (a c o n e)
theorem SameBut.updx {x : Addr} {H H1 : Hp} (a : SameBut x H H1) (u : HO) : SameBut x H (upd H1 x u) := fun c o n e => by rw [upd_ne n]; exact a c o n e
theorem SameBut.made {x dx : Addr} {H H' : Hp} {C : Addr} (hx : H x = none) (hd : H dx = none) (ne : dx ≠ x) (s : SameBut x (upd (upd H dx (.own x)) x (.ins C dx [])) H') : Same H H' := fun b o e => by
  have n1 : b ≠ x := ne_of_none e hx
  have n2 : b ≠ dx := ne_of_none e hd
  exact s b o n1 (by rw [upd_ne n1, upd_ne n2]; exact e)
theorem FnOk.up {P : Program} {w : World} {K : PySem.W.Frag} {mg : Str → Option Value} {base : Heap} {k : Nat} {f : Addr} {fd : FuncData} {ps : List Str} {sp : Sp} (F : FnOk P w K mg base CX0 k f fd ps sp) : FnOk P w K mg base (CX1 P w) k f fd ps sp :=
  ⟨F.len, fun A outer s H args us vs Q E hr he hb hv hs => codeAny_mono (F.run A outer s H args us vs Q E hr he hb hv hs) fun r s' h => by
    cases r with
    | error e => exact False.elim h
    | ok fl => cases fl <;> exact h⟩
structure Mx (K : PySem.W.Frag) (x qual : Str) (st : Stmt) (ps : List Str) (f : Addr) (fd : FuncData) : Prop where
  fn : Fun K x qual st f fd
  bd : ∀ us : List Value, us.length = ps.length → bindArgs fd ⟨us, []⟩ = pure (ps.zip us)
theorem mx_mk {K : PySem.W.Frag} {x qual : Str} {st : Stmt} {ps : List Str} {f : Addr} {oc : Value} {od an : Option Addr} {osl : Array (Option Value)} {kV doc pm cdv ct : Value}
    (l : K.lookup f = some ⟨oc, od, .func (PySem.W.fnOf x qual (defArgs st) (defBody st) (defScope st) .none kV doc pm an cdv ct), osl⟩)
    (c : PySem.W.codeIn K cdv qual = true) (k : PySem.W.keepIn K (.ref f) = true)
    (hb : ∀ (kV doc pm : Value) (an : Option Addr) (cdv ct : Value) (us : List Value), us.length = ps.length → bindArgs (PySem.W.fnOf x qual (defArgs st) (defBody st) (defScope st) .none kV doc pm an cdv ct) ⟨us, []⟩ = pure (ps.zip us)) :
    ∃ fd, Mx K x qual st ps f fd := ⟨_, fun_mk l c k, hb kV doc pm an cdv ct⟩
structure Md (P : Program) (w : World) (K : PySem.W.Frag) (mg : Str → Option Value) (base : Heap) (k : Nat) (ps : List Str) (sp : Sp) (f : Addr) : Prop where
  ex : ∃ fd, FnOk P w K mg base (CX1 P w) k f fd ps sp ∧ Binds K fd ps []
section
variable {P : Program} {w : World} {K : PySem.W.Frag} {mg : Str → Option Value} {base : Heap} {x qual : Str} {st : Stmt} {ps N : List Str} {f : Addr} {fd : FuncData} {k j : Nat} {sp sp' : Sp}
theorem Mx.md0 (t : Mx K x qual st ps f fd) (S : FnScope N ps (defScope st)) (len : ∀ vs H Q E, sp vs H Q E → vs.length = ps.length)
    (hbody : ∀ (cdv : Value) (A : Around) (outer : List Env) (s : Shared) (H : Hp) (vs : List V) (Q : VK) (E : XK), Room k (A.deeper (envOfC qual (defScope st) s.heap.objs.size f cdv)) → sp vs H Q E →
      ∃ t, PSs (cxOf CX0 P w K mg base N qual (defScope st) f cdv A outer s H E).nox (defBody st) t ∧ t { nx := fun _ H' => Q .non H', rt := Q } (start N vs) H) : Md P w K mg base (k + 1) ps sp f :=
  ⟨fd, (t.fn.ok S len hbody).up, .all t.bd⟩
end
structure CMeth (K : PySem.W.Frag) (C : Addr) (m : Str) (f : Addr) : Prop where
  ga : PySem.W.specialIn K (.ref C) "__getattribute__" = some (some (.builtin "type.__getattribute__"))
  rd : PySem.W.readsIn K C (.type "type") = true
  at_ : PySem.W.findCls K (.ref C) (.type "type") m = some (.val (.ref f))
  kp : PySem.W.keepIn K (.ref f) = true
section
variable {X : Cx} {Ex : XS} {k j : Nat} {f C : Addr} {ps : List Str} {sp : Sp} {x m : Str} {p pos apos : Pos} {e o : Expr} {es : List Expr} {ta : TE} {t : TA}
def tMethX (K : PySem.W.Frag) (MO : Addr → Sp → Prop) (m : Str) (Ex : XS) (ta : TE) (t : TA) : TE := fun σ H Q => ta σ H fun x H1 => ∃ a C dx fs g sp, x = .ref a ∧ H1 a = some (.ins C dx fs) ∧ fs.lookup m = none ∧ Cls K C ∧ Meth K C m g ∧ MO g sp ∧
  t σ H1 fun vs H2 => sp (x :: vs) H2 Q fun c _ H' => Ex c σ H'
theorem pe_methX {pl : Sem Bool} (R : Pass X Ex) (he : PE X o ta) (hr : Room j X.A) (hj : k ≤ j) (ha : PA X (e :: es) t)
    (hst : starEach (e :: es) X.env = (false, eval e X.env) :: starEach es X.env := by rfl) (hpl : (backTo pos (starEach es X.env)).any (·.1) = false := by rfl)
    (ht : eval (.Call (.Attribute o m apos) (e :: es) [] pos) X.env = (do
      let ov ← eval o X.env
      standAt apos.atName
      let (f, first) ← holding [ov] (getMethod ov m pl)
      callWith pos f first (backTo pos (starEach (e :: es) X.env)) (backToKw pos (keywordEach [] X.env))) := by rfl) :
    PE X (.Call (.Attribute o m apos) (e :: es) [] pos) (tMethX X.K (fun g sp => ∃ ps, Md X.prog X.w X.K X.mg X.base k ps sp g) m Ex ta t) := by
  intro pins s σ H Q I h
  refine PySem.W.methodCall_KW (pl := pl) (thn (he pins s σ H _ I h) fun u s1 ⟨x, H1, I1, rx, a, C, dx, fs, g, sp, ex, ea, l, c, hm, ⟨ps, F⟩, q⟩ => ?_) ht
  subst ex
  obtain rfl : u = Value.ref a := rx
  obtain ⟨fd, F, hb⟩ := F.ex
  refine getmeth_ok I1 ea c hm l ?_
  refine PySem.W.callWith_K (first := [.ref a]) (h₀ := X.base) I.ok.mod.kin hm.kp (thn (ha pos pins s1 σ H1 _ I1 q) fun us s2 ⟨vs, H2, I2, r, q2⟩ => ⟨I2.kIn, ?_⟩) hst hpl
  exact run_fnX (us := .ref a :: us) (vs := .ref a :: vs) R F (hr.mono hj) hb .nil I2 (.cons rfl r) (by rw [List.append_nil]; exact q2)
def tMakeX (C : Addr) (sp : Sp) (Ex : XS) (t : TA) : TE := fun σ H Q => t σ H fun vs H1 => ∀ x dx, H1 x = none → H1 dx = none → dx ≠ x →
  sp (.ref x :: vs) (upd (upd H1 dx (.own x)) x (.ins C dx [])) (fun v H2 => v = .non ∧ Q (.ref x) H2) fun c _ H' => Ex c σ H'
theorem run_makeX {fd : FuncData} {pins : List (Addr × Obj)} {σ : St} {H : Hp} {s : Shared} {Q : VK} {us : List Value} {vs : List V} (R : Pass X Ex) (M : Mk X.K C f) (F : FnOk X.prog X.w X.K X.mg X.base (CX1 X.prog X.w) k f fd ps sp) (hr : Room (k + 1) X.A) (hb : Binds X.K fd ps [])
    (I : Inv X pins σ H s) (r : Vals vs us)
    (h : ∀ x dx, H x = none → H dx = none → dx ≠ x → sp (.ref x :: vs) (upd (upd H dx (.own x)) x (.ins C dx [])) (fun v H2 => v = .non ∧ Q (.ref x) H2) fun c _ H' => Ex c σ H') :
    wpAny (model X.prog X.w) X.A (call (.ref C) us) (EP X pins σ Q) X.xe s := by
  have hq := h (s.heap.objs.size + 1) s.heap.objs.size (I.hok.fresh (Nat.le_succ _)) (I.hok.fresh (Nat.le_refl _)) (Nat.ne_of_lt (Nat.lt_succ_self _))
  have I2 := Inv.made (C := C) I
  have r2 : Vals (V.ref (s.heap.objs.size + 1) :: vs) (Value.ref (s.heap.objs.size + 1) :: us) := .cons rfl r
  have hl : (Value.ref (s.heap.objs.size + 1) :: us).length = ps.length := by
    have e := r2.length
    rw [F.len _ _ _ _ hq] at e
    exact e.symm
  have hb2 := hb { s with heap := (s.heap.push PySem.W.emptyDict).push (PySem.W.instObj C s.heap.objs.size) } (Value.ref (s.heap.objs.size + 1) :: us) I2.kIn (by rw [List.append_nil]; exact hl)
  rw [List.append_nil] at hb2
  refine wpAny_call (make_map (f := f) I.kIn M.makes M.init (beq_iff_eq.mp M.fn) (codeAny_mono (F.run _ X.stack _ _ ⟨Value.ref (s.heap.objs.size + 1) :: us, []⟩ (Value.ref (s.heap.objs.size + 1) :: us) _ _ _ (hr.make C us [])
    (I2.env0.make C us []) hb2 r2 hq) fun r s' hq' => ?_))
  cases r with
  | error ev =>
    obtain ⟨e, C', H', rfl, Fl, q⟩ := hq'
    exact R.on pins σ _ _ e C' H' s' I2 Fl q
  | ok fl =>
    cases fl with
    | ret u =>
      obtain ⟨v, H', I3, rv, ev, q3⟩ := I2.after hq'
      subst ev
      exact ⟨rv, ⟨V.ref (s.heap.objs.size + 1), H', I3, rfl, q3⟩⟩
    | next => exact False.elim hq'
    | brk => exact False.elim hq'
    | cont => exact False.elim hq'
theorem pe_makeX (R : Pass X Ex) (M : Mk X.K C f) (F : Md X.prog X.w X.K X.mg X.base k ps sp f) (hr : Room j X.A) (hj : k + 1 ≤ j) (hg : Gl X x) (hm : X.mg x = some (.ref C))
    (ha : PA X (e :: es) t) (hdb : (x == ("__debug__" : Str)) = false := by decide) (he : starEach (e :: es) X.env = (false, eval e X.env) :: starEach es X.env := by rfl) (hpl : (backTo pos (starEach es X.env)).any (·.1) = false := by rfl) :
    PE X (.Call (.Name x p) (e :: es) [] pos) (tMakeX C sp Ex t) := by
  intro pins s σ H Q I h
  obtain ⟨fd, F, hb⟩ := F.ex
  refine wpAny_Call_Name_kw (ld_glob I hg hm ?_ hdb)
  refine PySem.W.callWith_K (h₀ := X.base) I.ok.mod.kin M.kp (thn (ha pos pins s σ H _ I h) fun us s1 ⟨vs, H1, I1, r, q⟩ => ⟨I1.kIn, ?_⟩) he hpl
  exact run_makeX R M F (hr.mono hj) hb I1 r q
end
structure OCls (K : PySem.W.Frag) (C : Addr) : Prop where
  cl : Cls K C
  ca : PySem.W.findIn K (.ref C) "__class__" = some (some (.builtin "object.__class__"))
  cg : PySem.W.specialIn K (.builtin "object.__class__") "__get__" = some (some (.builtin "getset_descriptor.__get__"))
  ct : PySem.W.takesIn K (.builtin "object.__class__") = some true
  mo : PySem.W.mroIn K C (.type "object") = some true
section
variable {X : Cx}
theorem call_sum (hh : X.calm = true) : CallR X (.builtin "sum") (fun xs H Q => ∃ (p : Addr) (ns : List Int), xs = [.ref p] ∧ (SqL X.K H p (ns.map V.int) ∨ SqT X.K H p (ns.map V.int)) ∧ Q (.int ns.sum) H) := by
  intro pins s σ H xs us Q I r h
  obtain ⟨p, ns, rfl, hq, q⟩ := h
  obtain ⟨u, rfl, rx⟩ := vals1 r
  cases rx
  rcases hq with hq | hq
  · obtain ⟨its, r', pl, hz⟩ := I.list hq
    have hi := intsAre_of r'
    obtain ⟨xs, hx⟩ := hi.allInts.items
    have hl' : s.heap.IsList p (intItems xs) := hx ▸ pl.isList
    refine sum_intListG (I.ok.hd hh) hl' fun h' tk t' hk => ?_
    have e1 : ns = xs.toList.map (·.1) := by
      rw [← nums_intItems, ← hx]
      exact (show numsOf its.toArray.toList = ns from hi.numsOf).symm
    have e2 : preSum (numAt xs) xs.size = ns.sum := by
      rw [preSum_eq, List.take_of_length_le (by simp), e1]
    rw [e2]
    exact ⟨.int ns.sum, H, I.kept (t' := tk) hk, ⟨_, rfl⟩, q⟩
  · obtain ⟨its, r', pl, hz⟩ := I.tuple hq
    have hi := intsAre_of r'
    obtain ⟨xs, hx⟩ := hi.allInts.items
    have hl' : s.heap.IsTuple p (intItems xs) := hx ▸ pl
    refine PySem.W.ktm_sumG (I.ok.hd hh) hl' fun h' tk t' hk => ?_
    have e1 : ns = xs.toList.map (·.1) := by
      rw [← nums_intItems, ← hx]
      exact (show numsOf its.toArray.toList = ns from hi.numsOf).symm
    have e2 : preSum (numAt xs) xs.size = ns.sum := by
      rw [preSum_eq, List.take_of_length_le (by simp), e1]
    rw [e2]
    exact ⟨.int ns.sum, H, I.kept (t' := tk) hk, ⟨_, rfl⟩, q⟩
theorem boolsAre_of {bs : List Bool} : ∀ {us : List Value}, Vals (bs.map V.bl) us → LSm.BoolsAre us bs := by
  induction bs with
  | nil => intro us h; cases h; exact .nil
  | cons b bs ih =>
    intro us h
    cases h with
    | cons r t => cases r; exact .cons b (ih t)
theorem call_all (hh : X.calm = true) : CallR X (.builtin "all") (fun xs H Q => ∃ (p : Addr) (bs : List Bool), xs = [.ref p] ∧ SqL X.K H p (bs.map V.bl) ∧ Q (.bl (bs.all id)) H) := by
  intro pins s σ H xs us Q I r h
  obtain ⟨p, bs, rfl, hq, q⟩ := h
  obtain ⟨u, rfl, rx⟩ := vals1 r
  cases rx
  obtain ⟨its, r', pl, hz⟩ := I.list hq
  have hb := boolsAre_of r'
  have hl := pl.isList
  have hlt : p < s.heap.objs.size := by obtain ⟨_, e, _⟩ := hl; exact Heap.lt_size e
  refine call_all_walk (wpAny_pyIter_list hl ?_)
  refine ⟨s.heap.objs.size, [s.heap.objs.size, p], [s.heap.objs.size], its.toArray.size, _, _, fun i => (bs[i]?).getD true, rfl, Walks.list (A := X.A.in1) (I.ok.hd hh) _ p (Nat.ne_of_lt hlt) its.toArray,
    ⟨⟨_, Heap.get?_push_size _ rfl, rfl, rfl⟩, hl.push _⟩, fun i v s' Q' E' hP hQ => ?_, fun h' tk hk => ?_⟩
  · obtain ⟨b, e, rfl⟩ := hb.get i v (by simpa using hP)
    simp only [e, Option.getD_some] at hQ
    exact wpAny_truthy_bool hQ
  · have e : ((List.range its.toArray.size).all fun i => (bs[i]?).getD true) = bs.all id := by
      rw [List.size_toArray, hb.length]; exact LSm.range_all bs
    rw [e]
    exact ⟨.bl _, H, I.kept (t' := tk) (LSm.kept_iter hk), rfl, q⟩
theorem call_any (hh : X.calm = true) : CallR X (.builtin "any") (fun xs H Q => ∃ (p : Addr) (bs : List Bool), xs = [.ref p] ∧ SqL X.K H p (bs.map V.bl) ∧ Q (.bl (bs.any id)) H) := by
  intro pins s σ H xs us Q I r h
  obtain ⟨p, bs, rfl, hq, q⟩ := h
  obtain ⟨u, rfl, rx⟩ := vals1 r
  cases rx
  obtain ⟨its, r', pl, hz⟩ := I.list hq
  have hb := boolsAre_of r'
  have hl := pl.isList
  have hlt : p < s.heap.objs.size := by obtain ⟨_, e, _⟩ := hl; exact Heap.lt_size e
  refine call_any_walk (wpAny_pyIter_list hl ?_)
  refine ⟨s.heap.objs.size, [s.heap.objs.size, p], [s.heap.objs.size], its.toArray.size, _, _, fun i => (bs[i]?).getD false, rfl, Walks.list (A := X.A.in1) (I.ok.hd hh) _ p (Nat.ne_of_lt hlt) its.toArray,
    ⟨⟨_, Heap.get?_push_size _ rfl, rfl, rfl⟩, hl.push _⟩, fun i v s' Q' E' hP hQ => ?_, fun h' tk hk => ?_⟩
  · obtain ⟨b, e, rfl⟩ := hb.get i v (by simpa using hP)
    simp only [e, Option.getD_some] at hQ
    exact wpAny_truthy_bool hQ
  · have e : ((List.range its.toArray.size).any fun i => (bs[i]?).getD false) = bs.any id := by
      rw [List.size_toArray, hb.length]; exact LSm.range_any bs
    rw [e]
    exact ⟨.bl _, H, I.kept (t' := tk) (LSm.kept_iter hk), rfl, q⟩
theorem bt_sum : bootBuiltins "sum" = some (.builtin "sum") := by decide +kernel
theorem bt_all : bootBuiltins "all" = some (.builtin "all") := by decide +kernel
theorem bt_any : bootBuiltins "any" = some (.builtin "any") := by decide +kernel
def rIndexT (K : PySem.W.Frag) : V → List V → Hp → VK → Prop := fun x vs H Q => ∃ (p : Addr) (ns : List Int) (i : Int) (j : Nat), x = .ref p ∧ vs = [.int i] ∧ SqT K H p (ns.map V.int) ∧ ns[j]? = some i ∧ (∀ m, m < j → ns[m]? ≠ some i) ∧ Q (.int (j : Nat)) H
def eqI (i : Int) (u : Value) : Bool := match u with
  | .int k _ => k == i
  | _ => false
theorem mt_appendR : MtR X "list.append" rAppend := mt_append
theorem mt_index : MtR X "tuple.index" (rIndexT X.K) := by
  intro pins s σ H x vs v us Q I rx rv h
  obtain ⟨p, ns, i, j, rfl, rfl, hq, hj, hno, q⟩ := h
  cases rx
  obtain ⟨u, rfl, ru⟩ := rv.one
  obtain ⟨t, rfl⟩ := (show ∃ t, u = Value.int i t from ru)
  obtain ⟨its, r', pl, hz⟩ := I.tuple hq
  have hi := intsAre_of r'
  obtain ⟨⟨oc, od, odt, osl⟩, h1, h2, n, h3⟩ := id pl
  dsimp only at h2 h3
  subst h2 h3
  have at_ : ∀ (m : Nat) (k : Int), ns[m]? = some k → ∃ t, its[m]? = some (.int k t) := fun m k hm => by
    obtain ⟨u, hu, ru⟩ := r'.get (i := m) (x := .int k) (by rw [List.getElem?_map, hm]; rfl)
    obtain ⟨t, rfl⟩ := (show ∃ t, u = Value.int k t from ru)
    exact ⟨t, hu⟩
  have hl := r'.length
  rw [List.length_map] at hl
  obtain ⟨t1, ht1⟩ := at_ j i hj
  have hjl : j < its.length := by
    rcases Nat.lt_or_ge j its.length with z | z
    · exact z
    · rw [List.getElem?_eq_none z] at ht1; cases ht1
  refine call_meets F.slot_tuple_index ⟨_, h1, rfl⟩ F.entry_tuple_index (F.args_tuple_index_2 _ _) (SeqAt.tuple_indexAt p its.toArray n od osl (.int i t) (eqI i) j (by simpa using hjl) ?_ fun m hm hmj => ?_) ⟨h1, fun y hy => ?_, ?_⟩
  · have e : its.toArray[j]'(by simpa using hjl) = .int i t1 := by
      have := List.getElem?_eq_getElem hjl
      rw [ht1] at this
      simpa using (Option.some.inj this).symm
    rw [e]
    show (i == i) = true
    simp
  · have hml : m < its.length := by simpa using hm
    have hmn : m < ns.length := by omega
    obtain ⟨t2, ht2⟩ := at_ m _ (List.getElem?_eq_getElem hmn)
    have e : its.toArray[m]'hm = .int ns[m] t2 := by
      have := List.getElem?_eq_getElem hml
      rw [ht2] at this
      simpa using (Option.some.inj this).symm
    rw [e]
    show (ns[m] == i) = false
    rw [beq_eq_false_iff_ne]
    intro z
    exact hno m hmj (by rw [List.getElem?_eq_getElem hmn, z])
  · have hy' : y ∈ its := by simpa using hy
    obtain ⟨m, hm, e⟩ := List.getElem_of_mem hy'
    have hmn : m < ns.length := by omega
    obtain ⟨t2, ht2⟩ := at_ m _ (List.getElem?_eq_getElem hmn)
    rw [List.getElem?_eq_getElem hm, e] at ht2
    obtain rfl : y = .int ns[m] t2 := Option.some.inj ht2
    exact SeqAt.EqAt.int_int _ _ _ _
  · exact ⟨.int (j : Nat), H, I.tok _, ⟨_, rfl⟩, q⟩
mutual
inductive Dat (K : PySem.W.Frag) (H : Hp) : V → PyData → Prop
  | int (i : Int) : Dat K H (.int i) (.int i)
  | lst {p : Addr} {xs : List V} {ds : List PyData} : SqL K H p xs → DatAll K H xs ds → Dat K H (.ref p) (.list ds)
  | tup {p : Addr} {xs : List V} {ds : List PyData} : SqT K H p xs → DatAll K H xs ds → Dat K H (.ref p) (.tuple ds)
inductive DatAll (K : PySem.W.Frag) (H : Hp) : List V → List PyData → Prop
  | nil : DatAll K H [] []
  | cons {x : V} {d : PyData} {xs : List V} {ds : List PyData} : Dat K H x d → DatAll K H xs ds → DatAll K H (x :: xs) (d :: ds)
end
def rEqD (K : PySem.W.Frag) (b : Bool) : R2 := fun x y H Q => ∃ d, Dat K H x d ∧ Dat K H y d ∧ d.depth ≤ 64 ∧ Q (.bl b) H
end
def iSeq (K : PySem.W.Frag) (tl : TE) : TI := fun σ H R => tl σ H fun x H1 => ∃ a, x = .ref a ∧ (((∃ xs, SqL K H1 a xs) ∧ R (Itl K a) H1) ∨ ((∃ xs, SqT K H1 a xs) ∧ R (Itt K a) H1))
theorem getItem_tuple_all {prog : Program} {w : World} {A : Around} {E : Value → Shared → Prop} {s : Shared} {t sl : Addr} {items : Array Value} {vl vu : Value} {lo hi : Option Int} {Q : Value → Shared → Prop} (ht : IsTup s.heap t items) (hs : s.heap.IsSliceOf sl vl vu .none) (pl : IsPart vl lo) (pu : IsPart vu hi)
    (h0 : HT.sIx items.size 0 lo = 0) (h1 : HT.sIx items.size items.size hi = items.size)
    (h : Q (.ref t) s) : wpAny (model prog w) A (getItem (.ref t) (.ref sl)) Q E s := by
  obtain ⟨os, hos, hcs, hds⟩ := id hs
  have hTs : s.TypeIs (.ref sl) "slice" := ⟨os, hos, hcs⟩
  unfold getItem
  try with_reducible refine wpAny_holding ?_
  first | refine wpAny_bind (wpAny_pure ?_) | skip
  refine wpAny_bind (wpAny_sequenceKey ht.typeIs (by decide) ?_)
  refine wpAny_bind (wpAny_callSpecial?_slot (name := Str.ofString "__getitem__") ht.typeIs PyProof.Rows.slot_tuple_getitem
    (wpAny_call_entry PyProof.Rows.slot_tuple_getitem ht.typeIs entry_tuple_getitem ?_ (args_tuple_getitem _ _)))
  show wpAny _ _ (Builtin.Tuple.tupleItemsOf (.ref t) >>= _) _ _ s
  refine wpAny_bind (tupleItemsOf_ ht ?_)
  refine wpAny_bind (wpAny_typeOf hTs ?_)
  rw [if_pos (by decide)]
  refine wpAny_bind (HT.sliceApplied_gen hs pl pu ?_)
  have hy : (((HT.sIx items.size 0 lo : Nat) : Int) == 0 && (1 : Int) == 1 && (HT.sIx items.size items.size hi - HT.sIx items.size 0 lo) == items.size) = true := by
    rw [h0, h1]; simp
  show wpAny _ _ (if (((HT.sIx items.size 0 lo : Nat) : Int) == 0 && (1 : Int) == 1 && (HT.sIx items.size items.size hi - HT.sIx items.size 0 lo) == items.size) = true then _ else _) _ _ s
  rw [if_pos hy]
  refine wpAny_bind (m := Builtin.Tuple.tupleIsExact (.ref t)) ?_
  unfold Builtin.Tuple.tupleIsExact
  refine wpAny_bind (wpAny_typeOf ht.typeIs (wpAny_pure ?_))
  rw [if_pos (by decide)]
  first
    | exact wpAny_bind (wpAny_rule (wpAny_pure ⟨_, rfl, wpAny_pure h⟩))
    | exact wpAny_bind (wpAny_rule (wpAny_bind (wpAny_pure (wpAny_pure ⟨_, rfl, wpAny_pure h⟩))))
def rSlA (K : PySem.W.Frag) : V → Option Int → Option Int → Hp → VK → Prop := fun x lo hi H Q => ∃ a xs, x = .ref a ∧ SqT K H a xs ∧ ∀ p H', Same H H' → SqT K H' p (cutV xs lo hi) → Q (.ref p) H'
theorem sl_tupA {X : Cx} : SlR X (rSlA X.K) := by
  intro pins s σ H x v vl vu lo hi sl Q I rx hs pl pu h
  obtain ⟨a, xs, rfl, hx, q⟩ := h
  by_cases hw : HT.sIx xs.length 0 lo = 0 ∧ HT.sIx xs.length xs.length hi = xs.length
  · cases rx
    obtain ⟨its, r, ht, hz⟩ := I.tuple hx
    have hlen : its.toArray.size = xs.length := by rw [List.size_toArray]; exact r.length.symm
    refine ⟨"tuple", _, PyProof.Rows.slot_tuple_getitem.lookup, ht.typeIs, ?_⟩
    refine getItem_tuple_all ht hs pl pu (by rw [hlen]; exact hw.1) (by rw [hlen]; exact hw.2) ⟨.ref a, H, I, rfl, q a H (.refl H) ?_⟩
    unfold cutV
    rw [hw.1, hw.2, List.drop_zero, Nat.sub_zero, List.take_length]
    exact hx
  · exact sl_tup pins s σ H (.ref a) v vl vu lo hi sl Q I rx hs pl pu ⟨a, xs, rfl, hx, hw, fun p hp => q p _ (.upd_new hp) (SqT.of upd_same)⟩
section
variable {K : PySem.W.Frag} {a : Addr} {xs : List V} {σ0 : St} {H1 : Hp} {i0 : Nat} {c : TT} {te : TE} {Q : Addr → Hp → Prop}
theorem comp_lst (f : Nat → V → Option V) (hq : SqL K H1 a xs) (hn : xs.length ≤ sizeLine)
    (step : ∀ (i : Nat) (x : V) (H2 : Hp) (k : VK) (k0 : Hp → Prop), Same H1 H2 → xs[i]? = some x → (∀ y, f i x = some y → ∀ H3, Same H2 H3 → k y H3) → (f i x = none → ∀ H3, Same H2 H3 → k0 H3) →
      c (σ0.set i0 (some x)) H2 fun b H4 => if b = true then te (σ0.set i0 (some x)) H4 k else k0 H4)
    (h : ∀ D H2, H1 D = none → Same H1 H2 → H2 D = some (.lst ((List.range xs.length).filterMap fun i => (xs[i]?).bind (f i))) → Q D H2) :
    ∀ D, H1 D = none → ∃ W : Nat → Nat → St → Hp → Prop, (∃ m, W 0 m σ0 (upd H1 D (.lst []))) ∧ ∀ i m σ1 H2, W i m σ1 H2 →
      ((Itl K a).stop i H2 ∧ Q D H2) ∨ ((Itl K a).go i H2 ∧ ∃ N : St → Hp → Prop, (∀ σ' H', N σ' H' → ∃ m', m' < m ∧ W (i + 1) m' σ' H') ∧
        ∀ x H', (Itl K a).yld i H2 x H' → gName i0 x σ1 H' fun σ2 H3 => c σ2 H3 fun b H4 => if b = true then te σ2 H4 fun y H5 => ∃ xs, H5 D = some (.lst xs) ∧ xs.length < sizeLine ∧ N σ2 (upd H5 D (.lst (xs ++ [y]))) else N σ2 H4) := by
  intro D hD
  refine ⟨fun i m σ1 H2 => σ1.set i0 none = σ0.set i0 none ∧ Same H1 H2 ∧ H2 D = some (.lst ((List.range i).filterMap fun i => (xs[i]?).bind (f i))) ∧ i ≤ xs.length ∧ m = xs.length - i, ⟨xs.length, rfl, .upd_new hD, upd_same, Nat.zero_le _, rfl⟩, ?_⟩
  rintro i m σ1 H2 ⟨hσ, hs, hd, hi, rfl⟩
  have hset : ∀ v : Option V, σ1.set i0 v = σ0.set i0 v := fun v => by
    have z := congrArg (fun l => List.set l i0 v) hσ
    simpa using z
  rcases Nat.lt_or_ge i xs.length with hlt | hge
  · right
    refine ⟨⟨xs, xs[i], hs.seq hq, by simp [hlt]⟩, fun σ' H' => σ'.set i0 none = σ0.set i0 none ∧ Same H1 H' ∧ H' D = some (.lst ((List.range (i + 1)).filterMap fun i => (xs[i]?).bind (f i))), fun σ' H' ⟨a, b, c⟩ => ⟨xs.length - (i + 1), by omega, a, b, c, hlt, rfl⟩, ?_⟩
    rintro x H' ⟨rfl, hx⟩
    have hx := hx xs (hs.seq hq)
    show c (σ1.set i0 (some x)) _ _
    rw [hset]
    refine step i x _ _ _ hs hx (fun y hy H3 hs3 => ⟨_, hs3 _ _ hd, ?_, ?_, ?_, ?_⟩) fun hno H3 hs3 => ⟨?_, hs.trans hs3, ?_⟩
    · refine Nat.lt_of_le_of_lt (List.length_filterMap_le _ _) ?_
      rw [List.length_range]
      omega
    · simp
    · refine (hs.trans hs3).upd_ne' hD
    · rw [upd_same, List.range_succ, List.filterMap_append]
      simp [hx, hy]
    · simp
    · rw [hs3 _ _ hd, List.range_succ, List.filterMap_append]
      simp [hx, hno]
  · left
    obtain rfl : i = xs.length := Nat.le_antisymm hi hge
    exact ⟨⟨xs, hs.seq hq, Nat.le_refl _⟩, h D _ hD hs hd⟩
end
end L2

set_option Elab.async false
set_option linter.all false
set_option maxRecDepth 100000
namespace L2
open PySem PySem.Spec PyProof.Rows
section
variable {X : Cx}
def rIxN (K : PySem.W.Frag) : V → V → Hp → VK → Prop := fun x y H Q => ∃ (p : Addr) (xs : List V) (j : Nat) (v : V), x = .ref p ∧ y = .int (j : Int) ∧ SqL K H p xs ∧ xs[j]? = some v ∧ Q v H
end
end L2

set_option Elab.async false
set_option linter.all false
set_option maxRecDepth 100000
namespace L2
open PySem PySem.Spec PyProof.Rows
section
variable {K : PySem.W.Frag} {lo : Int} {n : Nat} {σ0 : St} {H1 : Hp} {i0 : Nat} {c : TT} {te : TE} {Q : Addr → Hp → Prop}
theorem comp_rng (f : Nat → Option V) (hn : n ≤ sizeLine)
    (step : ∀ (i : Nat) (H2 : Hp) (k : VK) (k0 : Hp → Prop), Same H1 H2 → i < n → (∀ y, f i = some y → ∀ H3, Same H2 H3 → k y H3) → (f i = none → ∀ H3, Same H2 H3 → k0 H3) →
      c (σ0.set i0 (some (.int (lo + (i : Int))))) H2 fun b H4 => if b = true then te (σ0.set i0 (some (.int (lo + (i : Int))))) H4 k else k0 H4)
    (h : ∀ D H2, H1 D = none → Same H1 H2 → H2 D = some (.lst ((List.range n).filterMap f)) → Q D H2) :
    ∀ D, H1 D = none → ∃ W : Nat → Nat → St → Hp → Prop, (∃ m, W 0 m σ0 (upd H1 D (.lst []))) ∧ ∀ i m σ1 H2, W i m σ1 H2 →
      ((Itr lo n).stop i H2 ∧ Q D H2) ∨ ((Itr lo n).go i H2 ∧ ∃ N : St → Hp → Prop, (∀ σ' H', N σ' H' → ∃ m', m' < m ∧ W (i + 1) m' σ' H') ∧
        ∀ x H', (Itr lo n).yld i H2 x H' → gName i0 x σ1 H' fun σ2 H3 => c σ2 H3 fun b H4 => if b = true then te σ2 H4 fun y H5 => ∃ xs, H5 D = some (.lst xs) ∧ xs.length < sizeLine ∧ N σ2 (upd H5 D (.lst (xs ++ [y]))) else N σ2 H4) := by
  intro D hD
  refine ⟨fun i m σ1 H2 => σ1.set i0 none = σ0.set i0 none ∧ Same H1 H2 ∧ H2 D = some (.lst ((List.range i).filterMap f)) ∧ i ≤ n ∧ m = n - i, ⟨n, rfl, .upd_new hD, upd_same, Nat.zero_le _, rfl⟩, ?_⟩
  rintro i m σ1 H2 ⟨hσ, hs, hd, hi, rfl⟩
  have hset : ∀ v : Option V, σ1.set i0 v = σ0.set i0 v := fun v => by
    have z := congrArg (fun l => List.set l i0 v) hσ
    simpa using z
  rcases Nat.lt_or_ge i n with hlt | hge
  · right
    refine ⟨hlt, fun σ' H' => σ'.set i0 none = σ0.set i0 none ∧ Same H1 H' ∧ H' D = some (.lst ((List.range (i + 1)).filterMap f)), fun σ' H' ⟨a, b, c⟩ => ⟨n - (i + 1), by omega, a, b, c, hlt, rfl⟩, ?_⟩
    rintro x H' ⟨rfl, rfl⟩
    show c (σ1.set i0 (some (.int (lo + (i : Int))))) _ _
    rw [hset]
    refine step i _ _ _ hs hlt (fun y hy H3 hs3 => ⟨_, hs3 _ _ hd, ?_, ?_, ?_, ?_⟩) fun hno H3 hs3 => ⟨?_, hs.trans hs3, ?_⟩
    · refine Nat.lt_of_le_of_lt (List.length_filterMap_le _ _) ?_
      rw [List.length_range]
      omega
    · simp
    · exact (hs.trans hs3).upd_ne' hD
    · rw [upd_same, List.range_succ, List.filterMap_append]
      simp [hy]
    · simp
    · rw [hs3 _ _ hd, List.range_succ, List.filterMap_append]
      simp [hno]
  · left
    obtain rfl : i = n := Nat.le_antisymm hi hge
    exact ⟨Nat.le_refl _, h D _ hD hs hd⟩
end
section
variable {X : Cx}
theorem bt_max : bootBuiltins "max" = some (.builtin "max") := by decide +kernel
end
end L2

set_option Elab.async false
set_option linter.all false
set_option maxRecDepth 100000
namespace L2
open PySem PySem.Spec PyProof.Rows
def Ite (K : PySem.W.Frag) (l : Addr) : It :=
  ⟨fun i H => ∃ xs x, SqL K H l xs ∧ xs[i]? = some x,
   fun i H v H' => ∃ t x, v = .ref t ∧ H t = none ∧ H' = upd H t (.tup [.int (i : Int), x]) ∧ ∀ xs, SqL K H l xs → xs[i]? = some x,
   fun i H => ∃ xs, SqL K H l xs ∧ xs.length ≤ i⟩
def enumTn (e it l : Addr) (i : Nat) (h : Heap) : Prop := (∃ old, IsEnum h e it (i : Int) old) ∧ h.IsListIter it l i
theorem turn_enum {P : Program} {w : World} {K : PySem.W.Frag} {elts : List Expr} {x1} {pos : Pos} {e it l : Addr} (hne : e ≠ it) :
    Turn P w K (.Tuple elts x1 pos) (Ite K l) [e, it] e (enumTn e it l) where
  mem := by simp
  obj := fun i h ⟨⟨old, he⟩, ⟨o, ho, _, d⟩⟩ b hb => by
    simp only [List.mem_cons, List.not_mem_nil, or_false] at hb
    rcases hb with rfl | rfl
    · exact ⟨_, he, fun v q => nomatch q⟩
    · exact ⟨_, ho, fun v q => by rw [d] at q; cases q⟩
  keep := fun i h h' ⟨⟨old, he⟩, h1⟩ k => ⟨⟨old, k e (by simp) _ he⟩, h1.at fun o q => k it (by simp) o q⟩
  item := by
    intro X hP hw hK hc i pins s σ H E I hf st hg
    subst hP hw hK
    obtain ⟨⟨old, he⟩, h1⟩ := st
    obtain ⟨xs, x, q1, hx⟩ := hg
    obtain ⟨its1, r1, p1, z1⟩ := I.list q1
    obtain ⟨u, hu, ru⟩ := r1.get hx
    refine wpAny_pyNext_enum_item he h1 p1.isList (by simpa using hu) hne fun h' a1 a2 a3 a4 a5 => ⟨_, rfl, ?_⟩
    refine wpAny_letOwnedTupleGo_enum a1 fun h'' b1 hs => ?_
    have lt : ∀ c o, s.heap.get? c = some o → c ≠ s.heap.objs.size := fun c o e => Nat.ne_of_lt (Heap.lt_size e)
    have lte : s.heap.objs.size ≠ e := (lt e _ he).symm
    have I1 : Inv X pins σ H { s with heap := h'', toks := s.toks + 1 } := I.turnedL (t' := s.toks + 1) (fun c o hb e => (hs.2 c (fun q => hb (by simp [q]))).trans (a5 c o (fun q => hb (by simp [q])) (fun q => hb (by simp [q])) e)) hf
    have ht : h''.get? s.heap.objs.size = some { cls := .type "tuple", data := .seq #[.int i s.toks, u] } := (hs.2 _ lte).trans a3
    have hn : H s.heap.objs.size = none := I.hok.fresh (Nat.le_refl _)
    have I2 : Inv X pins σ (upd H s.heap.objs.size (.tup [.int (i : Int), x])) { s with heap := h'', toks := s.toks + 1 } := by
      refine I1.track hn (Heap.get?_none_of_le I.sz) (Nat.ne_of_lt I.lt).symm (fun y c q => ?_) (fun p hp => ?_) (I.nofs (Nat.le_refl _)) ⟨by show 2 ≤ sizeLine; decide, [.int i s.toks, u], .cons ⟨_, rfl⟩ (.cons ru .nil), _, ht, rfl, _, rfl⟩
      · obtain ⟨_, o, ho, _⟩ := I.cell y c q
        exact lt c o ho
      · exact lt _ _ (I.pin p hp).1
    refine ⟨.ref s.heap.objs.size, _, I2, rfl, ⟨_, x, rfl, hn, rfl, fun xs' q => ?_⟩, ⟨⟨u, ?_⟩, a2.at fun o e => (hs.2 _ hne.symm).trans e⟩, fun c hb => ?_⟩
    · rw [I.list_inj q q1]; exact hx
    · rw [show ((i + 1 : Nat) : Int) = (i : Int) + 1 by push_cast; rfl]
      exact b1
    · obtain ⟨o, ho, _⟩ : ∃ o, s.heap.get? c = some o ∧ True := by
        simp only [List.mem_cons, List.not_mem_nil, or_false] at hb
        rcases hb with rfl | rfl
        · exact ⟨_, he, trivial⟩
        · obtain ⟨o, ho, _⟩ := h1; exact ⟨o, ho, trivial⟩
      rw [upd_ne (lt c o ho)]
      exact (hf c hb).1
  done := by
    intro X hP hw hK hc i pins s σ H E I hf st hg
    subst hP hw hK
    obtain ⟨⟨old, he⟩, h1⟩ := st
    obtain ⟨xs, q1, hend⟩ := hg
    obtain ⟨its1, r1, p1, z1⟩ := I.list q1
    have e1 := r1.length
    exact wpAny_pyNext_enum_end (I.ok.hd hc) he h1 p1.isList (by simp; omega) fun h' k => ⟨rfl, I.turnedL (t' := s.toks) (fun c o hb e => k c o (fun q => hb (by simp [q])) e) hf⟩
  self := fun _ _ _ _ _ ⟨⟨_, he⟩, _⟩ h => wpAny_pyIter_enum he h
def iEnum (K : PySem.W.Frag) (ta : TA) : TI := fun σ H R => ta σ H fun vs H1 => ∃ l, vs = [.ref l] ∧ (∃ xs, SqL K H1 l xs) ∧ R (Ite K l) H1
theorem bt_enum : bootBuiltins "enumerate" = some (.type "enumerate") := by decide +kernel
theorem pi_enum {X : Cx} {elts : List Expr} {x1} {tpos : Pos} {a : Expr} {ta : TA} {p pos : Pos} (hg : Gl X "enumerate") (hm : X.mg "enumerate" = none) (ha : PA X [a] ta) (hs : starEach [a] X.env = [(false, eval a X.env)] := by rfl) :
    PI X (.Tuple elts x1 tpos) (.Call (.Name "enumerate" p) [a] [] pos) (iEnum X.K ta) := by
  intro pins s σ H R I h
  refine Call_ (ld_blt I hg hm bt_enum (PyProof.Rows.callWith_type1 (thn (ha pos pins s σ H _ I h) fun us s1 ⟨vs, H1, I1, r1, q1⟩ => ?_) hs rfl))
  obtain ⟨l, e, ⟨xs, q1⟩, q⟩ := q1
  subst e
  obtain ⟨u, rfl, ru⟩ := vals1 r1
  cases (show u = Value.ref l from ru)
  obtain ⟨its1, r1, p1, z1⟩ := I1.list q1
  refine call_enumerate_list p1.isList fun h' hE hI hsz hk => ?_
  refine wpAny_pyIter_enum hE ?_
  have I2 : Inv X pins σ H1 { s1 with heap := h' } := I1.kept (t' := s1.toks) hk
  refine ⟨_, [s1.heap.objs.size + 1, s1.heap.objs.size], _, _, H1, rfl, I2, turn_enum (Nat.succ_ne_self _), ⟨⟨_, hE⟩, hI⟩, fun c hc => ?_, q⟩
  have hge : s1.heap.objs.size ≤ c := by
    simp only [List.mem_cons, List.not_mem_nil, or_false] at hc
    rcases hc with h | h
    all_goals first | (rw [h]; exact Nat.le_add_right _ _) | exact Nat.le_of_eq h.symm
  have := I1.fpOk (H' := H1) hge (I1.hok.fresh hge)
  exact this
theorem for_enum {K : PySem.W.Frag} {l : Addr} {xs : List V} {g : TG} {tb : TS} {D : Ends} {σ : St} {H : Hp} (Pv : Nat → St → Hp → Prop) (h0 : Pv 0 σ H) (hl : ∀ i σ H, i ≤ xs.length → Pv i σ H → SqL K H l xs)
    (hs : ∀ i x t σ H, xs[i]? = some x → H t = none → Pv i σ H → g (.ref t) σ (upd H t (.tup [.int (i : Int), x])) fun σ2 H2 => tb { D with nx := Pv (i + 1), ct := Pv (i + 1), bk := D.nx } σ2 H2) (hd : ∀ σ H, Pv xs.length σ H → D.nx σ H) :
    ∃ W : Nat → Nat → St → Hp → Prop, (∃ m, W 0 m σ H) ∧ ∀ i m σ H, W i m σ H →
      ((Ite K l).stop i H ∧ D.nx σ H) ∨ ((Ite K l).go i H ∧ ∃ N : St → Hp → Prop, (∀ σ' H', N σ' H' → ∃ m', m' < m ∧ W (i + 1) m' σ' H') ∧ ∀ x H', (Ite K l).yld i H x H' → g x σ H' fun σ2 H2 => tb { D with nx := N, ct := N, bk := D.nx } σ2 H2) := by
  refine ⟨fun i m σ H => Pv i σ H ∧ i ≤ xs.length ∧ m = xs.length - i, ⟨_, h0, Nat.zero_le _, rfl⟩, ?_⟩
  rintro i m σ H ⟨hp, hi, rfl⟩
  have q1 := hl i σ H hi hp
  rcases Nat.lt_or_ge i xs.length with hlt | hge
  · right
    obtain ⟨x, hx⟩ : ∃ x, xs[i]? = some x := ⟨_, List.getElem?_eq_getElem hlt⟩
    refine ⟨⟨xs, x, q1, hx⟩, Pv (i + 1), fun σ' H' h => ⟨_, Nat.sub_lt_sub_left hlt (Nat.lt_succ_self _), h, hlt, rfl⟩, ?_⟩
    rintro v H' ⟨t, x', rfl, hn, rfl, e1⟩
    have e1' := e1 xs q1
    rw [hx] at e1'
    cases e1'
    exact hs i x t σ H hx hn hp
  · left
    obtain rfl : i = xs.length := Nat.le_antisymm hi hge
    exact ⟨⟨xs, q1, Nat.le_refl _⟩, hd σ H hp⟩
section
variable {K : PySem.W.Frag} {a a' : Addr} {xs ys : List V} {σ0 : St} {H1 : Hp} {g : TG} {c : TT} {te : TE} {Q : Addr → Hp → Prop}
theorem comp_enumG (Ag : St → Prop) (f : Nat → V → Option V) (h0 : Ag σ0) (hq : SqL K H1 a xs) (hn : xs.length ≤ sizeLine)
    (step : ∀ (i : Nat) (x : V) (t : Addr) (σ1 : St) (H2 : Hp) (k : St → VK) (k0 : St → Hp → Prop), Ag σ1 → Same H1 H2 → xs[i]? = some x → H2 t = some (.tup [.int (i : Int), x]) → (∀ σ2 y, Ag σ2 → f i x = some y → ∀ H3, Same H2 H3 → k σ2 y H3) → (∀ σ2, Ag σ2 → f i x = none → ∀ H3, Same H2 H3 → k0 σ2 H3) →
      g (.ref t) σ1 H2 fun σ2 H3 => c σ2 H3 fun b H4 => if b = true then te σ2 H4 (k σ2) else k0 σ2 H4)
    (h : ∀ D H2, H1 D = none → Same H1 H2 → H2 D = some (.lst ((List.range xs.length).filterMap fun i => (xs[i]?).bind (f i))) → Q D H2) :
    ∀ D, H1 D = none → ∃ W : Nat → Nat → St → Hp → Prop, (∃ m, W 0 m σ0 (upd H1 D (.lst []))) ∧ ∀ i m σ1 H2, W i m σ1 H2 →
      ((Ite K a).stop i H2 ∧ Q D H2) ∨ ((Ite K a).go i H2 ∧ ∃ N : St → Hp → Prop, (∀ σ' H', N σ' H' → ∃ m', m' < m ∧ W (i + 1) m' σ' H') ∧
        ∀ x H', (Ite K a).yld i H2 x H' → g x σ1 H' fun σ2 H3 => c σ2 H3 fun b H4 => if b = true then te σ2 H4 fun y H5 => ∃ xs, H5 D = some (.lst xs) ∧ xs.length < sizeLine ∧ N σ2 (upd H5 D (.lst (xs ++ [y]))) else N σ2 H4) := by
  intro D hD
  refine ⟨fun i m σ1 H2 => Ag σ1 ∧ Same H1 H2 ∧ H2 D = some (.lst ((List.range i).filterMap fun i => (xs[i]?).bind (f i))) ∧ i ≤ xs.length ∧ m = xs.length - i, ⟨xs.length, h0, .upd_new hD, upd_same, Nat.zero_le _, rfl⟩, ?_⟩
  rintro i m σ1 H2 ⟨hσ, hs, hd, hi, rfl⟩
  rcases Nat.lt_or_ge i xs.length with hlt | hge
  · right
    refine ⟨⟨xs, xs[i], hs.seq hq, by simp [hlt]⟩, fun σ' H' => Ag σ' ∧ Same H1 H' ∧ H' D = some (.lst ((List.range (i + 1)).filterMap fun i => (xs[i]?).bind (f i))), fun σ' H' ⟨a, b, c⟩ => ⟨xs.length - (i + 1), by omega, a, b, c, hlt, rfl⟩, ?_⟩
    rintro v H' ⟨t, x, rfl, ht, rfl, hx⟩
    have hx := hx xs (hs.seq hq)
    have hst : Same H1 (upd H2 t (.tup [.int (i : Int), x])) := hs.trans (.upd_new ht)
    have hdt := Same.upd_new (o := .tup [.int (i : Int), x]) ht _ _ hd
    refine step i x t σ1 _ (fun σ2 y H5 => ∃ xs, H5 D = some (.lst xs) ∧ xs.length < sizeLine ∧ _) _ hσ hst hx upd_same (fun σ2 y a2 hy H3 hs3 => ⟨_, hs3 _ _ hdt, ?_, a2, ?_, ?_⟩) fun σ2 a2 hno H3 hs3 => ⟨a2, hst.trans hs3, ?_⟩
    · refine Nat.lt_of_le_of_lt (List.length_filterMap_le _ _) ?_
      rw [List.length_range]
      omega
    · exact (hst.trans hs3).upd_ne' hD
    · rw [upd_same, List.range_succ, List.filterMap_append]
      simp [hx, hy]
    · rw [hs3 _ _ hdt, List.range_succ, List.filterMap_append]
      simp [hx, hno]
  · left
    obtain rfl : i = xs.length := Nat.le_antisymm hi hge
    exact ⟨⟨xs, hs.seq hq, Nat.le_refl _⟩, h D _ hD hs hd⟩
theorem comp_zipG (Ag : St → Prop) (f : Nat → V → V → Option V) (h0 : Ag σ0) (hq : SqL K H1 a xs) (hq' : SqL K H1 a' ys) (hlen : xs.length = ys.length) (hn : xs.length ≤ sizeLine)
    (step : ∀ (i : Nat) (x y : V) (t : Addr) (σ1 : St) (H2 : Hp) (k : St → VK) (k0 : St → Hp → Prop), Ag σ1 → Same H1 H2 → xs[i]? = some x → ys[i]? = some y → H2 t = some (.tup [x, y]) → (∀ σ2 z, Ag σ2 → f i x y = some z → ∀ H3, Same H2 H3 → k σ2 z H3) → (∀ σ2, Ag σ2 → f i x y = none → ∀ H3, Same H2 H3 → k0 σ2 H3) →
      g (.ref t) σ1 H2 fun σ2 H3 => c σ2 H3 fun b H4 => if b = true then te σ2 H4 (k σ2) else k0 σ2 H4)
    (h : ∀ D H2, H1 D = none → Same H1 H2 → H2 D = some (.lst ((List.range xs.length).filterMap fun i => (xs[i]?).bind fun x => (ys[i]?).bind (f i x))) → Q D H2) :
    ∀ D, H1 D = none → ∃ W : Nat → Nat → St → Hp → Prop, (∃ m, W 0 m σ0 (upd H1 D (.lst []))) ∧ ∀ i m σ1 H2, W i m σ1 H2 →
      ((Itz K a a').stop i H2 ∧ Q D H2) ∨ ((Itz K a a').go i H2 ∧ ∃ N : St → Hp → Prop, (∀ σ' H', N σ' H' → ∃ m', m' < m ∧ W (i + 1) m' σ' H') ∧
        ∀ x H', (Itz K a a').yld i H2 x H' → g x σ1 H' fun σ2 H3 => c σ2 H3 fun b H4 => if b = true then te σ2 H4 fun y H5 => ∃ xs, H5 D = some (.lst xs) ∧ xs.length < sizeLine ∧ N σ2 (upd H5 D (.lst (xs ++ [y]))) else N σ2 H4) := by
  intro D hD
  refine ⟨fun i m σ1 H2 => Ag σ1 ∧ Same H1 H2 ∧ H2 D = some (.lst ((List.range i).filterMap fun i => (xs[i]?).bind fun x => (ys[i]?).bind (f i x))) ∧ i ≤ xs.length ∧ m = xs.length - i, ⟨xs.length, h0, .upd_new hD, upd_same, Nat.zero_le _, rfl⟩, ?_⟩
  rintro i m σ1 H2 ⟨hσ, hs, hd, hi, rfl⟩
  rcases Nat.lt_or_ge i xs.length with hlt | hge
  · right
    have hlt' : i < ys.length := hlen ▸ hlt
    refine ⟨⟨xs, ys, xs[i], ys[i], hs.seq hq, hs.seq hq', by simp [hlt], by simp [hlt']⟩, fun σ' H' => Ag σ' ∧ Same H1 H' ∧ H' D = some (.lst ((List.range (i + 1)).filterMap fun i => (xs[i]?).bind fun x => (ys[i]?).bind (f i x))), fun σ' H' ⟨a, b, c⟩ => ⟨xs.length - (i + 1), by omega, a, b, c, hlt, rfl⟩, ?_⟩
    rintro v H' ⟨t, x, y, rfl, ht, rfl, hx, hy⟩
    have hx := hx xs (hs.seq hq)
    have hy := hy ys (hs.seq hq')
    have hst : Same H1 (upd H2 t (.tup [x, y])) := hs.trans (.upd_new ht)
    have hdt := Same.upd_new (o := .tup [x, y]) ht _ _ hd
    refine step i x y t σ1 _ (fun σ2 y H5 => ∃ xs, H5 D = some (.lst xs) ∧ xs.length < sizeLine ∧ _) _ hσ hst hx hy upd_same (fun σ2 z a2 hz H3 hs3 => ⟨_, hs3 _ _ hdt, ?_, a2, ?_, ?_⟩) fun σ2 a2 hno H3 hs3 => ⟨a2, hst.trans hs3, ?_⟩
    · refine Nat.lt_of_le_of_lt (List.length_filterMap_le _ _) ?_
      rw [List.length_range]
      omega
    · exact (hst.trans hs3).upd_ne' hD
    · rw [upd_same, List.range_succ, List.filterMap_append]
      simp [hx, hy, hz]
    · rw [hs3 _ _ hdt, List.range_succ, List.filterMap_append]
      simp [hx, hy, hno]
  · left
    obtain rfl : i = xs.length := Nat.le_antisymm hi hge
    exact ⟨⟨xs, ys, hs.seq hq, hs.seq hq', .inl (Nat.le_refl _)⟩, h D _ hD hs hd⟩
end
end L2

set_option Elab.async false
set_option linter.all false
set_option maxRecDepth 100000
namespace L2
open PySem PySem.Spec PyProof.Rows
section
variable {X : Cx}
end
section
variable {K : PySem.W.Frag} {a : Addr} {xs : List V} {lo : Int} {n : Nat} {σ0 : St} {H1 : Hp} {i0 : Nat} {c : TT} {te : TE} {Q : Addr → Hp → Prop}
def SameT (H H' : Hp) : Prop := ∀ b xs, H b = some (.tup xs) → H' b = some (.tup xs)
theorem Same.t {H H' : Hp} (s : Same H H') : SameT H H' := fun _ _ e => s _ _ e
theorem SameT.lst {H : Hp} {D : Addr} {ys : List V} {o : HO} (h : H D = some (.lst ys)) : SameT H (upd H D o) := fun b xs e => by
  rw [upd_ne fun q => by subst q; rw [h] at e; cases e]
  exact e
theorem comp_rngR (R : Nat → V → Hp → Prop) (mono : ∀ i y H H', SameT H H' → R i y H → R i y H') (hn : n ≤ sizeLine)
    (step : ∀ (i : Nat) (H2 : Hp) (k : VK) (k0 : Hp → Prop), Same H1 H2 → i < n → (∀ y H3, Same H2 H3 → R i y H3 → k y H3) →
      c (σ0.set i0 (some (.int (lo + (i : Int))))) H2 fun b H4 => if b = true then te (σ0.set i0 (some (.int (lo + (i : Int))))) H4 k else k0 H4)
    (h : ∀ D ys H2, H1 D = none → Same H1 H2 → ys.length = n → (∀ i y, ys[i]? = some y → R i y H2) → H2 D = some (.lst ys) → Q D H2) :
    ∀ D, H1 D = none → ∃ W : Nat → Nat → St → Hp → Prop, (∃ m, W 0 m σ0 (upd H1 D (.lst []))) ∧ ∀ i m σ1 H2, W i m σ1 H2 →
      ((Itr lo n).stop i H2 ∧ Q D H2) ∨ ((Itr lo n).go i H2 ∧ ∃ N : St → Hp → Prop, (∀ σ' H', N σ' H' → ∃ m', m' < m ∧ W (i + 1) m' σ' H') ∧
        ∀ x H', (Itr lo n).yld i H2 x H' → gName i0 x σ1 H' fun σ2 H3 => c σ2 H3 fun b H4 => if b = true then te σ2 H4 fun y H5 => ∃ xs, H5 D = some (.lst xs) ∧ xs.length < sizeLine ∧ N σ2 (upd H5 D (.lst (xs ++ [y]))) else N σ2 H4) := by
  intro D hD
  refine ⟨fun i m σ1 H2 => σ1.set i0 none = σ0.set i0 none ∧ Same H1 H2 ∧ (∃ ys, ys.length = i ∧ (∀ j y, ys[j]? = some y → R j y H2) ∧ H2 D = some (.lst ys)) ∧ i ≤ n ∧ m = n - i, ⟨n, rfl, .upd_new hD, ⟨[], rfl, fun j y e => (by cases e), upd_same⟩, Nat.zero_le _, rfl⟩, ?_⟩
  rintro i m σ1 H2 ⟨hσ, hs, ⟨ys, hy, hR, hd⟩, hi, rfl⟩
  have hset : ∀ v : Option V, σ1.set i0 v = σ0.set i0 v := fun v => by
    have z := congrArg (fun l => List.set l i0 v) hσ
    simpa using z
  rcases Nat.lt_or_ge i n with hlt | hge
  · right
    refine ⟨hlt, fun σ' H' => σ'.set i0 none = σ0.set i0 none ∧ Same H1 H' ∧ ∃ ys, ys.length = i + 1 ∧ (∀ j y, ys[j]? = some y → R j y H') ∧ H' D = some (.lst ys), fun σ' H' ⟨a, b, c⟩ => ⟨n - (i + 1), by omega, a, b, c, hlt, rfl⟩, ?_⟩
    rintro x H' ⟨rfl, rfl⟩
    show c (σ1.set i0 (some (.int (lo + (i : Int))))) _ _
    rw [hset]
    refine step i _ _ _ hs hlt fun y H3 hs3 hR3 => ⟨_, hs3 _ _ hd, by omega, ?_, (hs.trans hs3).upd_ne' hD, ys ++ [y], by rw [List.length_append]; show _ + 1 = _; omega, fun j z e => ?_, upd_same⟩
    · simp
    · have keep : ∀ {j z}, R j z H3 → R j z (upd H3 D (.lst (ys ++ [y]))) := fun {j z} q => mono _ _ _ _ (.lst (hs3 _ _ hd)) q
      rcases Nat.lt_or_ge j ys.length with z1 | z1
      · rw [List.getElem?_append_left z1] at e
        exact keep (mono _ _ _ _ hs3.t (hR j z e))
      · rw [List.getElem?_append_right z1] at e
        obtain ⟨rfl, rfl⟩ : j = i ∧ y = z := by
          rcases Nat.eq_zero_or_pos (j - ys.length) with q | q
          · rw [q] at e
            exact ⟨by omega, Option.some.inj e⟩
          · rw [List.getElem?_eq_none (by show 1 ≤ _; omega)] at e
            cases e
        exact keep hR3
  · left
    obtain rfl : i = n := Nat.le_antisymm hi hge
    exact ⟨Nat.le_refl _, h D ys _ hD hs hy hR hd⟩
theorem comp_lstR (R : Nat → V → Hp → Prop) (mono : ∀ i y H H', SameT H H' → R i y H → R i y H') (hq : SqL K H1 a xs) (hn : xs.length ≤ sizeLine)
    (step : ∀ (i : Nat) (x : V) (H2 : Hp) (k : VK) (k0 : Hp → Prop), Same H1 H2 → xs[i]? = some x → (∀ y H3, Same H2 H3 → R i y H3 → k y H3) →
      c (σ0.set i0 (some x)) H2 fun b H4 => if b = true then te (σ0.set i0 (some x)) H4 k else k0 H4)
    (h : ∀ D ys H2, H1 D = none → Same H1 H2 → ys.length = xs.length → (∀ i y, ys[i]? = some y → R i y H2) → H2 D = some (.lst ys) → Q D H2) :
    ∀ D, H1 D = none → ∃ W : Nat → Nat → St → Hp → Prop, (∃ m, W 0 m σ0 (upd H1 D (.lst []))) ∧ ∀ i m σ1 H2, W i m σ1 H2 →
      ((Itl K a).stop i H2 ∧ Q D H2) ∨ ((Itl K a).go i H2 ∧ ∃ N : St → Hp → Prop, (∀ σ' H', N σ' H' → ∃ m', m' < m ∧ W (i + 1) m' σ' H') ∧
        ∀ x H', (Itl K a).yld i H2 x H' → gName i0 x σ1 H' fun σ2 H3 => c σ2 H3 fun b H4 => if b = true then te σ2 H4 fun y H5 => ∃ xs, H5 D = some (.lst xs) ∧ xs.length < sizeLine ∧ N σ2 (upd H5 D (.lst (xs ++ [y]))) else N σ2 H4) := by
  intro D hD
  refine ⟨fun i m σ1 H2 => σ1.set i0 none = σ0.set i0 none ∧ Same H1 H2 ∧ (∃ ys, ys.length = i ∧ (∀ j y, ys[j]? = some y → R j y H2) ∧ H2 D = some (.lst ys)) ∧ i ≤ xs.length ∧ m = xs.length - i, ⟨xs.length, rfl, .upd_new hD, ⟨[], rfl, fun j y e => (by cases e), upd_same⟩, Nat.zero_le _, rfl⟩, ?_⟩
  rintro i m σ1 H2 ⟨hσ, hs, ⟨ys, hy, hR, hd⟩, hi, rfl⟩
  have hset : ∀ v : Option V, σ1.set i0 v = σ0.set i0 v := fun v => by
    have z := congrArg (fun l => List.set l i0 v) hσ
    simpa using z
  rcases Nat.lt_or_ge i xs.length with hlt | hge
  · right
    refine ⟨⟨xs, xs[i], hs.seq hq, by simp [hlt]⟩, fun σ' H' => σ'.set i0 none = σ0.set i0 none ∧ Same H1 H' ∧ ∃ ys, ys.length = i + 1 ∧ (∀ j y, ys[j]? = some y → R j y H') ∧ H' D = some (.lst ys), fun σ' H' ⟨a, b, c⟩ => ⟨xs.length - (i + 1), by omega, a, b, c, hlt, rfl⟩, ?_⟩
    rintro x H' ⟨rfl, hx⟩
    have hx := hx xs (hs.seq hq)
    show c (σ1.set i0 (some x)) _ _
    rw [hset]
    refine step i x _ _ _ hs hx fun y H3 hs3 hR3 => ⟨_, hs3 _ _ hd, by omega, ?_, (hs.trans hs3).upd_ne' hD, ys ++ [y], by rw [List.length_append]; show _ + 1 = _; omega, fun j z e => ?_, upd_same⟩
    · simp
    · have keep : ∀ {j z}, R j z H3 → R j z (upd H3 D (.lst (ys ++ [y]))) := fun {j z} q => mono _ _ _ _ (.lst (hs3 _ _ hd)) q
      rcases Nat.lt_or_ge j ys.length with z1 | z1
      · rw [List.getElem?_append_left z1] at e
        exact keep (mono _ _ _ _ hs3.t (hR j z e))
      · rw [List.getElem?_append_right z1] at e
        obtain ⟨rfl, rfl⟩ : j = i ∧ y = z := by
          rcases Nat.eq_zero_or_pos (j - ys.length) with q | q
          · rw [q] at e
            exact ⟨by omega, Option.some.inj e⟩
          · rw [List.getElem?_eq_none (by show 1 ≤ _; omega)] at e
            cases e
        exact keep hR3
  · left
    obtain rfl : i = xs.length := Nat.le_antisymm hi hge
    exact ⟨⟨xs, hs.seq hq, Nat.le_refl _⟩, h D ys _ hD hs hy hR hd⟩
end
end L2

set_option Elab.async false
set_option linter.all false
set_option maxRecDepth 100000
namespace L2
open PySem PySem.Spec PyProof.Rows
def Itc (lo c : Int) (n : Nat) : It := ⟨fun i _ => i < n, fun i H x H' => H' = H ∧ x = .int (lo + (i : Int) * c), fun i _ => n ≤ i⟩
def half (lo hi : Int) : Nat := ((hi - lo + 1) / 2).toNat
section
variable {X : Cx} {tg : Expr}
def iRng3 (ta : TA) : TI := fun σ H R => ta σ H fun vs H1 => ∃ i j : Int, vs = [.int i, .int j, .int 2] ∧ (-(2 ^ 62) ≤ i ∧ i < 2 ^ 62 ∧ -(2 ^ 62) ≤ j ∧ j < 2 ^ 62) ∧ R (Itc i 2 (half i j)) H1
end
def pickV (xs : List V) (k : Int) : List V := (sliceRange (sliceBounds none none (some k) xs.length).1 (sliceBounds none none (some k) xs.length).2.1 (sliceBounds none none (some k) xs.length).2.2).filterMap (xs[·]?)
section
variable {X : Cx} {e c : Expr} {te : TE} {ts : TO} {pos p2 : Pos}
def tSlS (K : PySem.W.Frag) (te : TE) (ts : TO) : TE := fun σ H Q => te σ H fun x H1 => ts σ H1 fun o H2 => ∃ a xs k, x = .ref a ∧ o = some k ∧ k ≠ 0 ∧ SqL K H2 a xs ∧ (pickV xs k).length ≤ sizeLine ∧ ∀ p, H2 p = none → Q (.ref p) (upd H2 p (.lst (pickV xs k)))
end
end L2

set_option Elab.async false
set_option linter.all false
set_option maxRecDepth 100000
namespace L2
open PySem PySem.Spec PyProof.Rows
def preS (h : Heap) (vs : List Value) : Heap := ((h.push (seqObj "list" #[] 0)).update h.objs.size (Obj.mapSeq (· ++ vs.toArray))).push (seqObj "list" vs.toArray 0)
theorem vals_get : ∀ {xs : List V} {us : List Value}, xs.length = us.length → (∀ (i : Nat) (x : V) (u : Value), xs[i]? = some x → us[i]? = some u → RelV x u) → Vals xs us
  | [], [], _, _ => .nil
  | [], _ :: _, h, _ => by cases h
  | _ :: _, [], h, _ => by cases h
  | x :: xs, u :: us, h, a => .cons (a 0 x u rfl rfl) (vals_get (by simpa using h) fun i x u e1 e2 => a (i + 1) x u e1 e2)
theorem vals_of_ints : ∀ {us : List Value} {ns : List Int}, IntsAre us ns → Vals (ns.map V.int) us
  | _, _, .nil => .nil
  | _, _, .cons n t r => .cons ⟨t, rfl⟩ (vals_of_ints r)
section
variable {X : Cx}
theorem call_sortedI : CallR X (.builtin "sorted") (fun xs H Q => ∃ (p : Addr) (ns : List Int), xs = [.ref p] ∧ SqL X.K H p (ns.map V.int) ∧ ns.length < 64 ∧ ∀ (l : Addr) (ms : List Int), H l = none → ms.Perm ns → ms.Pairwise (· ≤ ·) → Q (.ref l) (upd H l (.lst (ms.map V.int)))) := by
  intro pins s σ H xs us Q I r h
  obtain ⟨p, ns, rfl, hq, h64, q⟩ := h
  obtain ⟨u, rfl, rx⟩ := vals1 r
  cases rx
  obtain ⟨its, r', pl, hz⟩ := I.list hq
  have hi := intsAre_of r'
  have hl : its.length = ns.length := by rw [← r'.length, List.length_map]
  refine sorted_ints pl.isList hi (by omega) fun out ms a1 a2 a3 => ?_
  have kp : ∀ b o, s.heap.get? b = some o → (sortedAll s.heap its out).get? b = some o := fun b o e => sortedAll_old e
  have hsz : ((s.heap.push (seqObj "list" #[] 0)).update s.heap.objs.size (Obj.mapSeq (· ++ its.toArray))).objs.size = s.heap.objs.size + 1 := by
    rw [Heap.size_update, size_push']
  have hoL : (preS s.heap its).get? (s.heap.objs.size + 1) = some (seqObj "list" its.toArray 0) := by
    unfold preS
    rw [← hsz]
    exact Heap.get?_push_size _ rfl
  obtain ⟨c, hc⟩ := PyProof.Rows.sortedHeap_at (out := out) hoL
  refine ⟨.ref (s.heap.objs.size + 1), _, I.laid (a := s.heap.objs.size + 1) (o := .lst (ms.map V.int)) (t' := s.toks) kp (Nat.le_succ _) ?_, rfl, q _ _ (I.hok.fresh (Nat.le_succ _)) a2 a3⟩
  refine ⟨?_, out.toList, c, vals_of_ints a1, ?_⟩
  · rw [List.length_map, a2.length_eq, sizeLine_eq]
    omega
  · rw [show out.toList.toArray = out by simp]
    exact hc
theorem bt_sortedI : bootBuiltins "sorted" = some (.builtin "sorted") := by decide +kernel
theorem mt_popAtR : MtR X "list.pop" rPopAt := mt_popAt
def rangeV (n : Nat) : List V := (List.range n).map fun (i : Nat) => V.int (i : Int)
def tLR (ta : TA) : TE := fun σ H Q => ta σ H fun vs H1 => ∃ n : Nat, vs = [.int (n : Int)] ∧ n ≤ 1000 ∧ ∀ p, H1 p = none → Q (.ref p) (upd H1 p (.lst (rangeV n)))
theorem pe_listRange {a : Expr} {ta : TA} {p p' pos pos' : Pos} (hg : Gl X "list") (hm : X.mg "list" = none) (hg' : Gl X "range") (hm' : X.mg "range" = none) (hc : X.calm = true) (ha : PA X [a] ta)
    (hs : starEach [a] X.env = [(false, eval a X.env)] := by rfl) (hs' : starEach [.Call (.Name "range" p') [a] [] pos'] X.env = [(false, eval (.Call (.Name "range" p') [a] [] pos') X.env)] := by rfl) :
    PE X (.Call (.Name "list" p) [.Call (.Name "range" p') [a] [] pos'] [] pos) (tLR ta) := by
  intro pins s σ H Q I h
  refine Call_ (ld_blt I hg hm bt_list (PyProof.Rows.callWith_type1 ?_ hs' rfl))
  rw [hs']
  show wpAny _ _ (spliced ((false, eval (.Call (.Name "range" p') [a] [] pos') X.env) :: [])) _ _ s
  refine Calls.spliced_cons ?_
  refine Call_ (ld_blt I hg' hm' boot_range (PyProof.Rows.callWith_type1 (thn (ha pos' pins s σ H _ I h) fun us s1 ⟨vs, H1, I1, r1, q1⟩ => ?_) hs rfl))
  obtain ⟨n, e, hn, q⟩ := q1
  subst e
  obtain ⟨u, rfl, t, rfl⟩ := vals1 r1
  refine call_range_1 ?_
  refine Calls.spliced_nil ?_
  refine call_list_range (I1.ok.hd hc) (IsRange.new ..) (small_one (by omega) (by omega) (by omega) (by omega)) (n := n) (by rw [rangeSize_nat]; omega) (by omega) fun h' tk acc c hk hS hacc => ?_
  have hk2 : ∀ b o, s1.heap.get? b = some o → h'.get? b = some o := fun b o e => hk b o (Heap.get?_push_of_some _ e)
  have vv : Vals (rangeV n) acc.toList := by
    refine vals_get (by unfold rangeV; rw [List.length_map, List.length_range, Array.length_toList, hacc.1]) fun i x u hx hu => ?_
    have hi : i < n := by
      obtain ⟨z, _⟩ := List.getElem?_eq_some_iff.mp hx
      unfold rangeV at z
      rw [List.length_map, List.length_range] at z
      exact z
    unfold rangeV at hx
    rw [List.getElem?_map, List.getElem?_range hi] at hx
    obtain rfl : V.int (i : Int) = x := Option.some.inj hx
    obtain ⟨t', rfl⟩ := hacc.2 i u (by simpa using hu)
    exact ⟨t', by rw [show (0 : Int) + (i : Int) * 1 = (i : Int) by omega]⟩
  refine ⟨.ref _, _, I1.laid (o := .lst (rangeV n)) (t' := tk) hk2 ?_ ?_, rfl, q _ (I1.hok.fresh ?_)⟩
  · rw [Heap.size_push]; exact Nat.le_succ _
  · refine ⟨by unfold rangeV; rw [List.length_map, List.length_range]; exact Nat.le_of_lt (small1000 hn), acc.toList, c, vv, by simpa using hS⟩
  · rw [Heap.size_push]; exact Nat.le_succ _
end
end L2

set_option Elab.async false
set_option linter.all false
set_option maxRecDepth 100000
namespace L2
open PySem PySem.Spec PyProof.Rows
section
variable {X : Cx}
mutual
inductive DatX (K : PySem.W.Frag) (H : Hp) : V → PyData → Prop
  | int (i : Int) : DatX K H (.int i) (.int i)
  | non : DatX K H .non .none
  | bl (b : Bool) : DatX K H (.bl b) (.bool b)
  | str (x : Str) : PyData.strOk x = true → DatX K H (.str x) (.str x)
  | lst {p : Addr} {xs : List V} {ds : List PyData} : SqL K H p xs → DatXAll K H xs ds → DatX K H (.ref p) (.list ds)
  | tup {p : Addr} {xs : List V} {ds : List PyData} : SqT K H p xs → DatXAll K H xs ds → DatX K H (.ref p) (.tuple ds)
inductive DatXAll (K : PySem.W.Frag) (H : Hp) : List V → List PyData → Prop
  | nil : DatXAll K H [] []
  | cons {x : V} {d : PyData} {xs : List V} {ds : List PyData} : DatX K H x d → DatXAll K H xs ds → DatXAll K H (x :: xs) (d :: ds)
end
mutual
theorem DatX.reads {pins : List (Addr × Obj)} {σ : St} {H : Hp} {s : Shared} (I : Inv X pins σ H s) : ∀ {v : V} {d : PyData} {u : Value}, DatX X.K H v d → RelV v u → ∃ as, Reads s.heap u d as
  | _, _, u, .int i, r => by obtain ⟨t, rfl⟩ := (show ∃ t, u = Value.int i t from r); exact ⟨_, .int i t⟩
  | _, _, u, .non, r => by obtain rfl : u = Value.none := r; exact ⟨_, .none⟩
  | _, _, u, .bl b, r => by obtain rfl : u = Value.bool b := r; exact ⟨_, .bool b⟩
  | _, _, u, .str x _, r => by obtain ⟨t, rfl⟩ := (show ∃ t, u = Value.str x t from r); exact ⟨_, .str x t⟩
  | _, _, u, .lst (p := p) hq ha, r => by
    obtain rfl : u = .ref p := r
    obtain ⟨its, r', pl, hz⟩ := I.list hq
    obtain ⟨o, ho, hc, n, hd⟩ := pl.isList
    obtain ⟨as, z⟩ := DatXAll.reads I ha r'
    exact ⟨_, .list ho hc hd (by simpa using z)⟩
  | _, _, u, .tup (p := p) hq ha, r => by
    obtain rfl : u = .ref p := r
    obtain ⟨its, r', pl, hz⟩ := I.tuple hq
    obtain ⟨o, ho, hc, n, hd⟩ := pl
    obtain ⟨as, z⟩ := DatXAll.reads I ha r'
    exact ⟨_, .tuple ho hc hd (by simpa using z)⟩
theorem DatXAll.reads {pins : List (Addr × Obj)} {σ : St} {H : Hp} {s : Shared} (I : Inv X pins σ H s) : ∀ {vs : List V} {ds : List PyData} {us : List Value}, DatXAll X.K H vs ds → Vals vs us → ∃ as, ReadsAll s.heap us ds as
  | _, _, _, .nil, .nil => ⟨_, .nil⟩
  | _, _, _, .cons h t, .cons r rs => by
    obtain ⟨a1, z1⟩ := DatX.reads I h r
    obtain ⟨a2, z2⟩ := DatXAll.reads I t rs
    exact ⟨_, .cons z1 z2⟩
end
mutual
theorem DatX.lay {K : PySem.W.Frag} {H : Hp} : ∀ {v : V} {d : PyData}, DatX K H v d → d.canLay0 = true ∧ PyData.eqv d d = true
  | _, _, .int i => ⟨rfl, by simp [PyData.eqv]⟩
  | _, _, .non => ⟨rfl, by simp [PyData.eqv]⟩
  | _, _, .bl b => ⟨rfl, by simp [PyData.eqv]⟩
  | _, _, .str x h => ⟨h, by simp [PyData.eqv]⟩
  | _, _, .lst _ h => by
    obtain ⟨a, b⟩ := DatXAll.lay h
    exact ⟨by simpa [PyData.canLay0] using a, by simpa [PyData.eqv] using b⟩
  | _, _, .tup _ h => by
    obtain ⟨a, b⟩ := DatXAll.lay h
    exact ⟨by simpa [PyData.canLay0] using a, by simpa [PyData.eqv] using b⟩
theorem DatXAll.lay {K : PySem.W.Frag} {H : Hp} : ∀ {vs : List V} {ds : List PyData}, DatXAll K H vs ds → PyData.canLayAll0 ds = true ∧ PyData.eqvAll ds ds = true
  | _, _, .nil => ⟨rfl, rfl⟩
  | _, _, .cons h t => by
    obtain ⟨a, b⟩ := DatX.lay h
    obtain ⟨c, d⟩ := DatXAll.lay t
    exact ⟨by simp [PyData.canLayAll0, a, c], by simp [PyData.eqvAll, b, d]⟩
end
mutual
theorem DatX.same {K : PySem.W.Frag} {H H' : Hp} (s : Same H H') : ∀ {v : V} {d : PyData}, DatX K H v d → DatX K H' v d
  | _, _, .int i => .int i
  | _, _, .non => .non
  | _, _, .bl b => .bl b
  | _, _, .str x h => .str x h
  | _, _, .lst q h => .lst (s.seq q) (DatXAll.same s h)
  | _, _, .tup q h => .tup (s.sqt q) (DatXAll.same s h)
theorem DatXAll.same {K : PySem.W.Frag} {H H' : Hp} (s : Same H H') : ∀ {vs : List V} {ds : List PyData}, DatXAll K H vs ds → DatXAll K H' vs ds
  | _, _, .nil => .nil
  | _, _, .cons h t => .cons (DatX.same s h) (DatXAll.same s t)
end
def rEqX (K : PySem.W.Frag) (b : Bool) : R2 := fun x y H Q => ∃ d, DatX K H x d ∧ DatX K H y d ∧ d.depth ≤ 64 ∧ Q (.bl b) H
end


end L2

set_option Elab.async false
set_option linter.all false
set_option maxRecDepth 100000
namespace L2
open PySem PySem.Spec PyProof.Rows
def rIndexL (K : PySem.W.Frag) : V → List V → Hp → VK → Prop := fun x vs H Q => ∃ (p : Addr) (ns : List Int) (i : Int) (j : Nat), x = .ref p ∧ vs = [.int i] ∧ SqL K H p (ns.map V.int) ∧ ns[j]? = some i ∧ (∀ m, m < j → ns[m]? ≠ some i) ∧ Q (.int (j : Nat)) H
section
variable {X : Cx}
end
end L2

set_option Elab.async false
set_option linter.all false
set_option maxRecDepth 100000
namespace L2
open PySem PySem.Spec PyProof.Rows
section
variable {X : Cx}
variable {o e : Expr} {es : List Expr} {to : TE} {t : TA} {name : Str} {apos cpos : Pos} {T id : String} {r : V → List V → Hp → VK → Prop}
end
end L2

set_option Elab.async false
set_option linter.all false
set_option maxRecDepth 100000
namespace L2
open PySem PySem.Spec PyProof.Rows
section
variable {A : Around} {prog : Program} {w : World} {E : Value → Shared → Prop}
end
section
variable {X : Cx} {pos : Pos}
def gLst (K : PySem.W.Frag) (n : Nat) (t : TGs) : TG := fun v σ H Q => ∃ a xs, v = .ref a ∧ SqL K H a xs ∧ xs.length = n ∧ t xs σ H Q
end
end L2

set_option Elab.async false
set_option linter.all false
set_option maxRecDepth 100000
namespace L2
open PySem PySem.Spec PyProof.Rows
section
variable {κ : Type} [DecidableEq κ]
def valV (kvs : List (κ × V)) (k : κ) : Option V := (kvs.find? fun kv => decide (kv.1 = k)).map (·.2)
def putK (kvs : List (κ × V)) (k : κ) (v : V) : List (κ × V) :=
  if (kvs.any fun kv => decide (kv.1 = k)) = true then kvs.map (fun kv => if kv.1 = k then (kv.1, v) else kv) else kvs ++ [(k, v)]
def dropK (kvs : List (κ × V)) (k : κ) : List (κ × V) := kvs.filter fun kv => decide (kv.1 ≠ k)

end
abbrev KT (H : Hp) : List (List Key × V) → List (List Key × Addr × Value) → Prop := Paired fun p q => p.1 = q.1 ∧ H q.2.1 = some (.tup (p.1.map kV)) ∧ RelV p.2 q.2.2
section
variable {P : Program} {w : World} {H : Hp} {h : Heap} {a : Addr}
end
def DGet (H : Hp) (a : Addr) (y : V) (r : Option V) : Prop :=
  (∃ kvs k, Rd H a (.dK kvs) ∧ y = kV k ∧ r = valV kvs k) ∨ ∃ kvs k b, Rd H a (.dT kvs) ∧ y = .ref b ∧ H b = some (.tup (k.map kV)) ∧ r = valV kvs k
def DPut (H : Hp) (a : Addr) (y v : V) (H' : Hp) : Prop :=
  (∃ kvs k, H a = some (.dK kvs) ∧ y = kV k ∧ kvs.length < sizeLine ∧ H' = upd H a (.dK (putK kvs k v))) ∨
  ∃ kvs k b, H a = some (.dT kvs) ∧ y = .ref b ∧ H b = some (.tup (k.map kV)) ∧ kvs.length < sizeLine ∧ H' = upd H a (.dT (putK kvs k v))
section
variable {X : Cx} {pins : List (Addr × Obj)} {σ : St} {H : Hp} {s : Shared} {a : Addr} {y v : V} {u r : Value} {o : Option V} {A : Around} {E : Value → Shared → Prop}


end

section
variable {X : Cx} {pins : List (Addr × Obj)} {σ : St} {H : Hp} {s : Shared} {a : Addr} {kvs : List (Key × V)} {k : Key} {u : Value} {A : Around} {E : Value → Shared → Prop}
end
def NoSl (i : Expr) : Prop := ∀ ov iv, subscripted i false ov iv = operate [ov, iv] (getItem ov iv)
def tDGet (td ty : TE) : TE := fun σ H Q => td σ H fun x H1 => ty σ H1 fun y H2 => ∃ a v, x = .ref a ∧ DGet H2 a y (some v) ∧ Q v H2
def tDIn (ty td : TE) : TE := fun σ H Q => ty σ H fun y H1 => td σ H1 fun x H2 => ∃ a o, x = .ref a ∧ DGet H2 a y o ∧ Q (.bl o.isSome) H2
def tDNotIn (ty td : TE) : TE := fun σ H Q => ty σ H fun y H1 => td σ H1 fun x H2 => ∃ a o, x = .ref a ∧ DGet H2 a y o ∧ Q (.bl (!o.isSome)) H2
def sDPut (td ty tv : TE) : TS := fun D σ H => tv σ H fun v H1 => td σ H1 fun x H2 => ty σ H2 fun y H3 => ∃ a H4, x = .ref a ∧ DPut H3 a y v H4 ∧ D.nx σ H4
def sDAug (td ty tv : TE) (rd : V → V → Hp → VK → Prop) : TS := fun D σ H => td σ H fun x H1 => ty σ H1 fun y H2 => ∃ a v, x = .ref a ∧ DGet H2 a y (some v) ∧
  tv σ H2 fun y2 H3 => rd v y2 H3 fun z H4 => ∃ H5, DPut H4 a y z H5 ∧ D.nx σ H5
def sDDel (td ty : TE) : TS := fun D σ H => td σ H fun x H1 => ty σ H1 fun y H2 => ∃ a kvs k, x = .ref a ∧ H2 a = some (.dK kvs) ∧ y = kV k ∧ (valV kvs k).isSome = true ∧ D.nx σ (upd H2 a (.dK (dropK kvs k)))

section
variable {X : Cx} {o i e value : Expr} {pos pos' tpos : Pos} {td ty tv : TE}
end

end L2
namespace L2
open PySem PySem.Spec PyProof.Rows
section
variable {κ : Type} [DecidableEq κ]
end
end L2
namespace L2
open PySem PySem.Spec PyProof.Rows
def tDNewT : TE := fun _ H Q => ∀ p, H p = none → Q (.ref p) (upd H p (.dT []))
section
variable {X : Cx} {pos : Pos}
end
end L2

set_option Elab.async false
set_option linter.all false
set_option maxRecDepth 100000
namespace PySem.W
open PySem PySem.Calls PyProof.Rows
def KasT.Ok {α : Type} (n : Nat) (P : α → Prop) : KasT α → Prop
  | .ret a => P a
  | .ask i j k => i < n ∧ j < n ∧ ∀ b, (k b).Ok n P
def KasT.run {α : Type} (lt : Nat → Nat → Bool) : KasT α → α
  | .ret a => a
  | .ask i j k => (k (lt i j)).run lt
def KPm (n : Nat) (p : Array Nat) : Prop := p.toList.Perm (List.range n)
section
variable {prog : Program} {w : World} {A : Around} {E : Value → Shared → Prop} {s : Shared}
def preSort (h : Heap) (vs : List Value) : Heap := ((h.push (seqObj "list" #[] 0)).update h.objs.size (Obj.mapSeq (· ++ vs.toArray))).push (seqObj "list" vs.toArray 0)
end
end PySem.W
namespace L2
open PySem PySem.Spec PyProof.Rows PySem.W
def intOf : V → Int
  | .int i => i
  | _ => 0
def tupOf (H : Hp) (a : Addr) : List Int := match H a with
  | some (.tup xs) => xs.map intOf
  | _ => []
section
variable {X : Cx} {pins : List (Addr × Obj)} {σ : St} {H : Hp} {s : Shared}
def TupI (H : Hp) (a : Addr) : Prop := ∃ (i : Int) (ns : List Int), H a = some (.tup ((i :: ns).map V.int))
end
end L2

set_option Elab.async false
set_option linter.all false
set_option maxRecDepth 100000
namespace L2
open PySem PySem.Spec PyProof.Rows
section
variable {X : Cx} {a b c d : Expr} {ta tb tc td : TE} {pos : Pos}
def tChain3 (r r' r'' : R2) (ta tb tc td : TE) : TT := fun σ H Q => ta σ H fun x H1 => tb σ H1 fun y H2 => r x y H2 fun z H3 => ∃ k, z = .bl k ∧
  (if k = true then tc σ H3 fun w' H4 => r' y w' H4 fun z2 H5 => ∃ k2, z2 = .bl k2 ∧ (if k2 = true then td σ H5 fun v' H6 => r'' w' v' H6 fun z3 H7 => ∃ k3, z3 = .bl k3 ∧ Q k3 H7 else Q false H5) else Q false H3)
end
section
variable {K : PySem.W.Frag} {a : Addr} {xs : List V} {σ0 : St} {H1 : Hp} {g : TG} {c : TT} {te : TE} {Q : Addr → Hp → Prop}
end
end L2

set_option Elab.async false
set_option linter.all false
set_option maxRecDepth 100000
namespace L2
open PySem PySem.Spec PyProof.Rows
section
variable {X : Cx} {Ex : XS} {o e : Expr} {es : List Expr} {ta : TE} {t : TA} {m : Str} {apos pos : Pos} {j k : Nat}
end
end L2
namespace L2
open PySem PySem.Spec PyProof.Rows
section
variable {X : Cx}
def rNeR (K : PySem.W.Frag) (b : Bool) : R2 := fun x y H Q => ∃ (l l' : Addr) (as : List Addr), x = .ref l ∧ y = .ref l' ∧ SqL K H l (as.map V.ref) ∧ SqL K H l' (as.map V.ref) ∧ Q (.bl b) H
end
section
variable {K : PySem.W.Frag} {a : Addr} {xs : List V} {σ0 : St} {H1 : Hp} {i0 : Nat} {c : TT} {te : TE} {Q : Addr → Hp → Prop}
end
end L2

set_option Elab.async false
set_option linter.all false
set_option maxRecDepth 100000
namespace L2
open PySem PySem.Spec PyProof.Rows
def blkC (X : Cx) (NB : List Str) (sc : Scope) (cl : List (Str × Addr)) (y0 : Str) (s₃ : Shared) (H₃ : Hp) (fp : List Addr) : Cx :=
  { X with N := NB, s₀ := s₃, H₀ := H₃, env := compEnvC sc ((y0, s₃.heap.objs.size + 1) :: cl) s₃.heap.objs.size X.env, outer := X.stack, stack := X.stack, ex := fp, fn := fun y => y == y0, pn := [], xe := fun _ _ => False }
structure BlkC (X : Cx) (NB : List Str) (pick : List (Option Nat)) (sc : Scope) (cl : List (Str × Addr)) (y0 : Str) : Prop where
  clos : closureFor sc X.env = pure cl
  kind : sc.kind = .function
  cellsB : ∀ n, cellsFrom n sc.names cl = (y0, n) :: cl
  pushB : ∀ h : Heap, pushCells h sc.names = h.push { cls := .type "cell", data := .cell none }
  names : ∀ y ∈ sc.names, y.2 = .local → sc.names.lookup y.1 = some .local
  sub : AllLk X.env.cells cl
  has : ∀ n x, ((relabel sc X.env).names.lookup x = some .cell ∨ (relabel sc X.env).names.lookup x = some .free) → ∃ c, ((y0, n) :: cl).lookup x = some c
  len : pick.length = NB.length
  got : ∀ (j i : Nat) (x : Str), pick[j]? = some (some i) → NB[j]? = some x → (X.N[i]? = some x ∧ (X.env.kindOf x = some .cell ∨ X.env.kindOf x = some .free) ∧ (relabel sc X.env).names.lookup x = some .cell) ∧ (x == y0) = false
def noneOf (y0 : Str) : List (Option Nat) → List Str → Bool
  | some _ :: p, x :: r => !(x == y0) && noneOf y0 p r
  | none :: p, _ :: r => noneOf y0 p r
  | _, _ => true
section
variable {M : Model} {A : Around} {E : Value → Shared → Prop} {s : Shared}
end
section
variable {X : Cx} {NB : List Str} {pick : List (Option Nat)} {sc : Scope} {cl : List (Str × Addr)} {y0 : Str} {pins : List (Addr × Obj)} {σ : St} {H : Hp} {s : Shared} {fp : List Addr}
end
section
variable {X : Cx} {NB : List Str} {pick : List (Option Nat)} {sc : Scope} {cl : List (Str × Addr)} {y0 : Str} {elt target iter : Expr} {ifs : List Expr} {pos : Pos} {wi : TI} {g : TG} {c : TT} {te : TE}
end
end L2

set_option Elab.async false
set_option linter.all false
set_option maxRecDepth 100000
namespace HT
open PySem PyProof.Rows
def lexLe : List Int → List Int → Bool
  | [], [] => true
  | [], _ :: _ => true
  | _ :: _, [] => false
  | x :: xs, y :: ys => if x = y then lexLe xs ys else decide (x ≤ y)
section
open PySem.SeqAt
open PySem.AutoSeq1 (wpAny_loadPart')
open PySem.MeetsSeq PySem.MeetsSeq2 PySem.MeetsSeq3
end
section
variable {prog : Program} {w : World} {A : Around} {E : Value → Shared → Prop} {s : Shared}
end
end HT
namespace L2
open PySem PySem.Spec PyProof.Rows
section
variable {X : Cx}
def rLeT (K : PySem.W.Frag) : R2 := fun x y H Q => ∃ a b ns ms, x = .ref a ∧ y = .ref b ∧ SqT K H a (ns.map V.int) ∧ SqT K H b (ms.map V.int) ∧ Q (.bl (HT.lexLe ns ms)) H
end
end L2
namespace L2
open PySem PySem.Spec PyProof.Rows
section
variable {X : Cx}
def rRemove : V → List V → Hp → VK → Prop := fun x vs H Q => ∃ (p : Addr) (ns : List Int) (i : Int) (j : Nat), x = .ref p ∧ vs = [.int i] ∧ H p = some (.lst (ns.map V.int)) ∧ ns[j]? = some i ∧ (∀ m, m < j → ns[m]? ≠ some i) ∧ Q .non (upd H p (.lst ((ns.eraseIdx j).map V.int)))
end
end L2
namespace PySem
section
variable {prog : Program} {w : World} {K : Type} [DecidableEq K] {knd : HeapKind prog w K} {A : Around} {E : Value → Shared → Prop} {s : Shared}
def HashesApart (knd : HeapKind prog w K) (xs : List (K × Addr × Value)) : Prop := (xs.map fun x => knd.hash x.1).Nodup
end
section
variable {prog : Program} {w : World} {K : Type} [DecidableEq K] {knd : KeyKind prog w K} {A : Around} {E : Value → Shared → Prop} {s : Shared}
end
end PySem
namespace L2
open PySem PySem.Spec PyProof.Rows
def rDPopT : V → List V → Hp → VK → Prop := fun x vs H Q => ∃ (a b : Addr) (kvs : List (List Key × V)) (k : List Key) (v : V), x = .ref a ∧ vs = [.ref b] ∧ H a = some (.dT kvs) ∧ H b = some (.tup (k.map kV)) ∧ valV kvs k = some v ∧ Q v (upd H a (.dT (dropK kvs k)))
section
variable {X : Cx}
end
def twoKeys : List (List Key) := [[.inl 0, .inl 1], [.inl 0, .inl 2], [.inl 0, .inl 3], [.inl 0, .inl 4], [.inl 0, .inl 5], [.inl 1, .inl 2], [.inl 1, .inl 3], [.inl 1, .inl 4], [.inl 1, .inl 5], [.inl 2, .inl 3], [.inl 2, .inl 4], [.inl 2, .inl 5], [.inl 3, .inl 4], [.inl 3, .inl 5], [.inl 4, .inl 5]]
def hsh2 (k : List Key) : Int := reduceHash (Builtin.Tuple.tupleHashOf (k.map fun | .inl i => hashInt i | .inr _ => 0))
section
variable {X : Cx}
end
end L2

set_option Elab.async false
set_option linter.all false
set_option maxRecDepth 100000
namespace L2
open PySem PySem.Spec PyProof.Rows
section
variable {X : Cx}
def rNeX2 (K : PySem.W.Frag) : R2 := fun x y H Q => ∃ d d', DatX K H x d ∧ DatX K H y d' ∧ d.depth ≤ 64 ∧ d'.depth ≤ 64 ∧ Q (.bl (!PyData.eqv d d')) H
theorem op_neX2 (hu : X.A.units + 64 < cLine) : OpR X (compareOp .NotEq) (rNeX2 X.K) := by
  intro pins s σ H x y v u Q I rx ry h
  obtain ⟨d, d', h1, h2, hd, hd', q⟩ := h
  obtain ⟨as, r1⟩ := h1.reads I rx
  obtain ⟨bs, r2⟩ := h2.reads I ry
  have sh : SeqAt.shaped d = true := by
    show (d.canLay0 && decide (d.depth ≤ 64)) = true
    rw [h1.lay.1, decide_eq_true hd]; rfl
  have sh' : SeqAt.shaped d' = true := by
    show (d'.canLay0 && decide (d'.depth ≤ 64)) = true
    rw [h2.lay.1, decide_eq_true hd']; rfl
  exact ne_dataH r1 r2 sh sh' hu ⟨.bl (!PyData.eqv d d'), H, I, rfl, q⟩
end
end L2

set_option Elab.async false
set_option linter.all false
set_option maxRecDepth 100000
namespace L2
open PySem PySem.Spec PyProof.Rows
section
variable {X : Cx}
theorem pe_fldK (K : PySem.W.Frag) {e : Expr} {f : Str} {ta : TE} {pos : Pos} (he : PE X e ta) (hb : attributeBase e f X.env (eval e X.env) = eval e X.env) (h : X.K = K := by rfl) : PE X (.Attribute e f pos) (tFld K ta f) := by
  subst h
  exact pe_fld he hb
end
section
variable {K : PySem.W.Frag} {a : Addr} {xs : List V} {lo : Int} {n : Nat} {σ0 : St} {H1 : Hp} {i0 : Nat} {c : TT} {te : TE} {Q : Addr → Hp → Prop}
structure NewL (f : Nat → List V) (H1 : Hp) (D : Addr) (rs : List Addr) (H : Hp) : Prop where
  at_ : ∀ i r, rs[i]? = some r → H1 r = none ∧ r ≠ D ∧ H r = some (.lst (f i))
  nd : rs.Nodup
theorem NewL.more {f : Nat → List V} {H1 H2 H3 : Hp} {D r : Addr} {rs : List Addr} (h : NewL f H1 D rs H2) (hs : Same H1 H2) (hd : H2 D = some (.lst (rs.map V.ref))) (s : Same H2 H3) (hr : H2 r = none) (e : H3 r = some (.lst (f rs.length))) : NewL f H1 D (rs ++ [r]) (upd H3 D (.lst ((rs ++ [r]).map V.ref))) := by
  have nD : r ≠ D := fun z => by rw [z, hd] at hr; cases hr
  refine ⟨fun i q hq => ?_, ?_⟩
  · rcases Nat.lt_or_ge i rs.length with z1 | z1
    · rw [List.getElem?_append_left z1] at hq
      obtain ⟨a, b, c⟩ := h.at_ i q hq
      exact ⟨a, b, by rw [upd_ne b]; exact s _ _ c⟩
    · rw [List.getElem?_append_right z1] at hq
      obtain ⟨rfl, rfl⟩ : i = rs.length ∧ r = q := by
        rcases Nat.eq_zero_or_pos (i - rs.length) with z | z
        · rw [z] at hq
          exact ⟨by omega, Option.some.inj hq⟩
        · rw [List.getElem?_eq_none (by show 1 ≤ _; omega)] at hq
          cases hq
      exact ⟨hs.free hr, nD, by rw [upd_ne nD]; exact e⟩
  · refine List.nodup_append.mpr ⟨h.nd, by simp, fun x hx y hy => ?_⟩
    rw [List.mem_singleton] at hy
    subst hy
    rintro rfl
    obtain ⟨i, hi⟩ := List.mem_iff_getElem?.mp hx
    have z := (h.at_ i x hi).2.2
    rw [hr] at z
    cases z
theorem comp_rngN (f : Nat → List V) (hn : n ≤ sizeLine)
    (step : ∀ (i : Nat) (H2 : Hp) (k : VK) (k0 : Hp → Prop), Same H1 H2 → i < n → (∀ r H3, Same H2 H3 → H2 r = none → H3 r = some (.lst (f i)) → k (.ref r) H3) →
      c (σ0.set i0 (some (.int (lo + (i : Int))))) H2 fun b H4 => if b = true then te (σ0.set i0 (some (.int (lo + (i : Int))))) H4 k else k0 H4)
    (h : ∀ D rs H2, H1 D = none → Same H1 H2 → rs.length = n → NewL f H1 D rs H2 → H2 D = some (.lst (rs.map V.ref)) → Q D H2) :
    ∀ D, H1 D = none → ∃ W : Nat → Nat → St → Hp → Prop, (∃ m, W 0 m σ0 (upd H1 D (.lst []))) ∧ ∀ i m σ1 H2, W i m σ1 H2 →
      ((Itr lo n).stop i H2 ∧ Q D H2) ∨ ((Itr lo n).go i H2 ∧ ∃ N : St → Hp → Prop, (∀ σ' H', N σ' H' → ∃ m', m' < m ∧ W (i + 1) m' σ' H') ∧
        ∀ x H', (Itr lo n).yld i H2 x H' → gName i0 x σ1 H' fun σ2 H3 => c σ2 H3 fun b H4 => if b = true then te σ2 H4 fun y H5 => ∃ xs, H5 D = some (.lst xs) ∧ xs.length < sizeLine ∧ N σ2 (upd H5 D (.lst (xs ++ [y]))) else N σ2 H4) := by
  intro D hD
  refine ⟨fun i m σ1 H2 => σ1.set i0 none = σ0.set i0 none ∧ Same H1 H2 ∧ (∃ rs : List Addr, rs.length = i ∧ NewL f H1 D rs H2 ∧ H2 D = some (.lst (rs.map V.ref))) ∧ i ≤ n ∧ m = n - i, ⟨n, rfl, .upd_new hD, ⟨[], rfl, ⟨fun j y e => (by cases e), List.nodup_nil⟩, upd_same⟩, Nat.zero_le _, rfl⟩, ?_⟩
  rintro i m σ1 H2 ⟨hσ, hs, ⟨rs, hy, hR, hd⟩, hi, rfl⟩
  have hset : ∀ v : Option V, σ1.set i0 v = σ0.set i0 v := fun v => by
    have z := congrArg (fun l => List.set l i0 v) hσ
    simpa using z
  rcases Nat.lt_or_ge i n with hlt | hge
  · right
    refine ⟨hlt, fun σ' H' => σ'.set i0 none = σ0.set i0 none ∧ Same H1 H' ∧ ∃ rs : List Addr, rs.length = i + 1 ∧ NewL f H1 D rs H' ∧ H' D = some (.lst (rs.map V.ref)), fun σ' H' ⟨a, b, c⟩ => ⟨n - (i + 1), by omega, a, b, c, hlt, rfl⟩, ?_⟩
    rintro x H' ⟨rfl, rfl⟩
    show c (σ1.set i0 (some (.int (lo + (i : Int))))) _ _
    rw [hset]
    subst hy
    refine step rs.length _ _ _ hs hlt fun r H3 hs3 hr e3 => ⟨_, hs3 _ _ hd, by rw [List.length_map]; omega, by simp, (hs.trans hs3).upd_ne' hD, rs ++ [r], by rw [List.length_append]; rfl, ?_, ?_⟩
    · have z := hR.more hs hd hs3 hr e3
      rw [List.map_append] at z
      exact z
    · rw [upd_same, List.map_append]
      rfl
  · left
    obtain rfl : i = n := Nat.le_antisymm hi hge
    exact ⟨Nat.le_refl _, h D rs _ hD hs hy hR hd⟩
theorem comp_lstN (f : Nat → List V) (hq : SqL K H1 a xs) (hn : xs.length ≤ sizeLine)
    (step : ∀ (i : Nat) (x : V) (H2 : Hp) (k : VK) (k0 : Hp → Prop), Same H1 H2 → xs[i]? = some x → (∀ r H3, Same H2 H3 → H2 r = none → H3 r = some (.lst (f i)) → k (.ref r) H3) →
      c (σ0.set i0 (some x)) H2 fun b H4 => if b = true then te (σ0.set i0 (some x)) H4 k else k0 H4)
    (h : ∀ D rs H2, H1 D = none → Same H1 H2 → rs.length = xs.length → NewL f H1 D rs H2 → H2 D = some (.lst (rs.map V.ref)) → Q D H2) :
    ∀ D, H1 D = none → ∃ W : Nat → Nat → St → Hp → Prop, (∃ m, W 0 m σ0 (upd H1 D (.lst []))) ∧ ∀ i m σ1 H2, W i m σ1 H2 →
      ((Itl K a).stop i H2 ∧ Q D H2) ∨ ((Itl K a).go i H2 ∧ ∃ N : St → Hp → Prop, (∀ σ' H', N σ' H' → ∃ m', m' < m ∧ W (i + 1) m' σ' H') ∧
        ∀ x H', (Itl K a).yld i H2 x H' → gName i0 x σ1 H' fun σ2 H3 => c σ2 H3 fun b H4 => if b = true then te σ2 H4 fun y H5 => ∃ xs, H5 D = some (.lst xs) ∧ xs.length < sizeLine ∧ N σ2 (upd H5 D (.lst (xs ++ [y]))) else N σ2 H4) := by
  intro D hD
  refine ⟨fun i m σ1 H2 => σ1.set i0 none = σ0.set i0 none ∧ Same H1 H2 ∧ (∃ rs : List Addr, rs.length = i ∧ NewL f H1 D rs H2 ∧ H2 D = some (.lst (rs.map V.ref))) ∧ i ≤ xs.length ∧ m = xs.length - i, ⟨xs.length, rfl, .upd_new hD, ⟨[], rfl, ⟨fun j y e => (by cases e), List.nodup_nil⟩, upd_same⟩, Nat.zero_le _, rfl⟩, ?_⟩
  rintro i m σ1 H2 ⟨hσ, hs, ⟨rs, hy, hR, hd⟩, hi, rfl⟩
  have hset : ∀ v : Option V, σ1.set i0 v = σ0.set i0 v := fun v => by
    have z := congrArg (fun l => List.set l i0 v) hσ
    simpa using z
  rcases Nat.lt_or_ge i xs.length with hlt | hge
  · right
    refine ⟨⟨xs, xs[i], hs.seq hq, by simp [hlt]⟩, fun σ' H' => σ'.set i0 none = σ0.set i0 none ∧ Same H1 H' ∧ ∃ rs : List Addr, rs.length = i + 1 ∧ NewL f H1 D rs H' ∧ H' D = some (.lst (rs.map V.ref)), fun σ' H' ⟨a, b, c⟩ => ⟨xs.length - (i + 1), by omega, a, b, c, hlt, rfl⟩, ?_⟩
    rintro x H' ⟨rfl, hx⟩
    have hx := hx xs (hs.seq hq)
    show c (σ1.set i0 (some x)) _ _
    rw [hset]
    subst hy
    refine step rs.length x _ _ _ hs hx fun r H3 hs3 hr e3 => ⟨_, hs3 _ _ hd, by rw [List.length_map]; omega, by simp, (hs.trans hs3).upd_ne' hD, rs ++ [r], by rw [List.length_append]; rfl, ?_, ?_⟩
    · have z := hR.more hs hd hs3 hr e3
      rw [List.map_append] at z
      exact z
    · rw [upd_same, List.map_append]
      rfl
  · left
    obtain rfl : i = xs.length := Nat.le_antisymm hi hge
    exact ⟨⟨xs, hs.seq hq, Nat.le_refl _⟩, h D rs _ hD hs hy hR hd⟩
end
end L2

set_option Elab.async false
set_option linter.all false
set_option maxRecDepth 100000
namespace L2
open PySem PySem.Spec PyProof.Rows
section
variable {X : Cx}
def rEqX2 (K : PySem.W.Frag) : R2 := fun x y H Q => ∃ d d', DatX K H x d ∧ DatX K H y d' ∧ d.depth ≤ 64 ∧ d'.depth ≤ 64 ∧ Q (.bl (PyData.eqv d d')) H
theorem op_eqX2 (hu : X.A.units + 64 < cLine) : OpR X (compareOp .Eq) (rEqX2 X.K) := by
  intro pins s σ H x y v u Q I rx ry h
  obtain ⟨d, d', h1, h2, hd, hd', q⟩ := h
  obtain ⟨as, r1⟩ := h1.reads I rx
  obtain ⟨bs, r2⟩ := h2.reads I ry
  have sh : SeqAt.shaped d = true := by
    show (d.canLay0 && decide (d.depth ≤ 64)) = true
    rw [h1.lay.1, decide_eq_true hd]; rfl
  have sh' : SeqAt.shaped d' = true := by
    show (d'.canLay0 && decide (d'.depth ≤ 64)) = true
    rw [h2.lay.1, decide_eq_true hd']; rfl
  exact eq_dataH r1 r2 sh sh' hu ⟨.bl (PyData.eqv d d'), H, I, rfl, q⟩
end
end L2

set_option Elab.async false
set_option linter.all false
set_option maxRecDepth 100000
namespace L2
open PySem PySem.Spec PyProof.Rows
section
variable {K : PySem.W.Frag} {a a' : Addr} {xs xs' : List V} {lo : Int} {n : Nat} {σ0 : St} {H1 : Hp} {i0 : Nat} {c : TT} {te : TE} {g : TG} {Q : Addr → Hp → Prop}
theorem comp_zipP (Ag : St → Prop) (Iv : Nat → List V → Hp → Prop) (mono : ∀ i ys H H', SameT H H' → Iv i ys H → Iv i ys H') (h0 : Ag σ0) (h00 : Iv 0 [] H1) (hq : SqL K H1 a xs) (hq' : SqL K H1 a' xs') (hlen : xs.length = xs'.length) (hn : xs.length ≤ sizeLine)
    (step : ∀ (i : Nat) (x y : V) (t : Addr) (σ1 : St) (H2 : Hp) (k : St → VK) (k0 : St → Hp → Prop) (ys : List V), Ag σ1 → Same H1 H2 → xs[i]? = some x → xs'[i]? = some y → H2 t = some (.tup [x, y]) → Iv i ys H2 → (∀ σ2 z H3, Ag σ2 → Same H2 H3 → Iv (i + 1) (ys ++ [z]) H3 → k σ2 z H3) → (∀ σ2 H3, Ag σ2 → Same H2 H3 → Iv (i + 1) ys H3 → k0 σ2 H3) →
      g (.ref t) σ1 H2 fun σ2 H3 => c σ2 H3 fun b H4 => if b = true then te σ2 H4 (k σ2) else k0 σ2 H4)
    (h : ∀ D ys H2, H1 D = none → Same H1 H2 → Iv xs.length ys H2 → H2 D = some (.lst ys) → Q D H2) :
    ∀ D, H1 D = none → ∃ W : Nat → Nat → St → Hp → Prop, (∃ m, W 0 m σ0 (upd H1 D (.lst []))) ∧ ∀ i m σ1 H2, W i m σ1 H2 →
      ((Itz K a a').stop i H2 ∧ Q D H2) ∨ ((Itz K a a').go i H2 ∧ ∃ N : St → Hp → Prop, (∀ σ' H', N σ' H' → ∃ m', m' < m ∧ W (i + 1) m' σ' H') ∧
        ∀ x H', (Itz K a a').yld i H2 x H' → g x σ1 H' fun σ2 H3 => c σ2 H3 fun b H4 => if b = true then te σ2 H4 fun y H5 => ∃ xs, H5 D = some (.lst xs) ∧ xs.length < sizeLine ∧ N σ2 (upd H5 D (.lst (xs ++ [y]))) else N σ2 H4) := by
  intro D hD
  refine ⟨fun i m σ1 H2 => Ag σ1 ∧ Same H1 H2 ∧ (∃ ys, ys.length ≤ i ∧ Iv i ys H2 ∧ H2 D = some (.lst ys)) ∧ i ≤ xs.length ∧ m = xs.length - i, ⟨xs.length, h0, .upd_new hD, ⟨[], Nat.le_refl _, mono _ _ _ _ (Same.upd_new hD).t h00, upd_same⟩, Nat.zero_le _, rfl⟩, ?_⟩
  rintro i m σ1 H2 ⟨hσ, hs, ⟨ys, hy', hR, hd⟩, hi, rfl⟩
  rcases Nat.lt_or_ge i xs.length with hlt | hge
  · right
    have hlt' : i < xs'.length := hlen ▸ hlt
    refine ⟨⟨xs, xs', xs[i], xs'[i], hs.seq hq, hs.seq hq', by simp [hlt], by simp [hlt']⟩, fun σ' H' => Ag σ' ∧ Same H1 H' ∧ ∃ ys, ys.length ≤ i + 1 ∧ Iv (i + 1) ys H' ∧ H' D = some (.lst ys), fun σ' H' ⟨a, b, c⟩ => ⟨xs.length - (i + 1), by omega, a, b, c, hlt, rfl⟩, ?_⟩
    rintro v H' ⟨t, x, y, rfl, ht, rfl, hx, hy⟩
    have hx := hx xs (hs.seq hq)
    have hy := hy xs' (hs.seq hq')
    have hst : Same H1 (upd H2 t (.tup [x, y])) := hs.trans (.upd_new ht)
    have hdt := Same.upd_new (o := .tup [x, y]) ht _ _ hd
    refine step i x y t σ1 _ (fun σ2 y H5 => ∃ xs, H5 D = some (.lst xs) ∧ xs.length < sizeLine ∧ _) _ ys hσ hst hx hy upd_same (mono _ _ _ _ (Same.upd_new ht).t hR) (fun σ2 z H3 a2 hs3 hR3 => ⟨_, hs3 _ _ hdt, by omega, a2, (hst.trans hs3).upd_ne' hD, ys ++ [z], by rw [List.length_append]; show _ + 1 ≤ _; omega, mono _ _ _ _ (.lst (hs3 _ _ hdt)) hR3, upd_same⟩) fun σ2 H3 a2 hs3 hR3 => ⟨a2, hst.trans hs3, ys, by omega, hR3, hs3 _ _ hdt⟩
  · left
    obtain rfl : i = xs.length := Nat.le_antisymm hi hge
    exact ⟨⟨xs, xs', hs.seq hq, hs.seq hq', .inl (Nat.le_refl _)⟩, h D ys _ hD hs hR hd⟩
end
end L2

set_option Elab.async false
set_option linter.all false
set_option maxRecDepth 100000
namespace L2
open PySem PySem.Spec PyProof.Rows
section
variable {X : Cx}
def rangeV2 (lo : Int) (n : Nat) : List V := (List.range n).map fun (i : Nat) => V.int (lo + (i : Int))
def tLR2 (ta : TA) : TE := fun σ H Q => ta σ H fun vs H1 => ∃ (lo hi : Int) (n : Nat), vs = [.int lo, .int hi] ∧ hi = lo + (n : Int) ∧ n ≤ 1000 ∧ -(2 ^ 61) ≤ lo ∧ lo < 2 ^ 61 ∧ ∀ p, H1 p = none → Q (.ref p) (upd H1 p (.lst (rangeV2 lo n)))
theorem pe_listRange2 {a b : Expr} {ta : TA} {p p' pos pos' : Pos} (hg : Gl X "list") (hm : X.mg "list" = none) (hg' : Gl X "range") (hm' : X.mg "range" = none) (hc : X.calm = true) (ha : PA X [a, b] ta)
    (hs : starEach [a, b] X.env = [(false, eval a X.env), (false, eval b X.env)] := by rfl) (hs2 : starEach [b] X.env = [(false, eval b X.env)] := by rfl) (hs' : starEach [.Call (.Name "range" p') [a, b] [] pos'] X.env = [(false, eval (.Call (.Name "range" p') [a, b] [] pos') X.env)] := by rfl) :
    PE X (.Call (.Name "list" p) [.Call (.Name "range" p') [a, b] [] pos'] [] pos) (tLR2 ta) := by
  intro pins s σ H Q I h
  refine Call_ (ld_blt I hg hm bt_list (PyProof.Rows.callWith_type1 ?_ hs' rfl))
  rw [hs']
  show wpAny _ _ (spliced ((false, eval (.Call (.Name "range" p') [a, b] [] pos') X.env) :: [])) _ _ s
  refine Calls.spliced_cons ?_
  refine Call_ (ld_blt I hg' hm' boot_range (PyProof.Rows.callWith_type1 (thn (ha pos' pins s σ H _ I h) fun us s1 ⟨vs, H1, I1, r1, q1⟩ => ?_) (by rw [hs, hs2]) (by rw [hs2]; rfl)))
  obtain ⟨lo, hi, n, e, ehi, hn, l1, l2, q⟩ := q1
  subst e
  obtain ⟨u, u', rfl, ⟨t, rfl⟩, ⟨t', rfl⟩⟩ := vals2 r1
  refine call_range_2 ?_
  refine Calls.spliced_nil ?_
  refine call_list_range (I1.ok.hd hc) (IsRange.new ..) (small_one (by omega) (by omega) (by omega) (by omega)) (n := n) (by rw [rangeSize_one]; split <;> omega) (by omega) fun h' tk acc c hk hS hacc => ?_
  have hk2 : ∀ b o, s1.heap.get? b = some o → h'.get? b = some o := fun b o e => hk b o (Heap.get?_push_of_some _ e)
  have vv : Vals (rangeV2 lo n) acc.toList := by
    refine vals_get (by unfold rangeV2; rw [List.length_map, List.length_range, Array.length_toList, hacc.1]) fun i x u hx hu => ?_
    have hi : i < n := by
      obtain ⟨z, _⟩ := List.getElem?_eq_some_iff.mp hx
      unfold rangeV2 at z
      rw [List.length_map, List.length_range] at z
      exact z
    unfold rangeV2 at hx
    rw [List.getElem?_map, List.getElem?_range hi] at hx
    obtain rfl : V.int (lo + (i : Int)) = x := Option.some.inj hx
    obtain ⟨t', rfl⟩ := hacc.2 i u (by simpa using hu)
    exact ⟨t', by rw [Int.mul_one]⟩
  refine ⟨.ref _, _, I1.laid (o := .lst (rangeV2 lo n)) (t' := tk) hk2 ?_ ?_, rfl, q _ (I1.hok.fresh ?_)⟩
  · rw [Heap.size_push]; exact Nat.le_succ _
  · refine ⟨by unfold rangeV2; rw [List.length_map, List.length_range]; exact Nat.le_of_lt (small1000 hn), acc.toList, c, vv, by simpa using hS⟩
  · rw [Heap.size_push]; exact Nat.le_succ _
theorem op_neX2K (K : PySem.W.Frag) (hu : X.A.units + 64 < cLine) (h : X.K = K := by rfl) : OpR X (compareOp .NotEq) (rNeX2 K) := by
  subst h
  exact op_neX2 hu
end
section
variable {K : PySem.W.Frag} {lo : Int} {n : Nat} {σ0 : St} {H1 : Hp} {i0 : Nat} {c : TT} {te : TE} {Q : Addr → Hp → Prop}
end
end L2

set_option linter.all false
namespace Wg
def sm : Nat → (Nat → Int) → Int
  | 0, _ => 0
  | n + 1, f => sm n f + f n
theorem sm_ext {n : Nat} {f g : Nat → Int} (h : ∀ i, i < n → f i = g i) : sm n f = sm n g := by
  induction n with
  | zero => rfl
  | succ n ih => show sm n f + f n = sm n g + g n; rw [ih fun i hi => h i (by omega), h n (by omega)]
theorem sm_add (n : Nat) (f g : Nat → Int) : sm n (fun i => f i + g i) = sm n f + sm n g := by
  induction n with
  | zero => rfl
  | succ n ih => show sm n _ + (f n + g n) = (sm n f + f n) + (sm n g + g n); rw [ih]; omega
theorem sm_mul (n : Nat) (a : Int) (f : Nat → Int) : sm n (fun i => a * f i) = a * sm n f := by
  induction n with
  | zero => exact (Int.mul_zero a).symm
  | succ n ih => show sm n _ + a * f n = a * (sm n f + f n); rw [ih, Int.mul_add]
theorem sm_zero {n : Nat} {f : Nat → Int} (h : ∀ i, i < n → f i = 0) : sm n f = 0 := by
  induction n with
  | zero => rfl
  | succ n ih => show sm n f + f n = 0; rw [ih fun i hi => h i (by omega), h n (by omega)]; rfl
theorem sm_one {n : Nat} {f : Nat → Int} {k : Nat} (hk : k < n) (h : ∀ i, i < n → i ≠ k → f i = 0) : sm n f = f k := by
  induction n with
  | zero => omega
  | succ n ih =>
    show sm n f + f n = f k
    rcases Nat.lt_or_ge k n with z | z
    · rw [ih z fun i hi => h i (by omega), h n (by omega) (by omega)]; omega
    · have e : k = n := by omega
      subst e
      rw [sm_zero fun i hi => h i (by omega) (by omega)]; omega
theorem sm_two {n : Nat} {f : Nat → Int} {k l : Nat} (hkl : k < l) (hl : l < n) (h : ∀ i, i < n → i ≠ k → i ≠ l → f i = 0) : sm n f = f k + f l := by
  induction n with
  | zero => omega
  | succ n ih =>
    show sm n f + f n = f k + f l
    rcases Nat.lt_or_ge l n with z | z
    · rw [ih z fun i hi => h i (by omega), h n (by omega) (by omega) (by omega)]; omega
    · have e : l = n := by omega
      subst e
      rw [sm_one hkl fun i hi ne => h i (by omega) ne (by omega)]
theorem sm_comm (n m : Nat) (f : Nat → Nat → Int) : sm n (fun i => sm m fun j => f i j) = sm m (fun j => sm n fun i => f i j) := by
  induction n with
  | zero => exact (sm_zero fun _ _ => rfl).symm
  | succ n ih =>
    show sm n (fun i => sm m fun j => f i j) + sm m (fun j => f n j) = sm m (fun j => sm n (fun i => f i j) + f n j)
    rw [ih, sm_add]
theorem sm_le {n : Nat} {f g : Nat → Int} (h : ∀ i, i < n → f i ≤ g i) : sm n f ≤ sm n g := by
  induction n with
  | zero => exact Int.le_refl _
  | succ n ih => 
    show sm n f + f n ≤ sm n g + g n
    have := ih fun i hi => h i (by omega)
    have := h n (by omega)
    omega
theorem sm_const (n : Nat) (a : Int) : sm n (fun _ => a) = n * a := by
  induction n with
  | zero => simp [sm]
  | succ n ih =>
    show sm n (fun _ => a) + a = ((n + 1 : Nat) : Int) * a
    rw [ih]
    grind
def sk (k i : Nat) : Nat := if i < k then i else i + 1
def sg : Nat → Int
  | 0 => 1
  | n + 1 => - sg n
theorem sg_sq (n : Nat) : sg n = 1 ∨ sg n = -1 := by
  induction n with
  | zero => exact .inl rfl
  | succ n ih => rcases ih with h | h <;> simp [sg, h]
def det : Nat → (Nat → Nat → Int) → Int
  | 0, _ => 1
  | m + 1, c => sm (m + 1) fun k => sg k * c k 0 * det m (fun i r => c (sk k i) (r + 1))
def up (c : Nat → Nat → Int) (i : Nat) (v : Nat → Int) : Nat → Nat → Int := fun k => if k = i then v else c k
theorem up_same (c : Nat → Nat → Int) (i : Nat) (v : Nat → Int) : up c i v i = v := if_pos rfl
theorem up_ne {c : Nat → Nat → Int} {i k : Nat} {v : Nat → Int} (h : k ≠ i) : up c i v k = c k := if_neg h
theorem up_up (c : Nat → Nat → Int) (i : Nat) (v u : Nat → Int) : up (up c i v) i u = up c i u := by
  funext k
  unfold up
  split <;> rfl
theorem up_self (c : Nat → Nat → Int) (i : Nat) : up c i (c i) = c := by
  funext k
  unfold up
  split
  · rename_i h; rw [h]
  · rfl
theorem up_comm (c : Nat → Nat → Int) {i j : Nat} (v u : Nat → Int) (h : i ≠ j) : up (up c i v) j u = up (up c j u) i v := by
  funext k
  unfold up
  split
  · rename_i e; rw [if_neg (by omega)]
  · rfl
theorem det_ext {m : Nat} : ∀ {c d : Nat → Nat → Int}, (∀ k, k < m → ∀ r, r < m → c k r = d k r) → det m c = det m d := by
  induction m with
  | zero => intros; rfl
  | succ m ih =>
    intro c d h
    refine sm_ext fun k hk => ?_
    rw [h k hk 0 (by omega), ih fun i hi r hr => ?_]
    show c (sk k i) (r + 1) = d (sk k i) (r + 1)
    refine h _ ?_ _ (by omega)
    unfold sk
    split <;> omega
theorem tail_same (c : Nat → Nat → Int) (k : Nat) (v : Nat → Int) : (fun i r => up c k v (sk k i) (r + 1)) = (fun i r => c (sk k i) (r + 1)) := by
  funext i r
  rw [up_ne]
  unfold sk
  split <;> omega
def un (k j : Nat) : Nat := if j < k then j else j - 1
theorem tail_other (c : Nat → Nat → Int) {k j : Nat} (h : k ≠ j) (v : Nat → Int) : (fun i r => up c j v (sk k i) (r + 1)) = up (fun i r => c (sk k i) (r + 1)) (un k j) (fun r => v (r + 1)) := by
  funext i r
  unfold up
  by_cases e : sk k i = j
  · rw [if_pos e, if_pos]
    unfold sk at e
    unfold un
    split at e <;> split <;> omega
  · rw [if_neg e, if_neg]
    unfold sk at e
    unfold un
    split at e <;> split <;> omega
theorem un_lt {m k j : Nat} (hk : k < m + 1) (hj : j < m + 1) (h : k ≠ j) : un k j < m := by
  unfold un
  split <;> omega
theorem det_lin {m : Nat} : ∀ {c : Nat → Nat → Int} {j : Nat} (a b : Int) (u v : Nat → Int), j < m → det m (up c j fun r => a * u r + b * v r) = a * det m (up c j u) + b * det m (up c j v) := by
  induction m with
  | zero => intros; omega
  | succ m ih =>
    intro c j a b u v hj
    unfold det
    rw [← sm_mul, ← sm_mul, ← sm_add]
    refine sm_ext fun k hk => ?_
    by_cases e : k = j
    · subst e
      rw [tail_same, tail_same, tail_same, up_same, up_same, up_same]
      grind
    · rw [tail_other c e, tail_other c e, tail_other c e, up_ne e, up_ne e, up_ne e, ih a b (fun r => u (r + 1)) (fun r => v (r + 1)) (un_lt hk hj e)]
      grind
theorem det_adj {m : Nat} : ∀ {c : Nat → Nat → Int} {j : Nat}, j + 1 < m → c j = c (j + 1) → det m c = 0 := by
  induction m with
  | zero => intros; omega
  | succ m ih =>
    intro c j hj e
    unfold det
    rw [sm_two (k := j) (l := j + 1) (by omega) hj fun k hk n1 n2 => ?_]
    · have e2 : (fun i r => c (sk j i) (r + 1)) = (fun i r => c (sk (j + 1) i) (r + 1)) := by
        funext i r
        unfold sk
        by_cases h1 : i < j
        · rw [if_pos h1, if_pos (by omega)]
        · rw [if_neg h1]
          by_cases h2 : i < j + 1
          · rw [if_pos h2, show i = j by omega, e]
          · rw [if_neg h2]
      rw [e2, e]
      show sg j * _ * _ + - sg j * _ * _ = 0
      grind
    · rw [ih (j := un k j) (by unfold un; split <;> omega)]
      · exact Int.mul_zero _
      · funext r
        have h1 : sk k (un k j) = j := by
          unfold sk un
          by_cases z : j < k
          · rw [if_pos z, if_pos z]
          · rw [if_neg z, if_neg (by omega)]; omega
        have h2 : sk k (un k j + 1) = j + 1 := by
          unfold sk un
          by_cases z : j < k
          · rw [if_pos z, if_pos (by omega)]
          · rw [if_neg z, if_neg (by omega)]; omega
        rw [h1, h2, e]
theorem det_one (m : Nat) : det m (fun k r => if k = r then 1 else 0) = 1 := by
  induction m with
  | zero => rfl
  | succ m ih =>
    unfold det
    rw [sm_one (k := 0) (by omega) fun k hk ne => by show sg k * (if k = 0 then 1 else 0) * _ = 0; rw [if_neg ne]; simp]
    have e : (fun (i r : Nat) => (if sk 0 i = r + 1 then (1 : Int) else 0)) = (fun k r => if k = r then 1 else 0) := by
      funext i r
      have z : sk 0 i = i + 1 := rfl
      rw [z]
      by_cases h : i = r
      · rw [if_pos h, if_pos (by omega)]
      · rw [if_neg h, if_neg (by omega)]
    show sg 0 * (if 0 = 0 then 1 else 0) * det m (fun (i r : Nat) => (if sk 0 i = r + 1 then (1 : Int) else 0)) = 1
    rw [e, ih]
    rfl
theorem det_swapA {m : Nat} {c : Nat → Nat → Int} {j : Nat} (u v : Nat → Int) (hj : j + 1 < m) : det m (up (up c j u) (j + 1) v) = - det m (up (up c j v) (j + 1) u) := by
  have h0 : ∀ w : Nat → Int, det m (up (up c j w) (j + 1) w) = 0 := fun w => det_adj hj (by rw [up_ne (by omega), up_same, up_same])
  have ne : j ≠ j + 1 := by omega
  have h := h0 (fun r => 1 * u r + 1 * v r)
  rw [det_lin 1 1 u v hj, up_comm c _ u ne, up_comm c _ v ne, det_lin 1 1 u v (by omega), det_lin 1 1 u v (by omega), ← up_comm c u u ne, ← up_comm c v u ne, ← up_comm c u v ne, ← up_comm c v v ne, h0 u, h0 v] at h
  omega
theorem det_eq0 {m : Nat} : ∀ (n : Nat) {c : Nat → Nat → Int} {j : Nat}, j + n + 1 < m → c j = c (j + n + 1) → det m c = 0 := by
  intro n
  induction n with
  | zero => exact fun hj e => det_adj hj e
  | succ n ih =>
    intro c j hj e
    have z := det_swapA (m := m) (c := c) (j := j + n + 1) (c (j + n + 1)) (c (j + n + 2)) (by omega)
    rw [up_self, up_self] at z
    rw [z, ih (j := j) (by omega)]
    · rfl
    · rw [up_ne (by omega), up_ne (by omega), up_ne (by omega), up_same]
      exact e
theorem det_same {m : Nat} {c : Nat → Nat → Int} {i j : Nat} (hi : i < m) (hj : j < m) (ne : i ≠ j) (e : c i = c j) : det m c = 0 := by
  rcases Nat.lt_or_ge i j with h | h
  · exact det_eq0 (j - i - 1) (j := i) (by omega) (by rw [show i + (j - i - 1) + 1 = j by omega]; exact e)
  · exact det_eq0 (i - j - 1) (j := j) (by omega) (by rw [show j + (i - j - 1) + 1 = i by omega]; exact e.symm)
theorem det_swap {m : Nat} {c : Nat → Nat → Int} {i j : Nat} (u v : Nat → Int) (hi : i < m) (hj : j < m) (ne : i ≠ j) : det m (up (up c i u) j v) = - det m (up (up c i v) j u) := by
  have h0 : ∀ w : Nat → Int, det m (up (up c i w) j w) = 0 := fun w => det_same hi hj ne (by rw [up_ne ne, up_same, up_same])
  have h := h0 (fun r => 1 * u r + 1 * v r)
  rw [det_lin 1 1 u v hj, up_comm c _ u ne, up_comm c _ v ne, det_lin 1 1 u v hi, det_lin 1 1 u v hi, ← up_comm c u u ne, ← up_comm c v u ne, ← up_comm c u v ne, ← up_comm c v v ne, h0 u, h0 v] at h
  omega
theorem det_sum {m : Nat} {c : Nat → Nat → Int} {j : Nat} (hj : j < m) : ∀ (n : Nat) (a : Nat → Int) (u : Nat → Nat → Int), det m (up c j fun r => sm n fun k => a k * u k r) = sm n fun k => a k * det m (up c j (u k)) := by
  intro n a u
  induction n with
  | zero =>
    show det m (up c j fun r => 0) = 0
    have z := det_lin (c := c) 0 0 (fun _ => 0) (fun _ => 0) hj
    have e : (fun r : Nat => (0 : Int) * (0 : Int) + 0 * 0) = fun _ => 0 := rfl
    have z2 : det m (up c j fun r => (0 : Int) * (0 : Int) + 0 * 0) = _ := z
    rw [e] at z2
    omega
  | succ n ih =>
    show det m (up c j fun r => sm n (fun k => a k * u k r) + a n * u n r) = _ + _
    have z := det_lin (c := c) 1 (a n) (fun r => sm n fun k => a k * u k r) (u n) hj
    rw [show (fun r => (1 : Int) * (sm n fun k => a k * u k r) + a n * u n r) = fun r => sm n (fun k => a k * u k r) + a n * u n r from funext fun r => by rw [Int.one_mul]] at z
    rw [z, ih]
    show 1 * sm n _ + a n * _ = sm n _ + a n * _
    rw [Int.one_mul]
theorem det_smul {m : Nat} {c : Nat → Nat → Int} {j : Nat} (hj : j < m) (a : Int) (u : Nat → Int) : det m (up c j fun r => a * u r) = a * det m (up c j u) := by
  have z := det_sum (c := c) hj 1 (fun _ => a) (fun _ => u)
  simp only [sm, Int.zero_add] at z
  exact z
def fac : Nat → Nat
  | 0 => 1
  | n + 1 => (n + 1) * fac n
theorem det_bound {m : Nat} {X : Nat} : ∀ {c : Nat → Nat → Int}, (∀ k r, k < m → r < m → (c k r).natAbs ≤ X) → (det m c).natAbs ≤ fac m * X ^ m := by
  induction m with
  | zero => intro c _; exact Nat.le_refl _
  | succ m ih =>
    intro c h
    have hb : ∀ k, k < m + 1 → (sg k * c k 0 * det m (fun i r => c (sk k i) (r + 1))).natAbs ≤ X * (fac m * X ^ m) := fun k hk => by
      rw [Int.natAbs_mul, Int.natAbs_mul]
      have h1 : (sg k).natAbs = 1 := by rcases sg_sq k with e | e <;> rw [e] <;> rfl
      rw [h1, Nat.one_mul]
      refine Nat.mul_le_mul (h k 0 hk (by omega)) (ih fun i r hi hr => h _ _ ?_ (by omega))
      unfold sk
      split <;> omega
    have hs : ∀ n, n ≤ m + 1 → (sm n fun k => sg k * c k 0 * det m (fun i r => c (sk k i) (r + 1))).natAbs ≤ n * (X * (fac m * X ^ m)) := by
      intro n
      induction n with
      | zero => intro _; show 0 ≤ _; exact Nat.zero_le _
      | succ n ih2 =>
        intro hn
        refine Nat.le_trans (Int.natAbs_add_le _ _) ?_
        have a := ih2 (by omega)
        have b := hb n (by omega)
        rw [Nat.add_mul, Nat.one_mul]
        exact Nat.add_le_add a b
    refine Nat.le_trans (hs (m + 1) (Nat.le_refl _)) (Nat.le_of_eq ?_)
    show (m + 1) * (X * (fac m * X ^ m)) = (m + 1) * fac m * X ^ (m + 1)
    rw [Nat.pow_succ]
    simp only [Nat.mul_comm, Nat.mul_left_comm, Nat.mul_assoc]
end Wg

set_option linter.all false
namespace Wg
theorem sm_two' {n : Nat} {f : Nat → Int} {k l : Nat} (ne : k ≠ l) (hk : k < n) (hl : l < n) (h : ∀ i, i < n → i ≠ k → i ≠ l → f i = 0) : sm n f = f k + f l := by
  rcases Nat.lt_or_ge k l with z | z
  · exact sm_two z hl h
  · rw [sm_two (k := l) (l := k) (by omega) hk fun i hi a b => h i hi b a]
    omega
structure Fr (m : Nat) (M : Nat → Nat → Int) (d : Int) (R : Nat → Nat → Int) (ch : Nat → Nat) (s : Int) : Prop where
  pos : 0 < d
  eq : ∀ j r, d * M j r = sm m fun k => R k j * M (ch k) r
  sg : s = 1 ∨ s = -1
  det : d = s * det m fun k => M (ch k)
variable {m : Nat} {M : Nat → Nat → Int} {d : Int} {R : Nat → Nat → Int} {ch : Nat → Nat} {s : Int}
theorem Fr.ss (h : Fr m M d R ch s) : s * s = 1 := by rcases h.sg with e | e <;> rw [e] <;> rfl
theorem Fr.form (h : Fr m M d R ch s) {B : Nat → Nat → Int} {i : Nat} (hi : i < m) (j : Nat) : d * Wg.det m (up B i (M j)) = sm m fun k => R k j * Wg.det m (up B i (M (ch k))) := by
  rw [← det_smul hi, show (fun r => d * M j r) = fun r => sm m fun k => R k j * M (ch k) r from funext fun r => h.eq j r, det_sum hi]
theorem Fr.cramer (h : Fr m M d R ch s) {k : Nat} (hk : k < m) (j : Nat) : R k j = s * Wg.det m (up (fun k => M (ch k)) k (M j)) := by
  have z := h.form (B := fun k => M (ch k)) hk j
  rw [sm_one hk fun i hi ne => by rw [det_same (i := i) (j := k) hi hk ne (by rw [up_ne ne, up_same])]; exact Int.mul_zero _] at z
  rw [show up (fun k => M (ch k)) k (M (ch k)) = fun k => M (ch k) from up_self (fun k => M (ch k)) k] at z
  have hd := h.det
  have hp := h.pos
  have e := h.ss
  generalize Wg.det m (fun k => M (ch k)) = X at z hd
  generalize Wg.det m (up (fun k => M (ch k)) k (M j)) = Y at z ⊢
  have hX : X ≠ 0 := fun x => by rw [x] at hd; simp at hd; omega
  have z2 : X * (s * Y) = X * R k j := by
    rw [hd] at z
    grind
  exact (Int.eq_of_mul_eq_mul_left hX z2).symm
theorem Fr.unit (h : Fr m M d R ch s) {k i : Nat} (hk : k < m) (hi : i < m) : R k (ch i) = if k = i then d else 0 := by
  rw [h.cramer hk]
  by_cases e : k = i
  · rw [if_pos e, e, show up (fun k => M (ch k)) i (M (ch i)) = fun k => M (ch k) from up_self (fun k => M (ch k)) i, ← h.det]
  · rw [if_neg e, det_same (i := i) (j := k) hi hk (fun z => e z.symm) (by rw [up_ne (fun z => e z.symm), up_same]), Int.mul_zero]
theorem Fr.inj (h : Fr m M d R ch s) {k i : Nat} (hk : k < m) (hi : i < m) (e : ch k = ch i) : k = i := by
  have a := h.unit hk hi
  rw [← e, h.unit hk hk, if_pos rfl] at a
  have := h.pos
  by_cases z : k = i
  · exact z
  · rw [if_neg z] at a
    omega
theorem Fr.exact (h : Fr m M d R ch s) {i p : Nat} (hi : i < m) (hp : p < m) (ne : i ≠ p) (j q : Nat) : d ∣ R i j * R p q - R i q * R p j := by
  have z := h.form (B := up (fun k => M (ch k)) i (M j)) hp q
  rw [sm_two' (k := p) (l := i) (fun e => ne e.symm) hp hi fun k hk n1 n2 => by
    rw [det_same (i := k) (j := p) hk hp n1 (by rw [up_ne n1, up_same, up_ne n2])]
    exact Int.mul_zero _] at z
  rw [show up (up (fun k => M (ch k)) i (M j)) p (M (ch p)) = up (fun k => M (ch k)) i (M j) by
    have e := up_self (up (fun k => M (ch k)) i (M j)) p
    rw [up_ne (fun e => ne e.symm)] at e
    exact e] at z
  rw [det_swap (c := fun k => M (ch k)) (M j) (M (ch i)) hi hp ne, show up (fun k => M (ch k)) i (M (ch i)) = fun k => M (ch k) from up_self (fun k => M (ch k)) i] at z
  have a1 := h.cramer hi j
  have a2 := h.cramer hp j
  have e := h.ss
  refine ⟨s * Wg.det m (up (up (fun k => M (ch k)) i (M j)) p (M q)), ?_⟩
  generalize Wg.det m (up (up (fun k => M (ch k)) i (M j)) p (M q)) = E at z ⊢
  generalize Wg.det m (up (fun k => M (ch k)) i (M j)) = X at z a1
  generalize Wg.det m (up (fun k => M (ch k)) p (M j)) = Y at z a2
  rw [a1, a2]
  grind
def sgn (x : Int) : Int := if x < 0 then -1 else 1
theorem sgn_pos {x : Int} (h : x ≠ 0) : 0 < sgn x * x := by unfold sgn; split <;> omega
theorem sgn_sg (x : Int) : sgn x = 1 ∨ sgn x = -1 := by unfold sgn; split <;> omega
def rowN (d : Int) (R : Nat → Nat → Int) (p q : Nat) : Nat → Nat → Int := fun k j => if k = p then sgn (R p q) * R p j else (R k j * (sgn (R p q) * R p q) - R k q * (sgn (R p q) * R p j)) / d
def chN (ch : Nat → Nat) (p q : Nat) : Nat → Nat := fun k => if k = p then q else ch k
theorem Fr.rowN (h : Fr m M d R ch s) {p q : Nat} (hp : p < m) {k : Nat} (hk : k < m) (ne : k ≠ p) (j : Nat) : d * rowN d R p q k j = R k j * (sgn (R p q) * R p q) - R k q * (sgn (R p q) * R p j) := by
  unfold Wg.rowN
  rw [if_neg ne]
  refine Int.mul_ediv_cancel' ?_
  obtain ⟨c, hc⟩ := h.exact hk hp ne j q
  exact ⟨sgn (R p q) * c, by grind⟩
theorem Fr.next (h : Fr m M d R ch s) {p q : Nat} (hp : p < m) (hq : R p q ≠ 0) : Fr m M (sgn (R p q) * R p q) (Wg.rowN d R p q) (chN ch p q) (sgn (R p q) * s) := by
  have hd : d ≠ 0 := by have := h.pos; omega
  refine ⟨sgn_pos hq, fun j r => ?_, ?_, ?_⟩
  · have e1 := h.eq j r
    have e2 := h.eq q r
    refine Int.eq_of_mul_eq_mul_left hd ?_
    rw [← sm_mul]
    have e3 : sm m (fun k => d * (Wg.rowN d R p q k j * M (chN ch p q k) r)) = sm m fun k => (sgn (R p q) * R p q) * (R k j * M (ch k) r) + (-(sgn (R p q) * R p j) * (R k q * M (ch k) r) + if k = p then d * (sgn (R p q) * R p j) * M q r else 0) := by
      refine sm_ext fun k hk => ?_
      by_cases e : k = p
      · subst e
        unfold Wg.rowN chN
        rw [if_pos rfl, if_pos rfl, if_pos rfl]
        grind
      · have z := h.rowN (q := q) hp hk e j
        rw [if_neg e]
        unfold chN
        rw [if_neg e]
        generalize Wg.rowN d R p q k j = X at z ⊢
        generalize sgn (R p q) = S at z ⊢
        grind
    rw [e3, sm_add, sm_mul, sm_add, sm_mul, ← e1, ← e2, sm_one (k := p) hp fun i hi ne => if_neg ne, if_pos rfl]
    grind
  · rcases sgn_sg (R p q) with e | e <;> rcases h.sg with e2 | e2 <;> rw [e, e2] <;> decide
  · rw [show (fun k => M (chN ch p q k)) = up (fun k => M (ch k)) p (M q) from funext fun k => by unfold chN up; split <;> rfl]
    have z := h.cramer hp q
    grind
theorem Fr.uniq {d' : Int} {R' : Nat → Nat → Int} {ch' : Nat → Nat} {s' : Int} (h : Fr m M d R ch s) (h' : Fr m M d' R' ch' s') (e : ∀ k, k < m → ch k = ch' k) : d = d' ∧ ∀ k, k < m → ∀ j, R k j = R' k j := by
  have eb : ∀ (v : Nat → Int) (i : Nat), Wg.det m (up (fun k => M (ch k)) i v) = Wg.det m (up (fun k => M (ch' k)) i v) := fun v i => det_ext fun k hk r _ => by
    unfold up
    split
    · rfl
    · show M (ch k) r = M (ch' k) r; rw [e k hk]
  have e0 : Wg.det m (fun k => M (ch k)) = Wg.det m (fun k => M (ch' k)) := det_ext fun k hk r _ => by rw [e k hk]
  have es : s = s' := by
    have a := h.det
    have b := h'.det
    have := h.pos
    have := h'.pos
    rw [← e0] at b
    rcases h.sg with x | x <;> rcases h'.sg with y | y <;> rw [x] at a <;> rw [y] at b <;> omega
  refine ⟨by rw [h.det, h'.det, e0, es], fun k hk j => ?_⟩
  rw [h.cramer hk, h'.cramer hk, eb, es]
theorem Fr.bound (h : Fr m M d R ch s) {X : Nat} (hX : ∀ j r, (M j r).natAbs ≤ X) : d.natAbs ≤ fac m * X ^ m ∧ ∀ k, k < m → ∀ j, (R k j).natAbs ≤ fac m * X ^ m := by
  have a : s.natAbs = 1 := by rcases h.sg with e | e <;> rw [e] <;> rfl
  refine ⟨?_, fun k hk j => ?_⟩
  · rw [h.det, Int.natAbs_mul, a, Nat.one_mul]
    exact det_bound fun k r _ _ => hX _ r
  · rw [h.cramer hk, Int.natAbs_mul, a, Nat.one_mul]
    refine det_bound fun i r _ _ => ?_
    unfold up
    split
    · exact hX _ r
    · exact hX _ r
end Wg

set_option linter.all false
namespace Wg
def red (m : Nat) (c : Nat → Int) (d : Int) (R : Nat → Nat → Int) (ch : Nat → Nat) (j : Nat) : Int := c j * d - sm m fun k => c (ch k) * R k j
structure St where
  d : Int
  R : Nat → Nat → Int
  ch : Nat → Nat
  s : Int
variable {m n L : Nat} {M : Nat → Nat → Int} {c : Nat → Int}
def St.ok (m : Nat) (M : Nat → Nat → Int) (S : St) : Prop := Fr m M S.d S.R S.ch S.s
def St.red (m : Nat) (c : Nat → Int) (S : St) (j : Nat) : Int := Wg.red m c S.d S.R S.ch j
def St.next (S : St) (p q : Nat) : St := ⟨sgn (S.R p q) * S.R p q, rowN S.d S.R p q, chN S.ch p q, sgn (S.R p q) * S.s⟩
structure Goes (m n L : Nat) (c : Nat → Int) (S : St) (p q : Nat) : Prop where
  qn : q < n
  more : 0 < S.red m c q
  least : ∀ j, j < q → S.red m c j ≤ 0
  pm : p < m
  pos : 0 < S.R p q
  ahead : ∀ k, k < m → 0 < S.R k q → S.R p L * S.R k q < S.R k L * S.R p q ∨ (S.R p L * S.R k q = S.R k L * S.R p q ∧ S.ch p ≤ S.ch k)
theorem sgn_of_pos {x : Int} (h : 0 < x) : sgn x = 1 := by unfold sgn; rw [if_neg (by omega)]
theorem St.next_ok {S : St} (h : S.ok m M) {p q : Nat} (hp : p < m) (hq : S.R p q ≠ 0) : (S.next p q).ok m M := Fr.next h hp hq
theorem St.next_d {S : St} {p q : Nat} (hq : 0 < S.R p q) : (S.next p q).d = S.R p q := by
  show sgn _ * _ = _
  rw [sgn_of_pos hq, Int.one_mul]
theorem St.next_p {S : St} {p q : Nat} (hq : 0 < S.R p q) (j : Nat) : (S.next p q).R p j = S.R p j := by
  show rowN _ _ _ _ _ _ = _
  unfold rowN
  rw [if_pos rfl, sgn_of_pos hq, Int.one_mul]
theorem St.next_k {S : St} (h : S.ok m M) {p q : Nat} (hp : p < m) (hq : 0 < S.R p q) {k : Nat} (hk : k < m) (ne : k ≠ p) (j : Nat) : S.d * (S.next p q).R k j = S.R k j * S.R p q - S.R k q * S.R p j := by
  have z := Fr.rowN h (q := q) hp hk ne j
  rw [sgn_of_pos hq, Int.one_mul, Int.one_mul] at z
  exact z
theorem St.next_chp {S : St} {p q : Nat} : (S.next p q).ch p = q := if_pos rfl
theorem St.next_chk {S : St} {p q k : Nat} (ne : k ≠ p) : (S.next p q).ch k = S.ch k := if_neg ne
theorem St.next_sum {S : St} (h : S.ok m M) {p q : Nat} (hp : p < m) (hq : 0 < S.R p q) (c : Nat → Int) (j : Nat) : S.d * (sm m fun k => c ((S.next p q).ch k) * (S.next p q).R k j) = S.R p q * (sm m fun k => c (S.ch k) * S.R k j) + S.R p j * S.red m c q := by
  unfold St.red Wg.red
  rw [← sm_mul]
  have e : sm m (fun k => S.d * (c ((S.next p q).ch k) * (S.next p q).R k j)) = sm m fun k => S.R p q * (c (S.ch k) * S.R k j) + (-(S.R p j) * (c (S.ch k) * S.R k q) + if k = p then S.d * c q * S.R p j else 0) := by
    refine sm_ext fun k hk => ?_
    by_cases e : k = p
    · subst e
      rw [if_pos rfl, St.next_chp, St.next_p hq]
      grind
    · have z := St.next_k h hp hq hk e j
      rw [if_neg e, St.next_chk e]
      generalize (S.next p q).R k j = X at z ⊢
      grind
  rw [e, sm_add, sm_mul, sm_add, sm_mul, sm_one (k := p) hp fun i hi ne => if_neg ne, if_pos rfl]
  grind
theorem St.next_feas {S : St} (h : S.ok m M) {p q : Nat} (g : Goes m n L c S p q) (hf : ∀ k, k < m → 0 ≤ S.R k L) : ∀ k, k < m → 0 ≤ (S.next p q).R k L := fun k hk => by
  by_cases e : k = p
  · subst e
    rw [St.next_p g.pos]
    exact hf k hk
  · have z := St.next_k h g.pm g.pos hk e L
    have hd := Fr.pos h
    have h0 : 0 ≤ S.R k L * S.R p q - S.R k q * S.R p L := by
      rcases Int.lt_or_le 0 (S.R k q) with y | y
      · have := g.ahead k hk y
        have e1 : S.R p L * S.R k q = S.R k q * S.R p L := Int.mul_comm _ _
        rcases this with a | ⟨a, _⟩ <;> omega
      · have a := Int.mul_nonneg (hf k hk) (Int.le_of_lt g.pos)
        have b := Int.mul_nonpos_of_nonpos_of_nonneg y (hf p g.pm)
        omega
    rw [← z] at h0
    exact Int.nonneg_of_mul_nonneg_right h0 hd
theorem St.red_basic {S : St} (h : S.ok m M) {k : Nat} (hk : k < m) (c : Nat → Int) : S.red m c (S.ch k) = 0 := by
  unfold St.red Wg.red
  rw [sm_one hk fun i hi ne => by rw [Fr.unit h hi hk, if_neg ne, Int.mul_zero], Fr.unit h hk hk, if_pos rfl]
  omega
theorem St.red_by {S S' : St} (h : S.ok m M) (h' : S'.ok m M) (c : Nat → Int) (j : Nat) : S.d * S'.red m c j - (sm m fun k => S'.red m c (S.ch k) * S.R k j) = S'.d * S.red m c j := by
  have key : ∀ l, l < m → S.d * S'.R l j = sm m fun k => S.R k j * S'.R l (S.ch k) := fun l hl => by
    have e := Fr.form h (B := fun k => M (S'.ch k)) hl j
    have z : S.d * S'.R l j = S'.s * (S.d * det m (up (fun k => M (S'.ch k)) l (M j))) := by
      rw [Fr.cramer h' hl]
      grind
    rw [z, e, ← sm_mul]
    refine sm_ext fun k hk => ?_
    rw [Fr.cramer h' hl]
    grind
  unfold St.red Wg.red
  have e1 : sm m (fun k => (c (S.ch k) * S'.d - sm m fun l => c (S'.ch l) * S'.R l (S.ch k)) * S.R k j) = S'.d * (sm m fun k => c (S.ch k) * S.R k j) - sm m fun l => c (S'.ch l) * (S.d * S'.R l j) := by
    have e2 : sm m (fun l => c (S'.ch l) * (S.d * S'.R l j)) = sm m fun k => S.R k j * sm m fun l => c (S'.ch l) * S'.R l (S.ch k) := by
      have e3 : sm m (fun l => c (S'.ch l) * (S.d * S'.R l j)) = sm m fun l => sm m fun k => S.R k j * (c (S'.ch l) * S'.R l (S.ch k)) := by
        refine sm_ext fun l hl => ?_
        rw [key l hl, ← sm_mul]
        refine sm_ext fun k hk => ?_
        grind
      rw [e3, sm_comm]
      refine sm_ext fun k hk => ?_
      rw [sm_mul]
    rw [e2, show ∀ a b : Int, a - b = a + (-1) * b from fun a b => by omega, ← sm_mul, ← sm_mul, ← sm_add]
    refine sm_ext fun k hk => ?_
    grind
  rw [e1]
  have e4 : sm m (fun l => c (S'.ch l) * (S.d * S'.R l j)) = S.d * sm m fun l => c (S'.ch l) * S'.R l j := by
    rw [← sm_mul]
    refine sm_ext fun k hk => ?_
    grind
  rw [e4]
  grind
theorem sm_neg {n : Nat} {f : Nat → Int} (h : sm n f < 0) : ∃ k, k < n ∧ f k < 0 := by
  induction n with
  | zero => simp [sm] at h
  | succ n ih =>
    have h' : sm n f + f n < 0 := h
    rcases Int.lt_or_le (f n) 0 with z | z
    · exact ⟨n, by omega, z⟩
    · obtain ⟨k, hk, y⟩ := ih (by omega)
      exact ⟨k, by omega, y⟩
structure Run (m n L : Nat) (M : Nat → Nat → Int) (c : Nat → Int) (T : Nat) (st : Nat → St) (p q : Nat → Nat) : Prop where
  ok : (st 0).ok m M
  feas : ∀ k, k < m → 0 ≤ (st 0).R k L
  goes : ∀ i, i < T → Goes m n L c (st i) (p i) (q i)
  next : ∀ i, i < T → st (i + 1) = (st i).next (p i) (q i)
section
variable {T : Nat} {st : Nat → St} {p q : Nat → Nat}
theorem Run.okF (r : Run m n L M c T st p q) : ∀ i, i ≤ T → (st i).ok m M ∧ ∀ k, k < m → 0 ≤ (st i).R k L := by
  intro i
  induction i with
  | zero => exact fun _ => ⟨r.ok, r.feas⟩
  | succ i ih =>
    intro h
    obtain ⟨a, b⟩ := ih (by omega)
    have g := r.goes i (by omega)
    rw [r.next i (by omega)]
    exact ⟨St.next_ok a g.pm (by have := g.pos; omega), St.next_feas a g b⟩
def St.val (m L : Nat) (c : Nat → Int) (S : St) : Int := sm m fun k => c (S.ch k) * S.R k L
theorem Run.val_step (r : Run m n L M c T st p q) {i : Nat} (h : i < T) : (st i).d * (st (i + 1)).val m L c = (st (i + 1)).d * (st i).val m L c + (st i).R (p i) L * (st i).red m c (q i) := by
  have g := r.goes i h
  have z := St.next_sum (r.okF i (by omega)).1 g.pm g.pos c L
  rw [← St.next_d g.pos, ← r.next i h] at z
  exact z
theorem le_chain {a b e x y z : Int} (hb : 0 < b) (ha : 0 < a) (he : 0 < e) (h1 : x * b ≤ y * a) (h2 : y * e ≤ z * b) : x * e ≤ z * a := by
  have a1 := Int.mul_le_mul_of_nonneg_right h1 (Int.le_of_lt he)
  have a2 := Int.mul_le_mul_of_nonneg_right h2 (Int.le_of_lt ha)
  have : b * (x * e) ≤ b * (z * a) := by grind
  exact Int.le_of_mul_le_mul_left this hb
theorem lt_chain {a b e x y z : Int} (hb : 0 < b) (ha : 0 < a) (he : 0 < e) (h1 : x * b ≤ y * a) (h2 : y * e < z * b) : x * e < z * a := by
  have a1 := Int.mul_le_mul_of_nonneg_right h1 (Int.le_of_lt he)
  have a2 := Int.mul_lt_mul_of_pos_right h2 ha
  have : b * (x * e) < b * (z * a) := by grind
  exact Int.lt_of_mul_lt_mul_left this (Int.le_of_lt hb)
theorem lt_chain2 {a b e x y z : Int} (hb : 0 < b) (ha : 0 < a) (he : 0 < e) (h1 : x * b < y * a) (h2 : y * e ≤ z * b) : x * e < z * a := by
  have a1 := Int.mul_lt_mul_of_pos_right h1 he
  have a2 := Int.mul_le_mul_of_nonneg_right h2 (Int.le_of_lt ha)
  have : b * (x * e) < b * (z * a) := by grind
  exact Int.lt_of_mul_lt_mul_left this (Int.le_of_lt hb)
theorem Run.val_mono (r : Run m n L M c T st p q) {a : Nat} : ∀ k, a + k ≤ T → (st a).val m L c * (st (a + k)).d ≤ (st (a + k)).val m L c * (st a).d := by
  intro k
  induction k with
  | zero => exact fun _ => Int.le_refl _
  | succ k ih =>
    intro h
    have h1 := ih (by omega)
    have z := r.val_step (i := a + k) (by omega)
    have pa := Fr.pos (r.okF a (by omega)).1
    have pk := Fr.pos (r.okF (a + k) (by omega)).1
    have pk1 := Fr.pos (r.okF (a + k + 1) (by omega)).1
    have g := r.goes (a + k) (by omega)
    have nn := Int.mul_nonneg ((r.okF (a + k) (by omega)).2 _ g.pm) (Int.le_of_lt g.more)
    exact le_chain pk pa pk1 h1 (by grind)
theorem Run.still (r : Run m n L M c T st p q) {a b : Nat} (hab : a < b) (hb : b ≤ T) (e : ∀ k, k < m → (st a).ch k = (st b).ch k) : ∀ i, a ≤ i → i < b → (st i).R (p i) L = 0 := fun i h1 h2 => by
  obtain ⟨ed, eR⟩ := Fr.uniq (r.okF a (by omega)).1 (r.okF b hb).1 e
  have ev : (st a).val m L c = (st b).val m L c := sm_ext fun k hk => by rw [e k hk, eR k hk]
  have g := r.goes i (by omega)
  have f := (r.okF i (by omega)).2 _ g.pm
  rcases Int.lt_or_le 0 ((st i).R (p i) L) with y | y
  · exfalso
    have z := r.val_step (i := i) (by omega)
    have pos := Int.mul_pos y g.more
    have pa := Fr.pos (r.okF a (by omega)).1
    have pi := Fr.pos (r.okF i (by omega)).1
    have pi1 := Fr.pos (r.okF (i + 1) (by omega)).1
    have pb := Fr.pos (r.okF b hb).1
    have m1 := r.val_mono (a := a) (i - a) (by omega)
    rw [show a + (i - a) = i by omega] at m1
    have m2 := r.val_mono (a := i + 1) (b - (i + 1)) (by omega)
    rw [show i + 1 + (b - (i + 1)) = b by omega] at m2
    have s1 : (st a).val m L c * (st (i + 1)).d < (st (i + 1)).val m L c * (st a).d := lt_chain pi pa pi1 m1 (by grind)
    have s2 := lt_chain2 pi1 pa pb s1 m2
    rw [ev, ed] at s2
    omega
  · omega
def St.has (m : Nat) (S : St) (j : Nat) : Prop := ∃ k, k < m ∧ S.ch k = j
def St.nil (m L : Nat) (S : St) (j : Nat) : Prop := ∀ k, k < m → S.ch k = j → S.R k L = 0
theorem round {P : Nat → Prop} {a b : Nat} (h : ∀ i, a ≤ i → i < b → P i → P (i + 1)) (e : P b → P a) {i j : Nat} (ai : a ≤ i) (ib : i ≤ b) (aj : a ≤ j) (jb : j ≤ b) (hi : P i) : P j := by
  have up : ∀ k x, a ≤ x → x + k ≤ b → P x → P (x + k) := by
    intro k
    induction k with
    | zero => exact fun _ _ _ h => h
    | succ k ih => exact fun x h1 h2 h3 => h (x + k) (by omega) (by omega) (ih x h1 (by omega) h3)
  have hb := up (b - i) i ai (by omega) hi
  rw [show i + (b - i) = b by omega] at hb
  have z := up (j - a) a (Nat.le_refl _) (by omega) (e hb)
  rw [show a + (j - a) = j by omega] at z
  exact z
theorem max_of {P : Nat → Prop} {a b : Nat} {f : Nat → Nat} (hab : a < b) : ∃ i, a ≤ i ∧ i < b ∧ ∀ j, a ≤ j → j < b → f j ≤ f i := by
  have up : ∀ k, ∃ i, a ≤ i ∧ i < a + k + 1 ∧ ∀ j, a ≤ j → j < a + k + 1 → f j ≤ f i := by
    intro k
    induction k with
    | zero => exact ⟨a, Nat.le_refl _, by omega, fun j h1 h2 => by rw [show j = a by omega]; exact Nat.le_refl _⟩
    | succ k ih =>
      obtain ⟨i, h1, h2, h3⟩ := ih
      rcases Nat.lt_or_ge (f i) (f (a + k + 1)) with z | z
      · exact ⟨a + k + 1, by omega, by omega, fun j j1 j2 => by
          by_cases e : j = a + k + 1
          · rw [e]; exact Nat.le_refl _
          · have := h3 j j1 (by omega); omega⟩
      · exact ⟨i, h1, by omega, fun j j1 j2 => by
          by_cases e : j = a + k + 1
          · rw [e]; exact z
          · exact h3 j j1 (by omega)⟩
  have z := up (b - a - 1)
  rw [show a + (b - a - 1) + 1 = b by omega] at z
  exact z
theorem Run.noround (r : Run m n L M c T st p q) {a b : Nat} (hab : a < b) (hb : b ≤ T) (e : ∀ k, k < m → (st a).ch k = (st b).ch k) : False := by
  have still := r.still hab hb e
  obtain ⟨_, eR⟩ := Fr.uniq (r.okF a (by omega)).1 (r.okF b hb).1 e
  obtain ⟨i1, a1, b1, mx⟩ := max_of (P := fun _ => True) (f := q) hab
  have hasE : ∀ j, St.has m (st b) j → St.has m (st a) j := fun j ⟨k, hk, z⟩ => ⟨k, hk, by rw [e k hk]; exact z⟩
  have hasE' : ∀ j, St.has m (st a) j → St.has m (st b) j := fun j ⟨k, hk, z⟩ => ⟨k, hk, by rw [← e k hk]; exact z⟩
  have nilE : ∀ j, St.nil m L (st b) j → St.nil m L (st a) j := fun j h k hk z => by rw [eR k hk]; exact h k hk (by rw [← e k hk]; exact z)
  -- who is not there, and is there at another time, comes in
  have comes : ∀ j i i', a ≤ i → i ≤ b → a ≤ i' → i' ≤ b → ¬ St.has m (st i) j → St.has m (st i') j → ∃ x, a ≤ x ∧ x < b ∧ q x = j := fun j i i' x1 x2 y1 y2 no yes => by
    refine Classical.byContradiction fun nx => ?_
    refine round (P := fun i => ¬ St.has m (st i) j) (fun i u1 u2 h ⟨k, hk, z⟩ => ?_) (fun h z => h (hasE' j z)) x1 x2 y1 y2 no yes
    rw [r.next i (by omega)] at z
    by_cases ek : k = p i
    · rw [ek, St.next_chp] at z
      exact nx ⟨i, u1, u2, z⟩
    · rw [St.next_chk ek] at z
      exact h ⟨k, hk, z⟩
  have nilR : ∀ j i i', a ≤ i → i ≤ b → a ≤ i' → i' ≤ b → St.nil m L (st i) j → St.nil m L (st i') j := fun j i i' x1 x2 y1 y2 h => by
    refine round (P := fun i => St.nil m L (st i) j) (fun i u1 u2 h k hk z => ?_) (nilE j) x1 x2 y1 y2 h
    have g := r.goes i (by omega)
    have okI := (r.okF i (by omega)).1
    rw [r.next i (by omega)] at z ⊢
    by_cases ek : k = p i
    · rw [ek, St.next_p g.pos]
      exact still i u1 u2
    · rw [St.next_chk ek] at z
      have w := St.next_k okI g.pm g.pos hk ek L
      rw [h k hk z, still i u1 u2, Int.zero_mul, Int.mul_zero] at w
      have pd := Fr.pos okI
      have w' : (st i).d * ((st i).next (p i) (q i)).R k L = 0 := by rw [w]; rfl
      rcases Int.mul_eq_zero.mp w' with v | v
      · omega
      · exact v
  -- t, the greatest that comes in, comes in at i1 and is left at some i
  have g1 := r.goes i1 (by omega)
  have ok1 := (r.okF i1 (by omega)).1
  have not1 : ¬ St.has m (st i1) (q i1) := fun ⟨k, hk, z⟩ => by
    have w := St.red_basic ok1 hk c
    rw [z] at w
    have := g1.more
    omega
  have yes1 : St.has m (st (i1 + 1)) (q i1) := ⟨p i1, g1.pm, by rw [r.next i1 (by omega)]; exact St.next_chp⟩
  have goes : ∃ i, a ≤ i ∧ i < b ∧ (st i).ch (p i) = q i1 := by
    refine Classical.byContradiction fun nx => ?_
    refine not1 (round (P := fun i => St.has m (st i) (q i1)) (fun i u1 u2 ⟨k, hk, z⟩ => ?_) (hasE _) (i := i1 + 1) (j := i1) (by omega) (by omega) a1 (by omega) yes1)
    rw [r.next i (by omega)]
    by_cases ek : k = p i
    · exact absurd ⟨i, u1, u2, by rw [← ek]; exact z⟩ nx
    · exact ⟨k, hk, by rw [St.next_chk ek]; exact z⟩
  obtain ⟨i2, a2, b2, e2⟩ := goes
  have g2 := r.goes i2 (by omega)
  have ok2 := (r.okF i2 (by omega)).1
  have not2 : q i2 ≠ q i1 := fun z => by
    have w := St.red_basic ok2 g2.pm c
    rw [e2, ← z] at w
    have := g2.more
    omega
  have lt2 : q i2 < q i1 := by have := mx i2 a2 b2; omega
  have key := St.red_by ok2 ok1 c (q i2)
  have le := g1.least _ lt2
  have posd := Fr.pos ok1
  have posd2 := Fr.pos ok2
  have rhs := Int.mul_pos posd g2.more
  have l0 : (st i2).d * (st i1).red m c (q i2) ≤ 0 := by
    have := Int.mul_nonneg (Int.le_of_lt posd2) (show 0 ≤ -((st i1).red m c (q i2)) by omega)
    rw [Int.mul_neg] at this
    omega
  obtain ⟨k, hk, neg⟩ := sm_neg (n := m) (f := fun k => (st i1).red m c ((st i2).ch k) * (st i2).R k (q i2)) (by omega)
  have neg : (st i1).red m c ((st i2).ch k) * (st i2).R k (q i2) < 0 := neg
  have nob : ¬ St.has m (st i1) ((st i2).ch k) := fun ⟨k', hk', z⟩ => by
    have w := St.red_basic ok1 hk' c
    rw [z] at w
    rw [w, Int.zero_mul] at neg
    omega
  obtain ⟨x, x1, x2, ex⟩ := comes _ i1 i2 a1 (by omega) a2 (by omega) nob ⟨k, hk, rfl⟩
  have lex := mx x x1 x2
  rw [ex] at lex
  by_cases et : (st i2).ch k = q i1
  · have kp : k = p i2 := Fr.inj ok2 hk g2.pm (by rw [et, e2])
    rw [et, kp] at neg
    have := Int.mul_pos g1.more g2.pos
    omega
  · have lt : (st i2).ch k < q i1 := by omega
    have le2 := g1.least _ lt
    have pos : 0 < (st i2).R k (q i2) := by
      rcases Int.lt_or_le 0 ((st i2).R k (q i2)) with y | y
      · exact y
      · have := Int.mul_nonneg (show 0 ≤ -((st i1).red m c ((st i2).ch k)) by omega) (show 0 ≤ -((st i2).R k (q i2)) by omega)
        rw [Int.neg_mul_neg] at this
        omega
    have z0 : (st i2).R k L = 0 := nilR _ i1 i2 a1 (by omega) a2 (by omega) (fun k' hk' z => absurd ⟨k', hk', z⟩ nob) k hk rfl
    have z1 := still i2 a2 b2
    rcases g2.ahead k hk pos with y | ⟨_, y⟩
    · rw [z0, z1, Int.zero_mul, Int.zero_mul] at y
      omega
    · rw [e2] at y
      omega
end
end Wg

set_option linter.all false
namespace Wg
theorem pigeon : ∀ (K T : Nat) (f : Nat → Nat), (∀ i, i ≤ T → f i < K) → (∀ i j, i < j → j ≤ T → f i ≠ f j) → T < K := by
  intro K
  induction K with
  | zero => intro T f h _; exact absurd (h 0 (by omega)) (by omega)
  | succ K ih =>
    intro T f h inj
    by_cases ex : ∃ i, i ≤ T ∧ f i = K
    · obtain ⟨i0, h0, e0⟩ := ex
      cases T with
      | zero => omega
      | succ T =>
        have z := ih T (fun i => if i = i0 then f (T + 1) else f i) (fun i hi => ?_) (fun i j ij jT => ?_)
        · omega
        · show (if i = i0 then f (T + 1) else f i) < K
          split
          · rename_i e
            have a := h (T + 1) (by omega)
            have b := inj i (T + 1) (by omega) (by omega)
            rw [e, e0] at b
            omega
          · rename_i e
            have a := h i (by omega)
            have : f i ≠ K := fun z => by
              rcases Nat.lt_or_ge i i0 with y | y
              · exact inj i i0 y h0 (by omega)
              · exact inj i0 i (by omega) (by omega) (by omega)
            omega
        · show (if i = i0 then f (T + 1) else f i) ≠ (if j = i0 then f (T + 1) else f j)
          split
          · rw [if_neg (by omega)]
            exact fun z => inj j (T + 1) (by omega) (by omega) z.symm
          · split
            · exact inj i (T + 1) (by omega) (by omega)
            · exact inj i j ij (by omega)
    · have z := ih T f (fun i hi => ?_) inj
      · omega
      · have a := h i hi
        have : f i ≠ K := fun z => ex ⟨i, hi, z⟩
        omega
def code (N : Nat) (ch : Nat → Nat) : Nat → Nat
  | 0 => 0
  | k + 1 => code N ch k * N + ch k
theorem code_lt {N : Nat} {ch : Nat → Nat} : ∀ m, (∀ k, k < m → ch k < N) → code N ch m < N ^ m := by
  intro m
  induction m with
  | zero => exact fun _ => Nat.one_pos
  | succ m ih =>
    intro h
    have a := ih fun k hk => h k (by omega)
    have b := h m (by omega)
    show code N ch m * N + ch m < N ^ m * N
    have : (code N ch m + 1) * N ≤ N ^ m * N := Nat.mul_le_mul_right N a
    rw [Nat.add_mul] at this
    omega
theorem code_inj {N : Nat} {ch ch' : Nat → Nat} : ∀ m, (∀ k, k < m → ch k < N) → (∀ k, k < m → ch' k < N) → code N ch m = code N ch' m → ∀ k, k < m → ch k = ch' k := by
  intro m
  induction m with
  | zero => intros; omega
  | succ m ih =>
    intro h h' e k hk
    have e : code N ch m * N + ch m = code N ch' m * N + ch' m := e
    have a := h m (by omega)
    have b := h' m (by omega)
    have e1 : ch m = ch' m := by
      have := congrArg (· % N) e
      simp only [Nat.mul_add_mod_self_right, Nat.mod_eq_of_lt a, Nat.mod_eq_of_lt b] at this
      exact this
    have e2 : code N ch m = code N ch' m := by
      rw [e1] at e
      exact Nat.eq_of_mul_eq_mul_right (by omega) (Nat.add_right_cancel e)
    by_cases z : k = m
    · rw [z, e1]
    · exact ih (fun k hk => h k (by omega)) (fun k hk => h' k (by omega)) e2 k (by omega)
variable {m n L : Nat} {M : Nat → Nat → Int} {c : Nat → Int} {T : Nat} {st : Nat → St} {p q : Nat → Nat}
theorem Run.chs (r : Run m n L M c T st p q) {N : Nat} (hn : n ≤ N) (h : ∀ k, k < m → (st 0).ch k < N) : ∀ i, i ≤ T → ∀ k, k < m → (st i).ch k < N := by
  intro i
  induction i with
  | zero => exact fun _ => h
  | succ i ih =>
    intro hi k hk
    rw [r.next i (by omega)]
    have g := r.goes i (by omega)
    by_cases e : k = p i
    · rw [e, St.next_chp]
      have := g.qn
      omega
    · rw [St.next_chk e]
      exact ih (by omega) k hk
theorem Run.ends (r : Run m n L M c T st p q) {N : Nat} (hn : n ≤ N) (h : ∀ k, k < m → (st 0).ch k < N) : T < N ^ m :=
  pigeon (N ^ m) T (fun i => code N (st i).ch m) (fun i hi => code_lt m (r.chs hn h i hi)) fun i j ij jT z =>
    r.noround ij jT (code_inj m (r.chs hn h i (by omega)) (r.chs hn h j jT) z)
theorem Run.more (r : Run m n L M c T st p q) {p' q' : Nat} (g : Goes m n L c (st T) p' q') : ∃ st' p2 q2, Run m n L M c (T + 1) st' p2 q2 ∧ st' 0 = st 0 ∧ st' (T + 1) = (st T).next p' q' := by
  refine ⟨fun i => if i ≤ T then st i else (st T).next p' q', fun i => if i < T then p i else p', fun i => if i < T then q i else q', ⟨?_, ?_, fun i hi => ?_, fun i hi => ?_⟩, if_pos (by omega), if_neg (by omega)⟩
  · rw [if_pos (by omega)]; exact r.ok
  · rw [if_pos (by omega)]; exact r.feas
  · by_cases e : i < T
    · rw [if_pos (by omega), if_pos e, if_pos e]; exact r.goes i e
    · rw [if_pos (by omega), if_neg e, if_neg e, show i = T by omega]; exact g
  · by_cases e : i < T
    · rw [if_pos (by omega), if_pos (by omega), if_pos e, if_pos e]; exact r.next i e
    · rw [if_neg (by omega), if_pos (by omega), if_neg e, if_neg e, show i = T by omega]
theorem Run.none {S : St} (h : S.ok m M) (f : ∀ k, k < m → 0 ≤ S.R k L) : Run m n L M c 0 (fun _ => S) (fun _ => 0) (fun _ => 0) :=
  ⟨h, f, fun i hi => by omega, fun i hi => by omega⟩
theorem Run.keeps (r : Run m n L M c T st p q) {P : St → Prop} (h0 : P (st 0)) (h : ∀ S p q, S.ok m M → (∀ k, k < m → 0 ≤ S.R k L) → Goes m n L c S p q → P S → P (S.next p q)) : P (st T) := by
  have z : ∀ i, i ≤ T → P (st i) := by
    intro i
    induction i with
    | zero => exact fun _ => h0
    | succ i ih =>
      intro hi
      rw [r.next i (by omega)]
      exact h _ _ _ (r.okF i (by omega)).1 (r.okF i (by omega)).2 (r.goes i (by omega)) (ih (by omega))
  exact z T (Nat.le_refl _)
def mat (m n : Nat) (A : Nat → Nat → Int) (due : Nat → Int) : Nat → Nat → Int := fun j r =>
  if r < m then if j < n then sgn (due r) * A j r else if j < n + m then (if j = n + r then 1 else 0) else if j = n + m then sgn (due r) * due r else 0 else 0
variable {A : Nat → Nat → Int} {due : Nat → Int}
theorem mat_spare {i r : Nat} (hi : i < m) : mat m n A due (n + i) r = if r = i then 1 else 0 := by
  unfold mat
  by_cases hr : r < m
  · rw [if_pos hr, if_neg (by omega), if_pos (by omega)]
    by_cases e : r = i
    · rw [if_pos e, if_pos (by omega)]
    · rw [if_neg e, if_neg (by omega)]
  · rw [if_neg hr, if_neg (by omega)]
theorem mat_out {j r : Nat} (hr : ¬ r < m) : mat m n A due j r = 0 := if_neg hr
theorem mat_col {j r : Nat} (hr : r < m) (hj : j < n) : mat m n A due j r = sgn (due r) * A j r := by unfold mat; rw [if_pos hr, if_pos hj]
theorem mat_due {r : Nat} (hr : r < m) : mat m n A due (n + m) r = sgn (due r) * due r := by unfold mat; rw [if_pos hr, if_neg (by omega), if_neg (by omega), if_pos rfl]
theorem mat_by (j r : Nat) : mat m n A due j r = sm m fun i => mat m n A due j i * mat m n A due (n + i) r := by
  by_cases hr : r < m
  · rw [sm_one (k := r) hr fun i hi ne => by rw [mat_spare hi, if_neg (fun e => ne e.symm), Int.mul_zero], mat_spare hr, if_pos rfl, Int.mul_one]
  · rw [mat_out hr, sm_zero fun i hi => by rw [mat_out hr, Int.mul_zero]]
def start (m n : Nat) (A : Nat → Nat → Int) (due : Nat → Int) : St := ⟨1, fun k j => mat m n A due j k, fun k => n + k, 1⟩
theorem start_ok : (start m n A due).ok m (mat m n A due) := by
  refine ⟨by show (0 : Int) < 1; decide, fun j r => ?_, .inl rfl, ?_⟩
  · show 1 * _ = _
    rw [Int.one_mul]
    exact mat_by j r
  · show 1 = 1 * det m (fun k => mat m n A due (n + k))
    rw [Int.one_mul, ← det_one m]
    refine det_ext fun k hk r hr => ?_
    rw [mat_spare hk]
    by_cases e : k = r
    · rw [if_pos e, if_pos e.symm]
    · rw [if_neg e, if_neg (fun z => e z.symm)]
theorem sgn_nn (x : Int) : 0 ≤ sgn x * x := by unfold sgn; split <;> omega
theorem start_feas : ∀ k, k < m → 0 ≤ (start m n A due).R k (n + m) := fun k hk => by
  show 0 ≤ mat m n A due (n + m) k
  rw [mat_due hk]
  exact sgn_nn _
theorem rows_by {S : St} (h : S.ok m (mat m n A due)) {k : Nat} (hk : k < m) (j : Nat) : S.R k j = sm m fun i => mat m n A due j i * S.R k (n + i) := by
  rw [Fr.cramer h hk, show mat m n A due j = fun r => sm m fun i => mat m n A due j i * mat m n A due (n + i) r from funext fun r => mat_by j r, det_sum hk, ← sm_mul]
  refine sm_ext fun i hi => ?_
  rw [Fr.cramer h hk (n + i)]
  show _ = (sm m fun i' => mat m n A due j i' * mat m n A due (n + i') i) * _
  rw [← mat_by j i]
  grind
def price (m n : Nat) (c : Nat → Int) (S : St) (i : Nat) : Int := sm m fun k => c (S.ch k) * S.R k (n + i)
theorem price_col {S : St} (h : S.ok m (mat m n A due)) (c : Nat → Int) (j : Nat) : (sm m fun i => mat m n A due j i * price m n c S i) = c j * S.d - S.red m c j := by
  have e : (sm m fun i => mat m n A due j i * price m n c S i) = sm m fun k => c (S.ch k) * S.R k j := by
    have e1 : (sm m fun i => mat m n A due j i * price m n c S i) = sm m fun i => sm m fun k => mat m n A due j i * (c (S.ch k) * S.R k (n + i)) := sm_ext fun i hi => by
      unfold price
      rw [sm_mul]
    rw [e1, sm_comm]
    refine sm_ext fun k hk => ?_
    rw [rows_by h hk j, ← sm_mul]
    refine sm_ext fun i hi => ?_
    grind
  rw [e]
  unfold St.red red
  omega
theorem sgn_sq (x : Int) : sgn x * sgn x = 1 := by rcases sgn_sg x with e | e <;> rw [e] <;> rfl
theorem price_told {S : St} (h : S.ok m (mat m n A due)) (c : Nat → Int) {j : Nat} (hj : j < n) : (sm m fun i => A j i * (sgn (due i) * price m n c S i)) = c j * S.d - S.red m c j := by
  rw [← price_col h]
  refine sm_ext fun i hi => ?_
  rw [mat_col hi hj]
  grind
theorem price_due {S : St} (h : S.ok m (mat m n A due)) (c : Nat → Int) (c0 : c (n + m) = 0) : (sm m fun i => due i * (sgn (due i) * price m n c S i)) = sm m fun k => c (S.ch k) * S.R k (n + m) := by
  have z := price_col h c (n + m)
  unfold St.red red at z
  rw [c0] at z
  have e : (sm m fun i => due i * (sgn (due i) * price m n c S i)) = sm m fun i => mat m n A due (n + m) i * price m n c S i := sm_ext fun i hi => by
    rw [mat_due hi]
    grind
  rw [e, z]
  omega
def wt (m : Nat) (f : Nat → Int) (S : St) (j : Nat) : Int := sm m fun k => if S.ch k = j then f k else 0
theorem wt_sum (f : Nat → Int) (S : St) (g : Nat → Int) (h0 : ∀ k, k < m → n ≤ S.ch k → g (S.ch k) * f k = 0) : (sm n fun j => g j * wt m f S j) = sm m fun k => g (S.ch k) * f k := by
  have e1 : (sm n fun j => g j * wt m f S j) = sm n fun j => sm m fun k => if S.ch k = j then g j * f k else 0 := sm_ext fun j hj => by
    unfold wt
    rw [← sm_mul]
    refine sm_ext fun k hk => ?_
    split
    · rfl
    · exact Int.mul_zero _
  rw [e1, sm_comm]
  refine sm_ext fun k hk => ?_
  rcases Nat.lt_or_ge (S.ch k) n with z | z
  · rw [sm_one (k := S.ch k) z fun i hi ne => if_neg (fun e => ne e.symm), if_pos rfl]
  · rw [sm_zero fun i hi => if_neg (by omega), h0 k hk z]
theorem wt_at {S : St} (h : S.ok m M) (f : Nat → Int) {k : Nat} (hk : k < m) : wt m f S (S.ch k) = f k := by
  unfold wt
  rw [sm_one hk fun i hi ne => if_neg fun e => ne (Fr.inj h hi hk e), if_pos rfl]
theorem wt_no {S : St} (f : Nat → Int) {j : Nat} (h : ∀ k, k < m → S.ch k ≠ j) : wt m f S j = 0 := sm_zero fun k hk => if_neg (h k hk)
theorem sm_nn {n : Nat} {f : Nat → Int} (h : ∀ i, i < n → 0 ≤ f i) : 0 ≤ sm n f := by
  have z := sm_le (n := n) (f := fun _ => 0) (g := f) h
  rw [sm_zero fun _ _ => rfl] at z
  exact z
theorem wt_nn {f : Nat → Int} (h : ∀ k, k < m → 0 ≤ f k) (S : St) (j : Nat) : 0 ≤ wt m f S j := sm_nn fun k hk => by
  split
  · exact h k hk
  · exact Int.le_refl _
def Clean (m n : Nat) (S : St) : Prop := ∀ k, k < m → n ≤ S.ch k → S.R k (n + m) = 0 ∧ ∀ j, j < n → S.R k j = 0
theorem meets {S : St} (h : S.ok m (mat m n A due)) (cl : Clean m n S) {i : Nat} (hi : i < m) : (sm n fun j => A j i * wt m (fun k => S.R k (n + m)) S j) = due i * S.d := by
  rw [wt_sum (fun k => S.R k (n + m)) S (fun j => A j i) fun k hk z => by rw [(cl k hk z).1, Int.mul_zero]]
  have e := Fr.eq h (n + m) i
  rw [mat_due hi] at e
  have e2 : sgn (due i) * (sm m fun k => A (S.ch k) i * S.R k (n + m)) = S.d * (sgn (due i) * due i) := by
    rw [e, ← sm_mul]
    refine sm_ext fun k hk => ?_
    rcases Nat.lt_or_ge (S.ch k) n with z | z
    · rw [mat_col hi z]; grind
    · rw [(cl k hk z).1]; grind
  have sq := sgn_sq (due i)
  generalize (sm m fun k => A (S.ch k) i * S.R k (n + m)) = X at e2 ⊢
  generalize sgn (due i) = s at e2 sq
  have : s * (s * X) = s * (S.d * (s * due i)) := by rw [e2]
  grind
theorem away {S : St} (h : S.ok m (mat m n A due)) (cl : Clean m n S) {q : Nat} (hq : q < n) {i : Nat} (hi : i < m) : A q i * S.d + (sm n fun j => A j i * wt m (fun k => - S.R k q) S j) = 0 := by
  rw [wt_sum (fun k => - S.R k q) S (fun j => A j i) fun k hk z => by rw [(cl k hk z).2 q hq]; grind]
  have e := Fr.eq h q i
  rw [mat_col hi hq] at e
  have e2 : sgn (due i) * (sm m fun k => A (S.ch k) i * - S.R k q) = - (S.d * (sgn (due i) * A q i)) := by
    rw [e, ← sm_mul, show ∀ a : Int, - a = (-1) * a from fun a => by omega, ← sm_mul]
    refine sm_ext fun k hk => ?_
    rcases Nat.lt_or_ge (S.ch k) n with z | z
    · rw [mat_col hi z]; grind
    · rw [(cl k hk z).2 q hq]; grind
  have sq := sgn_sq (due i)
  generalize (sm m fun k => A (S.ch k) i * - S.R k q) = X at e2 ⊢
  generalize sgn (due i) = s at e2 sq
  have : s * (s * X) = s * (- (S.d * (s * A q i))) := by rw [e2]
  grind
theorem clean_next {S : St} (h : S.ok m M) {p q : Nat} (hp : p < m) (hq : q < n) (nz : S.R p q ≠ 0) (cl : Clean m n S) : Clean m n (S.next p q) := fun k hk z => by
  have ne : k ≠ p := fun e => by rw [e, St.next_chp] at z; omega
  rw [St.next_chk ne] at z
  obtain ⟨a, b⟩ := cl k hk z
  have key : ∀ j, S.R k j = 0 → (S.next p q).R k j = 0 := fun j e => by
    have w := Fr.rowN h (q := q) hp hk ne j
    rw [e, b q hq, Int.zero_mul, Int.zero_mul] at w
    have pd := Fr.pos h
    have w' : S.d * (S.next p q).R k j = 0 := w
    rcases Int.mul_eq_zero.mp w' with v | v
    · omega
    · exact v
  exact ⟨key _ a, fun j hj => key j (b j hj)⟩
theorem zero_next {S : St} (h : S.ok m M) {p q : Nat} (hp : p < m) (nz : S.R p q ≠ 0) (z : S.R p L = 0) (f : ∀ k, k < m → 0 ≤ S.R k L) : (∀ k, k < m → 0 ≤ (S.next p q).R k L) ∧ ∀ k, k < m → S.R k L = 0 → (S.next p q).R k L = 0 := by
  have pd := Fr.pos h
  have key : ∀ k, k < m → k ≠ p → S.d * (S.next p q).R k L = S.R k L * (sgn (S.R p q) * S.R p q) := fun k hk ne => by
    have w := Fr.rowN h (q := q) hp hk ne L
    rw [z, Int.mul_zero, Int.mul_zero, Int.sub_zero] at w
    exact w
  have at_p : (S.next p q).R p L = 0 := by
    show rowN _ _ _ _ _ _ = _
    unfold rowN
    rw [if_pos rfl, z, Int.mul_zero]
  refine ⟨fun k hk => ?_, fun k hk e => ?_⟩
  · by_cases e : k = p
    · rw [e, at_p]; exact Int.le_refl _
    · have w := key k hk e
      have : 0 ≤ S.d * (S.next p q).R k L := by rw [w]; exact Int.mul_nonneg (f k hk) (Int.le_of_lt (sgn_pos nz))
      exact Int.nonneg_of_mul_nonneg_right this pd
  · by_cases ek : k = p
    · rw [ek, at_p]
    · have w := key k hk ek
      rw [e, Int.zero_mul] at w
      rcases Int.mul_eq_zero.mp w with v | v
      · omega
      · exact v
theorem row_next {S : St} (h : S.ok m M) {p q : Nat} (hp : p < m) (hq : q < n) (nz : S.R p q ≠ 0) {k : Nat} (hk : k < m) (ne : k ≠ p) (r0 : ∀ j, j < n → S.R k j = 0) : ∀ j, j < n → (S.next p q).R k j = 0 := fun j hj => by
  have w := Fr.rowN h (q := q) hp hk ne j
  rw [r0 j hj, r0 q hq, Int.zero_mul, Int.zero_mul] at w
  have pd := Fr.pos h
  have w' : S.d * (S.next p q).R k j = 0 := w
  rcases Int.mul_eq_zero.mp w' with v | v
  · omega
  · exact v
def lv (m n : Nat) (j : Nat) : Int := if n ≤ j ∧ j < n + m then -1 else 0
theorem phase1_noend {S : St} (h : S.ok m M) {q : Nat} (hq : q < n) (g : 0 < S.red m (lv m n) q) (le : ∀ k, k < m → S.R k q ≤ 0) : False := by
  unfold St.red red at g
  rw [show lv m n q = 0 from if_neg (by omega), Int.zero_mul] at g
  have z : 0 ≤ sm m fun k => lv m n (S.ch k) * S.R k q := sm_nn fun k hk => by
    have := le k hk
    unfold lv
    split <;> omega
  omega
theorem none_told {S : St} (h : S.ok m (mat m n A due)) (f : ∀ k, k < m → 0 ≤ S.R k (n + m)) (le : ∀ j, j < n → S.red m (lv m n) j ≤ 0) (ch : ∀ k, k < m → S.ch k < n + m) {k : Nat} (hk : k < m) (sp : n ≤ S.ch k) (nz : S.R k (n + m) ≠ 0) :
    (∀ j, j < n → 0 ≤ sm m fun i => A j i * (sgn (due i) * price m n (lv m n) S i)) ∧ (sm m fun i => due i * (sgn (due i) * price m n (lv m n) S i)) < 0 := by
  refine ⟨fun j hj => ?_, ?_⟩
  · rw [price_told h _ hj, show lv m n j = 0 from if_neg (by omega)]
    have := le j hj
    omega
  · rw [price_due h _ (if_neg (by omega))]
    have z : sm m (fun k => lv m n (S.ch k) * S.R k (n + m)) ≤ sm m fun i => if i = k then -1 else 0 := sm_le fun i hi => by
      have a := f i hi
      by_cases e : i = k
      · rw [if_pos e, e]
        rw [e] at a
        rw [show lv m n (S.ch k) = -1 from if_pos ⟨sp, ch k hk⟩]
        omega
      · rw [if_neg e]
        unfold lv
        split <;> omega
    rw [sm_one hk (fun i hi ne => if_neg ne), if_pos rfl] at z
    omega
theorem best_told {S : St} {g : Nat → Int} (h : S.ok m (mat m n A due)) (cl : Clean m n S) (le : ∀ j, j < n → S.red m g j ≤ 0) (g0 : ∀ j, n ≤ j → g j = 0) :
    (∀ j, j < n → g j * S.d ≤ sm m fun i => A j i * (sgn (due i) * price m n g S i)) ∧ (sm m fun i => due i * (sgn (due i) * price m n g S i)) = sm n fun j => g j * wt m (fun k => S.R k (n + m)) S j := by
  refine ⟨fun j hj => ?_, ?_⟩
  · rw [price_told h _ hj]
    have := le j hj
    omega
  · rw [price_due h _ (g0 _ (by omega)), wt_sum (fun k => S.R k (n + m)) S g fun k hk z => by rw [g0 _ z, Int.zero_mul]]
def way (m q : Nat) (S : St) (j : Nat) : Int := if j = q then S.d else wt m (fun k => - S.R k q) S j
theorem way_sum {S : St} {q : Nat} (hq : q < n) (no : ∀ k, k < m → S.ch k ≠ q) (a : Nat → Int) : (sm n fun j => a j * way m q S j) = a q * S.d + sm n fun j => a j * wt m (fun k => - S.R k q) S j := by
  have e : (sm n fun j => a j * way m q S j) = sm n fun j => (if j = q then a q * S.d else 0) + a j * wt m (fun k => - S.R k q) S j := sm_ext fun j hj => by
    unfold way
    by_cases e : j = q
    · rw [if_pos e, if_pos e, e, wt_no _ no]
      omega
    · rw [if_neg e, if_neg e, Int.zero_add]
  rw [e, sm_add, sm_one hq fun i hi ne => if_neg ne, if_pos rfl]
theorem no_basic {S : St} {g : Nat → Int} (h : S.ok m M) {q : Nat} (gr : 0 < S.red m g q) : ∀ k, k < m → S.ch k ≠ q := fun k hk e => by
  have z := St.red_basic h hk g
  rw [e] at z
  omega
theorem endless_told {S : St} {g : Nat → Int} (h : S.ok m (mat m n A due)) (cl : Clean m n S) (g0 : ∀ j, n ≤ j → g j = 0) {q : Nat} (hq : q < n) (gr : 0 < S.red m g q) (le : ∀ k, k < m → S.R k q ≤ 0) :
    (∀ j, 0 ≤ way m q S j) ∧ (∀ i, i < m → (sm n fun j => A j i * way m q S j) = 0) ∧ 0 < sm n fun j => g j * way m q S j := by
  have no := no_basic h gr
  refine ⟨fun j => ?_, fun i hi => ?_, ?_⟩
  · unfold way
    split
    · exact Int.le_of_lt (Fr.pos h)
    · exact wt_nn (fun k hk => by have := le k hk; omega) S j
  · rw [way_sum hq no (fun j => A j i)]
    exact away h cl hq hi
  · rw [way_sum hq no g, wt_sum (fun k => - S.R k q) S g fun k hk z => by rw [g0 _ z, Int.zero_mul]]
    unfold St.red red at gr
    have e : (sm m fun k => g (S.ch k) * - S.R k q) = -(sm m fun k => g (S.ch k) * S.R k q) := by
      rw [show ∀ a : Int, - a = (-1) * a from fun a => by omega, ← sm_mul]
      refine sm_ext fun k hk => ?_
      grind
    rw [e]
    omega
end Wg
namespace Wg
def Ah (L q : Nat) (S : St) (a b : Nat) : Prop := S.R a L * S.R b q < S.R b L * S.R a q ∨ (S.R a L * S.R b q = S.R b L * S.R a q ∧ S.ch a ≤ S.ch b)
theorem Ah.refl {L q : Nat} {S : St} (a : Nat) : Ah L q S a a := .inr ⟨rfl, Nat.le_refl _⟩
theorem Ah.le {L q : Nat} {S : St} {a b : Nat} (h : Ah L q S a b) : S.R a L * S.R b q ≤ S.R b L * S.R a q := by
  rcases h with h | ⟨h, _⟩ <;> omega
theorem Ah.trans {L q : Nat} {S : St} {a b c : Nat} (ha : 0 < S.R a q) (hb : 0 < S.R b q) (hc : 0 < S.R c q) (h1 : Ah L q S a b) (h2 : Ah L q S b c) : Ah L q S a c := by
  rcases h1 with h1 | ⟨h1, e1⟩
  · exact .inl (lt_chain2 hb ha hc h1 h2.le)
  · rcases h2 with h2 | ⟨h2, e2⟩
    · exact .inl (lt_chain hb ha hc (Int.le_of_eq h1) h2)
    · have z1 := le_chain hb ha hc (Int.le_of_eq h1) (Int.le_of_eq h2)
      have z2 := le_chain hb hc ha (Int.le_of_eq h2.symm) (Int.le_of_eq h1.symm)
      exact .inr ⟨Int.le_antisymm z1 z2, Nat.le_trans e1 e2⟩
theorem Ah.of_not {L q : Nat} {S : St} {a b : Nat} (h : ¬ (S.R b L * S.R a q < S.R a L * S.R b q ∨ (S.R b L * S.R a q = S.R a L * S.R b q ∧ S.ch b < S.ch a))) : Ah L q S a b := by
  rcases Int.lt_trichotomy (S.R a L * S.R b q) (S.R b L * S.R a q) with z | z | z
  · exact .inl z
  · refine .inr ⟨z, ?_⟩
    rcases Nat.lt_or_ge (S.ch b) (S.ch a) with y | y
    · exact absurd (.inr ⟨z.symm, y⟩) h
    · exact y
  · exact absurd (.inl z) h
theorem Ah.of {L q : Nat} {S : St} {a b : Nat} (h : S.R a L * S.R b q < S.R b L * S.R a q ∨ (S.R a L * S.R b q = S.R b L * S.R a q ∧ S.ch a < S.ch b)) : Ah L q S a b := by
  rcases h with h | ⟨h, e⟩
  · exact .inl h
  · exact .inr ⟨h, Nat.le_of_lt e⟩
end Wg

set_option Elab.async false
set_option linter.all false
set_option maxRecDepth 100000
set_option maxHeartbeats 8000000
namespace K62
open PySem L2
seal PE PT PW PA PS PSs PG PGs PI OpR UnR CallR PO SlR IxR MtR MtM PIfs PSet PIp PGet
def top (i : Nat) : Stmt := PySem.Challenge.pw_shareparley_k62_whole_swelling_orders_ar.main.body.getD i (.Pass ⟨0, 0, 0, 0⟩)
abbrev sNum : Stmt := top 9
abbrev sGcd : Stmt := top 26
abbrev sFr : Stmt := top 27
abbrev sAreN : Stmt := top 41
abbrev sCkR : Stmt := top 42
abbrev sSgn : Stmt := top 43
abbrev sFRw : Stmt := top 44
abbrev sClr : Stmt := top 45
abbrev sClb : Stmt := top 47
abbrev sSpP : Stmt := top 48
abbrev sLvS : Stmt := top 49
abbrev sWtO : Stmt := top 50
abbrev sPrO : Stmt := top 51
abbrev sWyO : Stmt := top 52
abbrev sWgh : Stmt := top 53
abbrev sWith : Stmt := top 10
abbrev sPlu : Stmt := top 29
abbrev sWC : Stmt := top 13
abbrev sChk : Stmt := top 14
abbrev sHnd : Stmt := top 15
abbrev sMrk : Stmt := top 16
abbrev sIsT : Stmt := top 20
abbrev sHin : Stmt := top 21
abbrev sSho : Stmt := top 56
abbrev sSta : Stmt := top 58
abbrev sPts : Stmt := top 17
abbrev sSop : Stmt := top 23
abbrev sDvd : Stmt := top 24
abbrev sIsF : Stmt := top 28
abbrev sUnd : Stmt := top 30
abbrev sIor : Stmt := top 33
abbrev sOsh : Stmt := top 34
abbrev sMsh : Stmt := top 35
abbrev sMss : Stmt := top 36
abbrev sSwl : Stmt := top 37
abbrev sCks : Stmt := top 55
abbrev sBet : Stmt := top 57
abbrev sCel : Stmt := top 60
abbrev sDrw : Stmt := top 61
abbrev sWho : Stmt := top 62
abbrev sDiv : Stmt := top 63
abbrev sLFr : Stmt := top 64
abbrev sLFs : Stmt := top 65
abbrev sLow : Stmt := top 66
abbrev sTop : Stmt := top 67
abbrev sShr : Stmt := top 68
abbrev sDrn : Stmt := top 69
abbrev sLSw : Stmt := top 70
abbrev sOro : Stmt := top 71
abbrev sLSt : Stmt := top 72
abbrev sByO : Stmt := top 73
abbrev sTwG : Stmt := top 74
abbrev sLaw : Stmt := top 75
abbrev sFI : Stmt := inClass (top 46) 0
abbrev sCho : Stmt := inClass (top 46) 1
abbrev sGMo : Stmt := inClass (top 46) 2
abbrev sCTC : Stmt := inClass (top 46) 3
abbrev sCAh : Stmt := inClass (top 46) 4
abbrev sPTL : Stmt := inClass (top 46) 5
def dv (a b : Int) : Int := if b < 0 then -(Int.gcd a b : Int) else (Int.gcd a b : Int)
theorem dv_spec (a b : Int) (hb : b ≠ 0) : dv a b ≠ 0 ∧ a.fdiv (dv a b) * b = a * b.fdiv (dv a b) ∧ 1 ≤ b.fdiv (dv a b) ∧ Int.gcd (a.fdiv (dv a b)) (b.fdiv (dv a b)) = 1 := by
  have hg : 0 < Int.gcd a b := Int.gcd_pos_of_ne_zero_right _ hb
  obtain ⟨a', ha⟩ : (Int.gcd a b : Int) ∣ a := Int.gcd_dvd_left ..
  obtain ⟨b', hb'⟩ : (Int.gcd a b : Int) ∣ b := Int.gcd_dvd_right ..
  have hgi : (0 : Int) < (Int.gcd a b : Int) := by omega
  have hcop : Int.gcd a' b' = 1 := by
    have h1 : Int.gcd a b * Int.gcd a' b' = Int.gcd a b := by
      have := Int.gcd_mul_left (Int.gcd a b : Int) a' b'
      rw [← ha, ← hb'] at this
      simpa using this.symm
    exact Nat.eq_of_mul_eq_mul_left hg (h1.trans (Nat.mul_one _).symm)
  unfold dv
  generalize hG : (Int.gcd a b : Int) = G at *
  clear hG hg
  subst ha hb'
  have hG0 : G ≠ 0 := by omega
  have e1 : (G * a').fdiv G = a' := Int.mul_fdiv_cancel_left _ hG0
  have e2 : (G * b').fdiv G = b' := Int.mul_fdiv_cancel_left _ hG0
  have n1 : (G * a').fdiv (-G) = -a' := by
    have h : G * a' = (-G) * (-a') := by rw [Int.neg_mul_neg]
    rw [h]
    exact Int.mul_fdiv_cancel_left _ (by omega)
  have n2 : (G * b').fdiv (-G) = -b' := by
    have h : G * b' = (-G) * (-b') := by rw [Int.neg_mul_neg]
    rw [h]
    exact Int.mul_fdiv_cancel_left _ (by omega)
  by_cases h : G * b' < 0
  · rw [if_pos h, n1, n2]
    have hbn : b' < 0 := by
      rcases Int.lt_or_le b' 0 with h' | h'
      · exact h'
      · exact absurd (Int.mul_nonneg (Int.le_of_lt hgi) h') (Int.not_le.mpr h)
    refine ⟨by omega, ?_, by omega, ?_⟩
    · rw [Int.neg_mul, Int.mul_neg, Int.mul_left_comm, Int.mul_assoc]
    · simpa using hcop
  · rw [if_neg h, e1, e2]
    have hbn : 0 < b' := by
      rcases Int.lt_trichotomy b' 0 with h' | h' | h'
      · exact absurd (Int.mul_neg_of_pos_of_neg hgi h') h
      · subst h'; simp at hb
      · exact h'
    exact ⟨hG0, by rw [Int.mul_left_comm, Int.mul_assoc], by omega, hcop⟩
theorem gcd_turn (d r : Nat) : Nat.gcd r (d % r) = Nat.gcd d r := by
  rw [Nat.gcd_comm, ← Nat.gcd_rec, Nat.gcd_comm]
theorem fr_exact {t b : Int} (hb : 1 ≤ b) : (Int.gcd t b : Int) ≠ 0 ∧ Int.gcd t b ≤ b.natAbs ∧ 1 ≤ b.fdiv (Int.gcd t b : Int) ∧ Int.gcd (t.fdiv (Int.gcd t b : Int)) (b.fdiv (Int.gcd t b : Int)) = 1 ∧ b.fdiv (Int.gcd t b : Int) ∣ b ∧ (t.fdiv (Int.gcd t b : Int)).natAbs ≤ t.natAbs := by
  have hg : 0 < Int.gcd t b := Int.gcd_pos_of_ne_zero_right _ (by omega)
  have hle : Int.gcd t b ≤ b.natAbs := Nat.le_of_dvd (by omega) (Nat.gcd_dvd_right _ _)
  have hlast := Int.natAbs_fdiv_le_natAbs t (Int.gcd t b : Int)
  obtain ⟨a', ha⟩ : (Int.gcd t b : Int) ∣ t := Int.gcd_dvd_left ..
  obtain ⟨b', hb'⟩ : (Int.gcd t b : Int) ∣ b := Int.gcd_dvd_right ..
  have hgi : (0 : Int) < (Int.gcd t b : Int) := by omega
  have hcop : Int.gcd a' b' = 1 := by
    have h1 : Int.gcd t b * Int.gcd a' b' = Int.gcd t b := by
      have := Int.gcd_mul_left (Int.gcd t b : Int) a' b'
      rw [← ha, ← hb'] at this
      simpa using this.symm
    exact Nat.eq_of_mul_eq_mul_left hg (h1.trans (Nat.mul_one _).symm)
  have e1 : t.fdiv (Int.gcd t b : Int) = a' := by
    conv => lhs; arg 1; rw [ha]
    exact Int.mul_fdiv_cancel_left _ (by omega)
  have e2 : b.fdiv (Int.gcd t b : Int) = b' := by
    conv => lhs; arg 1; rw [hb']
    exact Int.mul_fdiv_cancel_left _ (by omega)
  refine ⟨by omega, hle, ?_, ?_, ?_, hlast⟩
  · rw [e2]
    rcases Int.lt_or_le 0 b' with h | h
    · omega
    · have := Int.mul_nonpos_of_nonneg_of_nonpos (Int.le_of_lt hgi) h
      omega
  · rw [e1, e2]
    exact hcop
  · rw [e2]
    exact ⟨_, by rw [Int.mul_comm]; exact hb'⟩
theorem inB_natM {v : V} {m : Nat} (h1 : inB 0 (2 ^ m - 1) v = true) : ∃ g : Nat, v = .int (g : Int) ∧ g < 2 ^ m := by
  cases v with
  | int i =>
    have z : (decide (0 ≤ i) && decide (i ≤ 2 ^ m - 1)) = true := h1
    rw [Bool.and_eq_true] at z
    have z1 := of_decide_eq_true z.1
    have z2 := of_decide_eq_true z.2
    have e : ((2 ^ m : Nat) : Int) = 2 ^ m := by push_cast; rfl
    exact ⟨i.toNat, by rw [Int.toNat_of_nonneg z1], by omega⟩
  | _ => exact (Bool.false_ne_true h1).elim
theorem nat_inB {g m : Nat} (hg : g < 2 ^ m) : inB 0 (2 ^ m - 1) (.int (g : Int)) = true := by
  show (decide (0 ≤ (g : Int)) && decide ((g : Int) ≤ 2 ^ m - 1)) = true
  have e : ((2 ^ m : Nat) : Int) = 2 ^ m := by push_cast; rfl
  rw [decide_eq_true (by omega), decide_eq_true (by omega)]
  rfl
def aloneL : List Int := [1, 2, 4, 8, 16, 32]
def alone (i : Nat) : Int := aloneL.getD i 0
def handF (g : Nat) (i : Nat) : Option V := if Builtin.bitAnd (g : Int) (alone i) = 0 then none else some (.int (i : Int))
def hN (g : Nat) : Nat → List Int
  | 0 => []
  | i + 1 => if g / 2 ^ i % 2 = 1 then hN g i ++ [(i : Int)] else hN g i
def hands (g : Nat) : List Int := hN g 6
theorem hands_comp : ∀ g : _root_.Fin 64, (List.range 6).filterMap (handF g.1) = (hands g.1).map V.int := by decide +kernel
theorem hN_len (g : Nat) : ∀ i, (hN g i).length ≤ i
  | 0 => Nat.le_refl _
  | i + 1 => by
    have h := hN_len g i
    unfold hN
    split
    · rw [List.length_append, List.length_singleton]; omega
    · omega
theorem hN_in2 {g m : Nat} (hg : g < 2 ^ m) : ∀ (i : Nat) (x : Int), x ∈ hN g i → 0 ≤ x ∧ x < m
  | 0, x, h => by cases h
  | i + 1, x, h => by
    unfold hN at h
    split at h
    · rename_i hb
      rcases List.mem_append.mp h with h | h
      · exact hN_in2 hg i x h
      · have : x = (i : Int) := by simpa using h
        rcases Nat.lt_or_ge i m with z | z
        · omega
        · have : g / 2 ^ i = 0 := Nat.div_eq_of_lt (Nat.lt_of_lt_of_le hg (Nat.pow_le_pow_right (by decide) z))
          omega
    · exact hN_in2 hg i x h
def preS (ns : List Int) (g : Nat) : Nat → Int
  | 0 => 0
  | i + 1 => if g / 2 ^ i % 2 = 1 then preS ns g i + ns.getD i 0 else preS ns g i
def sumH (ns : List Int) (g : Nat) : Int := preS ns g ns.length
theorem cut_lo (xs : List V) (n : Nat) : cutV xs (some (n : Int)) none = xs.drop n := by
  unfold cutV
  rw [HT.sIx_nat, HT.sIx_none]
  rcases Nat.le_total n xs.length with h | h
  · rw [Nat.min_eq_left h]
    exact List.take_of_length_le (by rw [List.length_drop]; omega)
  · rw [Nat.min_eq_right h, List.drop_length, List.drop_of_length_le h]
    simp
theorem cut_hi (xs : List V) (n : Nat) : cutV xs none (some (n : Int)) = xs.take n := by
  unfold cutV
  rw [HT.sIx_nat, HT.sIx_none, List.drop_zero, Nat.sub_zero]
  rcases Nat.le_total n xs.length with h | h
  · rw [Nat.min_eq_left h]
  · rw [Nat.min_eq_right h, List.take_length, List.take_of_length_le h]
theorem pow6 {m : Nat} (h : m ≤ 6) : 2 ^ m ≤ 64 := Nat.pow_le_pow_right (n := 2) (by decide) h
theorem pl_ints {K : PySem.W.Frag} {H : Hp} {ns : List Int} : ∀ u ∈ ns.map V.int, Pl K H u := fun u hu => by
  obtain ⟨x, _, rfl⟩ := List.mem_map.mp hu
  exact .int x
theorem all_ints (ns : List Int) : (ns.map V.int).all isI = true := by
  induction ns with
  | nil => rfl
  | cons n r ih => exact ih
theorem fm_congr {α β : Type} {f g : α → Option β} : ∀ {l : List α}, (∀ x ∈ l, f x = g x) → l.filterMap f = l.filterMap g
  | [], _ => rfl
  | x :: r, h => by
    rw [List.filterMap_cons, List.filterMap_cons, h x (by simp), fm_congr fun y hy => h y (by simp [hy])]
def lensL : List Int := [1, 2, 4, 8, 16, 32, 64]
structure FC (K : PySem.W.Frag) (C fCh fGM fCC fCA fPL : Addr) : Prop where
  oc : OCls K C
  nm : NoAttr K C "many"
  nb : NoAttr K C "bottom"
  nr : NoAttr K C "rows"
  nc : NoAttr K C "chosen"
  mch : Meth K C "choose" fCh
  mgm : Meth K C "gains_more" fGM
  mcc : Meth K C "column_to_choose" fCC
  mca : Meth K C "comes_ahead" fCA
  mpl : Meth K C "place_to_leave" fPL
structure T (K : PySem.W.Frag) (mg : Str → Option Value) (AL LN FR iF fCh fGM fCC fCA fPL SE NN NG NT NO NR NS : Addr) : Prop where
  b_isi : mg "isinstance" = none
  b_int : mg "int" = none
  b_bool : mg "bool" = none
  b_range : mg "range" = none
  b_len : mg "len" = none
  b_list : mg "list" = none
  b_sum : mg "sum" = none
  b_all : mg "all" = none
  b_any : mg "any" = none
  b_tuple : mg "tuple" = none
  b_zip : mg "zip" = none
  b_abs : mg "abs" = none
  b_enum : mg "enumerate" = none
  b_max : mg "max" = none
  b_str : mg "str" = none
  b_sorted : mg "sorted" = none
  b_min : mg "min" = none
  ev : ∃ tk, mg "EVENLY" = some (.int 60 tk)
  mAL : mg "ALONE" = some (.ref AL)
  al : ∀ H : Hp, SqT K H AL (aloneL.map V.int)
  mLN : mg "LENGTHS" = some (.ref LN)
  ln : ∀ H : Hp, SqT K H LN (lensL.map V.int)
  tyL : ∃ o, K.lookup LN = some o ∧ o.cls = .type "tuple" ∧ o.dict = none
  mp : ∃ tk, mg "MOST_PLACES" = some (.int 8 tk)
  mc : ∃ tk, mg "MOST_COLUMNS" = some (.int 70 tk)
  mFR : mg "Frame" = some (.ref FR)
  rFR : FC K FR fCh fGM fCC fCA fPL
  kFR : Mk K FR iF
  xFI : ∃ fd, Mx K "__init__" "Frame.__init__" sFI ["self", "columns", "due"] iF fd
  xCho : ∃ fd, Mx K "choose" "Frame.choose" sCho ["self", "place", "column"] fCh fd
  xGMo : ∃ fd, Mx K "gains_more" "Frame.gains_more" sGMo ["self", "column", "gains"] fGM fd
  xCTC : ∃ fd, Mx K "column_to_choose" "Frame.column_to_choose" sCTC ["self", "gains"] fCC fd
  xCAh : ∃ fd, Mx K "comes_ahead" "Frame.comes_ahead" sCAh ["self", "one", "other", "column"] fCA fd
  xPTL : ∃ fd, Mx K "place_to_leave" "Frame.place_to_leave" sPTL ["self", "column"] fPL fd
  mSE : mg "ShareError" = some (.ref SE)
  mNN : mg "NoNumber" = some (.ref NN)
  mNG : mg "NoGroup" = some (.ref NG)
  mNT : mg "NoTable" = some (.ref NT)
  mNO : mg "NoOrder" = some (.ref NO)
  mNR : mg "NoRows" = some (.ref NR)
  mNS : mg "NoShares" = some (.ref NS)
  cSE : ExcCls K SE
  xNN : PySem.W.excIn K NN bmV "ValueError.__new__" = true
  xNR : PySem.W.excIn K NR bmV "ValueError.__new__" = true
  xNG : PySem.W.excIn K NG bmV "ValueError.__new__" = true
  xNT : PySem.W.excIn K NT bmV "ValueError.__new__" = true
  xNO : PySem.W.excIn K NO bmV "ValueError.__new__" = true
  xNS : PySem.W.excIn K NS bmV "ValueError.__new__" = true

section
variable {P : Program} {w : World} {K : PySem.W.Frag} {mg : Str → Option Value} {base : Heap} {AL LN FR iF fCh fGM fCC fCA fPL SE NN NG NT NO NR NS : Addr} {f : Addr} {fd : FuncData}
def spNum (K : PySem.W.Frag) : Sp := fun vs H Q _ => ∃ v, vs = [v] ∧ Pl K H v ∧ Q (.bl (isI v)) H
theorem scNum : FnScope ["thing"] ["thing"] (defScope sNum) := ⟨rfl, rfl, rfl, by decide +kernel, rfl, by decide +kernel, by decide +kernel⟩
theorem ok_num (t : Tx K mg "is_number" sNum ["thing"] f fd) (T : T K mg AL LN FR iF fCh fGM fCC fCA fPL SE NN NG NT NO NR NS) : Df P w K mg base CX0 1 "is_number" ["thing"] (spNum K) f fd := by
  refine t.df0 scNum (fun vs H Q E h => ?_) (fun cdv A outer s H vs Q E hr h => ?_)
  · obtain ⟨v, rfl, _⟩ := h
    rfl
  · obtain ⟨v, rfl, pl, k⟩ := h
    obtain ⟨Ty, ty, kd⟩ := pl.ex
    -- return isinstance(thing, int) and not isinstance(thing, bool)
    refine ⟨_, pss_one (ps_ret (pe_and (pe_callB call_isi (by rfl) T.b_isi bt_isi (pa_cons (pv 0) (pa_cons (pe_bltn (v := .ty "int") (by rfl) T.b_int bt_int rfl) pa_nil)))
      (pe_one (pe_not (pe_callB call_isi (by rfl) T.b_isi bt_isi (pa_cons (pv 0) (pa_cons (pe_bltn (v := .ty "bool") (by rfl) T.b_bool bt_bool rfl) pa_nil))))))), ?_⟩
    refine ⟨_, rfl, v, .ty "int", _, _, _, rfl, rfl, .of ty, kd.int_ K, _, rfl, ?_⟩
    refine ite2 (fun h1 => ?_) (fun h1 => ?_)
    · refine ⟨_, rfl, v, .ty "bool", _, _, _, rfl, rfl, .of ty, kd.bool_ K, _, rfl, ?_⟩
      have e : (!(Ty == "bool")) = isI v := by
        rw [Pl.isI ty]
        cases kd <;> first | rfl | (exact absurd h1 (by decide))
      rw [e]
      exact k
    · have e : false = isI v := by
        rw [Pl.isI ty]
        cases kd <;> first | rfl | (exact absurd rfl h1)
      rw [e]
      exact k
def spGcd : Sp := fun vs H Q _ => ∃ a b : Int, vs = [.int a, .int b] ∧ Q (.int (Int.gcd a b : Int)) H
theorem abs_eq (i : Int) : (if i < 0 then -i else i) = (i.natAbs : Int) := by split <;> omega
theorem ne_zero_of {r : Nat} (h : (!decide (V.int (r : Int) = V.int 0)) = true) : 0 < r := by
  rcases Nat.eq_zero_or_pos r with z | z
  · subst z
    exact absurd h (by decide)
  · exact z
theorem zero_of {r : Nat} (h : ¬ (!decide (V.int (r : Int) = V.int 0)) = true) : r = 0 := by
  rcases Nat.eq_zero_or_pos r with z | z
  · exact z
  · refine absurd ?_ h
    rw [decide_eq_false (fun q => by have := V.int.inj q; omega)]
    rfl
theorem scGcd : FnScope ["one", "other", "divisor", "rest", "left"] ["one", "other"] (defScope sGcd) := ⟨rfl, rfl, rfl, by decide +kernel, rfl, by decide +kernel, by decide +kernel⟩
theorem ok_gcd (t : Tx K mg "greatest_divisor" sGcd ["one", "other"] f fd) (T : T K mg AL LN FR iF fCh fGM fCC fCA fPL SE NN NG NT NO NR NS) : Df P w K mg base CX0 1 "greatest_divisor" ["one", "other"] spGcd f fd := by
  refine t.df0 scGcd (fun vs H Q E h => ?_) (fun cdv A outer s H vs Q E hr h => ?_)
  · obtain ⟨a, b, rfl, _⟩ := h
    rfl
  · obtain ⟨a, b, rfl, k⟩ := h
    refine ⟨_, (pss_cons (ps_set (i := 2) scGcd.nd rfl (Or.inl rfl) (pe_callB call_abs (by rfl) T.b_abs bt_abs (pa_cons (pv 0) pa_nil)))
      (pss_cons (ps_set (i := 3) scGcd.nd rfl (Or.inl rfl) (pe_callB call_abs (by rfl) T.b_abs bt_abs (pa_cons (pv 1) pa_nil)))
      (pss_cons (ps_while PassesOwn.never (pt_cmpR op_ne (pv 3) pe_int (nomark _))
        (pss_cons (ps_set (i := 4) scGcd.nd rfl (Or.inl rfl) (pe_op op_mod (pv 2) (pv 3)))
        (pss_cons (ps_set (i := 2) scGcd.nd rfl (Or.inl rfl) (pv 3))
        (pss_one (ps_set (i := 3) scGcd.nd rfl (Or.inl rfl) (pv 4))))))
      (pss_one (ps_ret (pv 2)))))), ?_⟩
    refine ⟨_, rfl, a, rfl, _, rfl, b, rfl, ?_⟩
    rw [abs_eq, abs_eq]
    refine ⟨fun m σ H2 => H2 = H ∧ ∃ (d r : Nat) (v : Option V), m = r ∧ σ = [some (.int a), some (.int b), some (.int (d : Int)), some (.int (r : Int)), v] ∧ Nat.gcd d r = Int.gcd a b, ⟨_, rfl, a.natAbs, b.natAbs, none, rfl, rfl, rfl⟩, ?_⟩
    rintro m σ H2 ⟨rfl, d, r, v, rfl, rfl, hg⟩
    refine ⟨_, rfl, rfl, _, rfl, ?_⟩
    refine ite2 (fun h1 => ?_) (fun h1 => ?_)
    · have hr0 := ne_zero_of h1
      refine ⟨fun σ' H' => H' = H2 ∧ ∃ (d' r' : Nat) (v : Option V), r' < m ∧ σ' = [some (.int a), some (.int b), some (.int (d' : Int)), some (.int (r' : Int)), v] ∧ Nat.gcd d' r' = Int.gcd a b, fun σ' H' ⟨e, d', r', v, h1, h2, h3⟩ => ⟨r', h1, e, d', r', v, rfl, h2, h3⟩, ?_⟩
      refine ⟨_, rfl, _, rfl, _, _, rfl, rfl, (by show (0 : Int) < (m : Int); omega), ?_⟩
      refine ⟨_, rfl, _, rfl, rfl, m, d % m, _, Nat.mod_lt _ hr0, rfl, ?_⟩
      rw [gcd_turn]
      exact hg
    · have hr0 := zero_of h1
      subst hr0
      rw [Nat.gcd_zero_right] at hg
      refine ⟨_, rfl, ?_⟩
      rw [hg]
      exact k
def spFr (K : PySem.W.Frag) (NN : Addr) : Sp := fun vs H Q E => ∃ v1 v2, vs = [v1, v2] ∧ Pl K H v1 ∧ Pl K H v2 ∧ ((isI v1 = false ∨ isI v2 = false ∨ v2 = .int 0) → E (.ref NN) none H) ∧
  ∀ a b : Int, v1 = .int a → v2 = .int b → b ≠ 0 → Sm 8000 b ∧ ∀ p, H p = none → Q (.ref p) (upd H p (.tup [.int (a.fdiv (dv a b)), .int (b.fdiv (dv a b))]))
theorem dv_small {a b : Int} (hb : b ≠ 0) {n : Nat} (h : Sm n b) : Sm n (dv a b) := by
  have h1 : Int.gcd a b ≤ b.natAbs := Nat.le_of_dvd (by omega) (Nat.gcd_dvd_right _ _)
  have h2 : (dv a b).natAbs = Int.gcd a b := by
    unfold dv
    split <;> omega
  exact h.le (by omega)
theorem scFr : FnScope ["top", "bottom", "divisor"] ["top", "bottom"] (defScope sFr) := ⟨rfl, rfl, rfl, by decide +kernel, rfl, by decide +kernel, by decide +kernel⟩
theorem ok_fr {f1 f2 : Addr} {fd1 fd2 : FuncData} (t : Tx K mg "fraction" sFr ["top", "bottom"] f fd) (T : T K mg AL LN FR iF fCh fGM fCC fCA fPL SE NN NG NT NO NR NS) (D_is_number : Df P w K mg base CX0 1 "is_number" ["thing"] (spNum K) f1 fd1) (D_greatest_divisor : Df P w K mg base CX0 1 "greatest_divisor" ["one", "other"] spGcd f2 fd2) :
    Df P w K mg base (CX1 P w) 2 "fraction" ["top", "bottom"] (spFr K NN) f fd := by
  refine t.df1 scFr (fun vs H Q E h => ?_) (fun cdv A outer s H vs Q E hr h => ?_)
  · obtain ⟨v1, v2, rfl, _⟩ := h
    rfl
  · obtain ⟨v1, v2, rfl, pl1, pl2, k0, k⟩ := h
    refine ⟨_, (pss_cons (ps_if (PW.pt (pw_or (pt_not (pt_val (pe_d0 D_is_number hr (by decide) (by rfl) (pa_cons (pv 0) pa_nil)))) (pw_or1 (pt_not (pt_val (pe_d0 D_is_number hr (by decide) (by rfl) (pa_cons (pv 1) pa_nil))))))) (pss_one (ps_raise rais_def rfl (by rfl) T.mNN T.xNN (pa_cons pe_str pa_nil))) pss_nil)
      (pss_cons (ps_if (pt_cmpR op_eq (pv 1) pe_int (nomark _)) (pss_one (ps_raise rais_def rfl (by rfl) T.mNN T.xNN (pa_cons pe_str pa_nil))) pss_nil)
      (pss_cons (ps_set (i := 2) scFr.nd rfl (Or.inl rfl) (pe_d0 D_greatest_divisor hr (by decide) (by rfl) (pa_cons (pv 0) (pa_cons (pv 1) pa_nil))))
      (pss_cons (ps_if (pt_cmpR op_lt (pv 1) pe_int (nomark _)) (pss_one (ps_set (i := 2) scFr.nd rfl (Or.inl rfl) (pe_un un_neg (pv 2)))) pss_nil)
      (pss_one (ps_ret (pe_tup (pa_cons (pe_op op_fdivB (pv 0) (pv 2)) (pa_cons (pe_op op_fdivB (pv 1) (pv 2)) pa_nil))))))))), ?_⟩
    refine ⟨_, rfl, v1, rfl, pl1, _, rfl, ?_⟩
    cases e1 : isI v1 with
    | false => exact iteT (iteT ⟨by show 1 ≤ sizeLine; decide, k0 (.inl e1)⟩)
    | true =>
      refine iteF ⟨_, rfl, v2, rfl, pl2, _, rfl, ?_⟩
      cases e2 : isI v2 with
      | false => exact iteT ⟨by show 1 ≤ sizeLine; decide, k0 (.inr (.inl e2))⟩
      | true =>
        refine iteF ?_
        obtain ⟨a, rfl⟩ : ∃ a, v1 = .int a := by
          cases v1 with
          | int a => exact ⟨a, rfl⟩
          | _ => cases e1
        obtain ⟨b, rfl⟩ : ∃ b, v2 = .int b := by
          cases v2 with
          | int b => exact ⟨b, rfl⟩
          | _ => cases e2
        refine ⟨_, rfl, rfl, _, rfl, ?_⟩
        refine ite2 (fun h1 => ⟨by show 1 ≤ sizeLine; decide, k0 (.inr (.inr (of_decide_eq_true h1)))⟩) (fun h1 => ?_)
        have hb : b ≠ 0 := fun z => h1 (decide_eq_true (congrArg V.int z))
        obtain ⟨hbig, kk⟩ := k a b rfl rfl hb
        refine ⟨_, rfl, _, rfl, a, b, rfl, ?_⟩
        have hd0 := (dv_spec a b hb).1
        have hds := dv_small (a := a) hb hbig
        dsimp only
        refine if_joinN (fun σ2 H2 => H2 = H ∧ σ2 = [some (.int a), some (.int b), some (.int (dv a b))]) ?_ fun tail => ?_
        · rintro σ2 H2 ⟨rfl, rfl⟩
          exact ⟨_, rfl, _, rfl, _, _, rfl, rfl, ⟨hd0, hds⟩, _, rfl, _, rfl, _, _, rfl, rfl, ⟨hd0, hds⟩, by show 2 ≤ sizeLine; decide, fun p hp => kk p hp⟩
        · refine ⟨_, rfl, _, _, rfl, rfl, _, rfl, ?_⟩
          refine ite2 (fun h2 => ⟨_, rfl, _, rfl, tail _ _ ⟨rfl, ?_⟩⟩) (fun h2 => tail _ _ ⟨rfl, ?_⟩)
          · show [some (V.int a), some (V.int b), some (V.int (-(Int.gcd a b : Int)))] = _
            unfold dv
            rw [if_pos (of_decide_eq_true h2)]
          · show [some (V.int a), some (V.int b), some (V.int (Int.gcd a b : Int))] = _
            unfold dv
            rw [if_neg (fun z => h2 (decide_eq_true z))]
def lsV (n : Nat) (f : Nat → Int) : List V := (List.range n).map fun j => V.int (f j)
theorem lsV_len (n : Nat) (f : Nat → Int) : (lsV n f).length = n := by unfold lsV; rw [List.length_map, List.length_range]
theorem lsV_get {n j : Nat} {f : Nat → Int} (h : j < n) : (lsV n f)[j]? = some (.int (f j)) := by unfold lsV; rw [List.getElem?_map, List.getElem?_range h]; rfl
theorem lsV_of {n j : Nat} {f : Nat → Int} {v : V} (h : (lsV n f)[j]? = some v) : j < n ∧ v = .int (f j) := by
  obtain ⟨z, _⟩ := List.getElem?_eq_some_iff.mp h
  rw [lsV_len] at z
  rw [lsV_get z] at h
  exact ⟨z, (Option.some.inj h).symm⟩
theorem lsV_at {n j : Nat} {f : Nat → Int} (h : j < n) : atI (lsV n f) (j : Int) = some (.int (f j)) := atI_nat (lsV_get h)
theorem lsV_ext {n : Nat} {f g : Nat → Int} (h : ∀ j, j < n → f j = g j) : lsV n f = lsV n g := List.map_congr_left fun j hj => by rw [h j (List.mem_range.mp hj)]
theorem lsV_map (n : Nat) (f : Nat → Int) : lsV n f = ((List.range n).map f).map V.int := by unfold lsV; rw [List.map_map]; rfl
theorem lsV_last (n : Nat) (f : Nat → Int) : atI (lsV (n + 1) f) (-1) = some (.int (f n)) := by
  unfold atI
  have e : ixN (lsV (n + 1) f).length (-1) = some n := by
    rw [lsV_len]
    unfold ixN
    rw [if_neg (by omega), if_pos (by omega)]
    congr 1
    omega
  rw [e]
  exact lsV_get (by omega)
theorem sum_range (n : Nat) (f : Nat → Int) : ((List.range n).map f).sum = Wg.sm n f := by
  induction n with
  | zero => rfl
  | succ n ih =>
    rw [List.range_succ, List.map_append, List.sum_append, ih]
    show Wg.sm n f + (f n + 0) = Wg.sm n f + f n
    rw [Int.add_zero]
theorem lsV_set {n p : Nat} {f : Nat → Int} (v : Int) : (lsV n f).set p (.int v) = lsV n fun j => if j = p then v else f j := by
  refine List.ext_getElem? fun i => ?_
  rw [List.getElem?_set, lsV_len]
  rcases Nat.lt_or_ge i n with h | h
  · rw [lsV_get h, lsV_get h]
    by_cases e : i = p
    · rw [if_pos e.symm, if_pos (by omega), if_pos e]
    · rw [if_neg (fun z => e z.symm), if_neg e]
  · rw [List.getElem?_eq_none (by rw [lsV_len]; exact h), List.getElem?_eq_none (by rw [lsV_len]; exact h)]
    split
    · split
      · omega
      · rfl
    · rfl
theorem lsV_app (n k : Nat) (f g : Nat → Int) : lsV n f ++ lsV k g = lsV (n + k) fun j => if j < n then f j else g (j - n) := by
  refine List.ext_getElem? fun i => ?_
  rcases Nat.lt_or_ge i n with h | h
  · rw [List.getElem?_append_left (by rw [lsV_len]; exact h), lsV_get h, lsV_get (by omega), if_pos h]
  · rw [List.getElem?_append_right (by rw [lsV_len]; exact h), lsV_len]
    rcases Nat.lt_or_ge i (n + k) with h2 | h2
    · rw [lsV_get (by omega), lsV_get h2, if_neg (by omega)]
    · rw [List.getElem?_eq_none (by rw [lsV_len]; omega), List.getElem?_eq_none (by rw [lsV_len]; omega)]
theorem fm_ls {xs : List V} {n : Nat} (F : Nat → V) (h : xs.length = n) : ((List.range n).filterMap fun i => (xs[i]?).bind fun _ => some (F i)) = (List.range n).map F := by
  rw [← List.filterMap_eq_map]
  refine fm_congr fun i hi => ?_
  rw [List.getElem?_eq_getElem (by rw [h]; exact List.mem_range.mp hi)]
  rfl
theorem fm_ls2 {xs ys : List V} {n : Nat} (F : Nat → V) (h : xs.length = n) (h2 : ys.length = n) : ((List.range n).filterMap fun i => (xs[i]?).bind fun _ => (ys[i]?).bind fun _ => some (F i)) = (List.range n).map F := by
  rw [← List.filterMap_eq_map]
  refine fm_congr fun i hi => ?_
  rw [List.getElem?_eq_getElem (by rw [h]; exact List.mem_range.mp hi), List.getElem?_eq_getElem (l := ys) (by rw [h2]; exact List.mem_range.mp hi)]
  rfl
theorem ixN_nat {n j : Nat} (h : j < n) : ixN n (j : Int) = some j := by
  unfold ixN
  rw [if_pos (by omega), if_pos (by omega)]
  congr 1
def SB2 (x y : Addr) (H H' : Hp) : Prop := ∀ b o, b ≠ x → b ≠ y → H b = some o → H' b = some o
theorem SB2.refl {x y : Addr} (H : Hp) : SB2 x y H H := fun _ _ _ _ e => e
theorem b2_of {H H' : Hp} (s : Same H H') (x y : Addr) : SB2 x y H H' := fun b o _ _ e => s b o e
theorem SB2.then {x y : Addr} {H H1 H2 : Hp} (a : SB2 x y H H1) (b : Same H1 H2) : SB2 x y H H2 := fun c o n n2 e => b c o (a c o n n2 e)
theorem SB2.trans {x y : Addr} {H H1 H2 : Hp} (a : SB2 x y H H1) (b : SB2 x y H1 H2) : SB2 x y H H2 := fun c o n n2 e => b c o n n2 (a c o n n2 e)
theorem SB2.updx {x y : Addr} {H H1 : Hp} (a : SB2 x y H H1) (u : HO) : SB2 x y H (upd H1 x u) := fun c o n n2 e => by rw [upd_ne n]; exact a c o n n2 e
theorem SB2.updy {x y : Addr} {H H1 : Hp} (a : SB2 x y H H1) (u : HO) : SB2 x y H (upd H1 y u) := fun c o n n2 e => by rw [upd_ne n2]; exact a c o n n2 e
structure Inst (m n : Nat) (A : Nat → Nat → Int) (due : Nat → Int) : Prop where
  m1 : 1 ≤ m
  m8 : m ≤ 8
  n70 : n ≤ 70
  bA : ∀ j i, Sm 700 (A j i)
  bD : ∀ i, Sm 700 (due i)
theorem sgn_abs (x y : Int) : (Wg.sgn x * y).natAbs = y.natAbs := by
  rw [Int.natAbs_mul]
  rcases Wg.sgn_sg x with e | e <;> rw [e] <;> simp
theorem Inst.mat {m n : Nat} {A : Nat → Nat → Int} {due : Nat → Int} (h : Inst m n A due) (j r : Nat) : (Wg.mat m n A due j r).natAbs ≤ 2 ^ 700 := by
  have one : (1 : Int).natAbs ≤ 2 ^ 700 := Nat.one_le_two_pow
  have zero : (0 : Int).natAbs ≤ 2 ^ 700 := Nat.zero_le _
  unfold Wg.mat
  split
  · split
    · rw [sgn_abs]; exact Nat.le_of_lt (h.bA j r)
    · split
      · split
        · exact one
        · exact zero
      · split
        · rw [sgn_abs]; exact Nat.le_of_lt (h.bD r)
        · exact zero
  · exact zero
theorem fac8 : ∀ m : _root_.Fin 9, Wg.fac m.1 * (2 ^ 700) ^ m.1 < 2 ^ 6000 := by decide +kernel
theorem Inst.size {m n : Nat} {A : Nat → Nat → Int} {due : Nat → Int} (h : Inst m n A due) {S : Wg.St} (ok : S.ok m (Wg.mat m n A due)) : Sm 6000 S.d ∧ ∀ k, k < m → ∀ j, Sm 6000 (S.R k j) := by
  have z := Wg.Fr.bound ok h.mat
  have f := fac8 ⟨m, by have := h.m8; omega⟩
  exact ⟨Nat.lt_of_le_of_lt z.1 f, fun k hk j => Nat.lt_of_le_of_lt (z.2 k hk j) f⟩
def DSmall (m : Nat) (A : Nat → Nat → Int) (due : Nat → Int) (d : Int) : Prop := ∀ B : Nat, 1 ≤ B → (∀ j i, (A j i).natAbs ≤ B) → (∀ i, (due i).natAbs ≤ B) → d.natAbs ≤ Wg.fac m * B ^ m
theorem Inst.small {m n : Nat} {A : Nat → Nat → Int} {due : Nat → Int} (h : Inst m n A due) {S : Wg.St} (ok : S.ok m (Wg.mat m n A due)) : DSmall m A due S.d := fun B hB hA hD => by
  refine (Wg.Fr.bound (X := B) ok fun j r => ?_).1
  have zero : (0 : Int).natAbs ≤ B := Nat.zero_le _
  unfold Wg.mat
  split
  · split
    · rw [sgn_abs]; exact hA j r
    · split
      · split
        · exact hB
        · exact zero
      · split
        · rw [sgn_abs]; exact hD r
        · exact zero
  · exact zero
def spSgn : Sp := fun vs H Q _ => ∃ i : Int, vs = [.int i] ∧ Q (.int (Wg.sgn i)) H
theorem scSgn : FnScope ["number"] ["number"] (defScope sSgn) := ⟨rfl, rfl, rfl, by decide +kernel, rfl, by decide +kernel, by decide +kernel⟩
theorem ok_sgn (t : Tx K mg "sign_of" sSgn ["number"] f fd) : Df P w K mg base CX0 1 "sign_of" ["number"] spSgn f fd := by
  refine t.df0 scSgn (fun vs H Q E h => ?_) (fun cdv A outer s H vs Q E hr h => ?_)
  · obtain ⟨i, rfl, _⟩ := h
    rfl
  · obtain ⟨i, rfl, k⟩ := h
    refine ⟨_, (pss_one (ps_ret (pe_ifExp (pt_cmpR op_lt (pv 0) pe_int (nomark _)) (pe_un un_neg pe_int) pe_int))), ?_⟩
    refine ⟨_, rfl, _, _, rfl, rfl, _, rfl, ite2 (fun z => ?_) (fun z => ?_)⟩
    · have e : Wg.sgn i = -1 := by unfold Wg.sgn; rw [if_pos (of_decide_eq_true z)]
      rw [e] at k
      exact ⟨_, rfl, k⟩
    · have e : Wg.sgn i = 1 := by unfold Wg.sgn; rw [if_neg (fun y => z (decide_eq_true y))]
      rw [e] at k
      exact k
structure Cols (m n : Nat) (A : Nat → Nat → Int) (due : Nat → Int) (H : Hp) (pc pd : Addr) (cs : List Addr) : Prop where
  hc : H pc = some (.lst (cs.map V.ref))
  len : cs.length = n
  at_ : ∀ j c, cs[j]? = some c → H c = some (.lst (lsV m (A j)))
  hd : H pd = some (.lst (lsV m due))
theorem Cols.same {m n : Nat} {A : Nat → Nat → Int} {due : Nat → Int} {H H' : Hp} {pc pd : Addr} {cs : List Addr} (h : Cols m n A due H pc pd cs) (s : Same H H') : Cols m n A due H' pc pd cs :=
  ⟨s _ _ h.hc, h.len, fun j c e => s _ _ (h.at_ j c e), s _ _ h.hd⟩
theorem ref_of {as : List Addr} {i : Nat} {x : V} (h : (as.map V.ref)[i]? = some x) : ∃ a, as[i]? = some a ∧ x = .ref a := by
  rw [List.getElem?_map] at h
  cases e : as[i]? with
  | none => rw [e] at h; cases h
  | some a => rw [e] at h; exact ⟨a, rfl, (Option.some.inj h).symm⟩
def spFRw : Sp := fun vs H Q _ => ∃ (m n : Nat) (A : Nat → Nat → Int) (due : Nat → Int) (pc pd : Addr) (cs : List Addr) (i : Nat), vs = [.ref pc, .ref pd, .int (i : Int)] ∧ Inst m n A due ∧ Cols m n A due H pc pd cs ∧ i < m ∧
  ∀ (r : Addr) (H' : Hp), Same H H' → H r = none → H' r = some (.lst (lsV (n + m + 1) fun j => Wg.mat m n A due j i)) → Q (.ref r) H'
theorem scFRw : FnScope ["columns", "due", "place", "sign", "spares"] ["columns", "due", "place"] (defScope sFRw) := ⟨rfl, rfl, rfl, by decide +kernel, rfl, by decide +kernel, by decide +kernel⟩
theorem sgn_sm (x : Int) : Sm 2 (Wg.sgn x) := by
  have : (Wg.sgn x).natAbs = 1 := by rcases Wg.sgn_sg x with e | e <;> rw [e] <;> rfl
  show (Wg.sgn x).natAbs < 2 ^ 2
  omega
theorem ok_frw {f1 : Addr} {fd1 : FuncData} (t : Tx K mg "first_row" sFRw ["columns", "due", "place"] f fd) (T : T K mg AL LN FR iF fCh fGM fCC fCA fPL SE NN NG NT NO NR NS) (D_sign_of : Df P w K mg base CX0 1 "sign_of" ["number"] spSgn f1 fd1) :
    Df P w K mg base CX0 2 "first_row" ["columns", "due", "place"] spFRw f fd := by
  refine t.df0 scFRw (fun vs H Q E h => ?_) (fun cdv _A outer s H vs Q E hr h => ?_)
  · obtain ⟨m, n, A, due, pc, pd, cs, i, rfl, _⟩ := h
    rfl
  · obtain ⟨m, n, A, due, pc, pd, cs, i, rfl, ins, co, hi, k⟩ := h
    have m8 := ins.m8
    have n70 := ins.n70
    refine ⟨_, (pss_cons (ps_set (i := 3) scFRw.nd rfl (by first | exact Or.inl rfl | exact Or.inr rfl) (pe_d0 D_sign_of hr (by decide) (by rfl) (pa_cons (pe_ix ix_list (pv 1) (pv 2) (fun _ _ => rfl)) pa_nil)))
      (pss_cons (ps_setC (NB := ["other", "place"]) (pick := [none, some 2]) (i := 4) scFRw.nd rfl (Or.inl rfl) (by rfl) (blk_mk (by with_unfolding_all rfl) (by exact (And.intro rfl trivial)) rfl (by decide +kernel) (by decide +kernel) (by rfl) (by rfl)) rfl
          (pi_range1 (by rfl) T.b_range (pa_cons (pe_callB call_len_seq (by rfl) T.b_len bt_len (pa_cons (pv 1) pa_nil)) pa_nil)) (fun _ _ _ => pg_name (i := 0) (show (["other", "place"] : List Str).Nodup from by decide +kernel) rfl (Or.inl rfl))
          (fun _ _ _ => pif_nil) (fun _ _ _ => (pe_ifExp (pt_cmpR op_eq (pv 0) (pv 1) (nomark _)) pe_int pe_int)))
      (pss_one (ps_ret (pe_op op_catQ (pe_op op_catQ (pe_comp (NB := ["column", "place", "sign"]) (pick := [none, some 2, some 3]) (blk_mk (by with_unfolding_all rfl) (by exact (And.intro rfl (And.intro rfl trivial))) rfl (by decide +kernel) (by decide +kernel) (by rfl) (by rfl)) rfl
          (pi_list (pv 0)) (fun _ _ _ => pg_name (i := 0) (show (["column", "place", "sign"] : List Str).Nodup from by decide +kernel) rfl (Or.inl rfl))
          (fun _ _ _ => pif_nil) (fun _ _ _ => (pe_op op_mulB (pv 2) (pe_ix (ix_listK K) (pv 0) (pv 1) (fun _ _ => rfl))))) (pv 4)) (pe_lst (pa_cons (pe_op op_mulB (pv 3) (pe_ix ix_list (pv 1) (pv 2) (fun _ _ => rfl))) pa_nil))))))), ?_⟩
    refine ⟨_, rfl, _, rfl, pd, _, _, _, rfl, rfl, SqL.of co.hd, lsV_at hi, _, rfl, ?_⟩
    refine ⟨_, rfl, pd, _, rfl, .inl (SqL.of co.hd), ?_⟩
    rw [lsV_len]
    refine ⟨m, rfl, by omega, by omega, ?_⟩
    refine comp_rng (n := m) (fun j => some (.int (if j = i then 1 else 0))) (Nat.le_of_lt (small1000 (by omega))) (fun j H2 kk kk0 s2 hj g1 g2 => ?_) fun D H2 hD s2 hd => ?_
    · refine ⟨_, rfl, _, rfl, rfl, _, rfl, ite2 (fun z => ?_) (fun z => ?_)⟩
      · have e : j = i := by have := V.int.inj (of_decide_eq_true z); omega
        exact g1 _ (by rw [if_pos e]) _ (.refl _)
      · have e : j ≠ i := fun q => z (decide_eq_true (by rw [q]; congr 1; omega))
        exact g1 _ (by rw [if_neg e]) _ (.refl _)
    · have hs : H2 D = some (.lst (lsV m fun j => if j = i then 1 else 0)) := by
        rw [hd]
        unfold lsV
        rw [List.filterMap_eq_map']
      have co2 := co.same s2
      refine ⟨_, rfl, pc, rfl, ⟨_, SqL.of co2.hc⟩, ?_⟩
      refine comp_lst (xs := cs.map V.ref) (fun j _ => some (.int (Wg.sgn (due i) * A j i))) (SqL.of co2.hc) (by rw [List.length_map, co.len]; exact Nat.le_of_lt (small1000 (by omega))) (fun j y H3 kk kk0 s3 hy g1 g2 => ?_) fun D2 H3 hD2 s3 hd2 => ?_
      · obtain ⟨c, hc, rfl⟩ := ref_of hy
        exact ⟨_, rfl, _, rfl, _, rfl, c, _, _, _, rfl, rfl, SqL.of (s3 _ _ (co2.at_ j c hc)), lsV_at hi, _, _, rfl, rfl, (sgn_sm _).mb (ins.bA j i), g1 _ rfl _ (.refl _)⟩
      · have hd2' : H3 D2 = some (.lst (lsV n fun j => Wg.sgn (due i) * A j i)) := by
          rw [hd2, List.length_map, co.len, fm_ls _ (by rw [List.length_map, co.len])]
          rfl
        have hs3 := s3 _ _ hs
        refine ⟨_, rfl, D2, D, _, _, rfl, rfl, SqL.of hd2', SqL.of hs3, by rw [lsV_len, lsV_len]; exact Nat.le_of_lt (small1000 (by omega)), fun p1 hp1 => ?_⟩
        have u1 := Same.upd_new (o := .lst (lsV n (fun j => Wg.sgn (due i) * A j i) ++ lsV m fun j => if j = i then 1 else 0)) hp1
        have e1 : upd H3 p1 (.lst (lsV n (fun j => Wg.sgn (due i) * A j i) ++ lsV m fun j => if j = i then 1 else 0)) p1 = _ := upd_same
        generalize upd H3 p1 (.lst (lsV n (fun j => Wg.sgn (due i) * A j i) ++ lsV m fun j => if j = i then 1 else 0)) = H4 at u1 e1 ⊢
        have s4 := s2.trans (s3.trans u1)
        refine ⟨_, rfl, _, rfl, _, rfl, pd, _, _, _, rfl, rfl, SqL.of (s4 _ _ co.hd), lsV_at hi, _, _, rfl, rfl, (sgn_sm _).mb (ins.bD i), by show 1 ≤ sizeLine; decide, fun p2 hp2 => ?_⟩
        have u2 := Same.upd_new (o := .lst [V.int (Wg.sgn (due i) * due i)]) hp2
        have e2 : upd H4 p2 (.lst [V.int (Wg.sgn (due i) * due i)]) p2 = _ := upd_same
        generalize upd H4 p2 (.lst [V.int (Wg.sgn (due i) * due i)]) = H5 at u2 e2 ⊢
        have s5 := s4.trans u2
        refine ⟨p1, p2, _, _, rfl, rfl, SqL.of (u2 _ _ e1), SqL.of e2, by rw [List.length_append, lsV_len, lsV_len]; exact Nat.le_of_lt (small1000 (by show n + m + 1 ≤ 1000; omega)), fun p3 hp3 => ?_⟩
        refine k p3 _ (s5.trans (.upd_new hp3)) (s5.free hp3) ?_
        rw [upd_same, lsV_app, show [V.int (Wg.sgn (due i) * due i)] = lsV 1 fun _ => Wg.sgn (due i) * due i from rfl, lsV_app]
        congr 2
        refine lsV_ext fun j hj => ?_
        unfold Wg.mat
        rw [if_pos hi]
        by_cases h1 : j < n
        · rw [if_pos (by omega), if_pos h1, if_pos h1]
        · by_cases h2 : j < n + m
          · rw [if_pos h2, if_neg h1, if_neg h1, if_pos h2]
            by_cases h3 : j = n + i
            · rw [if_pos h3, if_pos (by omega)]
            · rw [if_neg h3, if_neg (by omega)]
          · rw [if_neg h2, if_neg h1, if_neg h2, if_pos (by omega)]
def spClr : Sp := fun vs H Q _ => ∃ (r l : Addr) (W q : Nat) (fr fl : Nat → Int) (d : Int), vs = [.ref r, .ref l, .int (q : Int), .int d] ∧ H r = some (.lst (lsV W fr)) ∧ H l = some (.lst (lsV W fl)) ∧ q < W ∧ W ≤ 100 ∧ 0 < d ∧ Sm 6000 d ∧ (∀ j, j < W → Sm 6000 (fr j)) ∧ (∀ j, j < W → Sm 6000 (fl j)) ∧
  ∀ (D : Addr) (H' : Hp), Same H H' → H D = none → H' D = some (.lst (lsV W fun j => (fr j * fl q - fr q * fl j) / d)) → Q (.ref D) H'
theorem scClr : FnScope ["row", "lead", "column", "bottom"] ["row", "lead", "column", "bottom"] (defScope sClr) := ⟨rfl, rfl, rfl, by decide +kernel, rfl, by decide +kernel, by decide +kernel⟩
theorem ok_clr (t : Tx K mg "cleared" sClr ["row", "lead", "column", "bottom"] f fd) (T : T K mg AL LN FR iF fCh fGM fCC fCA fPL SE NN NG NT NO NR NS) : Df P w K mg base CX0 1 "cleared" ["row", "lead", "column", "bottom"] spClr f fd := by
  refine t.df0 scClr (fun vs H Q E h => ?_) (fun cdv _A outer s H vs Q E hr h => ?_)
  · obtain ⟨r, l, W, q, fr, fl, d, rfl, _⟩ := h
    rfl
  · obtain ⟨r, l, W, q, fr, fl, d, rfl, hr1, hl1, hq, hW, d0, ds, sr, sl, k⟩ := h
    refine ⟨_, (pss_one (ps_ret (pe_comp (NB := ["number", "other", "bottom", "column", "lead", "row"]) (pick := [none, none, some 3, some 2, some 1, some 0]) (blk_mk (by with_unfolding_all rfl) (by exact (And.intro rfl (And.intro rfl (And.intro rfl (And.intro rfl trivial))))) rfl (by decide +kernel) (by decide +kernel) (by rfl) (by rfl)) rfl
          (pi_zip (by rfl) T.b_zip (pa_cons (pv 0) (pa_cons (pv 1) pa_nil))) (fun _ _ _ => (show PG _ _ (gTup K 2 (gCons (gName 0) (gCons (gName 1) gNil))) from pg_tup rfl (pgs_cons (pg_name (i := 0) (show (["number", "other", "bottom", "column", "lead", "row"] : List Str).Nodup from by decide +kernel) rfl (Or.inl rfl)) (pgs_cons (pg_name (i := 1) (show (["number", "other", "bottom", "column", "lead", "row"] : List Str).Nodup from by decide +kernel) rfl (Or.inl rfl)) pgs_nil))))
          (fun _ _ _ => pif_nil) (fun _ _ _ => (pe_op op_fdivB (pe_op op_sub (pe_op op_mulB (pv 0) (pe_ix (ix_listK K) (pv 4) (pv 3) (fun _ _ => rfl))) (pe_op op_mulB (pe_ix (ix_listK K) (pv 5) (pv 3) (fun _ _ => rfl)) (pv 1))) (pv 2)))))), ?_⟩
    refine ⟨_, rfl, _, rfl, r, l, rfl, ⟨_, SqL.of hr1⟩, ⟨_, SqL.of hl1⟩, ?_⟩
    refine comp_zipG (xs := lsV W fr) (ys := lsV W fl) (fun σ' => ∃ o0 o1 : Option V, σ' = [o0, o1, some (.int d), some (.int (q : Int)), some (.ref l), some (.ref r)]) (fun j _ _ => some (.int ((fr j * fl q - fr q * fl j) / d))) ⟨_, _, rfl⟩ (SqL.of hr1) (SqL.of hl1) (by rw [lsV_len, lsV_len]) (by rw [lsV_len]; exact Nat.le_of_lt (small1000 (by omega))) (fun i x y tt σ1 H2 kk kk0 hσ s2 hx hy ht h1 h2 => ?_) fun D H2 hD s2 hd => ?_
    · obtain ⟨o0, o1, rfl⟩ := hσ
      obtain ⟨hi, rfl⟩ := lsV_of hx
      obtain ⟨_, rfl⟩ := lsV_of hy
      refine ⟨tt, _, rfl, SqT.of ht, rfl, _, _, rfl, _, _, rfl, rfl, ?_⟩
      refine ⟨_, rfl, _, rfl, _, rfl, l, _, _, _, rfl, rfl, SqL.of (s2 _ _ hl1), lsV_at hq, _, _, rfl, rfl, (sr i hi).mb (sl q hq), _, rfl, _, rfl, r, _, _, _, rfl, rfl, SqL.of (s2 _ _ hr1), lsV_at hq, _, rfl, _, _, rfl, rfl, (sr q hq).mb (sl i hi), _, _, rfl, rfl, _, rfl, _, _, rfl, rfl, ds.db (by omega), ?_⟩
      show kk _ (.int ((fr i * fl q - fr q * fl i).fdiv d)) H2
      rw [Int.fdiv_eq_ediv_of_nonneg _ (Int.le_of_lt d0)]
      exact h1 _ _ ⟨_, _, rfl⟩ rfl _ (.refl _)
    · refine k D H2 s2 hD ?_
      rw [hd, lsV_len, fm_ls2 _ (lsV_len _ _) (lsV_len _ _)]
      rfl
def rowV (m n : Nat) (S : Wg.St) (k : Nat) : List V := lsV (n + m + 1) (S.R k)
def chV (m : Nat) (S : Wg.St) : List V := lsV m fun k => (S.ch k : Int)
structure Rows (m n : Nat) (S : Wg.St) (H : Hp) (lr : Addr) (ras : List Addr) : Prop where
  hr : H lr = some (.lst (ras.map V.ref))
  len : ras.length = m
  at_ : ∀ k r, ras[k]? = some r → H r = some (.lst (rowV m n S k))
theorem Rows.get {m n : Nat} {S : Wg.St} {H : Hp} {lr : Addr} {ras : List Addr} (h : Rows m n S H lr ras) {k : Nat} (hk : k < m) : ∃ r, ras[k]? = some r ∧ atI (ras.map V.ref) (k : Int) = some (.ref r) ∧ H r = some (.lst (rowV m n S k)) := by
  have e : ras[k]? = some (ras[k]'(by rw [h.len]; exact hk)) := List.getElem?_eq_getElem _
  exact ⟨_, e, atI_nat (by rw [List.getElem?_map, e]; rfl), h.at_ k _ e⟩
def FObj (FR : Addr) (m n : Nat) (H : Hp) (x lc : Addr) (S : Wg.St) : Prop := ∃ (dx lr : Addr) (ras : List Addr), H x = some (.ins FR dx [("many", .int (n : Int)), ("bottom", .int S.d), ("rows", .ref lr), ("chosen", .ref lc)]) ∧ Rows m n S H lr ras ∧ H lc = some (.lst (chV m S))
theorem FObj.same {FR : Addr} {m n : Nat} {H H' : Hp} {x lc : Addr} {S : Wg.St} (h : FObj FR m n H x lc S) (s : Same H H') : FObj FR m n H' x lc S := by
  obtain ⟨dx, lr, ras, h1, h2, h3⟩ := h
  exact ⟨dx, lr, ras, s _ _ h1, ⟨s _ _ h2.hr, h2.len, fun k r e => s _ _ (h2.at_ k r e)⟩, s _ _ h3⟩
structure Good (m n : Nat) (A : Nat → Nat → Int) (due : Nat → Int) (S : Wg.St) : Prop where
  ins : Inst m n A due
  ok : S.ok m (Wg.mat m n A due)
  ch : ∀ k, k < m → S.ch k < n + m
theorem Good.start {m n : Nat} {A : Nat → Nat → Int} {due : Nat → Int} (h : Inst m n A due) : Good m n A due (Wg.start m n A due) :=
  ⟨h, Wg.start_ok, fun k hk => by show n + k < n + m; omega⟩
theorem Good.next {m n : Nat} {A : Nat → Nat → Int} {due : Nat → Int} {S : Wg.St} (h : Good m n A due S) {p q : Nat} (hp : p < m) (hq : q < n) (nz : S.R p q ≠ 0) : Good m n A due (S.next p q) :=
  ⟨h.ins, Wg.St.next_ok h.ok hp nz, fun k hk => by
    by_cases e : k = p
    · rw [e, Wg.St.next_chp]; omega
    · rw [Wg.St.next_chk e]; exact h.ch k hk⟩
def spFI (FR : Addr) : Sp := fun vs H Q _ => ∃ (m n : Nat) (A : Nat → Nat → Int) (due : Nat → Int) (x dx pc pd : Addr) (cs : List Addr), vs = [.ref x, .ref pc, .ref pd] ∧ H x = some (.ins FR dx []) ∧ Inst m n A due ∧ Cols m n A due H pc pd cs ∧
  ∀ (lc : Addr) (H' : Hp), SameBut x H H' → H lc = none → FObj FR m n H' x lc (Wg.start m n A due) → Q .non H'
theorem scFI : FnScope ["self", "columns", "due"] ["self", "columns", "due"] (defScope sFI) := ⟨rfl, rfl, rfl, by decide +kernel, rfl, by decide +kernel, by decide +kernel⟩
theorem ok_fi {f1 : Addr} {fd1 : FuncData} (t : Mx K "__init__" "Frame.__init__" sFI ["self", "columns", "due"] f fd) (T : T K mg AL LN FR iF fCh fGM fCC fCA fPL SE NN NG NT NO NR NS) (D_first_row : Df P w K mg base CX0 2 "first_row" ["columns", "due", "place"] spFRw f1 fd1) :
    Md P w K mg base 3 ["self", "columns", "due"] (spFI FR) f := by
  refine t.md0 scFI (fun vs H Q E h => ?_) (fun cdv _A outer s H vs Q E hr h => ?_)
  · obtain ⟨m, n, A, due, x, dx, pc, pd, cs, rfl, _⟩ := h
    rfl
  · obtain ⟨m, n, A, due, x, dx, pc, pd, cs, rfl, hx, ins, co, k⟩ := h
    have m8 := ins.m8
    have n70 := ins.n70
    refine ⟨_, (pss_cons (ps_fld (pv 0) (pe_callB call_len_seq (by rfl) T.b_len bt_len (pa_cons (pv 1) pa_nil)) rfl)
      (pss_cons (ps_fld (pv 0) pe_int rfl)
      (pss_cons (ps_fld (pv 0) (pe_comp (NB := ["place", "columns", "due"]) (pick := [none, some 1, some 2]) (blk_mk (by with_unfolding_all rfl) (by exact (And.intro rfl (And.intro rfl trivial))) rfl (by decide +kernel) (by decide +kernel) (by rfl) (by rfl)) rfl
          (pi_range1 (by rfl) T.b_range (pa_cons (pe_callB call_len_seq (by rfl) T.b_len bt_len (pa_cons (pv 2) pa_nil)) pa_nil)) (fun _ _ _ => pg_name (i := 0) (show (["place", "columns", "due"] : List Str).Nodup from by decide +kernel) rfl (Or.inl rfl))
          (fun _ _ _ => pif_nil) (fun _ _ _ => (pe_d0 D_first_row hr (by decide) (by rfl) (pa_cons (pv 1) (pa_cons (pv 2) (pa_cons (pv 0) pa_nil)))))) rfl)
      (pss_one (ps_fld (pv 0) (pe_comp (NB := ["place", "self"]) (pick := [none, some 0]) (blk_mk (by with_unfolding_all rfl) (by exact (And.intro rfl trivial)) rfl (by decide +kernel) (by decide +kernel) (by rfl) (by rfl)) rfl
          (pi_range1 (by rfl) T.b_range (pa_cons (pe_callB call_len_seq (by rfl) T.b_len bt_len (pa_cons (pv 2) pa_nil)) pa_nil)) (fun _ _ _ => pg_name (i := 0) (show (["place", "self"] : List Str).Nodup from by decide +kernel) rfl (Or.inl rfl))
          (fun _ _ _ => pif_nil) (fun _ _ _ => (pe_op op_add (pe_fldK K (pv 1) rfl) (pv 0)))) rfl))))), ?_⟩
    have npc : pc ≠ x := ne_of co.hc hx (by intro z; cases z)
    have npd : pd ≠ x := ne_of co.hd hx (by intro z; cases z)
    refine ⟨_, rfl, pc, _, rfl, .inl (SqL.of co.hc), _, rfl, x, FR, dx, _, rfl, hx, T.rFR.oc.cl, T.rFR.nm, by decide, ?_⟩
    rw [List.length_map, co.len]
    have e1 : upd H x (.ins FR dx (putF "many" (V.int (n : Int)) [])) x = some (.ins FR dx [("many", .int (n : Int))]) := upd_same
    have b1 : SameBut x H (upd H x (.ins FR dx (putF "many" (V.int (n : Int)) []))) := ((Same.refl H).but x).updx _
    generalize upd H x (.ins FR dx (putF "many" (V.int (n : Int)) [])) = H1 at e1 b1 ⊢
    refine ⟨_, rfl, x, FR, dx, _, rfl, e1, T.rFR.oc.cl, T.rFR.nb, by show 1 < 1000; decide, ?_⟩
    have e2 : upd H1 x (.ins FR dx (putF "bottom" (V.int 1) [("many", .int (n : Int))])) x = some (.ins FR dx [("many", .int (n : Int)), ("bottom", .int 1)]) := upd_same
    have b2 : SameBut x H (upd H1 x (.ins FR dx (putF "bottom" (V.int 1) [("many", .int (n : Int))]))) := b1.updx _
    generalize upd H1 x (.ins FR dx (putF "bottom" (V.int 1) [("many", .int (n : Int))])) = H2 at e2 b2 ⊢
    have ncs : ∀ j c, cs[j]? = some c → c ≠ x := fun j c e => ne_of (co.at_ j c e) hx (by intro z; cases z)
    have co2 : Cols m n A due H2 pc pd cs := ⟨b2 _ _ npc co.hc, co.len, fun j c e => b2 _ _ (ncs j c e) (co.at_ j c e), b2 _ _ npd co.hd⟩
    refine ⟨_, rfl, pd, _, rfl, .inl (SqL.of co2.hd), ?_⟩
    rw [lsV_len]
    refine ⟨m, rfl, by omega, by omega, ?_⟩
    refine comp_rngN (n := m) (fun i => lsV (n + m + 1) fun j => Wg.mat m n A due j i) (Nat.le_of_lt (small1000 (by omega))) (fun i H3 kk kk0 s3 hi g1 => ?_) fun D ras H3 hD s3 hl nw hd => ?_
    · refine ⟨_, rfl, _, rfl, _, rfl, m, n, A, due, pc, pd, cs, i, ?_, ins, co2.same s3, hi, fun r H4 s4 hr4 e4 => g1 r H4 s4 hr4 e4⟩
      rw [Int.zero_add]
      rfl
    · refine ⟨_, rfl, x, FR, dx, _, rfl, s3 _ _ e2, T.rFR.oc.cl, T.rFR.nr, by show 2 < 1000; decide, ?_⟩
      have nD : D ≠ x := fun z => by rw [z, e2] at hD; cases hD
      have e3 : upd H3 x (.ins FR dx (putF "rows" (V.ref D) [("many", .int (n : Int)), ("bottom", .int 1)])) x = some (.ins FR dx [("many", .int (n : Int)), ("bottom", .int 1), ("rows", .ref D)]) := upd_same
      have b3 : SameBut x H (upd H3 x (.ins FR dx (putF "rows" (V.ref D) [("many", .int (n : Int)), ("bottom", .int 1)]))) := (b2.then s3).updx _
      have rw3 : Rows m n (Wg.start m n A due) (upd H3 x (.ins FR dx (putF "rows" (V.ref D) [("many", .int (n : Int)), ("bottom", .int 1)]))) D ras := by
        refine ⟨by rw [upd_ne nD]; exact hd, hl, fun k' r e => ?_⟩
        obtain ⟨a1, a2, a3⟩ := nw.at_ k' r e
        have nr : r ≠ x := fun z => by rw [z, e2] at a1; cases a1
        rw [upd_ne nr]
        exact a3
      generalize upd H3 x (.ins FR dx (putF "rows" (V.ref D) [("many", .int (n : Int)), ("bottom", .int 1)])) = H4 at e3 b3 rw3 ⊢
      refine ⟨_, rfl, pd, _, rfl, .inl (SqL.of (b3 _ _ npd co.hd)), ?_⟩
      rw [lsV_len]
      refine ⟨m, rfl, by omega, by omega, ?_⟩
      refine comp_rng (n := m) (fun i => some (.int ((n + i : Nat) : Int))) (Nat.le_of_lt (small1000 (by omega))) (fun i H5 kk kk0 s5 hi g1 g2 => ?_) fun D2 H5 hD2 s5 hd2 => ?_
      · refine ⟨_, rfl, x, FR, dx, _, _, rfl, s5 _ _ e3, T.rFR.oc.cl, T.rFR.nm, rfl, _, rfl, _, _, rfl, rfl, ?_⟩
        rw [Int.zero_add]
        exact g1 _ (by rw [Int.natCast_add]) _ (.refl _)
      · have nD2 : D2 ≠ x := fun z => by rw [z, e3] at hD2; cases hD2
        refine ⟨_, rfl, x, FR, dx, _, rfl, s5 _ _ e3, T.rFR.oc.cl, T.rFR.nc, by show 3 < 1000; decide, ?_⟩
        refine k D2 _ ((b3.then s5).updx _) ?_ ⟨dx, D, ras, upd_same, ⟨?_, rw3.len, fun k' r e => ?_⟩, ?_⟩
        · cases e : H D2 with
          | none => rfl
          | some o =>
            have z := b3 _ _ nD2 e
            rw [hD2] at z
            cases z
        · rw [upd_ne nD]
          exact s5 _ _ rw3.hr
        · have z := rw3.at_ k' r e
          have nr : r ≠ x := fun y => by rw [y, e3] at z; cases z
          rw [upd_ne nr]
          exact s5 _ _ z
        · rw [upd_ne nD2, hd2, List.filterMap_eq_map']
          rfl
theorem row_ne {m n : Nat} {S : Wg.St} {H : Hp} {lr x : Addr} {ras : List Addr} (h : Rows m n S H lr ras) {C dx : Addr} {fs : List (Str × V)} (hx : H x = some (.ins C dx fs)) : lr ≠ x ∧ ∀ (k : Nat) (r : Addr), ras[k]? = some r → r ≠ x :=
  ⟨ne_of h.hr hx (by intro z; cases z), fun k r e => ne_of (h.at_ k r e) hx (by intro z; cases z)⟩
def spCho (FR : Addr) : Sp := fun vs H Q _ => ∃ (m n : Nat) (A : Nat → Nat → Int) (due : Nat → Int) (x lc : Addr) (S : Wg.St) (p q : Nat), vs = [.ref x, .int (p : Int), .int (q : Int)] ∧ FObj FR m n H x lc S ∧ Good m n A due S ∧ p < m ∧ q < n ∧ S.R p q ≠ 0 ∧
  ∀ H', SB2 x lc H H' → FObj FR m n H' x lc (S.next p q) → Q .non H'
theorem scCho : FnScope ["self", "place", "column", "sign", "lead", "rows"] ["self", "place", "column"] (defScope sCho) := ⟨rfl, rfl, rfl, by decide +kernel, rfl, by decide +kernel, by decide +kernel⟩
theorem ok_cho {f1 f2 : Addr} {fd1 fd2 : FuncData} (t : Mx K "choose" "Frame.choose" sCho ["self", "place", "column"] f fd) (T : T K mg AL LN FR iF fCh fGM fCC fCA fPL SE NN NG NT NO NR NS) (D_sign_of : Df P w K mg base CX0 1 "sign_of" ["number"] spSgn f1 fd1) (D_cleared : Df P w K mg base CX0 1 "cleared" ["row", "lead", "column", "bottom"] spClr f2 fd2) :
    Md P w K mg base 2 ["self", "place", "column"] (spCho FR) f := by
  refine t.md0 scCho (fun vs H Q E h => ?_) (fun cdv _A outer s H vs Q E hr h => ?_)
  · obtain ⟨m, n, A, due, x, lc, S, p, q, rfl, _⟩ := h
    rfl
  · obtain ⟨m, n, A, due, x, lc, S, p, q, rfl, ⟨dx, lr, ras, hx, rs, hlc⟩, gd, hp, hq, nz, k⟩ := h
    have m8 := gd.ins.m8
    have n70 := gd.ins.n70
    obtain ⟨sd, sR⟩ := gd.ins.size gd.ok
    have d0 := Wg.Fr.pos gd.ok
    refine ⟨_, (pss_cons (ps_set (i := 3) scCho.nd rfl (by first | exact Or.inl rfl | exact Or.inr rfl) (pe_d0 D_sign_of hr (by decide) (by rfl) (pa_cons (pe_ix ix_list (pe_ix ix_list (pe_fld (pv 0) rfl) (pv 1) (fun _ _ => rfl)) (pv 2) (fun _ _ => rfl)) pa_nil)))
      (pss_cons (ps_set (i := 4) scCho.nd rfl (by first | exact Or.inl rfl | exact Or.inr rfl) (pe_comp (NB := ["number", "sign"]) (pick := [none, some 3]) (blk_mk (by with_unfolding_all rfl) (by exact (And.intro rfl trivial)) rfl (by decide +kernel) (by decide +kernel) (by rfl) (by rfl)) rfl
          (pi_list (pe_ix ix_list (pe_fld (pv 0) rfl) (pv 1) (fun _ _ => rfl))) (fun _ _ _ => pg_name (i := 0) (show (["number", "sign"] : List Str).Nodup from by decide +kernel) rfl (Or.inl rfl))
          (fun _ _ _ => pif_nil) (fun _ _ _ => (pe_op op_mulB (pv 1) (pv 0)))))
      (pss_cons (ps_setC (NB := ["row", "column", "lead", "self"]) (pick := [none, some 2, some 4, some 0]) (i := 5) scCho.nd rfl (Or.inl rfl) (by rfl) (blk_mk (by with_unfolding_all rfl) (by exact (And.intro rfl (And.intro rfl (And.intro rfl trivial)))) rfl (by decide +kernel) (by decide +kernel) (by rfl) (by rfl)) rfl
          (pi_list (pe_fld (pv 0) rfl)) (fun _ _ _ => pg_name (i := 0) (show (["row", "column", "lead", "self"] : List Str).Nodup from by decide +kernel) rfl (Or.inl rfl))
          (fun _ _ _ => pif_nil) (fun _ _ _ => (pe_d0 D_cleared hr (by decide) (by rfl) (pa_cons (pv 0) (pa_cons (pv 2) (pa_cons (pv 1) (pa_cons (pe_fldK K (pv 3) rfl) pa_nil)))))))
      (pss_cons (ps_asg (pv 4) (pg_sub (pv 5) (pv 1) set_list))
      (pss_cons (ps_fld (pv 0) (pv 5) rfl)
      (pss_cons (ps_fld (pv 0) (pe_ix ix_list (pv 4) (pv 2) (fun _ _ => rfl)) rfl)
      (pss_one (ps_asg (pv 2) (pg_sub (pe_fld (pv 0) rfl) (pv 1) set_list))))))))), ?_⟩
    obtain ⟨rp, erp, arp, hrp⟩ := rs.get hp
    refine ⟨_, rfl, x, FR, dx, _, _, rfl, hx, T.rFR.oc.cl, T.rFR.nr, rfl, _, rfl, lr, _, _, _, rfl, rfl, SqL.of rs.hr, arp, _, rfl, rp, _, _, _, rfl, rfl, SqL.of hrp, lsV_at (by omega), _, rfl, ?_⟩
    refine ⟨_, rfl, x, FR, dx, _, _, rfl, hx, T.rFR.oc.cl, T.rFR.nr, rfl, _, rfl, lr, _, _, _, rfl, rfl, SqL.of rs.hr, arp, rp, rfl, ⟨_, SqL.of hrp⟩, ?_⟩
    refine comp_lst (xs := rowV m n S p) (fun j _ => some (.int (Wg.sgn (S.R p q) * S.R p j))) (SqL.of hrp) (by unfold rowV; rw [lsV_len]; exact Nat.le_of_lt (small1000 (by omega))) (fun j y H2 kk kk0 s2 hy g1 g2 => ?_) fun D H2 hD s2 hd => ?_
    · obtain ⟨hj, rfl⟩ := lsV_of hy
      exact ⟨_, rfl, _, rfl, _, _, rfl, rfl, (sgn_sm _).mb (sR p hp j), g1 _ rfl _ (.refl _)⟩
    have hL : H2 D = some (.lst (lsV (n + m + 1) fun j => Wg.sgn (S.R p q) * S.R p j)) := by
      rw [hd]
      unfold rowV
      rw [lsV_len, fm_ls _ (lsV_len _ _)]
      rfl
    have sl : ∀ j, Sm 6000 (Wg.sgn (S.R p q) * S.R p j) := fun j => (sR p hp j).le (by rw [sgn_abs]; exact Nat.le_refl _)
    refine ⟨_, rfl, x, FR, dx, _, _, rfl, s2 _ _ hx, T.rFR.oc.cl, T.rFR.nr, rfl, lr, rfl, ⟨_, SqL.of (s2 _ _ rs.hr)⟩, ?_⟩
    refine comp_lstN (xs := ras.map V.ref) (fun k' => lsV (n + m + 1) fun j => (S.R k' j * (Wg.sgn (S.R p q) * S.R p q) - S.R k' q * (Wg.sgn (S.R p q) * S.R p j)) / S.d) (SqL.of (s2 _ _ rs.hr)) (by rw [List.length_map, rs.len]; exact Nat.le_of_lt (small1000 (by omega))) (fun k' y H3 kk kk0 s3 hy g1 => ?_) fun D2 ras2 H3 hD2 s3 hl2 nw hd2 => ?_
    · obtain ⟨r, hr', rfl⟩ := ref_of hy
      have hk' : k' < m := by
        obtain ⟨z, _⟩ := List.getElem?_eq_some_iff.mp hr'
        rw [rs.len] at z
        exact z
      refine ⟨_, rfl, _, rfl, _, rfl, _, rfl, x, FR, dx, _, _, rfl, s3 _ _ (s2 _ _ hx), T.rFR.oc.cl, T.rFR.nb, rfl, r, D, n + m + 1, q, S.R k', fun j => Wg.sgn (S.R p q) * S.R p j, S.d, rfl, s3 _ _ (s2 _ _ (rs.at_ k' r hr')), s3 _ _ hL, by omega, by omega, d0, sd, fun j _ => sR k' hk' j, fun j _ => sl j, fun r2 H4 s4 hr4 e4 => g1 r2 H4 s4 hr4 e4⟩
    rw [List.length_map, rs.len] at hl2
    have hL3 := s3 _ _ hL
    have hx3 := s3 _ _ (s2 _ _ hx)
    have hlc3 := s3 _ _ (s2 _ _ hlc)
    refine ⟨_, rfl, _, rfl, _, rfl, D2, _, _, p, rfl, rfl, hd2, by rw [List.length_map, hl2]; exact ixN_nat hp, ?_⟩
    have s23 := s2.trans s3
    have b4 : SB2 x lc H (upd H3 D2 (.lst ((ras2.map V.ref).set p (V.ref D)))) := fun b o n1 n2 e => by
      rw [upd_ne (fun z => by rw [z] at e; exact absurd (s2 _ _ e) (by rw [hD2]; intro q; cases q))]
      exact s23 _ _ e
    have hx4 : upd H3 D2 (.lst ((ras2.map V.ref).set p (V.ref D))) x = _ := (upd_ne (fun z => by rw [← z, s2 _ _ hx] at hD2; cases hD2)).trans hx3
    have hlc4 : upd H3 D2 (.lst ((ras2.map V.ref).set p (V.ref D))) lc = _ := (upd_ne (fun z => by rw [← z, s2 _ _ hlc] at hD2; cases hD2)).trans hlc3
    have hL4 : upd H3 D2 (.lst ((ras2.map V.ref).set p (V.ref D))) D = _ := (upd_ne (fun z => by rw [← z, hL] at hD2; cases hD2)).trans hL3
    have rs4 : Rows m n (S.next p q) (upd H3 D2 (.lst ((ras2.map V.ref).set p (V.ref D)))) D2 (ras2.set p D) := by
      refine ⟨by rw [upd_same, List.map_set], by rw [List.length_set]; exact hl2, fun k' r e => ?_⟩
      rw [List.getElem?_set] at e
      by_cases ek : p = k'
      · rw [if_pos ek] at e
        subst ek
        rw [if_pos (by rw [hl2]; exact hp)] at e
        cases e
        rw [hL4]
        congr 2
        refine lsV_ext fun j _ => ?_
        show _ = Wg.rowN S.d S.R p q p j
        unfold Wg.rowN
        rw [if_pos rfl]
      · rw [if_neg ek] at e
        obtain ⟨a1, a2, a3⟩ := nw.at_ k' r e
        rw [upd_ne a2, a3]
        congr 2
        refine lsV_ext fun j _ => ?_
        show _ = Wg.rowN S.d S.R p q k' j
        unfold Wg.rowN
        rw [if_neg (fun z => ek z.symm)]
    have nDx : D ≠ x := fun z => by rw [z, hx] at hD; cases hD
    have nDl : D ≠ lc := fun z => by rw [z, hlc] at hD; cases hD
    have nD2l : D2 ≠ lc := fun z => by rw [z, s2 _ _ hlc] at hD2; cases hD2
    have nrl : ∀ k' r, (ras2.set p D)[k']? = some r → r ≠ lc := fun k' r e => by
      rw [List.getElem?_set] at e
      by_cases ek : p = k'
      · rw [if_pos ek] at e
        subst ek
        rw [if_pos (by rw [hl2]; exact hp)] at e
        cases e
        exact nDl
      · rw [if_neg ek] at e
        obtain ⟨a1, _, _⟩ := nw.at_ k' r e
        exact fun z => by rw [z, s2 _ _ hlc] at a1; cases a1
    generalize upd H3 D2 (.lst ((ras2.map V.ref).set p (V.ref D))) = H4 at b4 hx4 hlc4 hL4 rs4 ⊢
    obtain ⟨nrx1, nrx2⟩ := row_ne rs4 hx4
    refine ⟨_, rfl, _, rfl, x, FR, dx, _, rfl, hx4, T.rFR.oc.cl, T.rFR.nr, by show 4 < 1000; decide, ?_⟩
    have nlx : lc ≠ x := ne_of hlc hx (by intro z; cases z)
    have e5 : upd H4 x (.ins FR dx (putF "rows" (V.ref D2) [("many", V.int (n : Int)), ("bottom", .int S.d), ("rows", .ref lr), ("chosen", .ref lc)])) x = some (.ins FR dx [("many", V.int (n : Int)), ("bottom", .int S.d), ("rows", .ref D2), ("chosen", .ref lc)]) := upd_same
    have b5 : SB2 x lc H (upd H4 x (.ins FR dx (putF "rows" (V.ref D2) [("many", V.int (n : Int)), ("bottom", .int S.d), ("rows", .ref lr), ("chosen", .ref lc)]))) := b4.updx _
    have hL5 := (upd_ne (H := H4) (o := .ins FR dx (putF "rows" (V.ref D2) [("many", V.int (n : Int)), ("bottom", .int S.d), ("rows", .ref lr), ("chosen", .ref lc)])) nDx).trans hL4
    have rs5 : Rows m n (S.next p q) (upd H4 x (.ins FR dx (putF "rows" (V.ref D2) [("many", V.int (n : Int)), ("bottom", .int S.d), ("rows", .ref lr), ("chosen", .ref lc)]))) D2 (ras2.set p D) :=
      ⟨by rw [upd_ne nrx1]; exact rs4.hr, rs4.len, fun k' r e => by rw [upd_ne (nrx2 k' r e)]; exact rs4.at_ k' r e⟩
    have hlc5 := (upd_ne (H := H4) (o := .ins FR dx (putF "rows" (V.ref D2) [("many", V.int (n : Int)), ("bottom", .int S.d), ("rows", .ref lr), ("chosen", .ref lc)])) nlx).trans hlc4
    generalize upd H4 x (.ins FR dx (putF "rows" (V.ref D2) [("many", V.int (n : Int)), ("bottom", .int S.d), ("rows", .ref lr), ("chosen", .ref lc)])) = H5 at e5 b5 hL5 rs5 hlc5 ⊢
    refine ⟨_, rfl, _, rfl, D, _, _, _, rfl, rfl, SqL.of hL5, lsV_at (by omega), _, rfl, x, FR, dx, _, rfl, e5, T.rFR.oc.cl, T.rFR.nb, by show 4 < 1000; decide, ?_⟩
    have e6 : upd H5 x (.ins FR dx (putF "bottom" (V.int (Wg.sgn (S.R p q) * S.R p q)) [("many", V.int (n : Int)), ("bottom", .int S.d), ("rows", .ref D2), ("chosen", .ref lc)])) x = some (.ins FR dx [("many", V.int (n : Int)), ("bottom", .int (Wg.sgn (S.R p q) * S.R p q)), ("rows", .ref D2), ("chosen", .ref lc)]) := upd_same
    have b6 : SB2 x lc H (upd H5 x (.ins FR dx (putF "bottom" (V.int (Wg.sgn (S.R p q) * S.R p q)) [("many", V.int (n : Int)), ("bottom", .int S.d), ("rows", .ref D2), ("chosen", .ref lc)]))) := b5.updx _
    have rs6 : Rows m n (S.next p q) (upd H5 x (.ins FR dx (putF "bottom" (V.int (Wg.sgn (S.R p q) * S.R p q)) [("many", V.int (n : Int)), ("bottom", .int S.d), ("rows", .ref D2), ("chosen", .ref lc)]))) D2 (ras2.set p D) :=
      ⟨by rw [upd_ne nrx1]; exact rs5.hr, rs5.len, fun k' r e => by rw [upd_ne (nrx2 k' r e)]; exact rs5.at_ k' r e⟩
    have hlc6 := (upd_ne (H := H5) (o := .ins FR dx (putF "bottom" (V.int (Wg.sgn (S.R p q) * S.R p q)) [("many", V.int (n : Int)), ("bottom", .int S.d), ("rows", .ref D2), ("chosen", .ref lc)])) nlx).trans hlc5
    generalize upd H5 x (.ins FR dx (putF "bottom" (V.int (Wg.sgn (S.R p q) * S.R p q)) [("many", V.int (n : Int)), ("bottom", .int S.d), ("rows", .ref D2), ("chosen", .ref lc)])) = H6 at e6 b6 rs6 hlc6 ⊢
    refine ⟨_, rfl, _, rfl, x, FR, dx, _, _, rfl, e6, T.rFR.oc.cl, T.rFR.nc, rfl, _, rfl, lc, _, _, p, rfl, rfl, hlc6, by unfold chV; rw [lsV_len]; exact ixN_nat hp, ?_⟩
    refine k _ (b6.updy _) ⟨dx, D2, _, (upd_ne (fun z => nlx z.symm)).trans e6, ⟨(upd_ne nD2l).trans rs6.hr, rs6.len, fun k' r e => (upd_ne (nrl k' r e)).trans (rs6.at_ k' r e)⟩, ?_⟩
    rw [upd_same]
    unfold chV
    rw [lsV_set]
    congr 2
    refine lsV_ext fun k' _ => ?_
    show _ = ((Wg.chN S.ch p q k' : Nat) : Int)
    unfold Wg.chN
    split <;> rfl
structure Gns (m n : Nat) (c : Nat → Int) (H : Hp) (pg : Addr) : Prop where
  hg : H pg = some (.lst (lsV (n + m) c))
  sz : ∀ j, Sm 100000 (c j)
theorem Gns.same {m n : Nat} {c : Nat → Int} {H H' : Hp} {pg : Addr} (h : Gns m n c H pg) (s : Same H H') : Gns m n c H' pg := ⟨s _ _ h.hg, h.sz⟩
theorem ch_row {m n : Nat} {S : Wg.St} {H : Hp} {lr : Addr} {ras : List Addr} (rs : Rows m n S H lr ras) : (chV m S).length = (ras.map V.ref).length := by unfold chV; rw [lsV_len, List.length_map, rs.len]
def spGMo (FR : Addr) : Sp := fun vs H Q _ => ∃ (m n : Nat) (A : Nat → Nat → Int) (due : Nat → Int) (c : Nat → Int) (x lc pg : Addr) (S : Wg.St) (q : Nat), vs = [.ref x, .int (q : Int), .ref pg] ∧ FObj FR m n H x lc S ∧ Good m n A due S ∧ Gns m n c H pg ∧ q < n ∧
  ∀ H', Same H H' → Q (.bl (decide (0 < S.red m c q))) H'
theorem scGMo : FnScope ["self", "column", "gains", "given_up"] ["self", "column", "gains"] (defScope sGMo) := ⟨rfl, rfl, rfl, by decide +kernel, rfl, by decide +kernel, by decide +kernel⟩
theorem ok_gmo (t : Mx K "gains_more" "Frame.gains_more" sGMo ["self", "column", "gains"] f fd) (T : T K mg AL LN FR iF fCh fGM fCC fCA fPL SE NN NG NT NO NR NS) : Md P w K mg base 1 ["self", "column", "gains"] (spGMo FR) f := by
  refine t.md0 scGMo (fun vs H Q E h => ?_) (fun cdv _A outer s H vs Q E hr h => ?_)
  · obtain ⟨m, n, A, due, c, x, lc, pg, S, q, rfl, _⟩ := h
    rfl
  · obtain ⟨m, n, A, due, c, x, lc, pg, S, q, rfl, ⟨dx, lr, ras, hx, rs, hlc⟩, gd, gn, hq, k⟩ := h
    have m8 := gd.ins.m8
    have n70 := gd.ins.n70
    obtain ⟨sd, sR⟩ := gd.ins.size gd.ok
    refine ⟨_, (pss_cons (ps_set (i := 3) scGMo.nd rfl (Or.inl rfl) (pe_callB (call_sum rfl) (by rfl) T.b_sum bt_sum (pa_cons (pe_comp (NB := ["chosen", "row", "column", "gains"]) (pick := [none, none, some 1, some 2]) (blk_mk (by with_unfolding_all rfl) (by exact (And.intro rfl (And.intro rfl trivial))) rfl (by decide +kernel) (by decide +kernel) (by rfl) (by rfl)) rfl
          (pi_zip (by rfl) T.b_zip (pa_cons (pe_fld (pv 0) rfl) (pa_cons (pe_fld (pv 0) rfl) pa_nil))) (fun _ _ _ => (show PG _ _ (gTup K 2 (gCons (gName 0) (gCons (gName 1) gNil))) from pg_tup rfl (pgs_cons (pg_name (i := 0) (show (["chosen", "row", "column", "gains"] : List Str).Nodup from by decide +kernel) rfl (Or.inl rfl)) (pgs_cons (pg_name (i := 1) (show (["chosen", "row", "column", "gains"] : List Str).Nodup from by decide +kernel) rfl (Or.inl rfl)) pgs_nil))))
          (fun _ _ _ => pif_nil) (fun _ _ _ => (pe_op op_mulB (pe_ix (ix_listK K) (pv 3) (pv 0) (fun _ _ => rfl)) (pe_ix (ix_listK K) (pv 1) (pv 2) (fun _ _ => rfl))))) pa_nil)))
      (pss_one (ps_ret (pe_cmpR op_lt (pv 3) (pe_op op_mulB (pe_ix ix_list (pv 2) (pv 1) (fun _ _ => rfl)) (pe_fld (pv 0) rfl)) (nomark _))))), ?_⟩
    refine ⟨_, rfl, x, FR, dx, _, _, rfl, hx, T.rFR.oc.cl, T.rFR.nc, rfl, _, rfl, x, FR, dx, _, _, rfl, hx, T.rFR.oc.cl, T.rFR.nr, rfl, lc, lr, rfl, ⟨_, SqL.of hlc⟩, ⟨_, SqL.of rs.hr⟩, ?_⟩
    refine comp_zipG (xs := chV m S) (ys := ras.map V.ref) (fun σ' => ∃ o0 o1 : Option V, σ' = [o0, o1, some (.int (q : Int)), some (.ref pg)]) (fun k' _ _ => some (.int (c (S.ch k') * S.R k' q))) ⟨_, _, rfl⟩ (SqL.of hlc) (SqL.of rs.hr) (ch_row rs) (by unfold chV; rw [lsV_len]; exact Nat.le_of_lt (small1000 (by omega))) (fun k' x' y' tt σ1 H2 kk kk0 hσ s2 hx' hy' ht h1 h2 => ?_) fun D H2 hD s2 hd => ?_
    · obtain ⟨o0, o1, rfl⟩ := hσ
      obtain ⟨hk', rfl⟩ := lsV_of hx'
      obtain ⟨r, er, rfl⟩ := ref_of hy'
      have hch := gd.ch k' hk'
      refine ⟨tt, _, rfl, SqT.of ht, rfl, _, _, rfl, _, _, rfl, rfl, ?_⟩
      exact ⟨_, rfl, _, rfl, pg, _, _, _, rfl, rfl, SqL.of (s2 _ _ gn.hg), lsV_at hch, _, rfl, _, rfl, r, _, _, _, rfl, rfl, SqL.of (s2 _ _ (rs.at_ k' r er)), lsV_at (by omega), _, _, rfl, rfl, (gn.sz _).mb (sR k' hk' q), h1 _ _ ⟨_, _, rfl⟩ rfl _ (.refl _)⟩
    · have hd' : H2 D = some (.lst (((List.range m).map fun k' => c (S.ch k') * S.R k' q).map V.int)) := by
        have e : (chV m S).length = m := lsV_len _ _
        rw [hd, e, fm_ls2 _ e (by rw [List.length_map, rs.len]), List.map_map]
        rfl
      refine ⟨D, _, rfl, .inl (SqL.of hd'), ?_⟩
      refine ⟨_, rfl, _, rfl, _, rfl, pg, _, _, _, rfl, rfl, SqL.of (s2 _ _ gn.hg), lsV_at (by omega), _, rfl, x, FR, dx, _, _, rfl, s2 _ _ hx, T.rFR.oc.cl, T.rFR.nb, rfl, _, _, rfl, rfl, (gn.sz q).mb sd, _, _, rfl, rfl, ?_⟩
      rw [sum_range]
      have e : decide (Wg.sm m (fun k' => c (S.ch k') * S.R k' q) < c q * S.d) = decide (0 < S.red m c q) := by
        refine decide_eq_decide.mpr ?_
        unfold Wg.St.red Wg.red
        omega
      show Q (.bl (decide (Wg.sm m (fun k' => c (S.ch k') * S.R k' q) < c q * S.d))) H2
      rw [e]
      exact k H2 s2
def spCTC (FR : Addr) : Sp := fun vs H Q _ => ∃ (m n : Nat) (A : Nat → Nat → Int) (due : Nat → Int) (c : Nat → Int) (x lc pg : Addr) (S : Wg.St), vs = [.ref x, .ref pg] ∧ FObj FR m n H x lc S ∧ Good m n A due S ∧ Gns m n c H pg ∧
  ∀ H', Same H H' → ((∀ j, j < n → S.red m c j ≤ 0) → Q .non H') ∧ ∀ q : Nat, q < n → 0 < S.red m c q → (∀ j, j < q → S.red m c j ≤ 0) → Q (.int (q : Int)) H'
theorem scCTC : FnScope ["self", "gains", "column"] ["self", "gains"] (defScope sCTC) := ⟨rfl, rfl, rfl, by decide +kernel, rfl, by decide +kernel, by decide +kernel⟩
theorem ok_ctc (t : Mx K "column_to_choose" "Frame.column_to_choose" sCTC ["self", "gains"] f fd) (T : T K mg AL LN FR iF fCh fGM fCC fCA fPL SE NN NG NT NO NR NS) (DG : Md P w K mg base 1 ["self", "column", "gains"] (spGMo FR) fGM) : Md P w K mg base 2 ["self", "gains"] (spCTC FR) f := by
  refine t.md0 scCTC (fun vs H Q E h => ?_) (fun cdv _A outer s H vs Q E hr h => ?_)
  · obtain ⟨m, n, A, due, c, x, lc, pg, S, rfl, _⟩ := h
    rfl
  · obtain ⟨m, n, A, due, c, x, lc, pg, S, rfl, fo, gd, gn, k⟩ := h
    have n70 := gd.ins.n70
    obtain ⟨dx, lr, ras, hx, rs, hlc⟩ := id fo
    refine ⟨_, (pss_cons (ps_for PassesOwn.never rfl (pi_range1 (by rfl) T.b_range (pa_cons (pe_fld (pv 0) rfl) pa_nil)) (pg_name (i := 2) scCTC.nd rfl (Or.inl rfl))
        (pss_one (ps_if (pt_val (pe_methX (k := 1) pass_no (pv 0) hr (by decide) (pa_cons (pv 2) (pa_cons (pv 1) pa_nil)))) (pss_one (ps_ret (pv 2))) pss_nil)))
      (pss_one (ps_ret pe_non))), ?_⟩
    refine ⟨_, rfl, x, FR, dx, _, _, rfl, hx, T.rFR.oc.cl, T.rFR.nm, rfl, n, rfl, by omega, by omega, ?_⟩
    refine for_range (n := n) (fun i σ H2 => Same H H2 ∧ (∃ o : Option V, σ = [some (.ref x), some (.ref pg), o]) ∧ ∀ j, j < i → S.red m c j ≤ 0) ⟨.refl _, ⟨_, rfl⟩, fun j hj => by omega⟩ (fun i σ H2 hi ⟨s2, ⟨o, eσ⟩, le⟩ => ?_) (fun σ H2 ⟨s2, ⟨o, eσ⟩, le⟩ => ?_)
    · subst eσ
      refine ⟨_, rfl, x, FR, dx, _, fGM, _, rfl, s2 _ _ hx, rfl, T.rFR.oc.cl, T.rFR.mgm, ⟨_, DG⟩, ?_⟩
      refine ⟨_, rfl, _, rfl, m, n, A, due, c, x, lc, pg, S, i, ?_, fo.same s2, gd, gn.same s2, hi, fun H3 s3 => ?_⟩
      · rw [Int.zero_add]
      · refine ⟨_, rfl, ite2 (fun z => ⟨_, rfl, ?_⟩) (fun z => ⟨s2.trans s3, ⟨_, rfl⟩, fun j hj => ?_⟩)⟩
        · rw [Int.zero_add]
          exact (k H3 (s2.trans s3)).2 i hi (of_decide_eq_true z) le
        · by_cases e : j = i
          · subst e
            have : ¬ (0 < S.red m c j) := fun y => z (decide_eq_true y)
            omega
          · exact le j (by omega)
    · exact (k H2 s2).1 le
def spCAh (FR : Addr) : Sp := fun vs H Q _ => ∃ (m n : Nat) (A : Nat → Nat → Int) (due : Nat → Int) (x lc : Addr) (S : Wg.St) (a b q : Nat), vs = [.ref x, .int (a : Int), .int (b : Int), .int (q : Int)] ∧ FObj FR m n H x lc S ∧ Good m n A due S ∧ a < m ∧ b < m ∧ q < n ∧
  Q (.bl (decide (S.R a (n + m) * S.R b q < S.R b (n + m) * S.R a q ∨ (S.R a (n + m) * S.R b q = S.R b (n + m) * S.R a q ∧ S.ch a < S.ch b)))) H
theorem scCAh : FnScope ["self", "one", "other", "column", "first", "second"] ["self", "one", "other", "column"] (defScope sCAh) := ⟨rfl, rfl, rfl, by decide +kernel, rfl, by decide +kernel, by decide +kernel⟩
theorem ok_cah (t : Mx K "comes_ahead" "Frame.comes_ahead" sCAh ["self", "one", "other", "column"] f fd) (T : T K mg AL LN FR iF fCh fGM fCC fCA fPL SE NN NG NT NO NR NS) : Md P w K mg base 1 ["self", "one", "other", "column"] (spCAh FR) f := by
  refine t.md0 scCAh (fun vs H Q E h => ?_) (fun cdv _A outer s H vs Q E hr h => ?_)
  · obtain ⟨m, n, A, due, x, lc, S, a, b, q, rfl, _⟩ := h
    rfl
  · obtain ⟨m, n, A, due, x, lc, S, a, b, q, rfl, ⟨dx, lr, ras, hx, rs, hlc⟩, gd, ha, hb, hq, k⟩ := h
    obtain ⟨sd, sR⟩ := gd.ins.size gd.ok
    obtain ⟨ra, ea, aa, hra⟩ := rs.get ha
    obtain ⟨rb, eb, ab, hrb⟩ := rs.get hb
    refine ⟨_, (pss_cons (ps_set (i := 4) scCAh.nd rfl (Or.inl rfl) (pe_op op_mulB (pe_ix ix_list (pe_ix ix_list (pe_fld (pv 0) rfl) (pv 1) (fun _ _ => rfl)) (pe_un un_neg pe_int) (fun _ _ => rfl)) (pe_ix ix_list (pe_ix ix_list (pe_fld (pv 0) rfl) (pv 2) (fun _ _ => rfl)) (pv 3) (fun _ _ => rfl))))
      (pss_cons (ps_set (i := 5) scCAh.nd rfl (Or.inl rfl) (pe_op op_mulB (pe_ix ix_list (pe_ix ix_list (pe_fld (pv 0) rfl) (pv 2) (fun _ _ => rfl)) (pe_un un_neg pe_int) (fun _ _ => rfl)) (pe_ix ix_list (pe_ix ix_list (pe_fld (pv 0) rfl) (pv 1) (fun _ _ => rfl)) (pv 3) (fun _ _ => rfl))))
      (pss_one (ps_ret (pe_or (pe_cmpR op_lt (pv 4) (pv 5) (nomark _)) (pe_one (pe_and (pe_cmpR op_eq (pv 4) (pv 5) (nomark _)) (pe_one (pe_cmpR op_lt (pe_ix ix_list (pe_fld (pv 0) rfl) (pv 1) (fun _ _ => rfl)) (pe_ix ix_list (pe_fld (pv 0) rfl) (pv 2) (fun _ _ => rfl)) (nomark _)))))))))), ?_⟩
    have la : atI (rowV m n S a) (-1) = some (.int (S.R a (n + m))) := lsV_last (n + m) _
    have lb : atI (rowV m n S b) (-1) = some (.int (S.R b (n + m))) := lsV_last (n + m) _
    refine ⟨_, rfl, x, FR, dx, _, _, rfl, hx, T.rFR.oc.cl, T.rFR.nr, rfl, _, rfl, lr, _, _, _, rfl, rfl, SqL.of rs.hr, aa, _, rfl, ra, _, _, _, rfl, rfl, SqL.of hra, la, ?_⟩
    refine ⟨_, rfl, x, FR, dx, _, _, rfl, hx, T.rFR.oc.cl, T.rFR.nr, rfl, _, rfl, lr, _, _, _, rfl, rfl, SqL.of rs.hr, ab, _, rfl, rb, _, _, _, rfl, rfl, SqL.of hrb, lsV_at (by omega), _, _, rfl, rfl, (sR a ha _).mb (sR b hb _), ?_⟩
    refine ⟨_, rfl, x, FR, dx, _, _, rfl, hx, T.rFR.oc.cl, T.rFR.nr, rfl, _, rfl, lr, _, _, _, rfl, rfl, SqL.of rs.hr, ab, _, rfl, rb, _, _, _, rfl, rfl, SqL.of hrb, lb, ?_⟩
    refine ⟨_, rfl, x, FR, dx, _, _, rfl, hx, T.rFR.oc.cl, T.rFR.nr, rfl, _, rfl, lr, _, _, _, rfl, rfl, SqL.of rs.hr, aa, _, rfl, ra, _, _, _, rfl, rfl, SqL.of hra, lsV_at (by omega), _, _, rfl, rfl, (sR b hb _).mb (sR a ha _), ?_⟩
    refine ⟨_, rfl, _, rfl, _, _, rfl, rfl, _, rfl, ite2 (fun z => ?_) (fun z => ?_)⟩
    · rw [decide_eq_true (.inl (of_decide_eq_true z))] at k
      exact k
    · have z1 : ¬ S.R a (n + m) * S.R b q < S.R b (n + m) * S.R a q := fun y => z (decide_eq_true y)
      refine ⟨_, rfl, _, rfl, rfl, _, rfl, ite2 (fun z2 => ?_) (fun z2 => ?_)⟩
      · have e := V.int.inj (of_decide_eq_true z2)
        refine ⟨_, rfl, x, FR, dx, _, _, rfl, hx, T.rFR.oc.cl, T.rFR.nc, rfl, _, rfl, lc, _, _, _, rfl, rfl, SqL.of hlc, lsV_at ha, _, rfl, x, FR, dx, _, _, rfl, hx, T.rFR.oc.cl, T.rFR.nc, rfl, _, rfl, lc, _, _, _, rfl, rfl, SqL.of hlc, lsV_at hb, _, _, rfl, rfl, ?_⟩
        have e2 : decide (((S.ch a : Nat) : Int) < ((S.ch b : Nat) : Int)) = decide (S.R a (n + m) * S.R b q < S.R b (n + m) * S.R a q ∨ S.R a (n + m) * S.R b q = S.R b (n + m) * S.R a q ∧ S.ch a < S.ch b) := by
          refine decide_eq_decide.mpr ⟨fun y => .inr ⟨e, by omega⟩, fun y => ?_⟩
          rcases y with y | ⟨_, y⟩ <;> omega
        rw [← e2] at k
        exact k
      · have e : ¬ S.R a (n + m) * S.R b q = S.R b (n + m) * S.R a q := fun y => z2 (decide_eq_true (congrArg V.int y))
        rw [decide_eq_false (fun y => by rcases y with y | ⟨y, _⟩ <;> contradiction)] at k
        exact k
def spPTL (FR : Addr) : Sp := fun vs H Q _ => ∃ (m n : Nat) (A : Nat → Nat → Int) (due : Nat → Int) (x lc : Addr) (S : Wg.St) (q : Nat), vs = [.ref x, .int (q : Int)] ∧ FObj FR m n H x lc S ∧ Good m n A due S ∧ q < n ∧
  ∀ H', Same H H' → ((∀ k, k < m → S.R k q ≤ 0) → Q .non H') ∧ ∀ p : Nat, p < m → 0 < S.R p q → (∀ k, k < m → 0 < S.R k q → Wg.Ah (n + m) q S p k) → Q (.int (p : Int)) H'
def Fnd (L q : Nat) (S : Wg.St) (i : Nat) (v : V) : Prop := (v = .non ∧ ∀ k, k < i → S.R k q ≤ 0) ∨ ∃ p : Nat, v = .int (p : Int) ∧ p < i ∧ 0 < S.R p q ∧ ∀ k, k < i → 0 < S.R k q → Wg.Ah L q S p k
theorem scPTL : FnScope ["self", "column", "found", "place", "row"] ["self", "column"] (defScope sPTL) := ⟨rfl, rfl, rfl, by decide +kernel, rfl, by decide +kernel, by decide +kernel⟩
theorem ok_ptl (t : Mx K "place_to_leave" "Frame.place_to_leave" sPTL ["self", "column"] f fd) (T : T K mg AL LN FR iF fCh fGM fCC fCA fPL SE NN NG NT NO NR NS) (DA : Md P w K mg base 1 ["self", "one", "other", "column"] (spCAh FR) fCA) : Md P w K mg base 2 ["self", "column"] (spPTL FR) f := by
  refine t.md0 scPTL (fun vs H Q E h => ?_) (fun cdv _A outer s H vs Q E hr h => ?_)
  · obtain ⟨m, n, A, due, x, lc, S, q, rfl, _⟩ := h
    rfl
  · obtain ⟨m, n, A, due, x, lc, S, q, rfl, fo, gd, hq, k⟩ := h
    obtain ⟨dx, lr, ras, hx, rs, hlc⟩ := id fo
    refine ⟨_, (pss_cons (ps_set (i := 2) scPTL.nd rfl (Or.inl rfl) pe_non)
      (pss_cons (ps_for PassesOwn.never rfl (pi_enum (by rfl) T.b_enum (pa_cons (pe_fld (pv 0) rfl) pa_nil)) (pg_tup rfl (pgs_cons (pg_name (i := 3) scPTL.nd rfl (Or.inl rfl)) (pgs_cons (pg_name (i := 4) scPTL.nd rfl (Or.inl rfl)) pgs_nil)))
        (pss_one (ps_if (PW.pt (pw_and (pt_cmpR op_gt (pe_ix ix_list (pv 4) (pv 1) (fun _ _ => rfl)) pe_int (nomark _)) (pw_and1 (PW.pt (pw_or (pt_cmpR op_isN (pv 2) pe_non (nomark _)) (pw_or1 (pt_val (pe_methX (k := 1) pass_no (pv 0) hr (by decide) (pa_cons (pv 3) (pa_cons (pv 2) (pa_cons (pv 1) pa_nil))))))))))) (pss_one (ps_set (i := 2) scPTL.nd rfl (Or.inl rfl) (pv 3))) pss_nil)))
      (pss_one (ps_ret (pv 2))))), ?_⟩
    refine ⟨_, rfl, x, FR, dx, _, _, rfl, hx, T.rFR.oc.cl, T.rFR.nr, rfl, lr, rfl, ⟨_, SqL.of rs.hr⟩, ?_⟩
    refine for_enum (xs := ras.map V.ref) (fun i σ H2 => Same H H2 ∧ ∃ (v : V) (o3 o4 : Option V), σ = [some (.ref x), some (.int (q : Int)), some v, o3, o4] ∧ Fnd (n + m) q S i v) ⟨.refl _, .non, _, _, rfl, .inl ⟨rfl, fun k' hk' => by omega⟩⟩ (fun i σ H2 _ ⟨s2, _⟩ => SqL.of (s2 _ _ rs.hr)) (fun i y tt σ H2 hy ht ⟨s2, v, o3, o4, eσ, fn⟩ => ?_) (fun σ H2 ⟨s2, v, o3, o4, eσ, fn⟩ => ?_)
    · subst eσ
      obtain ⟨r, er, rfl⟩ := ref_of hy
      have hi : i < m := by
        obtain ⟨z, _⟩ := List.getElem?_eq_some_iff.mp er
        rw [rs.len] at z
        exact z
      have u2 := Same.upd_new (o := .tup [.int (i : Int), .ref r]) ht
      have e2 : upd H2 tt (.tup [.int (i : Int), .ref r]) tt = some (.tup [.int (i : Int), .ref r]) := upd_same
      generalize upd H2 tt (.tup [.int (i : Int), .ref r]) = H3 at u2 e2 ⊢
      have s3 := s2.trans u2
      refine ⟨tt, _, rfl, SqT.of e2, rfl, _, _, rfl, _, _, rfl, rfl, ?_⟩
      have goOn : ∀ (v' : V), (∀ w', v' = w' → True) → Fnd (n + m) q S (i + 1) v' → Same H H3 ∧ ∃ (v : V) (o3 o4 : Option V), [some (V.ref x), some (V.int (q : Int)), some v', some (V.int (i : Int)), some (V.ref r)] = [some (.ref x), some (.int (q : Int)), some v, o3, o4] ∧ Fnd (n + m) q S (i + 1) v := fun v' _ h => ⟨s3, v', _, _, rfl, h⟩
      refine ⟨_, rfl, _, rfl, r, _, _, _, rfl, rfl, SqL.of (s3 _ _ (rs.at_ i r er)), lsV_at (by omega), _, _, rfl, rfl, _, rfl, ite2 (fun z => ?_) (fun z => ?_)⟩
      · have pos : 0 < S.R i q := of_decide_eq_true z
        rcases fn with ⟨rfl, no⟩ | ⟨p, rfl, hp, pp, ah⟩
        · refine ⟨_, rfl, rfl, _, rfl, iteT ?_⟩
          refine ⟨_, rfl, goOn _ (fun _ _ => trivial) (.inr ⟨i, rfl, by omega, pos, fun k' hk' pk => ?_⟩)⟩
          by_cases e : k' = i
          · rw [e]; exact .refl _
          · have := no k' (by omega)
            omega
        · refine ⟨_, rfl, rfl, _, rfl, iteF ?_⟩
          refine ⟨_, rfl, x, FR, dx, _, fCA, _, rfl, s3 _ _ hx, rfl, T.rFR.oc.cl, T.rFR.mca, ⟨_, DA⟩, ?_⟩
          refine ⟨_, rfl, _, rfl, _, rfl, m, n, A, due, x, lc, S, i, p, q, rfl, fo.same s3, gd, hi, by omega, hq, ?_⟩
          refine ⟨_, rfl, ite2 (fun y => ?_) (fun y => ?_)⟩
          · refine ⟨_, rfl, goOn _ (fun _ _ => trivial) (.inr ⟨i, rfl, by omega, pos, fun k' hk' pk => ?_⟩)⟩
            by_cases e : k' = i
            · rw [e]; exact .refl _
            · exact .trans pos pp pk (.of (of_decide_eq_true y)) (ah k' (by omega) pk)
          · refine goOn _ (fun _ _ => trivial) (.inr ⟨p, rfl, by omega, pp, fun k' hk' pk => ?_⟩)
            by_cases e : k' = i
            · rw [e]
              exact .of_not (fun z => y (decide_eq_true z))
            · exact ah k' (by omega) pk
      · have le : S.R i q ≤ 0 := by
          have : ¬ (0 < S.R i q) := fun y => z (decide_eq_true y)
          omega
        refine goOn _ (fun _ _ => trivial) ?_
        rcases fn with ⟨rfl, no⟩ | ⟨p, rfl, hp, pp, ah⟩
        · refine .inl ⟨rfl, fun k' hk' => ?_⟩
          by_cases e : k' = i
          · rw [e]; exact le
          · exact no k' (by omega)
        · refine .inr ⟨p, rfl, by omega, pp, fun k' hk' pk => ?_⟩
          by_cases e : k' = i
          · rw [e] at pk; omega
          · exact ah k' (by omega) pk
    · subst eσ
      rw [List.length_map, rs.len] at fn
      refine ⟨_, rfl, ?_⟩
      rcases fn with ⟨rfl, no⟩ | ⟨p, rfl, hp, pp, ah⟩
      · exact (k H2 s2).1 no
      · exact (k H2 s2).2 p hp pp ah
def spClb (FR : Addr) : Sp := fun vs H Q _ => ∃ (m n : Nat) (A : Nat → Nat → Int) (due : Nat → Int) (c : Nat → Int) (x lc pg : Addr) (S : Wg.St), vs = [.ref x, .ref pg] ∧ FObj FR m n H x lc S ∧ Good m n A due S ∧ (∀ k, k < m → 0 ≤ S.R k (n + m)) ∧ Gns m n c H pg ∧ pg ≠ lc ∧
  ∀ (S' : Wg.St) (H' : Hp), SB2 x lc H H' → FObj FR m n H' x lc S' → Good m n A due S' → (∃ T st p q, Wg.Run m n (n + m) (Wg.mat m n A due) c T st p q ∧ st 0 = S ∧ st T = S') →
    ((∀ j, j < n → S'.red m c j ≤ 0) → Q .non H') ∧ ∀ q : Nat, q < n → 0 < S'.red m c q → (∀ k, k < m → S'.R k q ≤ 0) → Q (.int (q : Int)) H'
def Nxt (m n : Nat) (c : Nat → Int) (S : Wg.St) (v : V) : Prop := (v = .non ∧ ∀ j, j < n → S.red m c j ≤ 0) ∨ ∃ q : Nat, v = .int (q : Int) ∧ q < n ∧ 0 < S.red m c q ∧ ∀ j, j < q → S.red m c j ≤ 0
theorem scClb : FnScope ["frame", "gains", "column", "place"] ["frame", "gains"] (defScope sClb) := ⟨rfl, rfl, rfl, by decide +kernel, rfl, by decide +kernel, by decide +kernel⟩
theorem ok_clb (t : Tx K mg "climb" sClb ["frame", "gains"] f fd) (T : T K mg AL LN FR iF fCh fGM fCC fCA fPL SE NN NG NT NO NR NS) (DC : Md P w K mg base 2 ["self", "gains"] (spCTC FR) fCC) (DP : Md P w K mg base 2 ["self", "column"] (spPTL FR) fPL) (DH : Md P w K mg base 2 ["self", "place", "column"] (spCho FR) fCh) :
    Df P w K mg base CX0 3 "climb" ["frame", "gains"] (spClb FR) f fd := by
  refine t.df0 scClb (fun vs H Q E h => ?_) (fun cdv _A outer s H vs Q E hr h => ?_)
  · obtain ⟨m, n, A, due, c, x, lc, pg, S, rfl, _⟩ := h
    rfl
  · obtain ⟨m, n, A, due, c, x, lc, pg, S, rfl, fo, gd, fe, gn, npl, k⟩ := h
    have hch := gd.ch
    refine ⟨_, (pss_cons (ps_set (i := 2) scClb.nd rfl (Or.inl rfl) (pe_methX (k := 2) pass_no (pv 0) hr (by decide) (pa_cons (pv 1) pa_nil)))
      (pss_cons (ps_while PassesOwn.never (pt_cmpR op_notN (pv 2) pe_non (nomark _))
        (pss_cons (ps_set (i := 3) scClb.nd rfl (Or.inl rfl) (pe_methX (k := 2) pass_no (pv 0) hr (by decide) (pa_cons (pv 2) pa_nil)))
        (pss_cons (ps_if (pt_cmpR op_isN (pv 3) pe_non (nomark _)) (pss_one (ps_ret (pv 2))) pss_nil)
        (pss_cons (ps_expr (pe_methX (k := 2) pass_no (pv 0) hr (by decide) (pa_cons (pv 3) (pa_cons (pv 2) pa_nil))))
        (pss_one (ps_set (i := 2) scClb.nd rfl (Or.inl rfl) (pe_methX (k := 2) pass_no (pv 0) hr (by decide) (pa_cons (pv 1) pa_nil))))))))
      (pss_one (ps_ret pe_non)))), ?_⟩
    have ask : ∀ {S1 : Wg.St} {H1 : Hp} {R : VK} {E' : XK}, FObj FR m n H1 x lc S1 → Good m n A due S1 → Gns m n c H1 pg → (∀ v H2, Same H1 H2 → Nxt m n c S1 v → R v H2) → spCTC FR [.ref x, .ref pg] H1 R E' := fun {S1 H1 R E'} f1 g1 n1 kk =>
      ⟨m, n, A, due, c, x, lc, pg, S1, rfl, f1, g1, n1, fun H2 s2 => ⟨fun no => kk _ H2 s2 (.inl ⟨rfl, no⟩), fun q hq pos le => kk _ H2 s2 (.inr ⟨q, rfl, hq, pos, le⟩)⟩⟩
    obtain ⟨dx, lr, ras, hx, rs, hlc⟩ := id fo
    refine ⟨_, rfl, x, FR, dx, _, fCC, _, rfl, hx, rfl, T.rFR.oc.cl, T.rFR.mcc, ⟨_, DC⟩, _, rfl, ?_⟩
    dsimp only [tNil]
    refine ask fo gd gn fun v0 H1 s1 nx0 => ?_
    refine ⟨fun mm σ H2 => ∃ (TT : Nat) (st : Nat → Wg.St) (p q : Nat → Nat) (v : V) (o : Option V), Wg.Run m n (n + m) (Wg.mat m n A due) c TT st p q ∧ st 0 = S ∧ mm = (n + m) ^ m - TT ∧ SB2 x lc H H2 ∧ FObj FR m n H2 x lc (st TT) ∧ Good m n A due (st TT) ∧ σ = [some (.ref x), some (.ref pg), some v, o] ∧ Nxt m n c (st TT) v,
      ⟨_, 0, fun _ => S, fun _ => 0, fun _ => 0, v0, none, .none gd.ok fe, rfl, rfl, b2_of s1 x lc, fo.same s1, gd, rfl, nx0⟩, ?_⟩
    rintro mm σ H2 ⟨TT, st, p, q, v, o, run, e0, rfl, sb, f2, g2, rfl, nx⟩
    have hpx : pg ≠ x := ne_of gn.hg hx (by intro z; cases z)
    have gn2 : Gns m n c H2 pg := ⟨sb _ _ hpx npl gn.hg, gn.sz⟩
    obtain ⟨dx2, lr2, ras2, hx2, rs2, hlc2⟩ := id f2
    refine ⟨_, rfl, rfl, _, rfl, ?_⟩
    rcases nx with ⟨rfl, no⟩ | ⟨q0, rfl, hq0, pos, le⟩
    · exact iteF ((k (st TT) H2 sb f2 g2 ⟨TT, st, p, q, run, e0, rfl⟩).1 no)
    · refine iteT ⟨fun σ' H' => ∃ (TT' : Nat) (st' : Nat → Wg.St) (p' q' : Nat → Nat) (v : V) (o : Option V), Wg.Run m n (n + m) (Wg.mat m n A due) c TT' st' p' q' ∧ st' 0 = S ∧ TT' = TT + 1 ∧ SB2 x lc H H' ∧ FObj FR m n H' x lc (st' TT') ∧ Good m n A due (st' TT') ∧ σ' = [some (.ref x), some (.ref pg), some v, o] ∧ Nxt m n c (st' TT') v, ?_, ?_⟩
      · rintro σ' H' ⟨TT', st', p', q', v, o, run', e0', rfl, sb', f', g', eσ, nx'⟩
        have z := run'.ends (N := n + m) (by omega) (by rw [e0']; exact hch)
        exact ⟨_, by omega, TT + 1, st', p', q', v, o, run', e0', rfl, sb', f', g', eσ, nx'⟩
      · refine ⟨_, rfl, x, FR, dx2, _, fPL, _, rfl, hx2, rfl, T.rFR.oc.cl, T.rFR.mpl, ⟨_, DP⟩, _, rfl, m, n, A, due, x, lc, st TT, q0, rfl, f2, g2, hq0, fun H3 s3 => ⟨fun no => ?_, fun p0 hp0 pp ah => ?_⟩⟩
        · refine ⟨_, rfl, rfl, _, rfl, iteT ⟨_, rfl, ?_⟩⟩
          exact (k (st TT) H3 (sb.then s3) (f2.same s3) g2 ⟨TT, st, p, q, run, e0, rfl⟩).2 q0 hq0 pos no
        · have go : Wg.Goes m n (n + m) c (st TT) p0 q0 := ⟨hq0, pos, le, hp0, pp, ah⟩
          obtain ⟨st', p', q', run', e0', e1'⟩ := run.more go
          have g3 : Good m n A due ((st TT).next p0 q0) := g2.next hp0 hq0 (by omega)
          refine ⟨_, rfl, rfl, _, rfl, iteF ?_⟩
          have hx3 := s3 _ _ hx2
          refine ⟨_, rfl, x, FR, dx2, _, fCh, _, rfl, hx3, rfl, T.rFR.oc.cl, T.rFR.mch, ⟨_, DH⟩, _, rfl, _, rfl, m, n, A, due, x, lc, st TT, p0, q0, rfl, f2.same s3, g2, hp0, hq0, by omega, fun H4 s4 f4 => ?_⟩
          obtain ⟨dx4, lr4, ras4, hx4, rs4, hlc4⟩ := id f4
          have sb4 := (sb.then s3).trans s4
          refine ⟨_, rfl, x, FR, dx4, _, fCC, _, rfl, hx4, rfl, T.rFR.oc.cl, T.rFR.mcc, ⟨_, DC⟩, _, rfl, ?_⟩
          dsimp only [tNil]
          refine ask f4 g3 ⟨sb4 _ _ hpx npl gn.hg, gn.sz⟩ fun v5 H5 s5 nx5 => ?_
          refine ⟨TT + 1, st', p', q', v5, _, run', e0'.trans e0, rfl, sb4.then s5, ?_, ?_, rfl, ?_⟩
          · rw [e1']; exact f4.same s5
          · rw [e1']; exact g3
          · rw [e1']; exact nx5
def spL (m n : Nat) (S : Wg.St) : List Nat := (List.range m).filter fun k => decide (n ≤ S.ch k)
theorem spL_mem {m n : Nat} {S : Wg.St} {k : Nat} : k ∈ spL m n S ↔ k < m ∧ n ≤ S.ch k := by
  unfold spL
  rw [List.mem_filter, List.mem_range, decide_eq_true_iff]
def natV (ks : List Nat) : List V := ks.map fun (k : Nat) => V.int (k : Int)
theorem natV_of {ks : List Nat} {i : Nat} {v : V} (h : (natV ks)[i]? = some v) : ∃ k, ks[i]? = some k ∧ v = .int (k : Int) := by
  unfold natV at h
  rw [List.getElem?_map] at h
  cases e : ks[i]? with
  | none => rw [e] at h; cases h
  | some a => rw [e] at h; exact ⟨a, rfl, (Option.some.inj h).symm⟩
def spSpP (FR : Addr) : Sp := fun vs H Q _ => ∃ (m n : Nat) (A : Nat → Nat → Int) (due : Nat → Int) (x lc : Addr) (S : Wg.St), vs = [.ref x] ∧ FObj FR m n H x lc S ∧ Good m n A due S ∧ ∀ D H', H D = none → Same H H' → H' D = some (.lst (natV (spL m n S))) → Q (.ref D) H'
theorem scSpP : FnScope ["frame"] ["frame"] (defScope sSpP) := ⟨rfl, rfl, rfl, by decide +kernel, rfl, by decide +kernel, by decide +kernel⟩
theorem ok_spp (t : Tx K mg "spare_places" sSpP ["frame"] f fd) (T : T K mg AL LN FR iF fCh fGM fCC fCA fPL SE NN NG NT NO NR NS) : Df P w K mg base CX0 1 "spare_places" ["frame"] (spSpP FR) f fd := by
  refine t.df0 scSpP (fun vs H Q E h => ?_) (fun cdv _A outer s H vs Q E hr h => ?_)
  · obtain ⟨m, n, A, due, x, lc, S, rfl, _⟩ := h
    rfl
  · obtain ⟨m, n, A, due, x, lc, S, rfl, ⟨dx, lr, ras, hx, rs, hlc⟩, gd, k⟩ := h
    have m8 := gd.ins.m8
    refine ⟨_, (pss_one (ps_ret (pe_comp (NB := ["place", "column", "frame"]) (pick := [none, none, some 0]) (blk_mk (by with_unfolding_all rfl) (by exact (And.intro rfl trivial)) rfl (by decide +kernel) (by decide +kernel) (by rfl) (by rfl)) rfl
          (pi_enum (by rfl) T.b_enum (pa_cons (pe_fld (pv 0) rfl) pa_nil)) (fun _ _ _ => (show PG _ _ (gTup K 2 (gCons (gName 0) (gCons (gName 1) gNil))) from pg_tup rfl (pgs_cons (pg_name (i := 0) (show (["place", "column", "frame"] : List Str).Nodup from by decide +kernel) rfl (Or.inl rfl)) (pgs_cons (pg_name (i := 1) (show (["place", "column", "frame"] : List Str).Nodup from by decide +kernel) rfl (Or.inl rfl)) pgs_nil))))
          (fun _ _ _ => pif_one (pt_cmpR op_ge (pv 1) (pe_fldK K (pv 2) rfl) (nomark _))) (fun _ _ _ => (pv 0))))), ?_⟩
    refine ⟨_, rfl, x, FR, dx, _, _, rfl, hx, T.rFR.oc.cl, T.rFR.nc, rfl, lc, rfl, ⟨_, SqL.of hlc⟩, ?_⟩
    refine comp_enumG (xs := chV m S) (fun σ' => ∃ o0 o1 : Option V, σ' = [o0, o1, some (.ref x)]) (fun k' _ => if n ≤ S.ch k' then some (.int (k' : Int)) else none) ⟨_, _, rfl⟩ (SqL.of hlc) (by unfold chV; rw [lsV_len]; exact Nat.le_of_lt (small1000 (by omega))) (fun i y tt σ1 H2 kk kk0 hσ s2 hy ht h1 h2 => ?_) fun D H2 hD s2 hd => ?_
    · obtain ⟨o0, o1, rfl⟩ := hσ
      obtain ⟨hi, rfl⟩ := lsV_of hy
      refine ⟨tt, _, rfl, SqT.of ht, rfl, _, _, rfl, _, _, rfl, rfl, ?_⟩
      refine ⟨_, rfl, _, rfl, x, FR, dx, _, _, rfl, s2 _ _ hx, T.rFR.oc.cl, T.rFR.nm, rfl, _, _, rfl, rfl, _, rfl, ite2 (fun z => ?_) (fun z => ?_)⟩
      · have z' : n ≤ S.ch i := by have : ((n : Nat) : Int) ≤ ((S.ch i : Nat) : Int) := of_decide_eq_true z; omega
        exact ⟨_, rfl, h1 _ _ ⟨_, _, rfl⟩ (if_pos z') _ (.refl _)⟩
      · have z' : ¬ n ≤ S.ch i := fun y => z (decide_eq_true (by show ((n : Nat) : Int) ≤ ((S.ch i : Nat) : Int); omega))
        exact h2 _ ⟨_, _, rfl⟩ (if_neg z') _ (.refl _)
    · refine k D H2 hD s2 ?_
      rw [hd]
      have e : (chV m S).length = m := lsV_len _ _
      rw [e]
      congr 2
      unfold natV spL
      rw [← List.filterMap_eq_map, List.filterMap_filter]
      refine fm_congr fun i hi => ?_
      rw [List.getElem?_eq_getElem (by rw [e]; exact List.mem_range.mp hi)]
      show (if n ≤ S.ch i then some (V.int (i : Int)) else none) = if decide (n ≤ S.ch i) = true then some (V.int (i : Int)) else none
      by_cases z : n ≤ S.ch i
      · rw [if_pos z, if_pos (decide_eq_true z)]
      · rw [if_neg z, if_neg (fun y => z (of_decide_eq_true y))]
def spLvS (FR : Addr) : Sp := fun vs H Q _ => ∃ (m n : Nat) (A : Nat → Nat → Int) (due : Nat → Int) (x lc : Addr) (S : Wg.St), vs = [.ref x] ∧ FObj FR m n H x lc S ∧ Good m n A due S ∧ (∀ k, k < m → 0 ≤ S.R k (n + m)) ∧ (∀ k, k < m → n ≤ S.ch k → S.R k (n + m) = 0) ∧
  ∀ (S' : Wg.St) (H' : Hp), SB2 x lc H H' → FObj FR m n H' x lc S' → Good m n A due S' → (∀ k, k < m → 0 ≤ S'.R k (n + m)) → Wg.Clean m n S' → Q .non H'
structure Lvg (m n : Nat) (S : Wg.St) (ps : List Nat) : Prop where
  fe : ∀ k, k < m → 0 ≤ S.R k (n + m)
  z0 : ∀ k, k < m → n ≤ S.ch k → S.R k (n + m) = 0
  come : ∀ k ∈ ps, k < m ∧ n ≤ S.ch k
  done : ∀ k, k < m → n ≤ S.ch k → k ∉ ps → ∀ j, j < n → S.R k j = 0
  nd : ps.Nodup
theorem Lvg.skip {m n : Nat} {S : Wg.St} {p : Nat} {ps : List Nat} (h : Lvg m n S (p :: ps)) (r0 : ∀ j, j < n → S.R p j = 0) : Lvg m n S ps :=
  ⟨h.fe, h.z0, fun k hk => h.come k (List.mem_cons_of_mem _ hk), fun k hk sp no => by
    by_cases e : k = p
    · rw [e]; exact r0
    · exact h.done k hk sp (fun z => by rcases List.mem_cons.mp z with y | y <;> contradiction), (List.nodup_cons.mp h.nd).2⟩
theorem Lvg.go {m n : Nat} {M : Nat → Nat → Int} {S : Wg.St} {p q : Nat} {ps : List Nat} (h : Lvg m n S (p :: ps)) (ok : S.ok m M) (hq : q < n) (nz : S.R p q ≠ 0) : Lvg m n (S.next p q) ps := by
  obtain ⟨hp, spp⟩ := h.come p (List.mem_cons_self ..)
  obtain ⟨z1, z2⟩ := Wg.zero_next ok hp nz (h.z0 p hp spp) h.fe
  have nd := List.nodup_cons.mp h.nd
  have back : ∀ k, n ≤ (S.next p q).ch k → k ≠ p ∧ n ≤ S.ch k := fun k sp => by
    have ne : k ≠ p := fun e => by rw [e, Wg.St.next_chp] at sp; omega
    rw [Wg.St.next_chk ne] at sp
    exact ⟨ne, sp⟩
  refine ⟨z1, fun k hk sp => z2 k hk (h.z0 k hk (back k sp).2), fun k hk => ?_, fun k hk sp no => ?_, nd.2⟩
  · obtain ⟨a, b⟩ := h.come k (List.mem_cons_of_mem _ hk)
    have ne : k ≠ p := fun e => nd.1 (e ▸ hk)
    exact ⟨a, by rw [Wg.St.next_chk ne]; exact b⟩
  · obtain ⟨ne, sp'⟩ := back k sp
    exact Wg.row_next ok hp hq nz hk ne (h.done k hk sp' (fun z => by rcases List.mem_cons.mp z with y | y <;> contradiction))
def nzL (n : Nat) (f : Nat → Int) : List Nat := (List.range n).filter fun j => decide (f j ≠ 0)
theorem scLvS : FnScope ["frame", "place", "others"] ["frame"] (defScope sLvS) := ⟨rfl, rfl, rfl, by decide +kernel, rfl, by decide +kernel, by decide +kernel⟩
theorem ok_lvs {f1 : Addr} {fd1 : FuncData} (t : Tx K mg "leave_spares" sLvS ["frame"] f fd) (T : T K mg AL LN FR iF fCh fGM fCC fCA fPL SE NN NG NT NO NR NS) (D_spare_places : Df P w K mg base CX0 1 "spare_places" ["frame"] (spSpP FR) f1 fd1) (DH : Md P w K mg base 2 ["self", "place", "column"] (spCho FR) fCh) :
    Df P w K mg base CX0 3 "leave_spares" ["frame"] (spLvS FR) f fd := by
  refine t.df0 scLvS (fun vs H Q E h => ?_) (fun cdv _A outer s H vs Q E hr h => ?_)
  · obtain ⟨m, n, A, due, x, lc, S, rfl, _⟩ := h
    rfl
  · obtain ⟨m, n, A, due, x, lc, S, rfl, fo, gd, fe, z0, k⟩ := h
    have n70 := gd.ins.n70
    refine ⟨_, (pss_one (ps_for PassesOwn.never rfl (pi_list (pe_d0 D_spare_places hr (by decide) (by rfl) (pa_cons (pv 0) pa_nil))) (pg_name (i := 1) scLvS.nd rfl (by first | exact Or.inl rfl | exact Or.inr rfl))
        (pss_cons (ps_setC (NB := ["column", "frame", "place"]) (pick := [none, some 0, some 1]) (i := 2) scLvS.nd rfl (Or.inl rfl) (by rfl) (blk_mk (by with_unfolding_all rfl) (by exact (And.intro rfl (And.intro rfl trivial))) rfl (by decide +kernel) (by decide +kernel) (by rfl) (by rfl)) rfl
          (pi_range1 (by rfl) T.b_range (pa_cons (pe_fld (pv 0) rfl) pa_nil)) (fun _ _ _ => pg_name (i := 0) (show (["column", "frame", "place"] : List Str).Nodup from by decide +kernel) rfl (Or.inl rfl))
          (fun _ _ _ => pif_one (pt_cmpR op_ne (pe_ix (ix_listK K) (pe_ix (ix_listK K) (pe_fldK K (pv 1) rfl) (pv 2) (fun _ _ => rfl)) (pv 0) (fun _ _ => rfl)) pe_int (nomark _))) (fun _ _ _ => (pv 0)))
        (pss_one (ps_if (pt_cmpR op_gt (pe_callB call_len_seq (by rfl) T.b_len bt_len (pa_cons (pv 2) pa_nil)) pe_int (nomark _)) (pss_one (ps_expr (pe_methX (k := 2) pass_no (pv 0) hr (by decide) (pa_cons (pv 1) (pa_cons (pe_ix ix_list (pv 2) pe_int (fun _ _ => rfl)) pa_nil))))) pss_nil))))), ?_⟩
    refine ⟨_, rfl, m, n, A, due, x, lc, S, rfl, fo, gd, fun D H1 hD s1 hd => ⟨D, rfl, ⟨_, SqL.of hd⟩, ?_⟩⟩
    obtain ⟨dx0, lr0, ras0, hx0, rs0, hlc0⟩ := id fo
    have nDx : D ≠ x := fun z => by rw [z, hx0] at hD; cases hD
    have nDl : D ≠ lc := fun z => by rw [z, hlc0] at hD; cases hD
    refine for_list (xs := natV (spL m n S)) (fun i σ H2 => ∃ (S2 : Wg.St) (o1 o2 : Option V), σ = [some (.ref x), o1, o2] ∧ SB2 x lc H1 H2 ∧ FObj FR m n H2 x lc S2 ∧ Good m n A due S2 ∧ Lvg m n S2 ((spL m n S).drop i)) ⟨S, _, _, rfl, .refl _, fo.same s1, gd, ⟨fe, z0, fun k' hk' => spL_mem.mp hk', fun k' hk' sp no => absurd (spL_mem.mpr ⟨hk', sp⟩) no, List.nodup_range.filter _⟩⟩ (fun i σ H2 _ ⟨S2, o1, o2, _, sb, _⟩ => SqL.of (sb _ _ nDx nDl hd)) (fun i y σ H2 hy ⟨S2, o1, o2, eσ, sb, f2, g2, lv⟩ => ?_) (fun σ H2 ⟨S2, o1, o2, eσ, sb, f2, g2, lv⟩ => ?_)
    · subst eσ
      obtain ⟨p, ep, rfl⟩ := natV_of hy
      obtain ⟨hi, ep'⟩ := List.getElem?_eq_some_iff.mp ep
      rw [List.drop_eq_getElem_cons hi, ep'] at lv
      obtain ⟨hp, spp⟩ := lv.come p (List.mem_cons_self ..)
      obtain ⟨dx, lr, ras, hx, rs, hlc⟩ := id f2
      obtain ⟨rp, erp, arp, hrp⟩ := rs.get hp
      refine ⟨_, rfl, x, FR, dx, _, _, rfl, hx, T.rFR.oc.cl, T.rFR.nm, rfl, n, rfl, by omega, by omega, ?_⟩
      refine comp_rng (n := n) (fun j => if S2.R p j ≠ 0 then some (.int (j : Int)) else none) (Nat.le_of_lt (small1000 (by omega))) (fun j H3 kk kk0 s3 hj g1 g2 => ?_) fun D2 H3 hD2 s3 hd2 => ?_
      · refine ⟨_, rfl, x, FR, dx, _, _, rfl, s3 _ _ hx, T.rFR.oc.cl, T.rFR.nr, rfl, _, rfl, lr, _, _, _, rfl, rfl, SqL.of (s3 _ _ rs.hr), arp, _, rfl, rp, _, _, _, rfl, rfl, SqL.of (s3 _ _ hrp), (show atI (rowV m n S2 p) (0 + (j : Int)) = some (.int (S2.R p j)) by rw [Int.zero_add]; exact lsV_at (by omega)), rfl, _, rfl, ite2 (fun z => ?_) (fun z => ?_)⟩
        · have z' : S2.R p j ≠ 0 := fun y => by rw [y] at z; exact absurd z (by decide)
          exact ⟨_, rfl, g1 _ (by rw [if_pos z', Int.zero_add]) _ (.refl _)⟩
        · have z' : ¬ S2.R p j ≠ 0 := fun y => z (by rw [decide_eq_false (fun q => y (V.int.inj q))]; rfl)
          exact g2 (if_neg z') _ (.refl _)
      · have hd3 : H3 D2 = some (.lst (natV (nzL n (S2.R p)))) := by
          rw [hd2]
          congr 2
          unfold natV nzL
          rw [← List.filterMap_eq_map, List.filterMap_filter]
          refine fm_congr fun j hj => ?_
          by_cases z : S2.R p j ≠ 0
          · rw [if_pos z, if_pos (decide_eq_true z)]; rfl
          · rw [if_neg z, if_neg (fun y => z (of_decide_eq_true y))]
        refine ⟨_, rfl, D2, _, rfl, .inl (SqL.of hd3), _, _, rfl, rfl, _, rfl, ?_⟩
        cases en : nzL n (S2.R p) with
        | nil =>
          rw [en] at hd3
          refine ite2 (fun z => absurd z (by decide)) (fun _ => ⟨S2, _, _, rfl, sb.then s3, f2.same s3, g2, lv.skip fun j hj => Classical.byContradiction fun nz => ?_⟩)
          have : j ∈ nzL n (S2.R p) := List.mem_filter.mpr ⟨List.mem_range.mpr hj, decide_eq_true nz⟩
          rw [en] at this
          cases this
        | cons q qs =>
          rw [en] at hd3
          have hqm : q ∈ nzL n (S2.R p) := by rw [en]; exact List.mem_cons_self ..
          obtain ⟨hq, nz⟩ := List.mem_filter.mp hqm
          have hq := List.mem_range.mp hq
          have nz : S2.R p q ≠ 0 := of_decide_eq_true nz
          refine ite2 (fun _ => ?_) (fun z => absurd (decide_eq_true (by show (0 : Int) < (((natV (q :: qs)).length : Nat) : Int); exact Int.natCast_pos.mpr (Nat.succ_pos _))) z)
          refine ⟨_, rfl, x, FR, dx, _, fCh, _, rfl, s3 _ _ hx, rfl, T.rFR.oc.cl, T.rFR.mch, ⟨_, DH⟩, _, rfl, _, rfl, D2, _, _, _, rfl, rfl, SqL.of hd3, (show atI (natV (q :: qs)) ((0 : Nat) : Int) = some (.int (q : Int)) from atI_nat rfl), m, n, A, due, x, lc, S2, p, q, rfl, f2.same s3, g2, hp, hq, nz, fun H4 s4 f4 => ?_⟩
          exact ⟨S2.next p q, _, _, rfl, (sb.then s3).trans s4, f4, g2.next hp hq nz, lv.go g2.ok hq nz⟩
    · subst eσ
      have el : (natV (spL m n S)).length = (spL m n S).length := by unfold natV; rw [List.length_map]
      rw [el, List.drop_length] at lv
      exact k S2 H2 ((b2_of s1 x lc).trans sb) f2 g2 lv.fe fun k' hk' sp => ⟨lv.z0 k' hk' sp, lv.done k' hk' sp (List.not_mem_nil)⟩
abbrev frT (a d : Int) : HO := .tup [.int (a.fdiv (dv a d)), .int (d.fdiv (dv a d))]
theorem frT_zero {d : Int} (h : 0 < d) : frT 0 d = .tup [.int 0, .int 1] := by
  have e : dv 0 d = d := by
    unfold dv
    rw [if_neg (by omega), Int.gcd_zero_left]
    omega
  unfold frT
  rw [e, Int.zero_fdiv, Int.fdiv_self (by omega)]
theorem frT_one {d : Int} (h : 0 < d) : frT d d = .tup [.int 1, .int 1] := by
  have e : dv d d = d := by
    unfold dv
    rw [if_neg (by omega), Int.gcd_self]
    omega
  unfold frT
  rw [e, Int.fdiv_self (by omega)]
structure FrL (n : Nat) (X : Nat → Int) (d : Int) (H : Hp) (l : Addr) (ws : List Addr) : Prop where
  hr : H l = some (.lst (ws.map V.ref))
  len : ws.length = n
  at_ : ∀ j w, ws[j]? = some w → H w = some (frT (X j) d)
theorem FrL.same {n : Nat} {X : Nat → Int} {d : Int} {H H' : Hp} {l : Addr} {ws : List Addr} (h : FrL n X d H l ws) (s : Same H H') : FrL n X d H' l ws := ⟨s _ _ h.hr, h.len, fun j w e => s _ _ (h.at_ j w e)⟩
theorem FrL.ext {n : Nat} {X Y : Nat → Int} {d : Int} {H : Hp} {l : Addr} {ws : List Addr} (h : FrL n X d H l ws) (e : ∀ j, j < n → X j = Y j) : FrL n Y d H l ws := ⟨h.hr, h.len, fun j w ej => by
  obtain ⟨z, _⟩ := List.getElem?_eq_some_iff.mp ej
  rw [← e j (by rw [← h.len]; exact z)]
  exact h.at_ j w ej⟩
theorem FrL.put {n : Nat} {X : Nat → Int} {d : Int} {H : Hp} {l p : Addr} {ws : List Addr} (h : FrL n X d H l ws) {o : HO} {q : Nat} {a : Int} (ho : o = frT a d) (hp : H p = none) : FrL n (fun j => if j = q then a else X j) d (upd (upd H p o) l (.lst ((ws.map V.ref).set q (.ref p)))) l (ws.set q p) := by
  have npl : p ≠ l := fun z => by rw [z, h.hr] at hp; cases hp
  refine ⟨by rw [upd_same, List.map_set], by rw [List.length_set]; exact h.len, fun j w e => ?_⟩
  rw [List.getElem?_set] at e
  by_cases ej : q = j
  · rw [if_pos ej] at e
    by_cases ql : q < ws.length
    · rw [if_pos ql] at e
      cases e
      rw [upd_ne npl, upd_same, if_pos ej.symm, ho]
    · rw [if_neg ql] at e
      cases e
  · rw [if_neg ej] at e
    have z := h.at_ j w e
    have n1 : w ≠ l := ne_of z h.hr (by intro z; cases z)
    have n2 : w ≠ p := ne_of_none z hp
    rw [upd_ne n1, upd_ne n2, if_neg (fun y => ej y.symm)]
    exact z
theorem no_bad {b : Int} (a : Int) (hb : b ≠ 0) (z : isI (.int a) = false ∨ isI (.int b) = false ∨ V.int b = .int 0) : False := by
  rcases z with z | z | z
  · cases z
  · cases z
  · exact hb (V.int.inj z)
theorem mk_fr {K : PySem.W.Frag} {NN : Addr} {H : Hp} {a b : Int} {R : VK} {E : XK} (hb : b ≠ 0) (sb : Sm 8000 b) (k : ∀ p, H p = none → R (.ref p) (upd H p (frT a b))) : spFr K NN [.int a, .int b] H R E :=
  ⟨_, _, rfl, .int _, .int _, fun z => (no_bad a hb z).elim, fun a' b' h1 h2 _ => by
    cases h1
    cases h2
    exact ⟨sb, k⟩⟩
theorem wt_step {m i : Nat} {M : Nat → Nat → Int} {S : Wg.St} (ok : S.ok m M) (hi : i < m) (f : Nat → Int) (j : Nat) : Wg.wt (i + 1) f S j = if j = S.ch i then f i else Wg.wt i f S j := by
  show Wg.wt i f S j + (if S.ch i = j then f i else 0) = _
  by_cases e : j = S.ch i
  · rw [if_pos e, if_pos e.symm, Wg.wt_no f fun k hk z => ?_, Int.zero_add]
    have := Wg.Fr.inj ok (by omega) hi (z.trans e)
    omega
  · rw [if_neg e, if_neg (fun z => e z.symm), Int.add_zero]
theorem rep_refs (n : Nat) (t : Addr) : (List.replicate n [V.ref t]).flatten = (List.replicate n t).map V.ref := by
  induction n with
  | zero => rfl
  | succ n ih => rw [List.replicate_succ, List.flatten_cons, ih, List.replicate_succ]; rfl
theorem rep_ints (n : Nat) (v : Int) : (List.replicate n [V.int v]).flatten = lsV n fun _ => v := by
  unfold lsV
  induction n with
  | zero => rfl
  | succ n ih =>
    rw [List.replicate_succ, List.flatten_cons, ih]
    refine List.ext_getElem? fun i => ?_
    cases i with
    | zero => rw [List.getElem?_map, List.getElem?_range (by omega)]; rfl
    | succ i =>
      show ((List.range n).map fun _ => V.int v)[i]? = _
      rw [List.getElem?_map, List.getElem?_map]
      rcases Nat.lt_or_ge i n with h | h
      · rw [List.getElem?_range h, List.getElem?_range (by omega)]; rfl
      · rw [List.getElem?_eq_none (by rw [List.length_range]; exact h), List.getElem?_eq_none (by rw [List.length_range]; omega)]
def spWtO (FR : Addr) : Sp := fun vs H Q _ => ∃ (m n : Nat) (A : Nat → Nat → Int) (due : Nat → Int) (x lc : Addr) (S : Wg.St), vs = [.ref x] ∧ FObj FR m n H x lc S ∧ Good m n A due S ∧
  ∀ (l : Addr) (ws : List Addr) (H' : Hp), H l = none → Same H H' → FrL n (Wg.wt m (fun k => S.R k (n + m)) S) S.d H' l ws → Q (.ref l) H'
theorem scWtO : FnScope ["frame", "weights", "column", "row"] ["frame"] (defScope sWtO) := ⟨rfl, rfl, rfl, by decide +kernel, rfl, by decide +kernel, by decide +kernel⟩
theorem ok_wto {f1 : Addr} {fd1 : FuncData} (t : Tx K mg "weights_of" sWtO ["frame"] f fd) (T : T K mg AL LN FR iF fCh fGM fCC fCA fPL SE NN NG NT NO NR NS) (D_fraction : Df P w K mg base (CX1 P w) 2 "fraction" ["top", "bottom"] (spFr K NN) f1 fd1) : Df P w K mg base CX0 3 "weights_of" ["frame"] (spWtO FR) f fd := by
  refine t.df0 scWtO (fun vs H Q E h => ?_) (fun cdv _A outer s H vs Q E hr h => ?_)
  · obtain ⟨m, n, A, due, x, lc, S, rfl, _⟩ := h
    rfl
  · obtain ⟨m, n, A, due, x, lc, S, rfl, ⟨dx, lr, ras, hx, rs, hlc⟩, gd, k⟩ := h
    have m8 := gd.ins.m8
    have n70 := gd.ins.n70
    have d0 := Wg.Fr.pos gd.ok
    obtain ⟨sd, sR⟩ := gd.ins.size gd.ok
    refine ⟨_, (pss_cons (ps_set (i := 1) scWtO.nd rfl (Or.inl rfl) (pe_op op_rep (pe_lst (pa_cons (pe_tup (pa_cons pe_int (pa_cons pe_int pa_nil))) pa_nil)) (pe_fld (pv 0) rfl)))
      (pss_cons (ps_for PassesOwn.never rfl (pi_zip (by rfl) T.b_zip (pa_cons (pe_fld (pv 0) rfl) (pa_cons (pe_fld (pv 0) rfl) pa_nil))) (pg_tup rfl (pgs_cons (pg_name (i := 2) scWtO.nd rfl (Or.inl rfl)) (pgs_cons (pg_name (i := 3) scWtO.nd rfl (Or.inl rfl)) pgs_nil)))
        (pss_one (ps_if (pt_cmpR op_lt (pv 2) (pe_fld (pv 0) rfl) (nomark _)) (pss_one (ps_asg (pe_d1 pass_no D_fraction hr (by decide) (by rfl) (pa_cons (pe_ix ix_list (pv 3) (pe_un un_neg pe_int) (fun _ _ => rfl)) (pa_cons (pe_fld (pv 0) rfl) pa_nil))) (pg_sub (pv 1) (pv 2) set_list))) pss_nil)))
      (pss_one (ps_ret (pv 1))))), ?_⟩
    refine ⟨by show 2 ≤ sizeLine; decide, fun t0 ht0 => ⟨by show 1 ≤ sizeLine; decide, fun l0 hl0 => ?_⟩⟩
    have u0 := Same.upd_new (o := .tup [.int 0, .int 1]) ht0
    have e0 : upd H t0 (.tup [.int 0, .int 1]) t0 = some (.tup [.int 0, .int 1]) := upd_same
    generalize upd H t0 (.tup [.int 0, .int 1]) = H0 at u0 e0 hl0 ⊢
    have u1 := Same.upd_new (o := .lst [.ref t0]) hl0
    have e1 : upd H0 l0 (.lst [.ref t0]) l0 = some (.lst [.ref t0]) := upd_same
    generalize upd H0 l0 (.lst [.ref t0]) = H1 at u1 e1 ⊢
    have s1 := u0.trans u1
    refine ⟨_, rfl, x, FR, dx, _, _, rfl, s1 _ _ hx, T.rFR.oc.cl, T.rFR.nm, rfl, l0, _, _, rfl, rfl, e1, by omega, by omega, ?_, fun l hl => ?_⟩
    · show 1 * ((n : Int)).toNat ≤ sizeLine
      exact Nat.le_of_lt (small1000 (by omega))
    rw [Int.toNat_natCast, rep_refs]
    have u2 := Same.upd_new (o := .lst ((List.replicate n t0).map V.ref)) hl
    have e2 : upd H1 l (.lst ((List.replicate n t0).map V.ref)) l = _ := upd_same
    have et0 := u2 _ _ (u1 _ _ e0)
    generalize upd H1 l (.lst ((List.replicate n t0).map V.ref)) = H2 at u2 e2 et0 ⊢
    have s2 := s1.trans u2
    have hlc2 := s2 _ _ hlc
    have hlr2 := s2 _ _ rs.hr
    have hx2 := s2 _ _ hx
    have nlc : lc ≠ l := fun z => by rw [← z, s1 _ _ hlc] at hl; cases hl
    have nlr : lr ≠ l := fun z => by rw [← z, s1 _ _ rs.hr] at hl; cases hl
    have nx : x ≠ l := fun z => by rw [← z, s1 _ _ hx] at hl; cases hl
    refine ⟨_, rfl, x, FR, dx, _, _, rfl, hx2, T.rFR.oc.cl, T.rFR.nc, rfl, _, rfl, x, FR, dx, _, _, rfl, hx2, T.rFR.oc.cl, T.rFR.nr, rfl, lc, lr, rfl, ⟨_, SqL.of hlc2⟩, ⟨_, SqL.of hlr2⟩, ?_⟩
    refine for_zip (K := K) (l1 := lc) (l2 := lr) (xs := chV m S) (ys := ras.map V.ref) (fun i σ H3 => ∃ (ws : List Addr) (o2 o3 : Option V), σ = [some (.ref x), some (.ref l), o2, o3] ∧ SameBut l H2 H3 ∧ FrL n (Wg.wt i (fun k => S.R k (n + m)) S) S.d H3 l ws) ⟨List.replicate n t0, _, _, rfl, (Same.refl _).but l, e2, List.length_replicate .., fun j w e => ?_⟩ (fun i σ H3 _ ⟨ws, o2, o3, _, sb, _⟩ => ⟨SqL.of (sb _ _ nlc hlc2), SqL.of (sb _ _ nlr hlr2)⟩) (ch_row rs) (fun i y1 y2 tt σ H3 hy1 hy2 ht ⟨ws, o2, o3, eσ, sb, fl⟩ => ?_) (fun σ H3 ⟨ws, o2, o3, eσ, sb, fl⟩ => ?_)
    · obtain ⟨_, rfl⟩ := List.mem_replicate.mp (List.mem_of_getElem? e)
      show _ = some (frT 0 S.d)
      rw [frT_zero d0]
      exact et0
    · subst eσ
      obtain ⟨hi, rfl⟩ := lsV_of hy1
      obtain ⟨r, er, rfl⟩ := ref_of hy2
      have u4 := Same.upd_new (o := .tup [.int ((S.ch i : Nat) : Int), .ref r]) ht
      have e4 : upd H3 tt (.tup [.int ((S.ch i : Nat) : Int), .ref r]) tt = _ := upd_same
      generalize upd H3 tt (.tup [.int ((S.ch i : Nat) : Int), .ref r]) = H4 at u4 e4 ⊢
      have sb4 := sb.then u4
      have fl4 := fl.same u4
      refine ⟨tt, _, rfl, SqT.of e4, rfl, _, _, rfl, _, _, rfl, rfl, ?_⟩
      refine ⟨_, rfl, _, rfl, x, FR, dx, _, _, rfl, sb4 _ _ nx hx2, T.rFR.oc.cl, T.rFR.nm, rfl, _, _, rfl, rfl, _, rfl, ite2 (fun z => ?_) (fun z => ?_)⟩
      · have hc : S.ch i < n := by have : ((S.ch i : Nat) : Int) < ((n : Nat) : Int) := of_decide_eq_true z; omega
        have hrow := s2 _ _ (rs.at_ i r er)
        have nrl : r ≠ l := ne_of_none (s1 _ _ (rs.at_ i r er)) hl
        refine ⟨_, rfl, _, rfl, r, _, _, _, rfl, rfl, SqL.of (sb4 _ _ nrl hrow), lsV_last (n + m) _, _, rfl, x, FR, dx, _, _, rfl, sb4 _ _ nx hx2, T.rFR.oc.cl, T.rFR.nb, rfl, ?_⟩
        dsimp only [tNil, List.cons_append, List.nil_append]
        refine mk_fr (by omega) (sd.mono (by decide)) fun p hp => ?_
        have npl : p ≠ l := fun z => by rw [z, fl4.hr] at hp; cases hp
        refine ⟨_, rfl, _, rfl, l, _, _, S.ch i, rfl, rfl, (upd_ne (fun z => npl z.symm)).trans fl4.hr, by rw [List.length_map, fl4.len]; exact ixN_nat hc, ?_⟩
        refine ⟨ws.set (S.ch i) p, _, _, rfl, (sb4.then (.upd_new hp)).updx _, (fl4.put rfl hp).ext fun j hj => ?_⟩
        rw [wt_step gd.ok hi]
      · have hc : ¬ S.ch i < n := fun y => z (decide_eq_true (by show ((S.ch i : Nat) : Int) < ((n : Nat) : Int); omega))
        refine ⟨ws, _, _, rfl, sb4, fl4.ext fun j hj => ?_⟩
        rw [wt_step gd.ok hi, if_neg (by omega)]
    · subst eσ
      rw [show (chV m S).length = m from lsV_len _ _] at fl
      exact ⟨_, rfl, k l ws H3 (s1.free hl) (fun b o e => sb b o (fun z => by rw [z] at e; rw [s1 _ _ e] at hl; cases hl) (s2 _ _ e)) fl⟩
def spWyO (FR : Addr) : Sp := fun vs H Q _ => ∃ (m n : Nat) (A : Nat → Nat → Int) (due : Nat → Int) (x lc : Addr) (S : Wg.St) (q : Nat), vs = [.ref x, .int (q : Int)] ∧ FObj FR m n H x lc S ∧ Good m n A due S ∧ q < n ∧
  ∀ (l : Addr) (ws : List Addr) (H' : Hp), H l = none → Same H H' → FrL n (Wg.way m q S) S.d H' l ws → Q (.ref l) H'
theorem scWyO : FnScope ["frame", "growing", "way", "column", "row"] ["frame", "growing"] (defScope sWyO) := ⟨rfl, rfl, rfl, by decide +kernel, rfl, by decide +kernel, by decide +kernel⟩
theorem ok_wyo {f1 : Addr} {fd1 : FuncData} (t : Tx K mg "way_of" sWyO ["frame", "growing"] f fd) (T : T K mg AL LN FR iF fCh fGM fCC fCA fPL SE NN NG NT NO NR NS) (D_fraction : Df P w K mg base (CX1 P w) 2 "fraction" ["top", "bottom"] (spFr K NN) f1 fd1) : Df P w K mg base CX0 3 "way_of" ["frame", "growing"] (spWyO FR) f fd := by
  refine t.df0 scWyO (fun vs H Q E h => ?_) (fun cdv _A outer s H vs Q E hr h => ?_)
  · obtain ⟨m, n, A, due, x, lc, S, q, rfl, _⟩ := h
    rfl
  · obtain ⟨m, n, A, due, x, lc, S, q, rfl, ⟨dx, lr, ras, hx, rs, hlc⟩, gd, hq, k⟩ := h
    have m8 := gd.ins.m8
    have n70 := gd.ins.n70
    have d0 := Wg.Fr.pos gd.ok
    obtain ⟨sd, sR⟩ := gd.ins.size gd.ok
    refine ⟨_, (pss_cons (ps_set (i := 2) scWyO.nd rfl (Or.inl rfl) (pe_op op_rep (pe_lst (pa_cons (pe_tup (pa_cons pe_int (pa_cons pe_int pa_nil))) pa_nil)) (pe_fld (pv 0) rfl)))
      (pss_cons (ps_for PassesOwn.never rfl (pi_zip (by rfl) T.b_zip (pa_cons (pe_fld (pv 0) rfl) (pa_cons (pe_fld (pv 0) rfl) pa_nil))) (pg_tup rfl (pgs_cons (pg_name (i := 3) scWyO.nd rfl (Or.inl rfl)) (pgs_cons (pg_name (i := 4) scWyO.nd rfl (Or.inl rfl)) pgs_nil)))
        (pss_one (ps_if (pt_cmpR op_lt (pv 3) (pe_fld (pv 0) rfl) (nomark _)) (pss_one (ps_asg (pe_d1 pass_no D_fraction hr (by decide) (by rfl) (pa_cons (pe_un un_neg (pe_ix ix_list (pv 4) (pv 1) (fun _ _ => rfl))) (pa_cons (pe_fld (pv 0) rfl) pa_nil))) (pg_sub (pv 2) (pv 3) set_list))) pss_nil)))
      (pss_cons (ps_asg (pe_tup (pa_cons pe_int (pa_cons pe_int pa_nil))) (pg_sub (pv 2) (pv 1) set_list))
      (pss_one (ps_ret (pv 2)))))), ?_⟩
    refine ⟨by show 2 ≤ sizeLine; decide, fun t0 ht0 => ⟨by show 1 ≤ sizeLine; decide, fun l0 hl0 => ?_⟩⟩
    have u0 := Same.upd_new (o := .tup [.int 0, .int 1]) ht0
    have e0 : upd H t0 (.tup [.int 0, .int 1]) t0 = some (.tup [.int 0, .int 1]) := upd_same
    generalize upd H t0 (.tup [.int 0, .int 1]) = H0 at u0 e0 hl0 ⊢
    have u1 := Same.upd_new (o := .lst [.ref t0]) hl0
    have e1 : upd H0 l0 (.lst [.ref t0]) l0 = some (.lst [.ref t0]) := upd_same
    generalize upd H0 l0 (.lst [.ref t0]) = H1 at u1 e1 ⊢
    have s1 := u0.trans u1
    refine ⟨_, rfl, x, FR, dx, _, _, rfl, s1 _ _ hx, T.rFR.oc.cl, T.rFR.nm, rfl, l0, _, _, rfl, rfl, e1, by omega, by omega, ?_, fun l hl => ?_⟩
    · show 1 * ((n : Int)).toNat ≤ sizeLine
      exact Nat.le_of_lt (small1000 (by omega))
    rw [Int.toNat_natCast, rep_refs]
    have u2 := Same.upd_new (o := .lst ((List.replicate n t0).map V.ref)) hl
    have e2 : upd H1 l (.lst ((List.replicate n t0).map V.ref)) l = _ := upd_same
    have et0 := u2 _ _ (u1 _ _ e0)
    generalize upd H1 l (.lst ((List.replicate n t0).map V.ref)) = H2 at u2 e2 et0 ⊢
    have s2 := s1.trans u2
    have hlc2 := s2 _ _ hlc
    have hlr2 := s2 _ _ rs.hr
    have hx2 := s2 _ _ hx
    have nlc : lc ≠ l := fun z => by rw [← z, s1 _ _ hlc] at hl; cases hl
    have nlr : lr ≠ l := fun z => by rw [← z, s1 _ _ rs.hr] at hl; cases hl
    have nx : x ≠ l := fun z => by rw [← z, s1 _ _ hx] at hl; cases hl
    refine ⟨_, rfl, x, FR, dx, _, _, rfl, hx2, T.rFR.oc.cl, T.rFR.nc, rfl, _, rfl, x, FR, dx, _, _, rfl, hx2, T.rFR.oc.cl, T.rFR.nr, rfl, lc, lr, rfl, ⟨_, SqL.of hlc2⟩, ⟨_, SqL.of hlr2⟩, ?_⟩
    refine for_zip (K := K) (l1 := lc) (l2 := lr) (xs := chV m S) (ys := ras.map V.ref) (fun i σ H3 => ∃ (ws : List Addr) (o2 o3 : Option V), σ = [some (.ref x), some (.int (q : Int)), some (.ref l), o2, o3] ∧ SameBut l H2 H3 ∧ FrL n (Wg.wt i (fun k => - S.R k q) S) S.d H3 l ws) ⟨List.replicate n t0, _, _, rfl, (Same.refl _).but l, e2, List.length_replicate .., fun j w e => ?_⟩ (fun i σ H3 _ ⟨ws, o2, o3, _, sb, _⟩ => ⟨SqL.of (sb _ _ nlc hlc2), SqL.of (sb _ _ nlr hlr2)⟩) (ch_row rs) (fun i y1 y2 tt σ H3 hy1 hy2 ht ⟨ws, o2, o3, eσ, sb, fl⟩ => ?_) (fun σ H3 ⟨ws, o2, o3, eσ, sb, fl⟩ => ?_)
    · obtain ⟨_, rfl⟩ := List.mem_replicate.mp (List.mem_of_getElem? e)
      show _ = some (frT 0 S.d)
      rw [frT_zero d0]
      exact et0
    · subst eσ
      obtain ⟨hi, rfl⟩ := lsV_of hy1
      obtain ⟨r, er, rfl⟩ := ref_of hy2
      have u4 := Same.upd_new (o := .tup [.int ((S.ch i : Nat) : Int), .ref r]) ht
      have e4 : upd H3 tt (.tup [.int ((S.ch i : Nat) : Int), .ref r]) tt = _ := upd_same
      generalize upd H3 tt (.tup [.int ((S.ch i : Nat) : Int), .ref r]) = H4 at u4 e4 ⊢
      have sb4 := sb.then u4
      have fl4 := fl.same u4
      refine ⟨tt, _, rfl, SqT.of e4, rfl, _, _, rfl, _, _, rfl, rfl, ?_⟩
      refine ⟨_, rfl, _, rfl, x, FR, dx, _, _, rfl, sb4 _ _ nx hx2, T.rFR.oc.cl, T.rFR.nm, rfl, _, _, rfl, rfl, _, rfl, ite2 (fun z => ?_) (fun z => ?_)⟩
      · have hc : S.ch i < n := by have : ((S.ch i : Nat) : Int) < ((n : Nat) : Int) := of_decide_eq_true z; omega
        have hrow := s2 _ _ (rs.at_ i r er)
        have nrl : r ≠ l := ne_of_none (s1 _ _ (rs.at_ i r er)) hl
        refine ⟨_, rfl, _, rfl, r, _, _, _, rfl, rfl, SqL.of (sb4 _ _ nrl hrow), lsV_at (by omega), _, rfl, _, rfl, x, FR, dx, _, _, rfl, sb4 _ _ nx hx2, T.rFR.oc.cl, T.rFR.nb, rfl, ?_⟩
        dsimp only [tNil, List.cons_append, List.nil_append]
        refine mk_fr (by omega) (sd.mono (by decide)) fun p hp => ?_
        have npl : p ≠ l := fun z => by rw [z, fl4.hr] at hp; cases hp
        refine ⟨_, rfl, _, rfl, l, _, _, S.ch i, rfl, rfl, (upd_ne (fun z => npl z.symm)).trans fl4.hr, by rw [List.length_map, fl4.len]; exact ixN_nat hc, ?_⟩
        refine ⟨ws.set (S.ch i) p, _, _, rfl, (sb4.then (.upd_new hp)).updx _, (fl4.put rfl hp).ext fun j hj => ?_⟩
        rw [wt_step gd.ok hi]
      · have hc : ¬ S.ch i < n := fun y => z (decide_eq_true (by show ((S.ch i : Nat) : Int) < ((n : Nat) : Int); omega))
        refine ⟨ws, _, _, rfl, sb4, fl4.ext fun j hj => ?_⟩
        rw [wt_step gd.ok hi, if_neg (by omega)]
    · subst eσ
      rw [show (chV m S).length = m from lsV_len _ _] at fl
      refine ⟨by show 2 ≤ sizeLine; decide, fun p hp => ?_⟩
      have npl : p ≠ l := fun z => by rw [z, fl.hr] at hp; cases hp
      refine ⟨_, rfl, _, rfl, l, _, _, q, rfl, rfl, (upd_ne (fun z => npl z.symm)).trans fl.hr, by rw [List.length_map, fl.len]; exact ixN_nat hq, ?_⟩
      have f5 := fl.put (q := q) (a := S.d) (frT_one d0).symm hp
      refine ⟨_, rfl, k l _ _ (s1.free hl) (fun b o e => ?_) (f5.ext fun j hj => rfl)⟩
      have nb : b ≠ l := fun z => by rw [z] at e; rw [s1 _ _ e] at hl; cases hl
      rw [upd_ne nb]
      exact Same.upd_new hp _ _ (sb b o nb (s2 _ _ e))
theorem sm_Sm {a : Nat} {f : Nat → Int} : ∀ m, (∀ k, k < m → Sm a (f k)) → Sm (a + m) (Wg.sm m f)
  | 0, _ => Sm.zero
  | m + 1, h => (sm_Sm m fun k hk => h k (by omega)).add ((h m (by omega)).mono (by omega))
def spPrO (FR : Addr) : Sp := fun vs H Q _ => ∃ (m n : Nat) (A : Nat → Nat → Int) (due : Nat → Int) (c : Nat → Int) (x lc pg pd : Addr) (S : Wg.St), vs = [.ref x, .ref pg, .ref pd] ∧ FObj FR m n H x lc S ∧ Good m n A due S ∧ Gns m n c H pg ∧ H pd = some (.lst (lsV m due)) ∧
  ∀ (l : Addr) (ws : List Addr) (H' : Hp), H l = none → Same H H' → FrL m (fun i => Wg.sgn (due i) * Wg.price m n c S i) S.d H' l ws → Q (.ref l) H'
theorem scPrO : FnScope ["frame", "gains", "due", "prices", "place", "number", "column", "price"] ["frame", "gains", "due"] (defScope sPrO) := ⟨rfl, rfl, rfl, by decide +kernel, rfl, by decide +kernel, by decide +kernel⟩
theorem ok_pro {f1 f2 : Addr} {fd1 fd2 : FuncData} (t : Tx K mg "prices_of" sPrO ["frame", "gains", "due"] f fd) (T : T K mg AL LN FR iF fCh fGM fCC fCA fPL SE NN NG NT NO NR NS) (D_fraction : Df P w K mg base (CX1 P w) 2 "fraction" ["top", "bottom"] (spFr K NN) f1 fd1) (D_sign_of : Df P w K mg base CX0 1 "sign_of" ["number"] spSgn f2 fd2) : Df P w K mg base CX0 3 "prices_of" ["frame", "gains", "due"] (spPrO FR) f fd := by
  refine t.df0 scPrO (fun vs H Q E h => ?_) (fun cdv _A outer s H vs Q E hr h => ?_)
  · obtain ⟨m, n, A, due, c, x, lc, pg, pd, S, rfl, _⟩ := h
    rfl
  · obtain ⟨m, n, A, due, c, x, lc, pg, pd, S, rfl, fo, gd, gn, hpd, k⟩ := h
    have m8 := gd.ins.m8
    have n70 := gd.ins.n70
    have d0 := Wg.Fr.pos gd.ok
    obtain ⟨sd, sR⟩ := gd.ins.size gd.ok
    obtain ⟨dx, lr, ras, hx, rs, hlc⟩ := id fo
    refine ⟨_, (pss_cons (ps_set (i := 3) scPrO.nd rfl (Or.inl rfl) (pe_lst pa_nil))
      (pss_cons (ps_for PassesOwn.never rfl (pi_enum (by rfl) T.b_enum (pa_cons (pv 2) pa_nil)) (pg_tup rfl (pgs_cons (pg_name (i := 4) scPrO.nd rfl (Or.inl rfl)) (pgs_cons (pg_name (i := 5) scPrO.nd rfl (Or.inl rfl)) pgs_nil)))
        (pss_cons (ps_set (i := 6) scPrO.nd rfl (by first | exact Or.inl rfl | exact Or.inr rfl) (pe_op op_add (pe_fld (pv 0) rfl) (pv 4)))
        (pss_cons (ps_set (i := 7) scPrO.nd rfl (Or.inl rfl) (pe_callB (call_sum rfl) (by rfl) T.b_sum bt_sum (pa_cons (pe_comp (NB := ["chosen", "row", "column", "gains"]) (pick := [none, none, some 6, some 1]) (blk_mk (by with_unfolding_all rfl) (by exact (And.intro rfl (And.intro rfl trivial))) rfl (by decide +kernel) (by decide +kernel) (by rfl) (by rfl)) rfl
          (pi_zip (by rfl) T.b_zip (pa_cons (pe_fld (pv 0) rfl) (pa_cons (pe_fld (pv 0) rfl) pa_nil))) (fun _ _ _ => (show PG _ _ (gTup K 2 (gCons (gName 0) (gCons (gName 1) gNil))) from pg_tup rfl (pgs_cons (pg_name (i := 0) (show (["chosen", "row", "column", "gains"] : List Str).Nodup from by decide +kernel) rfl (Or.inl rfl)) (pgs_cons (pg_name (i := 1) (show (["chosen", "row", "column", "gains"] : List Str).Nodup from by decide +kernel) rfl (Or.inl rfl)) pgs_nil))))
          (fun _ _ _ => pif_nil) (fun _ _ _ => (pe_op op_mulB (pe_ix (ix_listK K) (pv 3) (pv 0) (fun _ _ => rfl)) (pe_ix (ix_listK K) (pv 1) (pv 2) (fun _ _ => rfl))))) pa_nil)))
        (pss_one (ps_expr (pe_bm PySem.F.plainAttrs_list PySem.F.slot_list_append PySem.F.type_list_append mt_appendR (pv 3) (pa_cons (pe_d1 pass_no D_fraction hr (by decide) (by rfl) (pa_cons (pe_op op_mulB (pe_d0 D_sign_of hr (by decide) (by rfl) (pa_cons (pv 5) pa_nil)) (pv 7)) (pa_cons (pe_fld (pv 0) rfl) pa_nil))) pa_nil)))))))
      (pss_one (ps_ret (pv 3))))), ?_⟩
    refine ⟨by show 0 ≤ sizeLine; decide, fun l hl => ?_⟩
    have u1 := Same.upd_new (o := .lst []) hl
    have e1 : upd H l (.lst []) l = some (.lst []) := upd_same
    generalize upd H l (.lst []) = H1 at u1 e1 ⊢
    have npd : pd ≠ l := ne_of_none hpd hl
    have npg : pg ≠ l := ne_of_none gn.hg hl
    have nx : x ≠ l := ne_of_none hx hl
    have nlc : lc ≠ l := ne_of_none hlc hl
    have nlr : lr ≠ l := ne_of_none rs.hr hl
    refine ⟨_, rfl, pd, rfl, ⟨_, SqL.of (u1 _ _ hpd)⟩, ?_⟩
    refine for_enum (xs := lsV m due) (fun i σ H2 => ∃ (ws : List Addr) (o4 o5 o6 o7 : Option V), σ = [some (.ref x), some (.ref pg), some (.ref pd), some (.ref l), o4, o5, o6, o7] ∧ SameBut l H H2 ∧ FrL i (fun i => Wg.sgn (due i) * Wg.price m n c S i) S.d H2 l ws) ⟨[], _, _, _, _, rfl, u1.but l, e1, rfl, fun j w e => by cases e⟩ (fun i σ H2 _ ⟨ws, o4, o5, o6, o7, _, sb, _⟩ => SqL.of (sb _ _ npd hpd)) (fun i y tt σ H2 hy ht ⟨ws, o4, o5, o6, o7, eσ, sb, fl⟩ => ?_) (fun σ H2 ⟨ws, o4, o5, o6, o7, eσ, sb, fl⟩ => ?_)
    · subst eσ
      obtain ⟨hi, rfl⟩ := lsV_of hy
      have u2 := Same.upd_new (o := .tup [.int (i : Int), .int (due i)]) ht
      have e2 : upd H2 tt (.tup [.int (i : Int), .int (due i)]) tt = _ := upd_same
      generalize upd H2 tt (.tup [.int (i : Int), .int (due i)]) = H3 at u2 e2 ⊢
      have sb3 := sb.then u2
      have fl3 := fl.same u2
      have hx3 := sb3 _ _ nx hx
      refine ⟨tt, _, rfl, SqT.of e2, rfl, _, _, rfl, _, _, rfl, rfl, ?_⟩
      refine ⟨_, rfl, x, FR, dx, _, _, rfl, hx3, T.rFR.oc.cl, T.rFR.nm, rfl, _, rfl, _, _, rfl, rfl, ?_⟩
      refine ⟨_, rfl, x, FR, dx, _, _, rfl, hx3, T.rFR.oc.cl, T.rFR.nc, rfl, _, rfl, x, FR, dx, _, _, rfl, hx3, T.rFR.oc.cl, T.rFR.nr, rfl, lc, lr, rfl, ⟨_, SqL.of (sb3 _ _ nlc hlc)⟩, ⟨_, SqL.of (sb3 _ _ nlr rs.hr)⟩, ?_⟩
      refine comp_zipG (xs := chV m S) (ys := ras.map V.ref) (fun σ' => ∃ o0 o1 : Option V, σ' = [o0, o1, some (.int ((n : Int) + (i : Int))), some (.ref pg)]) (fun k' _ _ => some (.int (c (S.ch k') * S.R k' (n + i)))) ⟨_, _, rfl⟩ (SqL.of (sb3 _ _ nlc hlc)) (SqL.of (sb3 _ _ nlr rs.hr)) (ch_row rs) (by unfold chV; rw [lsV_len]; exact Nat.le_of_lt (small1000 (by omega))) (fun k' x' y' tt2 σ1 H4 kk kk0 hσ s4 hx' hy' ht2 h1 h2 => ?_) fun D H4 hD s4 hd => ?_
      · obtain ⟨o0, o1, rfl⟩ := hσ
        obtain ⟨hk', rfl⟩ := lsV_of hx'
        obtain ⟨r, er, rfl⟩ := ref_of hy'
        have hch := gd.ch k' hk'
        have nrl : r ≠ l := ne_of_none (rs.at_ k' r er) hl
        refine ⟨tt2, _, rfl, SqT.of ht2, rfl, _, _, rfl, _, _, rfl, rfl, ?_⟩
        refine ⟨_, rfl, _, rfl, pg, _, _, _, rfl, rfl, SqL.of (s4 _ _ (sb3 _ _ npg gn.hg)), lsV_at hch, _, rfl, _, rfl, r, _, _, _, rfl, rfl, SqL.of (s4 _ _ (sb3 _ _ nrl (rs.at_ k' r er))), (show atI (rowV m n S k') ((n : Int) + (i : Int)) = some (.int (S.R k' (n + i))) by rw [← Int.natCast_add]; exact lsV_at (by omega)), _, _, rfl, rfl, (gn.sz _).mb (sR k' hk' _), h1 _ _ ⟨_, _, rfl⟩ rfl _ (.refl _)⟩
      · have hd' : H4 D = some (.lst (((List.range m).map fun k' => c (S.ch k') * S.R k' (n + i)).map V.int)) := by
          have e : (chV m S).length = m := lsV_len _ _
          rw [hd, e, fm_ls2 _ e (by rw [List.length_map, rs.len]), List.map_map]
          rfl
        refine ⟨D, _, rfl, .inl (SqL.of hd'), ?_⟩
        rw [sum_range]
        have sp : Sm 200000 (Wg.price m n c S i) := (sm_Sm (a := 106000) m fun k' hk' => ((gn.sz _).mul (sR k' hk' _)).mono (by decide)).mono (by omega)
        have fl4 := fl3.same s4
        have sb4 := sb3.then s4
        refine ⟨_, rfl, .inl ⟨rfl, _, SqL.of fl4.hr⟩, ?_⟩
        refine ⟨_, rfl, _, rfl, _, rfl, _, _, rfl, rfl, (sgn_sm _).mb sp, _, rfl, x, FR, dx, _, _, rfl, sb4 _ _ nx hx, T.rFR.oc.cl, T.rFR.nb, rfl, ?_⟩
        dsimp only [tNil, List.cons_append, List.nil_append]
        refine mk_fr (by omega) (sd.mono (by decide)) fun p hp => ?_
        have npl : p ≠ l := fun z => by rw [z, fl4.hr] at hp; cases hp
        refine ⟨l, _, _, rfl, rfl, (upd_ne (fun z => npl z.symm)).trans fl4.hr, by rw [List.length_map, fl4.len]; exact small1000 (by omega), ?_⟩
        refine ⟨ws ++ [p], _, _, _, _, rfl, (sb4.then (.upd_new hp)).updx _, by rw [upd_same, List.map_append]; rfl, by rw [List.length_append, fl4.len]; rfl, fun j w e => ?_⟩
        rcases Nat.lt_or_ge j ws.length with z1 | z1
        · rw [List.getElem?_append_left z1] at e
          have z := fl4.at_ j w e
          rw [upd_ne (ne_of z fl4.hr (by intro z; cases z)), upd_ne (ne_of_none z hp)]
          exact z
        · rw [List.getElem?_append_right z1] at e
          obtain ⟨rfl, rfl⟩ : j = i ∧ p = w := by
            rcases Nat.eq_zero_or_pos (j - ws.length) with q | q
            · rw [q] at e
              exact ⟨by rw [fl4.len] at z1 q; omega, Option.some.inj e⟩
            · rw [List.getElem?_eq_none (by show 1 ≤ _; omega)] at e
              cases e
          rw [upd_ne npl, upd_same]
          rfl
    · subst eσ
      rw [lsV_len] at fl
      exact ⟨_, rfl, k l ws H2 hl (fun b o e => sb b o (ne_of_none e hl) e) fl⟩
def numB (lo hi : Nat) (xs : List V) : Bool := decide (lo ≤ xs.length) && decide (xs.length ≤ hi) && xs.all isI
def spAreN (K : PySem.W.Frag) : Sp := fun vs H Q _ => ∃ (p : Addr) (xs : List V) (lo hi : Nat), vs = [.ref p, .int (lo : Int), .int (hi : Int)] ∧ H p = some (.lst xs) ∧ (∀ v ∈ xs, Pl K H v) ∧ xs.length ≤ 1000 ∧ ∀ H', Same H H' → Q (.bl (numB lo hi xs)) H'
theorem scAreN : FnScope ["thing", "least", "most"] ["thing", "least", "most"] (defScope sAreN) := ⟨rfl, rfl, rfl, by decide +kernel, rfl, by decide +kernel, by decide +kernel⟩
theorem ok_aren {f1 : Addr} {fd1 : FuncData} (t : Tx K mg "are_numbers" sAreN ["thing", "least", "most"] f fd) (T : T K mg AL LN FR iF fCh fGM fCC fCA fPL SE NN NG NT NO NR NS) (D_is_number : Df P w K mg base CX0 1 "is_number" ["thing"] (spNum K) f1 fd1) :
    Df P w K mg base CX0 2 "are_numbers" ["thing", "least", "most"] (spAreN K) f fd := by
  refine t.df0 scAreN (fun vs H Q E h => ?_) (fun cdv _A outer s H vs Q E hr h => ?_)
  · obtain ⟨p, xs, lo, hi, rfl, _⟩ := h
    rfl
  · obtain ⟨p, xs, lo, hi, rfl, hp, pl, hlen, k⟩ := h
    refine ⟨_, (pss_cons (ps_if (PW.pt (pw_or (pt_not (pt_val (pe_callB call_isi (by rfl) T.b_isi bt_isi (pa_cons (pv 0) (pa_cons (pe_bltn (v := .ty "list") (by rfl) T.b_list bt_list rfl) pa_nil))))) (pw_or1 (pt_not (pt_chain op_le op_le (pv 1) (pe_callB call_len_seq (by rfl) T.b_len bt_len (pa_cons (pv 0) pa_nil)) (pv 2)))))) (pss_one (ps_ret pe_bl)) pss_nil)
      (pss_one (ps_ret (pe_callB (call_all rfl) (by rfl) T.b_all bt_all (pa_cons (pe_comp (NB := ["number"]) (pick := [none]) (blk_mk (by with_unfolding_all rfl) (by exact trivial) rfl (by decide +kernel) (by decide +kernel) (by rfl) (by rfl)) rfl
          (pi_list (pv 0)) (fun _ _ _ => pg_name (i := 0) (show (["number"] : List Str).Nodup from by decide +kernel) rfl (Or.inl rfl))
          (fun _ _ _ => pif_nil) (fun _ _ _ => (pe_d0 D_is_number hr (by decide) (by rfl) (pa_cons (pv 0) pa_nil)))) pa_nil))))), ?_⟩
    refine ⟨_, rfl, .ref p, .ty "list", _, _, _, rfl, rfl, .of (.lst hp), Kd.lst.list_ K, _, rfl, iteF ?_⟩
    have out : numB lo hi xs = false → ∀ H', Same H H' → Q (.bl false) H' := fun e H' s' => by
      have z := k H' s'
      rw [e] at z
      exact z
    refine ⟨_, rfl, _, rfl, p, _, rfl, .inl (SqL.of hp), _, _, rfl, rfl, _, rfl, ?_⟩
    refine ite2 (fun z1 => ?_) (fun z1 => ?_)
    · have h1 : lo ≤ xs.length := by have : ((lo : Nat) : Int) ≤ ((xs.length : Nat) : Int) := of_decide_eq_true z1; omega
      refine ⟨_, rfl, _, _, rfl, rfl, _, rfl, ?_⟩
      cases e2 : decide (((xs.length : Nat) : Int) ≤ ((hi : Nat) : Int)) with
      | false =>
        refine iteT (out ?_ H (.refl _))
        have : ¬ xs.length ≤ hi := fun y => (of_decide_eq_false e2) (by omega)
        unfold numB
        rw [decide_eq_false this, Bool.and_false, Bool.false_and]
      | true =>
        have h2 : xs.length ≤ hi := by have := of_decide_eq_true e2; omega
        refine iteF ⟨_, rfl, p, rfl, ⟨xs, SqL.of hp⟩, ?_⟩
        refine comp_lst (xs := xs) (fun _ x => some (.bl (isI x))) (SqL.of hp) (Nat.le_of_lt (small1000 hlen)) (fun i x H2 kk kk0 s2 hx h1 h2 => ?_) fun D H2 hD s2 hd => ?_
        · exact ⟨_, rfl, x, rfl, (pl x (List.mem_of_getElem? hx)).same s2, h1 _ rfl _ (.refl _)⟩
        · have ed : ((List.range xs.length).filterMap fun i => (xs[i]?).bind fun x => some (V.bl (isI x))) = (xs.map isI).map V.bl := by
            rw [List.map_map, ← fm_mapV]
            rfl
          rw [ed] at hd
          refine ⟨D, _, rfl, SqL.of hd, ?_⟩
          have ea : (xs.map isI).all id = numB lo hi xs := by
            unfold numB
            rw [List.all_map, decide_eq_true h1, decide_eq_true h2]
            rfl
          rw [ea]
          exact k H2 s2
    · refine ⟨_, rfl, iteT (out ?_ H (.refl _))⟩
      have : ¬ lo ≤ xs.length := fun y => z1 (decide_eq_true (by show ((lo : Nat) : Int) ≤ ((xs.length : Nat) : Int); omega))
      unfold numB
      rw [decide_eq_false this, Bool.false_and, Bool.false_and]
structure RwAt (K : PySem.W.Frag) (H : Hp) (pc pd pg : Addr) (cs : List Addr) (col : Nat → List V) (ds gs : List V) : Prop where
  hc : H pc = some (.lst (cs.map V.ref))
  lc : cs.length ≤ 1000
  at_ : ∀ j c, cs[j]? = some c → H c = some (.lst (col j)) ∧ (∀ v ∈ col j, Pl K H v) ∧ (col j).length ≤ 1000
  hd : H pd = some (.lst ds)
  pld : ∀ v ∈ ds, Pl K H v
  ld : ds.length ≤ 1000
  hg : H pg = some (.lst gs)
  plg : ∀ v ∈ gs, Pl K H v
  lg : gs.length ≤ 1000
theorem RwAt.same {H H' : Hp} {pc pd pg : Addr} {cs : List Addr} {col : Nat → List V} {ds gs : List V} (h : RwAt K H pc pd pg cs col ds gs) (s : Same H H') : RwAt K H' pc pd pg cs col ds gs :=
  ⟨s _ _ h.hc, h.lc, fun j c e => ⟨s _ _ (h.at_ j c e).1, fun v hv => ((h.at_ j c e).2.1 v hv).same s, (h.at_ j c e).2.2⟩, s _ _ h.hd, fun v hv => (h.pld v hv).same s, h.ld, s _ _ h.hg, fun v hv => (h.plg v hv).same s, h.lg⟩
def rowsB (n : Nat) (col : Nat → List V) (ds gs : List V) : Bool := numB 1 8 ds && (decide (n ≤ 70) && (((List.range n).map fun j => numB ds.length ds.length (col j)).all id && numB n n gs))
def spCkR (K : PySem.W.Frag) (NR : Addr) : Sp := fun vs H Q E => ∃ (pc pd pg : Addr) (cs : List Addr) (col : Nat → List V) (ds gs : List V), vs = [.ref pc, .ref pd, .ref pg] ∧ RwAt K H pc pd pg cs col ds gs ∧ (rowsB cs.length col ds gs = false → ∀ H', Same H H' → E (.ref NR) none H') ∧ (rowsB cs.length col ds gs = true → ∀ H', Same H H' → Q .non H')
theorem scCkR : FnScope ["columns", "due", "gains"] ["columns", "due", "gains"] (defScope sCkR) := ⟨rfl, rfl, rfl, by decide +kernel, rfl, by decide +kernel, by decide +kernel⟩
theorem ok_ckr {f1 : Addr} {fd1 : FuncData} (t : Tx K mg "check_rows" sCkR ["columns", "due", "gains"] f fd) (T : T K mg AL LN FR iF fCh fGM fCC fCA fPL SE NN NG NT NO NR NS) (D_are_numbers : Df P w K mg base CX0 2 "are_numbers" ["thing", "least", "most"] (spAreN K) f1 fd1) :
    Df P w K mg base (CX1 P w) 3 "check_rows" ["columns", "due", "gains"] (spCkR K NR) f fd := by
  refine t.df1 scCkR (fun vs H Q E h => ?_) (fun cdv _A outer s H vs Q E hr h => ?_)
  · obtain ⟨pc, pd, pg, cs, col, ds, gs, rfl, _⟩ := h
    rfl
  · obtain ⟨pc, pd, pg, cs, col, ds, gs, rfl, rw0, k0, k⟩ := h
    obtain ⟨tkMP, hMP⟩ := T.mp
    obtain ⟨tkMC, hMC⟩ := T.mc
    refine ⟨_, (pss_cons (ps_if (pt_not (pt_val (pe_d0 D_are_numbers hr (by decide) (by rfl) (pa_cons (pv 1) (pa_cons pe_int (pa_cons (pe_glob (v := .int 8) (by rfl) hMP ⟨tkMP, rfl⟩) pa_nil)))))) (pss_one (ps_raise rais_def rfl (by rfl) T.mNR T.xNR (pa_cons pe_str pa_nil))) pss_nil)
      (pss_cons (ps_if (PW.pt (pw_or (pt_not (pt_val (pe_callB call_isi (by rfl) T.b_isi bt_isi (pa_cons (pv 0) (pa_cons (pe_bltn (v := .ty "list") (by rfl) T.b_list bt_list rfl) pa_nil))))) (pw_or1 (pt_cmpR op_gt (pe_callB call_len_seq (by rfl) T.b_len bt_len (pa_cons (pv 0) pa_nil)) (pe_glob (v := .int 70) (by rfl) hMC ⟨tkMC, rfl⟩) (nomark _))))) (pss_one (ps_raise rais_def rfl (by rfl) T.mNR T.xNR (pa_cons pe_str pa_nil))) pss_nil)
      (pss_cons (ps_if (pt_not (pt_val (pe_callB (call_all rfl) (by rfl) T.b_all bt_all (pa_cons (pe_comp (NB := ["column", "due"]) (pick := [none, some 1]) (blk_mk (by with_unfolding_all rfl) (by exact (And.intro rfl trivial)) rfl (by decide +kernel) (by decide +kernel) (by rfl) (by rfl)) rfl
          (pi_list (pv 0)) (fun _ _ _ => pg_name (i := 0) (show (["column", "due"] : List Str).Nodup from by decide +kernel) rfl (Or.inl rfl))
          (fun _ _ _ => pif_nil) (fun _ _ _ => (pe_d0 D_are_numbers hr (by decide) (by rfl) (pa_cons (pv 0) (pa_cons (pe_callB (call_lenK K) (by rfl) T.b_len bt_len (pa_cons (pv 1) pa_nil)) (pa_cons (pe_callB (call_lenK K) (by rfl) T.b_len bt_len (pa_cons (pv 1) pa_nil)) pa_nil)))))) pa_nil)))) (pss_one (ps_raise rais_def rfl (by rfl) T.mNR T.xNR (pa_cons pe_str pa_nil))) pss_nil)
      (pss_one (ps_if (pt_not (pt_val (pe_d0 D_are_numbers hr (by decide) (by rfl) (pa_cons (pv 2) (pa_cons (pe_callB call_len_seq (by rfl) T.b_len bt_len (pa_cons (pv 0) pa_nil)) (pa_cons (pe_callB call_len_seq (by rfl) T.b_len bt_len (pa_cons (pv 0) pa_nil)) pa_nil)))))) (pss_one (ps_raise rais_def rfl (by rfl) T.mNR T.xNR (pa_cons pe_str pa_nil))) pss_nil))))), ?_⟩
    refine ⟨_, rfl, pd, ds, 1, 8, rfl, rw0.hd, rw0.pld, rw0.ld, fun H1 s1 => ⟨_, rfl, ?_⟩⟩
    cases e1 : numB 1 8 ds with
    | false => exact iteT ⟨by show 1 ≤ sizeLine; decide, k0 (by unfold rowsB; rw [e1]; rfl) H1 s1⟩
    | true =>
      have rw1 := rw0.same s1
      refine iteF ⟨_, rfl, .ref pc, .ty "list", _, _, _, rfl, rfl, .of (.lst rw1.hc), Kd.lst.list_ K, _, rfl, iteF ?_⟩
      refine ⟨_, rfl, pc, _, rfl, .inl (SqL.of rw1.hc), _, _, rfl, rfl, _, rfl, ?_⟩
      rw [List.length_map]
      have ec : decide (((cs.length : Nat) : Int) > 70) = !decide (cs.length ≤ 70) := by
        by_cases z : cs.length ≤ 70
        · rw [decide_eq_true z, decide_eq_false (by omega)]; rfl
        · rw [decide_eq_false z, decide_eq_true (by omega)]; rfl
      show if decide (((cs.length : Nat) : Int) > 70) = true then _ else _
      rw [ec]
      cases e2 : decide (cs.length ≤ 70) with
      | false => exact iteT ⟨by show 1 ≤ sizeLine; decide, k0 (by unfold rowsB; rw [e1, e2]; rfl) H1 s1⟩
      | true =>
        refine iteF ⟨_, rfl, pc, rfl, ⟨_, SqL.of rw1.hc⟩, ?_⟩
        refine comp_lst (xs := cs.map V.ref) (fun j _ => some (.bl (numB ds.length ds.length (col j)))) (SqL.of rw1.hc) (by rw [List.length_map]; exact Nat.le_of_lt (small1000 rw0.lc)) (fun j y H2 kk kk0 s2 hy h1 h2 => ?_) fun D H2 hD s2 hd => ?_
        · obtain ⟨c, hc, rfl⟩ := ref_of hy
          have rw2 := rw1.same s2
          obtain ⟨a1, a2, a3⟩ := rw2.at_ j c hc
          exact ⟨_, rfl, _, rfl, pd, _, rfl, .inl (SqL.of rw2.hd), _, rfl, pd, _, rfl, .inl (SqL.of rw2.hd), c, col j, ds.length, ds.length, rfl, a1, a2, a3, fun H3 s3 => h1 _ rfl _ s3⟩
        · have hd' : H2 D = some (.lst (((List.range cs.length).map fun j => numB ds.length ds.length (col j)).map V.bl)) := by
            rw [hd, List.length_map, fm_ls _ (List.length_map ..), List.map_map]
            rfl
          refine ⟨D, _, rfl, SqL.of hd', _, rfl, ?_⟩
          cases e3 : ((List.range cs.length).map fun j => numB ds.length ds.length (col j)).all id with
          | false => exact iteT ⟨by show 1 ≤ sizeLine; decide, k0 (by unfold rowsB; rw [e1, e2, e3]; rfl) H2 (s1.trans s2)⟩
          | true =>
            have rw2 := rw1.same s2
            refine iteF ⟨_, rfl, _, rfl, pc, _, rfl, .inl (SqL.of rw2.hc), _, rfl, pc, _, rfl, .inl (SqL.of rw2.hc), pg, gs, cs.length, cs.length, by rw [List.length_map]; rfl, rw2.hg, rw2.plg, rw2.lg, fun H3 s3 => ⟨_, rfl, ?_⟩⟩
            cases e4 : numB cs.length cs.length gs with
            | false => exact iteT ⟨by show 1 ≤ sizeLine; decide, k0 (by unfold rowsB; rw [e1, e2, e3, e4]; rfl) H3 (s1.trans (s2.trans s3))⟩
            | true => exact iteF (k (by unfold rowsB; rw [e1, e2, e3, e4]; rfl) H3 (s1.trans (s2.trans s3)))
theorem made_at {H : Hp} {q x dx : Addr} {o u v : HO} (hq : H q = some o) (hx : H x = none) (hd : H dx = none) : upd (upd H dx u) x v q = some o := by
  rw [upd_ne (ne_of_none hq hx), upd_ne (ne_of_none hq hd)]
  exact hq
structure TBest (m n : Nat) (A : Nat → Nat → Int) (due g : Nat → Int) (H H' : Hp) (r lw lp : Addr) (ws ps : List Addr) (d : Int) (X Y : Nat → Int) : Prop where
  tup : H' r = some (.tup [.str "best", .ref lw, .ref lp])
  d0 : 0 < d
  ds : Sm 6000 d
  dm : DSmall m A due d
  fw : FrL n X d H' lw ws
  fp : FrL m Y d H' lp ps
  nw : H lw = none
  np : H lp = none
  sX : ∀ j, Sm 300000 (X j)
  sY : ∀ j, Sm 300000 (Y j)
  x0 : ∀ j, 0 ≤ X j
  meets : ∀ i, i < m → (Wg.sm n fun j => A j i * X j) = due i * d
  cols : ∀ j, j < n → g j * d ≤ Wg.sm m fun i => A j i * Y i
  same : (Wg.sm m fun i => due i * Y i) = Wg.sm n fun j => g j * X j
structure TNone (m n : Nat) (A : Nat → Nat → Int) (due : Nat → Int) (H H' : Hp) (r lp : Addr) (ps : List Addr) (d : Int) (Y : Nat → Int) : Prop where
  tup : H' r = some (.tup [.str "none", .ref lp])
  d0 : 0 < d
  ds : Sm 6000 d
  fp : FrL m Y d H' lp ps
  np : H lp = none
  sY : ∀ j, Sm 300000 (Y j)
  cols : ∀ j, j < n → 0 ≤ Wg.sm m fun i => A j i * Y i
  neg : (Wg.sm m fun i => due i * Y i) < 0
structure TEnd (m n : Nat) (A : Nat → Nat → Int) (due g : Nat → Int) (H H' : Hp) (r lw lv : Addr) (ws vs : List Addr) (d : Int) (X Z : Nat → Int) : Prop where
  tup : H' r = some (.tup [.str "endless", .ref lw, .ref lv])
  d0 : 0 < d
  ds : Sm 6000 d
  fw : FrL n X d H' lw ws
  fv : FrL n Z d H' lv vs
  nw : H lw = none
  nv : H lv = none
  sX : ∀ j, Sm 300000 (X j)
  sZ : ∀ j, Sm 300000 (Z j)
  x0 : ∀ j, 0 ≤ X j
  meets : ∀ i, i < m → (Wg.sm n fun j => A j i * X j) = due i * d
  z0 : ∀ j, 0 ≤ Z j
  away : ∀ i, i < m → (Wg.sm n fun j => A j i * Z j) = 0
  more : 0 < Wg.sm n fun j => g j * Z j
def Told (m n : Nat) (A : Nat → Nat → Int) (due g : Nat → Int) (H H' : Hp) (r : Addr) : Prop :=
  (∃ lw lp ws ps d X Y, TBest m n A due g H H' r lw lp ws ps d X Y) ∨ (∃ lp ps d Y, TNone m n A due H H' r lp ps d Y) ∨ (∃ lw lv ws vs d X Z, TEnd m n A due g H H' r lw lv ws vs d X Z)
def spWgh (K : PySem.W.Frag) (NR : Addr) : Sp := fun vs H Q E => ∃ (pc pd pg : Addr) (cs : List Addr) (col : Nat → List V) (ds gs : List V), vs = [.ref pc, .ref pd, .ref pg] ∧ RwAt K H pc pd pg cs col ds gs ∧ (rowsB cs.length col ds gs = false → ∀ H', Same H H' → E (.ref NR) none H') ∧
  (rowsB cs.length col ds gs = true → ∃ (m n : Nat) (A : Nat → Nat → Int) (due g : Nat → Int), Inst m n A due ∧ cs.length = n ∧ (∀ j, j < n → col j = lsV m (A j)) ∧ ds = lsV m due ∧ gs = lsV n g ∧ (∀ j, Sm 90000 (g j)) ∧ ∀ (r : Addr) (H' : Hp), Same H H' → Told m n A due g H H' r → Q (.ref r) H')
theorem Clean.run {m n : Nat} {M : Nat → Nat → Int} {c : Nat → Int} {S S' : Wg.St} (h : ∃ T st p q, Wg.Run m n (n + m) M c T st p q ∧ st 0 = S ∧ st T = S') (cl : Wg.Clean m n S) : Wg.Clean m n S' := by
  obtain ⟨TT, st, p, q, r, rfl, rfl⟩ := h
  exact r.keeps (P := Wg.Clean m n) cl fun S p q ok _ g cl => Wg.clean_next ok g.pm g.qn (by have := g.pos; omega) cl
theorem feas_run {m n : Nat} {M : Nat → Nat → Int} {c : Nat → Int} {S S' : Wg.St} (h : ∃ T st p q, Wg.Run m n (n + m) M c T st p q ∧ st 0 = S ∧ st T = S') : ∀ k, k < m → 0 ≤ S'.R k (n + m) := by
  obtain ⟨TT, st, p, q, r, rfl, rfl⟩ := h
  exact (r.okF TT (Nat.le_refl _)).2
theorem scWgh : FnScope ["columns", "due", "gains", "frame", "leaving", "all_gains", "growing"] ["columns", "due", "gains"] (defScope sWgh) := ⟨rfl, rfl, rfl, by decide +kernel, rfl, by decide +kernel, by decide +kernel⟩
theorem wt_sm {m n : Nat} {A : Nat → Nat → Int} {due : Nat → Int} {S : Wg.St} (gd : Good m n A due S) (f : Nat → Int) (h : ∀ k, k < m → Sm 6000 (f k)) (j : Nat) : Sm 300000 (Wg.wt m f S j) := by
  unfold Wg.wt
  refine (sm_Sm (a := 6000) m fun k hk => ?_).mono (by have := gd.ins.m8; omega)
  split
  · exact h k hk
  · exact Sm.zero
theorem price_sm {m n : Nat} {A : Nat → Nat → Int} {due c : Nat → Int} {S : Wg.St} (gd : Good m n A due S) (h : ∀ j, Sm 100000 (c j)) (i : Nat) : Sm 300000 (Wg.sgn (due i) * Wg.price m n c S i) := by
  obtain ⟨sd, sR⟩ := gd.ins.size gd.ok
  have m8 := gd.ins.m8
  have z : Sm 300000 (Wg.price m n c S i) := (sm_Sm (a := 106000) m fun k hk => ((h _).mul (sR k hk _)).mono (by decide)).mono (by omega)
  exact z.le (by rw [sgn_abs]; exact Nat.le_refl _)
theorem ok_wgh {f1 f2 f3 f4 f5 f6 f7 : Addr} {fd1 fd2 fd3 fd4 fd5 fd6 fd7 : FuncData} (t : Tx K mg "weigh" sWgh ["columns", "due", "gains"] f fd) (T : T K mg AL LN FR iF fCh fGM fCC fCA fPL SE NN NG NT NO NR NS) (D_check_rows : Df P w K mg base (CX1 P w) 3 "check_rows" ["columns", "due", "gains"] (spCkR K NR) f1 fd1) (D_FI : Md P w K mg base 3 ["self", "columns", "due"] (spFI FR) iF)
    (D_climb : Df P w K mg base CX0 3 "climb" ["frame", "gains"] (spClb FR) f2 fd2) (D_spare_places : Df P w K mg base CX0 1 "spare_places" ["frame"] (spSpP FR) f3 fd3) (D_leave_spares : Df P w K mg base CX0 3 "leave_spares" ["frame"] (spLvS FR) f4 fd4) (D_weights_of : Df P w K mg base CX0 3 "weights_of" ["frame"] (spWtO FR) f5 fd5)
    (D_prices_of : Df P w K mg base CX0 3 "prices_of" ["frame", "gains", "due"] (spPrO FR) f6 fd6) (D_way_of : Df P w K mg base CX0 3 "way_of" ["frame", "growing"] (spWyO FR) f7 fd7) :
    Df P w K mg base (CX1 P w) 5 "weigh" ["columns", "due", "gains"] (spWgh K NR) f fd := by
  refine t.df1 scWgh (fun vs H Q E h => ?_) (fun cdv _A outer s H vs Q E hr h => ?_)
  · obtain ⟨pc, pd, pg, cs, col, ds, gs, rfl, _⟩ := h
    rfl
  · obtain ⟨pc, pd, pg, cs, col, ds, gs, rfl, rw0, k0, k⟩ := h
    refine ⟨_, (pss_cons (ps_expr (pe_d1 rais_def.toPass D_check_rows hr (by decide) (by rfl) (pa_cons (pv 0) (pa_cons (pv 1) (pa_cons (pv 2) pa_nil)))))
      (pss_cons (ps_set (i := 3) scWgh.nd rfl (by first | exact Or.inl rfl | exact Or.inr rfl) (pe_makeX rais_def.toPass T.kFR D_FI hr (by decide) (by rfl) T.mFR (pa_cons (pv 0) (pa_cons (pv 1) pa_nil))))
      (pss_cons (ps_set (i := 4) scWgh.nd rfl (Or.inl rfl) (pe_op op_catQ (pe_op op_rep (pe_lst (pa_cons pe_int pa_nil)) (pe_callB call_len_seq (by rfl) T.b_len bt_len (pa_cons (pv 0) pa_nil))) (pe_op op_rep (pe_lst (pa_cons (pe_un un_neg pe_int) pa_nil)) (pe_callB call_len_seq (by rfl) T.b_len bt_len (pa_cons (pv 1) pa_nil)))))
      (pss_cons (ps_expr (pe_d0 D_climb hr (by decide) (by rfl) (pa_cons (pv 3) (pa_cons (pv 4) pa_nil))))
      (pss_cons (ps_if (pt_val (pe_callB (call_any rfl) (by rfl) T.b_any bt_any (pa_cons (pe_comp (NB := ["place", "frame"]) (pick := [none, some 3]) (blk_mk (by with_unfolding_all rfl) (by exact (And.intro rfl trivial)) rfl (by decide +kernel) (by decide +kernel) (by rfl) (by rfl)) rfl
          (pi_list (pe_d0 D_spare_places hr (by decide) (by rfl) (pa_cons (pv 3) pa_nil))) (fun _ _ _ => pg_name (i := 0) (show (["place", "frame"] : List Str).Nodup from by decide +kernel) rfl (Or.inl rfl))
          (fun _ _ _ => pif_nil) (fun _ _ _ => (pe_cmpR op_ne (pe_ix (ix_listK K) (pe_ix (ix_listK K) (pe_fldK K (pv 1) rfl) (pv 0) (fun _ _ => rfl)) (pe_un un_neg pe_int) (fun _ _ => rfl)) pe_int (nomark _)))) pa_nil))) (pss_one (ps_ret (pe_tup (pa_cons pe_str (pa_cons (pe_d0 D_prices_of hr (by decide) (by rfl) (pa_cons (pv 3) (pa_cons (pv 4) (pa_cons (pv 1) pa_nil)))) pa_nil))))) pss_nil)
      (pss_cons (ps_expr (pe_d0 D_leave_spares hr (by decide) (by rfl) (pa_cons (pv 3) pa_nil)))
      (pss_cons (ps_set (i := 5) scWgh.nd rfl (Or.inl rfl) (pe_op op_catQ (pv 2) (pe_op op_rep (pe_lst (pa_cons pe_int pa_nil)) (pe_callB call_len_seq (by rfl) T.b_len bt_len (pa_cons (pv 1) pa_nil)))))
      (pss_cons (ps_set (i := 6) scWgh.nd rfl (Or.inl rfl) (pe_d0 D_climb hr (by decide) (by rfl) (pa_cons (pv 3) (pa_cons (pv 5) pa_nil))))
      (pss_cons (ps_if (pt_cmpR op_isN (pv 6) pe_non (nomark _)) (pss_one (ps_ret (pe_tup (pa_cons pe_str (pa_cons (pe_d0 D_weights_of hr (by decide) (by rfl) (pa_cons (pv 3) pa_nil)) (pa_cons (pe_d0 D_prices_of hr (by decide) (by rfl) (pa_cons (pv 3) (pa_cons (pv 5) (pa_cons (pv 1) pa_nil)))) pa_nil)))))) pss_nil)
      (pss_one (ps_ret (pe_tup (pa_cons pe_str (pa_cons (pe_d0 D_weights_of hr (by decide) (by rfl) (pa_cons (pv 3) pa_nil)) (pa_cons (pe_d0 D_way_of hr (by decide) (by rfl) (pa_cons (pv 3) (pa_cons (pv 6) pa_nil))) pa_nil))))))))))))))), ?_⟩
    refine ⟨_, rfl, _, rfl, _, rfl, pc, pd, pg, cs, col, ds, gs, rfl, rw0, k0, fun yes H1 s1 => ?_⟩
    obtain ⟨m, n, A, due, g, ins, hn, hcol, rfl, rfl, sg, k⟩ := k yes
    have m8 := ins.m8
    have n70 := ins.n70
    have co : Cols m n A due H pc pd cs := ⟨rw0.hc, hn, fun j c e => by
      have hj : j < n := by rw [← hn]; exact (List.getElem?_eq_some_iff.mp e).1
      rw [← hcol j hj]
      exact (rw0.at_ j c e).1, rw0.hd⟩
    have co1 := co.same s1
    have hg1 := s1 _ _ rw0.hg
    refine ⟨_, rfl, _, rfl, fun x dx hx hdx ne => ?_⟩
    refine ⟨m, n, A, due, x, dx, pc, pd, cs, rfl, upd_same, ins, ⟨made_at co1.hc hx hdx, hn, fun j c e => made_at (co1.at_ j c e) hx hdx, made_at co1.hd hx hdx⟩, fun lc H2 sb2 hlc0 fo2 => ?_⟩
    have s2 : Same H1 H2 := sb2.made hx hdx ne
    have hlc1 : H1 lc = none := by
      have nl : lc ≠ x := fun z => by rw [z, upd_same] at hlc0; cases hlc0
      have nd : lc ≠ dx := fun z => by rw [z, upd_ne ne, upd_same] at hlc0; cases hlc0
      rw [upd_ne nl, upd_ne nd] at hlc0
      exact hlc0
    have co2 := co1.same s2
    have gd0 := Good.start ins
    -- leaving
    refine ⟨rfl, by show 1 ≤ sizeLine; decide, fun a1 ha1 => ?_⟩
    have u3 := Same.upd_new (o := .lst [.int 0]) ha1
    have e3 : upd H2 a1 (.lst [.int 0]) a1 = some (.lst [.int 0]) := upd_same
    generalize upd H2 a1 (.lst [.int 0]) = H3 at u3 e3 ⊢
    refine ⟨_, rfl, pc, _, rfl, .inl (SqL.of (u3 _ _ co2.hc)), a1, _, _, rfl, rfl, e3, by rw [List.length_map]; omega, by rw [List.length_map]; omega, ?_, fun a2 ha2 => ?_⟩
    · rw [List.length_map, hn]
      show 1 * ((n : Int)).toNat ≤ sizeLine
      exact Nat.le_of_lt (small1000 (by omega))
    rw [List.length_map, hn, Int.toNat_natCast, rep_ints]
    have u4 := Same.upd_new (o := .lst (lsV n fun _ => 0)) ha2
    have e4 : upd H3 a2 (.lst (lsV n fun _ => 0)) a2 = _ := upd_same
    generalize upd H3 a2 (.lst (lsV n fun _ => 0)) = H4 at u4 e4 ⊢
    refine ⟨_, rfl, by show 1 ≤ sizeLine; decide, fun a3 ha3 => ?_⟩
    have u5 := Same.upd_new (o := .lst [.int (-1)]) ha3
    have e5 : upd H4 a3 (.lst [.int (-1)]) a3 = some (.lst [.int (-1)]) := upd_same
    generalize upd H4 a3 (.lst [.int (-1)]) = H5 at u5 e5 ⊢
    have s5 := s2.trans (u3.trans (u4.trans u5))
    refine ⟨_, rfl, pd, _, rfl, .inl (SqL.of (s5 _ _ co1.hd)), a3, _, _, rfl, rfl, e5, by rw [lsV_len]; omega, by rw [lsV_len]; omega, ?_, fun a4 ha4 => ?_⟩
    · rw [lsV_len]
      show 1 * ((m : Int)).toNat ≤ sizeLine
      exact Nat.le_of_lt (small1000 (by omega))
    rw [lsV_len, Int.toNat_natCast, rep_ints]
    have u6 := Same.upd_new (o := .lst (lsV m fun _ => -1)) ha4
    have e6 : upd H5 a4 (.lst (lsV m fun _ => -1)) a4 = _ := upd_same
    generalize upd H5 a4 (.lst (lsV m fun _ => -1)) = H6 at u6 e6 ⊢
    refine ⟨a2, a4, _, _, rfl, rfl, SqL.of (u6 _ _ (u5 _ _ e4)), SqL.of e6, by rw [lsV_len, lsV_len]; exact Nat.le_of_lt (small1000 (by omega)), fun pl hpl => ?_⟩
    rw [lsV_app]
    have u7 := Same.upd_new (o := .lst (lsV (n + m) fun j => if j < n then 0 else -1)) hpl
    have e7 : upd H6 pl (.lst (lsV (n + m) fun j => if j < n then 0 else -1)) pl = _ := upd_same
    generalize upd H6 pl (.lst (lsV (n + m) fun j => if j < n then 0 else -1)) = H7 at u7 e7 ⊢
    have s26 := u3.trans (u4.trans (u5.trans u6))
    have s27 := s26.trans u7
    have s7 := s2.trans s27
    have fo7 := fo2.same s27
    obtain ⟨dx2, lr2, ras2, hx2, rs2, hlc2⟩ := id fo2
    have gn7 : Gns m n (Wg.lv m n) H7 pl := ⟨by
      rw [e7]
      congr 2
      refine lsV_ext fun j hj => ?_
      unfold Wg.lv
      by_cases z : j < n
      · rw [if_pos z, if_neg (by omega)]
      · rw [if_neg z, if_pos ⟨by omega, hj⟩], fun j => by
      unfold Wg.lv
      split
      · exact Sm.of 1 (by decide) (by decide)
      · exact Sm.zero⟩
    have npl : pl ≠ lc := fun z => by rw [z, s26 _ _ hlc2] at hpl; cases hpl
    have npx : pl ≠ x := fun z => by rw [z, s26 _ _ hx2] at hpl; cases hpl
    have old : ∀ {b o}, H1 b = some o → b ≠ x ∧ b ≠ lc := fun {b o} e => ⟨ne_of_none e hx, ne_of_none e hlc1⟩
    refine ⟨_, rfl, _, rfl, m, n, A, due, _, x, lc, pl, _, rfl, fo7, gd0, Wg.start_feas, gn7, npl, fun S1 H8 sb8 fo8 gd1 run1 => ?_⟩
    have fe1 := feas_run run1
    have s18 : Same H1 H8 := fun b o e => sb8 b o (old e).1 (old e).2 (s7 _ _ e)
    refine ⟨fun le => ?_, fun q hq gr nn => (Wg.phase1_noend gd1.ok hq gr nn).elim⟩
    refine ⟨_, rfl, m, n, A, due, x, lc, S1, rfl, fo8, gd1, fun D H9 hD s9 hd => ⟨D, rfl, ⟨_, SqL.of hd⟩, ?_⟩⟩
    obtain ⟨dx8, lr8, ras8, hx8, rs8, hlc8⟩ := id fo8
    refine comp_lst (xs := natV (spL m n S1)) (fun i _ => ((spL m n S1)[i]?).map fun p => V.bl (!decide (V.int (S1.R p (n + m)) = V.int 0))) (SqL.of hd) (by unfold natV spL; rw [List.length_map]; exact Nat.le_trans (List.length_filter_le ..) (by rw [List.length_range]; exact Nat.le_of_lt (small1000 (by omega)))) (fun i y H10 kk kk0 s10 hy h1 h2 => ?_) fun D2 H10 hD2 s10 hd2 => ?_
    · obtain ⟨p, ep, rfl⟩ := natV_of hy
      have hp := (spL_mem.mp (List.mem_of_getElem? ep)).1
      obtain ⟨rp, erp, arp, hrp⟩ := rs8.get hp
      have s810 := s9.trans s10
      refine ⟨_, rfl, x, FR, dx8, _, _, rfl, s810 _ _ hx8, T.rFR.oc.cl, T.rFR.nr, rfl, _, rfl, lr8, _, _, _, rfl, rfl, SqL.of (s810 _ _ rs8.hr), arp, _, rfl, rp, _, _, _, rfl, rfl, SqL.of (s810 _ _ hrp), lsV_last (n + m) _, rfl, ?_⟩
      exact h1 _ (by rw [ep]; rfl) _ (.refl _)
    have el : (natV (spL m n S1)).length = (spL m n S1).length := by unfold natV; rw [List.length_map]
    have hd3 : H10 D2 = some (.lst (((spL m n S1).map fun p => !decide (V.int (S1.R p (n + m)) = V.int 0)).map V.bl)) := by
      rw [hd2, el, List.map_map]
      congr 2
      refine Eq.trans (fm_congr (g := fun i => ((spL m n S1)[i]?).bind fun p => some (V.bl (!decide (V.int (S1.R p (n + m)) = V.int 0)))) fun i hi => ?_) ?_
      · have hi := List.mem_range.mp hi
        rw [List.getElem?_eq_getElem (l := natV (spL m n S1)) (by rw [el]; exact hi), List.getElem?_eq_getElem hi]
        rfl
      · rw [fm_bind, List.filterMap_eq_map']
        rfl
    refine ⟨D2, _, rfl, SqL.of hd3, _, rfl, ?_⟩
    have s810 := s9.trans s10
    have fo10 := fo8.same s810
    have s110 := s18.trans s810
    have gn10 : Gns m n (Wg.lv m n) H10 pl := ⟨s810 _ _ (sb8 _ _ npx npl gn7.hg), gn7.sz⟩
    obtain ⟨sd1, sR1⟩ := ins.size gd1.ok
    cases ea : ((spL m n S1).map fun p => !decide (V.int (S1.R p (n + m)) = V.int 0)).any id with
    | true =>
      refine iteT ?_
      obtain ⟨b, hb, eb⟩ := List.any_eq_true.mp ea
      obtain ⟨p, hp, rfl⟩ := List.mem_map.mp hb
      obtain ⟨hpm, sp⟩ := spL_mem.mp hp
      have nz : S1.R p (n + m) ≠ 0 := fun z => by rw [z] at eb; exact absurd eb (by decide)
      obtain ⟨t1, t2⟩ := Wg.none_told gd1.ok fe1 le gd1.ch hpm sp nz
      refine ⟨_, rfl, _, rfl, _, rfl, m, n, A, due, _, x, lc, pl, pd, S1, rfl, fo10, gd1, gn10, s110 _ _ co1.hd, fun lp ps H11 hlp s11 fl => ⟨by show 2 ≤ sizeLine; decide, fun r hr => ?_⟩⟩
      have u12 := Same.upd_new (o := .tup [.str "none", .ref lp]) hr
      exact k r _ (s1.trans (s110.trans (s11.trans u12))) (.inr (.inl ⟨lp, ps, S1.d, _, upd_same, Wg.Fr.pos gd1.ok, sd1, fl.same u12, (s1.trans s110).free hlp, price_sm gd1 gn7.sz, t1, t2⟩))
    | false =>
      refine iteF ?_
      have z1 : ∀ k', k' < m → n ≤ S1.ch k' → S1.R k' (n + m) = 0 := fun k' hk' sp => Classical.byContradiction fun nz => by
        have : ((spL m n S1).map fun p => !decide (V.int (S1.R p (n + m)) = V.int 0)).any id = true := List.any_eq_true.mpr ⟨_, List.mem_map.mpr ⟨k', spL_mem.mpr ⟨hk', sp⟩, rfl⟩, by
          rw [decide_eq_false (fun y => nz (V.int.inj y))]; rfl⟩
        rw [ea] at this
        cases this
      refine ⟨_, rfl, m, n, A, due, x, lc, S1, rfl, fo10, gd1, fe1, z1, fun S2 H11 sb11 fo11 gd2 fe2 cl2 => ?_⟩
      have s111 : Same H1 H11 := fun b o e => sb11 b o (old e).1 (old e).2 (s110 _ _ e)
      have hg11 := s111 _ _ hg1
      refine ⟨_, rfl, by show 1 ≤ sizeLine; decide, fun b1 hb1 => ?_⟩
      have v1 := Same.upd_new (o := .lst [.int 0]) hb1
      have w1 : upd H11 b1 (.lst [.int 0]) b1 = some (.lst [.int 0]) := upd_same
      generalize upd H11 b1 (.lst [.int 0]) = H12 at v1 w1 ⊢
      refine ⟨_, rfl, pd, _, rfl, .inl (SqL.of (v1 _ _ (s111 _ _ co1.hd))), b1, _, _, rfl, rfl, w1, by rw [lsV_len]; omega, by rw [lsV_len]; omega, ?_, fun b2 hb2 => ?_⟩
      · rw [lsV_len]
        show 1 * ((m : Int)).toNat ≤ sizeLine
        exact Nat.le_of_lt (small1000 (by omega))
      rw [lsV_len, Int.toNat_natCast, rep_ints]
      have v2 := Same.upd_new (o := .lst (lsV m fun _ => 0)) hb2
      have w2 : upd H12 b2 (.lst (lsV m fun _ => 0)) b2 = _ := upd_same
      generalize upd H12 b2 (.lst (lsV m fun _ => 0)) = H13 at v2 w2 ⊢
      refine ⟨pg, b2, _, _, rfl, rfl, SqL.of (v2 _ _ (v1 _ _ hg11)), SqL.of w2, by rw [lsV_len, lsV_len]; exact Nat.le_of_lt (small1000 (by omega)), fun pa hpa => ?_⟩
      rw [lsV_app]
      have v3 := Same.upd_new (o := .lst (lsV (n + m) fun j => if j < n then g j else 0)) hpa
      have w3 : upd H13 pa (.lst (lsV (n + m) fun j => if j < n then g j else 0)) pa = _ := upd_same
      generalize upd H13 pa (.lst (lsV (n + m) fun j => if j < n then g j else 0)) = H14 at v3 w3 ⊢
      have v13 := v1.trans (v2.trans v3)
      have fo14 := fo11.same v13
      have s114 := s111.trans v13
      obtain ⟨dx11, lr11, ras11, hx11, rs11, hlc11⟩ := id fo11
      have npal : pa ≠ lc := fun z => by rw [z, v2 _ _ (v1 _ _ hlc11)] at hpa; cases hpa
      have npax : pa ≠ x := fun z => by rw [z, v2 _ _ (v1 _ _ hx11)] at hpa; cases hpa
      have gn14 : Gns m n (fun j => if j < n then g j else 0) H14 pa := ⟨w3, fun j => by
        show Sm 100000 (if j < n then g j else 0)
        split
        · exact (sg j).mono (by decide)
        · exact Sm.zero⟩
      have g0 : ∀ j, n ≤ j → (if j < n then g j else 0) = 0 := fun j hj => if_neg (by omega)
      refine ⟨_, rfl, _, rfl, m, n, A, due, _, x, lc, pa, S2, rfl, fo14, gd2, fe2, gn14, npal, fun S3 H15 sb15 fo15 gd3 run3 => ?_⟩
      have fe3 := feas_run run3
      have cl3 := Clean.run run3 cl2
      have s115 : Same H1 H15 := fun b o e => sb15 b o (old e).1 (old e).2 (s114 _ _ e)
      obtain ⟨sd3, sR3⟩ := ins.size gd3.ok
      have d3 := Wg.Fr.pos gd3.ok
      have gsum : ∀ X : Nat → Int, (Wg.sm n fun j => (if j < n then g j else 0) * X j) = Wg.sm n fun j => g j * X j := fun X => Wg.sm_ext fun j hj => by rw [if_pos hj]
      refine ⟨fun le3 => ?_, fun q hq gr nn => ?_⟩
      · obtain ⟨t1, t2⟩ := Wg.best_told gd3.ok cl3 le3 g0
        refine ⟨_, rfl, rfl, _, rfl, iteT ?_⟩
        refine ⟨_, rfl, m, n, A, due, x, lc, S3, rfl, fo15, gd3, fun lw ws H16 hlw s16 fw => ?_⟩
        have s116 := s115.trans s16
        refine ⟨_, rfl, _, rfl, _, rfl, m, n, A, due, _, x, lc, pa, pd, S3, rfl, fo15.same s16, gd3, ⟨s16 _ _ (sb15 _ _ npax npal gn14.hg), gn14.sz⟩, s116 _ _ co1.hd, fun lp ps H17 hlp s17 fp => ⟨by show 3 ≤ sizeLine; decide, fun r hr => ?_⟩⟩
        have u18 := Same.upd_new (o := .tup [.str "best", .ref lw, .ref lp]) hr
        refine k r _ (s1.trans (s116.trans (s17.trans u18))) (.inl ⟨lw, lp, ws, ps, S3.d, _, _, upd_same, d3, sd3, ins.small gd3.ok, (fw.same s17).same u18, fp.same u18, (s1.trans s115).free hlw, (s1.trans s116).free hlp, wt_sm gd3 _ fun k' hk' => sR3 k' hk' _, price_sm gd3 gn14.sz, Wg.wt_nn fe3 S3, fun i hi => Wg.meets gd3.ok cl3 hi, fun j hj => ?_, ?_⟩)
        · have z := t1 j hj
          rw [if_pos hj] at z
          exact z
        · rw [t2, gsum]
      · obtain ⟨t1, t2, t3⟩ := Wg.endless_told gd3.ok cl3 g0 hq gr nn
        refine ⟨_, rfl, rfl, _, rfl, iteF ?_⟩
        refine ⟨_, rfl, m, n, A, due, x, lc, S3, rfl, fo15, gd3, fun lw ws H16 hlw s16 fw => ?_⟩
        have s116 := s115.trans s16
        refine ⟨_, rfl, _, rfl, m, n, A, due, x, lc, S3, q, rfl, fo15.same s16, gd3, hq, fun lv vs' H17 hlv s17 fv => ⟨by show 3 ≤ sizeLine; decide, fun r hr => ?_⟩⟩
        have u18 := Same.upd_new (o := .tup [.str "endless", .ref lw, .ref lv]) hr
        rw [gsum] at t3
        refine k r _ (s1.trans (s116.trans (s17.trans u18))) (.inr (.inr ⟨lw, lv, ws, vs', S3.d, _, _, upd_same, d3, sd3, (fw.same s17).same u18, fv.same u18, (s1.trans s115).free hlw, (s1.trans s116).free hlv, wt_sm gd3 _ fun k' hk' => sR3 k' hk' _, fun j => ?_, Wg.wt_nn fe3 S3, fun i hi => Wg.meets gd3.ok cl3 hi, t1, t2, t3⟩))
        unfold Wg.way
        split
        · exact sd3.mono (by decide)
        · exact wt_sm gd3 _ (fun k' hk' => (sR3 k' hk' q).le (by rw [Int.natAbs_neg]; exact Nat.le_refl _)) j
-- SPLIT
theorem lcm_low {l b d : Nat} (hl : 0 < l) (hb : 0 < b) (h1 : l ∣ d) (h2 : b ∣ d) : 0 < l / Nat.gcd l b * b ∧ l / Nat.gcd l b * b ∣ d ∧ l ∣ l / Nat.gcd l b * b ∧ b ∣ l / Nat.gcd l b * b := by
  have e : l / Nat.gcd l b * b = Nat.lcm l b := by
    unfold Nat.lcm
    exact Nat.div_mul_right_comm (Nat.gcd_dvd_left l b) b
  rw [e]
  exact ⟨Nat.lcm_pos hl hb, Nat.lcm_dvd h1 h2, Nat.dvd_lcm_left l b, Nat.dvd_lcm_right l b⟩
theorem lcm_lowI {l b d : Int} (hl : 0 < l) (hb : 0 < b) (hd : 0 < d) (h1 : l ∣ d) (h2 : b ∣ d) : 0 < l.fdiv (Int.gcd l b : Int) * b ∧ l.fdiv (Int.gcd l b : Int) * b ∣ d ∧ l ∣ l.fdiv (Int.gcd l b : Int) * b ∧ b ∣ l.fdiv (Int.gcd l b : Int) * b := by
  obtain ⟨l, rfl⟩ := Int.eq_ofNat_of_zero_le (Int.le_of_lt hl)
  obtain ⟨b, rfl⟩ := Int.eq_ofNat_of_zero_le (Int.le_of_lt hb)
  obtain ⟨d, rfl⟩ := Int.eq_ofNat_of_zero_le (Int.le_of_lt hd)
  have z := lcm_low (l := l) (b := b) (d := d) (by omega) (by omega) (Int.natCast_dvd_natCast.mp h1) (Int.natCast_dvd_natCast.mp h2)
  have e : (l : Int).fdiv (Int.gcd (l : Int) (b : Int) : Int) * (b : Int) = ((l / Nat.gcd l b * b : Nat) : Int) := by
    rw [Int.fdiv_eq_ediv_of_nonneg _ (by omega), Int.gcd_natCast_natCast, Int.natCast_mul, Int.natCast_ediv]
  rw [e]
  exact ⟨by omega, Int.natCast_dvd_natCast.mpr z.2.1, Int.natCast_dvd_natCast.mpr z.2.2.1, Int.natCast_dvd_natCast.mpr z.2.2.2⟩
abbrev ta (X d : Int) : Int := X.fdiv (dv X d)
abbrev tb (X d : Int) : Int := d.fdiv (dv X d)
theorem dv_pos {X d : Int} (h : 0 < d) : dv X d = (Int.gcd X d : Int) := by unfold dv; rw [if_neg (by omega)]
theorem t_spec {X d : Int} (h : 0 < d) : ta X d * d = X * tb X d ∧ 1 ≤ tb X d ∧ Int.gcd (ta X d) (tb X d) = 1 ∧ tb X d ∣ d := by
  obtain ⟨_, a, b, c⟩ := dv_spec X d (by omega)
  obtain ⟨_, _, _, _, e, _⟩ := fr_exact (t := X) (b := d) (by omega)
  refine ⟨a, b, c, ?_⟩
  show d.fdiv (dv X d) ∣ d
  rw [dv_pos h]
  exact e
theorem tb_le {X d : Int} (h : 0 < d) {n : Nat} (s : Sm n d) : Sm n (tb X d) := s.le (by
  have a := t_spec (X := X) h
  have := Int.le_of_dvd h a.2.2.2
  omega)
theorem ta_le {X d : Int} {n : Nat} (s : Sm n X) : Sm n (ta X d) := s.fdiv
structure Low (n : Nat) (X : Nat → Int) (d L : Int) : Prop where
  pos : 0 < L
  dvd : L ∣ d
  all : ∀ j, j < n → tb (X j) d ∣ L
theorem low_step {n : Nat} {X : Nat → Int} {d L : Int} (d0 : 0 < d) (h : Low n X d L) : Low (n + 1) X d (L.fdiv (Int.gcd L (tb (X n) d) : Int) * tb (X n) d) := by
  obtain ⟨_, y1, _, yd⟩ := t_spec (X := X n) d0
  obtain ⟨a, b, c, e⟩ := lcm_lowI h.pos (show 0 < tb (X n) d by omega) d0 h.dvd yd
  refine ⟨a, b, fun j hj => ?_⟩
  by_cases z : j = n
  · rw [z]; exact e
  · exact Int.dvd_trans (h.all j (by omega)) c
theorem sm_scale {n : Nat} {a t X : Nat → Int} {d L : Int} (e : ∀ j, j < n → t j * d = X j * L) : (Wg.sm n fun j => a j * t j) * d = (Wg.sm n fun j => a j * X j) * L := by
  rw [Int.mul_comm, ← Wg.sm_mul, Int.mul_comm (Wg.sm n fun j => a j * X j), ← Wg.sm_mul]
  refine Wg.sm_ext fun j hj => ?_
  have := e j hj
  grind
theorem cop_dvd {k m n : Int} (h : k ∣ m * n) (g : Int.gcd k m = 1) : k ∣ n := by
  rw [← Int.natAbs_dvd_natAbs, Int.natAbs_mul] at h
  rw [← Int.natAbs_dvd_natAbs]
  exact Nat.Coprime.dvd_of_dvd_mul_left (show Nat.Coprime k.natAbs m.natAbs from g) h
def lsD (n : Nat) (a : Nat → Int) : PyData := .list (((List.range n).map a).map PyData.int)
def thD (m n : Nat) (A : Nat → Nat → Int) (due g : Nat → Int) : PyData := .list [.list ((List.range n).map fun j => lsD m (A j)), lsD m due, lsD n g]
theorem numB_ls {lo hi n : Nat} {a : Nat → Int} (h1 : lo ≤ n) (h2 : n ≤ hi) : numB lo hi (lsV n a) = true := by
  unfold numB
  rw [lsV_len, decide_eq_true h1, decide_eq_true h2]
  show (lsV n a).all isI = true
  rw [List.all_eq_true]
  intro v hv
  obtain ⟨j, _, rfl⟩ := List.mem_map.mp hv
  rfl
theorem pl_ls {K : PySem.W.Frag} {H : Hp} {n : Nat} {a : Nat → Int} : ∀ v ∈ lsV n a, Pl K H v := fun v hv => by
  obtain ⟨j, _, rfl⟩ := List.mem_map.mp hv
  exact .int _
theorem mk_rw {K : PySem.W.Frag} {m n : Nat} {A : Nat → Nat → Int} {due g : Nat → Int} {H : Hp} {pc pd pg : Addr} {cs : List Addr} (ins : Inst m n A due) (co : Cols m n A due H pc pd cs) (hg : H pg = some (.lst (lsV n g))) : RwAt K H pc pd pg cs (fun j => lsV m (A j)) (lsV m due) (lsV n g) := by
  have m8 := ins.m8
  have n70 := ins.n70
  exact ⟨co.hc, by rw [co.len]; omega, fun j c e => ⟨co.at_ j c e, pl_ls, by rw [lsV_len]; omega⟩, co.hd, pl_ls, by rw [lsV_len]; omega, hg, pl_ls, by rw [lsV_len]; omega⟩
theorem rowsB_ok {m n : Nat} {A : Nat → Nat → Int} {due g : Nat → Int} (ins : Inst m n A due) : rowsB n (fun j => lsV m (A j)) (lsV m due) (lsV n g) = true := by
  unfold rowsB
  rw [numB_ls ins.m1 ins.m8, decide_eq_true ins.n70, numB_ls (Nat.le_refl _) (Nat.le_refl _), lsV_len]
  have e : ((List.range n).map fun j => numB m m (lsV m (A j))).all id = true := by
    rw [List.all_eq_true]
    intro b hb
    obtain ⟨j, _, rfl⟩ := List.mem_map.mp hb
    exact numB_ls (Nat.le_refl _) (Nat.le_refl _)
  rw [e]
  rfl
theorem mk_wgh {K : PySem.W.Frag} {NR : Addr} {m n : Nat} {A : Nat → Nat → Int} {due g : Nat → Int} {H : Hp} {pc pd pg : Addr} {cs : List Addr} {R : VK} {E : XK} (ins : Inst m n A due) (co : Cols m n A due H pc pd cs) (hg : H pg = some (.lst (lsV n g))) (sg : ∀ j, Sm 90000 (g j)) (k : ∀ (r : Addr) (H' : Hp), Same H H' → Told m n A due g H H' r → R (.ref r) H') : spWgh K NR [.ref pc, .ref pd, .ref pg] H R E := by
  refine ⟨pc, pd, pg, cs, _, _, _, rfl, mk_rw ins co hg, fun no => ?_, fun _ => ⟨m, n, A, due, g, ins, co.len, fun j _ => rfl, rfl, rfl, sg, k⟩⟩
  rw [co.len, rowsB_ok ins] at no
  cases no
def spWith (K : PySem.W.Frag) : Sp := fun vs H Q _ => ∃ (v : V) (lo hi : Int), vs = [v, .int lo, .int hi] ∧ Pl K H v ∧ Q (.bl (inB lo hi v)) H
theorem scWith : FnScope ["thing", "least", "most"] ["thing", "least", "most"] (defScope sWith) := ⟨rfl, rfl, rfl, by decide +kernel, rfl, by decide +kernel, by decide +kernel⟩
theorem ok_with {f1 : Addr} {fd1 : FuncData} (t : Tx K mg "is_number_within" sWith ["thing", "least", "most"] f fd) (D : Df P w K mg base CX0 1 "is_number" ["thing"] (spNum K) f1 fd1) :
    Df P w K mg base CX0 2 "is_number_within" ["thing", "least", "most"] (spWith K) f fd := by
  refine t.df0 scWith (fun vs H Q E h => ?_) (fun cdv A outer s H vs Q E hr h => ?_)
  · obtain ⟨v, lo, hi, rfl, _⟩ := h
    rfl
  · obtain ⟨v, lo, hi, rfl, pl, k⟩ := h
    -- return is_number(thing) and least <= thing <= most
    refine ⟨_, pss_one (ps_ret (pe_and (pe_d0 D hr (Nat.le_refl _) (by rfl) (pa_cons (pv 0) pa_nil)) (pe_one (pe_chain op_le op_le (pv 1) (pv 0) (pv 2))))), ?_⟩
    refine ⟨_, rfl, v, rfl, pl, _, rfl, ?_⟩
    cases v with
    | int i =>
      refine iteT ⟨_, rfl, _, rfl, lo, i, rfl, rfl, _, rfl, ?_⟩
      refine ite2 (fun h1 => ⟨_, rfl, i, hi, rfl, rfl, ?_⟩) (fun h1 => ?_)
      · have e : decide (i ≤ hi) = inB lo hi (.int i) := by
          show _ = (decide (lo ≤ i) && decide (i ≤ hi))
          rw [h1, Bool.true_and]
        show Q (.bl (decide (i ≤ hi))) H
        rw [e]
        exact k
      · have e : false = inB lo hi (.int i) := by
          show _ = (decide (lo ≤ i) && decide (i ≤ hi))
          rw [Bool.eq_false_iff.mpr h1, Bool.false_and]
        rw [e]
        exact k
    | _ => exact iteF k
def spWC : Sp := fun vs H Q _ => ∃ m : Nat, vs = [.int (m : Int)] ∧ m ≤ 6 ∧ ∀ H', Same H H' → Q (.int (2 ^ m - 1)) H'
theorem alone_sum : ∀ m : _root_.Fin 7, (aloneL.take m.1).sum = 2 ^ m.1 - 1 := by decide
theorem scWC : FnScope ["many"] ["many"] (defScope sWC) := ⟨rfl, rfl, rfl, by decide +kernel, rfl, by decide +kernel, by decide +kernel⟩
theorem ok_wc (t : Tx K mg "whole_company" sWC ["many"] f fd) (T : T K mg AL LN FR iF fCh fGM fCC fCA fPL SE NN NG NT NO NR NS) : Df P w K mg base CX0 1 "whole_company" ["many"] spWC f fd := by
  refine t.df0 scWC (fun vs H Q E h => ?_) (fun cdv A outer s H vs Q E hr h => ?_)
  · obtain ⟨m, rfl, _⟩ := h
    rfl
  · obtain ⟨m, rfl, hm, k⟩ := h
    refine ⟨_, (pss_one (ps_ret (pe_callB (call_sum rfl) (by rfl) T.b_sum bt_sum (pa_cons (pe_slice sl_tupA (pe_glob (v := .ref AL) (by rfl) T.mAL rfl) po_none (po_some (pv 0))) pa_nil)))), ?_⟩
    refine ⟨_, rfl, _, rfl, AL, _, rfl, T.al _, fun p H' s hq => ⟨p, aloneL.take m, rfl, .inr ?_, ?_⟩⟩
    · rw [cut_hi, ← List.map_take] at hq
      exact hq
    · rw [alone_sum ⟨m, by omega⟩]
      exact k H' s
def spChk (K : PySem.W.Frag) (NG : Addr) : Sp := fun vs H Q E => ∃ (v : V) (m : Nat), vs = [v, .int (m : Int)] ∧ m ≤ 6 ∧ Pl K H v ∧ (inB 0 (2 ^ m - 1) v = false → ∀ H', Same H H' → E (.ref NG) none H') ∧ (inB 0 (2 ^ m - 1) v = true → ∀ H', Same H H' → Q .non H')
theorem scChk : FnScope ["group", "many"] ["group", "many"] (defScope sChk) := ⟨rfl, rfl, rfl, by decide +kernel, rfl, by decide +kernel, by decide +kernel⟩
theorem ok_chk {f1 f2 : Addr} {fd1 fd2 : FuncData} (t : Tx K mg "check_group" sChk ["group", "many"] f fd) (T : T K mg AL LN FR iF fCh fGM fCC fCA fPL SE NN NG NT NO NR NS) (D_is_number_within : Df P w K mg base CX0 2 "is_number_within" ["thing", "least", "most"] (spWith K) f1 fd1)
    (D_whole_company : Df P w K mg base CX0 1 "whole_company" ["many"] spWC f2 fd2) : Df P w K mg base (CX1 P w) 3 "check_group" ["group", "many"] (spChk K NG) f fd := by
  refine t.df1 scChk (fun vs H Q E h => ?_) (fun cdv A outer s H vs Q E hr h => ?_)
  · obtain ⟨v, m, rfl, _⟩ := h
    rfl
  · obtain ⟨v, m, rfl, hm, pl, k0, k⟩ := h
    refine ⟨_, (pss_one (ps_if (pt_not (pt_val (pe_d0 D_is_number_within hr (by decide) (by rfl) (pa_cons (pv 0) (pa_cons pe_int (pa_cons (pe_d0 D_whole_company hr (by decide) (by rfl) (pa_cons (pv 1) pa_nil)) pa_nil)))))) (pss_one (ps_raise rais_def rfl (by rfl) T.mNG T.xNG (pa_cons pe_str pa_nil))) pss_nil)), ?_⟩
    refine ⟨_, rfl, _, rfl, m, rfl, hm, fun H' s => ⟨v, 0, _, rfl, pl.same s, _, rfl, ?_⟩⟩
    cases e : inB 0 (2 ^ m - 1) v with
    | true => exact iteF (k e H' s)
    | false => exact iteT ⟨by show 1 ≤ sizeLine; decide, k0 e H' s⟩
theorem alone_at {i : Int} (h0 : 0 ≤ i) (h5 : i ≤ 5) : atI (aloneL.map V.int) i = some (.int (alone i.toNat)) := by
  have h : i.toNat < 6 := by omega
  have all : ∀ j : _root_.Fin 6, (aloneL.map V.int)[j.1]? = some (.int (alone j.1)) := by decide
  have z := atI_nat (all ⟨i.toNat, h⟩)
  rw [show (((⟨i.toNat, h⟩ : _root_.Fin 6).1 : Nat) : Int) = i from Int.toNat_of_nonneg h0] at z
  exact z
def spHnd (K : PySem.W.Frag) (NG : Addr) : Sp := fun vs H Q E => ∃ v, vs = [v] ∧ Pl K H v ∧ (inB 0 (2 ^ 6 - 1) v = false → ∀ H', Same H H' → E (.ref NG) none H') ∧
  ∀ (g : Nat) (l : Addr) (H' : Hp), v = .int (g : Int) → g < 64 → H l = none → Same H H' → H' l = some (.lst ((hands g).map V.int)) → Q (.ref l) H'
theorem scHnd : FnScope ["group"] ["group"] (defScope sHnd) := ⟨rfl, rfl, rfl, by decide +kernel, rfl, by decide +kernel, by decide +kernel⟩
theorem ok_hnd {f1 : Addr} {fd1 : FuncData} (t : Tx K mg "hands_of" sHnd ["group"] f fd) (T : T K mg AL LN FR iF fCh fGM fCC fCA fPL SE NN NG NT NO NR NS) (D_check_group : Df P w K mg base (CX1 P w) 3 "check_group" ["group", "many"] (spChk K NG) f1 fd1) :
    Df P w K mg base (CX1 P w) 4 "hands_of" ["group"] (spHnd K NG) f fd := by
  refine t.df1 scHnd (fun vs H Q E h => ?_) (fun cdv A outer s H vs Q E hr h => ?_)
  · obtain ⟨v, rfl, _⟩ := h
    rfl
  · obtain ⟨v, rfl, pl, k0, k⟩ := h
    refine ⟨_, (pss_cons (ps_expr (pe_d1 rais_def.toPass D_check_group hr (by decide) (by rfl) (pa_cons (pv 0) (pa_cons (pe_callB call_len_seq (by rfl) T.b_len bt_len (pa_cons (pe_glob (v := .ref AL) (by rfl) T.mAL rfl) pa_nil)) pa_nil))))
      (pss_one (ps_ret (pe_comp (NB := ["hand", "group"]) (pick := [none, some 0]) (blk_mk (by with_unfolding_all rfl) (by exact (And.intro rfl trivial)) rfl (by decide +kernel) (by decide +kernel) (by rfl) (by rfl)) rfl
          (pi_range1 (by rfl) T.b_range (pa_cons (pe_callB call_len_seq (by rfl) T.b_len bt_len (pa_cons (pe_glob (v := .ref AL) (by rfl) T.mAL rfl) pa_nil)) pa_nil)) (fun _ _ _ => pg_name (i := 0) (show (["hand", "group"] : List Str).Nodup from by decide +kernel) rfl (Or.inl rfl))
          (fun _ _ _ => pif_one (pt_cmpR op_ne (pe_op op_and (pv 1) (pe_ix (ix_tupK K) (pe_glob (v := .ref AL) (by rfl) T.mAL rfl) (pv 0) (fun _ _ => rfl))) pe_int (nomark _))) (fun _ _ _ => (pv 0)))))), ?_⟩
    refine ⟨_, rfl, AL, _, rfl, .inr (T.al _), v, 6, rfl, by decide, pl, k0, fun h1 H' s1 => ?_⟩
    obtain ⟨g, rfl, hg⟩ := inB_natM h1
    have hg : g < 64 := hg
    refine ⟨AL, _, rfl, .inr (T.al _), _, rfl, by decide, by decide, ?_⟩
    refine comp_itr (handF g) (by decide) (fun i H2 kk kk0 hi h1 h2 => ?_) fun D hD => ?_
    · obtain ⟨j, rfl⟩ : ∃ j : Nat, j = i := ⟨i, rfl⟩
      have e0 : (0 : Int) + (j : Int) = (j : Int) := Int.zero_add _
      have hat : atI (aloneL.map V.int) ((0 : Int) + (j : Int)) = some (.int (alone j)) := by
        rw [e0]
        have z := alone_at (i := (j : Int)) (by omega) (by have : j < 6 := hi; omega)
        simpa using z
      refine ⟨_, rfl, _, rfl, AL, _, _, _, rfl, rfl, T.al _, hat, _, _, rfl, rfl, rfl, _, rfl, ?_⟩
      refine ite2 (fun h3 => ⟨_, rfl, h1 _ ?_⟩) (fun h3 => h2 ?_)
      · have z : ¬ V.int (Builtin.bitAnd (g : Int) (alone j)) = V.int 0 := of_decide_eq_false (by
          have z : (!decide (V.int (Builtin.bitAnd (g : Int) (alone j)) = V.int 0)) = true := h3
          simpa using z)
        rw [e0]
        unfold handF
        rw [if_neg fun q => z (congrArg V.int q)]
      · unfold handF
        refine if_pos (Classical.byContradiction fun q => h3 ?_)
        show (!decide (V.int (Builtin.bitAnd (g : Int) (alone j)) = V.int 0)) = true
        rw [decide_eq_false fun z => q (V.int.inj z)]
        rfl
    · have e' : (List.range 6).filterMap (handF g) = (hands g).map V.int := hands_comp ⟨g, hg⟩
      show Q _ (upd H' D (.lst ((List.range 6).filterMap (handF g))))
      rw [e']
      exact k g D _ rfl hg (s1.free hD) (s1.trans (.upd_new hD)) upd_same
def tabB (xs : List V) : Bool := [2, 4, 8, 16, 32, 64].contains xs.length && xs.all isI && decide (xs[0]? = some (.int 0))
def spIsT (K : PySem.W.Frag) : Sp := fun vs H Q _ => ∃ (p : Addr) (xs : List V), vs = [.ref p] ∧ H p = some (.lst xs) ∧ (∀ v ∈ xs, Pl K H v) ∧ xs.length ≤ 1000 ∧ ∀ H', Same H H' → Q (.bl (tabB xs)) H'
theorem scIsT : FnScope ["thing"] ["thing"] (defScope sIsT) := ⟨rfl, rfl, rfl, by decide +kernel, rfl, by decide +kernel, by decide +kernel⟩
theorem lens_in (n : Nat) : (!inV (.int (n : Int)) (cutV (lensL.map V.int) (some 1) none)) = !([2, 4, 8, 16, 32, 64].contains n) := by
  have e : cutV (lensL.map V.int) (some 1) none = [V.int 2, .int 4, .int 8, .int 16, .int 32, .int 64] := by decide
  rw [e]
  have q : ∀ k : Nat, eqV (.int (k : Int)) (.int (n : Int)) = (n == k) := fun k => by
    show ((k : Int) == (n : Int)) = (n == k)
    rw [Bool.eq_iff_iff, beq_iff_eq, beq_iff_eq]
    omega
  have := q 2; have := q 4; have := q 8; have := q 16; have := q 32; have := q 64
  simp_all [inV]
  rfl
theorem ok_ist {f1 : Addr} {fd1 : FuncData} (t : Tx K mg "is_table" sIsT ["thing"] f fd) (T : T K mg AL LN FR iF fCh fGM fCC fCA fPL SE NN NG NT NO NR NS) (D_is_number : Df P w K mg base CX0 1 "is_number" ["thing"] (spNum K) f1 fd1) :
    Df P w K mg base CX0 2 "is_table" ["thing"] (spIsT K) f fd := by
  refine t.df0 scIsT (fun vs H Q E h => ?_) (fun cdv A outer s H vs Q E hr h => ?_)
  · obtain ⟨p, xs, rfl, _⟩ := h
    rfl
  · obtain ⟨p, xs, rfl, hp, pl, hlen, k⟩ := h
    refine ⟨_, (pss_cons (ps_if (PW.pt (pw_or (pt_not (pt_val (pe_callB call_isi (by rfl) T.b_isi bt_isi (pa_cons (pv 0) (pa_cons (pe_bltn (v := .ty "list") (by rfl) T.b_list bt_list rfl) pa_nil))))) (pw_or1 (pt_cmpR op_notIn_seq (pe_callB call_len_seq (by rfl) T.b_len bt_len (pa_cons (pv 0) pa_nil)) (pe_slice sl_tupA (pe_glob (v := .ref LN) (by rfl) T.mLN rfl) (po_some pe_int) po_none) (by rfl))))) (pss_one (ps_ret pe_bl)) pss_nil)
      (pss_one (ps_ret (pe_and (pe_callB (call_all rfl) (by rfl) T.b_all bt_all (pa_cons (pe_comp (NB := ["number"]) (pick := [none]) (blk_mk (by with_unfolding_all rfl) (by exact trivial) rfl (by decide +kernel) (by decide +kernel) (by rfl) (by rfl)) rfl
          (pi_list (pv 0)) (fun _ _ _ => pg_name (i := 0) (show (["number"] : List Str).Nodup from by decide +kernel) rfl (Or.inl rfl))
          (fun _ _ _ => pif_nil) (fun _ _ _ => (pe_d0 D_is_number hr (by decide) (by rfl) (pa_cons (pv 0) pa_nil)))) pa_nil)) (pe_one (pe_cmpR op_eq (pe_ix ix_list (pv 0) pe_int (fun _ _ => rfl)) pe_int (nomark _))))))), ?_⟩
    refine ⟨_, rfl, .ref p, .ty "list", _, _, _, rfl, rfl, .of (.lst hp), Kd.lst.list_ K, _, rfl, iteF ?_⟩
    refine ⟨_, rfl, p, _, rfl, .inl (SqL.of hp), _, rfl, LN, _, rfl, T.ln _, fun q H1 s1 hq => ⟨q, _, rfl, .inr hq, rfl, by decide, _, rfl, ?_⟩⟩
    show if (!inV (.int (xs.length : Int)) (cutV (lensL.map V.int) (some 1) none)) = true then _ else _
    rw [lens_in]
    cases ec : [2, 4, 8, 16, 32, 64].contains xs.length with
    | false =>
      have e : false = tabB xs := by unfold tabB; rw [ec]; rfl
      refine iteT ?_
      have z := k H1 s1
      rw [← e] at z
      exact z
    | true =>
      refine iteF ⟨_, rfl, p, rfl, ⟨xs, SqL.of (s1 _ _ hp)⟩, ?_⟩
      refine comp_lst (xs := xs) (fun _ x => some (.bl (isI x))) (SqL.of (s1 _ _ hp)) (Nat.le_of_lt (small1000 hlen)) (fun i x H2 kk kk0 s2 hx h1 h2 => ?_) fun D H2 hD s2 hd => ?_
      · exact ⟨_, rfl, x, rfl, (pl x (List.mem_of_getElem? hx)).same (s1.trans s2), h1 _ rfl _ (.refl _)⟩
      · have ed : ((List.range xs.length).filterMap fun i => (xs[i]?).bind fun x => some (V.bl (isI x))) = (xs.map isI).map V.bl := by
          rw [List.map_map, ← fm_mapV]
          rfl
        rw [ed] at hd
        refine ⟨D, _, rfl, SqL.of hd, _, rfl, ?_⟩
        have ea : (xs.map isI).all id = xs.all isI := by rw [List.all_map]; rfl
        rw [ea]
        cases eb : xs.all isI with
        | false =>
          have e : false = tabB xs := by unfold tabB; rw [ec, eb]; rfl
          refine iteF ?_
          have z := k H2 (s1.trans s2)
          rw [← e] at z
          exact z
        | true =>
          have hpos : 0 < xs.length := by
            cases xs with
            | nil => exact absurd ec (by decide)
            | cons _ _ => exact Nat.succ_pos _
          obtain ⟨i, hi⟩ : ∃ i, xs[0]? = some (.int i) := by
            have hm := List.all_eq_true.mp eb xs[0] (List.getElem_mem hpos)
            cases e0 : xs[0] with
            | int i => exact ⟨i, by rw [List.getElem?_eq_getElem hpos, e0]⟩
            | _ => rw [e0] at hm; exact (Bool.false_ne_true hm).elim
          refine iteT ⟨_, rfl, p, _, _, _, rfl, rfl, SqL.of (s2 _ _ (s1 _ _ hp)), atI_nat hi, rfl, ?_⟩
          have e : decide (V.int i = V.int 0) = tabB xs := by unfold tabB; rw [ec, eb, hi]; simp
          show Q (.bl (decide (V.int i = V.int 0))) H2
          rw [e]
          exact k H2 (s1.trans s2)
def spHin (K : PySem.W.Frag) (NT : Addr) : Sp := fun vs H Q E => ∃ (p : Addr) (xs : List V), vs = [.ref p] ∧ H p = some (.lst xs) ∧ (∀ v ∈ xs, Pl K H v) ∧ xs.length ≤ 1000 ∧ (tabB xs = false → ∀ H', Same H H' → E (.ref NT) none H') ∧
  ∀ m : Nat, 1 ≤ m → m ≤ 6 → xs.length = 2 ^ m → tabB xs = true → ∀ H', Same H H' → Q (.int (m : Int)) H'
theorem scHin : FnScope ["table"] ["table"] (defScope sHin) := ⟨rfl, rfl, rfl, by decide +kernel, rfl, by decide +kernel, by decide +kernel⟩
theorem tab_len {xs : List V} (h : tabB xs = true) : ∃ m : Nat, 1 ≤ m ∧ m ≤ 6 ∧ xs.length = 2 ^ m := by
  have z : [2, 4, 8, 16, 32, 64].contains xs.length = true := by
    unfold tabB at h
    rw [Bool.and_eq_true, Bool.and_eq_true] at h
    exact h.1.1
  have z : xs.length ∈ [2, 4, 8, 16, 32, 64] := by simpa using z
  simp only [List.mem_cons, List.not_mem_nil, or_false] at z
  rcases z with z | z | z | z | z | z
  · exact ⟨1, by decide, by decide, z⟩
  · exact ⟨2, by decide, by decide, z⟩
  · exact ⟨3, by decide, by decide, z⟩
  · exact ⟨4, by decide, by decide, z⟩
  · exact ⟨5, by decide, by decide, z⟩
  · exact ⟨6, by decide, by decide, z⟩
theorem lens_at : ∀ m : _root_.Fin 7, lensL[m.1]? = some ((2 : Int) ^ m.1) ∧ ∀ j : _root_.Fin 7, j.1 < m.1 → lensL[j.1]? ≠ some ((2 : Int) ^ m.1) := by decide
theorem ok_hin {f1 : Addr} {fd1 : FuncData} (t : Tx K mg "hands_in" sHin ["table"] f fd) (T : T K mg AL LN FR iF fCh fGM fCC fCA fPL SE NN NG NT NO NR NS) (D_is_table : Df P w K mg base CX0 2 "is_table" ["thing"] (spIsT K) f1 fd1) :
    Df P w K mg base (CX1 P w) 3 "hands_in" ["table"] (spHin K NT) f fd := by
  refine t.df1 scHin (fun vs H Q E h => ?_) (fun cdv A outer s H vs Q E hr h => ?_)
  · obtain ⟨p, xs, rfl, _⟩ := h
    rfl
  · obtain ⟨p, xs, rfl, hp, pl, hlen, k0, k⟩ := h
    refine ⟨_, (pss_cons (ps_if (pt_not (pt_val (pe_d0 D_is_table hr (by decide) (by rfl) (pa_cons (pv 0) pa_nil)))) (pss_one (ps_raise rais_def rfl (by rfl) T.mNT T.xNT (pa_cons pe_str pa_nil))) pss_nil)
      (pss_one (ps_ret (pe_bm PySem.F.plainAttrs_tuple PySem.F.slot_tuple_index PySem.F.type_tuple_index mt_index (pe_glob (v := .ref LN) (by rfl) T.mLN rfl) (pa_cons (pe_callB call_len_seq (by rfl) T.b_len bt_len (pa_cons (pv 0) pa_nil)) pa_nil))))), ?_⟩
    refine ⟨_, rfl, p, xs, rfl, hp, pl, hlen, fun H1 s1 => ⟨_, rfl, ?_⟩⟩
    cases e : tabB xs with
    | false => exact iteT ⟨by show 1 ≤ sizeLine; decide, k0 e H1 s1⟩
    | true =>
      obtain ⟨m, h1, h6, hm⟩ := tab_len e
      obtain ⟨l1, l2⟩ := lens_at ⟨m, by omega⟩
      refine iteF ⟨.inr (.inl ⟨rfl, T.tyL⟩), _, rfl, p, _, rfl, .inl (SqL.of (s1 _ _ hp)), LN, lensL, _, m, rfl, rfl, T.ln _, ?_, ?_, k m h1 h6 hm e H1 s1⟩
      · rw [hm, l1]
        push_cast
        rfl
      · intro j hj
        have z := l2 ⟨j, by omega⟩ hj
        rw [hm]
        intro q
        refine z (q.trans ?_)
        push_cast
        rfl
def TabN (m : Nat) (rs : List Int) : Prop := 1 ≤ m ∧ m ≤ 6 ∧ rs.length = 2 ^ m ∧ rs[0]? = some 0
theorem TabN.zero {m : Nat} {rs : List Int} (t : TabN m rs) : rs.getD 0 0 = 0 := by rw [List.getD_eq_getElem?_getD, t.2.2.2]; rfl
theorem TabN.pos {m : Nat} {rs : List Int} (t : TabN m rs) : 2 ≤ rs.length ∧ rs.length ≤ 64 := by
  obtain ⟨m1, m6, h, _⟩ := t
  have h64 : 2 ^ m ≤ 64 := Nat.pow_le_pow_right (n := 2) (by decide) m6
  have h2m : 2 ≤ 2 ^ m := Nat.pow_le_pow_right (n := 2) (i := 1) (by decide) m1
  omega
theorem at_of {rs : List Int} {j : Nat} (hj : j < rs.length) : atI (rs.map V.int) (j : Int) = some (.int (rs.getD j 0)) := atI_nat (by rw [List.getElem?_map, List.getD_eq_getElem?_getD, List.getElem?_eq_getElem hj]; rfl)
theorem bor_all : ∀ a b : _root_.Fin 64, Builtin.bitOr ((a.1 : Nat) : Int) ((b.1 : Nat) : Int) = ((a.1 ||| b.1 : Nat) : Int) := by decide +kernel
theorem bor {a b : Nat} (ha : a < 64) (hb : b < 64) : Builtin.bitOr (a : Int) (b : Int) = ((a ||| b : Nat) : Int) := bor_all ⟨a, ha⟩ ⟨b, hb⟩
theorem tabB_of {m : Nat} {rs : List Int} (t : TabN m rs) : tabB (rs.map V.int) = true := by
  obtain ⟨m1, m6, h, h0⟩ := t
  have hc : [2, 4, 8, 16, 32, 64].contains (2 ^ m) = true := by
    have all : ∀ k : _root_.Fin 7, 1 ≤ k.1 → [2, 4, 8, 16, 32, 64].contains (2 ^ k.1) = true := by decide
    exact all ⟨m, by omega⟩ m1
  unfold tabB
  rw [List.length_map, h, hc, all_ints, List.getElem?_map, h0]
  rfl
theorem pow_nat (m : Nat) : ∃ n : Nat, 2 ^ m = n + 1 ∧ ((2 : Int) ^ m - 1 = (n : Int)) := by
  have h : 0 < 2 ^ m := Nat.pow_pos (by decide)
  have e : ((2 ^ m : Nat) : Int) = (2 : Int) ^ m := by push_cast; rfl
  exact ⟨2 ^ m - 1, by omega, by omega⟩
def bt (g i : Nat) : Int := ((g / 2 ^ i % 2 : Nat) : Int)
theorem bt_01 (g i : Nat) : bt g i = 0 ∨ bt g i = 1 := by unfold bt; omega
theorem bt_sm (g i : Nat) : Sm 2 (bt g i) := by
  show (bt g i).natAbs < 2 ^ 2
  rcases bt_01 g i with e | e <;> rw [e] <;> decide
theorem alone_bt : ∀ (g : _root_.Fin 64) (i : _root_.Fin 6), (if (!decide (V.int (Builtin.bitAnd ((g.1 : Nat) : Int) (alone i.1)) = V.int 0)) = true then (1 : Int) else 0) = bt g.1 i.1 := by decide +kernel
def spMrk : Sp := fun vs H Q _ => ∃ g m : Nat, vs = [.int (g : Int), .int (m : Int)] ∧ g < 64 ∧ m ≤ 6 ∧ ∀ D H', H D = none → Same H H' → H' D = some (.lst (lsV m (bt g))) → Q (.ref D) H'
theorem scMrk : FnScope ["group", "many"] ["group", "many"] (defScope sMrk) := ⟨rfl, rfl, rfl, by decide +kernel, rfl, by decide +kernel, by decide +kernel⟩
theorem ok_mrk (t : Tx K mg "marks_of" sMrk ["group", "many"] f fd) (T : T K mg AL LN FR iF fCh fGM fCC fCA fPL SE NN NG NT NO NR NS) : Df P w K mg base CX0 1 "marks_of" ["group", "many"] spMrk f fd := by
  refine t.df0 scMrk (fun vs H Q E h => ?_) (fun cdv _A outer s H vs Q E hr h => ?_)
  · obtain ⟨g, m, rfl, _⟩ := h
    rfl
  · obtain ⟨g, m, rfl, hg, hm, k⟩ := h
    refine ⟨_, (pss_one (ps_ret (pe_comp (NB := ["hand", "group"]) (pick := [none, some 0]) (blk_mk (by with_unfolding_all rfl) (by exact (And.intro rfl trivial)) rfl (by decide +kernel) (by decide +kernel) (by rfl) (by rfl)) rfl
          (pi_range1 (by rfl) T.b_range (pa_cons (pv 1) pa_nil)) (fun _ _ _ => pg_name (i := 0) (show (["hand", "group"] : List Str).Nodup from by decide +kernel) rfl (Or.inl rfl))
          (fun _ _ _ => pif_nil) (fun _ _ _ => (pe_ifExp (pt_cmpR op_ne (pe_op op_and (pv 1) (pe_ix (ix_tupK K) (pe_glob (v := .ref AL) (by rfl) T.mAL rfl) (pv 0) (fun _ _ => rfl))) pe_int (nomark _)) pe_int pe_int))))), ?_⟩
    refine ⟨_, rfl, m, rfl, by omega, by omega, ?_⟩
    refine comp_rng (n := m) (fun j => some (.int (bt g j))) (Nat.le_of_lt (small1000 (by omega))) (fun j H2 kk kk0 s2 hj g1 g2 => ?_) fun D H2 hD s2 hd => ?_
    · have e0 : (0 : Int) + (j : Int) = (j : Int) := Int.zero_add _
      have hat : atI (aloneL.map V.int) ((0 : Int) + (j : Int)) = some (.int (alone j)) := by
        rw [e0]
        have z := alone_at (i := (j : Int)) (by omega) (by omega)
        simpa using z
      have z := alone_bt ⟨g, hg⟩ ⟨j, by omega⟩
      dsimp only at z
      refine ⟨_, rfl, _, rfl, AL, _, _, _, rfl, rfl, T.al _, hat, _, _, rfl, rfl, rfl, _, rfl, ite2 (fun h3 => ?_) (fun h3 => ?_)⟩
      · rw [if_pos h3] at z
        exact g1 _ (by rw [← z]) _ (.refl _)
      · rw [if_neg h3] at z
        exact g1 _ (by rw [← z]) _ (.refl _)
    · refine k D H2 hD s2 ?_
      rw [hd, List.filterMap_eq_map']
      rfl
theorem frT_eq {x y X d : Int} (hy : 0 < y) (hd : 0 < d) (e : x * d = X * y) : frT x y = frT X d := by
  obtain ⟨a1, b1, c1, _⟩ := t_spec (X := x) hy
  obtain ⟨a2, b2, c2, _⟩ := t_spec (X := X) hd
  generalize hp1 : ta x y = p1 at *
  generalize hq1 : tb x y = q1 at *
  generalize hp2 : ta X d = p2 at *
  generalize hq2 : tb X d = q2 at *
  have cross : p1 * q2 = p2 * q1 := by
    have hne : y * d ≠ 0 := Int.mul_ne_zero (by omega) (by omega)
    refine Int.eq_of_mul_eq_mul_right hne ?_
    have e1 : p1 * q2 * (y * d) = (p1 * y) * q2 * d := by grind
    have e2 : p2 * q1 * (y * d) = (p2 * d) * q1 * y := by grind
    rw [e1, e2, a1, a2]
    have e3 : x * q1 * q2 * d = x * d * (q1 * q2) := by grind
    have e4 : X * q2 * q1 * y = X * y * (q1 * q2) := by grind
    rw [e3, e4, e]
  have d12 : q1 ∣ q2 := cop_dvd (m := p1) (by rw [cross]; exact Int.dvd_mul_left ..) (by rw [Int.gcd_comm]; exact c1)
  have d21 : q2 ∣ q1 := cop_dvd (m := p2) (by rw [← cross]; exact Int.dvd_mul_left ..) (by rw [Int.gcd_comm]; exact c2)
  have qq : q1 = q2 := by
    have l1 := Int.le_of_dvd (by omega) d12
    have l2 := Int.le_of_dvd (by omega) d21
    omega
  have pp : p1 = p2 := by
    rw [qq] at cross
    exact Int.eq_of_mul_eq_mul_right (by omega) cross
  show HO.tup [V.int (ta x y), V.int (tb x y)] = HO.tup [V.int (ta X d), V.int (tb X d)]
  rw [hp1, hq1, hp2, hq2, pp, qq]
def spPlu : Sp := fun vs H Q _ => ∃ (p q : Addr) (a b d : Int), vs = [.ref p, .ref q] ∧ H p = some (frT a d) ∧ H q = some (frT b d) ∧ 0 < d ∧ Sm 3000 d ∧ Sm 400000 a ∧ Sm 400000 b ∧ ∀ r H', Same H H' → H' r = some (frT (a + b) d) → Q (.ref r) H'
theorem scPlu : FnScope ["one", "other"] ["one", "other"] (defScope sPlu) := ⟨rfl, rfl, rfl, by decide +kernel, rfl, by decide +kernel, by decide +kernel⟩
theorem ok_plu {f1 : Addr} {fd1 : FuncData} (t : Tx K mg "plus" sPlu ["one", "other"] f fd) (T : T K mg AL LN FR iF fCh fGM fCC fCA fPL SE NN NG NT NO NR NS) (D_fraction : Df P w K mg base (CX1 P w) 2 "fraction" ["top", "bottom"] (spFr K NN) f1 fd1) :
    Df P w K mg base CX0 3 "plus" ["one", "other"] spPlu f fd := by
  refine t.df0 scPlu (fun vs H Q E h => ?_) (fun cdv A outer s H vs Q E hr h => ?_)
  · obtain ⟨p, q, a, b, d, rfl, _⟩ := h
    rfl
  · obtain ⟨p, q, a, b, d, rfl, hp, hq, d0, sd, sa, sb, k⟩ := h
    obtain ⟨e1, y1, _, _⟩ := t_spec (X := a) d0
    obtain ⟨e2, y2, _, _⟩ := t_spec (X := b) d0
    have n2 : 1 * 1 ≤ tb a d * tb b d := Int.mul_le_mul y1 y2 (by decide) (by omega)
    have s1 := tb_le (X := a) d0 sd
    have s2 := tb_le (X := b) d0 sd
    refine ⟨_, (pss_one (ps_ret (pe_d1 pass_no D_fraction hr (by decide) (by rfl) (pa_cons (pe_op op_add (pe_op op_mulB (pe_ix ix_tup (pv 0) pe_int (fun _ _ => rfl)) (pe_ix ix_tup (pv 1) pe_int (fun _ _ => rfl))) (pe_op op_mulB (pe_ix ix_tup (pv 1) pe_int (fun _ _ => rfl)) (pe_ix ix_tup (pv 0) pe_int (fun _ _ => rfl)))) (pa_cons (pe_op op_mulB (pe_ix ix_tup (pv 0) pe_int (fun _ _ => rfl)) (pe_ix ix_tup (pv 1) pe_int (fun _ _ => rfl))) pa_nil))))), ?_⟩
    refine ⟨_, rfl, p, _, _, _, rfl, rfl, SqT.of hp, rfl, _, rfl, q, _, _, _, rfl, rfl, SqT.of hq, rfl, _, _, rfl, rfl, (ta_le sa).mb s2, _, rfl, q, _, _, _, rfl, rfl, SqT.of hq, rfl, _, rfl, p, _, _, _, rfl, rfl, SqT.of hp, rfl, _, _, rfl, rfl, (ta_le sb).mb s1, _, _, rfl, rfl, _, rfl, p, _, _, _, rfl, rfl, SqT.of hp, rfl, _, rfl, q, _, _, _, rfl, rfl, SqT.of hq, rfl, _, _, rfl, rfl, s1.mb s2, ?_⟩
    dsimp only [tNil, List.cons_append, List.nil_append]
    refine mk_fr (by show tb a d * tb b d ≠ 0; omega) ((s1.mul s2).mono (by decide)) fun r hr => k r _ (.upd_new hr) ?_
    rw [upd_same]
    have e : frT (ta a d * tb b d + ta b d * tb a d) (tb a d * tb b d) = frT (a + b) d := by
      refine frT_eq (by omega) d0 ?_
      have z1 : (ta a d * tb b d + ta b d * tb a d) * d = (ta a d * d) * tb b d + (ta b d * d) * tb a d := by grind
      rw [z1, e1, e2]
      grind
    exact congrArg some e
theorem hN_sm (g : Nat) (Y : Nat → Int) : ∀ i, ((hN g i).map fun h => Y h.toNat).sum = Wg.sm i fun h => bt g h * Y h
  | 0 => rfl
  | i + 1 => by
    have ih := hN_sm g Y i
    show _ = (Wg.sm i fun h => bt g h * Y h) + bt g i * Y i
    rw [← ih]
    have eh : hN g (i + 1) = if g / 2 ^ i % 2 = 1 then hN g i ++ [(i : Int)] else hN g i := rfl
    rw [eh]
    unfold bt
    split
    · rename_i e
      rw [e, List.map_append, List.sum_append, List.map_cons, List.map_nil, List.sum_cons, List.sum_nil, Int.add_zero, Int.toNat_natCast]
      simp
    · have e : g / 2 ^ i % 2 = 0 := by omega
      rw [e]
      simp
theorem bt_hi {m g i : Nat} (hg : g < 2 ^ m) (hi : m ≤ i) : bt g i = 0 := by
  unfold bt
  rw [Nat.div_eq_of_lt (Nat.lt_of_lt_of_le hg (Nat.pow_le_pow_right (by decide) hi))]
  rfl
theorem sm_more {m g : Nat} {Y : Nat → Int} (hg : g < 2 ^ m) : ∀ k, (Wg.sm (m + k) fun h => bt g h * Y h) = Wg.sm m fun h => bt g h * Y h
  | 0 => rfl
  | k + 1 => by
    show (Wg.sm (m + k) fun h => bt g h * Y h) + bt g (m + k) * Y (m + k) = _
    rw [sm_more hg k, bt_hi hg (by omega), Int.zero_mul, Int.add_zero]
def spSho (K : PySem.W.Frag) : Sp := fun vs H Q _ => ∃ (q : Addr) (m g : Nat) (Y : Nat → Int) (d : Int) (ws : List Addr), vs = [.int (g : Int), .ref q] ∧ FrL m Y d H q ws ∧ m ≤ 6 ∧ g < 2 ^ m ∧ 0 < d ∧ Sm 3000 d ∧ (∀ j, Sm 330000 (Y j)) ∧
  ∀ r H', Same H H' → H' r = some (frT (Wg.sm m fun i => bt g i * Y i) d) → Q (.ref r) H'
theorem scSho : FnScope ["group", "shares", "total", "hand"] ["group", "shares"] (defScope sSho) := ⟨rfl, rfl, rfl, by decide +kernel, rfl, by decide +kernel, by decide +kernel⟩
theorem sum_sm {Y : Nat → Int} (hY : ∀ j, Sm 330000 (Y j)) : ∀ (l : List Int), l.length ≤ 60000 → Sm (330000 + l.length) (l.map fun h => Y h.toNat).sum
  | [], _ => Sm.zero
  | h :: l, hl => by
    have ih := sum_sm hY l (by rw [List.length_cons] at hl; omega)
    rw [List.map_cons, List.sum_cons, List.length_cons]
    exact (((hY h.toNat).mono (Nat.le_add_right _ _)).add ih)
theorem ok_sho {f1 f2 : Addr} {fd1 fd2 : FuncData} (t : Tx K mg "share_of" sSho ["group", "shares"] f fd) (T : T K mg AL LN FR iF fCh fGM fCC fCA fPL SE NN NG NT NO NR NS) (D_hands_of : Df P w K mg base (CX1 P w) 4 "hands_of" ["group"] (spHnd K NG) f1 fd1)
    (D_plus : Df P w K mg base CX0 3 "plus" ["one", "other"] spPlu f2 fd2) : Df P w K mg base CX0 5 "share_of" ["group", "shares"] (spSho K) f fd := by
  refine t.df0 scSho (fun vs H Q E h => ?_) (fun cdv A outer s H vs Q E hr h => ?_)
  · obtain ⟨q, m, g, Y, d, ws, rfl, _⟩ := h
    rfl
  · obtain ⟨q, m, g, Y, d, ws, rfl, fl, m6, gm, d0, sd, sY, k⟩ := h
    have h64 : g < 64 := Nat.lt_of_lt_of_le gm (pow6 m6)
    refine ⟨_, (pss_cons (ps_set (i := 2) scSho.nd rfl (Or.inl rfl) (pe_tup (pa_cons pe_int (pa_cons pe_int pa_nil))))
      (pss_cons (ps_for PassesOwn.never rfl (pi_list (pe_d1 pass_no D_hands_of hr (by decide) (by rfl) (pa_cons (pv 0) pa_nil))) (pg_name (i := 3) scSho.nd rfl (Or.inl rfl))
        (pss_one (ps_set (i := 2) scSho.nd rfl (Or.inl rfl) (pe_d0 D_plus hr (by decide) (by rfl) (pa_cons (pv 2) (pa_cons (pe_ix ix_list (pv 1) (pv 3) (fun _ _ => rfl)) pa_nil))))))
      (pss_one (ps_ret (pv 2))))), ?_⟩
    refine ⟨by show 2 ≤ sizeLine; decide, fun r0 hr0 => ?_⟩
    have u0 := Same.upd_new (o := .tup [V.int 0, V.int 1]) hr0
    have k0 : upd H r0 (.tup [V.int 0, V.int 1]) r0 = some (frT 0 d) := by rw [frT_zero d0]; exact upd_same
    generalize upd H r0 (.tup [V.int 0, V.int 1]) = H0 at u0 k0 ⊢
    refine ⟨_, rfl, _, rfl, .int _, fun no => ?_, fun g' la H1 hv _ hla s1 hl1 => ?_⟩
    · exact absurd no (by rw [nat_inB (m := 6) h64]; decide)
    obtain rfl : g = g' := by have := V.int.inj hv; omega
    have hal : ∀ h ∈ hands g, 0 ≤ h ∧ h < m := fun h hh => hN_in2 gm 6 h hh
    have hlen : (hands g).length ≤ 6 := hN_len g 6
    refine ⟨la, rfl, ⟨_, SqL.of hl1⟩, ?_⟩
    refine for_list (xs := (hands g).map V.int) (fun j σ' H' => Same H1 H' ∧ ∃ (r : Addr) (o3 : Option V), H' r = some (frT (((hands g).take j).map fun h => Y h.toNat).sum d) ∧ σ' = [some (.int (g : Int)), some (.ref q), some (.ref r), o3]) ⟨.refl _, r0, _, s1 _ _ k0, rfl⟩ ?_ ?_ ?_
    · rintro j σ' H' _ ⟨s2, _⟩
      exact SqL.of (s2 _ _ hl1)
    · rintro j x σ' H2 hx ⟨s2, r, o3, hr2, rfl⟩
      obtain ⟨h, hh, rfl⟩ : ∃ h : Int, (hands g)[j]? = some h ∧ V.int h = x := by
        rw [List.getElem?_map] at hx
        cases e : (hands g)[j]? with
        | none => rw [e] at hx; cases hx
        | some h => rw [e] at hx; exact ⟨h, rfl, Option.some.inj hx⟩
      obtain ⟨z0, zm⟩ := hal h (List.mem_of_getElem? hh)
      have hw : h.toNat < ws.length := by rw [fl.len]; omega
      have s02 := u0.trans (s1.trans s2)
      have hat : atI (ws.map V.ref) h = some (.ref ws[h.toNat]) := by
        have z := atI_nat (xs := ws.map V.ref) (j := h.toNat) (v := .ref ws[h.toNat]) (by rw [List.getElem?_map, List.getElem?_eq_getElem hw]; rfl)
        rw [Int.toNat_of_nonneg z0] at z
        exact z
      have sS := sum_sm sY ((hands g).take j) (by rw [List.length_take]; omega)
      refine ⟨_, rfl, _, rfl, _, rfl, q, _, _, _, rfl, rfl, SqL.of (s02 _ _ fl.hr), hat, r, ws[h.toNat], _, Y h.toNat, d, rfl, hr2, s02 _ _ (fl.at_ _ _ (List.getElem?_eq_getElem hw)), d0, sd, sS.mono (by rw [List.length_take]; omega), (sY _).mono (by decide), fun r' H3 s3 h3 => ?_⟩
      refine ⟨s2.trans s3, r', _, ?_, rfl⟩
      have et : (hands g).take (j + 1) = (hands g).take j ++ [h] := by rw [List.take_add_one, hh]; rfl
      rw [h3, et, List.map_append, List.sum_append, List.map_cons, List.map_nil, List.sum_cons, List.sum_nil, Int.add_zero]
    · rintro σ' H2 ⟨s2, r, o3, hr2, rfl⟩
      refine ⟨_, rfl, k r H2 (u0.trans (s1.trans s2)) ?_⟩
      rw [hr2, List.length_map, List.take_length]
      have e : ((hands g).map fun h => Y h.toNat).sum = Wg.sm m fun i => bt g i * Y i := by
        unfold hands
        rw [hN_sm]
        have z := sm_more (Y := Y) gm (6 - m)
        rw [show m + (6 - m) = 6 by omega] at z
        exact z
      rw [e]
theorem eqv_pair (a b c e : Int) : PyData.eqv (.tuple [.int a, .int b]) (.tuple [.int c, .int e]) = (decide (a = c) && decide (b = e)) := by
  simp [PyData.eqv, PyData.eqvAll]
  rfl
theorem dep_pair (a b : Int) : (PyData.tuple [.int a, .int b]).depth ≤ 64 := by simp [PyData.depth, PyData.depthAll]
theorem dat_fr {K : PySem.W.Frag} {H : Hp} {w : Addr} {X d : Int} (h : H w = some (frT X d)) : DatX K H (.ref w) (.tuple [.int (ta X d), .int (tb X d)]) := .tup (SqT.of h) (.cons (.int _) (.cons (.int _) .nil))
theorem fr_whole {X d c : Int} (d0 : 0 < d) : (decide (ta X d = c) && decide (tb X d = 1)) = decide (X = c * d) := by
  obtain ⟨e1, y1, _, yd⟩ := t_spec (X := X) d0
  by_cases h : X = c * d
  · have z : frT X d = frT c 1 := frT_eq d0 (by decide) (by rw [h]; grind)
    have z1 : frT c 1 = .tup [.int c, .int 1] := by
      have e : dv c 1 = 1 := by unfold dv; rw [if_neg (by decide), Int.gcd_one]; rfl
      unfold frT
      rw [e, Int.fdiv_one, Int.fdiv_one]
    rw [z1] at z
    have z : HO.tup [V.int (ta X d), V.int (tb X d)] = HO.tup [V.int c, V.int 1] := z
    injection z with z
    injection z with a b
    injection b with b _
    rw [decide_eq_true h, V.int.inj a, V.int.inj b]
    simp
  · rw [decide_eq_false h]
    by_cases h1 : tb X d = 1
    · rw [h1, Int.mul_one] at e1
      rw [decide_eq_false fun z => h (by rw [← e1, z])]
      rfl
    · rw [decide_eq_false h1, Bool.and_false]
def RwAll (H : Hp) (d : Int) : List V → List (Int × Int) → Prop
  | [], [] => True
  | v :: vs, p :: ps => (∃ a w, v = .ref a ∧ H a = some (.tup [.int p.1, .ref w]) ∧ H w = some (frT p.2 d)) ∧ RwAll H d vs ps
  | _, _ => False
theorem RwAll.t {H H' : Hp} {d : Int} (s : SameT H H') : ∀ {vs : List V} {ps : List (Int × Int)}, RwAll H d vs ps → RwAll H' d vs ps
  | [], [], _ => trivial
  | v :: vs, p :: ps, ⟨⟨a, w, e, h, h'⟩, r⟩ => ⟨⟨a, w, e, s _ _ h, s _ _ h'⟩, r.t s⟩
  | [], _ :: _, h => h.elim
  | _ :: _, [], h => h.elim
theorem RwAll.app {H : Hp} {d : Int} {a w : Addr} {p : Int × Int} (h : H a = some (.tup [.int p.1, .ref w])) (h' : H w = some (frT p.2 d)) : ∀ {vs : List V} {ps : List (Int × Int)}, RwAll H d vs ps → RwAll H d (vs ++ [.ref a]) (ps ++ [p])
  | [], [], _ => ⟨⟨a, w, rfl, h, h'⟩, trivial⟩
  | v :: vs, q :: ps, ⟨x, r⟩ => ⟨x, r.app h h'⟩
  | [], _ :: _, h => h.elim
  | _ :: _, [], h => h.elim
def wgL (n : Nat) (X : Nat → Int) : List (Int × Int) := ((List.range n).filter fun j => decide (X j ≠ 0)).map fun (j : Nat) => (1 + (j : Int), X j)
theorem wgL_succ (n : Nat) (X : Nat → Int) : wgL (n + 1) X = if X n ≠ 0 then wgL n X ++ [(1 + (n : Int), X n)] else wgL n X := by
  unfold wgL
  rw [List.range_succ, List.filter_append, List.map_append, List.filter_cons, List.filter_nil]
  by_cases h : X n ≠ 0
  · rw [if_pos (decide_eq_true h), if_pos h]; rfl
  · rw [if_neg (by rw [decide_eq_false h]; exact Bool.false_ne_true), if_neg h, List.map_nil, List.append_nil]
structure SShr (m n : Nat) (tb : Nat → Int) (d : Int) (Y : Nat → Int) : Prop where
  d0 : 0 < d
  ds : Sm 3000 d
  sY : ∀ j, Sm 300000 (Y j)
  no : ∀ g, g < n → tb g * d ≤ Wg.sm m fun i => bt g i * Y i
  all : (Wg.sm m Y) = tb (n - 1) * d
structure SWgh (m n : Nat) (tb : Nat → Int) (d : Int) (X : Nat → Int) : Prop where
  d0 : 0 < d
  ds : Sm 3000 d
  sX : ∀ j, Sm 300000 (X j)
  x0 : ∀ j, 0 ≤ X j
  hands : ∀ i, i < m → (Wg.sm (n - 1) fun j => bt (j + 1) i * X j) = d
  more : tb (n - 1) * d < Wg.sm (n - 1) fun j => tb (j + 1) * X j
def STold (m n : Nat) (tb : Nat → Int) (H H' : Hp) (r : Addr) : Prop :=
  (∃ lp ps d Y, H' r = some (.tup [.str "shares", .ref lp]) ∧ FrL m Y d H' lp ps ∧ H lp = none ∧ SShr m n tb d Y) ∨
  (∃ lz ys d X, H' r = some (.tup [.str "weighing", .ref lz]) ∧ H' lz = some (.lst ys) ∧ H lz = none ∧ RwAll H' d ys (wgL (n - 1) X) ∧ SWgh m n tb d X)
def spSta (K : PySem.W.Frag) (NT : Addr) : Sp := fun vs H Q E => ∃ (p : Addr) (xs : List V), vs = [.ref p] ∧ H p = some (.lst xs) ∧ (∀ v ∈ xs, Pl K H v) ∧ xs.length ≤ 1000 ∧ (tabB xs = false → ∀ H', Same H H' → E (.ref NT) none H') ∧
  (tabB xs = true → ∃ (m n : Nat) (tb : Nat → Int), 1 ≤ m ∧ m ≤ 6 ∧ n = 2 ^ m ∧ xs = lsV n tb ∧ tb 0 = 0 ∧ (∀ j, Sm 90000 (tb j)) ∧ ∀ r H', Same H H' → STold m n tb H H' r → Q (.ref r) H')
theorem pwf_inj : ∀ a b : _root_.Fin 7, 2 ^ a.1 = 2 ^ b.1 → a.1 = b.1 := by decide
theorem st_Inst {m n : Nat} (m1 : 1 ≤ m) (m6 : m ≤ 6) (hn : n ≤ 64) : Inst m (n - 1) (fun j => bt (j + 1)) (fun _ => 1) := ⟨m1, by omega, by omega, fun j i => (bt_sm (j + 1) i).mono (by decide), fun _ => Sm.of 2 (by decide) (by decide)⟩
theorem fac6 : ∀ m : _root_.Fin 7, Wg.fac m.1 * 1 ^ m.1 < 2 ^ 3000 := by decide +kernel
theorem st_small {m : Nat} {A : Nat → Nat → Int} {due : Nat → Int} {d : Int} (m6 : m ≤ 6) (dm : DSmall m A due d) (hA : ∀ j i, (A j i).natAbs ≤ 1) (hd : ∀ i, (due i).natAbs ≤ 1) : Sm 3000 d :=
  Nat.lt_of_le_of_lt (dm 1 (Nat.le_refl _) hA hd) (fac6 ⟨m, by omega⟩)
theorem bt_nab (g i : Nat) : (bt g i).natAbs ≤ 1 := by rcases bt_01 g i with e | e <;> rw [e] <;> decide
theorem whole_bt : ∀ (m : _root_.Fin 7) (i : _root_.Fin 6), i.1 < m.1 → bt (2 ^ m.1 - 1) i.1 = 1 := by decide +kernel
theorem whole_sm {m : Nat} (m6 : m ≤ 6) (Y : Nat → Int) : (Wg.sm m fun i => bt (2 ^ m - 1) i * Y i) = Wg.sm m Y := Wg.sm_ext fun i hi => by
  rw [show bt (2 ^ m - 1) i = 1 from whole_bt ⟨m, by omega⟩ ⟨i, by omega⟩ hi, Int.one_mul]
theorem some_hand : ∀ (m : _root_.Fin 7) (g : _root_.Fin 64), 1 ≤ g.1 → g.1 < 2 ^ m.1 → ∃ i : _root_.Fin 6, i.1 < m.1 ∧ bt g.1 i.1 = 1 := by decide +kernel
theorem sm_nn {n : Nat} {f : Nat → Int} (h : ∀ j, j < n → 0 ≤ f j) : 0 ≤ Wg.sm n f := by
  have z : (Wg.sm n fun _ => (0 : Int)) = 0 := Wg.sm_zero fun _ _ => rfl
  rw [← z]
  exact Wg.sm_le h
theorem sm_nn_zero {n : Nat} {f : Nat → Int} (h : ∀ j, j < n → 0 ≤ f j) (e : Wg.sm n f = 0) : ∀ j, j < n → f j = 0 := by
  induction n with
  | zero => intro j hj; omega
  | succ n ih =>
    have e : Wg.sm n f + f n = 0 := e
    have a := sm_nn (n := n) fun j hj => h j (by omega)
    have b := h n (by omega)
    intro j hj
    by_cases z : j = n
    · subst z; omega
    · exact ih (fun j hj => h j (by omega)) (by omega) j (by omega)
theorem cut_tab {n : Nat} {g : Nat → Int} : cutV (lsV n g) (some 1) none = lsV (n - 1) fun j => g (j + 1) := by
  rw [show (1 : Int) = ((1 : Nat) : Int) from rfl, cut_lo]
  refine List.ext_getElem? fun i => ?_
  rw [List.getElem?_drop]
  rcases Nat.lt_or_ge i (n - 1) with h | h
  · rw [lsV_get (by omega), lsV_get h, Nat.add_comm]
  · rw [List.getElem?_eq_none (by rw [lsV_len]; omega), List.getElem?_eq_none (by rw [lsV_len]; omega)]
theorem fr_zero_ne {X d : Int} (d0 : 0 < d) : (!PyData.eqv (.tuple [.int (ta X d), .int (tb X d)]) (.tuple [.int 0, .int 1])) = decide (X ≠ 0) := by
  rw [eqv_pair, fr_whole d0, Int.zero_mul]
  by_cases h : X = 0
  · rw [decide_eq_true h, decide_eq_false (fun z => z h)]; rfl
  · rw [decide_eq_false h, decide_eq_true h]; rfl
theorem scSta : FnScope ["table", "many", "whole", "groups", "columns", "told", "weights", "prices"] ["table"] (defScope sSta) := ⟨rfl, rfl, rfl, by decide +kernel, rfl, by decide +kernel, by decide +kernel⟩
theorem ok_sta {f1 f2 f3 f4 f5 : Addr} {fd1 fd2 fd3 fd4 fd5 : FuncData} (t : Tx K mg "stable" sSta ["table"] f fd) (T : T K mg AL LN FR iF fCh fGM fCC fCA fPL SE NN NG NT NO NR NS) (D_hands_in : Df P w K mg base (CX1 P w) 3 "hands_in" ["table"] (spHin K NT) f1 fd1) (D_whole_company : Df P w K mg base CX0 1 "whole_company" ["many"] spWC f2 fd2)
    (D_marks_of : Df P w K mg base CX0 1 "marks_of" ["group", "many"] spMrk f3 fd3) (D_weigh : Df P w K mg base (CX1 P w) 5 "weigh" ["columns", "due", "gains"] (spWgh K NR) f4 fd4) (D_share_of : Df P w K mg base CX0 5 "share_of" ["group", "shares"] (spSho K) f5 fd5) :
    Df P w K mg base (CX1 P w) 6 "stable" ["table"] (spSta K NT) f fd := by
  refine t.df1 scSta (fun vs H Q E h => ?_) (fun cdv _A outer s H vs Q E hr h => ?_)
  · obtain ⟨p, xs, rfl, _⟩ := h
    rfl
  · obtain ⟨p, xs, rfl, hp, pl, hl, k0, k⟩ := h
    refine ⟨_, (pss_cons (ps_set (i := 1) scSta.nd rfl (by first | exact Or.inl rfl | exact Or.inr rfl) (pe_d1 rais_def.toPass D_hands_in hr (by decide) (by rfl) (pa_cons (pv 0) pa_nil)))
      (pss_cons (ps_set (i := 2) scSta.nd rfl (Or.inl rfl) (pe_d0 D_whole_company hr (by decide) (by rfl) (pa_cons (pv 1) pa_nil)))
      (pss_cons (ps_set (i := 3) scSta.nd rfl (by first | exact Or.inl rfl | exact Or.inr rfl) (pe_listRange2 (by rfl) T.b_list (by rfl) T.b_range rfl (pa_cons pe_int (pa_cons (pe_op op_add (pv 2) pe_int) pa_nil))))
      (pss_cons (ps_setC (NB := ["group", "many"]) (pick := [none, some 1]) (i := 4) scSta.nd rfl (Or.inl rfl) (by rfl) (blk_mk (by with_unfolding_all rfl) (by exact (And.intro rfl trivial)) rfl (by decide +kernel) (by decide +kernel) (by rfl) (by rfl)) rfl
          (pi_list (pv 3)) (fun _ _ _ => pg_name (i := 0) (show (["group", "many"] : List Str).Nodup from by decide +kernel) rfl (Or.inl rfl))
          (fun _ _ _ => pif_nil) (fun _ _ _ => (pe_d0 D_marks_of hr (by decide) (by rfl) (pa_cons (pv 0) (pa_cons (pv 1) pa_nil)))))
      (pss_cons (ps_set (i := 5) scSta.nd rfl (Or.inl rfl) (pe_d1 rais_def.toPass D_weigh hr (by decide) (by rfl) (pa_cons (pv 4) (pa_cons (pe_op op_rep (pe_lst (pa_cons pe_int pa_nil)) (pv 1)) (pa_cons (pe_slice sl_list (pv 0) (po_some pe_int) po_none) pa_nil)))))
      (pss_cons (ps_set (i := 6) scSta.nd rfl (by first | exact Or.inl rfl | exact Or.inr rfl) (pe_ix ix_tup (pv 5) pe_int (fun _ _ => rfl)))
      (pss_cons (ps_set (i := 7) scSta.nd rfl (Or.inl rfl) (pe_ix ix_tup (pv 5) pe_int (fun _ _ => rfl)))
      (pss_cons (ps_if (pt_cmpR (op_eqX2 hr.units) (pe_d0 D_share_of hr (by decide) (by rfl) (pa_cons (pv 2) (pa_cons (pv 7) pa_nil))) (pe_tup (pa_cons (pe_ix ix_list (pv 0) (pv 2) (fun _ _ => rfl)) (pa_cons pe_int pa_nil))) (nomark _)) (pss_one (ps_ret (pe_tup (pa_cons pe_str (pa_cons (pv 7) pa_nil))))) pss_nil)
      (pss_one (ps_ret (pe_tup (pa_cons pe_str (pa_cons (pe_comp (NB := ["group", "weight"]) (pick := [none, none]) (blk_mk (by with_unfolding_all rfl) (by exact trivial) rfl (by decide +kernel) (by decide +kernel) (by rfl) (by rfl)) rfl
          (pi_zip (by rfl) T.b_zip (pa_cons (pv 3) (pa_cons (pv 6) pa_nil))) (fun _ _ _ => (show PG _ _ (gTup K 2 (gCons (gName 0) (gCons (gName 1) gNil))) from pg_tup rfl (pgs_cons (pg_name (i := 0) (show (["group", "weight"] : List Str).Nodup from by decide +kernel) rfl (Or.inl rfl)) (pgs_cons (pg_name (i := 1) (show (["group", "weight"] : List Str).Nodup from by decide +kernel) rfl (Or.inl rfl)) pgs_nil))))
          (fun _ _ _ => pif_one (pt_cmpR (op_neX2K K hr.units) (pv 1) (pe_tup (pa_cons pe_int (pa_cons pe_int pa_nil))) (nomark _))) (fun _ _ _ => (pe_tup (pa_cons (pv 0) (pa_cons (pv 1) pa_nil))))) pa_nil))))))))))))), ?_⟩
    refine ⟨_, rfl, p, xs, rfl, hp, pl, hl, k0, fun m' m1' m6' hm' yes H1 s1 => ?_⟩
    obtain ⟨m, n, tb, m1, m6, hn, rfl, t0, st, k⟩ := k yes
    rw [lsV_len, hn] at hm'
    obtain rfl : m = m' := pwf_inj ⟨m, by omega⟩ ⟨m', by omega⟩ hm'
    have n64 : n ≤ 64 := by rw [hn]; exact pow6 m6
    have n2 : 2 ≤ n := by rw [hn]; exact Nat.pow_le_pow_right (n := 2) (i := 1) (by decide) m1
    have cn : (2 : Int) ^ m - 1 = ((n - 1 : Nat) : Int) := by
      have e : ((2 ^ m : Nat) : Int) = (2 : Int) ^ m := by push_cast; rfl
      rw [← e, ← hn]
      omega
    refine ⟨_, rfl, m, rfl, m6, fun H2 s2 => ?_⟩
    rw [cn]
    have s2 := s1.trans s2
    refine ⟨_, rfl, _, _, rfl, rfl, 1, _, n - 1, rfl, by omega, by omega, by decide, by decide, fun pg hpg => ?_⟩
    have u3 := Same.upd_new (o := .lst (rangeV2 1 (n - 1))) hpg
    have e3 : upd H2 pg (.lst (rangeV2 1 (n - 1))) pg = some (.lst (lsV (n - 1) fun j => 1 + (j : Int))) := upd_same
    generalize upd H2 pg (.lst (rangeV2 1 (n - 1))) = H3 at u3 e3 ⊢
    have s3 := s2.trans u3
    refine ⟨_, rfl, pg, rfl, ⟨_, SqL.of e3⟩, ?_⟩
    refine comp_lstN (xs := lsV (n - 1) fun j => 1 + (j : Int)) (fun j => lsV m (bt (j + 1))) (SqL.of e3) (by rw [lsV_len]; exact Nat.le_of_lt (small1000 (by omega))) (fun j y H4 kk kk0 s4 hy g1 => ?_) fun pc cs H4 hpc s4 hcs ncs hD => ?_
    · obtain ⟨hj, rfl⟩ := lsV_of hy
      exact ⟨_, rfl, _, rfl, j + 1, m, (by show [V.int (1 + (j : Int)), V.int (m : Int)] = [V.int ((j + 1 : Nat) : Int), V.int (m : Int)]; rw [show (1 : Int) + (j : Int) = ((j + 1 : Nat) : Int) by omega]), by omega, m6, fun D H5 hD5 s5 h5 => g1 D H5 s5 hD5 h5⟩
    have hg4 := s4 _ _ e3
    have s34 := s4
    have s4 := s3.trans s4
    refine ⟨_, rfl, by show 1 ≤ sizeLine; decide, fun a1 ha1 => ?_⟩
    have u6 := Same.upd_new (o := .lst [.int 1]) ha1
    have e6 : upd H4 a1 (.lst [.int 1]) a1 = some (.lst [.int 1]) := upd_same
    generalize upd H4 a1 (.lst [.int 1]) = H6 at u6 e6 ⊢
    refine ⟨_, rfl, a1, _, _, rfl, rfl, e6, by omega, by omega, ?_, fun pd hpd => ?_⟩
    · show 1 * ((m : Nat) : Int).toNat ≤ sizeLine
      exact Nat.le_of_lt (small1000 (by omega))
    rw [Int.toNat_natCast, rep_ints]
    have u7 := Same.upd_new (o := .lst (lsV m fun _ => 1)) hpd
    have e7 : upd H6 pd (.lst (lsV m fun _ => 1)) pd = _ := upd_same
    generalize upd H6 pd (.lst (lsV m fun _ => 1)) = H7 at u7 e7 ⊢
    have s47 := u6.trans u7
    have s7 := s4.trans s47
    refine ⟨_, rfl, _, rfl, p, _, rfl, SqL.of (s7 _ _ hp), fun pgn hpgn => ?_⟩
    rw [cut_tab]
    have u8 := Same.upd_new (o := .lst (lsV (n - 1) fun j => tb (j + 1))) hpgn
    have e8 : upd H7 pgn (.lst (lsV (n - 1) fun j => tb (j + 1))) pgn = _ := upd_same
    generalize upd H7 pgn (.lst (lsV (n - 1) fun j => tb (j + 1))) = H8 at u8 e8 ⊢
    have s48 := s47.trans u8
    dsimp only [tNil, List.cons_append, List.nil_append]
    refine mk_wgh (st_Inst m1 m6 n64) ⟨s48 _ _ hD, by rw [hcs, lsV_len], fun j c e => s48 _ _ (ncs.at_ j c e).2.2, u8 _ _ e7⟩ e8 (fun j => st (j + 1)) fun r H9 s9 told => ?_
    have s9' := s7.trans (u8.trans s9)
    have hp9 := s9' _ _ hp
    have hg9 := s9 _ _ (s48 _ _ hg4)
    rcases told with ⟨lw, lp, ws, ps, d, X, Y, to⟩ | ⟨lp, ps, d, Y, to⟩ | ⟨lw, lp, ws, ps, d, X, Y, to⟩
    · have a1 : atI [V.str "best", V.ref lw, V.ref lp] 1 = some (.ref lw) := rfl
      have a2 : atI [V.str "best", V.ref lw, V.ref lp] 2 = some (.ref lp) := rfl
      have sd := st_small m6 to.dm (fun j i => bt_nab (j + 1) i) (fun _ => Nat.le_refl _)
      have d0 := to.d0
      have sm1 : (Wg.sm m fun i => 1 * Y i) = Wg.sm m Y := Wg.sm_ext fun i _ => Int.one_mul _
      have same := to.same
      rw [sm1] at same
      refine ⟨_, rfl, r, _, _, _, rfl, rfl, SqT.of to.tup, a1, ?_⟩
      refine ⟨_, rfl, r, _, _, _, rfl, rfl, SqT.of to.tup, a2, ?_⟩
      refine ⟨_, rfl, _, rfl, lp, m, n - 1, Y, d, ps, rfl, to.fp, m6, by omega, d0, sd, fun j => (to.sY j).mono (by decide), fun rs H10 s10 h10 => ?_⟩
      have hp10 := s10 _ _ hp9
      refine ⟨_, rfl, _, rfl, p, _, _, _, rfl, rfl, SqL.of hp10, lsV_at (by omega), by show 2 ≤ sizeLine; decide, fun rt hrt => ?_⟩
      have u11 := Same.upd_new (o := .tup [.int (tb (n - 1)), .int 1]) hrt
      have x11 : upd H10 rt (.tup [.int (tb (n - 1)), .int 1]) rt = _ := upd_same
      generalize upd H10 rt (.tup [.int (tb (n - 1)), .int 1]) = H11 at u11 x11 ⊢
      have s11 := s10.trans u11
      refine ⟨_, _, dat_fr (u11 _ _ h10), .tup (SqT.of x11) (.cons (.int _) (.cons (.int _) .nil)), dep_pair _ _, dep_pair _ _, _, rfl, ?_⟩
      rw [eqv_pair, fr_whole d0, show n - 1 = 2 ^ m - 1 by omega, whole_sm m6, show 2 ^ m - 1 = n - 1 by omega]
      have colg : ∀ g, 1 ≤ g → g < n → tb g * d ≤ Wg.sm m fun i => bt g i * Y i := fun g h1 h2 => by
        have z := to.cols (g - 1) (by omega)
        rw [show g - 1 + 1 = g by omega] at z
        exact z
      refine ite2 (fun e => ?_) (fun e => ?_)
      · have e := of_decide_eq_true e
        refine ⟨_, rfl, by show 2 ≤ sizeLine; decide, fun r2 hr2 => ?_⟩
        have u12 := Same.upd_new (o := .tup [.str "shares", .ref lp]) hr2
        refine k r2 _ (s9'.trans (s11.trans u12)) (.inl ⟨lp, ps, d, Y, upd_same, (to.fp.same s11).same u12, (s7.trans u8).free to.np, d0, sd, to.sY, fun g hg => ?_, e⟩)
        rcases Nat.eq_zero_or_pos g with z | z
        · subst z
          rw [t0, Int.zero_mul, Wg.sm_zero fun i _ => by rw [show bt 0 i = 0 by unfold bt; rw [Nat.zero_div]; rfl, Int.zero_mul]]
          exact Int.le_refl _
        · exact colg g z hg
      · have e : ¬ (Wg.sm m Y = tb (n - 1) * d) := fun z => e (decide_eq_true z)
        have more : tb (n - 1) * d < Wg.sm m Y := by
          have z := colg (n - 1) (by omega) (by omega)
          rw [show n - 1 = 2 ^ m - 1 by omega, whole_sm m6, show 2 ^ m - 1 = n - 1 by omega] at z
          omega
        have fw11 := to.fw.same s11
        refine ⟨_, rfl, _, rfl, pg, lw, rfl, ⟨_, SqL.of (s11 _ _ hg9)⟩, ⟨_, SqL.of fw11.hr⟩, ?_⟩
        refine comp_zipP (xs := lsV (n - 1) fun j => 1 + (j : Int)) (xs' := ws.map V.ref) (fun σ' => ∃ o0 o1 : Option V, σ' = [o0, o1]) (fun i ys H' => RwAll H' d ys (wgL i X) ) (fun i ys H1 H2 st h => h.t st) ⟨_, _, rfl⟩ trivial (SqL.of (s11 _ _ hg9)) (SqL.of fw11.hr) (by rw [lsV_len, List.length_map, to.fw.len]) (by rw [lsV_len]; exact Nat.le_of_lt (small1000 (by omega))) (fun i x y tt σ1 H12 kk kk0 ys hσ s12 hx hy ht iv g1 g2 => ?_) fun D ys H12 hD s12 iv hd => ?_
        · obtain ⟨o0, o1, rfl⟩ := hσ
          obtain ⟨hi, rfl⟩ := lsV_of hx
          obtain ⟨w', hw', rfl⟩ := ref_of hy
          have hfw := s12 _ _ (fw11.at_ i w' hw')
          refine ⟨tt, _, rfl, SqT.of ht, rfl, ?_⟩
          refine ⟨_, _, rfl, _, _, rfl, rfl, _, rfl, by show 2 ≤ sizeLine; decide, fun z1 hz1 => ?_⟩
          have u13 := Same.upd_new (o := .tup [.int 0, .int 1]) hz1
          have x13 : upd H12 z1 (.tup [.int 0, .int 1]) z1 = _ := upd_same
          generalize upd H12 z1 (.tup [.int 0, .int 1]) = H13 at u13 x13 ⊢
          refine ⟨_, _, dat_fr (u13 _ _ hfw), .tup (SqT.of x13) (.cons (.int _) (.cons (.int _) .nil)), dep_pair _ _, dep_pair _ _, _, rfl, ?_⟩
          rw [fr_zero_ne d0]
          by_cases e : X i ≠ 0
          · refine ite2 (fun _ => ?_) (fun no => absurd (decide_eq_true e) no)
            refine ⟨_, rfl, _, rfl, by show 2 ≤ sizeLine; decide, fun z2 hz2 => ?_⟩
            have u14 := Same.upd_new (o := .tup [.int (1 + (i : Int)), .ref w']) hz2
            refine g1 _ _ _ ⟨_, _, rfl⟩ (u13.trans u14) ?_
            rw [wgL_succ, if_pos e]
            exact RwAll.app (p := (1 + (i : Int), X i)) upd_same (u14 _ _ (u13 _ _ hfw)) (iv.t (u13.trans u14).t)
          · refine ite2 (fun y => absurd (of_decide_eq_true y) e) (fun _ => g2 _ _ ⟨_, _, rfl⟩ u13 ?_)
            rw [wgL_succ, if_neg e]
            exact iv.t u13.t
        · rw [lsV_len] at iv
          refine ⟨by show 2 ≤ sizeLine; decide, fun r2 hr2 => ?_⟩
          have u15 := Same.upd_new (o := .tup [.str "weighing", .ref D]) hr2
          refine k r2 _ (s9'.trans (s11.trans (s12.trans u15))) (.inr ⟨D, ys, d, X, upd_same, u15 _ _ hd, (s9'.trans s11).free hD, iv.t u15.t, d0, sd, to.sX, to.x0, fun i hi => ?_, ?_⟩)
          · rw [to.meets i hi, Int.one_mul]
          · rw [← same]
            exact more
    · have z := to.neg
      have y := to.cols (n - 2) (by omega)
      have sm1 : (Wg.sm m fun i => 1 * Y i) = Wg.sm m Y := Wg.sm_ext fun i _ => Int.one_mul _
      rw [sm1] at z
      rw [show n - 2 + 1 = 2 ^ m - 1 by omega, whole_sm m6] at y
      omega
    · have z0 : ∀ j, j < n - 1 → Y j = 0 := fun j hj => by
        obtain ⟨i, hi, hb⟩ := some_hand ⟨m, by omega⟩ ⟨j + 1, by omega⟩ (by show 1 ≤ j + 1; omega) (by show j + 1 < 2 ^ m; omega)
        have aw := to.away i.1 hi
        have zz := sm_nn_zero (fun j' _ => Int.mul_nonneg (by rcases bt_01 (j' + 1) i.1 with e | e <;> rw [e] <;> decide) (to.z0 j')) aw j hj
        dsimp only at hb zz
        rw [hb, Int.one_mul] at zz
        exact zz
      have mo := to.more
      rw [Wg.sm_zero fun j hj => by rw [z0 j hj, Int.mul_zero]] at mo
      exact absurd mo (by decide)
theorem pow_inj {a b : Nat} (h : 2 ^ a = 2 ^ b) : a = b := by
  rcases Nat.lt_trichotomy a b with z | z | z
  · exact absurd h (Nat.ne_of_lt (Nat.pow_lt_pow_right (by decide) z))
  · exact z
  · exact absurd h.symm (Nat.ne_of_lt (Nat.pow_lt_pow_right (by decide) z))
theorem tabB_ls {m n : Nat} {tb : Nat → Int} (m1 : 1 ≤ m) (m6 : m ≤ 6) (hn : n = 2 ^ m) (h0 : tb 0 = 0) : tabB (lsV n tb) = true := by
  rw [lsV_map]
  have n0 : 0 < n := by rw [hn]; exact Nat.pow_pos (by decide)
  exact tabB_of (m := m) ⟨m1, m6, by rw [List.length_map, List.length_range, hn], by rw [List.getElem?_map, List.getElem?_range n0]; exact congrArg some h0⟩
theorem mk_sta {m n : Nat} {tb : Nat → Int} {H : Hp} {p : Addr} {R : VK} {E : XK} (m1 : 1 ≤ m) (m6 : m ≤ 6) (hn : n = 2 ^ m) (h0 : tb 0 = 0) (st : ∀ j, Sm 90000 (tb j)) (hp : H p = some (.lst (lsV n tb))) (k : ∀ r H', Same H H' → STold m n tb H H' r → R (.ref r) H') : spSta K NT [.ref p] H R E := by
  have n64 : n ≤ 64 := by rw [hn]; exact pow6 m6
  refine ⟨p, _, rfl, hp, pl_ls, by rw [lsV_len]; omega, fun no => ?_, fun _ => ⟨m, n, tb, m1, m6, hn, rfl, h0, st, k⟩⟩
  rw [tabB_ls m1 m6 hn h0] at no
  cases no
def partsN (g : Nat) : List Int := ((List.range (g + 1)).filter fun (i : Nat) => decide (Builtin.bitAnd (i : Int) (g : Int) = (i : Int))).map fun (i : Nat) => (i : Int)
def partF (g : Nat) (i : Nat) : Option V := if Builtin.bitAnd (i : Int) (g : Int) = (i : Int) then some (.int (i : Int)) else none
theorem partsV (g : Nat) : (List.range (g + 1)).filterMap (partF g) = (partsN g).map V.int := by
  unfold partsN
  generalize List.range (g + 1) = l
  induction l with
  | nil => rfl
  | cons i r ih =>
    by_cases h : Builtin.bitAnd (i : Int) (g : Int) = (i : Int)
    · rw [List.filterMap_cons_some (b := V.int (i : Int)) (by unfold partF; rw [if_pos h]), List.filter_cons_of_pos (by simpa using h)]
      simp [ih]
    · rw [List.filterMap_cons_none (by unfold partF; rw [if_neg h]), List.filter_cons_of_neg (by simpa using h)]
      exact ih
theorem partsN_in {g : Nat} {x : Int} (h : x ∈ partsN g) : ∃ p : Nat, x = (p : Int) ∧ p ≤ g := by
  unfold partsN at h
  obtain ⟨p, hp, rfl⟩ := List.mem_map.mp h
  have := List.mem_range.mp (List.mem_filter.mp hp).1
  exact ⟨p, rfl, by omega⟩
theorem partsN_len (g : Nat) : (partsN g).length ≤ g + 1 := by
  unfold partsN
  rw [List.length_map]
  exact Nat.le_trans (List.length_filter_le _ _) (Nat.le_of_eq List.length_range)
def spPts (K : PySem.W.Frag) (NG : Addr) : Sp := fun vs H Q E => ∃ v, vs = [v] ∧ Pl K H v ∧ (inB 0 (2 ^ 6 - 1) v = false → ∀ H', Same H H' → E (.ref NG) none H') ∧
  ∀ (g : Nat) (l : Addr) (H' : Hp), v = .int (g : Int) → g < 64 → H l = none → Same H H' → H' l = some (.lst ((partsN g).map V.int)) → Q (.ref l) H'
theorem scPts : FnScope ["group"] ["group"] (defScope sPts) := ⟨rfl, rfl, rfl, by decide +kernel, rfl, by decide +kernel, by decide +kernel⟩
theorem ok_pts {f1 : Addr} {fd1 : FuncData} (t : Tx K mg "parts_of" sPts ["group"] f fd) (T : T K mg AL LN FR iF fCh fGM fCC fCA fPL SE NN NG NT NO NR NS) (D_check_group : Df P w K mg base (CX1 P w) 3 "check_group" ["group", "many"] (spChk K NG) f1 fd1) :
    Df P w K mg base (CX1 P w) 4 "parts_of" ["group"] (spPts K NG) f fd := by
  refine t.df1 scPts (fun vs H Q E h => ?_) (fun cdv A outer s H vs Q E hr h => ?_)
  · obtain ⟨v, rfl, _⟩ := h
    rfl
  · obtain ⟨v, rfl, pl, k0, k⟩ := h
    refine ⟨_, (pss_cons (ps_expr (pe_d1 rais_def.toPass D_check_group hr (by decide) (by rfl) (pa_cons (pv 0) (pa_cons (pe_callB call_len_seq (by rfl) T.b_len bt_len (pa_cons (pe_glob (v := .ref AL) (by rfl) T.mAL rfl) pa_nil)) pa_nil))))
      (pss_one (ps_ret (pe_comp (NB := ["part", "group"]) (pick := [none, some 0]) (blk_mk (by with_unfolding_all rfl) (by exact (And.intro rfl trivial)) rfl (by decide +kernel) (by decide +kernel) (by rfl) (by rfl)) rfl
          (pi_range1 (by rfl) T.b_range (pa_cons (pe_op op_add (pv 0) pe_int) pa_nil)) (fun _ _ _ => pg_name (i := 0) (show (["part", "group"] : List Str).Nodup from by decide +kernel) rfl (Or.inl rfl))
          (fun _ _ _ => pif_one (pt_cmpR op_eq (pe_op op_and (pv 0) (pv 1)) (pv 0) (nomark _))) (fun _ _ _ => (pv 0)))))), ?_⟩
    refine ⟨_, rfl, AL, _, rfl, .inr (T.al _), v, 6, rfl, by decide, pl, k0, fun h1 H' s1 => ?_⟩
    obtain ⟨g, rfl, hg⟩ := inB_natM h1
    have hg : g < 64 := hg
    refine ⟨_, rfl, _, _, rfl, rfl, _, rfl, by omega, by omega, ?_⟩
    have e : ((g : Int) + 1).toNat = g + 1 := by omega
    rw [e]
    refine comp_itr (partF g) (Nat.le_trans (show g + 1 ≤ 1000 by omega) (Nat.le_of_lt (small1000 (Nat.le_refl _)))) (fun i H2 kk kk0 hi h1 h2 => ?_) fun D hD => ?_
    · have e0 : (0 : Int) + (i : Int) = (i : Int) := Int.zero_add _
      refine ⟨_, rfl, _, rfl, _, _, rfl, rfl, _, rfl, rfl, _, rfl, ?_⟩
      refine ite2 (fun h3 => ⟨_, rfl, h1 _ ?_⟩) (fun h3 => h2 ?_)
      · have z : V.int (Builtin.bitAnd (0 + (i : Int)) (g : Int)) = V.int (0 + (i : Int)) := of_decide_eq_true h3
        rw [e0] at z ⊢
        unfold partF
        rw [if_pos (V.int.inj z)]
      · unfold partF
        refine if_neg fun q => h3 ?_
        show decide (V.int (Builtin.bitAnd (0 + (i : Int)) (g : Int)) = V.int (0 + (i : Int))) = true
        rw [e0, q]
        exact decide_eq_true rfl
    · rw [partsV]
      exact k g D _ rfl hg (s1.free hD) (s1.trans (.upd_new hD)) upd_same
theorem bitAnd_nat (a b : Nat) : Builtin.bitAnd (a : Int) (b : Int) = ((a &&& b : Nat) : Int) := rfl
def subS (ds : List Int) (g : Nat) : Nat → Nat → Int
  | 0, _ => 0
  | f + 1, p => if p = 0 then 0 else ds.getD p 0 + subS ds g f ((p - 1) &&& g)
def earnS (ds : List Int) (g : Nat) : Int := ds.getD 0 0 + subS ds g 64 g
def DivOf (ds rs : List Int) : Prop := ds.length = rs.length ∧ ∀ g, g < rs.length → earnS ds g = rs.getD g 0
theorem subS_congr {ds es : List Int} (g : Nat) : ∀ (f p : Nat), (∀ q, q ≤ p → ds.getD q 0 = es.getD q 0) → subS ds g f p = subS es g f p
  | 0, _, _ => rfl
  | f + 1, p, h => by
    show (if p = 0 then 0 else _) = (if p = 0 then 0 else _)
    split
    · rfl
    · have hle : (p - 1) &&& g ≤ p - 1 := Nat.and_le_left
      rw [h p (Nat.le_refl _), subS_congr g f _ fun q hq => h q (by omega)]
theorem earnS_pos {ds : List Int} {g : Nat} (h : 0 < g) : earnS ds g = ds.getD 0 0 + (ds.getD g 0 + subS ds g 63 ((g - 1) &&& g)) := by
  unfold earnS
  show _ + (if g = 0 then 0 else _) = _
  rw [if_neg (by omega)]
theorem earnS_zero (ds : List Int) : earnS ds 0 = ds.getD 0 0 := by unfold earnS; exact Int.add_zero _
def walkN (g : Nat) : Nat → Nat → List Nat
  | 0, _ => []
  | f + 1, p => if p = 0 then [] else p :: walkN g f ((p - 1) &&& g)
theorem walk_all : ∀ g : _root_.Fin 64, partsN g.1 = ((0 :: (walkN g.1 64 g.1).reverse).map fun (p : Nat) => (p : Int)) := by decide +kernel
theorem walk_sum (ds : List Int) (g : Nat) : ∀ f p, subS ds g f p = ((walkN g f p).map fun q => ds.getD q 0).sum
  | 0, _ => rfl
  | f + 1, p => by
    unfold subS walkN
    split
    · rfl
    · rw [List.map_cons, List.sum_cons, walk_sum ds g f]
theorem sum_reverse_int (l : List Int) : l.reverse.sum = l.sum := by
  induction l with
  | nil => rfl
  | cons x r ih =>
    have e : ([x] : List Int).sum = x := by simp
    rw [List.reverse_cons, List.sum_append, ih, e, List.sum_cons]
    omega
theorem parts_sum {ds : List Int} {g : Nat} (hg : g < 64) : ((partsN g).map fun p => ds.getD p.toNat 0).sum = earnS ds g := by
  rw [show partsN g = _ from walk_all ⟨g, hg⟩]
  show (((0 :: (walkN g 64 g).reverse).map fun (p : Nat) => (p : Int)).map fun p => ds.getD p.toNat 0).sum = _
  rw [List.map_map, List.map_cons, List.sum_cons, List.map_reverse, sum_reverse_int]
  unfold earnS
  rw [walk_sum]
  rfl
def spSop : Sp := fun vs H Q _ => ∃ (l : Addr) (ns : List Int) (g : Nat), vs = [.ref l, .int (g : Int)] ∧ H l = some (.lst (ns.map V.int)) ∧ g < 64 ∧ g < ns.length ∧ ∀ H', Same H H' → Q (.int (earnS ns g)) H'
theorem scSop : FnScope ["numbers", "group"] ["numbers", "group"] (defScope sSop) := ⟨rfl, rfl, rfl, by decide +kernel, rfl, by decide +kernel, by decide +kernel⟩
theorem ok_sop {f1 : Addr} {fd1 : FuncData} (t : Tx K mg "sum_of_parts" sSop ["numbers", "group"] f fd) (T : T K mg AL LN FR iF fCh fGM fCC fCA fPL SE NN NG NT NO NR NS) (D_parts_of : Df P w K mg base (CX1 P w) 4 "parts_of" ["group"] (spPts K NG) f1 fd1) :
    Df P w K mg base CX0 5 "sum_of_parts" ["numbers", "group"] spSop f fd := by
  refine t.df0 scSop (fun vs H Q E h => ?_) (fun cdv A outer s H vs Q E hr h => ?_)
  · obtain ⟨l, ns, g, rfl, _⟩ := h
    rfl
  · obtain ⟨l, ns, g, rfl, hl, hg64, hg, k⟩ := h
    refine ⟨_, (pss_one (ps_ret (pe_callB (call_sum rfl) (by rfl) T.b_sum bt_sum (pa_cons (pe_comp (NB := ["part", "numbers"]) (pick := [none, some 0]) (blk_mk (by with_unfolding_all rfl) (by exact (And.intro rfl trivial)) rfl (by decide +kernel) (by decide +kernel) (by rfl) (by rfl)) rfl
          (pi_list (pe_d1 pass_no D_parts_of hr (by decide) (by rfl) (pa_cons (pv 1) pa_nil))) (fun _ _ _ => pg_name (i := 0) (show (["part", "numbers"] : List Str).Nodup from by decide +kernel) rfl (Or.inl rfl))
          (fun _ _ _ => pif_nil) (fun _ _ _ => (pe_ix (ix_listK K) (pv 1) (pv 0) (fun _ _ => rfl)))) pa_nil)))), ?_⟩
    refine ⟨_, rfl, _, rfl, .int _, fun no => ?_, fun g' q H1 hv _ hq s1 h1 => ?_⟩
    · exact absurd no (by rw [nat_inB (m := 6) hg64]; decide)
    · have eg : g' = g := by have := V.int.inj hv; omega
      subst eg
      refine ⟨q, rfl, ⟨_, SqL.of h1⟩, ?_⟩
      refine comp_lst (xs := (partsN g').map V.int) (fun _ x => match x with | .int i => some (.int (ns.getD i.toNat 0)) | _ => none) (SqL.of h1) ?_ (fun i x H2 kk kk0 s2 hx h1 h2 => ?_) fun D H2 hD s2 hd => ?_
      · rw [List.length_map]
        exact Nat.le_of_lt (small1000 (Nat.le_trans (partsN_len g') (by omega)))
      · obtain ⟨j, hj, rfl⟩ := List.mem_map.mp (List.mem_of_getElem? hx)
        obtain ⟨p, rfl, hp⟩ := partsN_in hj
        exact ⟨_, rfl, _, rfl, l, _, _, _, rfl, rfl, SqL.of (s2 _ _ (s1 _ _ hl)), at_of (by omega), h1 _ rfl _ (.refl _)⟩
      · have ed : ((List.range ((partsN g').map V.int).length).filterMap fun i => (((partsN g').map V.int)[i]?).bind fun x => match x with | .int i => some (V.int (ns.getD i.toNat 0)) | _ => none) = ((partsN g').map fun h => ns.getD h.toNat 0).map V.int := by
          rw [fm_bind, List.filterMap_map, List.map_map]
          show (partsN g').filterMap (fun i => some (V.int (ns.getD i.toNat 0))) = _
          rw [List.filterMap_eq_map']
          rfl
        rw [ed] at hd
        refine ⟨D, _, rfl, .inl (SqL.of hd), ?_⟩
        rw [parts_sum hg64]
        exact k H2 (s1.trans s2)
def spDvd (K : PySem.W.Frag) : Sp := fun vs H Q _ => ∃ (l : Addr) (m : Nat) (rs : List Int), vs = [.ref l] ∧ H l = some (.lst (rs.map V.int)) ∧ TabN m rs ∧ ∀ q ds H', H q = none → Same H H' → DivOf ds rs → H' q = some (.lst (ds.map V.int)) → Q (.ref q) H'
theorem getD_set_self {ds : List Int} {i : Nat} {z : Int} (h : i < ds.length) : (ds.set i z).getD i 0 = z := by rw [List.getD_eq_getElem?_getD, List.getElem?_set_self h]; rfl
theorem getD_set_ne {ds : List Int} {i j : Nat} {z : Int} (h : i ≠ j) : (ds.set i z).getD j 0 = ds.getD j 0 := by rw [List.getD_eq_getElem?_getD, List.getElem?_set_ne h, List.getD_eq_getElem?_getD]
theorem earnS_congr {ds es : List Int} {g : Nat} (h : ∀ q, q ≤ g → ds.getD q 0 = es.getD q 0) : earnS ds g = earnS es g := by
  unfold earnS
  rw [h 0 (Nat.zero_le _), subS_congr g 64 g h]
theorem earnS_set {ds : List Int} {g : Nat} {z : Int} (hg : g < ds.length) (h0 : ds.getD g 0 = 0) : earnS (ds.set g z) g = earnS ds g + z := by
  rcases Nat.eq_zero_or_pos g with e | e
  · subst e
    rw [earnS_zero, earnS_zero, getD_set_self hg, h0]
    omega
  · have hle : (g - 1) &&& g ≤ g - 1 := Nat.and_le_left
    rw [earnS_pos e, earnS_pos e, getD_set_self hg, getD_set_ne (by omega), subS_congr (ds := ds.set g z) (es := ds) g 63 ((g - 1) &&& g) fun q hq => getD_set_ne (by omega), h0]
    omega
theorem scDvd : FnScope ["table", "whole", "told", "group"] ["table"] (defScope sDvd) := ⟨rfl, rfl, rfl, by decide +kernel, rfl, by decide +kernel, by decide +kernel⟩
theorem ok_dvd {f1 f2 f3 : Addr} {fd1 fd2 fd3 : FuncData} (t : Tx K mg "dividends" sDvd ["table"] f fd) (T : T K mg AL LN FR iF fCh fGM fCC fCA fPL SE NN NG NT NO NR NS) (D_hands_in : Df P w K mg base (CX1 P w) 3 "hands_in" ["table"] (spHin K NT) f1 fd1) (D_whole_company : Df P w K mg base CX0 1 "whole_company" ["many"] spWC f2 fd2)
    (D_sum_of_parts : Df P w K mg base CX0 5 "sum_of_parts" ["numbers", "group"] spSop f3 fd3) : Df P w K mg base (CX1 P w) 6 "dividends" ["table"] (spDvd K) f fd := by
  refine t.df1 scDvd (fun vs H Q E h => ?_) (fun cdv A outer s H vs Q E hr h => ?_)
  · obtain ⟨l, m, rs, rfl, _⟩ := h
    rfl
  · obtain ⟨l, m, rs, rfl, hl, tb, k⟩ := h
    have hp := tb.pos
    refine ⟨_, (pss_cons (ps_set (i := 1) scDvd.nd rfl (Or.inl rfl) (pe_d0 D_whole_company hr (by decide) (by rfl) (pa_cons (pe_d1 rais_def.toPass D_hands_in hr (by decide) (by rfl) (pa_cons (pv 0) pa_nil)) pa_nil)))
      (pss_cons (ps_set (i := 2) scDvd.nd rfl (Or.inl rfl) (pe_op op_rep (pe_lst (pa_cons pe_int pa_nil)) (pe_op op_add (pv 1) pe_int)))
      (pss_cons (ps_for rais_def.own rfl (pi_range1 (by rfl) T.b_range (pa_cons (pe_op op_add (pv 1) pe_int) pa_nil)) (pg_name (i := 3) scDvd.nd rfl (Or.inl rfl))
        (pss_one (ps_asg (pe_op op_sub (pe_ix ix_list (pv 0) (pv 3) (fun _ _ => rfl)) (pe_d0 D_sum_of_parts hr (by decide) (by rfl) (pa_cons (pv 2) (pa_cons (pv 3) pa_nil)))) (pg_sub (pv 2) (pv 3) set_list))))
      (pss_one (ps_ret (pv 2)))))), ?_⟩
    refine ⟨_, rfl, l, _, rfl, hl, pl_ints, by rw [List.length_map]; omega, (fun e => by rw [tabB_of tb] at e; cases e), fun m' m1 m6 hm _ H1 s1 => ?_⟩
    rw [List.length_map] at hm
    refine ⟨m', rfl, m6, fun H2 s2 => ?_⟩
    obtain ⟨n, hn1, hn⟩ := pow_nat m'
    rw [hn]
    have s := s1.trans s2
    have hl2 := s _ _ hl
    rw [hn1] at hm
    -- told = [0] * (whole + 1)
    refine ⟨by show 1 ≤ sizeLine; decide, fun l0 hl0 => ?_⟩
    have u0 := Same.upd_new (o := .lst [V.int 0]) hl0
    refine ⟨_, rfl, _, _, rfl, rfl, l0, (n : Int) + 1, [.int 0], rfl, rfl, upd_same, by omega, by omega, ?_, fun q hq => ?_⟩
    · show 1 * ((n : Int) + 1).toNat ≤ sizeLine
      rw [Nat.one_mul]
      exact Nat.le_of_lt (small1000 (by omega))
    have ez : (List.replicate ((n : Int) + 1).toNat [V.int 0]).flatten = (List.replicate (n + 1) (0 : Int)).map V.int := by
      rw [show ((n : Int) + 1).toNat = n + 1 by omega]
      generalize n + 1 = j
      induction j with
      | zero => rfl
      | succ j ih => rw [List.replicate_succ, List.flatten_cons, ih, List.replicate_succ, List.map_cons]; rfl
    have t0 := s.trans (u0.trans (.upd_new (o := .lst (List.replicate ((n : Int) + 1).toNat [V.int 0]).flatten) hq))
    have hqH : H q = none := (s.trans u0).free hq
    refine ⟨_, rfl, _, _, rfl, rfl, ((n + 1 : Nat) : Int), (by show [V.int ((n : Int) + 1)] = _; rw [show ((n + 1 : Nat) : Int) = (n : Int) + 1 by omega]), by omega, by omega, ?_⟩
    refine for_range (n := n + 1) (fun i σ' H' => ∃ (ds : List Int) (o3 : Option V), ds.length = n + 1 ∧ (∀ g, g < i → earnS ds g = rs.getD g 0) ∧ (∀ g, i ≤ g → ds.getD g 0 = 0) ∧ Same H H' ∧ H' q = some (.lst (ds.map V.int)) ∧ σ' = [some (.ref l), some (.int (n : Int)), some (.ref q), o3]) ?_ ?_ ?_
    · refine ⟨List.replicate (n + 1) 0, _, List.length_replicate, fun g hg => absurd hg (Nat.not_lt_zero _), fun g _ => ?_, t0, ?_, rfl⟩
      · rw [List.getD_eq_getElem?_getD, List.getElem?_replicate]
        split <;> rfl
      · rw [upd_same, ez]
    · rintro i σ' H' hi ⟨ds, o3, hds, hlo, hhi, s3, hq3, rfl⟩
      refine ⟨_, rfl, _, rfl, l, _, _, _, rfl, rfl, SqL.of (s3 _ _ hl), (by rw [Int.zero_add]; exact at_of (by omega)), _, rfl, _, rfl, q, ds, i, (by show [V.ref q, V.int (0 + (i : Int))] = _; rw [Int.zero_add]), hq3, by omega, by omega, fun H4 s4 => ⟨_, _, rfl, rfl, ?_⟩⟩
      have hix : ixN (ds.map V.int).length (0 + (i : Int)) = some i := by
        unfold ixN
        rw [List.length_map, if_pos (by omega), if_pos (by omega), Int.zero_add]
        rfl
      refine ⟨_, rfl, _, rfl, q, _, _, i, rfl, rfl, s4 _ _ hq3, hix, ?_⟩
      refine ⟨ds.set i (rs.getD i 0 - earnS ds i), _, by rw [List.length_set]; exact hds, fun g hg => ?_, fun g hg => ?_, (s3.trans s4).upd_ne' hqH, ?_, rfl⟩
      · rcases Nat.lt_or_ge g i with z | z
        · rw [earnS_congr (es := ds) fun x hx => getD_set_ne (by omega)]
          exact hlo g z
        · obtain rfl : g = i := by omega
          rw [earnS_set (by omega) (hhi g (Nat.le_refl _))]
          omega
      · rw [getD_set_ne (by omega)]
        exact hhi g (by omega)
      · rw [upd_same, List.map_set]
    · rintro σ' H' ⟨ds, o3, hds, hlo, hhi, s3, hq3, rfl⟩
      exact ⟨_, rfl, k q ds H' hqH s3 ⟨by rw [hds, hm], fun g hg => hlo g (by omega)⟩ hq3⟩
def handsB (g : Nat) : List Nat := (List.range 6).filter fun h => decide (g / 2 ^ h % 2 = 1)
def hbF (g : Nat) (i : Nat) : Option V := if g / 2 ^ i % 2 = 1 then some (.int (i : Int)) else none
theorem hb_len (g : Nat) : (handsB g).length ≤ 6 := by unfold handsB; exact Nat.le_trans (List.length_filter_le _ _) (Nat.le_of_eq List.length_range)
theorem bit_of (g i : Nat) : Builtin.bitAnd ((g : Int) / 2 ^ i) 1 = ((g / 2 ^ i % 2 : Nat) : Int) := by
  have e : (g : Int) / 2 ^ i = ((g / 2 ^ i : Nat) : Int) := by push_cast; rfl
  rw [e]
  show ((g / 2 ^ i &&& 1 : Nat) : Int) = _
  rw [Nat.and_one_is_mod]
theorem alone_pow : ∀ h : _root_.Fin 6, alone h.1 = ((2 ^ h.1 : Nat) : Int) := by decide +kernel
def frq (a : Int) : Int × Int := (a.fdiv (dv a 60), (60 : Int).fdiv (dv a 60))
def mS (rs : List Int) (h : Nat) : Nat → Int
  | 0 => 0
  | g + 1 => if g / 2 ^ h % 2 = 1 then mS rs h g + rs.getD g 0 * (60 / ((handsB g).length : Int)) else mS rs h g
theorem len_hands : ∀ g : _root_.Fin 64, (hands g.1).length = (handsB g.1).length := by decide +kernel
theorem bit_one : ∀ (h : _root_.Fin 6) (g : _root_.Fin 64), (g.1 &&& 2 ^ h.1 = 0 ↔ ¬ g.1 / 2 ^ h.1 % 2 = 1) := by decide +kernel
theorem hands_pos : ∀ (h : _root_.Fin 6) (g : _root_.Fin 64), g.1 / 2 ^ h.1 % 2 = 1 → 1 ≤ (handsB g.1).length := by decide +kernel
theorem sm60 : Sm 8000 60 := Sm.of 60 (by decide) (by decide)
def spMsh (K : PySem.W.Frag) : Sp := fun vs H Q _ => ∃ (l : Addr) (rs : List Int) (h : Nat), vs = [.ref l, .int (h : Int)] ∧ H l = some (.lst (rs.map V.int)) ∧ rs.length ≤ 64 ∧ h < 6 ∧ ∀ (p : Addr) H', Same H H' → H' p = some (.tup [.int (frq (mS rs h rs.length)).1, .int (frq (mS rs h rs.length)).2]) → Q (.ref p) H'
theorem scMsh : FnScope ["parting", "hand", "total", "group", "dividend"] ["parting", "hand"] (defScope sMsh) := ⟨rfl, rfl, rfl, by decide +kernel, rfl, by decide +kernel, by decide +kernel⟩
theorem ok_msh {f1 f2 : Addr} {fd1 fd2 : FuncData} (t : Tx K mg "mean_share" sMsh ["parting", "hand"] f fd) (T : T K mg AL LN FR iF fCh fGM fCC fCA fPL SE NN NG NT NO NR NS) (D_hands_of : Df P w K mg base (CX1 P w) 4 "hands_of" ["group"] (spHnd K NG) f1 fd1)
    (D_fraction : Df P w K mg base (CX1 P w) 2 "fraction" ["top", "bottom"] (spFr K NN) f2 fd2) : Df P w K mg base CX0 5 "mean_share" ["parting", "hand"] (spMsh K) f fd := by
  refine t.df0 scMsh (fun vs H Q E h => ?_) (fun cdv A outer s H vs Q E hr h => ?_)
  · obtain ⟨l, rs, h, rfl, _⟩ := h
    rfl
  · obtain ⟨l, rs, h, rfl, hl, h64, h6, k⟩ := h
    obtain ⟨tkEV, hEV⟩ := T.ev
    have atA := alone_at (i := (h : Int)) (by omega) (by omega)
    rw [Int.toNat_natCast, show alone h = _ from alone_pow ⟨h, h6⟩] at atA
    refine ⟨_, (pss_cons (ps_set (i := 2) scMsh.nd rfl (Or.inl rfl) pe_int)
      (pss_cons (ps_for PassesOwn.never rfl (pi_enum (by rfl) T.b_enum (pa_cons (pv 0) pa_nil)) (pg_tup rfl (pgs_cons (pg_name (i := 3) scMsh.nd rfl (Or.inl rfl)) (pgs_cons (pg_name (i := 4) scMsh.nd rfl (Or.inl rfl)) pgs_nil)))
        (pss_one (ps_if (pt_cmpR op_ne (pe_op op_and (pv 3) (pe_ix ix_tup (pe_glob (v := .ref AL) (by rfl) T.mAL rfl) (pv 1) (fun _ _ => rfl))) pe_int (nomark _)) (pss_one (ps_aug (i := 2) scMsh.nd rfl (Or.inl rfl) (pe_op op_mul (pv 4) (pe_op op_fdiv (pe_glob (v := .int 60) (by rfl) hEV ⟨tkEV, rfl⟩) (pe_callB call_len_seq (by rfl) T.b_len bt_len (pa_cons (pe_d1 pass_no D_hands_of hr (by decide) (by rfl) (pa_cons (pv 3) pa_nil)) pa_nil)))) ip_add)) pss_nil)))
      (pss_one (ps_ret (pe_d1 pass_no D_fraction hr (by decide) (by rfl) (pa_cons (pv 2) (pa_cons (pe_glob (v := .int 60) (by rfl) hEV ⟨tkEV, rfl⟩) pa_nil))))))), ?_⟩
    refine ⟨_, rfl, l, rfl, ⟨_, SqL.of hl⟩, ?_⟩
    refine for_enum (xs := rs.map V.int) (fun i σ' H' => Same H H' ∧ ∃ o3 o4 : Option V, σ' = [some (.ref l), some (.int (h : Int)), some (.int (mS rs h i)), o3, o4]) ⟨.refl _, _, _, rfl⟩ (fun i σ H i1 i2 => SqL.of (i2.1 _ _ hl)) ?_ ?_
    · rintro g x t σ' H2 hx ht ⟨s2, o3, o4, rfl⟩
      have hg : g < rs.length := by
        obtain ⟨z, _⟩ := List.getElem?_eq_some_iff.mp hx
        rw [List.length_map] at z
        exact z
      obtain rfl : V.int (rs.getD g 0) = x := by
        rw [List.getElem?_map, List.getElem?_eq_getElem hg] at hx
        rw [List.getD_eq_getElem?_getD, List.getElem?_eq_getElem hg]
        exact Option.some.inj hx
      have hg64 : g < 64 := by omega
      have u3 := s2.trans (Same.upd_new (o := .tup [V.int (g : Int), V.int (rs.getD g 0)]) ht)
      refine ⟨t, _, rfl, SqT.of upd_same, rfl, _, _, rfl, _, _, rfl, rfl, ?_⟩
      generalize upd H2 t (.tup [V.int (g : Int), V.int (rs.getD g 0)]) = H3 at u3 ⊢
      have bo : g &&& 2 ^ h = 0 ↔ ¬ g / 2 ^ h % 2 = 1 := bit_one ⟨h, h6⟩ ⟨g, hg64⟩
      have eA : Builtin.bitAnd (g : Int) ((2 ^ h : Nat) : Int) = ((g &&& 2 ^ h : Nat) : Int) := rfl
      refine ⟨_, rfl, _, rfl, AL, _, _, _, rfl, rfl, T.al _, atA, _, _, rfl, rfl, rfl, _, rfl, ite2 (fun h3 => ?_) (fun h3 => ?_)⟩
      · have zb : g / 2 ^ h % 2 = 1 := by
          refine Classical.byContradiction fun q => ?_
          have h3 : (!decide (V.int (Builtin.bitAnd (g : Int) ((2 ^ h : Nat) : Int)) = V.int 0)) = true := h3
          rw [eA, bo.mpr q] at h3
          exact absurd h3 (by decide)
        have hp1 : 1 ≤ (handsB g).length := hands_pos ⟨h, h6⟩ ⟨g, hg64⟩ zb
        have hp6 := hb_len g
        have eH : (hands g).length = (handsB g).length := len_hands ⟨g, hg64⟩
        refine ⟨_, rfl, _, rfl, _, rfl, _, rfl, .int _, fun no => ?_, fun g' q H4 hv _ hq s4 h4 => ?_⟩
        · exact absurd no (by rw [nat_inB (m := 6) hg64]; decide)
        obtain rfl : g = g' := by have := V.int.inj hv; omega
        have eL : ((((hands g).map V.int).length : Nat) : Int) = ((handsB g).length : Int) := by rw [List.length_map, eH]
        refine ⟨q, _, rfl, .inl (SqL.of h4), ?_⟩
        rw [eL]
        refine ⟨_, _, rfl, rfl, ⟨(by show (0 : Int) < ((handsB g).length : Int); omega), (by show ((handsB g).length : Int) < 1073741824; omega)⟩, _, _, rfl, rfl, .inr ?_, _, _, rfl, rfl, u3.trans s4, some (.int (g : Int)), some (.int (rs.getD g 0)), ?_⟩
        · have e0 : 0 ≤ (60 : Int) / ((handsB g).length : Int) := Int.ediv_nonneg (by decide) (by omega)
          have e1 : (60 : Int) / ((handsB g).length : Int) ≤ 60 := Int.ediv_le_self _ (by decide)
          exact ⟨by show -(2 ^ 64) < (60 : Int) / ((handsB g).length : Int); omega, by show (60 : Int) / ((handsB g).length : Int) < 2 ^ 64; omega⟩
        · have e : mS rs h (g + 1) = mS rs h g + rs.getD g 0 * (60 / ((handsB g).length : Int)) := if_pos zb
          rw [e]
          rfl
      · have zb : ¬ g / 2 ^ h % 2 = 1 := bo.mp (by
          have h3 : ¬ (!decide (V.int (Builtin.bitAnd (g : Int) ((2 ^ h : Nat) : Int)) = V.int 0)) = true := h3
          rw [eA] at h3
          refine Classical.byContradiction fun q => h3 ?_
          rw [decide_eq_false fun y => q (by have := V.int.inj y; omega)]
          rfl)
        have e : mS rs h (g + 1) = mS rs h g := if_neg zb
        refine ⟨u3, some (.int (g : Int)), some (.int (rs.getD g 0)), ?_⟩
        rw [e]
        rfl
    · rintro σ' H2 ⟨s2, o3, o4, rfl⟩
      rw [List.length_map]
      refine ⟨_, rfl, _, .int 60, rfl, .int _, .int _, fun no => ?_, fun a b ha hb hb0 => ?_⟩
      · rcases no with z | z | z
        · cases z
        · cases z
        · cases z
      · obtain rfl : mS rs h rs.length = a := V.int.inj ha
        obtain rfl : (60 : Int) = b := V.int.inj hb
        exact ⟨sm60, fun p hp => k p _ (s2.trans (.upd_new hp)) upd_same⟩
def FrAt (H : Hp) (q : Addr) (ts : List (Int × Int)) : Prop := ∃ ys : List V, H q = some (.lst ys) ∧ ys.length = ts.length ∧ ∀ (i : Nat) (y : V) (t : Int × Int), ys[i]? = some y → ts[i]? = some t → ∃ p, y = .ref p ∧ H p = some (.tup [.int t.1, .int t.2])
def meanL (m : Nat) (ds : List Int) : List (Int × Int) := (List.range m).map fun h => frq (mS ds h ds.length)
def RFr (ds : List Int) (h : Nat) (y : V) (H : Hp) : Prop := ∃ p, y = .ref p ∧ H p = some (.tup [.int (frq (mS ds h ds.length)).1, .int (frq (mS ds h ds.length)).2])
def spMss (K : PySem.W.Frag) : Sp := fun vs H Q _ => ∃ (l : Addr) (m : Nat) (rs : List Int), vs = [.ref l] ∧ H l = some (.lst (rs.map V.int)) ∧ TabN m rs ∧ ∀ (q : Addr) (ds : List Int) H', H q = none → Same H H' → DivOf ds rs → FrAt H' q (meanL m ds) → Q (.ref q) H'
theorem scMss : FnScope ["table", "many", "parting"] ["table"] (defScope sMss) := ⟨rfl, rfl, rfl, by decide +kernel, rfl, by decide +kernel, by decide +kernel⟩
theorem ok_mss {f1 f2 f3 : Addr} {fd1 fd2 fd3 : FuncData} (t : Tx K mg "mean_shares" sMss ["table"] f fd) (T : T K mg AL LN FR iF fCh fGM fCC fCA fPL SE NN NG NT NO NR NS) (D_hands_in : Df P w K mg base (CX1 P w) 3 "hands_in" ["table"] (spHin K NT) f1 fd1)
    (D_dividends : Df P w K mg base (CX1 P w) 6 "dividends" ["table"] (spDvd K) f2 fd2) (D_mean_share : Df P w K mg base CX0 5 "mean_share" ["parting", "hand"] (spMsh K) f3 fd3) : Df P w K mg base (CX1 P w) 7 "mean_shares" ["table"] (spMss K) f fd := by
  refine t.df1 scMss (fun vs H Q E h => ?_) (fun cdv A outer s H vs Q E hr h => ?_)
  · obtain ⟨l, m, rs, rfl, _⟩ := h
    rfl
  · obtain ⟨l, m, rs, rfl, hl, tb, k⟩ := h
    have hp := tb.pos
    refine ⟨_, (pss_cons (ps_set (i := 1) scMss.nd rfl (by first | exact Or.inl rfl | exact Or.inr rfl) (pe_d1 rais_def.toPass D_hands_in hr (by decide) (by rfl) (pa_cons (pv 0) pa_nil)))
      (pss_cons (ps_set (i := 2) scMss.nd rfl (by first | exact Or.inl rfl | exact Or.inr rfl) (pe_d1 rais_def.toPass D_dividends hr (by decide) (by rfl) (pa_cons (pv 0) pa_nil)))
      (pss_one (ps_ret (pe_comp (NB := ["hand", "parting"]) (pick := [none, some 2]) (blk_mk (by with_unfolding_all rfl) (by exact (And.intro rfl trivial)) rfl (by decide +kernel) (by decide +kernel) (by rfl) (by rfl)) rfl
          (pi_range1 (by rfl) T.b_range (pa_cons (pv 1) pa_nil)) (fun _ _ _ => pg_name (i := 0) (show (["hand", "parting"] : List Str).Nodup from by decide +kernel) rfl (Or.inl rfl))
          (fun _ _ _ => pif_nil) (fun _ _ _ => (pe_d0 D_mean_share hr (by decide) (by rfl) (pa_cons (pv 1) (pa_cons (pv 0) pa_nil))))))))), ?_⟩
    refine ⟨_, rfl, l, _, rfl, hl, pl_ints, by rw [List.length_map]; omega, (fun e => by rw [tabB_of tb] at e; cases e), fun m' m1 m6 hm _ H1 s1 => ?_⟩
    rw [List.length_map, tb.2.2.1] at hm
    obtain rfl := pow_inj hm
    refine ⟨_, rfl, l, m, rs, rfl, s1 _ _ hl, tb, fun ld ds H2 _ s2 dv h2 => ?_⟩
    refine ⟨_, rfl, (m : Int), rfl, by omega, by omega, ?_⟩
    have s12 := s1.trans s2
    refine comp_rngR (n := m) (RFr ds) (fun i y G G' sG ⟨p, e, z⟩ => ⟨p, e, sG _ _ z⟩) (Nat.le_of_lt (small1000 (by omega))) (fun i H3 kk kk0 hs hi h1 => ?_) fun D ys H3 hD hs hy hR hd => ?_
    · exact ⟨_, rfl, _, rfl, ld, ds, i, (by show [V.ref ld, V.int (0 + (i : Int))] = _; rw [Int.zero_add]), hs _ _ h2, by rw [dv.1]; exact hp.2, by omega, fun p H4 s4 h4 => h1 _ _ s4 ⟨p, rfl, h4⟩⟩
    · refine k D ds H3 (s12.free hD) (s12.trans hs) dv ⟨ys, hd, by unfold meanL; rw [List.length_map, List.length_range, hy], fun i y t e1 e2 => ?_⟩
      have hi : i < m := by
        obtain ⟨z, _⟩ := List.getElem?_eq_some_iff.mp e1
        omega
      unfold meanL at e2
      rw [List.getElem?_map, List.getElem?_range hi] at e2
      obtain rfl : frq (mS ds i ds.length) = t := Option.some.inj e2
      exact hR i y e1
def natI (o : List Nat) : List Int := o.map fun (x : Nat) => (x : Int)
def IsOrd (m : Nat) (xs : List V) : Prop := ∃ o : List Nat, xs = (natI o).map V.int ∧ o.Perm (List.range m)
theorem inB_int {m : Nat} {v : V} (h : inB 0 ((m : Int) - 1) v = true) : ∃ g : Nat, v = .int (g : Int) ∧ g < m := by
  cases v with
  | int i =>
    have z : (decide (0 ≤ i) && decide (i ≤ (m : Int) - 1)) = true := h
    rw [Bool.and_eq_true] at z
    have z1 := of_decide_eq_true z.1
    have z2 := of_decide_eq_true z.2
    exact ⟨i.toNat, by rw [Int.toNat_of_nonneg (by omega)], by omega⟩
  | _ => exact (Bool.false_ne_true h).elim
theorem int_inB {g m : Nat} (h : g < m) : inB 0 ((m : Int) - 1) (.int (g : Int)) = true := by
  show (decide (0 ≤ (g : Int)) && decide ((g : Int) ≤ (m : Int) - 1)) = true
  rw [decide_eq_true (by omega), decide_eq_true (by omega)]
  rfl
theorem all_ord {m : Nat} : ∀ {xs : List V}, xs.all (inB 0 ((m : Int) - 1)) = true → ∃ o : List Nat, xs = (natI o).map V.int
  | [], _ => ⟨[], rfl⟩
  | x :: xs, h => by
    rw [List.all_cons, Bool.and_eq_true] at h
    obtain ⟨g, rfl, _⟩ := inB_int h.1
    obtain ⟨o, rfl⟩ := all_ord h.2
    exact ⟨g :: o, rfl⟩
theorem nat_inj {a b : List Nat} (h : (natI a).map V.int = (natI b).map V.int) : a = b := by
  have z := congrArg (List.map fun v : V => match v with | .int i => i.toNat | _ => 0) h
  unfold natI at z
  rw [List.map_map, List.map_map, List.map_map, List.map_map] at z
  have e : (((fun v : V => match v with | .int i => i.toNat | _ => 0) ∘ V.int) ∘ (fun (x : Nat) => (x : Int))) = id := by funext x; simp
  rw [e, List.map_id, List.map_id] at z
  exact z
theorem natI_perm {a b : List Nat} (h : (natI a).Perm (natI b)) : a.Perm b := by
  have z := h.map Int.toNat
  unfold natI at z
  rw [List.map_map, List.map_map] at z
  have e : (Int.toNat ∘ fun (x : Nat) => (x : Int)) = id := by funext x; simp
  rw [e, List.map_id, List.map_id] at z
  exact z
theorem ord_mem {m : Nat} {o : List Nat} (h : o.Perm (List.range m)) {x : Nat} (hx : x ∈ o) : x < m := List.mem_range.mp (h.mem_iff.mp hx)
theorem ord_len {m : Nat} {o : List Nat} (h : o.Perm (List.range m)) : o.length = m := by rw [h.length_eq, List.length_range]
theorem ord_all {m : Nat} {o : List Nat} (h : o.Perm (List.range m)) : ((natI o).map V.int).all (inB 0 ((m : Int) - 1)) = true := by
  rw [List.all_eq_true]
  intro x hx
  obtain ⟨y, hy, rfl⟩ := List.mem_map.mp hx
  obtain ⟨g, hg, rfl⟩ := List.mem_map.mp hy
  exact int_inB (ord_mem h hg)
theorem range_sorted (m : Nat) : (natI (List.range m)).Pairwise (· ≤ ·) := by
  unfold natI
  rw [List.pairwise_map]
  refine List.Pairwise.imp ?_ (List.pairwise_lt_range (n := m))
  intro a b h
  omega
theorem sorted_is {m : Nat} {ms : List Int} {o : List Nat} (hp : ms.Perm (natI o)) (hs : ms.Pairwise (· ≤ ·)) : ms = natI (List.range m) ↔ o.Perm (List.range m) := by
  constructor
  · intro e
    rw [e] at hp
    exact (natI_perm hp).symm
  · intro h
    refine List.Perm.eq_of_pairwise (le := fun a b : Int => a ≤ b) (fun a b _ _ h1 h2 => by omega) hs (range_sorted m) (hp.trans ?_)
    exact h.map _
def spIor (K : PySem.W.Frag) : Sp := fun vs H Q _ => ∃ (p : Addr) (xs : List V) (m : Nat), vs = [.ref p, .int (m : Int)] ∧ H p = some (.lst xs) ∧ (∀ v ∈ xs, Pl K H v) ∧ xs.length ≤ 60 ∧ m ≤ 6 ∧ ∀ (b : Bool) H', Same H H' → (b = true ↔ IsOrd m xs) → Q (.bl b) H'
theorem scIor : FnScope ["order", "many"] ["order", "many"] (defScope sIor) := ⟨rfl, rfl, rfl, by decide +kernel, rfl, by decide +kernel, by decide +kernel⟩
theorem ok_ior {f1 : Addr} {fd1 : FuncData} (t : Tx K mg "is_order" sIor ["order", "many"] f fd) (T : T K mg AL LN FR iF fCh fGM fCC fCA fPL SE NN NG NT NO NR NS) (D_is_number_within : Df P w K mg base CX0 2 "is_number_within" ["thing", "least", "most"] (spWith K) f1 fd1) :
    Df P w K mg base CX0 3 "is_order" ["order", "many"] (spIor K) f fd := by
  refine t.df0 scIor (fun vs H Q E h => ?_) (fun cdv A outer s H vs Q E hr h => ?_)
  · obtain ⟨p, xs, m, rfl, _⟩ := h
    rfl
  · obtain ⟨p, xs, m, rfl, hp, pl, hlen, m6, k⟩ := h
    refine ⟨_, (pss_cons (ps_if (PW.pt (pw_or (pt_not (pt_val (pe_callB call_isi (by rfl) T.b_isi bt_isi (pa_cons (pv 0) (pa_cons (pe_bltn (v := .ty "list") (by rfl) T.b_list bt_list rfl) pa_nil))))) (pw_or1 (pt_not (pt_val (pe_callB (call_all rfl) (by rfl) T.b_all bt_all (pa_cons (pe_comp (NB := ["hand", "many"]) (pick := [none, some 1]) (blk_mk (by with_unfolding_all rfl) (by exact (And.intro rfl trivial)) rfl (by decide +kernel) (by decide +kernel) (by rfl) (by rfl)) rfl
          (pi_list (pv 0)) (fun _ _ _ => pg_name (i := 0) (show (["hand", "many"] : List Str).Nodup from by decide +kernel) rfl (Or.inl rfl))
          (fun _ _ _ => pif_nil) (fun _ _ _ => (pe_d0 D_is_number_within hr (by decide) (by rfl) (pa_cons (pv 0) (pa_cons pe_int (pa_cons (pe_op op_sub (pv 1) pe_int) pa_nil)))))) pa_nil))))))) (pss_one (ps_ret pe_bl)) pss_nil)
      (pss_one (ps_ret (pe_cmpR (op_eqL hr.units) (pe_callB call_sortedI (by rfl) T.b_sorted bt_sortedI (pa_cons (pv 0) pa_nil)) (pe_listRange (by rfl) T.b_list (by rfl) T.b_range rfl (pa_cons (pv 1) pa_nil)) (nomark _))))), ?_⟩
    refine ⟨_, rfl, .ref p, .ty "list", _, _, _, rfl, rfl, .of (.lst hp), Kd.lst.list_ K, _, rfl, iteF ?_⟩
    refine ⟨_, rfl, p, rfl, ⟨xs, SqL.of hp⟩, ?_⟩
    refine comp_lst (xs := xs) (fun _ x => some (.bl (inB 0 ((m : Int) - 1) x))) (SqL.of hp) (Nat.le_of_lt (small1000 (by omega))) (fun i x H2 kk kk0 s2 hx h1 h2 => ?_) fun D H2 hD s2 hd => ?_
    · exact ⟨_, rfl, _, rfl, _, _, rfl, rfl, x, 0, _, rfl, (pl x (List.mem_of_getElem? hx)).same s2, h1 _ rfl _ (.refl _)⟩
    · have ed : ((List.range xs.length).filterMap fun i => (xs[i]?).bind fun x => some (V.bl (inB 0 ((m : Int) - 1) x))) = (xs.map (inB 0 ((m : Int) - 1))).map V.bl := by
        rw [List.map_map, ← fm_mapV]
        rfl
      rw [ed] at hd
      refine ⟨D, _, rfl, SqL.of hd, _, rfl, ?_⟩
      have ea : (xs.map (inB 0 ((m : Int) - 1))).all id = xs.all (inB 0 ((m : Int) - 1)) := by rw [List.all_map]; rfl
      rw [ea]
      cases eb : xs.all (inB 0 ((m : Int) - 1)) with
      | false =>
        refine iteT (k false H2 s2 ⟨fun e => (Bool.false_ne_true e).elim, fun ⟨o, eo, po⟩ => ?_⟩)
        rw [eo, ord_all po] at eb
        cases eb
      | true =>
        obtain ⟨o, rfl⟩ := all_ord eb
        have hol : (natI o).length < 64 := by rw [List.length_map] at hlen; omega
        refine iteF ⟨_, rfl, p, natI o, rfl, SqL.of (s2 _ _ hp), hol, fun l ms hl hpm hsm => ?_⟩
        have u1 := Same.upd_new (o := .lst (ms.map V.int)) hl
        have h1 : upd H2 l (.lst (ms.map V.int)) l = some (.lst (ms.map V.int)) := upd_same
        generalize upd H2 l (.lst (ms.map V.int)) = H3 at u1 h1 ⊢
        refine ⟨_, rfl, m, rfl, by omega, fun q hq => ?_⟩
        have er : rangeV m = (natI (List.range m)).map V.int := by unfold rangeV natI; rw [List.map_map]; rfl
        rw [er]
        have u2 := Same.upd_new (o := .lst ((natI (List.range m)).map V.int)) hq
        refine ⟨l, q, ms, natI (List.range m), rfl, rfl, SqL.of (u2 _ _ h1), SqL.of upd_same, k _ _ ((s2.trans u1).trans u2) ?_⟩
        show decide (ms = natI (List.range m)) = true ↔ _
        rw [decide_eq_true_iff, sorted_is hpm hsm]
        constructor
        · intro z
          exact ⟨o, rfl, z⟩
        · rintro ⟨o', e, z⟩
          rw [nat_inj e]
          exact z
def walkS (rs : List Int) : List Nat → Nat → List Int → List Int
  | [], _, S => S
  | h :: r, g, S => walkS rs r (g + 2 ^ h) (S.set h (rs.getD (g + 2 ^ h) 0 - rs.getD g 0))
def bitsS (o : List Nat) : Nat := (o.map fun h => 2 ^ h).sum
theorem bits_app (a : List Nat) (h : Nat) : bitsS (a ++ [h]) = bitsS a + 2 ^ h := by unfold bitsS; rw [List.map_append, List.sum_append]; simp
theorem walk_app (rs : List Int) (h : Nat) : ∀ (a : List Nat) (g : Nat) (S : List Int), walkS rs (a ++ [h]) g S = (walkS rs a g S).set h (rs.getD (g + bitsS a + 2 ^ h) 0 - rs.getD (g + bitsS a) 0)
  | [], g, S => by
    show S.set h _ = S.set h _
    rw [show bitsS [] = 0 from rfl, Nat.add_zero]
  | x :: r, g, S => by
    show walkS rs (r ++ [h]) _ _ = _
    rw [walk_app rs h r]
    have e : g + bitsS (x :: r) = g + 2 ^ x + bitsS r := by
      unfold bitsS
      rw [List.map_cons, List.sum_cons]
      omega
    rw [e]
    rfl
theorem walk_len (rs : List Int) : ∀ (a : List Nat) (g : Nat) (S : List Int), (walkS rs a g S).length = S.length
  | [], _, _ => rfl
  | x :: r, g, S => by
    show (walkS rs r _ _).length = _
    rw [walk_len rs r, List.length_set]
theorem bits_take {o : List Nat} {i : Nat} {h : Nat} (e : o[i]? = some h) : bitsS (o.take i) + 2 ^ h ≤ bitsS o := by
  have a : o = o.take i ++ (h :: o.drop (i + 1)) := by
    have hi : i < o.length := (List.getElem?_eq_some_iff.mp e).1
    have hv : o[i] = h := (List.getElem?_eq_some_iff.mp e).2
    rw [← hv, List.getElem_cons_drop, List.take_append_drop]
  have b : bitsS o = bitsS (o.take i) + (2 ^ h + bitsS (o.drop (i + 1))) := by
    conv => lhs; rw [a]
    unfold bitsS
    rw [List.map_append, List.sum_append, List.map_cons, List.sum_cons]
  omega
theorem bits_rng : ∀ m : _root_.Fin 7, bitsS (List.range m.1) = 2 ^ m.1 - 1 := by decide +kernel
theorem ord_bits {m : Nat} {o : List Nat} (m6 : m ≤ 6) (h : o.Perm (List.range m)) : bitsS o = 2 ^ m - 1 := by
  rw [← bits_rng ⟨m, by omega⟩]
  exact (h.map _).sum_nat
theorem rep_flat (m : Nat) : (List.replicate (m : Int).toNat [V.int 0]).flatten = (List.replicate m (0 : Int)).map V.int := by
  rw [Int.toNat_natCast]
  induction m with
  | zero => rfl
  | succ j ih => rw [List.replicate_succ, List.flatten_cons, ih, List.replicate_succ, List.map_cons]; rfl
theorem at_nat {rs : List Int} {j : Nat} (h : j < rs.length) : atI (rs.map V.int) (j : Int) = some (.int (rs.getD j 0)) := atI_nat (by rw [List.getElem?_map, List.getD_eq_getElem?_getD, List.getElem?_eq_getElem h]; rfl)
theorem ix_nat {xs : List V} {j : Nat} (h : j < xs.length) : ixN xs.length (j : Int) = some j := by
  unfold ixN
  rw [if_pos (by omega), if_pos (by omega)]
  rfl
theorem o_get {o : List Nat} {i : Nat} {x : V} (hx : ((natI o).map V.int)[i]? = some x) : ∃ h : Nat, o[i]? = some h ∧ V.int (h : Int) = x := by
  unfold natI at hx
  rw [List.map_map, List.getElem?_map] at hx
  cases e : o[i]? with
  | none => rw [e] at hx; cases hx
  | some h => rw [e] at hx; exact ⟨h, rfl, Option.some.inj hx⟩
theorem take_next {o : List Nat} {i h : Nat} (e : o[i]? = some h) : o.take (i + 1) = o.take i ++ [h] := by rw [List.take_add_one, e]; rfl
theorem alone_ix : ∀ h : _root_.Fin 6, atI (aloneL.map V.int) ((h.1 : Nat) : Int) = some (.int ((2 ^ h.1 : Nat) : Int)) := by decide +kernel
def spOsh (K : PySem.W.Frag) (NO : Addr) : Sp := fun vs H Q E => ∃ (l p : Addr) (m : Nat) (rs : List Int) (xs : List V), vs = [.ref l, .ref p] ∧ H l = some (.lst (rs.map V.int)) ∧ TabN m rs ∧ H p = some (.lst xs) ∧ (∀ v ∈ xs, Pl K H v) ∧ xs.length ≤ 60 ∧ (¬ IsOrd m xs → ∀ H', Same H H' → E (.ref NO) none H') ∧ (∀ o : List Nat, xs = (natI o).map V.int → o.Perm (List.range m) → ∀ (q : Addr) H', H q = none → Same H H' → H' q = some (.lst ((walkS rs o 0 (List.replicate m 0)).map V.int)) → Q (.ref q) H')
theorem scOsh : FnScope ["table", "order", "many", "shares", "ahead", "hand"] ["table", "order"] (defScope sOsh) := ⟨rfl, rfl, rfl, by decide +kernel, rfl, by decide +kernel, by decide +kernel⟩
theorem ok_osh {f1 f2 : Addr} {fd1 fd2 : FuncData} (t : Tx K mg "order_shares" sOsh ["table", "order"] f fd) (T : T K mg AL LN FR iF fCh fGM fCC fCA fPL SE NN NG NT NO NR NS) (D_hands_in : Df P w K mg base (CX1 P w) 3 "hands_in" ["table"] (spHin K NT) f1 fd1)
    (D_is_order : Df P w K mg base CX0 3 "is_order" ["order", "many"] (spIor K) f2 fd2) : Df P w K mg base (CX1 P w) 4 "order_shares" ["table", "order"] (spOsh K NO) f fd := by
  refine t.df1 scOsh (fun vs H Q E h => ?_) (fun cdv A outer s H vs Q E hr h => ?_)
  · obtain ⟨l, p, m, rs, xs, rfl, _⟩ := h
    rfl
  · obtain ⟨l, p, m, rs, xs, rfl, hl, tb, hpx, pl, hxl, k0, k⟩ := h
    have hp := tb.pos
    have m6 := tb.2.1
    have hm := tb.2.2.1
    refine ⟨_, (pss_cons (ps_set (i := 2) scOsh.nd rfl (Or.inl rfl) (pe_d1 rais_def.toPass D_hands_in hr (by decide) (by rfl) (pa_cons (pv 0) pa_nil)))
      (pss_cons (ps_if (pt_not (pt_val (pe_d0 D_is_order hr (by decide) (by rfl) (pa_cons (pv 1) (pa_cons (pv 2) pa_nil))))) (pss_one (ps_raise rais_def rfl (by rfl) T.mNO T.xNO (pa_cons pe_str pa_nil))) pss_nil)
      (pss_cons (ps_set (i := 3) scOsh.nd rfl (Or.inl rfl) (pe_op op_rep (pe_lst (pa_cons pe_int pa_nil)) (pv 2)))
      (pss_cons (ps_set (i := 4) scOsh.nd rfl (Or.inl rfl) pe_int)
      (pss_cons (ps_for rais_def.own rfl (pi_list (pv 1)) (pg_name (i := 5) scOsh.nd rfl (Or.inl rfl))
        (pss_cons (ps_asg (pe_op op_sub (pe_ix ix_list (pv 0) (pe_op op_add (pv 4) (pe_ix ix_tup (pe_glob (v := .ref AL) (by rfl) T.mAL rfl) (pv 5) (fun _ _ => rfl))) (fun _ _ => rfl)) (pe_ix ix_list (pv 0) (pv 4) (fun _ _ => rfl))) (pg_sub (pv 3) (pv 5) set_list))
        (pss_one (ps_aug (i := 4) scOsh.nd rfl (Or.inl rfl) (pe_ix ix_tup (pe_glob (v := .ref AL) (by rfl) T.mAL rfl) (pv 5) (fun _ _ => rfl)) ip_add))))
      (pss_one (ps_ret (pv 3)))))))), ?_⟩
    refine ⟨_, rfl, l, _, rfl, hl, pl_ints, by rw [List.length_map]; omega, (fun e => by rw [tabB_of tb] at e; cases e), fun m' m1 m6' hm' _ H1 s1 => ?_⟩
    rw [List.length_map, tb.2.2.1] at hm'
    obtain rfl := pow_inj hm'
    refine ⟨_, rfl, _, rfl, p, xs, m, rfl, s1 _ _ hpx, fun v hv => (pl v hv).same s1, hxl, m6, fun b H2 s2 hb => ⟨_, rfl, ?_⟩⟩
    have s12 := s1.trans s2
    cases b with
    | false => exact iteT ⟨by show 1 ≤ sizeLine; decide, k0 (fun z => Bool.false_ne_true (hb.mpr z)) _ s12⟩
    | true =>
      obtain ⟨o, rfl, po⟩ := hb.mp rfl
      have ol := ord_len po
      have ob := ord_bits m6 po
      have h2m : 2 ≤ 2 ^ m := by rw [← hm]; exact hp.1
      refine iteF ⟨by show 1 ≤ sizeLine; decide, fun l0 hl0 => ?_⟩
      have v1 := Same.upd_new (o := .lst [V.int 0]) hl0
      refine ⟨_, rfl, l0, (m : Int), [.int 0], rfl, rfl, upd_same, by omega, by omega, (by show 1 * (m : Int).toNat ≤ sizeLine; rw [Nat.one_mul]; exact Nat.le_of_lt (small1000 (by omega))), fun z hz => ?_⟩
      rw [rep_flat]
      have hzH : H z = none := s12.free (v1.free hz)
      have v2 := (s12.trans v1).trans (Same.upd_new (o := .lst ((List.replicate m (0 : Int)).map V.int)) hz)
      refine ⟨_, rfl, p, rfl, ⟨_, SqL.of (v2 _ _ hpx)⟩, ?_⟩
      refine for_list (xs := (natI o).map V.int) (fun i σ' H' => Same H H' ∧ H' z = some (.lst ((walkS rs (o.take i) 0 (List.replicate m 0)).map V.int)) ∧ ∃ o5 : Option V, σ' = [some (.ref l), some (.ref p), some (.int (m : Int)), some (.ref z), some (.int ((bitsS (o.take i) : Nat) : Int)), o5]) ⟨v2, upd_same, _, rfl⟩ ?_ ?_ ?_
      · rintro i σ' H' _ ⟨e, _⟩
        exact SqL.of (e _ _ hpx)
      · rintro i x σ' H5 hx ⟨s5, hz5, o5, rfl⟩
        obtain ⟨h, hh, rfl⟩ := o_get hx
        have hhm := ord_mem po (List.mem_of_getElem? hh)
        have hb := bits_take hh
        have hpw : 0 < 2 ^ h := Nat.pow_pos (by decide)
        have ha := alone_ix ⟨h, by omega⟩
        have e2 : ((bitsS (o.take i) : Nat) : Int) + ((2 ^ h : Nat) : Int) = ((bitsS (o.take i) + 2 ^ h : Nat) : Int) := by omega
        have hal := at_nat (rs := rs) (j := bitsS (o.take i) + 2 ^ h) (by omega)
        rw [← e2] at hal
        refine ⟨_, rfl, _, rfl, _, rfl, AL, _, _, _, rfl, rfl, T.al _, ha, _, _, rfl, rfl, l, _, _, _, rfl, rfl, SqL.of (s5 _ _ hl), hal, _, rfl, _, rfl, l, _, _, _, rfl, rfl, SqL.of (s5 _ _ hl), at_nat (by omega), _, _, rfl, rfl, ?_⟩
        have hzl : h < ((walkS rs (o.take i) 0 (List.replicate m 0)).map V.int).length := by rw [List.length_map, walk_len, List.length_replicate]; exact hhm
        refine ⟨_, rfl, _, rfl, z, _, _, h, rfl, rfl, hz5, ix_nat hzl, ?_⟩
        have s6 : Same H (upd H5 z (.lst (((walkS rs (o.take i) 0 (List.replicate m 0)).map V.int).set h (V.int (rs.getD (bitsS (o.take i) + 2 ^ h) 0 - rs.getD (bitsS (o.take i)) 0))))) := s5.upd_ne' hzH
        refine ⟨_, rfl, _, rfl, AL, _, _, _, rfl, rfl, T.al _, ha, _, _, rfl, rfl, s6, ?_, some (.int (h : Int)), ?_⟩
        · rw [upd_same, take_next hh, walk_app, List.map_set, Nat.zero_add]
        · rw [take_next hh, bits_app, ← e2]
          rfl
      · rintro σ' H5 ⟨s5, hz5, o5, rfl⟩
        have e : o.take ((natI o).map V.int).length = o := by rw [List.length_map]; unfold natI; rw [List.length_map, List.take_length]
        rw [e] at hz5
        exact ⟨_, rfl, k o rfl po z H5 hzH s5 hz5⟩
def SwLe (rs : List Int) (x y : Nat) : Prop := rs.getD x 0 + rs.getD y 0 ≤ rs.getD (x ||| y) 0 + rs.getD (x &&& y) 0
def NoSw (rs : List Int) : Prop := ∀ x, x < rs.length → ∀ y, y < x → SwLe rs x y
def Wk (rs : List Int) (v : V) (H : Hp) : Prop := (v = .non ∧ NoSw rs) ∨ ∃ (q : Addr) (x y : Nat), v = .ref q ∧ x < rs.length ∧ y < x ∧ ¬ SwLe rs x y ∧ H q = some (.tup [.int (y : Int), .int (x : Int)])
def spSwl (K : PySem.W.Frag) : Sp := fun vs H Q _ => ∃ (l : Addr) (m : Nat) (rs : List Int), vs = [.ref l] ∧ H l = some (.lst (rs.map V.int)) ∧ TabN m rs ∧ ∀ v H', Same H H' → Wk rs v H' → Q v H'
theorem scSwl : FnScope ["table", "one", "other"] ["table"] (defScope sSwl) := ⟨rfl, rfl, rfl, by decide +kernel, rfl, by decide +kernel, by decide +kernel⟩
theorem ok_swl {f1 : Addr} {fd1 : FuncData} (t : Tx K mg "swells" sSwl ["table"] f fd) (T : T K mg AL LN FR iF fCh fGM fCC fCA fPL SE NN NG NT NO NR NS) (D_hands_in : Df P w K mg base (CX1 P w) 3 "hands_in" ["table"] (spHin K NT) f1 fd1) :
    Df P w K mg base (CX1 P w) 4 "swells" ["table"] (spSwl K) f fd := by
  refine t.df1 scSwl (fun vs H Q E h => ?_) (fun cdv A outer s H vs Q E hr h => ?_)
  · obtain ⟨l, m, rs, rfl, _⟩ := h
    rfl
  · obtain ⟨l, m, rs, rfl, hl, tb, k⟩ := h
    have hp := tb.pos
    refine ⟨_, (pss_cons (ps_expr (pe_d1 rais_def.toPass D_hands_in hr (by decide) (by rfl) (pa_cons (pv 0) pa_nil)))
      (pss_cons (ps_for rais_def.own rfl (pi_range1 (by rfl) T.b_range (pa_cons (pe_callB call_len_seq (by rfl) T.b_len bt_len (pa_cons (pv 0) pa_nil)) pa_nil)) (pg_name (i := 1) scSwl.nd rfl (Or.inl rfl))
        (pss_one (ps_for rais_def.own rfl (pi_range1 (by rfl) T.b_range (pa_cons (pv 1) pa_nil)) (pg_name (i := 2) scSwl.nd rfl (Or.inl rfl))
          (pss_one (ps_if (pt_cmpR op_gt (pe_op op_add (pe_ix ix_list (pv 0) (pv 1) (fun _ _ => rfl)) (pe_ix ix_list (pv 0) (pv 2) (fun _ _ => rfl))) (pe_op op_add (pe_ix ix_list (pv 0) (pe_op op_or (pv 1) (pv 2)) (fun _ _ => rfl)) (pe_ix ix_list (pv 0) (pe_op op_and (pv 1) (pv 2)) (fun _ _ => rfl))) (nomark _)) (pss_one (ps_ret (pe_tup (pa_cons (pv 2) (pa_cons (pv 1) pa_nil))))) pss_nil)))))
      (pss_one (ps_ret pe_non)))), ?_⟩
    refine ⟨_, rfl, l, _, rfl, hl, pl_ints, by rw [List.length_map]; omega, (fun e => by rw [tabB_of tb] at e; cases e), fun m' m1 m6 hm _ H1 s1 => ?_⟩
    rw [List.length_map] at hm
    have hl1 := s1 _ _ hl
    refine ⟨_, rfl, l, _, rfl, .inl (SqL.of hl1), (rs.length : Int), (by show [V.int ((rs.map V.int).length : Int)] = _; rw [List.length_map]), by omega, by omega, ?_⟩
    refine for_range (n := rs.length) (fun i σ' H' => H' = H1 ∧ (∀ x, x < i → ∀ y, y < x → SwLe rs x y) ∧ ∃ o1 o2 : Option V, σ' = [some (.ref l), o1, o2]) ⟨rfl, fun x hx => absurd hx (Nat.not_lt_zero _), _, _, rfl⟩ ?_ ?_
    · rintro x σ' H' hx ⟨rfl, hlo, o1, o2, rfl⟩
      refine ⟨_, rfl, (x : Int), (by show [V.int (0 + (x : Int))] = _; rw [Int.zero_add]), by omega, by omega, ?_⟩
      refine for_range (n := x) (fun j σ' H2 => H2 = H' ∧ (∀ y, y < j → SwLe rs x y) ∧ ∃ o2 : Option V, σ' = [some (.ref l), some (.int (0 + (x : Int))), o2]) ⟨rfl, fun y hy => absurd hy (Nat.not_lt_zero _), _, rfl⟩ ?_ ?_
      · rintro y σ' H2 hy ⟨rfl, hlo2, o2, rfl⟩
        have hor : x ||| y < rs.length := by rw [hm]; exact Nat.or_lt_two_pow (by omega) (by omega)
        have han : x &&& y < rs.length := Nat.lt_of_le_of_lt Nat.and_le_left hx
        have ax : atI (rs.map V.int) (0 + (x : Int)) = some (.int (rs.getD x 0)) := by rw [Int.zero_add]; exact at_of hx
        have ay : atI (rs.map V.int) (0 + (y : Int)) = some (.int (rs.getD y 0)) := by rw [Int.zero_add]; exact at_of (by omega)
        have ao : atI (rs.map V.int) (Builtin.bitOr (0 + (x : Int)) (0 + (y : Int))) = some (.int (rs.getD (x ||| y) 0)) := by rw [Int.zero_add, Int.zero_add, bor (by omega) (by omega)]; exact at_of hor
        have aa : atI (rs.map V.int) (Builtin.bitAnd (0 + (x : Int)) (0 + (y : Int))) = some (.int (rs.getD (x &&& y) 0)) := by rw [Int.zero_add, Int.zero_add, bitAnd_nat]; exact at_of han
        refine ⟨_, rfl, _, rfl, l, _, _, _, rfl, rfl, SqL.of hl1, ax, _, rfl, _, rfl, l, _, _, _, rfl, rfl, SqL.of hl1, ay, _, _, rfl, rfl, ?_⟩
        refine ⟨_, rfl, _, rfl, _, rfl, _, _, rfl, rfl, l, _, _, _, rfl, rfl, SqL.of hl1, ao, _, rfl, _, rfl, _, rfl, _, _, rfl, rfl, l, _, _, _, rfl, rfl, SqL.of hl1, aa, _, _, rfl, rfl, _, _, rfl, rfl, _, rfl, ite2 (fun hb => ?_) (fun hb => ?_)⟩
        · have hb := of_decide_eq_true hb
          refine ⟨_, rfl, _, rfl, by show 2 ≤ sizeLine; decide, fun q hq => ?_⟩
          refine k _ _ (s1.trans (.upd_new hq)) (.inr ⟨q, x, y, rfl, hx, hy, (by unfold SwLe; omega), ?_⟩)
          rw [upd_same, Int.zero_add, Int.zero_add]
        · refine ⟨rfl, fun y' hy' => ?_, _, rfl⟩
          rcases Nat.lt_or_ge y' y with z | z
          · exact hlo2 y' z
          · obtain rfl : y' = y := by omega
            unfold SwLe
            refine Classical.byContradiction fun z => hb (decide_eq_true ?_)
            omega
      · rintro σ' H2 ⟨rfl, hlo2, o2, rfl⟩
        refine ⟨rfl, fun x' hx' => ?_, _, _, rfl⟩
        rcases Nat.lt_or_ge x' x with z | z
        · exact hlo x' z
        · obtain rfl : x' = x := by omega
          exact hlo2
    · rintro σ' H' ⟨rfl, hlo, o1, o2, rfl⟩
      exact k _ _ s1 (.inl ⟨rfl, hlo⟩)
def isF2 : V → V → Bool
  | .int a, .int b => decide (1 ≤ b) && decide (Int.gcd a b = 1)
  | _, _ => false
inductive FrIs (K : PySem.W.Frag) (H : Hp) : V → Bool → Prop where
  | other {v : V} {T : String} (ty : TyOf K H v (.type T)) (kd : Kd T) (n : (T == "tuple") = false) : FrIs K H v false
  | len {p : Addr} {xs : List V} (h : H p = some (.tup xs)) (n : xs.length ≠ 2) : FrIs K H (.ref p) false
  | two {p : Addr} {x y : V} {b : Bool} (h : H p = some (.tup [x, y])) (px : Pl K H x) (py : Pl K H y) (e : isF2 x y = b) : FrIs K H (.ref p) b
theorem FrIs.same {K : PySem.W.Frag} {H H' : Hp} {v : V} {b : Bool} (h : FrIs K H v b) (s : Same H H') : FrIs K H' v b := by
  cases h with
  | other ty kd n => exact .other (s.ty ty) kd n
  | len h n => exact .len (s _ _ h) n
  | two h px py e => exact .two (s _ _ h) (px.same s) (py.same s) e
def spIsF (K : PySem.W.Frag) : Sp := fun vs H Q _ => ∃ v b, vs = [v] ∧ FrIs K H v b ∧ Q (.bl b) H
theorem scIsF : FnScope ["thing", "top", "bottom"] ["thing"] (defScope sIsF) := ⟨rfl, rfl, rfl, by decide +kernel, rfl, by decide +kernel, by decide +kernel⟩
theorem ok_isf {f1 f2 : Addr} {fd1 fd2 : FuncData} (t : Tx K mg "is_fraction" sIsF ["thing"] f fd) (T : T K mg AL LN FR iF fCh fGM fCC fCA fPL SE NN NG NT NO NR NS) (D_is_number : Df P w K mg base CX0 1 "is_number" ["thing"] (spNum K) f1 fd1) (D_greatest_divisor : Df P w K mg base CX0 1 "greatest_divisor" ["one", "other"] spGcd f2 fd2) :
    Df P w K mg base CX0 2 "is_fraction" ["thing"] (spIsF K) f fd := by
  refine t.df0 scIsF (fun vs H Q E h => ?_) (fun cdv A outer s H vs Q E hr h => ?_)
  · obtain ⟨v, b, rfl, _⟩ := h
    rfl
  · obtain ⟨v, r, rfl, fi, k⟩ := h
    refine ⟨_, (pss_cons (ps_if (PW.pt (pw_or (pt_not (pt_val (pe_callB call_isi (by rfl) T.b_isi bt_isi (pa_cons (pv 0) (pa_cons (pe_bltn (v := .ty "tuple") (by rfl) T.b_tuple bt_tuple rfl) pa_nil))))) (pw_or1 (pt_cmpR op_ne (pe_callB call_len_seq (by rfl) T.b_len bt_len (pa_cons (pv 0) pa_nil)) pe_int (nomark _))))) (pss_one (ps_ret pe_bl)) pss_nil)
      (pss_cons (ps_set (i := 1) scIsF.nd rfl (Or.inl rfl) (pe_ix ix_tup (pv 0) pe_int (fun _ _ => rfl)))
      (pss_cons (ps_set (i := 2) scIsF.nd rfl (Or.inl rfl) (pe_ix ix_tup (pv 0) pe_int (fun _ _ => rfl)))
      (pss_cons (ps_if (PW.pt (pw_or (pt_not (pt_val (pe_d0 D_is_number hr (by decide) (by rfl) (pa_cons (pv 1) pa_nil)))) (pw_or1 (pt_not (pt_val (pe_d0 D_is_number hr (by decide) (by rfl) (pa_cons (pv 2) pa_nil))))))) (pss_one (ps_ret pe_bl)) pss_nil)
      (pss_one (ps_ret (pe_and (pe_cmpR op_ge (pv 2) pe_int (nomark _)) (pe_one (pe_cmpR op_eq (pe_d0 D_greatest_divisor hr (by decide) (by rfl) (pa_cons (pv 1) (pa_cons (pv 2) pa_nil))) pe_int (nomark _)))))))))), ?_⟩
    cases fi with
    | other ty kd n =>
      refine ⟨_, rfl, v, .ty "tuple", _, _, _, rfl, rfl, .of ty, kd.tuple_ K, _, rfl, ?_⟩
      rw [n]
      exact iteT (iteT k)
    | @len p xs h n =>
      refine ⟨_, rfl, .ref p, .ty "tuple", _, _, _, rfl, rfl, .of (.tup h), Kd.tup.tuple_ K, _, rfl, ?_⟩
      refine iteF ⟨_, rfl, p, _, rfl, .inr (SqT.of h), rfl, _, rfl, ?_⟩
      refine ite2 (fun _ => k) (fun h2 => absurd ?_ h2)
      show (!decide (V.int (xs.length : Int) = V.int 2)) = true
      rw [decide_eq_false (fun q => n (by have := V.int.inj q; omega))]
      rfl
    | @two p x y _ h px py e =>
      refine ⟨_, rfl, .ref p, .ty "tuple", _, _, _, rfl, rfl, .of (.tup h), Kd.tup.tuple_ K, _, rfl, ?_⟩
      refine iteF ⟨_, rfl, p, _, rfl, .inr (SqT.of h), rfl, _, rfl, ?_⟩
      refine iteNS rfl ?_
      refine ⟨_, rfl, p, _, _, x, rfl, rfl, SqT.of h, rfl, ?_⟩
      refine ⟨_, rfl, p, _, _, y, rfl, rfl, SqT.of h, rfl, ?_⟩
      refine ⟨_, rfl, x, rfl, px, _, rfl, ?_⟩
      cases e1 : isI x with
      | false =>
        have z : r = false := by
          rw [← e]
          cases x with
          | int a => cases e1
          | _ => rfl
        subst z
        exact iteT (iteT k)
      | true =>
        refine iteF ⟨_, rfl, y, rfl, py, _, rfl, ?_⟩
        cases e2 : isI y with
        | false =>
          have z : r = false := by
            rw [← e]
            cases x with
            | int a =>
              cases y with
              | int b => cases e2
              | _ => rfl
            | _ => rfl
          subst z
          exact iteT k
        | true =>
          refine iteF ?_
          cases x with
          | int a =>
            cases y with
            | int b =>
              have e' : (decide (1 ≤ b) && decide (Int.gcd a b = 1)) = r := e
              refine ⟨_, rfl, _, _, rfl, rfl, _, rfl, ?_⟩
              refine ite2 (fun h2 => ?_) (fun h2 => ?_)
              · refine ⟨_, rfl, _, rfl, a, b, rfl, rfl, ?_⟩
                have z : decide (V.int ((Int.gcd a b : Nat) : Int) = V.int 1) = r := by
                  rw [← e', h2, Bool.true_and]
                  by_cases hg : Int.gcd a b = 1
                  · rw [decide_eq_true hg, hg]
                    rfl
                  · rw [decide_eq_false hg, decide_eq_false (fun q => hg (by have := V.int.inj q; omega))]
                rw [z]
                exact k
              · have z : r = false := by rw [← e', Bool.eq_false_iff.mpr h2, Bool.false_and]
                subst z
                exact k
            | _ => cases e2
          | _ => cases e1
def FrsIs (K : PySem.W.Frag) (H : Hp) (xs : List V) (bs : List Bool) : Prop := bs.length = xs.length ∧ ∀ (i : Nat) (x : V) (b : Bool), xs[i]? = some x → bs[i]? = some b → FrIs K H x b
def goodB (m : Nat) (xs : List V) (bs : List Bool) : Bool := decide (xs.length = m) && bs.all id
def spCks (K : PySem.W.Frag) (NS : Addr) : Sp := fun vs H Q E => ∃ (q : Addr) (xs : List V) (bs : List Bool) (m : Nat), vs = [.ref q, .int (m : Int)] ∧ H q = some (.lst xs) ∧ xs.length ≤ 60 ∧ FrsIs K H xs bs ∧ (goodB m xs bs = false → ∀ H', Same H H' → E (.ref NS) none H') ∧ (goodB m xs bs = true → ∀ H', Same H H' → Q .non H')
theorem scCks : FnScope ["shares", "many"] ["shares", "many"] (defScope sCks) := ⟨rfl, rfl, rfl, by decide +kernel, rfl, by decide +kernel, by decide +kernel⟩
theorem ok_cks {f1 : Addr} {fd1 : FuncData} (t : Tx K mg "check_shares" sCks ["shares", "many"] f fd) (T : T K mg AL LN FR iF fCh fGM fCC fCA fPL SE NN NG NT NO NR NS) (D_is_fraction : Df P w K mg base CX0 2 "is_fraction" ["thing"] (spIsF K) f1 fd1) :
    Df P w K mg base (CX1 P w) 3 "check_shares" ["shares", "many"] (spCks K NS) f fd := by
  refine t.df1 scCks (fun vs H Q E h => ?_) (fun cdv A outer s H vs Q E hr h => ?_)
  · obtain ⟨q, xs, bs, m, rfl, _⟩ := h
    rfl
  · obtain ⟨q, xs, bs, m, rfl, hq, hl, fi, k0, k⟩ := h
    refine ⟨_, (pss_one (ps_if (PW.pt (pw_or (pt_not (pt_val (pe_callB call_isi (by rfl) T.b_isi bt_isi (pa_cons (pv 0) (pa_cons (pe_bltn (v := .ty "list") (by rfl) T.b_list bt_list rfl) pa_nil))))) (pw_or (pt_cmpR op_ne (pe_callB call_len_seq (by rfl) T.b_len bt_len (pa_cons (pv 0) pa_nil)) (pv 1) (nomark _)) (pw_or1 (pt_not (pt_val (pe_callB (call_all rfl) (by rfl) T.b_all bt_all (pa_cons (pe_comp (NB := ["share"]) (pick := [none]) (blk_mk (by with_unfolding_all rfl) (by exact trivial) rfl (by decide +kernel) (by decide +kernel) (by rfl) (by rfl)) rfl
          (pi_list (pv 0)) (fun _ _ _ => pg_name (i := 0) (show (["share"] : List Str).Nodup from by decide +kernel) rfl (Or.inl rfl))
          (fun _ _ _ => pif_nil) (fun _ _ _ => (pe_d0 D_is_fraction hr (by decide) (by rfl) (pa_cons (pv 0) pa_nil)))) pa_nil)))))))) (pss_one (ps_raise rais_def rfl (by rfl) T.mNS T.xNS (pa_cons pe_str pa_nil))) pss_nil)), ?_⟩
    refine ⟨_, rfl, .ref q, .ty "list", _, _, _, rfl, rfl, .of (.lst hq), Kd.lst.list_ K, _, rfl, iteF ?_⟩
    refine ⟨_, rfl, q, _, rfl, .inl (SqL.of hq), _, rfl, rfl, _, rfl, ?_⟩
    by_cases e : xs.length = m
    · subst e
      refine iteNS rfl ?_
      refine ⟨_, rfl, q, rfl, ⟨_, SqL.of hq⟩, ?_⟩
      refine comp_lst (xs := xs) (fun i _ => some (.bl (bs.getD i false))) (SqL.of hq) (Nat.le_of_lt (small1000 (by omega))) (fun i x H2 kk kk0 s2 hx h1 h2 => ?_) fun D H2 hD s2 hd => ?_
      · have hi : i < bs.length := by
          obtain ⟨z, _⟩ := List.getElem?_eq_some_iff.mp hx
          rw [fi.1]
          exact z
        have eb : bs[i]? = some (bs.getD i false) := by rw [List.getD_eq_getElem?_getD, List.getElem?_eq_getElem hi]; rfl
        exact ⟨_, rfl, x, _, rfl, (fi.2 i x _ hx eb).same s2, h1 _ rfl _ (.refl _)⟩
      have ed : ((List.range xs.length).filterMap fun i => (xs[i]?).bind fun _ => some (V.bl (bs.getD i false))) = bs.map V.bl := by
        rw [← fi.1]
        refine Eq.trans (fm_congr (g := fun i => some (V.bl (bs.getD i false))) fun i hi => ?_) ?_
        · have hi := List.mem_range.mp hi
          rw [List.getElem?_eq_getElem (by rw [← fi.1]; exact hi)]
          rfl
        · rw [List.filterMap_eq_map']
          refine List.ext_getElem (by rw [List.length_map, List.length_map, List.length_range]) fun i a b => ?_
          rw [List.length_map] at b
          rw [List.getElem_map, List.getElem_map, List.getElem_range, List.getD_eq_getElem?_getD, List.getElem?_eq_getElem b]
          rfl
      rw [ed] at hd
      refine ⟨D, _, rfl, SqL.of hd, _, rfl, ?_⟩
      have eg : goodB xs.length xs bs = bs.all id := by unfold goodB; rw [decide_eq_true rfl, Bool.true_and]
      cases ea : bs.all id with
      | false => exact iteT ⟨by show 1 ≤ sizeLine; decide, k0 (eg.trans ea) H2 s2⟩
      | true => exact iteF (k (eg.trans ea) H2 s2)
    · have eg : goodB m xs bs = false := by unfold goodB; rw [decide_eq_false e]; rfl
      rw [decide_eq_false (show ¬ V.int (xs.length : Int) = V.int (m : Int) from fun z => e (by have := V.int.inj z; omega))]
      exact iteT (iteT ⟨by show 1 ≤ sizeLine; decide, k0 eg H (.refl _)⟩)
def spUnd : Sp := fun vs H Q _ => ∃ (p q : Addr) (S d e : Int), vs = [.ref p, .ref q] ∧ H p = some (frT S d) ∧ H q = some (.tup [.int e, .int 1]) ∧ 0 < d ∧ Sm 3000 d ∧ Sm 400000 S ∧ Sm 400000 e ∧ Q (.bl (decide (S < e * d))) H
theorem scUnd : FnScope ["one", "other"] ["one", "other"] (defScope sUnd) := ⟨rfl, rfl, rfl, by decide +kernel, rfl, by decide +kernel, by decide +kernel⟩
theorem und_fr {S d e : Int} (d0 : 0 < d) : decide (ta S d * 1 < e * tb S d) = decide (S < e * d) := by
  obtain ⟨e1, y1, _, _⟩ := t_spec (X := S) d0
  rw [Int.mul_one]
  refine decide_eq_decide.mpr ⟨fun h => ?_, fun h => ?_⟩
  · have z := Int.mul_lt_mul_of_pos_right h d0
    rw [e1, show e * tb S d * d = e * d * tb S d by grind] at z
    exact Int.lt_of_mul_lt_mul_right z (by omega)
  · have z := Int.mul_lt_mul_of_pos_right h (show 0 < tb S d by omega)
    rw [← e1, show e * d * tb S d = e * tb S d * d by grind] at z
    exact Int.lt_of_mul_lt_mul_right z (by omega)
theorem ok_und (t : Tx K mg "under" sUnd ["one", "other"] f fd) (T : T K mg AL LN FR iF fCh fGM fCC fCA fPL SE NN NG NT NO NR NS) : Df P w K mg base CX0 1 "under" ["one", "other"] spUnd f fd := by
  refine t.df0 scUnd (fun vs H Q E h => ?_) (fun cdv A outer s H vs Q E hr h => ?_)
  · obtain ⟨p, q, S, d, e, rfl, _⟩ := h
    rfl
  · obtain ⟨p, q, S, d, e, rfl, hp, hq, d0, sd, sS, se, k⟩ := h
    refine ⟨_, (pss_one (ps_ret (pe_cmpR op_lt (pe_op op_mulB (pe_ix ix_tup (pv 0) pe_int (fun _ _ => rfl)) (pe_ix ix_tup (pv 1) pe_int (fun _ _ => rfl))) (pe_op op_mulB (pe_ix ix_tup (pv 1) pe_int (fun _ _ => rfl)) (pe_ix ix_tup (pv 0) pe_int (fun _ _ => rfl))) (nomark _)))), ?_⟩
    refine ⟨_, rfl, p, _, _, _, rfl, rfl, SqT.of hp, rfl, _, rfl, q, _, _, _, rfl, rfl, SqT.of hq, rfl, _, _, rfl, rfl, (ta_le sS).mb (Sm.of (i := 1) 2 (by decide) (Nat.le_refl _)), _, rfl, q, _, _, _, rfl, rfl, SqT.of hq, rfl, _, rfl, p, _, _, _, rfl, rfl, SqT.of hp, rfl, _, _, rfl, rfl, se.mb (tb_le (X := S) d0 sd), _, _, rfl, rfl, ?_⟩
    show Q (.bl (decide (ta S d * 1 < e * tb S d))) H
    rw [und_fr d0]
    exact k
theorem frs_L {m : Nat} {Y : Nat → Int} {d : Int} {H : Hp} {q : Addr} {ws : List Addr} (d0 : 0 < d) (fl : FrL m Y d H q ws) : FrsIs K H (ws.map V.ref) (List.replicate m true) := by
  refine ⟨by rw [List.length_replicate, List.length_map, fl.len], fun i x b e1 e2 => ?_⟩
  obtain ⟨w, hw, rfl⟩ := ref_of e1
  have hi : i < m := by rw [← fl.len]; exact (List.getElem?_eq_some_iff.mp hw).1
  rw [List.getElem?_replicate, if_pos hi] at e2
  obtain rfl : true = b := Option.some.inj e2
  obtain ⟨_, y1, g1, _⟩ := t_spec (X := Y i) d0
  refine .two (fl.at_ i w hw) (.int _) (.int _) ?_
  show (decide (1 ≤ tb (Y i) d) && decide (Int.gcd (ta (Y i) d) (tb (Y i) d) = 1)) = true
  rw [decide_eq_true y1, decide_eq_true g1]
  rfl
def spBet (K : PySem.W.Frag) : Sp := fun vs H Q _ => ∃ (l q : Addr) (m n : Nat) (tb Y : Nat → Int) (d : Int) (ws : List Addr), vs = [.ref l, .ref q] ∧ H l = some (.lst (lsV n tb)) ∧ 1 ≤ m ∧ m ≤ 6 ∧ n = 2 ^ m ∧ tb 0 = 0 ∧ (∀ j, Sm 90000 (tb j)) ∧ FrL m Y d H q ws ∧ 0 < d ∧ Sm 3000 d ∧ (∀ j, Sm 330000 (Y j)) ∧ (∀ g, g < n → tb g * d ≤ Wg.sm m fun i => bt g i * Y i) ∧ ∀ D H', H D = none → Same H H' → H' D = some (.lst []) → Q (.ref D) H'
theorem scBet : FnScope ["table", "shares", "many"] ["table", "shares"] (defScope sBet) := ⟨rfl, rfl, rfl, by decide +kernel, rfl, by decide +kernel, by decide +kernel⟩
theorem smY {m g : Nat} {Y : Nat → Int} (m6 : m ≤ 6) (sY : ∀ j, Sm 330000 (Y j)) : Sm 400000 (Wg.sm m fun i => bt g i * Y i) := by
  refine (sm_Sm (a := 330002) m fun i _ => ?_).mono (by omega)
  exact ((bt_sm g i).mul (sY i)).mono (by decide)
theorem ok_bet {f1 f2 f3 f4 : Addr} {fd1 fd2 fd3 fd4 : FuncData} (t : Tx K mg "bettering" sBet ["table", "shares"] f fd) (T : T K mg AL LN FR iF fCh fGM fCC fCA fPL SE NN NG NT NO NR NS) (D_hands_in : Df P w K mg base (CX1 P w) 3 "hands_in" ["table"] (spHin K NT) f1 fd1) (D_check_shares : Df P w K mg base (CX1 P w) 3 "check_shares" ["shares", "many"] (spCks K NS) f2 fd2)
    (D_under : Df P w K mg base CX0 1 "under" ["one", "other"] spUnd f3 fd3) (D_share_of : Df P w K mg base CX0 5 "share_of" ["group", "shares"] (spSho K) f4 fd4) : Df P w K mg base (CX1 P w) 6 "bettering" ["table", "shares"] (spBet K) f fd := by
  refine t.df1 scBet (fun vs H Q E h => ?_) (fun cdv A outer s H vs Q E hr h => ?_)
  · obtain ⟨l, q, m, n, tb', Y, d, ws, rfl, _⟩ := h
    rfl
  · obtain ⟨l, q, m, n, tb', Y, d, ws, rfl, hl, m1, m6, hn, t0, st, fl, d0, sd, sY, core, k⟩ := h
    have n64 : n ≤ 64 := by rw [hn]; exact pow6 m6
    have yes := tabB_ls m1 m6 hn t0
    refine ⟨_, (pss_cons (ps_set (i := 2) scBet.nd rfl (Or.inl rfl) (pe_d1 rais_def.toPass D_hands_in hr (by decide) (by rfl) (pa_cons (pv 0) pa_nil)))
      (pss_cons (ps_expr (pe_d1 rais_def.toPass D_check_shares hr (by decide) (by rfl) (pa_cons (pv 1) (pa_cons (pv 2) pa_nil))))
      (pss_one (ps_ret (pe_comp (NB := ["group", "earning", "shares"]) (pick := [none, none, some 1]) (blk_mk (by with_unfolding_all rfl) (by exact (And.intro rfl trivial)) rfl (by decide +kernel) (by decide +kernel) (by rfl) (by rfl)) rfl
          (pi_enum (by rfl) T.b_enum (pa_cons (pv 0) pa_nil)) (fun _ _ _ => (show PG _ _ (gTup K 2 (gCons (gName 0) (gCons (gName 1) gNil))) from pg_tup rfl (pgs_cons (pg_name (i := 0) (show (["group", "earning", "shares"] : List Str).Nodup from by decide +kernel) rfl (Or.inl rfl)) (pgs_cons (pg_name (i := 1) (show (["group", "earning", "shares"] : List Str).Nodup from by decide +kernel) rfl (Or.inl rfl)) pgs_nil))))
          (fun _ _ _ => pif_one (pt_val (pe_d0 D_under hr (by decide) (by rfl) (pa_cons (pe_d0 D_share_of hr (by decide) (by rfl) (pa_cons (pv 0) (pa_cons (pv 2) pa_nil))) (pa_cons (pe_tup (pa_cons (pv 1) (pa_cons pe_int pa_nil))) pa_nil))))) (fun _ _ _ => (pv 0))))))), ?_⟩
    refine ⟨_, rfl, l, _, rfl, hl, pl_ls, by rw [lsV_len]; omega, (fun e => by rw [yes] at e; cases e), fun m' m1' m6' hm _ H1 s1 => ?_⟩
    rw [lsV_len, hn] at hm
    obtain rfl := pow_inj hm
    have good : goodB m (ws.map V.ref) (List.replicate m true) = true := by
      unfold goodB
      rw [decide_eq_true (by rw [List.length_map, fl.len]), Bool.true_and, List.all_eq_true]
      intro b hb
      rw [List.mem_replicate] at hb
      rw [hb.2]
      rfl
    refine ⟨_, rfl, _, rfl, q, ws.map V.ref, _, m, rfl, s1 _ _ fl.hr, by rw [List.length_map, fl.len]; omega, frs_L d0 (fl.same s1), (fun e => by rw [good] at e; cases e), fun _ H2 s2 => ?_⟩
    have s12 := s1.trans s2
    have hl2 := s12 _ _ hl
    refine ⟨_, rfl, l, rfl, ⟨_, SqL.of hl2⟩, ?_⟩
    refine comp_enumG (xs := lsV n tb') (fun σ' => ∃ o0 o1 : Option V, σ' = [o0, o1, some (.ref q)]) (fun i _ => none) ⟨_, _, rfl⟩ (SqL.of hl2) (by rw [lsV_len]; exact Nat.le_of_lt (small1000 (by omega))) (fun i x t σ1 H3 kk kk0 hσ s3 hx ht g1 g2 => ?_) fun D H3 hD s3 hd => ?_
    · obtain ⟨o0, o1, rfl⟩ := hσ
      obtain ⟨hi, rfl⟩ := lsV_of hx
      refine ⟨t, _, rfl, SqT.of ht, rfl, _, _, rfl, _, _, rfl, rfl, ?_⟩
      refine ⟨_, rfl, _, rfl, q, m, i, Y, d, ws, rfl, (fl.same s12).same s3, m6, by rw [← hn]; exact hi, d0, sd, sY, fun r H4 s4 h4 => ?_⟩
      refine ⟨_, rfl, by show 2 ≤ sizeLine; decide, fun r2 hr2 => ?_⟩
      have u5 := Same.upd_new (o := .tup [V.int (tb' i), V.int 1]) hr2
      refine ⟨r, r2, _, d, tb' i, rfl, u5 _ _ h4, upd_same, d0, sd, smY m6 sY, (st i).mono (by decide), ?_⟩
      rw [decide_eq_false (show ¬ ((Wg.sm m fun h => bt i h * Y h) < tb' i * d) by have := core i hi; omega)]
      exact ⟨_, rfl, iteF (g2 _ ⟨_, _, rfl⟩ rfl _ (s4.trans u5))⟩
    · have ed : ((List.range (lsV n tb').length).filterMap fun i => ((lsV n tb')[i]?).bind fun _ => (none : Option V)) = [] := by
        rw [List.filterMap_eq_nil_iff]
        intro i _
        cases (lsV n tb')[i]? <;> rfl
      rw [ed] at hd
      exact k D H3 (s12.free hD) (s12.trans s3) hd
-- SPLIT2
theorem scWho : FnScope ["_law_found"] ["_law_found"] (defScope sWho) := ⟨rfl, rfl, rfl, by decide +kernel, rfl, by decide +kernel, by decide +kernel⟩
theorem ok_who (t : Tx K mg "_law_whole" sWho ["_law_found"] f fd) (T : T K mg AL LN FR iF fCh fGM fCC fCA fPL SE NN NG NT NO NR NS) : Df P w K mg base CX0 1 "_law_whole" ["_law_found"] (spNum K) f fd := by
  refine t.df0 scWho (fun vs H Q E h => ?_) (fun cdv A outer s H vs Q E hr h => ?_)
  · obtain ⟨v, rfl, _⟩ := h
    rfl
  · obtain ⟨v, rfl, pl, k⟩ := h
    obtain ⟨Ty, ty, kd⟩ := pl.ex
    refine ⟨_, pss_one (ps_ret (pe_and (pe_callB call_isi (by rfl) T.b_isi bt_isi (pa_cons (pv 0) (pa_cons (pe_bltn (v := .ty "int") (by rfl) T.b_int bt_int rfl) pa_nil)))
      (pe_one (pe_not (pe_callB call_isi (by rfl) T.b_isi bt_isi (pa_cons (pv 0) (pa_cons (pe_bltn (v := .ty "bool") (by rfl) T.b_bool bt_bool rfl) pa_nil))))))), ?_⟩
    refine ⟨_, rfl, v, .ty "int", _, _, _, rfl, rfl, .of ty, kd.int_ K, _, rfl, ?_⟩
    refine ite2 (fun h1 => ?_) (fun h1 => ?_)
    · refine ⟨_, rfl, v, .ty "bool", _, _, _, rfl, rfl, .of ty, kd.bool_ K, _, rfl, ?_⟩
      have e : (!(Ty == "bool")) = isI v := by
        rw [Pl.isI ty]
        cases kd <;> first | rfl | (exact absurd h1 (by decide))
      rw [e]
      exact k
    · have e : false = isI v := by
        rw [Pl.isI ty]
        cases kd <;> first | rfl | (exact absurd rfl h1)
      rw [e]
      exact k
theorem scDiv : FnScope ["_law_one", "_law_other"] ["_law_one", "_law_other"] (defScope sDiv) := ⟨rfl, rfl, rfl, by decide +kernel, rfl, by decide +kernel, by decide +kernel⟩
theorem mod_gcd (a : Int) {b : Int} : Int.gcd b (a % b) = Int.gcd a b := by
  have z := Int.gcd_mul_right_add_left b (a % b) (a / b)
  rw [Int.mul_comm, Int.mul_ediv_add_emod] at z
  rw [Int.gcd_comm b, z]
def spDiv : Sp := fun vs H Q _ => ∃ (a : Int) (b : Int), vs = [.int a, .int b] ∧ 0 ≤ b ∧ Q (.int (Int.gcd a b : Int)) H
theorem ok_div (t : Tx K mg "_law_divisor" sDiv ["_law_one", "_law_other"] f fd) (T : T K mg AL LN FR iF fCh fGM fCC fCA fPL SE NN NG NT NO NR NS) : Df P w K mg base CX0 1 "_law_divisor" ["_law_one", "_law_other"] spDiv f fd := by
  refine t.df0 scDiv (fun vs H Q E h => ?_) (fun cdv A outer s H vs Q E hr h => ?_)
  · obtain ⟨a, b, rfl, _⟩ := h
    rfl
  · obtain ⟨a, b, rfl, hb, k⟩ := h
    refine ⟨_, (pss_cons (ps_while PassesOwn.never (pt_cmpR op_ne (pv 1) pe_int (nomark _))
        (pss_one (ps_par (i := 0) (j := 1) rfl scDiv.nd rfl rfl (by decide) rfl rfl (pa_cons (pv 1) (pa_cons (pe_op op_mod (pv 0) (pv 1)) pa_nil)) (by rfl))))
      (pss_one (ps_ret (pe_callB call_abs (by rfl) T.b_abs bt_abs (pa_cons (pv 0) pa_nil))))), ?_⟩
    refine ⟨fun m σ H2 => H2 = H ∧ ∃ (x : Int) (r : Nat), m = r ∧ σ = [some (.int x), some (.int (r : Int))] ∧ Int.gcd x r = Int.gcd a b, ⟨b.toNat, rfl, a, b.toNat, rfl, by rw [Int.toNat_of_nonneg hb]; rfl, by rw [Int.toNat_of_nonneg hb]⟩, ?_⟩
    rintro m σ H2 ⟨rfl, x, r, rfl, rfl, hg⟩
    refine ⟨_, rfl, rfl, _, rfl, ?_⟩
    refine ite2 (fun h1 => ?_) (fun h1 => ?_)
    · have hr0 := ne_zero_of h1
      refine ⟨fun σ' H' => H' = H2 ∧ ∃ (x' : Int) (r' : Nat), r' < m ∧ σ' = [some (.int x'), some (.int (r' : Int))] ∧ Int.gcd x' r' = Int.gcd a b, fun σ' H' ⟨e, x', r', h1, h2, h3⟩ => ⟨r', h1, e, x', r', rfl, h2, h3⟩, ?_⟩
      refine ⟨_, rfl, _, rfl, _, rfl, _, _, rfl, rfl, (by show (0 : Int) < (m : Int); omega), _, _, rfl, rfl, (m : Int), (x % (m : Int)).toNat, ?_, ?_, ?_⟩
      · have := Int.emod_lt_of_pos x (show (0 : Int) < m by omega)
        omega
      · rw [Int.toNat_of_nonneg (Int.emod_nonneg _ (by omega))]
        rfl
      · rw [Int.toNat_of_nonneg (Int.emod_nonneg _ (by omega)), mod_gcd x]
        exact hg
    · have hr0 := zero_of h1
      subst hr0
      refine ⟨_, rfl, x, rfl, ?_⟩
      have e : Int.gcd x ((0 : Nat) : Int) = x.natAbs := by show Int.gcd x 0 = _; rw [Int.gcd_zero_right]
      rw [e] at hg
      rw [abs_eq, hg]
      exact k
def spLFr : Sp := fun vs H Q _ => ∃ (p : Addr) (X d : Int), vs = [.ref p] ∧ H p = some (frT X d) ∧ 0 < d ∧ Q (.bl true) H
theorem scLFr : FnScope ["_law_found"] ["_law_found"] (defScope sLFr) := ⟨rfl, rfl, rfl, by decide +kernel, rfl, by decide +kernel, by decide +kernel⟩
theorem ok_lfr {f1 f2 : Addr} {fd1 fd2 : FuncData} (t : Tx K mg "_law_fraction" sLFr ["_law_found"] f fd) (T : T K mg AL LN FR iF fCh fGM fCC fCA fPL SE NN NG NT NO NR NS) (D_law_whole : Df P w K mg base CX0 1 "_law_whole" ["_law_found"] (spNum K) f1 fd1) (D_law_divisor : Df P w K mg base CX0 1 "_law_divisor" ["_law_one", "_law_other"] spDiv f2 fd2) :
    Df P w K mg base CX0 2 "_law_fraction" ["_law_found"] spLFr f fd := by
  refine t.df0 scLFr (fun vs H Q E h => ?_) (fun cdv A outer s H vs Q E hr h => ?_)
  · obtain ⟨p, X, d, rfl, _⟩ := h
    rfl
  · obtain ⟨p, X, d, rfl, hp, d0, k⟩ := h
    refine ⟨_, (pss_cons (ps_if (PW.pt (pw_or (pt_not (pt_val (pe_callB call_isi (by rfl) T.b_isi bt_isi (pa_cons (pv 0) (pa_cons (pe_bltn (v := .ty "tuple") (by rfl) T.b_tuple bt_tuple rfl) pa_nil))))) (pw_or1 (pt_cmpR op_ne (pe_callB call_len_seq (by rfl) T.b_len bt_len (pa_cons (pv 0) pa_nil)) pe_int (nomark _))))) (pss_one (ps_ret pe_bl)) pss_nil)
      (pss_cons (ps_if (PW.pt (pw_or (pt_not (pt_val (pe_d0 D_law_whole hr (by decide) (by rfl) (pa_cons (pe_ix ix_tup (pv 0) pe_int (fun _ _ => rfl)) pa_nil)))) (pw_or (pt_not (pt_val (pe_d0 D_law_whole hr (by decide) (by rfl) (pa_cons (pe_ix ix_tup (pv 0) pe_int (fun _ _ => rfl)) pa_nil)))) (pw_or1 (pt_cmpR op_lt (pe_ix ix_tup (pv 0) pe_int (fun _ _ => rfl)) pe_int (nomark _)))))) (pss_one (ps_ret pe_bl)) pss_nil)
      (pss_one (ps_ret (pe_cmpR op_eq (pe_d0 D_law_divisor hr (by decide) (by rfl) (pa_cons (pe_ix ix_tup (pv 0) pe_int (fun _ _ => rfl)) (pa_cons (pe_ix ix_tup (pv 0) pe_int (fun _ _ => rfl)) pa_nil))) pe_int (nomark _)))))), ?_⟩
    obtain ⟨_, y1, g1, _⟩ := t_spec (X := X) d0
    refine ⟨_, rfl, .ref p, .ty "tuple", _, _, _, rfl, rfl, .of (.tup hp), Kd.tup.tuple_ K, _, rfl, ?_⟩
    refine iteF ⟨_, rfl, p, _, rfl, .inr (SqT.of hp), rfl, _, rfl, ?_⟩
    refine iteNS rfl ?_
    refine ⟨_, rfl, p, _, _, _, rfl, rfl, SqT.of hp, rfl, _, rfl, .int _, _, rfl, ?_⟩
    refine iteF ⟨_, rfl, p, _, _, _, rfl, rfl, SqT.of hp, rfl, _, rfl, .int _, _, rfl, ?_⟩
    refine iteF ⟨_, rfl, p, _, _, _, rfl, rfl, SqT.of hp, rfl, _, _, rfl, rfl, _, rfl, ?_⟩
    rw [decide_eq_false (show ¬ (tb X d < 1) by omega)]
    refine iteF ?_
    refine ⟨_, rfl, p, _, _, _, rfl, rfl, SqT.of hp, rfl, _, rfl, p, _, _, _, rfl, rfl, SqT.of hp, rfl, _, _, rfl, (show 0 ≤ tb X d by omega), rfl, ?_⟩
    show Q (V.bl (decide (V.int ((Int.gcd (ta X d) (tb X d) : Nat) : Int) = V.int 1))) H
    rw [g1, show decide (V.int ((1 : Nat) : Int) = V.int 1) = true from by decide]
    exact k
def spLFs : Sp := fun vs H Q _ => ∃ (l : Addr) (n : Nat) (X : Nat → Int) (d : Int) (ws : List Addr), vs = [.ref l, .int (n : Int)] ∧ FrL n X d H l ws ∧ 0 < d ∧ Q (.bl true) H
theorem scLFs : FnScope ["_law_found", "_law_many", "_law_one"] ["_law_found", "_law_many"] (defScope sLFs) := ⟨rfl, rfl, rfl, by decide +kernel, rfl, by decide +kernel, by decide +kernel⟩
theorem ok_lfs {f1 : Addr} {fd1 : FuncData} (t : Tx K mg "_law_fractions" sLFs ["_law_found", "_law_many"] f fd) (T : T K mg AL LN FR iF fCh fGM fCC fCA fPL SE NN NG NT NO NR NS) (D_law_fraction : Df P w K mg base CX0 2 "_law_fraction" ["_law_found"] spLFr f1 fd1) :
    Df P w K mg base CX0 3 "_law_fractions" ["_law_found", "_law_many"] spLFs f fd := by
  refine t.df0 scLFs (fun vs H Q E h => ?_) (fun cdv A outer s H vs Q E hr h => ?_)
  · obtain ⟨l, n, X, d, ws, rfl, _⟩ := h
    rfl
  · obtain ⟨l, n, X, d, ws, rfl, fl, d0, k⟩ := h
    refine ⟨_, (pss_cons (ps_if (PW.pt (pw_or (pt_not (pt_val (pe_callB call_isi (by rfl) T.b_isi bt_isi (pa_cons (pv 0) (pa_cons (pe_bltn (v := .ty "list") (by rfl) T.b_list bt_list rfl) pa_nil))))) (pw_or1 (pt_cmpR op_ne (pe_callB call_len_seq (by rfl) T.b_len bt_len (pa_cons (pv 0) pa_nil)) (pv 1) (nomark _))))) (pss_one (ps_ret pe_bl)) pss_nil)
      (pss_cons (ps_for PassesOwn.never rfl (pi_list (pv 0)) (pg_name (i := 2) scLFs.nd rfl (Or.inl rfl))
        (pss_one (ps_if (pt_not (pt_val (pe_d0 D_law_fraction hr (by decide) (by rfl) (pa_cons (pv 2) pa_nil)))) (pss_one (ps_ret pe_bl)) pss_nil)))
      (pss_one (ps_ret pe_bl)))), ?_⟩
    refine ⟨_, rfl, .ref l, .ty "list", _, _, _, rfl, rfl, .of (.lst fl.hr), Kd.lst.list_ K, _, rfl, ?_⟩
    refine iteF ⟨_, rfl, l, _, rfl, .inl (SqL.of fl.hr), _, rfl, rfl, _, rfl, ?_⟩
    refine iteNS (by rw [List.length_map, fl.len]) ?_
    refine ⟨_, rfl, l, rfl, ⟨_, SqL.of fl.hr⟩, ?_⟩
    refine for_list (xs := ws.map V.ref) (fun i σ H2 => H2 = H ∧ ∃ o : Option V, σ = [some (.ref l), some (.int (n : Int)), o]) ⟨rfl, _, rfl⟩ (fun i σ H2 _ ⟨e, _⟩ => by rw [e]; exact SqL.of fl.hr) (fun i y σ H2 hy ⟨eH, o, eσ⟩ => ?_) (fun σ H2 ⟨eH, o, eσ⟩ => ?_)
    · subst eH eσ
      obtain ⟨p, hp, rfl⟩ := ref_of hy
      exact ⟨_, rfl, p, _, d, rfl, fl.at_ i p hp, d0, _, rfl, iteF ⟨rfl, _, rfl⟩⟩
    · subst eH
      exact k
def spLow : Sp := fun vs H Q _ => ∃ (l : Addr) (n : Nat) (X : Nat → Int) (d : Int) (ws : List Addr), vs = [.ref l] ∧ FrL n X d H l ws ∧ 0 < d ∧ Sm 6000 d ∧ ∀ L, Low n X d L → Q (.int L) H
theorem scLow : FnScope ["_law_numbers", "_law_low_here", "_law_number"] ["_law_numbers"] (defScope sLow) := ⟨rfl, rfl, rfl, by decide +kernel, rfl, by decide +kernel, by decide +kernel⟩
theorem ok_low {f1 : Addr} {fd1 : FuncData} (t : Tx K mg "_law_low" sLow ["_law_numbers"] f fd) (T : T K mg AL LN FR iF fCh fGM fCC fCA fPL SE NN NG NT NO NR NS) (D_law_divisor : Df P w K mg base CX0 1 "_law_divisor" ["_law_one", "_law_other"] spDiv f1 fd1) :
    Df P w K mg base CX0 2 "_law_low" ["_law_numbers"] spLow f fd := by
  refine t.df0 scLow (fun vs H Q E h => ?_) (fun cdv A outer s H vs Q E hr h => ?_)
  · obtain ⟨l, n, X, d, ws, rfl, _⟩ := h
    rfl
  · obtain ⟨l, n, X, d, ws, rfl, fl, d0, sd, k⟩ := h
    refine ⟨_, (pss_cons (ps_set (i := 1) scLow.nd rfl (Or.inl rfl) pe_int)
      (pss_cons (ps_for PassesOwn.never rfl (pi_list (pv 0)) (pg_name (i := 2) scLow.nd rfl (Or.inl rfl))
        (pss_one (ps_set (i := 1) scLow.nd rfl (Or.inl rfl) (pe_op op_mulB (pe_op op_fdivB (pv 1) (pe_d0 D_law_divisor hr (by decide) (by rfl) (pa_cons (pv 1) (pa_cons (pe_ix ix_tup (pv 2) pe_int (fun _ _ => rfl)) pa_nil)))) (pe_ix ix_tup (pv 2) pe_int (fun _ _ => rfl))))))
      (pss_one (ps_ret (pv 1))))), ?_⟩
    refine ⟨_, rfl, l, rfl, ⟨_, SqL.of fl.hr⟩, ?_⟩
    refine for_list (xs := ws.map V.ref) (fun i σ H2 => H2 = H ∧ ∃ (L : Int) (o : Option V), σ = [some (.ref l), some (.int L), o] ∧ Low i X d L) ⟨rfl, 1, _, rfl, by decide, Int.one_dvd _, fun j hj => by omega⟩ (fun i σ H2 _ ⟨e, _⟩ => by rw [e]; exact SqL.of fl.hr) (fun i y σ H2 hy ⟨eH, L, o, eσ, lo⟩ => ?_) (fun σ H2 ⟨eH, L, o, eσ, lo⟩ => ?_)
    · subst eH eσ
      obtain ⟨p, hp, rfl⟩ := ref_of hy
      have hpt := fl.at_ i p hp
      obtain ⟨_, y1, _, yd⟩ := t_spec (X := X i) d0
      have sL : Sm 6000 L := sd.le (by have := Int.le_of_dvd d0 lo.dvd; have := lo.pos; omega)
      have sb := tb_le (X := X i) d0 sd
      have g0 : (Int.gcd L (tb (X i) d) : Int) ≠ 0 := by
        have := Int.gcd_pos_of_ne_zero_left (tb (X i) d) (show L ≠ 0 by have := lo.pos; omega)
        omega
      have sg : Sm 6000 ((Int.gcd L (tb (X i) d) : Nat) : Int) := sL.le (by
        rw [Int.natAbs_natCast]
        exact Nat.le_of_dvd (by have := lo.pos; omega) (Nat.gcd_dvd_left _ _))
      refine ⟨_, rfl, _, rfl, _, rfl, p, _, _, _, rfl, rfl, SqT.of hpt, rfl, _, _, rfl, (show 0 ≤ tb (X i) d by omega), ?_⟩
      refine ⟨_, _, rfl, rfl, sg.db g0, _, rfl, p, _, _, _, rfl, rfl, SqT.of hpt, rfl, _, _, rfl, rfl, sL.fdiv.mb sb, rfl, _, _, rfl, low_step d0 lo⟩
    · subst eH eσ
      rw [List.length_map, fl.len] at lo
      exact ⟨_, rfl, k L lo⟩
def spTop : Sp := fun vs H Q _ => ∃ (l : Addr) (n : Nat) (X : Nat → Int) (d L : Int) (ws : List Addr), vs = [.ref l, .int L] ∧ FrL n X d H l ws ∧ n ≤ 100 ∧ 0 < d ∧ Sm 6000 d ∧ (∀ j, Sm 300000 (X j)) ∧ Low n X d L ∧
  ∀ (D : Addr) (H' : Hp) (tt : Nat → Int), H D = none → Same H H' → H' D = some (.lst (lsV n tt)) → (∀ j, j < n → tt j * d = X j * L) → (∀ j, Sm 320000 (tt j)) → Q (.ref D) H'
theorem scTop : FnScope ["_law_numbers", "_law_low_here"] ["_law_numbers", "_law_low_here"] (defScope sTop) := ⟨rfl, rfl, rfl, by decide +kernel, rfl, by decide +kernel, by decide +kernel⟩
theorem ok_top (t : Tx K mg "_law_tops" sTop ["_law_numbers", "_law_low_here"] f fd) (T : T K mg AL LN FR iF fCh fGM fCC fCA fPL SE NN NG NT NO NR NS) : Df P w K mg base CX0 1 "_law_tops" ["_law_numbers", "_law_low_here"] spTop f fd := by
  refine t.df0 scTop (fun vs H Q E h => ?_) (fun cdv A outer s H vs Q E hr h => ?_)
  · obtain ⟨l, n, X, d, L, ws, rfl, _⟩ := h
    rfl
  · obtain ⟨l, n, X, d, L, ws, rfl, fl, n1, d0, sd, sX, lo, k⟩ := h
    refine ⟨_, (pss_one (ps_ret (pe_comp (NB := ["_law_number", "_law_low_here"]) (pick := [none, some 1]) (blk_mk (by with_unfolding_all rfl) (by exact (And.intro rfl trivial)) rfl (by decide +kernel) (by decide +kernel) (by rfl) (by rfl)) rfl
          (pi_list (pv 0)) (fun _ _ _ => pg_name (i := 0) (show (["_law_number", "_law_low_here"] : List Str).Nodup from by decide +kernel) rfl (Or.inl rfl))
          (fun _ _ _ => pif_nil) (fun _ _ _ => (pe_op op_mulB (pe_ix (ix_tupK K) (pv 0) pe_int (fun _ _ => rfl)) (pe_op op_fdivB (pv 1) (pe_ix (ix_tupK K) (pv 0) pe_int (fun _ _ => rfl)))))))), ?_⟩
    have sL : Sm 6000 L := sd.le (by have := Int.le_of_dvd d0 lo.dvd; have := lo.pos; omega)
    refine ⟨_, rfl, l, rfl, ⟨_, SqL.of fl.hr⟩, ?_⟩
    refine comp_lst (xs := ws.map V.ref) (fun j _ => some (.int (ta (X j) d * L.fdiv (tb (X j) d)))) (SqL.of fl.hr) (by rw [List.length_map, fl.len]; exact Nat.le_of_lt (small1000 (by omega))) (fun j y H2 kk kk0 s2 hy g1 g2 => ?_) fun D H2 hD s2 hd => ?_
    · obtain ⟨p, hp, rfl⟩ := ref_of hy
      have hpt := s2 _ _ (fl.at_ j p hp)
      obtain ⟨_, y1, _, yd⟩ := t_spec (X := X j) d0
      exact ⟨_, rfl, p, _, _, _, rfl, rfl, SqT.of hpt, rfl, _, rfl, _, rfl, p, _, _, _, rfl, rfl, SqT.of hpt, rfl, _, _, rfl, rfl, (tb_le (X := X j) d0 sd).db (show tb (X j) d ≠ 0 by omega), _, _, rfl, rfl, (ta_le (sX j)).mb sL.fdiv, g1 _ rfl _ (.refl _)⟩
    · refine k D H2 (fun j => ta (X j) d * L.fdiv (tb (X j) d)) hD s2 ?_ (fun j hj => ?_) fun j => ((ta_le (sX j)).mul sL.fdiv).mono (by decide)
      · rw [hd, List.length_map, fl.len, fm_ls _ (by rw [List.length_map, fl.len])]
        rfl
      · obtain ⟨e, y1, _, yd⟩ := t_spec (X := X j) d0
        obtain ⟨c, hc⟩ := lo.all j hj
        have e2 : L.fdiv (tb (X j) d) = c := by
          rw [hc]
          exact Int.mul_fdiv_cancel_left _ (by omega)
        rw [e2, hc]
        generalize ta (X j) d = a at e
        generalize tb (X j) d = b at e
        grind
abbrev LF := List (Nat × Int)
def evL (rs : List Int) : LF → Int
  | [] => 0
  | (i, c) :: r => c * rs.getD i 0 + evL rs r
def coefL (i : Nat) : LF → Int
  | [] => 0
  | (j, c) :: r => (if j = i then c else 0) + coefL i r
def dotL (rs : List Int) (w : Nat → Int) : Nat → Int
  | 0 => 0
  | n + 1 => dotL rs w n + w n * rs.getD n 0
theorem dotL_congr {rs : List Int} {w v : Nat → Int} : ∀ n, (∀ i, i < n → w i = v i) → dotL rs w n = dotL rs v n
  | 0, _ => rfl
  | n + 1, h => by
    show dotL rs w n + w n * _ = dotL rs v n + v n * _
    rw [dotL_congr n fun i hi => h i (by omega), h n (by omega)]
theorem dotL_zero {rs : List Int} : ∀ n, dotL rs (fun _ => 0) n = 0
  | 0 => rfl
  | n + 1 => by show dotL rs (fun _ => 0) n + 0 * _ = 0; rw [dotL_zero n, Int.zero_mul]; rfl
theorem dotL_add {rs : List Int} {w v : Nat → Int} : ∀ n, dotL rs (fun i => w i + v i) n = dotL rs w n + dotL rs v n
  | 0 => rfl
  | n + 1 => by
    show dotL rs (fun i => w i + v i) n + (w n + v n) * _ = (dotL rs w n + w n * _) + (dotL rs v n + v n * _)
    rw [dotL_add n, Int.add_mul]
    omega
theorem dotL_one {rs : List Int} {j : Nat} {c : Int} : ∀ n, dotL rs (fun i => if j = i then c else 0) n = if j < n then c * rs.getD j 0 else 0
  | 0 => rfl
  | n + 1 => by
    show dotL rs (fun i => if j = i then c else 0) n + (if j = n then c else 0) * _ = _
    rw [dotL_one n]
    by_cases h : j = n
    · subst h
      rw [if_neg (Nat.lt_irrefl _), if_pos rfl, if_pos (Nat.lt_succ_self _)]
      omega
    · rw [if_neg h, Int.zero_mul, Int.add_zero]
      by_cases h2 : j < n
      · rw [if_pos h2, if_pos (by omega)]
      · rw [if_neg h2, if_neg (by omega)]
theorem evL_dot {rs : List Int} {n : Nat} : ∀ a : LF, (a.all fun x => decide (x.1 < n)) = true → evL rs a = dotL rs (fun i => coefL i a) n
  | [], _ => (dotL_zero n).symm
  | (j, c) :: r, h => by
    rw [List.all_cons, Bool.and_eq_true] at h
    show c * rs.getD j 0 + evL rs r = dotL rs (fun i => (if j = i then c else 0) + coefL i r) n
    rw [dotL_add, dotL_one, if_pos (of_decide_eq_true h.1), evL_dot r h.2]
def sameL (n : Nat) (a b : LF) : Bool := (a.all fun x => decide (x.1 < n)) && (b.all fun x => decide (x.1 < n)) && (List.range n).all fun i => decide (coefL i a = coefL i b)
theorem sameL_ev {rs : List Int} {n : Nat} {a b : LF} (h : sameL n a b = true) : evL rs a = evL rs b := by
  unfold sameL at h
  rw [Bool.and_eq_true, Bool.and_eq_true] at h
  rw [evL_dot a h.1.1, evL_dot b h.1.2]
  exact dotL_congr n fun i hi => of_decide_eq_true (List.all_eq_true.mp h.2 i (List.mem_range.mpr hi))
theorem evL_append (rs : List Int) : ∀ a b : LF, evL rs (a ++ b) = evL rs a + evL rs b
  | [], b => (Int.zero_add _).symm
  | (j, c) :: r, b => by
    show c * rs.getD j 0 + evL rs (r ++ b) = c * rs.getD j 0 + evL rs r + evL rs b
    rw [evL_append rs r b]
    omega
def sclL (k : Int) (a : LF) : LF := a.map fun x => (x.1, k * x.2)
theorem evL_scl (rs : List Int) (k : Int) : ∀ a : LF, evL rs (sclL k a) = k * evL rs a
  | [] => (Int.mul_zero _).symm
  | (i, c) :: r => by
    show k * c * rs.getD i 0 + evL rs (sclL k r) = k * (c * rs.getD i 0 + evL rs r)
    rw [evL_scl rs k r, Int.mul_add, Int.mul_assoc]
def expL (a : LF) : LF := a.flatMap fun x => (partsN x.1).map fun p => (p.toNat, x.2)
theorem ev_parts (ds : List Int) (c : Int) : ∀ l : List Int, evL ds (l.map fun p => (p.toNat, c)) = c * (l.map fun p => ds.getD p.toNat 0).sum
  | [] => (Int.mul_zero _).symm
  | p :: r => by
    show c * ds.getD p.toNat 0 + evL ds (r.map fun p => (p.toNat, c)) = _
    rw [ev_parts ds c r, List.map_cons, List.sum_cons, Int.mul_add]
theorem evL_exp {ds rs : List Int} (d : DivOf ds rs) (h64 : rs.length ≤ 64) : ∀ a : LF, (a.all fun x => decide (x.1 < rs.length)) = true → evL rs a = evL ds (expL a)
  | [], _ => rfl
  | (i, c) :: r, h => by
    rw [List.all_cons, Bool.and_eq_true] at h
    have hi : i < rs.length := of_decide_eq_true h.1
    show c * rs.getD i 0 + evL rs r = evL ds (((partsN i).map fun p => (p.toNat, c)) ++ expL r)
    rw [evL_append, evL_exp d h64 r h.2, ev_parts, parts_sum (by omega), d.2 i hi]
def mF (h : Nat) : Nat → LF
  | 0 => []
  | g + 1 => if g / 2 ^ h % 2 = 1 then mF h g ++ [(g, 60 / ((handsB g).length : Int))] else mF h g
theorem mS_ev (ds : List Int) (h : Nat) : ∀ n, mS ds h n = evL ds (mF h n)
  | 0 => rfl
  | g + 1 => by
    unfold mS mF
    split
    · rw [evL_append, mS_ev ds h g]
      show _ = _ + (60 / ((handsB g).length : Int) * ds.getD g 0 + 0)
      rw [Int.mul_comm (60 / ((handsB g).length : Int)), Int.add_zero]
    · exact mS_ev ds h g
theorem base_pos : (0 : Int) < 10 ^ 20 + 39 := by decide
theorem base_div (i : Int) : CDivB i (10 ^ 20 + 39) := ⟨by decide, Nat.lt_of_lt_of_le (show (10 ^ 20 + 39 : Int).natAbs < 2 ^ 70 by decide) (Nat.pow_le_pow_right (by decide) (by decide))⟩
theorem at_of_lt {C : List Int} {j : Nat} (h : j < C.length) : atI (C.map V.int) (j : Int) = some (.int (C.getD j 0)) := atI_nat (by rw [List.getElem?_map, List.getD_eq_getElem?_getD, List.getElem?_eq_getElem h]; rfl)
def spDrw (K : PySem.W.Frag) : Sp := fun vs H Q _ => ∃ (a : Addr) (ns : List Int), vs = [.ref a] ∧ SqL K H a (ns.map V.int) ∧ ns.length ≤ 63 ∧ ∀ (l : Addr) (D : List Int) (H' : Hp), H l = none → Same H H' → 64 ≤ D.length → D.length ≤ 127 → H' l = some (.lst (D.map V.int)) → Q (.ref l) H'
theorem scDrw : FnScope ["_law_script", "_law_cells", "_law_many", "_law_base", "_law_draws_here", "_law_left", "_law_k", "_law_number"] ["_law_script"] (defScope sDrw) := ⟨rfl, rfl, rfl, by decide +kernel, rfl, by decide +kernel, by decide +kernel⟩
theorem ok_drw (t : Tx K mg "_law_draws" sDrw ["_law_script"] f fd) (T : T K mg AL LN FR iF fCh fGM fCC fCA fPL SE NN NG NT NO NR NS) : Df P w K mg base CX0 1 "_law_draws" ["_law_script"] (spDrw K) f fd := by
  refine t.df0 scDrw (fun vs H Q E h => ?_) (fun cdv A outer s H vs Q E hr h => ?_)
  · obtain ⟨a, ns, rfl, _⟩ := h
    rfl
  · obtain ⟨a, ns, rfl, hq, hns, k⟩ := h
    refine ⟨_, (pss_cons (ps_set (i := 1) scDrw.nd rfl (Or.inl rfl) (pe_op op_catQ (pv 0) (pe_op op_rep (pe_lst (pa_cons pe_int pa_nil)) (pe_callTy call_int1 (by rfl) T.b_int bt_int (pa_cons (pe_cmpR (op_eqL hr.units) (pv 0) (pe_lst pa_nil) (nomark _)) pa_nil)))))
      (pss_cons (ps_set (i := 2) scDrw.nd rfl (Or.inl rfl) (pe_callB (call_max2 rfl) (by rfl) T.b_max bt_max (pa_cons pe_int (pa_cons (pe_callB call_len_seq (by rfl) T.b_len bt_len (pa_cons (pv 1) pa_nil)) pa_nil))))
      (pss_cons (ps_set (i := 3) scDrw.nd rfl (Or.inl rfl) (pe_op op_add (pe_op op_pow pe_int pe_int) pe_int))
      (pss_cons (ps_set (i := 4) scDrw.nd rfl (Or.inl rfl) (pe_lst pa_nil))
      (pss_cons (ps_if (pt_cmpR op_eq (pe_op op_mod (pe_ix ix_list (pv 1) pe_int (fun _ _ => rfl)) pe_int) pe_int (nomark _)) (pss_cons (ps_set (i := 5) scDrw.nd rfl (Or.inl rfl) (pe_op op_catQ (pe_lst (pa_cons (pe_op op_fdiv (pe_ix ix_list (pv 1) pe_int (fun _ _ => rfl)) pe_int) pa_nil)) (pe_slice sl_list (pv 1) (po_some pe_int) po_none)))
        (pss_cons (ps_while PassesOwn.never (pt_cmpR op_lt (pe_callB call_len_seq (by rfl) T.b_len bt_len (pa_cons (pv 4) pa_nil)) (pv 2) (nomark _))
          (pss_one (ps_for PassesOwn.never rfl (pi_range1 (by rfl) T.b_range (pa_cons (pe_callB call_len_seq (by rfl) T.b_len bt_len (pa_cons (pv 1) pa_nil)) pa_nil)) (pg_name (i := 6) scDrw.nd rfl (Or.inl rfl))
            (pss_cons (ps_expr (pe_bm PySem.F.plainAttrs_list PySem.F.slot_list_append PySem.F.type_list_append mt_appendR (pv 4) (pa_cons (pe_op op_mod (pe_ix ix_list (pv 5) (pv 6) (fun _ _ => rfl)) (pv 3)) pa_nil)))
            (pss_one (ps_asg (pe_op op_fdivB (pe_ix ix_list (pv 5) (pv 6) (fun _ _ => rfl)) (pv 3)) (pg_sub (pv 5) (pv 6) set_list)))))))
        (pss_one (ps_ret (pv 4))))) pss_nil)
      (pss_cons (ps_for PassesOwn.never rfl (pi_range1 (by rfl) T.b_range (pa_cons (pv 2) pa_nil)) (pg_name (i := 6) scDrw.nd rfl (Or.inl rfl))
        (pss_cons (ps_set (i := 7) scDrw.nd rfl (Or.inl rfl) (pe_op op_mod (pe_op op_mulB (pe_op op_add (pe_op op_add (pe_ix ix_list (pv 1) (pe_op op_mod (pv 6) (pe_callB call_len_seq (by rfl) T.b_len bt_len (pa_cons (pv 1) pa_nil))) (fun _ _ => rfl)) (pe_op op_mulB (pe_op op_mulB pe_int (pv 6)) (pv 6))) pe_int) pe_int) pe_int))
        (pss_one (ps_expr (pe_bm PySem.F.plainAttrs_list PySem.F.slot_list_append PySem.F.type_list_append mt_appendR (pv 4) (pa_cons (pe_op op_mod (pe_op op_mulB (pe_op op_mulB (pv 7) (pv 7)) pe_int) (pv 3)) pa_nil))))))
      (pss_one (ps_ret (pv 4))))))))), ?_⟩
    refine ⟨_, rfl, by show 1 ≤ sizeLine; decide, fun a1 ha1 => ?_⟩
    have u1 := Same.upd_new (o := .lst [.int 0]) ha1
    have e1 : upd H a1 (.lst [.int 0]) a1 = some (.lst [.int 0]) := upd_same
    generalize upd H a1 (.lst [.int 0]) = H1 at u1 e1 ⊢
    refine ⟨_, rfl, by show 0 ≤ sizeLine; decide, fun a2 ha2 => ?_⟩
    have u2 := Same.upd_new (o := .lst []) ha2
    have e2 : upd H1 a2 (.lst []) a2 = some (.lst (([] : List Int).map V.int)) := upd_same
    generalize upd H1 a2 (.lst []) = H2 at u2 e2 ⊢
    have hq2 : SqL K H2 a (ns.map V.int) := (u1.trans u2).seq hq
    refine ⟨a, a2, ns, [], rfl, rfl, hq2, SqL.of e2, .inr ⟨_, rfl, ?_⟩⟩
    have e1' := u2 _ _ e1
    obtain ⟨C0, hC0⟩ : ∃ C0 : List Int, (List.replicate (if decide (ns = []) = true then (1 : Int) else 0).toNat [V.int 0]).flatten = C0.map V.int ∧ C0.length ≤ 1 ∧ (ns = [] → C0.length = 1) := by
      by_cases e : ns = []
      · exact ⟨[0], by rw [decide_eq_true e, if_pos rfl]; rfl, by decide, fun _ => rfl⟩
      · exact ⟨[], by rw [decide_eq_false e, if_neg (by decide)]; rfl, by decide, fun z => absurd z e⟩
    refine ⟨a1, _, _, rfl, rfl, e1', ?_, ?_, ?_, fun a3 ha3 => ?_⟩
    · show -(2 ^ 63) ≤ (if decide (ns = []) = true then (1 : Int) else 0); split <;> decide
    · show (if decide (ns = []) = true then (1 : Int) else 0) < 2 ^ 63; split <;> decide
    · show 1 * (if decide (ns = []) = true then (1 : Int) else 0).toNat ≤ sizeLine; split <;> decide
    have hC1 : (List.replicate (if id (decide (ns = [])) = true then (1 : Int) else 0).toNat [V.int 0]).flatten = C0.map V.int := hC0.1
    rw [hC1]
    have u3 := Same.upd_new (o := .lst (C0.map V.int)) ha3
    have e3 : upd H2 a3 (.lst (C0.map V.int)) a3 = _ := upd_same
    generalize upd H2 a3 (.lst (C0.map V.int)) = H3 at u3 e3 ⊢
    refine ⟨a, a3, _, _, rfl, rfl, u3.seq hq2, SqL.of e3, by rw [List.length_map, List.length_map]; exact Nat.le_of_lt (small1000 (by omega)), fun lc hlc => ?_⟩
    rw [← List.map_append]
    have hc1 : 1 ≤ (ns ++ C0).length := by
      rw [List.length_append]
      by_cases e : ns = []
      · have := hC0.2.2 e; omega
      · have := List.length_pos_iff.mpr e; omega
    have hc2 : (ns ++ C0).length ≤ 63 := by
      rw [List.length_append]
      by_cases e : ns = []
      · rw [e]; have := hC0.2.1; show 0 + _ ≤ _; omega
      · have e0 : C0 = [] := by
          have z := hC0.1
          rw [decide_eq_false e, if_neg (by decide)] at z
          cases C0 with
          | nil => rfl
          | cons _ _ => cases z
        rw [e0]; exact hns
    generalize ns ++ C0 = C at hc1 hc2 ⊢
    have u4 := Same.upd_new (o := .lst (C.map V.int)) hlc
    have kc : upd H3 lc (.lst (C.map V.int)) lc = _ := upd_same
    generalize upd H3 lc (.lst (C.map V.int)) = H4 at u4 kc ⊢
    have s4 := u1.trans (u2.trans (u3.trans u4))
    refine ⟨_, rfl, lc, _, rfl, .inl (SqL.of kc), 64, _, rfl, ?_⟩
    have em : (if (((C.map V.int).length : Nat) : Int) > 64 then (((C.map V.int).length : Nat) : Int) else 64) = 64 := by
      rw [List.length_map, if_neg (by omega)]
    show gName 2 (V.int (if (((C.map V.int).length : Nat) : Int) > 64 then (((C.map V.int).length : Nat) : Int) else 64)) _ _ _
    rw [em]
    refine ⟨_, _, rfl, rfl, ⟨by decide, by decide, by decide⟩, _, _, rfl, rfl, ?_⟩
    show gName 3 (V.int (10 ^ 20 + 39)) _ _ _
    refine ⟨by show 0 ≤ sizeLine; decide, fun l hl => ?_⟩
    have l0 : H l = none := s4.free hl
    have u5 := Same.upd_new (o := .lst []) hl
    have kd : upd H4 l (.lst []) l = some (.lst (([] : List Int).map V.int)) := upd_same
    have ncl : lc ≠ l := ne_of_none kc hl
    have kc5 := u5 _ _ kc
    generalize upd H4 l (.lst []) = H5 at u5 kd kc5 ⊢
    have s5 := s4.trans u5
    have c0 := at_of_lt (C := C) (j := 0) (by omega)
    refine ⟨_, rfl, lc, _, _, _, rfl, rfl, SqL.of kc5, c0, _, _, rfl, rfl, (by show (0 : Int) < 2; decide), rfl, _, rfl, ite2 (fun _ => ?_) (fun _ => ?_)⟩
    · refine ⟨_, rfl, lc, _, _, _, rfl, rfl, SqL.of kc5, c0, _, _, rfl, rfl, ⟨by decide, by decide⟩, by show 1 ≤ sizeLine; decide, fun b1 hb1 => ?_⟩
      have v1 := Same.upd_new (o := .lst [.int (C.getD 0 0 / 2)]) hb1
      have w1 : upd H5 b1 (.lst [.int (C.getD 0 0 / 2)]) b1 = _ := upd_same
      generalize upd H5 b1 (.lst [.int (C.getD 0 0 / 2)]) = H6 at v1 w1 ⊢
      refine ⟨_, rfl, _, rfl, lc, _, rfl, SqL.of (v1 _ _ kc5), fun b2 hb2 => ?_⟩
      rw [show cutV (C.map V.int) (some 1) none = (C.drop 1).map V.int by rw [show (1 : Int) = ((1 : Nat) : Int) from rfl, cut_lo, List.map_drop]]
      have v2 := Same.upd_new (o := .lst ((C.drop 1).map V.int)) hb2
      have w2 : upd H6 b2 (.lst ((C.drop 1).map V.int)) b2 = _ := upd_same
      generalize upd H6 b2 (.lst ((C.drop 1).map V.int)) = H7 at v2 w2 ⊢
      refine ⟨b1, b2, _, _, rfl, rfl, SqL.of (v2 _ _ w1), SqL.of w2, by rw [List.length_map, List.length_drop]; exact Nat.le_of_lt (small1000 (by show 1 + _ ≤ 1000; omega)), fun ll hll => ?_⟩
      rw [show [V.int (C.getD 0 0 / 2)] ++ (C.drop 1).map V.int = ((C.getD 0 0 / 2) :: C.drop 1).map V.int from rfl]
      have el : ((C.getD 0 0 / 2) :: C.drop 1).length = C.length := by rw [List.length_cons, List.length_drop]; omega
      generalize (C.getD 0 0 / 2) :: C.drop 1 = L0 at el ⊢
      have v3 := Same.upd_new (o := .lst (L0.map V.int)) hll
      have w3 : upd H7 ll (.lst (L0.map V.int)) ll = _ := upd_same
      have s7 := s5.trans (v1.trans v2)
      have ll0 : H ll = none := s7.free hll
      have nll : ll ≠ l := fun z => by rw [z, (v1.trans v2) _ _ kd] at hll; cases hll
      have nlc : ll ≠ lc := fun z => by rw [z, (v1.trans v2) _ _ kc5] at hll; cases hll
      have kd8 := v3 _ _ ((v1.trans v2) _ _ kd)
      have kc8 := v3 _ _ ((v1.trans v2) _ _ kc5)
      generalize upd H7 ll (.lst (L0.map V.int)) = H8 at v3 w3 kd8 kc8 ⊢
      have s8 := s7.trans v3
      refine ⟨fun mm σ H' => ∃ (Dr Lf : List Int) (o : Option V), mm = 200 - Dr.length ∧ Dr.length ≤ 126 ∧ Lf.length = C.length ∧ Same H H' ∧ H' lc = some (.lst (C.map V.int)) ∧ H' l = some (.lst (Dr.map V.int)) ∧ H' ll = some (.lst (Lf.map V.int)) ∧ σ = [some (.ref a), some (.ref lc), some (.int 64), some (.int (10 ^ 20 + 39)), some (.ref l), some (.ref ll), o, none],
        ⟨_, [], L0, none, rfl, by decide, el, s8, kc8, kd8, w3, rfl⟩, ?_⟩
      rintro mm σ H9 ⟨Dr, Lf, o, rfl, hD, hLf, s9, c9, d9, f9, rfl⟩
      refine ⟨_, rfl, l, _, rfl, .inl (SqL.of d9), _, rfl, _, _, rfl, rfl, _, rfl, ?_⟩
      rw [List.length_map]
      refine ite2 (fun z => ?_) (fun z => ?_)
      · have z : ((Dr.length : Nat) : Int) < 64 := of_decide_eq_true z
        refine ⟨fun σ' H' => ∃ (Dr' Lf : List Int) (o : Option V), Dr'.length = Dr.length + C.length ∧ Lf.length = C.length ∧ Same H H' ∧ H' lc = some (.lst (C.map V.int)) ∧ H' l = some (.lst (Dr'.map V.int)) ∧ H' ll = some (.lst (Lf.map V.int)) ∧ σ' = [some (.ref a), some (.ref lc), some (.int 64), some (.int (10 ^ 20 + 39)), some (.ref l), some (.ref ll), o, none], fun σ' H' ⟨Dr', Lf', o', h1, h2, h3, h4, h5, h6, h7⟩ => ⟨_, by omega, Dr', Lf', o', rfl, by omega, h2, h3, h4, h5, h6, h7⟩, ?_⟩
        refine ⟨_, rfl, lc, _, rfl, .inl (SqL.of c9), ?_⟩
        rw [List.length_map]
        refine ⟨C.length, rfl, by omega, by omega, ?_⟩
        refine for_range (n := C.length) (fun i σ' H' => ∃ (Dr' Lf : List Int) (o : Option V), Dr'.length = Dr.length + i ∧ Lf.length = C.length ∧ Same H H' ∧ H' lc = some (.lst (C.map V.int)) ∧ H' l = some (.lst (Dr'.map V.int)) ∧ H' ll = some (.lst (Lf.map V.int)) ∧ σ' = [some (.ref a), some (.ref lc), some (.int 64), some (.int (10 ^ 20 + 39)), some (.ref l), some (.ref ll), o, none]) ⟨Dr, Lf, _, rfl, hLf, s9, c9, d9, f9, rfl⟩ (fun i σ' H' hi ⟨Dr', Lf', o', h1, h2, h3, h4, h5, h6, h7⟩ => ?_) (fun σ' H' h => h)
        subst h7
        have hat : atI (Lf'.map V.int) (0 + (i : Int)) = some (.int (Lf'.getD i 0)) := by rw [Int.zero_add]; exact at_of_lt (by omega)
        refine ⟨_, rfl, .inl ⟨rfl, _, SqL.of h5⟩, _, rfl, _, rfl, ll, _, _, _, rfl, rfl, SqL.of h6, hat, _, rfl, _, _, rfl, rfl, base_pos, l, _, _, rfl, rfl, h5, by rw [List.length_map]; exact small1000 (by omega), ?_⟩
        have h6' : upd H' l (.lst (Dr'.map V.int ++ [V.int (Lf'.getD i 0 % (10 ^ 20 + 39))])) ll = _ := (upd_ne nll).trans h6
        have h5' : upd H' l (.lst (Dr'.map V.int ++ [V.int (Lf'.getD i 0 % (10 ^ 20 + 39))])) l = some (.lst ((Dr' ++ [Lf'.getD i 0 % (10 ^ 20 + 39)]).map V.int)) := by rw [upd_same, List.map_append]; rfl
        have h4' : upd H' l (.lst (Dr'.map V.int ++ [V.int (Lf'.getD i 0 % (10 ^ 20 + 39))])) lc = _ := (upd_ne ncl).trans h4
        have h3' : Same H (upd H' l (.lst (Dr'.map V.int ++ [V.int (Lf'.getD i 0 % (10 ^ 20 + 39))]))) := h3.upd_ne' l0
        generalize upd H' l (.lst (Dr'.map V.int ++ [V.int (Lf'.getD i 0 % (10 ^ 20 + 39))])) = Hx at h6' h5' h4' h3' ⊢
        refine ⟨_, rfl, _, rfl, ll, _, _, _, rfl, rfl, SqL.of h6', hat, _, rfl, _, _, rfl, rfl, base_div _, _, rfl, _, rfl, ll, _, _, i, rfl, rfl, h6', by rw [List.length_map, Int.zero_add]; exact ixN_nat (by omega), ?_⟩
        exact ⟨_, Lf'.set i ((Lf'.getD i 0).fdiv (10 ^ 20 + 39)), _, by rw [List.length_append, h1]; rfl, by rw [List.length_set]; exact h2, h3'.upd_ne' ll0, (upd_ne (fun z => nlc z.symm)).trans h4', (upd_ne (fun z => nll z.symm)).trans h5', by rw [upd_same, List.map_set], rfl⟩
      · have z : ¬ ((Dr.length : Nat) : Int) < 64 := fun y => z (decide_eq_true y)
        exact ⟨_, rfl, k l Dr H9 l0 s9 (by omega) (by omega) d9⟩
    · refine ⟨_, rfl, 64, rfl, by decide, by decide, ?_⟩
      refine for_range (n := 64) (fun i σ' H' => ∃ (Dr : List Int) (o o' : Option V), Dr.length = i ∧ Same H H' ∧ H' lc = some (.lst (C.map V.int)) ∧ H' l = some (.lst (Dr.map V.int)) ∧ σ' = [some (.ref a), some (.ref lc), some (.int 64), some (.int (10 ^ 20 + 39)), some (.ref l), none, o, o']) ⟨[], _, _, rfl, s5, kc5, kd, rfl⟩ (fun i σ' H' hi ⟨Dr, o, o', h1, h3, h4, h5, h7⟩ => ?_) (fun σ' H' ⟨Dr, o, o', h1, h3, h4, h5, h7⟩ => ?_)
      · subst h7
        have hlen : (0 : Int) < (((C.map V.int).length : Nat) : Int) := by rw [List.length_map]; omega
        obtain ⟨x, hx, hxm⟩ := atI_in (xs := C.map V.int) (i := (0 + (i : Int)) % (((C.map V.int).length : Nat) : Int)) (Int.emod_nonneg _ (by omega)) (Int.emod_lt_of_pos _ hlen)
        obtain ⟨y, _, rfl⟩ := List.mem_map.mp hxm
        refine ⟨_, rfl, _, rfl, _, rfl, lc, _, rfl, .inl (SqL.of h4), _, _, rfl, rfl, hlen, lc, _, _, _, rfl, rfl, SqL.of h4, hx, _, rfl, _, _, rfl, rfl, .inl (.inl ⟨by decide, by decide⟩), _, rfl, _, _, rfl, rfl, .inl (.inr ⟨by omega, by omega⟩), _, _, rfl, rfl, _, _, rfl, rfl, _, _, rfl, rfl, .inl (.inr ⟨by decide, by decide⟩), _, _, rfl, rfl, (by show (0 : Int) < 2147483629; decide), ?_⟩
        have n0 := Int.emod_nonneg ((y + 7919 * (0 + (i : Int)) * (0 + (i : Int)) + 11) * 48271) (b := 2147483629) (by decide)
        have n1 := Int.emod_lt_of_pos ((y + 7919 * (0 + (i : Int)) * (0 + (i : Int)) + 11) * 48271) (b := 2147483629) (by decide)
        refine ⟨_, rfl, .inl ⟨rfl, _, SqL.of h5⟩, _, rfl, _, rfl, _, _, rfl, rfl, .inl (.inl ⟨by omega, by omega⟩), _, _, rfl, rfl, .inl (.inr ⟨by decide, by decide⟩), _, rfl, _, _, rfl, rfl, base_pos, l, _, _, rfl, rfl, h5, by rw [List.length_map]; exact small1000 (by omega), ?_⟩
        exact ⟨Dr ++ [_], _, _, by rw [List.length_append, h1]; rfl, h3.upd_ne' l0, (upd_ne ncl).trans h4, by rw [upd_same, List.map_append]; rfl, rfl⟩
      · subst h7
        exact ⟨_, rfl, k l Dr H' l0 h3 (by omega) (by omega) h5⟩
def spCel (K : PySem.W.Frag) : Sp := fun vs H Q _ => ∃ (a : Addr) (ns : List Int) (k : Nat), vs = [.ref a, .int (k : Int)] ∧ SqL K H a (ns.map V.int) ∧ ∀ c : Int, Q (.int c) H
theorem scCel : FnScope ["_law_script", "_law_k"] ["_law_script", "_law_k"] (defScope sCel) := ⟨rfl, rfl, rfl, by decide +kernel, rfl, by decide +kernel, by decide +kernel⟩
theorem ok_cel (t : Tx K mg "_law_cell" sCel ["_law_script", "_law_k"] f fd) (T : T K mg AL LN FR iF fCh fGM fCC fCA fPL SE NN NG NT NO NR NS) : Df P w K mg base CX0 1 "_law_cell" ["_law_script", "_law_k"] (spCel K) f fd := by
  refine t.df0 scCel (fun vs H Q E h => ?_) (fun cdv A outer s H vs Q E hr h => ?_)
  · obtain ⟨a, ns, k, rfl, _⟩ := h
    rfl
  · obtain ⟨a, ns, j, rfl, hq, k⟩ := h
    refine ⟨_, (pss_cons (ps_if (pt_cmpR op_lt (pv 1) (pe_callB call_len_seq (by rfl) T.b_len bt_len (pa_cons (pv 0) pa_nil)) (nomark _)) (pss_one (ps_ret (pe_ix ix_list (pv 0) (pv 1) (fun _ _ => rfl)))) pss_nil)
      (pss_one (ps_ret pe_int))), ?_⟩
    refine ⟨_, rfl, _, rfl, a, _, rfl, .inl hq, _, _, rfl, rfl, _, rfl, ite2 (fun h => ?_) (fun _ => k 0)⟩
    have hlt : j < ns.length := by
      have z := of_decide_eq_true h
      rw [List.length_map] at z
      omega
    exact ⟨_, rfl, _, rfl, a, _, _, _, rfl, rfl, hq, at_of_lt hlt, k _⟩
theorem seq_at {a b : TS} {D : Ends} {σ : St} {H : Hp} (R : St → Hp → Prop) (h1 : (∀ σ' H', R σ' H' → b D σ' H') → a { D with nx := b D } σ H) (h2 : ∀ σ' H', R σ' H' → b D σ' H') : tSeq a b D σ H := h1 h2
def shL (n g : Nat) (w : Nat → Int) : List Int := (List.range n).filterMap fun i => if g / 2 ^ i % 2 = 1 then some (w i) else none
theorem shL_fm (n g : Nat) (w : Nat → Int) : ((List.range n).filterMap fun i => if g / 2 ^ i % 2 = 1 then some (V.int (w i)) else none) = (shL n g w).map V.int := by
  unfold shL
  rw [List.map_filterMap]
  refine fm_congr fun i _ => ?_
  split <;> rfl
theorem shL_sum (g : Nat) (w : Nat → Int) : ∀ n, (shL n g w).sum = Wg.sm n fun i => bt g i * w i
  | 0 => rfl
  | n + 1 => by
    have ih := shL_sum g w n
    unfold shL at ih ⊢
    rw [List.range_succ, List.filterMap_append, List.sum_append, ih]
    show _ = (Wg.sm n fun i => bt g i * w i) + bt g n * w n
    congr 1
    rw [List.filterMap_cons, List.filterMap_nil]
    unfold bt
    by_cases z : g / 2 ^ n % 2 = 1
    · rw [if_pos z, z]
      simp
    · have z0 : g / 2 ^ n % 2 = 0 := by omega
      rw [if_neg z, z0]
      simp
def spShr (K : PySem.W.Frag) : Sp := fun vs H Q _ => ∃ (q : Addr) (n g : Nat) (w : Nat → Int), vs = [.ref q, .int (g : Int)] ∧ H q = some (.lst (lsV n w)) ∧ n ≤ 60 ∧ ∀ H', Same H H' → Q (.int (Wg.sm n fun i => bt g i * w i)) H'
theorem scShr : FnScope ["_law_tops_here", "_law_group"] ["_law_tops_here", "_law_group"] (defScope sShr) := ⟨rfl, rfl, rfl, by decide +kernel, rfl, by decide +kernel, by decide +kernel⟩
theorem ok_shr (t : Tx K mg "_law_share" sShr ["_law_tops_here", "_law_group"] f fd) (T : T K mg AL LN FR iF fCh fGM fCC fCA fPL SE NN NG NT NO NR NS) : Df P w K mg base CX0 1 "_law_share" ["_law_tops_here", "_law_group"] (spShr K) f fd := by
  refine t.df0 scShr (fun vs H Q E h => ?_) (fun cdv A outer s H vs Q E hr h => ?_)
  · obtain ⟨q, n, g, w', rfl, _⟩ := h
    rfl
  · obtain ⟨q, n, g, w', rfl, hq, hn, k⟩ := h
    refine ⟨_, (pss_one (ps_ret (pe_callB (call_sum rfl) (by rfl) T.b_sum bt_sum (pa_cons (pe_comp (NB := ["_law_hand", "_law_group", "_law_tops_here"]) (pick := [none, some 1, some 0]) (blk_mk (by with_unfolding_all rfl) (by exact (And.intro rfl (And.intro rfl trivial))) rfl (by decide +kernel) (by decide +kernel) (by rfl) (by rfl)) rfl
          (pi_range1 (by rfl) T.b_range (pa_cons (pe_callB call_len_seq (by rfl) T.b_len bt_len (pa_cons (pv 0) pa_nil)) pa_nil)) (fun _ _ _ => pg_name (i := 0) (show (["_law_hand", "_law_group", "_law_tops_here"] : List Str).Nodup from by decide +kernel) rfl (Or.inl rfl))
          (fun _ _ _ => pif_one (pt_cmpR op_eq (pe_op op_and (pe_op op_shr (pv 1) (pv 0)) pe_int) pe_int (nomark _))) (fun _ _ _ => (pe_ix (ix_listK K) (pv 2) (pv 0) (fun _ _ => rfl)))) pa_nil)))), ?_⟩
    refine ⟨_, rfl, q, _, rfl, .inl (SqL.of hq), ?_⟩
    rw [lsV_len]
    refine ⟨n, rfl, by omega, by omega, ?_⟩
    refine comp_rng (n := n) (fun i => if g / 2 ^ i % 2 = 1 then some (V.int (w' i)) else none) (Nat.le_of_lt (small1000 (by omega))) (fun i H2 kk kk0 s2 hi h1 h2 => ?_) fun D H2 hD s2 hd => ?_
    · rw [Int.zero_add (i : Int)]
      have eb : Builtin.bitAnd ((g : Int) / 2 ^ (i : Int).toNat) 1 = ((g / 2 ^ i % 2 : Nat) : Int) := by rw [Int.toNat_natCast, bit_of]
      refine ⟨_, rfl, _, rfl, _, _, rfl, rfl, (by show 0 ≤ (i : Int); omega), _, _, rfl, rfl, rfl, _, rfl, ite2 (fun h3 => ?_) (fun h3 => h2 ?_ _ (.refl _))⟩
      · have z := V.int.inj (of_decide_eq_true h3)
        rw [eb] at z
        exact ⟨_, rfl, _, rfl, q, _, _, _, rfl, rfl, SqL.of (s2 _ _ hq), lsV_at hi, h1 _ (if_pos (by omega)) _ (.refl _)⟩
      · refine if_neg fun z => h3 ?_
        show decide (V.int (Builtin.bitAnd ((g : Int) / 2 ^ (i : Int).toNat) 1) = V.int 1) = true
        rw [eb, z]
        rfl
    · rw [shL_fm] at hd
      refine ⟨D, _, rfl, .inl (SqL.of hd), ?_⟩
      rw [shL_sum]
      exact k H2 s2
def Loc (m : Nat) (v : Nat → Int) : Prop := ∀ g a b, g < 2 ^ m → a < m → b < m → a ≠ b → g / 2 ^ a % 2 = 0 → g / 2 ^ b % 2 = 0 → v (g + 2 ^ a) + v (g + 2 ^ b) ≤ v g + v (g + 2 ^ a + 2 ^ b)
theorem stepC : ∀ (A B : _root_.Fin 32) (k : _root_.Fin 5), (A.1 ||| (B.1 &&& (2 ^ (k.1 + 1) - 1))) = (A.1 ||| (B.1 &&& (2 ^ k.1 - 1))) ∨ ((A.1 ||| (B.1 &&& (2 ^ (k.1 + 1) - 1))) = (A.1 ||| (B.1 &&& (2 ^ k.1 - 1))) + 2 ^ k.1 ∧ (A.1 ||| (B.1 &&& (2 ^ k.1 - 1))) / 2 ^ k.1 % 2 = 0 ∧ B.1 / 2 ^ k.1 % 2 = 1) := by decide +kernel
theorem subC : ∀ (A B : _root_.Fin 32) (k : _root_.Fin 6) (h : _root_.Fin 5), A.1 &&& B.1 = A.1 → B.1 / 2 ^ h.1 % 2 = 0 → (A.1 ||| (B.1 &&& (2 ^ k.1 - 1))) / 2 ^ h.1 % 2 = 0 := by decide +kernel
theorem endC : ∀ (A B : _root_.Fin 32), A.1 &&& B.1 = A.1 → (A.1 ||| (B.1 &&& (2 ^ 5 - 1))) = B.1 := by decide +kernel
theorem ltC {m A B k : Nat} (hA : A < 2 ^ m) (hB : B < 2 ^ m) : (A ||| (B &&& (2 ^ k - 1))) < 2 ^ m := Nat.or_lt_two_pow hA (Nat.lt_of_le_of_lt Nat.and_le_left hB)
theorem p32 {m : Nat} (m5 : m ≤ 5) : 2 ^ m ≤ 32 := Nat.pow_le_pow_right (n := 2) (by decide) m5
theorem mono {m : Nat} {v : Nat → Int} (m5 : m ≤ 5) (lc : Loc m v) {A B h : Nat} (hB : B < 2 ^ m) (hA : A &&& B = A) (hh : h < m) (hb : B / 2 ^ h % 2 = 0) : v (A + 2 ^ h) - v A ≤ v (B + 2 ^ h) - v B := by
  have h32 := p32 m5
  have hAB : A ≤ B := by rw [← hA]; exact Nat.and_le_right
  have hA' : A < 2 ^ m := by omega
  have step : ∀ k, k ≤ 5 → v (A + 2 ^ h) - v A ≤ v ((A ||| (B &&& (2 ^ k - 1))) + 2 ^ h) - v (A ||| (B &&& (2 ^ k - 1))) := by
    intro k
    induction k with
    | zero =>
      intro _
      have e : A ||| (B &&& (2 ^ 0 - 1)) = A := by rw [Nat.pow_zero, Nat.sub_self, Nat.and_zero, Nat.or_zero]
      rw [e]
      exact Int.le_refl _
    | succ k ih =>
      intro hk
      have ih := ih (by omega)
      have sc := stepC ⟨A, by omega⟩ ⟨B, by omega⟩ ⟨k, by omega⟩
      have sb := subC ⟨A, by omega⟩ ⟨B, by omega⟩ ⟨k, by omega⟩ ⟨h, by omega⟩ hA hb
      have lt := ltC (k := k) hA' hB
      have lt' := ltC (k := k + 1) hA' hB
      dsimp only at sc sb
      generalize A ||| (B &&& (2 ^ k - 1)) = C at sc sb lt ih
      generalize A ||| (B &&& (2 ^ (k + 1) - 1)) = C' at sc lt' ⊢
      rcases sc with e | ⟨e, e0, e1⟩
      · rw [e]; exact ih
      · subst e
        have km : k < m := by
          rcases Nat.lt_or_ge k m with z | z
          · exact z
          · have : 2 ^ m ≤ 2 ^ k := Nat.pow_le_pow_right (by decide) z
            omega
        have kh : k ≠ h := fun z => by rw [z] at e1; omega
        have q := lc C k h lt km hh kh e0 sb
        omega
  have z := step 5 (Nat.le_refl _)
  rw [show (A ||| (B &&& (2 ^ 5 - 1))) = B from endC ⟨A, by omega⟩ ⟨B, by omega⟩ hA] at z
  exact z
theorem stepX : ∀ (x y : _root_.Fin 32) (k : _root_.Fin 5), ((x.1 ||| (y.1 &&& (2 ^ (k.1 + 1) - 1))) = (x.1 ||| (y.1 &&& (2 ^ k.1 - 1))) ∧ ((x.1 &&& y.1) ||| (y.1 &&& (2 ^ (k.1 + 1) - 1))) = ((x.1 &&& y.1) ||| (y.1 &&& (2 ^ k.1 - 1)))) ∨
    ((x.1 ||| (y.1 &&& (2 ^ (k.1 + 1) - 1))) = (x.1 ||| (y.1 &&& (2 ^ k.1 - 1))) + 2 ^ k.1 ∧ ((x.1 &&& y.1) ||| (y.1 &&& (2 ^ (k.1 + 1) - 1))) = ((x.1 &&& y.1) ||| (y.1 &&& (2 ^ k.1 - 1))) + 2 ^ k.1 ∧ (x.1 ||| (y.1 &&& (2 ^ k.1 - 1))) / 2 ^ k.1 % 2 = 0 ∧ (((x.1 &&& y.1) ||| (y.1 &&& (2 ^ k.1 - 1))) &&& (x.1 ||| (y.1 &&& (2 ^ k.1 - 1)))) = ((x.1 &&& y.1) ||| (y.1 &&& (2 ^ k.1 - 1)))) := by decide +kernel
theorem endX : ∀ (x y : _root_.Fin 32), (x.1 ||| (y.1 &&& (2 ^ 5 - 1))) = x.1 ||| y.1 ∧ ((x.1 &&& y.1) ||| (y.1 &&& (2 ^ 5 - 1))) = y.1 := by decide +kernel
theorem glob {m : Nat} {v : Nat → Int} (m5 : m ≤ 5) (lc : Loc m v) {x y : Nat} (hx : x < 2 ^ m) (hy : y < 2 ^ m) : v x + v y ≤ v (x ||| y) + v (x &&& y) := by
  have h32 := p32 m5
  have hxy : x &&& y < 2 ^ m := Nat.lt_of_le_of_lt Nat.and_le_left hx
  have step : ∀ k, k ≤ 5 → v ((x &&& y) ||| (y &&& (2 ^ k - 1))) - v (x &&& y) ≤ v (x ||| (y &&& (2 ^ k - 1))) - v x := by
    intro k
    induction k with
    | zero =>
      intro _
      rw [Nat.pow_zero, Nat.sub_self, Nat.and_zero, Nat.or_zero, Nat.or_zero]
      omega
    | succ k ih =>
      intro hk
      have ih := ih (by omega)
      have sc := stepX ⟨x, by omega⟩ ⟨y, by omega⟩ ⟨k, by omega⟩
      have lt := ltC (k := k) hx hy
      have lt' := ltC (k := k + 1) hx hy
      dsimp only at sc
      generalize x ||| (y &&& (2 ^ k - 1)) = C at sc lt ih
      generalize x ||| (y &&& (2 ^ (k + 1) - 1)) = C' at sc lt' ⊢
      generalize (x &&& y) ||| (y &&& (2 ^ k - 1)) = Z at sc ih
      generalize (x &&& y) ||| (y &&& (2 ^ (k + 1) - 1)) = Z' at sc ⊢
      rcases sc with ⟨e, e'⟩ | ⟨e, e', e0, e1⟩
      · rw [e, e']; exact ih
      · subst e
        subst e'
        have km : k < m := by
          rcases Nat.lt_or_ge k m with z | z
          · exact z
          · have : 2 ^ m ≤ 2 ^ k := Nat.pow_le_pow_right (by decide) z
            omega
        have q := mono m5 lc lt e1 km e0
        omega
  have z := step 5 (Nat.le_refl _)
  obtain ⟨e1, e2⟩ := endX ⟨x, by omega⟩ ⟨y, by omega⟩
  dsimp only at e1 e2
  rw [e1, e2] at z
  omega
theorem getD_set {cur : List Int} {h : Nat} {z : Int} (hh : h < cur.length) (i : Nat) : (cur.set h z).getD i 0 = if i = h then z else cur.getD i 0 := by
  rw [List.getD_eq_getElem?_getD, List.getD_eq_getElem?_getD, List.getElem?_set]
  by_cases e : i = h
  · subst e
    rw [if_pos rfl, if_pos hh, if_pos rfl]
    rfl
  · rw [if_neg (fun z => e z.symm), if_neg e]
theorem sm_set {m : Nat} {c : Nat → Int} {cur : List Int} {h : Nat} {z : Int} (hl : cur.length = m) (hh : h < m) (h0 : cur.getD h 0 = 0) : (Wg.sm m fun i => c i * (cur.set h z).getD i 0) = (Wg.sm m fun i => c i * cur.getD i 0) + c h * z := by
  have e : (Wg.sm m fun i => c i * (cur.set h z).getD i 0) = Wg.sm m fun i => c i * cur.getD i 0 + (if i = h then c h * z else 0) := Wg.sm_ext fun i hi => by
    rw [getD_set (by omega)]
    by_cases e : i = h
    · subst e
      rw [if_pos rfl, if_pos rfl, h0, Int.mul_zero, Int.zero_add]
    · rw [if_neg e, if_neg e, Int.add_zero]
  rw [e, Wg.sm_add, Wg.sm_one (k := h) hh fun i _ ne => if_neg ne, if_pos rfl]
theorem and_in : ∀ (g S : _root_.Fin 32) (h : _root_.Fin 5), g.1 / 2 ^ h.1 % 2 = 0 → (S.1 / 2 ^ h.1 % 2 = 1 → (g.1 + 2 ^ h.1) &&& S.1 = (g.1 &&& S.1) + 2 ^ h.1) ∧ (S.1 / 2 ^ h.1 % 2 = 0 → (g.1 + 2 ^ h.1) &&& S.1 = g.1 &&& S.1) ∧ (g.1 &&& S.1) &&& g.1 = g.1 &&& S.1 := by decide +kernel
theorem bit_stay : ∀ (g : _root_.Fin 32) (a b : _root_.Fin 5), g.1 / 2 ^ a.1 % 2 = 0 → g.1 / 2 ^ b.1 % 2 = 0 → a.1 ≠ b.1 → (g.1 + 2 ^ a.1) / 2 ^ b.1 % 2 = 0 := by decide +kernel
theorem bit_lt : ∀ (m : _root_.Fin 6) (g : _root_.Fin 32) (a : _root_.Fin 5), g.1 < 2 ^ m.1 → a.1 < m.1 → g.1 / 2 ^ a.1 % 2 = 0 → g.1 + 2 ^ a.1 < 2 ^ m.1 := by decide +kernel
theorem walk_core {m : Nat} {v : Nat → Int} {rs : List Int} (m5 : m ≤ 5) (hv : ∀ g, g < 2 ^ m → rs.getD g 0 = v g) (lc : Loc m v) {S : Nat} (hS : S < 2 ^ m) : ∀ (o : List Nat) (g : Nat) (cur : List Int), g < 2 ^ m → cur.length = m → o.Nodup → (∀ h ∈ o, h < m ∧ g / 2 ^ h % 2 = 0 ∧ cur.getD h 0 = 0) →
    v ((g + bitsS o) &&& S) - v (g &&& S) ≤ (Wg.sm m fun i => bt S i * (walkS rs o g cur).getD i 0) - Wg.sm m fun i => bt S i * cur.getD i 0
  | [], g, cur, _, _, _, _ => by
    show v ((g + 0) &&& S) - v (g &&& S) ≤ (Wg.sm m fun i => bt S i * cur.getD i 0) - Wg.sm m fun i => bt S i * cur.getD i 0
    rw [Nat.add_zero]
    omega
  | h :: r, g, cur, hg, hl, nd, hm => by
    have h32 := p32 m5
    obtain ⟨hh, hb, h0⟩ := hm h (List.mem_cons_self ..)
    rw [List.nodup_cons] at nd
    have glt := bit_lt ⟨m, by omega⟩ ⟨g, by omega⟩ ⟨h, by omega⟩ hg hh hb
    dsimp only at glt
    have ih := walk_core m5 hv lc hS r (g + 2 ^ h) (cur.set h (rs.getD (g + 2 ^ h) 0 - rs.getD g 0)) glt (by rw [List.length_set]; exact hl) nd.2 fun h' hh' => by
      obtain ⟨a, b, c⟩ := hm h' (List.mem_cons_of_mem _ hh')
      have ne : h ≠ h' := fun z => nd.1 (z ▸ hh')
      refine ⟨a, bit_stay ⟨g, by omega⟩ ⟨h, by omega⟩ ⟨h', by omega⟩ hb b ne, ?_⟩
      rw [getD_set (by omega), if_neg (fun z => ne z.symm)]
      exact c
    have es : g + bitsS (h :: r) = g + 2 ^ h + bitsS r := by
      unfold bitsS
      rw [List.map_cons, List.sum_cons]
      omega
    rw [sm_set hl hh h0, hv _ glt, hv g hg] at ih
    rw [es]
    obtain ⟨a1, a2, a3⟩ := and_in ⟨g, by omega⟩ ⟨S, by omega⟩ ⟨h, by omega⟩ hb
    dsimp only at a1 a2 a3
    show _ ≤ (Wg.sm m fun i => bt S i * (walkS rs r (g + 2 ^ h) (cur.set h (rs.getD (g + 2 ^ h) 0 - rs.getD g 0))).getD i 0) - _
    rw [hv _ glt, hv g hg]
    by_cases e : S / 2 ^ h % 2 = 1
    · have eb : bt S h = 1 := by unfold bt; rw [e]; rfl
      rw [eb, Int.one_mul, a1 e] at ih
      have q := mono m5 lc hg a3 hh hb
      omega
    · have e0 : S / 2 ^ h % 2 = 0 := by omega
      have eb : bt S h = 0 := by unfold bt; rw [e0]; rfl
      rw [eb, Int.zero_mul, a2 e0] at ih
      omega
theorem walk_tot {m : Nat} {v : Nat → Int} {rs : List Int} (m5 : m ≤ 5) (hv : ∀ g, g < 2 ^ m → rs.getD g 0 = v g) : ∀ (o : List Nat) (g : Nat) (cur : List Int), g < 2 ^ m → cur.length = m → o.Nodup → (∀ h ∈ o, h < m ∧ g / 2 ^ h % 2 = 0 ∧ cur.getD h 0 = 0) →
    v (g + bitsS o) - v g = (Wg.sm m fun i => 1 * (walkS rs o g cur).getD i 0) - Wg.sm m fun i => 1 * cur.getD i 0
  | [], g, cur, _, _, _, _ => by
    show v (g + 0) - v g = (Wg.sm m fun i => 1 * cur.getD i 0) - Wg.sm m fun i => 1 * cur.getD i 0
    rw [Nat.add_zero]
    omega
  | h :: r, g, cur, hg, hl, nd, hm => by
    have h32 := p32 m5
    obtain ⟨hh, hb, h0⟩ := hm h (List.mem_cons_self ..)
    rw [List.nodup_cons] at nd
    have glt := bit_lt ⟨m, by omega⟩ ⟨g, by omega⟩ ⟨h, by omega⟩ hg hh hb
    dsimp only at glt
    have ih := walk_tot m5 hv r (g + 2 ^ h) (cur.set h (rs.getD (g + 2 ^ h) 0 - rs.getD g 0)) glt (by rw [List.length_set]; exact hl) nd.2 fun h' hh' => by
      obtain ⟨a, b, c⟩ := hm h' (List.mem_cons_of_mem _ hh')
      have ne : h ≠ h' := fun z => nd.1 (z ▸ hh')
      refine ⟨a, bit_stay ⟨g, by omega⟩ ⟨h, by omega⟩ ⟨h', by omega⟩ hb b ne, ?_⟩
      rw [getD_set (by omega), if_neg (fun z => ne z.symm)]
      exact c
    have es : g + bitsS (h :: r) = g + 2 ^ h + bitsS r := by
      unfold bitsS
      rw [List.map_cons, List.sum_cons]
      omega
    rw [sm_set (c := fun _ => 1) hl hh h0, hv _ glt, hv g hg] at ih
    rw [es]
    show _ = (Wg.sm m fun i => 1 * (walkS rs r (g + 2 ^ h) (cur.set h (rs.getD (g + 2 ^ h) 0 - rs.getD g 0))).getD i 0) - _
    rw [hv _ glt, hv g hg]
    omega
def wtM (m p : Nat) : Int := ((60 * Wg.fac p * Wg.fac (m - 1 - p) / Wg.fac m : Nat) : Int)
def shF (m h : Nat) : LF := ((List.range (2 ^ m)).filter fun g => decide (g / 2 ^ h % 2 = 0)).flatMap fun g => [(g + 2 ^ h, wtM m (handsB g).length), (g, -wtM m (handsB g).length)]
def okS (m h : Nat) : Bool := ((shF m h).all fun x => decide (x.1 < 2 ^ m)) && sameL (2 ^ m) (expL (shF m h)) (mF h (2 ^ m))
theorem okS_all : ∀ (m : _root_.Fin 6) (h : _root_.Fin 5), h.1 < m.1 → okS m.1 h.1 = true := by decide +kernel
theorem mS_sh {m h : Nat} {ds rs : List Int} (tb : TabN m rs) (m5 : m ≤ 5) (d : DivOf ds rs) (hh : h < m) : mS ds h ds.length = evL rs (shF m h) := by
  have ok := okS_all ⟨m, by omega⟩ ⟨h, by omega⟩ hh
  unfold okS at ok
  rw [Bool.and_eq_true] at ok
  have hn := tb.2.2.1
  rw [mS_ev, evL_exp d (by have := tb.pos; omega) _ (by rw [hn]; exact ok.1), d.1, hn]
  exact (sameL_ev ok.2).symm
def cert (m S : Nat) : List (Nat × Nat × Nat × Int) :=
  ((List.range m).filter fun i => decide (S / 2 ^ i % 2 = 1)).flatMap fun i =>
  ((List.range m).filter fun e => decide (S / 2 ^ e % 2 = 0)).flatMap fun e =>
  ((List.range (2 ^ m)).filter fun U => decide (U &&& (S ||| (2 ^ (e + 1) - 1)) = 0)).flatMap fun U =>
  ((List.range (2 ^ m)).filter fun G => decide (G / 2 ^ i % 2 = 0) && decide ((G ||| S ||| (2 ^ e - 1)) = (S ||| (2 ^ e - 1)))).map fun G => (G, i, e, 2 * wtM m ((handsB G).length + 1 + (handsB U).length))
def locF (c : Nat × Nat × Nat × Int) : LF := [(c.1, c.2.2.2), (c.1 + 2 ^ c.2.1 + 2 ^ c.2.2.1, c.2.2.2), (c.1 + 2 ^ c.2.1, -c.2.2.2), (c.1 + 2 ^ c.2.2.1, -c.2.2.2)]
def okC (m S : Nat) : Bool := ((cert m S).all fun c => decide (c.1 < 2 ^ m) && decide (c.2.1 < m) && decide (c.2.2.1 < m) && decide (c.2.1 ≠ c.2.2.1) && decide (c.1 / 2 ^ c.2.1 % 2 = 0) && decide (c.1 / 2 ^ c.2.2.1 % 2 = 0) && decide (0 ≤ c.2.2.2)) &&
  sameL (2 ^ m) (((List.range m).filter fun h => decide (S / 2 ^ h % 2 = 1)).flatMap fun h => sclL 2 (shF m h)) ((S, 120) :: (0, -120) :: (cert m S).flatMap locF)
theorem okC_all : ∀ (m : _root_.Fin 6) (S : _root_.Fin 32), 1 ≤ m.1 → S.1 < 2 ^ m.1 → okC m.1 S.1 = true := by decide +kernel
theorem cert_whole : ∀ m : _root_.Fin 6, cert m.1 (2 ^ m.1 - 1) = [] := by decide +kernel
theorem ev_locs {m : Nat} {rs : List Int} {v : Nat → Int} (hv : ∀ g, rs.getD g 0 = v g) (lc : Loc m v) : ∀ l : List (Nat × Nat × Nat × Int), (l.all fun c => decide (c.1 < 2 ^ m) && decide (c.2.1 < m) && decide (c.2.2.1 < m) && decide (c.2.1 ≠ c.2.2.1) && decide (c.1 / 2 ^ c.2.1 % 2 = 0) && decide (c.1 / 2 ^ c.2.2.1 % 2 = 0) && decide (0 ≤ c.2.2.2)) = true → 0 ≤ evL rs (l.flatMap locF)
  | [], _ => Int.le_refl _
  | (g, a, b, c) :: r, h => by
    rw [List.all_cons, Bool.and_eq_true] at h
    have ih := ev_locs hv lc r h.2
    have h := h.1
    simp only [Bool.and_eq_true, decide_eq_true_eq] at h
    obtain ⟨⟨⟨⟨⟨⟨h1, h2⟩, h3⟩, h4⟩, h5⟩, h6⟩, h7⟩ := h
    rw [List.flatMap_cons, evL_append]
    have q := lc g a b h1 h2 h3 h4 h5 h6
    have e : evL rs (locF (g, a, b, c)) = c * (v g + v (g + 2 ^ a + 2 ^ b) - (v (g + 2 ^ a) + v (g + 2 ^ b))) := by
      show c * rs.getD g 0 + (c * rs.getD (g + 2 ^ a + 2 ^ b) 0 + (-c * rs.getD (g + 2 ^ a) 0 + (-c * rs.getD (g + 2 ^ b) 0 + 0))) = _
      rw [hv, hv, hv, hv]
      grind
    rw [e]
    have := Int.mul_nonneg h7 (show 0 ≤ v g + v (g + 2 ^ a + 2 ^ b) - (v (g + 2 ^ a) + v (g + 2 ^ b)) by omega)
    omega
theorem ev_hands (rs : List Int) (m S : Nat) (Y : Nat → Int) (hY : ∀ h, h < m → Y h = evL rs (shF m h)) : ∀ n, n ≤ m → evL rs (((List.range n).filter fun h => decide (S / 2 ^ h % 2 = 1)).flatMap fun h => sclL 2 (shF m h)) = 2 * Wg.sm n fun i => bt S i * Y i
  | 0, _ => rfl
  | n + 1, hn => by
    have ih := ev_hands rs m S Y hY n (by omega)
    rw [List.range_succ, List.filter_append, List.flatMap_append, evL_append, ih]
    show _ = 2 * ((Wg.sm n fun i => bt S i * Y i) + bt S n * Y n)
    rw [List.filter_cons, List.filter_nil]
    by_cases e : S / 2 ^ n % 2 = 1
    · have eb : bt S n = 1 := by unfold bt; rw [e]; rfl
      rw [if_pos (decide_eq_true e), List.flatMap_cons, List.flatMap_nil, List.append_nil, evL_scl, ← hY n (by omega), eb]
      omega
    · have e0 : S / 2 ^ n % 2 = 0 := by omega
      have eb : bt S n = 0 := by unfold bt; rw [e0]; rfl
      rw [if_neg (by rw [decide_eq_false e]; exact Bool.false_ne_true), List.flatMap_nil, eb]
      show _ + 0 = _
      omega
theorem mean_core {m : Nat} {rs : List Int} {v Y : Nat → Int} (m1 : 1 ≤ m) (m5 : m ≤ 5) (hv : ∀ g, rs.getD g 0 = v g) (v0 : v 0 = 0) (lc : Loc m v) (hY : ∀ h, h < m → Y h = evL rs (shF m h)) {S : Nat} (hS : S < 2 ^ m) : v S * 60 ≤ (Wg.sm m fun i => bt S i * Y i) ∧ (S = 2 ^ m - 1 → (Wg.sm m fun i => bt S i * Y i) = v S * 60) := by
  have h32 := p32 m5
  have ok := okC_all ⟨m, by omega⟩ ⟨S, by omega⟩ m1 hS
  unfold okC at ok
  rw [Bool.and_eq_true] at ok
  have e := sameL_ev (rs := rs) ok.2
  rw [ev_hands rs m S Y hY m (Nat.le_refl _)] at e
  have e2 : evL rs ((S, 120) :: (0, -120) :: (cert m S).flatMap locF) = 120 * v S + evL rs ((cert m S).flatMap locF) := by
    show 120 * rs.getD S 0 + (-120 * rs.getD 0 0 + evL rs ((cert m S).flatMap locF)) = _
    rw [hv, hv, v0, Int.mul_zero, Int.zero_add]
  rw [e2] at e
  have nn := ev_locs hv lc (cert m S) ok.1
  refine ⟨by omega, fun z => ?_⟩
  have cw := cert_whole ⟨m, by omega⟩
  dsimp only at cw
  rw [← z] at cw
  rw [cw] at e
  have e3 : evL rs (([] : List (Nat × Nat × Nat × Int)).flatMap locF) = 0 := rfl
  rw [e3] at e
  omega
theorem sum_Sm {b : Nat} : ∀ l : List Int, (∀ x ∈ l, Sm b x) → Sm (b + l.length) l.sum
  | [], _ => Sm.zero
  | x :: r, h => by
    have ih := sum_Sm r fun y hy => h y (by simp [hy])
    rw [List.sum_cons, List.length_cons]
    exact (((h x (by simp)).mono (Nat.le_add_right _ _)).add ih)
def tvL (du : Nat → Int) (g : Nat) : List Int := (List.range (g + 1)).filterMap fun (p : Nat) => if Builtin.bitAnd (p : Int) (g : Int) = (p : Int) then some (du p) else none
theorem tvL_fm (du : Nat → Int) (g : Nat) : ((List.range (g + 1)).filterMap fun (p : Nat) => if Builtin.bitAnd (p : Int) (g : Int) = (p : Int) then some (V.int (du p)) else none) = (tvL du g).map V.int := by
  unfold tvL
  rw [List.map_filterMap]
  refine fm_congr fun i _ => ?_
  split <;> rfl
theorem tvL_Sm {du : Nat → Int} (h : ∀ j, Sm 300 (du j)) {g : Nat} (hg : g < 64) : Sm 400 (tvL du g).sum := by
  have hl : (tvL du g).length ≤ g + 1 := by
    unfold tvL
    have := List.length_filterMap_le (fun p : Nat => if Builtin.bitAnd (p : Int) (g : Int) = (p : Int) then some (du p) else none) (List.range (g + 1))
    rw [List.length_range] at this
    exact this
  refine (sum_Sm (b := 300) (tvL du g) fun x hx => ?_).mono (by omega)
  unfold tvL at hx
  obtain ⟨p, _, e⟩ := List.mem_filterMap.mp hx
  split at e
  · rw [← Option.some.inj e]; exact h p
  · cases e
theorem tvL_0 {du : Nat → Int} (h : du 0 = 0) : (tvL du 0).sum = 0 := by
  have e : tvL du 0 = [du 0] := rfl
  rw [e, h]
  rfl
def spDrn (K : PySem.W.Frag) : Sp := fun vs H Q _ => ∃ (a : Addr) (ns : List Int) (m : Nat), vs = [.ref a, .int (m : Int)] ∧ H a = some (.lst (ns.map V.int)) ∧ 4 ≤ ns.length ∧ ns.length ≤ 127 ∧ 1 ≤ m ∧ m ≤ 6 ∧ ∀ (D : Addr) (H' : Hp) (tb : Nat → Int), H D = none → Same H H' → H' D = some (.lst (lsV (2 ^ m) tb)) → tb 0 = 0 → (∀ j, j < 2 ^ m → Sm 400 (tb j)) → Q (.ref D) H'
theorem scDrn : FnScope ["_law_script", "_law_many", "_law_due", "_law_k", "_law_at", "_law_number", "_law_table", "_law_group"] ["_law_script", "_law_many"] (defScope sDrn) := ⟨rfl, rfl, rfl, by decide +kernel, rfl, by decide +kernel, by decide +kernel⟩
theorem ok_drn {f1 : Addr} {fd1 : FuncData} (t : Tx K mg "_law_drawn" sDrn ["_law_script", "_law_many"] f fd) (T : T K mg AL LN FR iF fCh fGM fCC fCA fPL SE NN NG NT NO NR NS) (D_law_cell : Df P w K mg base CX0 1 "_law_cell" ["_law_script", "_law_k"] (spCel K) f1 fd1) :
    Df P w K mg base CX0 2 "_law_drawn" ["_law_script", "_law_many"] (spDrn K) f fd := by
  refine t.df0 scDrn (fun vs H Q E h => ?_) (fun cdv A outer s H vs Q E hr h => ?_)
  · obtain ⟨a, ns, m, rfl, _⟩ := h
    rfl
  · obtain ⟨a, ns, m, rfl, ha, hn4, hns, m1, m6, k⟩ := h
    have n64 : 2 ^ m ≤ 64 := pow6 m6
    have n2 : 2 ≤ 2 ^ m := Nat.pow_le_pow_right (n := 2) (i := 1) (by decide) m1
    have e2 : (1 : Int) * 2 ^ ((m : Nat) : Int).toNat = ((2 ^ m : Nat) : Int) := by rw [Int.toNat_natCast, Int.one_mul]; push_cast; rfl
    generalize hN : 2 ^ m = n at *
    refine ⟨_, (pss_cons (ps_set (i := 2) scDrn.nd rfl (by first | exact Or.inl rfl | exact Or.inr rfl) (pe_op op_rep (pe_lst (pa_cons pe_int pa_nil)) (pe_op op_shl pe_int (pv 1))))
      (pss_cons (ps_for PassesOwn.never rfl (pi_range2 (by rfl) T.b_range (pa_cons pe_int (pa_cons (pe_callB call_len_seq (by rfl) T.b_len bt_len (pa_cons (pv 0) pa_nil)) pa_nil))) (pg_name (i := 3) scDrn.nd rfl (Or.inl rfl))
        (pss_cons (ps_set (i := 4) scDrn.nd rfl (Or.inl rfl) (pe_op op_sub (pe_op op_sub (pe_callB call_len_seq (by rfl) T.b_len bt_len (pa_cons (pv 2) pa_nil)) pe_int) (pe_op op_mod (pe_op op_sub (pv 3) pe_int) (pe_op op_sub (pe_callB call_len_seq (by rfl) T.b_len bt_len (pa_cons (pv 2) pa_nil)) pe_int))))
        (pss_cons (ps_set (i := 5) scDrn.nd rfl (Or.inl rfl) (pe_op op_mod (pe_op op_fdiv (pe_ix ix_list (pv 0) (pv 3) (fun _ _ => rfl)) pe_int) pe_int))
        (pss_cons (ps_if (pt_cmpR op_eq (pe_op op_mod (pe_ix ix_list (pv 0) (pv 3) (fun _ _ => rfl)) pe_int) pe_int (nomark _)) (pss_one (ps_set (i := 5) scDrn.nd rfl (Or.inl rfl) (pe_op op_mod (pe_op op_mul (pe_ix ix_list (pv 0) (pv 3) (fun _ _ => rfl)) pe_int) (pe_op op_add (pe_op op_pow pe_int pe_int) pe_int)))) pss_nil)
        (pss_cons (ps_if (PW.pt (pw_and (pt_cmpR op_eq (pe_op op_mod (pe_ix ix_list (pv 0) (pv 3) (fun _ _ => rfl)) pe_int) pe_int (nomark _)) (pw_and1 (PW.pt (pw_or (pt_cmpR op_eq (pe_op op_mod (pe_op op_fdiv (pe_d0 D_law_cell hr (by decide) (by rfl) (pa_cons (pv 0) (pa_cons pe_int pa_nil))) pe_int) pe_int) pe_int (nomark _)) (pw_or1 (pt_cmpR op_eq (pe_op op_and (pv 4) (pe_op op_sub (pv 4) pe_int)) pe_int (nomark _)))))))) (pss_one (ps_set (i := 5) scDrn.nd rfl (Or.inl rfl) (pe_op op_sub pe_int (pv 5)))) pss_nil)
        (pss_one (ps_asg (pe_op op_add (pe_ix ix_list (pv 2) (pv 4) (fun _ _ => rfl)) (pv 5)) (pg_sub (pv 2) (pv 4) set_list))))))))
      (pss_cons (ps_set (i := 6) scDrn.nd rfl (Or.inl rfl) (pe_lst pa_nil))
      (pss_cons (ps_for PassesOwn.never rfl (pi_range1 (by rfl) T.b_range (pa_cons (pe_callB call_len_seq (by rfl) T.b_len bt_len (pa_cons (pv 2) pa_nil)) pa_nil)) (pg_name (i := 7) scDrn.nd rfl (by first | exact Or.inl rfl | exact Or.inr rfl))
        (pss_one (ps_expr (pe_bm PySem.F.plainAttrs_list PySem.F.slot_list_append PySem.F.type_list_append mt_appendR (pv 6) (pa_cons (pe_callB (call_sum rfl) (by rfl) T.b_sum bt_sum (pa_cons (pe_comp (NB := ["_law_part", "_law_due", "_law_group"]) (pick := [none, some 2, some 7]) (blk_mk (by with_unfolding_all rfl) (by exact (And.intro rfl (And.intro rfl trivial))) rfl (by decide +kernel) (by decide +kernel) (by rfl) (by rfl)) rfl
          (pi_range1 (by rfl) T.b_range (pa_cons (pe_op op_add (pv 7) pe_int) pa_nil)) (fun _ _ _ => pg_name (i := 0) (show (["_law_part", "_law_due", "_law_group"] : List Str).Nodup from by decide +kernel) rfl (Or.inl rfl))
          (fun _ _ _ => pif_one (pt_cmpR op_eq (pe_op op_and (pv 0) (pv 2)) (pv 0) (nomark _))) (fun _ _ _ => (pe_ix (ix_listK K) (pv 1) (pv 0) (fun _ _ => rfl)))) pa_nil)) pa_nil)))))
      (pss_one (ps_ret (pv 6))))))), ?_⟩
    refine ⟨by show 1 ≤ sizeLine; decide, fun a1 ha1 => ?_⟩
    have u1 := Same.upd_new (o := .lst [.int 0]) ha1
    have x1 : upd H a1 (.lst [.int 0]) a1 = some (.lst [.int 0]) := upd_same
    generalize upd H a1 (.lst [.int 0]) = H1 at u1 x1 ⊢
    refine ⟨_, rfl, _, _, rfl, rfl, ⟨by omega, by omega, by decide⟩, ?_⟩
    try dsimp only
    rw [e2]
    refine ⟨a1, _, _, rfl, rfl, x1, by omega, by omega, ?_, fun D hD => ?_⟩
    · show 1 * ((n : Nat) : Int).toNat ≤ sizeLine
      exact Nat.le_of_lt (small1000 (by omega))
    rw [Int.toNat_natCast, rep_ints]
    have u2 := Same.upd_new (o := .lst (lsV n fun _ => 0)) hD
    have x2 : upd H1 D (.lst (lsV n fun _ => 0)) D = _ := upd_same
    generalize upd H1 D (.lst (lsV n fun _ => 0)) = H2 at u2 x2 ⊢
    have hD0 := u1.free hD
    have s2 := u1.trans u2
    refine ⟨_, rfl, a, _, rfl, .inl (SqL.of (s2 _ _ ha)), ?_⟩
    rw [List.length_map]
    refine ⟨4, (ns.length : Int), rfl, ⟨by omega, by omega, by omega, by omega⟩, ?_⟩
    refine for_range (n := ((ns.length : Int) - 4).toNat) (fun i σ H' => Same H H' ∧ ∃ (du : Nat → Int) (o3 o4 o5 : Option V), H' D = some (.lst (lsV n du)) ∧ du 0 = 0 ∧ (∀ j, Sm (64 + i) (du j)) ∧ σ = [some (.ref a), some (.int (m : Int)), some (.ref D), o3, o4, o5, none, none]) ⟨s2, fun _ => 0, _, _, _, x2, rfl, fun _ => Sm.zero, rfl⟩ (fun i σ H' hi ⟨s', du, o3, o4, o5, hd, t0, ht, eσ⟩ => ?_) (fun σ H' ⟨s', du, o3, o4, o5, hd, t0, ht, eσ⟩ => ?_)
    · subst eσ
      refine ⟨_, rfl, D, _, rfl, .inl (SqL.of hd), _, _, rfl, rfl, _, rfl, _, _, rfl, rfl, _, rfl, D, _, rfl, .inl (SqL.of hd), _, _, rfl, rfl, _, _, rfl, rfl, ?_⟩
      rw [lsV_len]
      refine ⟨(by show (0 : Int) < ((n : Nat) : Int) - 1; omega), _, _, rfl, rfl, ?_⟩
      have q0 := Int.emod_nonneg ((4 : Int) + (i : Int) - 4) (b := ((n : Nat) : Int) - 1) (by omega)
      have q1 := Int.emod_lt_of_pos ((4 : Int) + (i : Int) - 4) (b := ((n : Nat) : Int) - 1) (by omega)
      obtain ⟨g, eg⟩ : ∃ g : Nat, ((n : Nat) : Int) - 1 - ((4 : Int) + (i : Int) - 4) % (((n : Nat) : Int) - 1) = (g : Int) := ⟨_, (Int.toNat_of_nonneg (by omega)).symm⟩
      try dsimp only
      rw [eg]
      have hg1 : 1 ≤ g := by omega
      have hgn : g < n := by omega
      have hk : atI (ns.map V.int) ((4 : Int) + (i : Int)) = some (.int (ns.getD (4 + i) 0)) := by
        have z := at_of_lt (C := ns) (j := 4 + i) (by omega)
        rw [← z]
        congr 1
      generalize ns.getD (4 + i) 0 = c at hk
      have ha' := s' _ _ ha
      refine ⟨_, rfl, _, rfl, a, _, _, _, rfl, rfl, SqL.of ha', hk, _, _, rfl, rfl, ⟨by decide, by decide⟩, _, _, rfl, rfl, (by show (0 : Int) < 11; decide), ?_⟩
      have r0 := Int.emod_nonneg (c / 4) (b := 11) (by decide)
      have r1 := Int.emod_lt_of_pos (c / 4) (b := 11) (by decide)
      dsimp only [gName]
      refine seq_at (fun σ H'' => H'' = H' ∧ ∃ nb : Int, Sm 64 nb ∧ σ = [some (.ref a), some (.int (m : Int)), some (.ref D), some (.int ((4 : Int) + (i : Int))), some (.int (g : Int)), some (.int nb), none, none]) (fun kk => ?_) ?_
      · refine ⟨_, rfl, _, rfl, a, _, _, _, rfl, rfl, SqL.of ha', hk, _, _, rfl, rfl, (by show (0 : Int) < 4; decide), rfl, _, rfl, ite2 (fun _ => ?_) (fun _ => kk _ _ ⟨rfl, c / 4 % 11, Sm.of 64 (by omega) (by decide), rfl⟩)⟩
        refine ⟨_, rfl, _, rfl, a, _, _, _, rfl, rfl, SqL.of ha', hk, _, _, rfl, rfl, .inr ⟨by decide, by decide⟩, _, _, rfl, rfl, ⟨by decide, by decide, by decide⟩, _, _, rfl, rfl, _, _, rfl, rfl, (by show (0 : Int) < 10 ^ (18 : Int).toNat + 1; decide), kk _ _ ⟨rfl, c * 48271 % (10 ^ (18 : Int).toNat + 1), ?_, rfl⟩⟩
        have h0 := Int.emod_nonneg (c * 48271) (b := 10 ^ (18 : Int).toNat + 1) (by decide)
        have h1 := Int.emod_lt_of_pos (c * 48271) (b := 10 ^ (18 : Int).toNat + 1) (by decide)
        have h2 : (10 : Int) ^ (18 : Int).toNat + 1 = 1000000000000000001 := by decide
        rw [h2] at h0 h1 ⊢
        exact Sm.of 64 (by omega) (by decide)
      · rintro σ H'' ⟨rfl, nb, snb, rfl⟩
        refine seq_at (fun σ H''' => H''' = H'' ∧ ∃ nb : Int, Sm 64 nb ∧ σ = [some (.ref a), some (.int (m : Int)), some (.ref D), some (.int ((4 : Int) + (i : Int))), some (.int (g : Int)), some (.int nb), none, none]) (fun kk => ?_) ?_
        · have neg : Sm 64 (0 - nb) := snb.le (by omega)
          refine ⟨_, rfl, _, rfl, a, _, _, _, rfl, rfl, SqL.of ha', hk, _, _, rfl, rfl, (by show (0 : Int) < 4; decide), rfl, _, rfl, ite2 (fun _ => ?_) (fun _ => iteF (kk _ _ ⟨rfl, nb, snb, rfl⟩))⟩
          refine ⟨_, rfl, a, ns, 0, rfl, SqL.of ha', fun c0 => ⟨_, _, rfl, rfl, ⟨by decide, by decide⟩, _, _, rfl, rfl, (by show (0 : Int) < 2; decide), rfl, _, rfl, ite2 (fun _ => iteT ?_) (fun _ => ?_)⟩⟩
          · exact ⟨_, rfl, _, _, rfl, rfl, kk _ _ ⟨rfl, 0 - nb, neg, rfl⟩⟩
          · refine ⟨_, rfl, _, rfl, _, _, rfl, rfl, _, _, rfl, rfl, rfl, _, rfl, ite2 (fun _ => ?_) (fun _ => kk _ _ ⟨rfl, nb, snb, rfl⟩)⟩
            exact ⟨_, rfl, _, _, rfl, rfl, kk _ _ ⟨rfl, 0 - nb, neg, rfl⟩⟩
        · rintro σ H3 ⟨rfl, nb, snb, rfl⟩
          refine ⟨_, rfl, _, rfl, D, _, _, _, rfl, rfl, SqL.of hd, lsV_at hgn, _, rfl, _, _, rfl, rfl, _, rfl, _, rfl, D, _, _, g, rfl, rfl, hd, (by rw [lsV_len]; exact ixN_nat hgn), ?_⟩
          refine ⟨s'.upd_ne' hD0, _, _, _, _, by rw [upd_same, lsV_set], ?_, fun j => ?_, rfl⟩
          · show (if 0 = g then _ else du 0) = 0
            rw [if_neg (by omega)]
            exact t0
          · show Sm (64 + (i + 1)) (if j = g then du g + nb else du j)
            split
            · exact (ht g).add (snb.mono (by omega))
            · exact (ht j).mono (by omega)
    · subst eσ
      have ht3 : ∀ j, Sm 300 (du j) := fun j => (ht j).mono (by omega)
      refine ⟨by show 0 ≤ sizeLine; decide, fun DT hDT => ?_⟩
      have u4 := Same.upd_new (o := .lst []) hDT
      have x4 : upd H' DT (.lst []) DT = some (.lst (lsV 0 fun g => (tvL du g).sum)) := upd_same
      generalize upd H' DT (.lst []) = H4 at u4 x4 ⊢
      have hDT0 := s'.free hDT
      have s4 := s'.trans u4
      have hd4 := u4 _ _ hd
      refine ⟨_, rfl, D, _, rfl, .inl (SqL.of hd4), ?_⟩
      rw [lsV_len]
      refine ⟨n, rfl, by omega, by omega, ?_⟩
      have nDD : D ≠ DT := ne_of_none hd hDT
      refine for_range (n := n) (fun j σ H5 => Same H H5 ∧ H5 D = some (.lst (lsV n du)) ∧ H5 DT = some (.lst (lsV j fun g => (tvL du g).sum)) ∧ ∃ o : Option V, σ = [some (.ref a), some (.int (m : Int)), some (.ref D), o3, o4, o5, some (.ref DT), o]) ⟨s4, hd4, x4, _, rfl⟩ (fun g σ H5 hg ⟨s5, hd5, ht5, o, eσ⟩ => ?_) (fun σ H5 ⟨s5, hd5, ht5, o, eσ⟩ => ?_)
      · subst eσ
        have e0g : (0 : Int) + (g : Int) = (g : Int) := Int.zero_add _
        refine ⟨_, rfl, .inl ⟨rfl, _, SqL.of ht5⟩, _, rfl, _, _, rfl, rfl, ?_⟩
        try dsimp only
        rw [show (0 : Int) + (g : Int) + 1 = ((g + 1 : Nat) : Int) by omega]
        refine ⟨((g + 1 : Nat) : Int), rfl, by omega, by omega, ?_⟩
        refine comp_rng (n := g + 1) (fun p => if Builtin.bitAnd (p : Int) (g : Int) = (p : Int) then some (V.int (du p)) else none) (Nat.le_of_lt (small1000 (by omega))) (fun p H6 kk kk0 s6 hp h1 h2 => ?_) fun Ds H6 hDs s6 hds => ?_
        · rw [Int.zero_add (p : Int), e0g]
          refine ⟨_, rfl, _, rfl, _, _, rfl, rfl, _, rfl, rfl, _, rfl, ite2 (fun h3 => ?_) (fun h3 => h2 (if_neg fun z => h3 (decide_eq_true (congrArg V.int z))) _ (.refl _))⟩
          exact ⟨_, rfl, _, rfl, D, _, _, _, rfl, rfl, SqL.of (s6 _ _ hd5), lsV_at (by omega), h1 _ (if_pos (V.int.inj (of_decide_eq_true h3))) _ (.refl _)⟩
        · rw [tvL_fm] at hds
          have ht6 := s6 _ _ ht5
          refine ⟨Ds, _, rfl, .inl (SqL.of hds), DT, _, _, rfl, rfl, ht6, by rw [lsV_len]; exact small1000 (by omega), (s5.trans s6).upd_ne' hDT0, ?_, ?_, _, rfl⟩
          · rw [upd_ne nDD]
            exact s6 _ _ hd5
          · rw [upd_same]
            have e : lsV g (fun g => (tvL du g).sum) ++ [V.int (tvL du g).sum] = lsV (g + 1) fun g => (tvL du g).sum := by
              unfold lsV
              rw [List.range_succ, List.map_append]
              rfl
            rw [e]
      · subst eσ
        exact ⟨_, rfl, k DT H5 _ hDT0 s5 ht5 (tvL_0 t0) fun j hj => tvL_Sm ht3 (by omega)⟩
theorem two_all : ∀ (g : _root_.Fin 32) (a b : _root_.Fin 5), b.1 < a.1 → Builtin.bitOr ((2 ^ a.1 : Nat) : Int) ((2 ^ b.1 : Nat) : Int) = ((2 ^ a.1 + 2 ^ b.1 : Nat) : Int) ∧ (Builtin.bitAnd ((g.1 : Nat) : Int) ((2 ^ a.1 + 2 ^ b.1 : Nat) : Int) = 0 ↔ (g.1 / 2 ^ a.1 % 2 = 0 ∧ g.1 / 2 ^ b.1 % 2 = 0)) := by decide +kernel
theorem or_all : ∀ (g : _root_.Fin 32) (a b : _root_.Fin 5), b.1 < a.1 → g.1 / 2 ^ a.1 % 2 = 0 → g.1 / 2 ^ b.1 % 2 = 0 → Builtin.bitOr ((g.1 : Nat) : Int) ((2 ^ a.1 : Nat) : Int) = ((g.1 + 2 ^ a.1 : Nat) : Int) ∧ Builtin.bitOr ((g.1 : Nat) : Int) ((2 ^ b.1 : Nat) : Int) = ((g.1 + 2 ^ b.1 : Nat) : Int) ∧ Builtin.bitOr ((g.1 : Nat) : Int) ((2 ^ a.1 + 2 ^ b.1 : Nat) : Int) = ((g.1 + 2 ^ a.1 + 2 ^ b.1 : Nat) : Int) ∧ ((g.1 + 2 ^ a.1) ||| (g.1 + 2 ^ b.1)) = g.1 + 2 ^ a.1 + 2 ^ b.1 ∧ ((g.1 + 2 ^ a.1) &&& (g.1 + 2 ^ b.1)) = g.1 := by decide +kernel
theorem sh_eq (h : Nat) : (1 : Int) * 2 ^ ((h : Nat) : Int).toNat = ((2 ^ h : Nat) : Int) := by rw [Int.toNat_natCast, Int.one_mul]; push_cast; rfl
def Lc (m : Nat) (v : Nat → Int) (g a b : Nat) : Prop := g / 2 ^ a % 2 = 0 → g / 2 ^ b % 2 = 0 → v (g + 2 ^ a) + v (g + 2 ^ b) ≤ v g + v (g + 2 ^ a + 2 ^ b)
theorem loc_of {m : Nat} {v : Nat → Int} (h : ∀ g, g < 2 ^ m → ∀ a, a < m → ∀ b, b < a → Lc m v g a b) : Loc m v := by
  intro g a b hg ha hb ne e1 e2
  rcases Nat.lt_trichotomy b a with z | z | z
  · exact h g hg a ha b z e1 e2
  · exact absurd z.symm ne
  · have q := h g hg b hb a z e2 e1
    rw [show g + 2 ^ b + 2 ^ a = g + 2 ^ a + 2 ^ b by omega] at q
    omega
def spLSw (K : PySem.W.Frag) : Sp := fun vs H Q _ => ∃ (p : Addr) (m : Nat) (tb : Nat → Int), vs = [.ref p, .int (m : Int)] ∧ H p = some (.lst (lsV (2 ^ m) tb)) ∧ m ≤ 5 ∧ (Loc m tb → Q (.bl true) H) ∧ ((∃ x y, x < 2 ^ m ∧ y < x ∧ tb (x ||| y) + tb (x &&& y) < tb x + tb y) → Q (.bl false) H)
theorem scLSw : FnScope ["_law_table", "_law_many", "_law_group", "_law_one", "_law_other", "_law_both", "_law_apart"] ["_law_table", "_law_many"] (defScope sLSw) := ⟨rfl, rfl, rfl, by decide +kernel, rfl, by decide +kernel, by decide +kernel⟩
theorem ok_lsw (t : Tx K mg "_law_swells" sLSw ["_law_table", "_law_many"] f fd) (T : T K mg AL LN FR iF fCh fGM fCC fCA fPL SE NN NG NT NO NR NS) : Df P w K mg base CX0 1 "_law_swells" ["_law_table", "_law_many"] (spLSw K) f fd := by
  refine t.df0 scLSw (fun vs H Q E h => ?_) (fun cdv A outer s H vs Q E hr h => ?_)
  · obtain ⟨p, m, tb, rfl, _⟩ := h
    rfl
  · obtain ⟨p, m, tb, rfl, hp, m5, k1, k0⟩ := h
    have h32 := p32 m5
    refine ⟨_, (pss_cons (ps_for PassesOwn.never rfl (pi_range1 (by rfl) T.b_range (pa_cons (pe_callB call_len_seq (by rfl) T.b_len bt_len (pa_cons (pv 0) pa_nil)) pa_nil)) (pg_name (i := 2) scLSw.nd rfl (Or.inl rfl))
        (pss_one (ps_for PassesOwn.never rfl (pi_range1 (by rfl) T.b_range (pa_cons (pv 1) pa_nil)) (pg_name (i := 3) scLSw.nd rfl (Or.inl rfl))
          (pss_one (ps_for PassesOwn.never rfl (pi_range1 (by rfl) T.b_range (pa_cons (pv 3) pa_nil)) (pg_name (i := 4) scLSw.nd rfl (Or.inl rfl))
            (pss_cons (ps_set (i := 5) scLSw.nd rfl (Or.inl rfl) (pe_op op_or (pe_op op_shl pe_int (pv 3)) (pe_op op_shl pe_int (pv 4))))
            (pss_one (ps_if (pt_cmpR op_eq (pe_op op_and (pv 2) (pv 5)) pe_int (nomark _)) (pss_cons (ps_set (i := 6) scLSw.nd rfl (Or.inl rfl) (pe_op op_add (pe_ix ix_list (pv 0) (pe_op op_or (pv 2) (pe_op op_shl pe_int (pv 3))) (fun _ _ => rfl)) (pe_ix ix_list (pv 0) (pe_op op_or (pv 2) (pe_op op_shl pe_int (pv 4))) (fun _ _ => rfl))))
              (pss_one (ps_if (pt_cmpR op_gt (pv 6) (pe_op op_add (pe_ix ix_list (pv 0) (pv 2) (fun _ _ => rfl)) (pe_ix ix_list (pv 0) (pe_op op_or (pv 2) (pv 5)) (fun _ _ => rfl))) (nomark _)) (pss_one (ps_ret pe_bl)) pss_nil))) pss_nil))))))))
      (pss_one (ps_ret pe_bl))), ?_⟩
    refine ⟨_, rfl, p, _, rfl, .inl (SqL.of hp), ?_⟩
    rw [lsV_len]
    have b12 : (-(2 ^ 62 : Int) ≤ ((2 ^ m : Nat) : Int)) ∧ ((2 ^ m : Nat) : Int) < 2 ^ 62 := by
      generalize 2 ^ m = n at h32
      exact ⟨by omega, by omega⟩
    refine ⟨((2 ^ m : Nat) : Int), rfl, b12.1, b12.2, ?_⟩
    refine for_range (n := 2 ^ m) (fun g σ H' => H' = H ∧ (∀ g', g' < g → ∀ a, a < m → ∀ b, b < a → Lc m tb g' a b) ∧ ∃ o2 o3 o4 o5 o6 : Option V, σ = [some (.ref p), some (.int (m : Int)), o2, o3, o4, o5, o6]) ⟨rfl, fun g' hg' => by omega, _, _, _, _, _, rfl⟩ (fun g σ H' hg ⟨eH, iv, o2, o3, o4, o5, o6, eσ⟩ => ?_) (fun σ H' ⟨eH, iv, o2, o3, o4, o5, o6, eσ⟩ => ?_)
    · subst eH eσ
      refine ⟨_, rfl, m, rfl, by omega, by omega, ?_⟩
      refine for_range (n := m) (fun a σ H9 => H9 = H' ∧ (∀ a', a' < a → ∀ b, b < a' → Lc m tb g a' b) ∧ ∃ o3 o4 o5 o6 : Option V, σ = [some (.ref p), some (.int (m : Int)), some (.int ((0 : Int) + (g : Int))), o3, o4, o5, o6]) ⟨rfl, fun a' ha' => by omega, _, _, _, _, rfl⟩ (fun a σ H2 ha ⟨eH, iva, o3, o4, o5, o6, eσ⟩ => ?_) (fun σ H2 ⟨eH, iva, o3, o4, o5, o6, eσ⟩ => ?_)
      · subst eH eσ
        refine ⟨_, rfl, ((0 : Int) + (a : Int)), rfl, by omega, by omega, ?_⟩
        rw [show ((0 : Int) + (a : Int)).toNat = a by omega]
        refine for_range (n := a) (fun b σ H' => H' = H2 ∧ (∀ b', b' < b → Lc m tb g a b') ∧ ∃ o4 o5 o6 : Option V, σ = [some (.ref p), some (.int (m : Int)), some (.int ((0 : Int) + (g : Int))), some (.int ((0 : Int) + (a : Int))), o4, o5, o6]) ⟨rfl, fun b' hb' => by omega, _, _, _, rfl⟩ (fun b σ H3 hb ⟨eH, ivb, o4, o5, o6, eσ⟩ => ?_) (fun σ H3 ⟨eH, ivb, o4, o5, o6, eσ⟩ => ?_)
        · subst eH eσ
          have e0g : (0 : Int) + (g : Int) = (g : Int) := Int.zero_add _
          have e0a : (0 : Int) + (a : Int) = (a : Int) := Int.zero_add _
          have e0b : (0 : Int) + (b : Int) = (b : Int) := Int.zero_add _
          rw [e0g, e0a, e0b]
          obtain ⟨t1, t2⟩ := two_all ⟨g, by omega⟩ ⟨a, by omega⟩ ⟨b, by omega⟩ hb
          dsimp only at t1 t2
          refine ⟨_, rfl, _, _, rfl, rfl, ⟨by omega, by omega, by decide⟩, _, rfl, _, _, rfl, rfl, ⟨by omega, by omega, by decide⟩, _, _, rfl, rfl, ?_⟩
          try dsimp only
          rw [sh_eq, sh_eq, t1]
          refine ⟨_, rfl, _, rfl, _, _, rfl, rfl, rfl, _, rfl, ite2 (fun h3 => ?_) (fun h3 => ?_)⟩
          · have z := V.int.inj (of_decide_eq_true h3)
            obtain ⟨za, zb⟩ := t2.mp z
            obtain ⟨o1, o2, o3', o7, o8⟩ := or_all ⟨g, by omega⟩ ⟨a, by omega⟩ ⟨b, by omega⟩ hb za zb
            dsimp only at o1 o2 o3' o7 o8
            have la := bit_lt ⟨m, by omega⟩ ⟨g, by omega⟩ ⟨a, by omega⟩ hg ha za
            have lb := bit_lt ⟨m, by omega⟩ ⟨g, by omega⟩ ⟨b, by omega⟩ hg (by show b < m; omega) zb
            have st := bit_stay ⟨g, by omega⟩ ⟨a, by omega⟩ ⟨b, by omega⟩ za zb (by show a ≠ b; omega)
            dsimp only at la lb st
            have lab := bit_lt ⟨m, by omega⟩ ⟨g + 2 ^ a, by omega⟩ ⟨b, by omega⟩ la (by show b < m; omega) st
            dsimp only at lab
            refine ⟨_, rfl, _, rfl, _, rfl, _, _, rfl, rfl, ⟨by omega, by omega, by decide⟩, _, _, rfl, rfl, ?_⟩
            try dsimp only
            rw [sh_eq, o1]
            refine ⟨p, _, _, _, rfl, rfl, SqL.of hp, lsV_at la, _, rfl, _, rfl, _, rfl, _, _, rfl, rfl, ⟨by omega, by omega, by decide⟩, _, _, rfl, rfl, ?_⟩
            try dsimp only
            rw [sh_eq, o2]
            refine ⟨p, _, _, _, rfl, rfl, SqL.of hp, lsV_at lb, _, _, rfl, rfl, ?_⟩
            refine ⟨_, rfl, _, rfl, _, rfl, p, _, _, _, rfl, rfl, SqL.of hp, lsV_at hg, _, rfl, _, rfl, _, rfl, _, _, rfl, rfl, ?_⟩
            try dsimp only
            rw [o3']
            refine ⟨p, _, _, _, rfl, rfl, SqL.of hp, lsV_at lab, _, _, rfl, rfl, _, _, rfl, rfl, _, rfl, ite2 (fun h4 => ?_) (fun h4 => ?_)⟩
            · have h4 : tb (g + 2 ^ a) + tb (g + 2 ^ b) > tb g + tb (g + 2 ^ a + 2 ^ b) := of_decide_eq_true h4
              have pab : 2 ^ b < 2 ^ a := Nat.pow_lt_pow_right (by decide) hb
              refine k0 ⟨g + 2 ^ a, g + 2 ^ b, la, by omega, ?_⟩
              rw [o7, o8]
              omega
            · refine ⟨rfl, fun b' hb' => ?_, _, _, _, rfl⟩
              rcases Nat.lt_or_ge b' b with y | y
              · exact ivb b' y
              · obtain rfl : b' = b := by omega
                intro _ _
                refine Classical.byContradiction fun no => h4 (decide_eq_true ?_)
                show tb (g + 2 ^ a) + tb (g + 2 ^ b') > tb g + tb (g + 2 ^ a + 2 ^ b')
                omega
          · refine ⟨rfl, fun b' hb' => ?_, _, _, _, rfl⟩
            rcases Nat.lt_or_ge b' b with y | y
            · exact ivb b' y
            · obtain rfl : b' = b := by omega
              intro y1 y2
              exact absurd (decide_eq_true (congrArg V.int (t2.mpr ⟨y1, y2⟩))) h3
        · subst eH eσ
          refine ⟨rfl, fun a' ha' b hb => ?_, _, _, _, _, rfl⟩
          rcases Nat.lt_or_ge a' a with y | y
          · exact iva a' y b hb
          · obtain rfl : a' = a := by omega
            exact ivb b hb
      · subst eH eσ
        refine ⟨rfl, fun g' hg' a ha b hb => ?_, _, _, _, _, _, rfl⟩
        rcases Nat.lt_or_ge g' g with y | y
        · exact iv g' y a ha b hb
        · obtain rfl : g' = g := by omega
          exact iva a ha b hb
    · subst eH eσ
      exact k1 (loc_of iv)
def spOro : Sp := fun vs H Q _ => ∃ (c : Int) (m : Nat), vs = [.int c, .int (m : Int)] ∧ m ≤ 6 ∧ ∀ (l : Addr) (o : List Nat) H', H l = none → Same H H' → o.Perm (List.range m) → H' l = some (.lst ((natI o).map V.int)) → Q (.ref l) H'
theorem er_perm {α : Type} : ∀ {r : List α} {k : Nat} {y : α}, r[k]? = some y → (y :: r.eraseIdx k).Perm r
  | [], _, _, h => by cases h
  | x :: r, 0, y, h => by
    obtain rfl : x = y := Option.some.inj h
    exact List.Perm.refl _
  | x :: r, k + 1, y, h => by
    have z := er_perm (r := r) (k := k) (y := y) h
    exact (List.Perm.swap x y _).trans (z.cons x)
theorem er_map (r : List Nat) (k : Nat) : ((natI r).map V.int).eraseIdx k = (natI (r.eraseIdx k)).map V.int := by
  unfold natI
  rw [List.map_map, List.map_map]
  induction r generalizing k with
  | nil => rfl
  | cons x r ih =>
    cases k with
    | zero => rfl
    | succ k =>
      show _ :: ((r.map _).eraseIdx k) = _
      rw [ih]
      rfl
theorem scOro : FnScope ["_law_cell_here", "_law_many", "_law_left", "_law_order_here", "_law_k"] ["_law_cell_here", "_law_many"] (defScope sOro) := ⟨rfl, rfl, rfl, by decide +kernel, rfl, by decide +kernel, by decide +kernel⟩
theorem ok_oro (t : Tx K mg "_law_order" sOro ["_law_cell_here", "_law_many"] f fd) (T : T K mg AL LN FR iF fCh fGM fCC fCA fPL SE NN NG NT NO NR NS) : Df P w K mg base CX0 1 "_law_order" ["_law_cell_here", "_law_many"] spOro f fd := by
  refine t.df0 scOro (fun vs H Q E h => ?_) (fun cdv A outer s H vs Q E hr h => ?_)
  · obtain ⟨c, m, rfl, _⟩ := h
    rfl
  · obtain ⟨c, m, rfl, m6, k⟩ := h
    refine ⟨_, (pss_cons (ps_set (i := 2) scOro.nd rfl (Or.inl rfl) (pe_listRange (by rfl) T.b_list (by rfl) T.b_range rfl (pa_cons (pv 1) pa_nil)))
      (pss_cons (ps_set (i := 3) scOro.nd rfl (Or.inl rfl) (pe_lst pa_nil))
      (pss_cons (ps_for PassesOwn.never rfl (pi_range1 (by rfl) T.b_range (pa_cons (pv 1) pa_nil)) (pg_name (i := 4) scOro.nd rfl (Or.inl rfl))
        (pss_cons (ps_expr (pe_bm PySem.F.plainAttrs_list PySem.F.slot_list_append PySem.F.type_list_append mt_appendR (pv 3) (pa_cons (pe_bm PySem.F.plainAttrs_list PySem.F.slot_list_pop PySem.F.type_list_pop mt_popAtR (pv 2) (pa_cons (pe_op op_mod (pv 0) (pe_callB call_len_seq (by rfl) T.b_len bt_len (pa_cons (pv 2) pa_nil))) pa_nil)) pa_nil)))
        (pss_one (ps_set (i := 0) scOro.nd rfl (Or.inl rfl) (pe_op op_fdiv (pv 0) pe_int)))))
      (pss_one (ps_ret (pv 3)))))), ?_⟩
    refine ⟨_, rfl, m, rfl, by omega, fun lr hlr => ?_⟩
    have er : rangeV m = (natI (List.range m)).map V.int := by unfold rangeV natI; rw [List.map_map]; rfl
    rw [er]
    have u1 := Same.upd_new (o := .lst ((natI (List.range m)).map V.int)) hlr
    refine ⟨by show 0 ≤ sizeLine; decide, fun lo hlo => ?_⟩
    have u2 := Same.upd_new (o := .lst []) hlo
    have nro : lr ≠ lo := ne_of_none upd_same hlo
    have hloH := u1.free hlo
    refine ⟨_, rfl, (m : Int), rfl, by omega, by omega, ?_⟩
    refine for_range (n := m) (fun i σ' H' => ∃ (r o : List Nat) (v : Int) (o4 : Option V), Same H H' ∧ H' lr = some (.lst ((natI r).map V.int)) ∧ H' lo = some (.lst ((natI o).map V.int)) ∧ (o ++ r).Perm (List.range m) ∧ i + r.length = m ∧ o.length = i ∧ σ' = [some (.int v), some (.int (m : Int)), some (.ref lr), some (.ref lo), o4]) ⟨List.range m, [], c, _, u1.trans u2, u2 _ _ upd_same, upd_same, List.Perm.refl _, by rw [List.length_range]; omega, rfl, rfl⟩ ?_ ?_
    · rintro i σ' H5 hi ⟨r, o, v, o4, s5, hr5, ho5, pm, hrl, hol, rfl⟩
      have elr : (((natI r).map V.int).length : Int) = (r.length : Int) := by rw [List.length_map]; unfold natI; rw [List.length_map]
      refine ⟨_, rfl, .inl ⟨rfl, _, SqL.of ho5⟩, _, rfl, .inl ⟨rfl, _, SqL.of hr5⟩, _, rfl, _, rfl, lr, _, rfl, .inl (SqL.of hr5), ?_⟩
      rw [elr]
      have hrp : (0 : Int) < (r.length : Int) := by omega
      have i0 := Int.emod_nonneg v (b := (r.length : Int)) (by omega)
      have i1 := Int.emod_lt_of_pos v hrp
      obtain ⟨j, hj⟩ : ∃ j : Nat, v % (r.length : Int) = (j : Int) := ⟨(v % (r.length : Int)).toNat, by omega⟩
      have hjr : j < r.length := by omega
      refine ⟨_, _, rfl, rfl, hrp, lr, _, _, j, .int ((r[j] : Nat) : Int), rfl, rfl, hr5, by show -(2 ^ 63) ≤ v % (r.length : Int); omega, by show v % (r.length : Int) < 2 ^ 63; omega, ?_, ?_, ?_⟩
      · show seqIndex? (v % (r.length : Int)) _ = _
        rw [hj]
        refine PySem.StrLaws.seqIndex_nonneg (by omega) ?_
        rw [elr]
        omega
      · unfold natI
        rw [List.map_map, List.getElem?_map, List.getElem?_eq_getElem hjr]
        rfl
      · rw [er_map]
        refine ⟨lo, _, _, rfl, rfl, (by rw [upd_ne nro.symm]; exact ho5), by rw [List.length_map]; unfold natI; rw [List.length_map]; exact small1000 (by omega), ?_⟩
        refine ⟨_, rfl, _, _, rfl, rfl, ⟨by decide, by decide⟩, r.eraseIdx j, o ++ [r[j]], _, _, ?_, ?_, ?_, ?_, ?_, ?_, rfl⟩
        · exact (s5.upd_ne' hlr).upd_ne' hloH
        · rw [upd_ne nro]
          exact upd_same
        · rw [upd_same]
          unfold natI
          rw [List.map_append, List.map_append]
          rfl
        · rw [List.append_assoc]
          exact (List.Perm.append_left o (er_perm (List.getElem?_eq_getElem hjr))).trans pm
        · rw [List.length_eraseIdx, if_pos hjr]
          omega
        · rw [List.length_append, hol]
          rfl
    · rintro σ' H5 ⟨r, o, v, o4, s5, hr5, ho5, pm, hrl, hol, rfl⟩
      have e : r = [] := List.eq_nil_of_length_eq_zero (by omega)
      subst e
      rw [List.append_nil] at pm
      exact ⟨_, rfl, k lo o H5 hloH s5 pm ho5⟩
structure Core (m n : Nat) (tb : Nat → Int) (d : Int) (Y : Nat → Int) : Prop where
  d0 : 0 < d
  ds : Sm 3000 d
  sY : ∀ j, Sm 300000 (Y j)
  no : ∀ g, g < n → tb g * d ≤ Wg.sm m fun i => bt g i * Y i
  all : Wg.sm m Y = tb (n - 1) * d
theorem le_scale {d L t S c : Int} (d0 : 0 < d) (L0 : 0 < L) (e : t * d = S * L) (h : c * d ≤ S) : c * L ≤ t := by
  have z : c * d * L ≤ S * L := Int.mul_le_mul_of_nonneg_right h (by omega)
  rw [← e, show c * d * L = c * L * d by grind] at z
  exact Int.le_of_mul_le_mul_right z d0
def spLSt (K : PySem.W.Frag) : Sp := fun vs H Q _ => ∃ (p q : Addr) (m n : Nat) (tb Y : Nat → Int) (d : Int) (ws : List Addr), vs = [.ref p, .ref q] ∧ H p = some (.lst (lsV n tb)) ∧ FrL m Y d H q ws ∧ 1 ≤ m ∧ m ≤ 6 ∧ n = 2 ^ m ∧ tb 0 = 0 ∧ (∀ j, Sm 90000 (tb j)) ∧ Core m n tb d Y ∧ ∀ H', Same H H' → Q (.bl true) H'
theorem scLSt : FnScope ["_law_table", "_law_shares", "_law_low_here", "_law_tops_here", "_law_group"] ["_law_table", "_law_shares"] (defScope sLSt) := ⟨rfl, rfl, rfl, by decide +kernel, rfl, by decide +kernel, by decide +kernel⟩
theorem ok_lst {f1 f2 f3 f4 f5 : Addr} {fd1 fd2 fd3 fd4 fd5 : FuncData} (t : Tx K mg "_law_stable" sLSt ["_law_table", "_law_shares"] f fd) (T : T K mg AL LN FR iF fCh fGM fCC fCA fPL SE NN NG NT NO NR NS) (D_law_fractions : Df P w K mg base CX0 3 "_law_fractions" ["_law_found", "_law_many"] spLFs f1 fd1) (D_law_low : Df P w K mg base CX0 2 "_law_low" ["_law_numbers"] spLow f2 fd2) (D_law_tops : Df P w K mg base CX0 1 "_law_tops" ["_law_numbers", "_law_low_here"] spTop f3 fd3)
    (D_law_share : Df P w K mg base CX0 1 "_law_share" ["_law_tops_here", "_law_group"] (spShr K) f4 fd4) (D_bettering : Df P w K mg base (CX1 P w) 6 "bettering" ["table", "shares"] (spBet K) f5 fd5) :
    Df P w K mg base CX0 7 "_law_stable" ["_law_table", "_law_shares"] (spLSt K) f fd := by
  refine t.df0 scLSt (fun vs H Q E h => ?_) (fun cdv A outer s H vs Q E hr h => ?_)
  · obtain ⟨p, q, m, n, tb', Y, d, ws, rfl, _⟩ := h
    rfl
  · obtain ⟨p, q, m, n, tb', Y, d, ws, rfl, hp, fl, m1, m6, hn, t0, stb, co, k⟩ := h
    have n64 : n ≤ 64 := by rw [hn]; exact pow6 m6
    have n2 : 2 ≤ n := by rw [hn]; exact Nat.pow_le_pow_right (n := 2) (i := 1) (by decide) m1
    have tlast : atI (lsV n tb') (-1) = some (.int (tb' (n - 1))) := by
      have z := lsV_last (n - 1) tb'
      rw [show n - 1 + 1 = n by omega] at z
      exact z
    have d0 := co.d0
    have sd : Sm 6000 d := co.ds.mono (by decide)
    refine ⟨_, (pss_cons (ps_if (pt_not (pt_val (pe_d0 D_law_fractions hr (by decide) (by rfl) (pa_cons (pv 1) (pa_cons (pe_callB call_len_seq (by rfl) T.b_len bt_len (pa_cons (pv 1) pa_nil)) pa_nil))))) (pss_one (ps_ret pe_bl)) pss_nil)
      (pss_cons (ps_set (i := 2) scLSt.nd rfl (Or.inl rfl) (pe_d0 D_law_low hr (by decide) (by rfl) (pa_cons (pv 1) pa_nil)))
      (pss_cons (ps_set (i := 3) scLSt.nd rfl (Or.inl rfl) (pe_d0 D_law_tops hr (by decide) (by rfl) (pa_cons (pv 1) (pa_cons (pv 2) pa_nil))))
      (pss_cons (ps_for PassesOwn.never rfl (pi_range1 (by rfl) T.b_range (pa_cons (pe_callB call_len_seq (by rfl) T.b_len bt_len (pa_cons (pv 0) pa_nil)) pa_nil)) (pg_name (i := 4) scLSt.nd rfl (Or.inl rfl))
        (pss_one (ps_if (pt_cmpR op_lt (pe_d0 D_law_share hr (by decide) (by rfl) (pa_cons (pv 3) (pa_cons (pv 4) pa_nil))) (pe_op op_mulB (pe_ix ix_list (pv 0) (pv 4) (fun _ _ => rfl)) (pv 2)) (nomark _)) (pss_one (ps_ret pe_bl)) pss_nil)))
      (pss_one (ps_ret (pe_and (pe_cmpR op_eq (pe_callB (call_sum rfl) (by rfl) T.b_sum bt_sum (pa_cons (pv 3) pa_nil)) (pe_op op_mulB (pe_ix ix_list (pv 0) (pe_un un_neg pe_int) (fun _ _ => rfl)) (pv 2)) (nomark _)) (pe_one (pe_cmpR (op_eqL hr.units) (pe_d1 pass_no D_bettering hr (by decide) (by rfl) (pa_cons (pe_callTy call_list_of (by rfl) T.b_list bt_list (pa_cons (pv 0) pa_nil)) (pa_cons (pe_callTy call_list_of (by rfl) T.b_list bt_list (pa_cons (pv 1) pa_nil)) pa_nil))) (pe_lst pa_nil) (nomark _)))))))))), ?_⟩
    refine ⟨_, rfl, _, rfl, q, _, rfl, .inl (SqL.of fl.hr), q, m, Y, d, ws, by rw [List.length_map, fl.len]; rfl, fl, d0, _, rfl, iteF ?_⟩
    refine ⟨_, rfl, q, m, Y, d, ws, rfl, fl, d0, sd, fun L lo => ?_⟩
    have sL : Sm 6000 L := sd.le (by have := Int.le_of_dvd d0 lo.dvd; have := lo.pos; omega)
    refine ⟨_, rfl, _, rfl, q, m, Y, d, L, ws, rfl, fl, by omega, d0, sd, co.sY, lo, fun D H1 tt hD s1 hd et st => ?_⟩
    refine ⟨_, rfl, p, _, rfl, .inl (SqL.of (s1 _ _ hp)), ?_⟩
    rw [lsV_len]
    refine ⟨(n : Int), rfl, by omega, by omega, ?_⟩
    refine for_range (n := n) (fun i σ H2 => Same H1 H2 ∧ ∃ o : Option V, σ = [some (.ref p), some (.ref q), some (.int L), some (.ref D), o]) ⟨.refl _, _, rfl⟩ (fun i σ H2 hi ⟨s2, o, eσ⟩ => ?_) (fun σ H2 ⟨s2, o, eσ⟩ => ?_)
    · subst eσ
      have e0i : (0 : Int) + (i : Int) = (i : Int) := Int.zero_add _
      refine ⟨_, rfl, _, rfl, D, m, i, tt, by rw [e0i]; rfl, s2 _ _ hd, by omega, fun H3 s3 => ?_⟩
      refine ⟨_, rfl, _, rfl, p, _, _, _, rfl, rfl, SqL.of (s3 _ _ (s2 _ _ (s1 _ _ hp))), (by rw [e0i]; exact lsV_at hi), _, rfl, _, _, rfl, rfl, (stb _).mb sL, _, _, rfl, rfl, _, rfl, ite2 (fun z => ?_) (fun _ => ⟨s2.trans s3, _, rfl⟩)⟩
      exfalso
      have z : (Wg.sm m fun h => bt i h * tt h) < tb' i * L := of_decide_eq_true z
      have y := le_scale d0 lo.pos (sm_scale (a := bt i) et) (co.no i hi)
      omega
    · subst eσ
      have hd2 := s2 _ _ hd
      have hd2' := hd2
      rw [lsV_map] at hd2'
      refine ⟨_, rfl, D, _, rfl, .inl (SqL.of hd2'), _, rfl, _, rfl, p, _, _, _, rfl, rfl, SqL.of (s2 _ _ (s1 _ _ hp)), tlast, _, rfl, _, _, rfl, rfl, (stb _).mb sL, rfl, ?_⟩
      rw [sum_range]
      have e : Wg.sm m tt = tb' (n - 1) * L := by
        have z := sm_scale (a := fun _ => 1) et
        have o1 : ∀ f : Nat → Int, (Wg.sm m fun i => 1 * f i) = Wg.sm m f := fun f => Wg.sm_ext fun i _ => Int.one_mul _
        try dsimp only at z
        rw [o1, o1, co.all] at z
        refine Int.eq_of_mul_eq_mul_right (a := d) (by omega) ?_
        rw [z]
        grind
      rw [e]
      refine ⟨_, rfl, ?_⟩
      show if decide (V.int (tb' (n - 1) * L) = V.int (tb' (n - 1) * L)) = true then _ else _
      rw [decide_eq_true rfl]
      have s12 := s1.trans s2
      refine iteT ⟨_, rfl, p, _, rfl, .inl (SqL.of (s12 _ _ hp)), fun p1 hp1 => ?_⟩
      have u3 := Same.upd_new (o := .lst (lsV n tb')) hp1
      have x3 : upd H2 p1 (.lst (lsV n tb')) p1 = _ := upd_same
      generalize upd H2 p1 (.lst (lsV n tb')) = H3 at u3 x3 ⊢
      refine ⟨_, rfl, q, _, rfl, .inl (SqL.of (u3 _ _ (s12 _ _ fl.hr))), fun q1 hq1 => ?_⟩
      have u4 := Same.upd_new (o := .lst (ws.map V.ref)) hq1
      have x4 : upd H3 q1 (.lst (ws.map V.ref)) q1 = _ := upd_same
      generalize upd H3 q1 (.lst (ws.map V.ref)) = H4 at u4 x4 ⊢
      have s4 := s12.trans (u3.trans u4)
      refine ⟨p1, q1, m, n, tb', Y, d, ws, rfl, u4 _ _ x3, m1, m6, hn, t0, stb, ⟨x4, fl.len, fun j w ej => s4 _ _ (fl.at_ j w ej)⟩, d0, co.ds, fun j => (co.sY j).mono (by decide), co.no, fun Db H5 hDb s5 hdb => ?_⟩
      refine ⟨by show 0 ≤ sizeLine; decide, fun De hDe => ?_⟩
      have u6 := Same.upd_new (o := .lst []) hDe
      have hdb' : H5 Db = some (.lst (([] : List Int).map V.int)) := hdb
      have x6 : upd H5 De (.lst []) De = some (.lst (([] : List Int).map V.int)) := upd_same
      exact ⟨Db, De, _, _, rfl, rfl, SqL.of (u6 _ _ hdb'), SqL.of x6, k _ (s4.trans (s5.trans u6))⟩
theorem frl_of {H : Hp} {D : Addr} {ys : List V} {X : Nat → Int} {d : Int} (hd : H D = some (.lst ys)) (h : ∀ (i : Nat) (y : V), ys[i]? = some y → ∃ p, y = .ref p ∧ H p = some (frT (X i) d)) : ∃ ws, FrL ys.length X d H D ws := by
  have all : ∀ (l : List V), (∀ y ∈ l, ∃ p, y = V.ref p) → ∃ ws : List Addr, l = ws.map V.ref := by
    intro l
    induction l with
    | nil => intro _; exact ⟨[], rfl⟩
    | cons y l ih =>
      intro h
      obtain ⟨p, rfl⟩ := h y (by simp)
      obtain ⟨ws, rfl⟩ := ih fun z hz => h z (by simp [hz])
      exact ⟨p :: ws, rfl⟩
  obtain ⟨ws, e⟩ := all ys fun y hy => by
    obtain ⟨i, hi⟩ := List.mem_iff_getElem?.mp hy
    obtain ⟨p, hp, _⟩ := h i y hi
    exact ⟨p, hp⟩
  refine ⟨ws, by rw [← e]; exact hd, by rw [e, List.length_map], fun j w ej => ?_⟩
  obtain ⟨p, hp, hf⟩ := h j (.ref w) (by rw [e, List.getElem?_map, ej]; rfl)
  rw [V.ref.inj hp]
  exact hf
theorem frT_int (x : Int) : frT x 1 = .tup [.int x, .int 1] := by
  have e : dv x 1 = 1 := by unfold dv; rw [if_neg (by decide), Int.gcd_one]; rfl
  unfold frT
  rw [e, Int.fdiv_one, Int.fdiv_one]
theorem ls_rs {rs : List Int} : rs.map V.int = lsV rs.length fun g => rs.getD g 0 := by
  refine List.ext_getElem? fun i => ?_
  rcases Nat.lt_or_ge i rs.length with h | h
  · rw [lsV_get h, List.getElem?_map, List.getD_eq_getElem?_getD, List.getElem?_eq_getElem h]
    rfl
  · rw [List.getElem?_eq_none (by rw [List.length_map]; exact h), List.getElem?_eq_none (by rw [lsV_len]; exact h)]
theorem walk_Sm {rs : List Int} (h : ∀ g, Sm 400 (rs.getD g 0)) : ∀ (o : List Nat) (g : Nat) (cur : List Int), (∀ j, Sm 401 (cur.getD j 0)) → ∀ j, Sm 401 ((walkS rs o g cur).getD j 0)
  | [], _, _, hc, j => hc j
  | x :: r, g, cur, hc, j => walk_Sm h r (g + 2 ^ x) (cur.set x (rs.getD (g + 2 ^ x) 0 - rs.getD g 0)) (fun j => by
    rcases Nat.lt_or_ge x cur.length with z | z
    · rw [getD_set z]
      split
      · exact (h _).sub (h _)
      · exact hc j
    · rw [List.set_eq_of_length_le z]
      exact hc j) j
theorem order_core {m : Nat} {rs : List Int} (tb : TabN m rs) (m5 : m ≤ 5) (st : ∀ g, Sm 400 (rs.getD g 0)) (lc : Loc m fun g => rs.getD g 0) {o : List Nat} (po : o.Perm (List.range m)) : Core m (2 ^ m) (fun g => rs.getD g 0) 1 fun i => (walkS rs o 0 (List.replicate m 0)).getD i 0 := by
  have h32 := p32 m5
  have z0 : ∀ i, (List.replicate m (0 : Int)).getD i 0 = 0 := fun i => by
    rw [List.getD_eq_getElem?_getD, List.getElem?_replicate]
    split <;> rfl
  have nd : o.Nodup := po.nodup_iff.mpr List.nodup_range
  have p0 : 0 < 2 ^ m := Nat.pow_pos (by decide)
  have hm : ∀ h ∈ o, h < m ∧ 0 / 2 ^ h % 2 = 0 ∧ (List.replicate m (0 : Int)).getD h 0 = 0 := fun h hh => ⟨List.mem_range.mp (po.mem_iff.mp hh), by rw [Nat.zero_div], z0 h⟩
  have ob : bitsS o = 2 ^ m - 1 := ord_bits (by omega) po
  have zs : ∀ c : Nat → Int, (Wg.sm m fun i => c i * (List.replicate m (0 : Int)).getD i 0) = 0 := fun c => Wg.sm_zero fun i _ => by rw [z0, Int.mul_zero]
  refine ⟨by decide, Sm.of 2 (by decide) (by decide), fun j => (walk_Sm st o 0 _ (fun j => by rw [z0]; exact Sm.zero) j).mono (by decide), fun g hg => ?_, ?_⟩
  · have z := walk_core (v := fun g => rs.getD g 0) m5 (fun _ _ => rfl) lc hg o 0 (List.replicate m 0) p0 (List.length_replicate ..) nd hm
    rw [zs, ob, Nat.zero_add, Nat.zero_and, tb.zero] at z
    have ea : (2 ^ m - 1) &&& g = g := by
      rw [Nat.and_comm, Nat.and_two_pow_sub_one_eq_mod, Nat.mod_eq_of_lt hg]
    rw [ea] at z
    show rs.getD g 0 * 1 ≤ _
    omega
  · have z := walk_tot (v := fun g => rs.getD g 0) m5 (fun _ _ => rfl) o 0 (List.replicate m 0) p0 (List.length_replicate ..) nd hm
    rw [zs, ob, Nat.zero_add, tb.zero] at z
    have o1 : (Wg.sm m fun i => 1 * (walkS rs o 0 (List.replicate m 0)).getD i 0) = Wg.sm m fun i => (walkS rs o 0 (List.replicate m 0)).getD i 0 := Wg.sm_ext fun i _ => Int.one_mul _
    rw [o1] at z
    show (Wg.sm m fun i => (walkS rs o 0 (List.replicate m 0)).getD i 0) = rs.getD (2 ^ m - 1) 0 * 1
    omega
def spByO (K : PySem.W.Frag) : Sp := fun vs H Q _ => ∃ (p q : Addr) (m : Nat) (rs : List Int) (o : List Nat), vs = [.ref p, .ref q] ∧ H p = some (.lst (rs.map V.int)) ∧ TabN m rs ∧ m ≤ 5 ∧ (∀ g, Sm 400 (rs.getD g 0)) ∧ (Loc m fun g => rs.getD g 0) ∧ H q = some (.lst ((natI o).map V.int)) ∧ o.Perm (List.range m) ∧ ∀ H', Same H H' → Q (.bl true) H'
theorem scByO : FnScope ["_law_table", "_law_order_here", "_law_found", "_law_number"] ["_law_table", "_law_order_here"] (defScope sByO) := ⟨rfl, rfl, rfl, by decide +kernel, rfl, by decide +kernel, by decide +kernel⟩
theorem ok_byo {f1 f2 f3 : Addr} {fd1 fd2 fd3 : FuncData} (t : Tx K mg "_law_by_order" sByO ["_law_table", "_law_order_here"] f fd) (T : T K mg AL LN FR iF fCh fGM fCC fCA fPL SE NN NG NT NO NR NS) (D_order_shares : Df P w K mg base (CX1 P w) 4 "order_shares" ["table", "order"] (spOsh K NO) f1 fd1) (D_law_whole : Df P w K mg base CX0 1 "_law_whole" ["_law_found"] (spNum K) f2 fd2) (D_law_stable : Df P w K mg base CX0 7 "_law_stable" ["_law_table", "_law_shares"] (spLSt K) f3 fd3) :
    Df P w K mg base CX0 8 "_law_by_order" ["_law_table", "_law_order_here"] (spByO K) f fd := by
  refine t.df0 scByO (fun vs H Q E h => ?_) (fun cdv A outer s H vs Q E hr h => ?_)
  · obtain ⟨p, q, m, rs, o, rfl, _⟩ := h
    rfl
  · obtain ⟨p, q, m, rs, o, rfl, hp, tb, m5, st, lc, hq, po, k⟩ := h
    have ol := ord_len po
    have oll : ((natI o).map V.int).length = m := by rw [List.length_map]; unfold natI; rw [List.length_map]; exact ol
    have hn := tb.2.2.1
    have hpos := tb.pos
    refine ⟨_, (pss_cons (ps_set (i := 2) scByO.nd rfl (by first | exact Or.inl rfl | exact Or.inr rfl) (pe_d1 pass_no D_order_shares hr (by decide) (by rfl) (pa_cons (pe_callTy call_list_of (by rfl) T.b_list bt_list (pa_cons (pv 0) pa_nil)) (pa_cons (pe_callTy call_list_of (by rfl) T.b_list bt_list (pa_cons (pv 1) pa_nil)) pa_nil))))
      (pss_cons (ps_if (PW.pt (pw_or (pt_not (pt_val (pe_callB call_isi (by rfl) T.b_isi bt_isi (pa_cons (pv 2) (pa_cons (pe_bltn (v := .ty "list") (by rfl) T.b_list bt_list rfl) pa_nil))))) (pw_or1 (pt_cmpR op_ne (pe_callB call_len_seq (by rfl) T.b_len bt_len (pa_cons (pv 2) pa_nil)) (pe_callB call_len_seq (by rfl) T.b_len bt_len (pa_cons (pv 1) pa_nil)) (nomark _))))) (pss_one (ps_ret pe_bl)) pss_nil)
      (pss_cons (ps_for PassesOwn.never rfl (pi_list (pv 2)) (pg_name (i := 3) scByO.nd rfl (by first | exact Or.inl rfl | exact Or.inr rfl))
        (pss_one (ps_if (pt_not (pt_val (pe_d0 D_law_whole hr (by decide) (by rfl) (pa_cons (pv 3) pa_nil)))) (pss_one (ps_ret pe_bl)) pss_nil)))
      (pss_one (ps_ret (pe_d0 D_law_stable hr (by decide) (by rfl) (pa_cons (pv 0) (pa_cons (pe_comp (NB := ["_law_number"]) (pick := [none]) (blk_mk (by with_unfolding_all rfl) (by exact trivial) rfl (by decide +kernel) (by decide +kernel) (by rfl) (by rfl)) rfl
          (pi_list (pv 2)) (fun _ _ _ => pg_name (i := 0) (show (["_law_number"] : List Str).Nodup from by decide +kernel) rfl (Or.inl rfl))
          (fun _ _ _ => pif_nil) (fun _ _ _ => (pe_tup (pa_cons (pv 0) (pa_cons pe_int pa_nil))))) pa_nil)))))))), ?_⟩
    refine ⟨_, rfl, p, _, rfl, .inl (SqL.of hp), fun p1 hp1 => ?_⟩
    have u1 := Same.upd_new (o := .lst (rs.map V.int)) hp1
    have x1 : upd H p1 (.lst (rs.map V.int)) p1 = _ := upd_same
    generalize upd H p1 (.lst (rs.map V.int)) = H1 at u1 x1 ⊢
    refine ⟨_, rfl, q, _, rfl, .inl (SqL.of (u1 _ _ hq)), fun q1 hq1 => ?_⟩
    have u2 := Same.upd_new (o := .lst ((natI o).map V.int)) hq1
    have x2 : upd H1 q1 (.lst ((natI o).map V.int)) q1 = _ := upd_same
    generalize upd H1 q1 (.lst ((natI o).map V.int)) = H2 at u2 x2 ⊢
    refine ⟨p1, q1, m, rs, _, rfl, u2 _ _ x1, tb, x2, pl_ints, by omega, fun no => absurd ⟨o, rfl, po⟩ no, fun o' eo po' r H3 hr3 s3 h3 => ?_⟩
    obtain rfl := nat_inj eo
    have co := order_core tb m5 st lc po
    generalize hX : (fun i => (walkS rs o 0 (List.replicate m 0)).getD i 0) = X at co
    have h3 : H3 r = some (.lst (lsV m X)) := by
      rw [h3, ls_rs, walk_len, List.length_replicate, hX]
    have s03 := u1.trans (u2.trans s3)
    refine ⟨_, rfl, .ref r, .ty "list", _, _, _, rfl, rfl, .of (.lst h3), Kd.lst.list_ K, _, rfl, iteF ?_⟩
    refine ⟨_, rfl, r, _, rfl, .inl (SqL.of h3), _, rfl, q, _, rfl, .inl (SqL.of (s03 _ _ hq)), rfl, _, rfl, iteNS (by rw [lsV_len, oll]) ?_⟩
    refine ⟨_, rfl, r, rfl, ⟨_, SqL.of h3⟩, ?_⟩
    refine for_list (xs := lsV m X) (fun i σ H' => H' = H3 ∧ ∃ o3 : Option V, σ = [some (.ref p), some (.ref q), some (.ref r), o3]) ⟨rfl, _, rfl⟩ (fun i σ H' _ ⟨e, _⟩ => by rw [e]; exact SqL.of h3) (fun i y σ H' hy ⟨eH, o3, eσ⟩ => ?_) (fun σ H' ⟨eH, o3, eσ⟩ => ?_)
    · subst eH eσ
      obtain ⟨hi, rfl⟩ := lsV_of hy
      exact ⟨_, rfl, _, rfl, .int _, _, rfl, iteF ⟨rfl, _, rfl⟩⟩
    · subst eH eσ
      refine ⟨_, rfl, _, rfl, r, rfl, ⟨_, SqL.of h3⟩, ?_⟩
      refine comp_lstR (xs := lsV m X) (fun i y H => ∃ p, y = .ref p ∧ H p = some (frT (X i) 1)) (fun i y G G' sG ⟨p, e, z⟩ => ⟨p, e, sG _ _ z⟩) (SqL.of h3) (by rw [lsV_len]; exact Nat.le_of_lt (small1000 (by omega))) (fun i y H4 kk kk0 s4 hy g1 => ?_) fun D ys H4 hD s4 hyl hys hd => ?_
      · obtain ⟨hi, rfl⟩ := lsV_of hy
        refine ⟨_, rfl, by show 2 ≤ sizeLine; decide, fun z hz => g1 _ _ (.upd_new hz) ⟨z, rfl, ?_⟩⟩
        rw [frT_int]
        exact upd_same
      · obtain ⟨ws, fl⟩ := frl_of hd hys
        rw [hyl, lsV_len] at fl
        have s04 := s03.trans s4
        have hp4 := s04 _ _ hp
        rw [ls_rs, hn] at hp4
        exact ⟨p, D, m, 2 ^ m, _, X, 1, ws, rfl, hp4, fl, tb.1, by omega, rfl, tb.zero, fun j => (st j).mono (by decide), co, fun H5 s5 => k H5 (s04.trans s5)⟩
def spTwG (K : PySem.W.Frag) : Sp := fun vs H Q _ => ∃ (r p : Addr) (m x y : Nat) (rs : List Int), vs = [.ref r, .ref p] ∧ H r = some (.tup [.int (y : Int), .int (x : Int)]) ∧ H p = some (.lst (rs.map V.int)) ∧ TabN m rs ∧ x < rs.length ∧ y < x ∧ ¬ SwLe rs x y ∧ Q (.bl true) H
theorem scTwG : FnScope ["_law_found", "_law_table", "_law_one", "_law_other", "_law_both"] ["_law_found", "_law_table"] (defScope sTwG) := ⟨rfl, rfl, rfl, by decide +kernel, rfl, by decide +kernel, by decide +kernel⟩
theorem ok_twg {f1 : Addr} {fd1 : FuncData} (t : Tx K mg "_law_two_groups" sTwG ["_law_found", "_law_table"] f fd) (T : T K mg AL LN FR iF fCh fGM fCC fCA fPL SE NN NG NT NO NR NS) (D_law_whole : Df P w K mg base CX0 1 "_law_whole" ["_law_found"] (spNum K) f1 fd1) :
    Df P w K mg base CX0 2 "_law_two_groups" ["_law_found", "_law_table"] (spTwG K) f fd := by
  refine t.df0 scTwG (fun vs H Q E h => ?_) (fun cdv A outer s H vs Q E hr h => ?_)
  · obtain ⟨r, p, m, x, y, rs, rfl, _⟩ := h
    rfl
  · obtain ⟨r, p, m, x, y, rs, rfl, hr', hp, tb, hx, hy, hsw, k⟩ := h
    have hm := tb.2.2.1
    have hpos := tb.pos
    have hor : y ||| x < rs.length := by rw [hm]; exact Nat.or_lt_two_pow (by omega) (by omega)
    have han : y &&& x < rs.length := Nat.lt_of_le_of_lt Nat.and_le_right hx
    refine ⟨_, (pss_cons (ps_if (PW.pt (pw_or (pt_not (pt_val (pe_callB call_isi (by rfl) T.b_isi bt_isi (pa_cons (pv 0) (pa_cons (pe_bltn (v := .ty "tuple") (by rfl) T.b_tuple bt_tuple rfl) pa_nil))))) (pw_or (pt_cmpR op_ne (pe_callB call_len_seq (by rfl) T.b_len bt_len (pa_cons (pv 0) pa_nil)) pe_int (nomark _)) (pw_or (pt_not (pt_val (pe_d0 D_law_whole hr (by decide) (by rfl) (pa_cons (pe_ix ix_tup (pv 0) pe_int (fun _ _ => rfl)) pa_nil)))) (pw_or1 (pt_not (pt_val (pe_d0 D_law_whole hr (by decide) (by rfl) (pa_cons (pe_ix ix_tup (pv 0) pe_int (fun _ _ => rfl)) pa_nil))))))))) (pss_one (ps_ret pe_bl)) pss_nil)
      (pss_cons (ps_asg (pv 0) (pg_tup rfl (pgs_cons (pg_name (i := 2) scTwG.nd rfl (Or.inl rfl)) (pgs_cons (pg_name (i := 3) scTwG.nd rfl (Or.inl rfl)) pgs_nil))))
      (pss_cons (ps_if (PW.pt (pw_or (pt_cmpR op_lt (pv 2) pe_int (nomark _)) (pw_or (pt_cmpR op_lt (pv 3) pe_int (nomark _)) (pw_or (pt_cmpR op_ge (pv 2) (pe_callB call_len_seq (by rfl) T.b_len bt_len (pa_cons (pv 1) pa_nil)) (nomark _)) (pw_or1 (pt_cmpR op_ge (pv 3) (pe_callB call_len_seq (by rfl) T.b_len bt_len (pa_cons (pv 1) pa_nil)) (nomark _))))))) (pss_one (ps_ret pe_bl)) pss_nil)
      (pss_cons (ps_set (i := 4) scTwG.nd rfl (Or.inl rfl) (pe_op op_add (pe_ix ix_list (pv 1) (pe_op op_or (pv 2) (pv 3)) (fun _ _ => rfl)) (pe_ix ix_list (pv 1) (pe_op op_and (pv 2) (pv 3)) (fun _ _ => rfl))))
      (pss_one (ps_ret (pe_cmpR op_gt (pe_op op_add (pe_ix ix_list (pv 1) (pv 2) (fun _ _ => rfl)) (pe_ix ix_list (pv 1) (pv 3) (fun _ _ => rfl))) (pv 4) (nomark _)))))))), ?_⟩
    refine ⟨_, rfl, .ref r, .ty "tuple", _, _, _, rfl, rfl, .of (.tup hr'), Kd.tup.tuple_ K, _, rfl, iteF ⟨_, rfl, r, _, rfl, .inr (SqT.of hr'), rfl, _, rfl, iteNS rfl ?_⟩⟩
    refine ⟨_, rfl, r, _, _, _, rfl, rfl, SqT.of hr', rfl, _, rfl, .int _, _, rfl, iteF ⟨_, rfl, r, _, _, _, rfl, rfl, SqT.of hr', rfl, _, rfl, .int _, _, rfl, iteF ?_⟩⟩
    refine ⟨_, rfl, r, _, rfl, SqT.of hr', rfl, ?_⟩
    refine ⟨_, _, rfl, _, _, rfl, rfl, ?_⟩
    refine ⟨_, rfl, _, _, rfl, rfl, _, rfl, ?_⟩
    rw [decide_eq_false (show ¬ ((y : Int) < 0) by omega)]
    refine iteF ⟨_, rfl, _, _, rfl, rfl, _, rfl, ?_⟩
    rw [decide_eq_false (show ¬ ((x : Int) < 0) by omega)]
    refine iteF ⟨_, rfl, _, rfl, p, _, rfl, .inl (SqL.of hp), _, _, rfl, rfl, _, rfl, ?_⟩
    rw [List.length_map, decide_eq_false (show ¬ ((y : Int) ≥ ((rs.length : Nat) : Int)) by omega)]
    refine iteF ⟨_, rfl, _, rfl, p, _, rfl, .inl (SqL.of hp), _, _, rfl, rfl, _, rfl, ?_⟩
    rw [List.length_map, decide_eq_false (show ¬ ((x : Int) ≥ ((rs.length : Nat) : Int)) by omega)]
    refine iteF ⟨_, rfl, _, rfl, _, rfl, _, _, rfl, rfl, p, _, _, _, rfl, rfl, SqL.of hp, (by rw [bor (by omega) (by omega)]; exact at_of hor), _, rfl, _, rfl, _, rfl, _, _, rfl, rfl, p, _, _, _, rfl, rfl, SqL.of hp, (by rw [show Builtin.bitAnd (y : Int) (x : Int) = ((y &&& x : Nat) : Int) from rfl]; exact at_of han), _, _, rfl, rfl, ?_⟩
    refine ⟨_, rfl, _, rfl, p, _, _, _, rfl, rfl, SqL.of hp, at_of (by omega), _, rfl, _, rfl, p, _, _, _, rfl, rfl, SqL.of hp, at_of hx, _, _, rfl, rfl, _, rfl, _, _, rfl, rfl, ?_⟩
    have e : decide (rs.getD y 0 + rs.getD x 0 > rs.getD (y ||| x) 0 + rs.getD (y &&& x) 0) = true := decide_eq_true (by
      rw [Nat.or_comm y x, Nat.and_comm y x]
      unfold SwLe at hsw
      omega)
    show Q (.bl (decide (rs.getD y 0 + rs.getD x 0 > rs.getD (y ||| x) 0 + rs.getD (y &&& x) 0))) _
    rw [e]
    exact k
theorem mean_frl {m : Nat} {rs ds : List Int} {H : Hp} {q : Addr} (fa : FrAt H q (meanL m ds)) : ∃ ws, FrL m (fun h => mS ds h ds.length) 60 H q ws := by
  obtain ⟨ys, hq, yl, a⟩ := fa
  have ml : (meanL m ds).length = m := by unfold meanL; rw [List.length_map, List.length_range]
  obtain ⟨ws, fl⟩ := frl_of (X := fun h => mS ds h ds.length) (d := 60) hq fun i y e => by
    have hi : i < m := by
      have := (List.getElem?_eq_some_iff.mp e).1
      omega
    obtain ⟨p, e1, e2⟩ := a i y (frq (mS ds i ds.length)) e (by unfold meanL; rw [List.getElem?_map, List.getElem?_range hi]; rfl)
    exact ⟨p, e1, e2⟩
  rw [yl, ml] at fl
  exact ⟨ws, fl⟩
theorem evL_Sm {rs : List Int} (h : ∀ g, Sm 400 (rs.getD g 0)) : ∀ a : LF, (∀ x ∈ a, Sm 64 x.2) → Sm (500 + a.length) (evL rs a)
  | [], _ => Sm.zero
  | (i, c) :: r, hc => by
    have ih := evL_Sm h r fun x hx => hc x (List.mem_cons_of_mem _ hx)
    have h1 : Sm 464 (c * rs.getD i 0) := (hc (i, c) (List.mem_cons_self ..)).mul (h i)
    show Sm (500 + (r.length + 1)) (c * rs.getD i 0 + evL rs r)
    exact (h1.mono (Nat.le_trans (show 464 ≤ 500 by decide) (Nat.le_add_right _ _))).add ih
theorem shF_ok : ∀ (m : _root_.Fin 6) (h : _root_.Fin 5), (shF m.1 h.1).length ≤ 64 ∧ ((shF m.1 h.1).all fun x => decide (x.2.natAbs < 2 ^ 64)) = true := by decide +kernel
theorem mean_co {m : Nat} {rs ds : List Int} (tb : TabN m rs) (m5 : m ≤ 5) (st : ∀ g, Sm 400 (rs.getD g 0)) (lc : Loc m fun g => rs.getD g 0) (d : DivOf ds rs) : ∃ Y : Nat → Int, (∀ h, h < m → mS ds h ds.length = Y h) ∧ Core m (2 ^ m) (fun g => rs.getD g 0) 60 Y := by
  have h32 := p32 m5
  have p0 : 0 < 2 ^ m := Nat.pow_pos (by decide)
  refine ⟨fun h => if h < m then evL rs (shF m h) else 0, fun h hh => by show _ = if h < m then evL rs (shF m h) else 0; rw [if_pos hh]; exact mS_sh tb m5 d hh, ?_⟩
  have hY : ∀ h, h < m → (if h < m then evL rs (shF m h) else 0) = evL rs (shF m h) := fun h hh => if_pos hh
  refine ⟨by decide, Sm.of 64 (by decide) (by decide), fun j => ?_, fun g hg => (mean_core tb.1 m5 (v := fun g => rs.getD g 0) (fun _ => rfl) tb.zero lc hY hg).1, ?_⟩
  · try dsimp only
    split
    · rename_i hj
      obtain ⟨l1, l2⟩ := shF_ok ⟨m, by omega⟩ ⟨j, by omega⟩
      have l1 : (shF m j).length ≤ 64 := l1
      have l3 : ∀ x ∈ shF m j, Sm 64 x.2 := fun x hx => by
        have z : x.2.natAbs < 2 ^ 64 := of_decide_eq_true (List.all_eq_true.mp l2 x hx)
        exact z
      exact (evL_Sm st (shF m j) l3).mono (show 500 + (shF m j).length ≤ 300000 by omega)
    · exact Sm.zero
  · have z := (mean_core tb.1 m5 (v := fun g => rs.getD g 0) (fun _ => rfl) tb.zero lc hY (S := 2 ^ m - 1) (by omega)).2 rfl
    rw [whole_sm (by omega)] at z
    exact z
theorem no_wgh {m n : Nat} {tb X Y : Nat → Int} {d d' : Int} (hn : n = 2 ^ m) (m1 : 1 ≤ m) (sw : SWgh m n tb d X) (co : Core m n tb d' Y) : False := by
  have n2 : 2 ≤ n := by rw [hn]; exact Nat.pow_le_pow_right (n := 2) (i := 1) (by decide) m1
  have e1 : (Wg.sm (n - 1) fun j => (Wg.sm m fun i => bt (j + 1) i * Y i) * X j) = Wg.sm m fun i => Y i * Wg.sm (n - 1) fun j => bt (j + 1) i * X j := by
    have a : (Wg.sm (n - 1) fun j => (Wg.sm m fun i => bt (j + 1) i * Y i) * X j) = Wg.sm (n - 1) fun j => Wg.sm m fun i => Y i * (bt (j + 1) i * X j) := Wg.sm_ext fun j _ => by
      rw [Int.mul_comm, ← Wg.sm_mul]
      exact Wg.sm_ext fun i _ => by grind
    rw [a, Wg.sm_comm]
    exact Wg.sm_ext fun i _ => Wg.sm_mul ..
  have e2 : (Wg.sm m fun i => Y i * Wg.sm (n - 1) fun j => bt (j + 1) i * X j) = d * (tb (n - 1) * d') := by
    rw [← co.all, ← Wg.sm_mul]
    exact Wg.sm_ext fun i hi => by rw [sw.hands i hi, Int.mul_comm]
  have le : (Wg.sm (n - 1) fun j => d' * (tb (j + 1) * X j)) ≤ Wg.sm (n - 1) fun j => (Wg.sm m fun i => bt (j + 1) i * Y i) * X j := Wg.sm_le fun j hj => by
    have q := Int.mul_le_mul_of_nonneg_right (co.no (j + 1) (by omega)) (sw.x0 j)
    rw [show d' * (tb (j + 1) * X j) = tb (j + 1) * d' * X j by grind]
    exact q
  rw [Wg.sm_mul, e1, e2] at le
  have mo := Int.mul_lt_mul_of_pos_left sw.more co.d0
  have e3 : d' * (tb (n - 1) * d) = d * (tb (n - 1) * d') := by grind
  omega
def spLaw (K : PySem.W.Frag) : Sp := fun vs H Q _ => ∃ (a : Addr) (ns : List Int), vs = [.ref a] ∧ SqL K H a (ns.map V.int) ∧ ns.length ≤ 63 ∧ ∀ H', Q (.bl true) H'
theorem scLaw : FnScope ["_law_script", "_law_draws_here", "_law_many", "_law_table", "_law_handed", "_law_found", "_law_k", "_law_shares", "_law_told"] ["_law_script"] (defScope sLaw) := ⟨rfl, rfl, rfl, by decide +kernel, rfl, by decide +kernel, by decide +kernel⟩
theorem ok_law {f1 f2 f3 f4 f5 f6 f7 f8 f9 f10 f11 : Addr} {fd1 fd2 fd3 fd4 fd5 fd6 fd7 fd8 fd9 fd10 fd11 : FuncData} (t : Tx K mg "law" sLaw ["_law_script"] f fd) (T : T K mg AL LN FR iF fCh fGM fCC fCA fPL SE NN NG NT NO NR NS) (D_law_draws : Df P w K mg base CX0 1 "_law_draws" ["_law_script"] (spDrw K) f1 fd1) (D_law_cell : Df P w K mg base CX0 1 "_law_cell" ["_law_script", "_law_k"] (spCel K) f2 fd2)
    (D_law_drawn : Df P w K mg base CX0 2 "_law_drawn" ["_law_script", "_law_many"] (spDrn K) f3 fd3) (D_swells : Df P w K mg base (CX1 P w) 4 "swells" ["table"] (spSwl K) f4 fd4) (D_law_swells : Df P w K mg base CX0 1 "_law_swells" ["_law_table", "_law_many"] (spLSw K) f5 fd5) (D_law_two_groups : Df P w K mg base CX0 2 "_law_two_groups" ["_law_found", "_law_table"] (spTwG K) f6 fd6)
    (D_law_by_order : Df P w K mg base CX0 8 "_law_by_order" ["_law_table", "_law_order_here"] (spByO K) f7 fd7) (D_law_order : Df P w K mg base CX0 1 "_law_order" ["_law_cell_here", "_law_many"] spOro f8 fd8) (D_mean_shares : Df P w K mg base (CX1 P w) 7 "mean_shares" ["table"] (spMss K) f9 fd9) (D_law_stable : Df P w K mg base CX0 7 "_law_stable" ["_law_table", "_law_shares"] (spLSt K) f10 fd10) (D_stable : Df P w K mg base (CX1 P w) 6 "stable" ["table"] (spSta K NT) f11 fd11) :
    Df P w K mg base CX0 10 "law" ["_law_script"] (spLaw K) f fd := by
  refine t.df0 scLaw (fun vs H Q E h => ?_) (fun cdv _A outer s H vs Q E hr h => ?_)
  · obtain ⟨a, ns, rfl, _⟩ := h
    rfl
  · obtain ⟨a, ns, rfl, hq, hns, k⟩ := h
    refine ⟨_, (pss_cons (ps_set (i := 1) scLaw.nd rfl (Or.inl rfl) (pe_d0 D_law_draws hr (by decide) (by rfl) (pa_cons (pv 0) pa_nil)))
      (pss_cons (ps_set (i := 2) scLaw.nd rfl (Or.inl rfl) (pe_ix ix_list (pe_lst (pa_cons pe_int (pa_cons pe_int (pa_cons pe_int (pa_cons pe_int (pa_cons pe_int (pa_cons pe_int (pa_cons pe_int (pa_cons pe_int (pa_cons pe_int pa_nil)))))))))) (pe_op op_mod (pe_d0 D_law_cell hr (by decide) (by rfl) (pa_cons (pv 1) (pa_cons pe_int pa_nil))) pe_int) (fun _ _ => rfl)))
      (pss_cons (ps_set (i := 3) scLaw.nd rfl (Or.inl rfl) (pe_d0 D_law_drawn hr (by decide) (by rfl) (pa_cons (pv 1) (pa_cons (pv 2) pa_nil))))
      (pss_cons (ps_set (i := 4) scLaw.nd rfl (Or.inl rfl) (pe_callTy call_list_of (by rfl) T.b_list bt_list (pa_cons (pv 3) pa_nil)))
      (pss_cons (ps_set (i := 5) scLaw.nd rfl (Or.inl rfl) (pe_d1 pass_no D_swells hr (by decide) (by rfl) (pa_cons (pv 4) pa_nil)))
      (pss_cons (ps_if (pt_cmpR (op_neL hr.units) (pv 4) (pv 3) (nomark _)) (pss_one (ps_ret pe_bl)) pss_nil)
      (pss_cons (ps_if (pt_not (pt_val (pe_d0 D_law_swells hr (by decide) (by rfl) (pa_cons (pv 3) (pa_cons (pv 2) pa_nil))))) (pss_one (ps_ret (pe_d0 D_law_two_groups hr (by decide) (by rfl) (pa_cons (pv 5) (pa_cons (pv 3) pa_nil))))) pss_nil)
      (pss_cons (ps_if (pt_cmpR op_notN (pv 5) pe_non (nomark _)) (pss_one (ps_ret pe_bl)) pss_nil)
      (pss_cons (ps_for PassesOwn.never rfl (pi_range1 (by rfl) T.b_range (pa_cons pe_int pa_nil)) (pg_name (i := 6) scLaw.nd rfl (Or.inl rfl))
        (pss_one (ps_if (pt_not (pt_val (pe_d0 D_law_by_order hr (by decide) (by rfl) (pa_cons (pv 3) (pa_cons (pe_d0 D_law_order hr (by decide) (by rfl) (pa_cons (pe_op op_mod (pe_d0 D_law_cell hr (by decide) (by rfl) (pa_cons (pv 1) (pa_cons (pe_op op_add pe_int (pv 6)) pa_nil))) pe_int) (pa_cons (pv 2) pa_nil))) pa_nil))))) (pss_one (ps_ret pe_bl)) pss_nil)))
      (pss_cons (ps_set (i := 7) scLaw.nd rfl (Or.inl rfl) (pe_d1 pass_no D_mean_shares hr (by decide) (by rfl) (pa_cons (pe_callTy call_list_of (by rfl) T.b_list bt_list (pa_cons (pv 3) pa_nil)) pa_nil)))
      (pss_cons (ps_if (PW.pt (pw_or (pt_not (pt_val (pe_callB call_isi (by rfl) T.b_isi bt_isi (pa_cons (pv 7) (pa_cons (pe_bltn (v := .ty "list") (by rfl) T.b_list bt_list rfl) pa_nil))))) (pw_or (pt_cmpR op_ne (pe_callB call_len_seq (by rfl) T.b_len bt_len (pa_cons (pv 7) pa_nil)) (pv 2) (nomark _)) (pw_or1 (pt_not (pt_val (pe_d0 D_law_stable hr (by decide) (by rfl) (pa_cons (pv 3) (pa_cons (pv 7) pa_nil))))))))) (pss_one (ps_ret pe_bl)) pss_nil)
      (pss_cons (ps_set (i := 8) scLaw.nd rfl (Or.inl rfl) (pe_d1 pass_no D_stable hr (by decide) (by rfl) (pa_cons (pe_callTy call_list_of (by rfl) T.b_list bt_list (pa_cons (pv 3) pa_nil)) pa_nil)))
      (pss_cons (ps_if (PW.pt (pw_or (pt_not (pt_val (pe_callB call_isi (by rfl) T.b_isi bt_isi (pa_cons (pv 8) (pa_cons (pe_bltn (v := .ty "tuple") (by rfl) T.b_tuple bt_tuple rfl) pa_nil))))) (pw_or (pt_cmpR op_ne (pe_ix ix_tup (pv 8) pe_int (fun _ _ => rfl)) pe_str (nomark _)) (pw_or1 (pt_cmpR op_ne (pe_callB call_len_seq (by rfl) T.b_len bt_len (pa_cons (pe_ix ix_tup (pv 8) pe_int (fun _ _ => rfl)) pa_nil)) (pv 2) (nomark _)))))) (pss_one (ps_ret pe_bl)) pss_nil)
      (pss_one (ps_ret (pe_d0 D_law_stable hr (by decide) (by rfl) (pa_cons (pv 3) (pa_cons (pe_ix ix_tup (pv 8) pe_int (fun _ _ => rfl)) pa_nil)))))))))))))))))), ?_⟩
    refine ⟨_, rfl, a, ns, rfl, hq, hns, fun l D H1 hl s1 d1 d2 hd => ?_⟩
    refine ⟨by show 9 ≤ sizeLine; decide, fun lm hlm => ?_⟩
    have u2 := Same.upd_new (o := .lst [V.int 1, .int 2, .int 3, .int 3, .int 4, .int 4, .int 4, .int 4, .int 5]) hlm
    have x2 : upd H1 lm (.lst [V.int 1, .int 2, .int 3, .int 3, .int 4, .int 4, .int 4, .int 4, .int 5]) lm = _ := upd_same
    generalize upd H1 lm (.lst [V.int 1, .int 2, .int 3, .int 3, .int 4, .int 4, .int 4, .int 4, .int 5]) = H2 at u2 x2 ⊢
    refine ⟨_, rfl, l, D, 0, rfl, SqL.of (u2 _ _ hd), fun c0 => ⟨_, _, rfl, rfl, (by show (0 : Int) < 9; decide), ?_⟩⟩
    obtain ⟨v, hv, hm'⟩ := atI_in (xs := [V.int 1, .int 2, .int 3, .int 3, .int 4, .int 4, .int 4, .int 4, .int 5]) (i := c0 % 9) (by omega) (by show c0 % 9 < 9; omega)
    obtain ⟨m, rfl, m1, m5⟩ : ∃ m : Nat, v = .int (m : Int) ∧ 1 ≤ m ∧ m ≤ 5 := by
      simp only [List.mem_cons, List.not_mem_nil, or_false] at hm'
      rcases hm' with rfl | rfl | rfl | rfl | rfl | rfl | rfl | rfl | rfl
      · exact ⟨1, rfl, by decide, by decide⟩
      · exact ⟨2, rfl, by decide, by decide⟩
      · exact ⟨3, rfl, by decide, by decide⟩
      · exact ⟨3, rfl, by decide, by decide⟩
      · exact ⟨4, rfl, by decide, by decide⟩
      · exact ⟨4, rfl, by decide, by decide⟩
      · exact ⟨4, rfl, by decide, by decide⟩
      · exact ⟨4, rfl, by decide, by decide⟩
      · exact ⟨5, rfl, by decide, by decide⟩
    have h32 := p32 m5
    refine ⟨lm, _, _, _, rfl, rfl, SqL.of x2, hv, ?_⟩
    refine ⟨_, rfl, _, rfl, l, D, m, rfl, u2 _ _ hd, by omega, d2, m1, by omega, fun pt H3 tb0 hpt s3 hdt t00 st0 => ?_⟩
    -- as a list of numbers
    have p0 : 0 < 2 ^ m := Nat.pow_pos (by decide)
    obtain ⟨rs, hrs, rl, tb, st⟩ : ∃ rs : List Int, H3 pt = some (.lst (rs.map V.int)) ∧ rs.length = 2 ^ m ∧ TabN m rs ∧ ∀ g, Sm 400 (rs.getD g 0) := by
      refine ⟨(List.range (2 ^ m)).map tb0, by rw [hdt, lsV_map], by rw [List.length_map, List.length_range], ⟨m1, by omega, by rw [List.length_map, List.length_range], by rw [List.getElem?_map, List.getElem?_range p0]; exact congrArg some t00⟩, fun g => ?_⟩
      rcases Nat.lt_or_ge g (2 ^ m) with z | z
      · rw [List.getD_eq_getElem?_getD, List.getElem?_map, List.getElem?_range z]
        exact st0 g z
      · rw [List.getD_eq_getElem?_getD, List.getElem?_eq_none (by rw [List.length_map, List.length_range]; exact z)]
        exact Sm.zero
    clear hdt t00 st0 tb0
    have lsr : rs.map V.int = lsV (2 ^ m) fun g => rs.getD g 0 := by rw [ls_rs, rl]
    have hdt : H3 pt = some (.lst (lsV (2 ^ m) fun g => rs.getD g 0)) := by rw [hrs, lsr]
    have st9 : ∀ g, Sm 90000 (rs.getD g 0) := fun g => (st g).mono (by decide)
    refine ⟨_, rfl, pt, _, rfl, .inl (SqL.of hrs), fun ph hph => ?_⟩
    have u4 := Same.upd_new (o := .lst (rs.map V.int)) hph
    have e4 : upd H3 ph (.lst (rs.map V.int)) ph = _ := upd_same
    generalize upd H3 ph (.lst (rs.map V.int)) = H4 at u4 e4 ⊢
    refine ⟨_, rfl, ph, m, rs, rfl, e4, tb, fun fv H5 s5 wk => ?_⟩
    have s35 := u4.trans s5
    have hrs5 := s35 _ _ hrs
    have hdt5 := s35 _ _ hdt
    refine ⟨_, rfl, _, rfl, ph, pt, _, _, rfl, rfl, SqL.of (s5 _ _ e4), SqL.of hrs5, _, rfl, ?_⟩
    rw [decide_eq_true rfl]
    refine iteF ⟨_, rfl, _, rfl, pt, m, _, rfl, hdt5, m5, fun lc => ?_, fun ⟨x, y, hx, hy, bad⟩ => ?_⟩
    · refine ⟨_, rfl, iteF ?_⟩
      have wk : fv = .non := by
        rcases wk with ⟨e, _⟩ | ⟨q, x, y, _, hx, hy, hsw, _⟩
        · exact e
        · exact absurd (glob (v := fun g => rs.getD g 0) m5 lc (by rw [← rl]; exact hx) (show y < 2 ^ m by omega)) hsw
      subst wk
      refine ⟨_, rfl, rfl, _, rfl, iteF ?_⟩
      refine ⟨2, rfl, by decide, by decide, ?_⟩
      refine for_range (n := 2) (fun i σ H' => Same H5 H' ∧ ∃ o : Option V, σ = [some (.ref a), some (.ref l), some (.int (m : Int)), some (.ref pt), some (.ref ph), some .non, o, none, none]) ⟨.refl _, _, rfl⟩ (fun i σ H6 hi ⟨s6, o, eσ⟩ => ?_) (fun σ H6 ⟨s6, o, eσ⟩ => ?_)
      · subst eσ
        have hl6 := s6 _ _ (s35 _ _ (s3 _ _ (u2 _ _ hd)))
        refine ⟨_, rfl, _, rfl, _, rfl, _, _, rfl, rfl, l, D, 1 + i, (by show [V.ref l, V.int (1 + (0 + (i : Int)))] = _; congr 3; omega), SqL.of hl6, fun c => ⟨_, _, rfl, rfl, (by show (0 : Int) < 1000003; decide), _, rfl, _, m, rfl, by omega, fun lo o' H7 hlo s7 po h7 => ?_⟩⟩
        exact ⟨pt, lo, m, rs, o', rfl, s7 _ _ (s6 _ _ hrs5), tb, m5, st, lc, h7, po, fun H8 s8 => ⟨_, rfl, iteF ⟨s6.trans (s7.trans s8), _, rfl⟩⟩⟩
      · subst eσ
        have hrs6 := s6 _ _ hrs5
        have hdt6 := s6 _ _ hdt5
        refine ⟨_, rfl, pt, _, rfl, .inl (SqL.of hrs6), fun p7 hp7 => ?_⟩
        have u7 := Same.upd_new (o := .lst (rs.map V.int)) hp7
        have e7 : upd H6 p7 (.lst (rs.map V.int)) p7 = _ := upd_same
        generalize upd H6 p7 (.lst (rs.map V.int)) = H7 at u7 e7 ⊢
        refine ⟨p7, m, rs, rfl, e7, tb, fun q ds H8 hq8 s8 dv fa => ?_⟩
        obtain ⟨ws, fl⟩ := mean_frl (rs := rs) fa
        obtain ⟨Y, eY, co⟩ := mean_co tb m5 st lc dv
        have fl := fl.ext eY
        have s68 := u7.trans s8
        refine ⟨_, rfl, .ref q, .ty "list", _, _, _, rfl, rfl, .of (.lst fl.hr), Kd.lst.list_ K, _, rfl, iteF ?_⟩
        refine ⟨_, rfl, q, _, rfl, .inl (SqL.of fl.hr), _, rfl, rfl, _, rfl, iteNS (by rw [List.length_map, fl.len]) ?_⟩
        refine ⟨_, rfl, _, rfl, pt, q, m, 2 ^ m, _, Y, 60, ws, rfl, s68 _ _ hdt6, fl, m1, by omega, rfl, tb.zero, st9, co, fun H9 s9 => ⟨_, rfl, iteF ?_⟩⟩
        have s69 := s68.trans s9
        refine ⟨_, rfl, pt, _, rfl, .inl (SqL.of (s69 _ _ hdt6)), fun p10 hp10 => ?_⟩
        have u10 := Same.upd_new (o := .lst (lsV (2 ^ m) fun g => rs.getD g 0)) hp10
        have e10 : upd H9 p10 (.lst (lsV (2 ^ m) fun g => rs.getD g 0)) p10 = _ := upd_same
        generalize upd H9 p10 (.lst (lsV (2 ^ m) fun g => rs.getD g 0)) = H10 at u10 e10 ⊢
        dsimp only [tNil, List.cons_append, List.nil_append]
        refine mk_sta m1 (by omega) rfl tb.zero st9 e10 fun r H11 s11 told => ?_
        rcases told with ⟨lp, ps, d, Y', hr', fl', _, sh⟩ | ⟨lz, ys, d, X, hr', hz, _, ra, sw⟩
        · have a1 : atI [V.str "shares", V.ref lp] 1 = some (.ref lp) := rfl
          have s611 := s69.trans (u10.trans s11)
          refine ⟨_, rfl, .ref r, .ty "tuple", _, _, _, rfl, rfl, .of (.tup hr'), Kd.tup.tuple_ K, _, rfl, iteF ?_⟩
          refine ⟨_, rfl, r, _, _, _, rfl, rfl, SqT.of hr', rfl, rfl, _, rfl, iteNS rfl ?_⟩
          refine ⟨_, rfl, r, _, _, _, rfl, rfl, SqT.of hr', rfl, lp, _, rfl, .inl (SqL.of fl'.hr), _, rfl, rfl, _, rfl, iteNS (by rw [List.length_map, fl'.len]) ?_⟩
          exact ⟨_, rfl, _, rfl, r, _, _, _, rfl, rfl, SqT.of hr', rfl, pt, lp, m, 2 ^ m, _, Y', d, ps, rfl, s611 _ _ hdt6, fl', m1, by omega, rfl, tb.zero, st9, ⟨sh.d0, sh.ds, sh.sY, sh.no, sh.all⟩, fun H12 s12 => k H12⟩
        · exact (no_wgh rfl m1 sw co).elim
    · refine ⟨_, rfl, iteT ?_⟩
      rcases wk with ⟨_, no⟩ | ⟨q, x', y', rfl, hx', hy', hsw, hq5⟩
      · have z := no x (by rw [rl]; exact hx) y hy
        unfold SwLe at z
        omega
      · exact ⟨_, rfl, _, rfl, q, pt, m, x', y', rs, rfl, hq5, hrs5, tb, hx', hy', hsw, k _⟩
end
end K62

def PySem.W.Fast.tw17743420430766300767 : Unit := ()
def PySem.W.Fast.tw18378547910406267353 : Unit := ()
def PySem.W.Fast.tw5026226827562428936 : Unit := ()
def PySem.W.Fast.tw3980080600043810295 : Unit := ()
def PySem.W.Fast.tw9846067639874795122 : Unit := ()
def PySem.W.Fast.tw18075375960066206918 : Unit := ()
def PySem.W.Fast.tw16739723609084456604 : Unit := ()
def PySem.W.Fast.tw3063549798923250001 : Unit := ()
def PySem.W.Fast.tw86202727241899990 : Unit := ()
def PySem.W.Fast.tw8345636787704751048 : Unit := ()
def PySem.W.Fast.tw8529929026597929584 : Unit := ()
def PySem.W.Fast.tw8437815777789165830 : Unit := ()
def PySem.W.Fast.tw3800310322148190024 : Unit := ()
def PySem.W.Fast.tw7127345364064979016 : Unit := ()
def PySem.W.Fast.tw5561870386009722014 : Unit := ()
def PySem.W.Fast.tw11218027804388678483 : Unit := ()
def PySem.W.Fast.tw2118339503354889128 : Unit := ()
def PySem.W.Fast.tw14582861998072079343 : Unit := ()
def PySem.W.Fast.tw7546775357447504527 : Unit := ()
def PySem.W.Fast.tw13103704120828161322 : Unit := ()
def PySem.W.Fast.tw2419723971462563226 : Unit := ()
def PySem.W.Fast.tw17045158623328988232 : Unit := ()
def PySem.W.Fast.tw2786034482950060469 : Unit := ()
def PySem.W.Fast.tw15063019819050009368 : Unit := ()
def PySem.W.Fast.tw13701934795997669255 : Unit := ()
def PySem.W.Fast.tw269584629929364735 : Unit := ()
def PySem.W.Fast.tw5929279933129421557 : Unit := ()
def PySem.W.Fast.tw14467404412662519763 : Unit := ()
def PySem.W.Fast.tw11693593214349006924 : Unit := ()
def PySem.W.Fast.tw6868373819667417508 : Unit := ()
def PySem.W.Fast.tw6818838080093622750 : Unit := ()
def PySem.W.Fast.tw10289953175929052119 : Unit := ()
def PySem.W.Fast.tw12496526500044249642 : Unit := ()
def PySem.W.Fast.tw3107902181218562653 : Unit := ()
def PySem.W.Fast.tw14278095764617680240 : Unit := ()
def PySem.W.Fast.tw149278289265085780 : Unit := ()
def PySem.W.Fast.tw7277492202323068079 : Unit := ()
def PySem.W.Fast.tw6416976496685095365 : Unit := ()
def PySem.W.Fast.tw8018857711019337066 : Unit := ()
def PySem.W.Fast.tw5366347145764599851 : Unit := ()
def PySem.W.Fast.tw6333097024727918226 : Unit := ()
def PySem.W.Fast.tw2302825063102813715 : Unit := ()
def PySem.W.Fast.tw8125359918125101344 : Unit := ()
def PySem.W.Fast.tw3870835434259607522 : Unit := ()
def PySem.W.Fast.tw9223526747096696900 : Unit := ()
def PySem.W.Fast.tw16348551570594272676 : Unit := ()
def PySem.W.Fast.tw17796121794413036697 : Unit := ()
def PySem.W.Fast.tw2570689380572612907 : Unit := ()
def PySem.W.Fast.tw16738945342264110038 : Unit := ()
def PySem.W.Fast.tw14503700376204311206 : Unit := ()
def PySem.W.Fast.tw14054939737500785968 : Unit := ()
def PySem.W.Fast.tw86350365216876009 : Unit := ()
set_option Elab.async false
set_option linter.all false
set_option maxRecDepth 100000
set_option maxHeartbeats 8000000
namespace K62
open PySem L2
theorem T_mk {K : PySem.W.Frag} {mg : Str → Option Value} {h : Heap} {AL LN FR iF fCh fGM fCC fCA fPL SE NN NG NT NO NR NS : Addr} {tk_ev : Tok}  {n_AL : Nat} {osl_AL : Array (Option Value)} {t_AL0 t_AL1 t_AL2 t_AL3 t_AL4 t_AL5 : Tok}  {n_LN : Nat} {osl_LN : Array (Option Value)} {t_LN0 t_LN1 t_LN2 t_LN3 t_LN4 t_LN5 t_LN6 : Tok}  {tk_mp : Tok} {tk_mc : Tok}    {oc_FI kV_FI doc_FI pm_FI cdv_FI ct_FI : Value} {od_FI an_FI : Option Addr} {osl_FI : Array (Option Value)} {oc_Cho kV_Cho doc_Cho pm_Cho cdv_Cho ct_Cho : Value} {od_Cho an_Cho : Option Addr} {osl_Cho : Array (Option Value)} {oc_GMo kV_GMo doc_GMo pm_GMo cdv_GMo ct_GMo : Value} {od_GMo an_GMo : Option Addr} {osl_GMo : Array (Option Value)} {oc_CTC kV_CTC doc_CTC pm_CTC cdv_CTC ct_CTC : Value} {od_CTC an_CTC : Option Addr} {osl_CTC : Array (Option Value)} {oc_CAh kV_CAh doc_CAh pm_CAh cdv_CAh ct_CAh : Value} {od_CAh an_CAh : Option Addr} {osl_CAh : Array (Option Value)} {oc_PTL kV_PTL doc_PTL pm_PTL cdv_PTL ct_PTL : Value} {od_PTL an_PTL : Option Addr} {osl_PTL : Array (Option Value)} (X : K.In h) (G : h.Ns mainGlobals mg)
    (b_isi : PySem.W.nsIn K mainGlobals "isinstance" = some none)
    (b_int : PySem.W.nsIn K mainGlobals "int" = some none)
    (b_bool : PySem.W.nsIn K mainGlobals "bool" = some none)
    (b_range : PySem.W.nsIn K mainGlobals "range" = some none)
    (b_len : PySem.W.nsIn K mainGlobals "len" = some none)
    (b_list : PySem.W.nsIn K mainGlobals "list" = some none)
    (b_sum : PySem.W.nsIn K mainGlobals "sum" = some none)
    (b_all : PySem.W.nsIn K mainGlobals "all" = some none)
    (b_any : PySem.W.nsIn K mainGlobals "any" = some none)
    (b_tuple : PySem.W.nsIn K mainGlobals "tuple" = some none)
    (b_zip : PySem.W.nsIn K mainGlobals "zip" = some none)
    (b_abs : PySem.W.nsIn K mainGlobals "abs" = some none)
    (b_enum : PySem.W.nsIn K mainGlobals "enumerate" = some none)
    (b_max : PySem.W.nsIn K mainGlobals "max" = some none)
    (b_str : PySem.W.nsIn K mainGlobals "str" = some none)
    (b_sorted : PySem.W.nsIn K mainGlobals "sorted" = some none)
    (b_min : PySem.W.nsIn K mainGlobals "min" = some none)
    (ev : PySem.W.nsIn K mainGlobals "EVENLY" = some (some (.int 60 tk_ev)))
    (mAL : PySem.W.nsIn K mainGlobals "ALONE" = some (some (.ref AL)))
    (lkAL : K.lookup AL = some ⟨.type "tuple", none, .seq #[.int 1 t_AL0, .int 2 t_AL1, .int 4 t_AL2, .int 8 t_AL3, .int 16 t_AL4, .int 32 t_AL5] n_AL, osl_AL⟩)
    (mLN : PySem.W.nsIn K mainGlobals "LENGTHS" = some (some (.ref LN)))
    (lkLN : K.lookup LN = some ⟨.type "tuple", none, .seq #[.int 1 t_LN0, .int 2 t_LN1, .int 4 t_LN2, .int 8 t_LN3, .int 16 t_LN4, .int 32 t_LN5, .int 64 t_LN6] n_LN, osl_LN⟩)
    (mp : PySem.W.nsIn K mainGlobals "MOST_PLACES" = some (some (.int 8 tk_mp)))
    (mc : PySem.W.nsIn K mainGlobals "MOST_COLUMNS" = some (some (.int 70 tk_mc)))
    (mFR : PySem.W.nsIn K mainGlobals "Frame" = some (some (.ref FR)))
    (pgFR : PySem.W.plainGet K FR Str.empty = true)
    (hdFR : PySem.W.hasDictIn K FR = true)
    (poFR : PySem.W.plainOver K FR = true)
    (saFR : PySem.W.findIn K (.ref FR) "__setattr__" = some (some (.builtin "object.__setattr__")))
    (caFR : PySem.W.findIn K (.ref FR) "__class__" = some (some (.builtin "object.__class__")))
    (moFR : PySem.W.mroIn K FR (.type "object") = some true)
    (nmFR : PySem.W.findIn K (.ref FR) "many" = some none)
    (nbFR : PySem.W.findIn K (.ref FR) "bottom" = some none)
    (nrFR : PySem.W.findIn K (.ref FR) "rows" = some none)
    (ncFR : PySem.W.findIn K (.ref FR) "chosen" = some none)
    (f1FR : PySem.W.findIn K (.ref FR) "choose" = some (some (.ref fCh)))
    (f2FR : PySem.W.findIn K (.ref FR) "gains_more" = some (some (.ref fGM)))
    (f3FR : PySem.W.findIn K (.ref FR) "column_to_choose" = some (some (.ref fCC)))
    (f4FR : PySem.W.findIn K (.ref FR) "comes_ahead" = some (some (.ref fCA)))
    (f5FR : PySem.W.findIn K (.ref FR) "place_to_leave" = some (some (.ref fPL)))
    (mkFR : PySem.W.makesIn K FR = true)
    (fiFR : PySem.W.findIn K (.ref FR) "__init__" = some (some (.ref iF)))
    (kkFR : PySem.W.keepIn K (.ref FR) = true)
    (lFI : K.lookup iF = some ⟨oc_FI, od_FI, .func (PySem.W.fnOf "__init__" "Frame.__init__" (defArgs sFI) (defBody sFI) (defScope sFI) .none kV_FI doc_FI pm_FI an_FI cdv_FI ct_FI), osl_FI⟩)
    (cdFI : PySem.W.codeIn K cdv_FI "Frame.__init__" = true)
    (kpFI : PySem.W.keepIn K (.ref iF) = true)
    (fnFI : PySem.W.isFn K (.ref iF) = true)
    (lCho : K.lookup fCh = some ⟨oc_Cho, od_Cho, .func (PySem.W.fnOf "choose" "Frame.choose" (defArgs sCho) (defBody sCho) (defScope sCho) .none kV_Cho doc_Cho pm_Cho an_Cho cdv_Cho ct_Cho), osl_Cho⟩)
    (cdCho : PySem.W.codeIn K cdv_Cho "Frame.choose" = true)
    (kpCho : PySem.W.keepIn K (.ref fCh) = true)
    (fnCho : PySem.W.isFn K (.ref fCh) = true)
    (lGMo : K.lookup fGM = some ⟨oc_GMo, od_GMo, .func (PySem.W.fnOf "gains_more" "Frame.gains_more" (defArgs sGMo) (defBody sGMo) (defScope sGMo) .none kV_GMo doc_GMo pm_GMo an_GMo cdv_GMo ct_GMo), osl_GMo⟩)
    (cdGMo : PySem.W.codeIn K cdv_GMo "Frame.gains_more" = true)
    (kpGMo : PySem.W.keepIn K (.ref fGM) = true)
    (fnGMo : PySem.W.isFn K (.ref fGM) = true)
    (lCTC : K.lookup fCC = some ⟨oc_CTC, od_CTC, .func (PySem.W.fnOf "column_to_choose" "Frame.column_to_choose" (defArgs sCTC) (defBody sCTC) (defScope sCTC) .none kV_CTC doc_CTC pm_CTC an_CTC cdv_CTC ct_CTC), osl_CTC⟩)
    (cdCTC : PySem.W.codeIn K cdv_CTC "Frame.column_to_choose" = true)
    (kpCTC : PySem.W.keepIn K (.ref fCC) = true)
    (fnCTC : PySem.W.isFn K (.ref fCC) = true)
    (lCAh : K.lookup fCA = some ⟨oc_CAh, od_CAh, .func (PySem.W.fnOf "comes_ahead" "Frame.comes_ahead" (defArgs sCAh) (defBody sCAh) (defScope sCAh) .none kV_CAh doc_CAh pm_CAh an_CAh cdv_CAh ct_CAh), osl_CAh⟩)
    (cdCAh : PySem.W.codeIn K cdv_CAh "Frame.comes_ahead" = true)
    (kpCAh : PySem.W.keepIn K (.ref fCA) = true)
    (fnCAh : PySem.W.isFn K (.ref fCA) = true)
    (lPTL : K.lookup fPL = some ⟨oc_PTL, od_PTL, .func (PySem.W.fnOf "place_to_leave" "Frame.place_to_leave" (defArgs sPTL) (defBody sPTL) (defScope sPTL) .none kV_PTL doc_PTL pm_PTL an_PTL cdv_PTL ct_PTL), osl_PTL⟩)
    (cdPTL : PySem.W.codeIn K cdv_PTL "Frame.place_to_leave" = true)
    (kpPTL : PySem.W.keepIn K (.ref fPL) = true)
    (fnPTL : PySem.W.isFn K (.ref fPL) = true)
    (mSE : PySem.W.nsIn K mainGlobals "ShareError" = some (some (.ref SE)))
    (mNN : PySem.W.nsIn K mainGlobals "NoNumber" = some (some (.ref NN)))
    (mNG : PySem.W.nsIn K mainGlobals "NoGroup" = some (some (.ref NG)))
    (mNT : PySem.W.nsIn K mainGlobals "NoTable" = some (some (.ref NT)))
    (mNO : PySem.W.nsIn K mainGlobals "NoOrder" = some (some (.ref NO)))
    (mNR : PySem.W.nsIn K mainGlobals "NoRows" = some (some (.ref NR)))
    (mNS : PySem.W.nsIn K mainGlobals "NoShares" = some (some (.ref NS)))
    (c6 : PySem.W.specialIn K (.builtin "object.__class__") "__get__" = some (some (.builtin "getset_descriptor.__get__")))
    (c7 : PySem.W.takesIn K (.builtin "object.__class__") = some true)
    (SE2 : PySem.W.typeIn K (.ref SE) = some (.type "type"))
    (SE3 : PySem.W.findIn K (.ref SE) "__getattribute__" = some (some (.builtin "BaseException.__getattribute__")))
    (SE4 : PySem.W.findIn K (.ref SE) "__getattr__" = some none)
    (SE5 : PySem.W.findIn K (.ref SE) "__class__" = some (some (.builtin "object.__class__")))
    (SE8 : PySem.W.mroIn K SE (.type "object") = some true)
    (SE9 : PySem.W.mroIn K SE (.type "BaseException") = some true)
    (xNN : PySem.W.excIn K NN bmV "ValueError.__new__" = true)
    (xNR : PySem.W.excIn K NR bmV "ValueError.__new__" = true)
    (xNG : PySem.W.excIn K NG bmV "ValueError.__new__" = true)
    (xNT : PySem.W.excIn K NT bmV "ValueError.__new__" = true)
    (xNO : PySem.W.excIn K NO bmV "ValueError.__new__" = true)
    (xNS : PySem.W.excIn K NS bmV "ValueError.__new__" = true) :
    ∃ AL LN FR iF fCh fGM fCC fCA fPL SE NN NG NT NO NR NS, T K mg AL LN FR iF fCh fGM fCC fCA fPL SE NN NG NT NO NR NS :=
  ⟨AL, LN, FR, iF, fCh, fGM, fCC, fCA, fPL, SE, NN, NG, NT, NO, NR, NS, PySem.W.mg_none_of X G b_isi, PySem.W.mg_none_of X G b_int, PySem.W.mg_none_of X G b_bool, PySem.W.mg_none_of X G b_range, PySem.W.mg_none_of X G b_len, PySem.W.mg_none_of X G b_list, PySem.W.mg_none_of X G b_sum, PySem.W.mg_none_of X G b_all, PySem.W.mg_none_of X G b_any, PySem.W.mg_none_of X G b_tuple, PySem.W.mg_none_of X G b_zip, PySem.W.mg_none_of X G b_abs, PySem.W.mg_none_of X G b_enum, PySem.W.mg_none_of X G b_max, PySem.W.mg_none_of X G b_str, PySem.W.mg_none_of X G b_sorted, PySem.W.mg_none_of X G b_min, ⟨tk_ev, PySem.W.mg_of X G ev⟩, PySem.W.mg_of X G mAL, fun _ => .inr ⟨_, _, _, lkAL, rfl, rfl, by show 6 ≤ sizeLine; decide, .cons ⟨_, rfl⟩ (.cons ⟨_, rfl⟩ (.cons ⟨_, rfl⟩ (.cons ⟨_, rfl⟩ (.cons ⟨_, rfl⟩ (.cons ⟨_, rfl⟩ .nil)))))⟩, PySem.W.mg_of X G mLN, fun _ => .inr ⟨_, _, _, lkLN, rfl, rfl, by show 7 ≤ sizeLine; decide, .cons ⟨_, rfl⟩ (.cons ⟨_, rfl⟩ (.cons ⟨_, rfl⟩ (.cons ⟨_, rfl⟩ (.cons ⟨_, rfl⟩ (.cons ⟨_, rfl⟩ (.cons ⟨_, rfl⟩ .nil))))))⟩, ⟨_, lkLN, rfl, rfl⟩, ⟨tk_mp, PySem.W.mg_of X G mp⟩, ⟨tk_mc, PySem.W.mg_of X G mc⟩, PySem.W.mg_of X G mFR, ⟨⟨⟨pgFR, hdFR, poFR, saFR⟩, caFR, c6, c7, moFR⟩, nmFR, nbFR, nrFR, ncFR, ⟨f1FR, fnCho, kpCho⟩, ⟨f2FR, fnGMo, kpGMo⟩, ⟨f3FR, fnCTC, kpCTC⟩, ⟨f4FR, fnCAh, kpCAh⟩, ⟨f5FR, fnPTL, kpPTL⟩⟩, ⟨mkFR, fiFR, fnFI, kkFR⟩, mx_mk lFI cdFI kpFI (fun _ _ _ _ _ _ us hl => match us, hl with | [_, _, _], _ => rfl), mx_mk lCho cdCho kpCho (fun _ _ _ _ _ _ us hl => match us, hl with | [_, _, _], _ => rfl), mx_mk lGMo cdGMo kpGMo (fun _ _ _ _ _ _ us hl => match us, hl with | [_, _, _], _ => rfl), mx_mk lCTC cdCTC kpCTC (fun _ _ _ _ _ _ us hl => match us, hl with | [_, _], _ => rfl), mx_mk lCAh cdCAh kpCAh (fun _ _ _ _ _ _ us hl => match us, hl with | [_, _, _, _], _ => rfl), mx_mk lPTL cdPTL kpPTL (fun _ _ _ _ _ _ us hl => match us, hl with | [_, _], _ => rfl), PySem.W.mg_of X G mSE, PySem.W.mg_of X G mNN, PySem.W.mg_of X G mNG, PySem.W.mg_of X G mNT, PySem.W.mg_of X G mNO, PySem.W.mg_of X G mNR, PySem.W.mg_of X G mNS, exc_mk SE2 SE3 SE4 SE5 c6 c7 SE8 SE9, xNN, xNR, xNG, xNT, xNO, xNS⟩
theorem walk {l : PySem.W.OpenLaw} {q : Program} {loose : List Str} {XP : (Str → Option Value) → Heap → Prop} {YP : World → Heap → Prop} {d : DefRec} {K : Params → PySem.W.Frag} (hn : l.most = some 63) (hdf : d.params.defaults = [])
    (hY : ∀ (w : World) (h : Heap), YP w h → (K w.params).In h)
    (F : ∀ (w : World) (mg : Str → Option Value) (fa : Addr) (h : Heap), (K w.params).In h → h.Ns mainGlobals mg → mg d.name = some (.ref fa) →
      ∃ fd : FuncData, (∀ (s : Shared) (u : Value), BindsTo s fd ⟨[u], []⟩ [("_law_script", u)]) ∧ ∀ base : Heap, (K w.params).In base → base.Ns mainGlobals mg → FnOk l.prog w (K w.params) mg base CX0 10 fa fd ["_law_script"] (spLaw (K w.params))) :
    PySem.W.WalkO q loose XP YP l.row.toRowW d [] (fun f vs => PySem.call f vs) :=
  L2.walk_of (n := 63) (k := 10) (x := "_law_script") (CX := fun _ => CX0) (sp := fun w => spLaw (K w.params)) hn (by decide) hdf ⟨rfl, by decide, by decide⟩ hY F (fun _ _ a ns hl _ hS => ⟨a, ns, rfl, hS, hl, fun _ => rfl⟩) fun _ _ _ _ _ z => z
theorem all_ok {P : Program} {w : World} {K : PySem.W.Frag} {mg : Str → Option Value} {fa : Addr} (hfa : mg "law" = some (.ref fa)) (hT : ∃ AL LN FR iF fCh fGM fCC fCA fPL SE NN NG NT NO NR NS, T K mg AL LN FR iF fCh fGM fCC fCA fPL SE NN NG NT NO NR NS)
    (t_sNum : ∃ f fd, Tx K mg "is_number" sNum ["thing"] f fd)
    (t_sGcd : ∃ f fd, Tx K mg "greatest_divisor" sGcd ["one", "other"] f fd)
    (t_sFr : ∃ f fd, Tx K mg "fraction" sFr ["top", "bottom"] f fd)
    (t_sAreN : ∃ f fd, Tx K mg "are_numbers" sAreN ["thing", "least", "most"] f fd)
    (t_sCkR : ∃ f fd, Tx K mg "check_rows" sCkR ["columns", "due", "gains"] f fd)
    (t_sSgn : ∃ f fd, Tx K mg "sign_of" sSgn ["number"] f fd)
    (t_sFRw : ∃ f fd, Tx K mg "first_row" sFRw ["columns", "due", "place"] f fd)
    (t_sClr : ∃ f fd, Tx K mg "cleared" sClr ["row", "lead", "column", "bottom"] f fd)
    (t_sClb : ∃ f fd, Tx K mg "climb" sClb ["frame", "gains"] f fd)
    (t_sSpP : ∃ f fd, Tx K mg "spare_places" sSpP ["frame"] f fd)
    (t_sLvS : ∃ f fd, Tx K mg "leave_spares" sLvS ["frame"] f fd)
    (t_sWtO : ∃ f fd, Tx K mg "weights_of" sWtO ["frame"] f fd)
    (t_sPrO : ∃ f fd, Tx K mg "prices_of" sPrO ["frame", "gains", "due"] f fd)
    (t_sWyO : ∃ f fd, Tx K mg "way_of" sWyO ["frame", "growing"] f fd)
    (t_sWgh : ∃ f fd, Tx K mg "weigh" sWgh ["columns", "due", "gains"] f fd)
    (t_sWith : ∃ f fd, Tx K mg "is_number_within" sWith ["thing", "least", "most"] f fd)
    (t_sPlu : ∃ f fd, Tx K mg "plus" sPlu ["one", "other"] f fd)
    (t_sWC : ∃ f fd, Tx K mg "whole_company" sWC ["many"] f fd)
    (t_sChk : ∃ f fd, Tx K mg "check_group" sChk ["group", "many"] f fd)
    (t_sHnd : ∃ f fd, Tx K mg "hands_of" sHnd ["group"] f fd)
    (t_sMrk : ∃ f fd, Tx K mg "marks_of" sMrk ["group", "many"] f fd)
    (t_sIsT : ∃ f fd, Tx K mg "is_table" sIsT ["thing"] f fd)
    (t_sHin : ∃ f fd, Tx K mg "hands_in" sHin ["table"] f fd)
    (t_sSho : ∃ f fd, Tx K mg "share_of" sSho ["group", "shares"] f fd)
    (t_sSta : ∃ f fd, Tx K mg "stable" sSta ["table"] f fd)
    (t_sPts : ∃ f fd, Tx K mg "parts_of" sPts ["group"] f fd)
    (t_sSop : ∃ f fd, Tx K mg "sum_of_parts" sSop ["numbers", "group"] f fd)
    (t_sDvd : ∃ f fd, Tx K mg "dividends" sDvd ["table"] f fd)
    (t_sIsF : ∃ f fd, Tx K mg "is_fraction" sIsF ["thing"] f fd)
    (t_sUnd : ∃ f fd, Tx K mg "under" sUnd ["one", "other"] f fd)
    (t_sIor : ∃ f fd, Tx K mg "is_order" sIor ["order", "many"] f fd)
    (t_sOsh : ∃ f fd, Tx K mg "order_shares" sOsh ["table", "order"] f fd)
    (t_sMsh : ∃ f fd, Tx K mg "mean_share" sMsh ["parting", "hand"] f fd)
    (t_sMss : ∃ f fd, Tx K mg "mean_shares" sMss ["table"] f fd)
    (t_sSwl : ∃ f fd, Tx K mg "swells" sSwl ["table"] f fd)
    (t_sCks : ∃ f fd, Tx K mg "check_shares" sCks ["shares", "many"] f fd)
    (t_sBet : ∃ f fd, Tx K mg "bettering" sBet ["table", "shares"] f fd)
    (t_sCel : ∃ f fd, Tx K mg "_law_cell" sCel ["_law_script", "_law_k"] f fd)
    (t_sDrw : ∃ f fd, Tx K mg "_law_draws" sDrw ["_law_script"] f fd)
    (t_sWho : ∃ f fd, Tx K mg "_law_whole" sWho ["_law_found"] f fd)
    (t_sDiv : ∃ f fd, Tx K mg "_law_divisor" sDiv ["_law_one", "_law_other"] f fd)
    (t_sLFr : ∃ f fd, Tx K mg "_law_fraction" sLFr ["_law_found"] f fd)
    (t_sLFs : ∃ f fd, Tx K mg "_law_fractions" sLFs ["_law_found", "_law_many"] f fd)
    (t_sLow : ∃ f fd, Tx K mg "_law_low" sLow ["_law_numbers"] f fd)
    (t_sTop : ∃ f fd, Tx K mg "_law_tops" sTop ["_law_numbers", "_law_low_here"] f fd)
    (t_sShr : ∃ f fd, Tx K mg "_law_share" sShr ["_law_tops_here", "_law_group"] f fd)
    (t_sDrn : ∃ f fd, Tx K mg "_law_drawn" sDrn ["_law_script", "_law_many"] f fd)
    (t_sLSw : ∃ f fd, Tx K mg "_law_swells" sLSw ["_law_table", "_law_many"] f fd)
    (t_sOro : ∃ f fd, Tx K mg "_law_order" sOro ["_law_cell_here", "_law_many"] f fd)
    (t_sLSt : ∃ f fd, Tx K mg "_law_stable" sLSt ["_law_table", "_law_shares"] f fd)
    (t_sByO : ∃ f fd, Tx K mg "_law_by_order" sByO ["_law_table", "_law_order_here"] f fd)
    (t_sTwG : ∃ f fd, Tx K mg "_law_two_groups" sTwG ["_law_found", "_law_table"] f fd)
    (t_sLaw : ∃ f fd, Tx K mg "law" sLaw ["_law_script"] f fd)
    : ∃ fd : FuncData, (∀ (s : Shared) (u : Value), BindsTo s fd ⟨[u], []⟩ [("_law_script", u)]) ∧ ∀ base : Heap, K.In base → base.Ns mainGlobals mg → FnOk P w K mg base CX0 10 fa fd ["_law_script"] (spLaw K) := by
  obtain ⟨AL, LN, FR, iF, fCh, fGM, fCC, fCA, fPL, SE, NN, NG, NT, NO, NR, NS, T⟩ := hT
  obtain ⟨f_sNum, fd_sNum, t_sNum⟩ := t_sNum
  obtain ⟨f_sGcd, fd_sGcd, t_sGcd⟩ := t_sGcd
  obtain ⟨f_sFr, fd_sFr, t_sFr⟩ := t_sFr
  obtain ⟨f_sAreN, fd_sAreN, t_sAreN⟩ := t_sAreN
  obtain ⟨f_sCkR, fd_sCkR, t_sCkR⟩ := t_sCkR
  obtain ⟨f_sSgn, fd_sSgn, t_sSgn⟩ := t_sSgn
  obtain ⟨f_sFRw, fd_sFRw, t_sFRw⟩ := t_sFRw
  obtain ⟨f_sClr, fd_sClr, t_sClr⟩ := t_sClr
  obtain ⟨f_sClb, fd_sClb, t_sClb⟩ := t_sClb
  obtain ⟨f_sSpP, fd_sSpP, t_sSpP⟩ := t_sSpP
  obtain ⟨f_sLvS, fd_sLvS, t_sLvS⟩ := t_sLvS
  obtain ⟨f_sWtO, fd_sWtO, t_sWtO⟩ := t_sWtO
  obtain ⟨f_sPrO, fd_sPrO, t_sPrO⟩ := t_sPrO
  obtain ⟨f_sWyO, fd_sWyO, t_sWyO⟩ := t_sWyO
  obtain ⟨f_sWgh, fd_sWgh, t_sWgh⟩ := t_sWgh
  obtain ⟨f_sWith, fd_sWith, t_sWith⟩ := t_sWith
  obtain ⟨f_sPlu, fd_sPlu, t_sPlu⟩ := t_sPlu
  obtain ⟨f_sWC, fd_sWC, t_sWC⟩ := t_sWC
  obtain ⟨f_sChk, fd_sChk, t_sChk⟩ := t_sChk
  obtain ⟨f_sHnd, fd_sHnd, t_sHnd⟩ := t_sHnd
  obtain ⟨f_sMrk, fd_sMrk, t_sMrk⟩ := t_sMrk
  obtain ⟨f_sIsT, fd_sIsT, t_sIsT⟩ := t_sIsT
  obtain ⟨f_sHin, fd_sHin, t_sHin⟩ := t_sHin
  obtain ⟨f_sSho, fd_sSho, t_sSho⟩ := t_sSho
  obtain ⟨f_sSta, fd_sSta, t_sSta⟩ := t_sSta
  obtain ⟨f_sPts, fd_sPts, t_sPts⟩ := t_sPts
  obtain ⟨f_sSop, fd_sSop, t_sSop⟩ := t_sSop
  obtain ⟨f_sDvd, fd_sDvd, t_sDvd⟩ := t_sDvd
  obtain ⟨f_sIsF, fd_sIsF, t_sIsF⟩ := t_sIsF
  obtain ⟨f_sUnd, fd_sUnd, t_sUnd⟩ := t_sUnd
  obtain ⟨f_sIor, fd_sIor, t_sIor⟩ := t_sIor
  obtain ⟨f_sOsh, fd_sOsh, t_sOsh⟩ := t_sOsh
  obtain ⟨f_sMsh, fd_sMsh, t_sMsh⟩ := t_sMsh
  obtain ⟨f_sMss, fd_sMss, t_sMss⟩ := t_sMss
  obtain ⟨f_sSwl, fd_sSwl, t_sSwl⟩ := t_sSwl
  obtain ⟨f_sCks, fd_sCks, t_sCks⟩ := t_sCks
  obtain ⟨f_sBet, fd_sBet, t_sBet⟩ := t_sBet
  obtain ⟨f_sCel, fd_sCel, t_sCel⟩ := t_sCel
  obtain ⟨f_sDrw, fd_sDrw, t_sDrw⟩ := t_sDrw
  obtain ⟨f_sWho, fd_sWho, t_sWho⟩ := t_sWho
  obtain ⟨f_sDiv, fd_sDiv, t_sDiv⟩ := t_sDiv
  obtain ⟨f_sLFr, fd_sLFr, t_sLFr⟩ := t_sLFr
  obtain ⟨f_sLFs, fd_sLFs, t_sLFs⟩ := t_sLFs
  obtain ⟨f_sLow, fd_sLow, t_sLow⟩ := t_sLow
  obtain ⟨f_sTop, fd_sTop, t_sTop⟩ := t_sTop
  obtain ⟨f_sShr, fd_sShr, t_sShr⟩ := t_sShr
  obtain ⟨f_sDrn, fd_sDrn, t_sDrn⟩ := t_sDrn
  obtain ⟨f_sLSw, fd_sLSw, t_sLSw⟩ := t_sLSw
  obtain ⟨f_sOro, fd_sOro, t_sOro⟩ := t_sOro
  obtain ⟨f_sLSt, fd_sLSt, t_sLSt⟩ := t_sLSt
  obtain ⟨f_sByO, fd_sByO, t_sByO⟩ := t_sByO
  obtain ⟨f_sTwG, fd_sTwG, t_sTwG⟩ := t_sTwG
  obtain ⟨f_sLaw, fd_sLaw, t_sLaw⟩ := t_sLaw
  have e := hfa.symm.trans t_sLaw.at_
  cases e
  refine ⟨fd_sLaw, fun s u => .of_eq (t_sLaw.bd [u] rfl), fun base _ _ => ?_⟩
  obtain ⟨m1, x1⟩ := T.xFI
  obtain ⟨m2, x2⟩ := T.xCho
  obtain ⟨m3, x3⟩ := T.xGMo
  obtain ⟨m4, x4⟩ := T.xCTC
  obtain ⟨m5, x5⟩ := T.xCAh
  obtain ⟨m6, x6⟩ := T.xPTL
  have d0 := ok_num (P := P) (w := w) (base := base) t_sNum T
  have d1 := ok_gcd (P := P) (w := w) (base := base) t_sGcd T
  have d2 := ok_fr t_sFr T d0 d1
  have d3 := ok_aren t_sAreN T d0
  have d4 := ok_ckr t_sCkR T d3
  have d5 := ok_sgn (mg := mg) (P := P) (w := w) (base := base) t_sSgn
  have d6 := ok_frw t_sFRw T d5
  have d7 := ok_clr (P := P) (w := w) (base := base) t_sClr T
  have eI := ok_fi x1 T d6
  have eC := ok_cho x2 T d5 d7
  have eG := ok_gmo (P := P) (w := w) (base := base) x3 T
  have eT := ok_ctc x4 T eG
  have eA := ok_cah (P := P) (w := w) (base := base) x5 T
  have eP := ok_ptl x6 T eA
  have d8 := ok_clb t_sClb T eT eP eC
  have d9 := ok_spp (P := P) (w := w) (base := base) t_sSpP T
  have d10 := ok_lvs t_sLvS T d9 eC
  have d11 := ok_wto t_sWtO T d2
  have d12 := ok_pro t_sPrO T d2 d5
  have d13 := ok_wyo t_sWyO T d2
  have dW := ok_wgh t_sWgh T d4 eI d8 d9 d10 d11 d12 d13
  have v0 := ok_with (P := P) (w := w) (base := base) t_sWith d0
  have v1 := ok_ist t_sIsT T d0
  have v2 := ok_hin t_sHin T v1
  have v3 := ok_mrk (P := P) (w := w) (base := base) t_sMrk T
  have v4 := ok_wc (P := P) (w := w) (base := base) t_sWC T
  have v5 := ok_chk t_sChk T v0 v4
  have v6 := ok_hnd t_sHnd T v5
  have v7 := ok_plu t_sPlu T d2
  have v8 := ok_sho t_sSho T v6 v7
  have dS := ok_sta t_sSta T v2 v4 v3 dW v8
  have e1 := ok_dvd t_sDvd T v2 v4 (ok_sop t_sSop T (ok_pts t_sPts T v5))
  have e2 := ok_mss t_sMss T v2 e1 (ok_msh t_sMsh T v6 d2)
  have e3 := ok_osh t_sOsh T v2 (ok_ior t_sIor T v0)
  have e4 := ok_swl t_sSwl T v2
  have e5 := ok_bet t_sBet T v2 (ok_cks t_sCks T (ok_isf t_sIsF T d0 d1)) (ok_und (P := P) (w := w) (base := base) t_sUnd T) v8
  have c1 := ok_cel (P := P) (w := w) (base := base) t_sCel T
  have l1 := ok_who (P := P) (w := w) (base := base) t_sWho T
  have l2 := ok_div (P := P) (w := w) (base := base) t_sDiv T
  have l3 := ok_lfr t_sLFr T l1 l2
  have l4 := ok_lfs t_sLFs T l3
  have l5 := ok_low t_sLow T l2
  have l6 := ok_top (P := P) (w := w) (base := base) t_sTop T
  have c4 := ok_shr (P := P) (w := w) (base := base) t_sShr T
  have c5 := ok_lst t_sLSt T l4 l5 l6 c4 e5
  have c6 := ok_byo t_sByO T e3 l1 c5
  exact (ok_law t_sLaw T (ok_drw (P := P) (w := w) (base := base) t_sDrw T) c1 (ok_drn t_sDrn T c1) e4 (ok_lsw (P := P) (w := w) (base := base) t_sLSw T) (ok_twg t_sTwG T l1) c6 (ok_oro (P := P) (w := w) (base := base) t_sOro T) e2 c5 dS).ok
end K62
open PySem PySem.W PyProof.Rows
set_option maxRecDepth 100000 in
set_option maxHeartbeats 0 in
theorem PySem.Challenge.cw_shareparley_k62_whole_swelling_orders_ar_holds : PySem.Challenge.rw_shareparley_k62_whole_swelling_orders_ar.Holds := by
  w_on; o_law; k_head; (case hw => w_witness2)
  k_fill
  refine K62.walk (l := PySem.Challenge.rw_shareparley_k62_whole_swelling_orders_ar) rfl rfl (fun w h Y => PySem.W.kIn_of Y) ?F
  case F =>
    intro w mg fa h KX G hmg
    refine K62.all_ok hmg ?T ?t_sNum ?t_sGcd ?t_sFr ?t_sAreN ?t_sCkR ?t_sSgn ?t_sFRw ?t_sClr ?t_sClb ?t_sSpP ?t_sLvS ?t_sWtO ?t_sPrO ?t_sWyO ?t_sWgh ?t_sWith ?t_sPlu ?t_sWC ?t_sChk ?t_sHnd ?t_sMrk ?t_sIsT ?t_sHin ?t_sSho ?t_sSta ?t_sPts ?t_sSop ?t_sDvd ?t_sIsF ?t_sUnd ?t_sIor ?t_sOsh ?t_sMsh ?t_sMss ?t_sSwl ?t_sCks ?t_sBet ?t_sCel ?t_sDrw ?t_sWho ?t_sDiv ?t_sLFr ?t_sLFs ?t_sLow ?t_sTop ?t_sShr ?t_sDrn ?t_sLSw ?t_sOro ?t_sLSt ?t_sByO ?t_sTwG ?t_sLaw
    case T =>
      refine' K62.T_mk KX G ?b_isi ?b_int ?b_bool ?b_range ?b_len ?b_list ?b_sum ?b_all ?b_any ?b_tuple ?b_zip ?b_abs ?b_enum ?b_max ?b_str ?b_sorted ?b_min ?ev ?mAL ?lkAL ?mLN ?lkLN ?mp ?mc ?mFR ?pgFR ?hdFR ?poFR ?saFR ?caFR ?moFR ?nmFR ?nbFR ?nrFR ?ncFR ?f1FR ?f2FR ?f3FR ?f4FR ?f5FR ?mkFR ?fiFR ?kkFR ?lFI ?cdFI ?kpFI ?fnFI ?lCho ?cdCho ?kpCho ?fnCho ?lGMo ?cdGMo ?kpGMo ?fnGMo ?lCTC ?cdCTC ?kpCTC ?fnCTC ?lCAh ?cdCAh ?kpCAh ?fnCAh ?lPTL ?cdPTL ?kpPTL ?fnPTL ?mSE ?mNN ?mNG ?mNT ?mNO ?mNR ?mNS ?c6 ?c7 ?SE2 ?SE3 ?SE4 ?SE5 ?SE8 ?SE9 ?xNN ?xNR ?xNG ?xNT ?xNO ?xNS
      (case b_isi => k_is)
      (case b_int => k_is)
      (case b_bool => k_is)
      (case b_range => k_is)
      (case b_len => k_is)
      (case b_list => k_is)
      (case b_sum => k_is)
      (case b_all => k_is)
      (case b_any => k_is)
      (case b_tuple => k_is)
      (case b_zip => k_is)
      (case b_abs => k_is)
      (case b_enum => k_is)
      (case b_max => k_is)
      (case b_str => k_is)
      (case b_sorted => k_is)
      (case b_min => k_is)
      (case ev => k_is)
      (case mAL => k_is)
      (case lkAL => k_is)
      (case mLN => k_is)
      (case lkLN => k_is)
      (case mp => k_is)
      (case mc => k_is)
      (case mFR => k_is)
      (case pgFR => k_is)
      (case hdFR => k_is)
      (case poFR => k_is)
      (case saFR => k_is)
      (case caFR => k_is)
      (case moFR => k_is)
      (case nmFR => k_is)
      (case nbFR => k_is)
      (case nrFR => k_is)
      (case ncFR => k_is)
      (case f1FR => k_is)
      (case f2FR => k_is)
      (case f3FR => k_is)
      (case f4FR => k_is)
      (case f5FR => k_is)
      (case mkFR => k_is)
      (case fiFR => k_is)
      (case kkFR => k_is)
      (case lFI => k_is)
      (case cdFI => k_is)
      (case kpFI => k_is)
      (case fnFI => k_is)
      (case lCho => k_is)
      (case cdCho => k_is)
      (case kpCho => k_is)
      (case fnCho => k_is)
      (case lGMo => k_is)
      (case cdGMo => k_is)
      (case kpGMo => k_is)
      (case fnGMo => k_is)
      (case lCTC => k_is)
      (case cdCTC => k_is)
      (case kpCTC => k_is)
      (case fnCTC => k_is)
      (case lCAh => k_is)
      (case cdCAh => k_is)
      (case kpCAh => k_is)
      (case fnCAh => k_is)
      (case lPTL => k_is)
      (case cdPTL => k_is)
      (case kpPTL => k_is)
      (case fnPTL => k_is)
      (case mSE => k_is)
      (case mNN => k_is)
      (case mNG => k_is)
      (case mNT => k_is)
      (case mNO => k_is)
      (case mNR => k_is)
      (case mNS => k_is)
      (case c6 => k_is)
      (case c7 => k_is)
      (case SE2 => k_is)
      (case SE3 => k_is)
      (case SE4 => k_is)
      (case SE5 => k_is)
      (case SE8 => k_is)
      (case SE9 => k_is)
      (case xNN => k_exc)
      (case xNR => k_exc)
      (case xNG => k_exc)
      (case xNT => k_exc)
      (case xNO => k_exc)
      (case xNS => k_exc)
    case t_sNum =>
      refine' L2.tx_mk KX G ?a ?l ?c ?k (fun _ _ _ _ _ _ us hl => match us, hl with | [_], _ => rfl)
      (case a => k_is); (case l => k_is); (case c => k_is); (case k => k_is)
    case t_sGcd =>
      refine' L2.tx_mk KX G ?a ?l ?c ?k (fun _ _ _ _ _ _ us hl => match us, hl with | [_, _], _ => rfl)
      (case a => k_is); (case l => k_is); (case c => k_is); (case k => k_is)
    case t_sFr =>
      refine' L2.tx_mk KX G ?a ?l ?c ?k (fun _ _ _ _ _ _ us hl => match us, hl with | [_, _], _ => rfl)
      (case a => k_is); (case l => k_is); (case c => k_is); (case k => k_is)
    case t_sAreN =>
      refine' L2.tx_mk KX G ?a ?l ?c ?k (fun _ _ _ _ _ _ us hl => match us, hl with | [_, _, _], _ => rfl)
      (case a => k_is); (case l => k_is); (case c => k_is); (case k => k_is)
    case t_sCkR =>
      refine' L2.tx_mk KX G ?a ?l ?c ?k (fun _ _ _ _ _ _ us hl => match us, hl with | [_, _, _], _ => rfl)
      (case a => k_is); (case l => k_is); (case c => k_is); (case k => k_is)
    case t_sSgn =>
      refine' L2.tx_mk KX G ?a ?l ?c ?k (fun _ _ _ _ _ _ us hl => match us, hl with | [_], _ => rfl)
      (case a => k_is); (case l => k_is); (case c => k_is); (case k => k_is)
    case t_sFRw =>
      refine' L2.tx_mk KX G ?a ?l ?c ?k (fun _ _ _ _ _ _ us hl => match us, hl with | [_, _, _], _ => rfl)
      (case a => k_is); (case l => k_is); (case c => k_is); (case k => k_is)
    case t_sClr =>
      refine' L2.tx_mk KX G ?a ?l ?c ?k (fun _ _ _ _ _ _ us hl => match us, hl with | [_, _, _, _], _ => rfl)
      (case a => k_is); (case l => k_is); (case c => k_is); (case k => k_is)
    case t_sClb =>
      refine' L2.tx_mk KX G ?a ?l ?c ?k (fun _ _ _ _ _ _ us hl => match us, hl with | [_, _], _ => rfl)
      (case a => k_is); (case l => k_is); (case c => k_is); (case k => k_is)
    case t_sSpP =>
      refine' L2.tx_mk KX G ?a ?l ?c ?k (fun _ _ _ _ _ _ us hl => match us, hl with | [_], _ => rfl)
      (case a => k_is); (case l => k_is); (case c => k_is); (case k => k_is)
    case t_sLvS =>
      refine' L2.tx_mk KX G ?a ?l ?c ?k (fun _ _ _ _ _ _ us hl => match us, hl with | [_], _ => rfl)
      (case a => k_is); (case l => k_is); (case c => k_is); (case k => k_is)
    case t_sWtO =>
      refine' L2.tx_mk KX G ?a ?l ?c ?k (fun _ _ _ _ _ _ us hl => match us, hl with | [_], _ => rfl)
      (case a => k_is); (case l => k_is); (case c => k_is); (case k => k_is)
    case t_sPrO =>
      refine' L2.tx_mk KX G ?a ?l ?c ?k (fun _ _ _ _ _ _ us hl => match us, hl with | [_, _, _], _ => rfl)
      (case a => k_is); (case l => k_is); (case c => k_is); (case k => k_is)
    case t_sWyO =>
      refine' L2.tx_mk KX G ?a ?l ?c ?k (fun _ _ _ _ _ _ us hl => match us, hl with | [_, _], _ => rfl)
      (case a => k_is); (case l => k_is); (case c => k_is); (case k => k_is)
    case t_sWgh =>
      refine' L2.tx_mk KX G ?a ?l ?c ?k (fun _ _ _ _ _ _ us hl => match us, hl with | [_, _, _], _ => rfl)
      (case a => k_is); (case l => k_is); (case c => k_is); (case k => k_is)
    case t_sWith =>
      refine' L2.tx_mk KX G ?a ?l ?c ?k (fun _ _ _ _ _ _ us hl => match us, hl with | [_, _, _], _ => rfl)
      (case a => k_is); (case l => k_is); (case c => k_is); (case k => k_is)
    case t_sPlu =>
      refine' L2.tx_mk KX G ?a ?l ?c ?k (fun _ _ _ _ _ _ us hl => match us, hl with | [_, _], _ => rfl)
      (case a => k_is); (case l => k_is); (case c => k_is); (case k => k_is)
    case t_sWC =>
      refine' L2.tx_mk KX G ?a ?l ?c ?k (fun _ _ _ _ _ _ us hl => match us, hl with | [_], _ => rfl)
      (case a => k_is); (case l => k_is); (case c => k_is); (case k => k_is)
    case t_sChk =>
      refine' L2.tx_mk KX G ?a ?l ?c ?k (fun _ _ _ _ _ _ us hl => match us, hl with | [_, _], _ => rfl)
      (case a => k_is); (case l => k_is); (case c => k_is); (case k => k_is)
    case t_sHnd =>
      refine' L2.tx_mk KX G ?a ?l ?c ?k (fun _ _ _ _ _ _ us hl => match us, hl with | [_], _ => rfl)
      (case a => k_is); (case l => k_is); (case c => k_is); (case k => k_is)
    case t_sMrk =>
      refine' L2.tx_mk KX G ?a ?l ?c ?k (fun _ _ _ _ _ _ us hl => match us, hl with | [_, _], _ => rfl)
      (case a => k_is); (case l => k_is); (case c => k_is); (case k => k_is)
    case t_sIsT =>
      refine' L2.tx_mk KX G ?a ?l ?c ?k (fun _ _ _ _ _ _ us hl => match us, hl with | [_], _ => rfl)
      (case a => k_is); (case l => k_is); (case c => k_is); (case k => k_is)
    case t_sHin =>
      refine' L2.tx_mk KX G ?a ?l ?c ?k (fun _ _ _ _ _ _ us hl => match us, hl with | [_], _ => rfl)
      (case a => k_is); (case l => k_is); (case c => k_is); (case k => k_is)
    case t_sSho =>
      refine' L2.tx_mk KX G ?a ?l ?c ?k (fun _ _ _ _ _ _ us hl => match us, hl with | [_, _], _ => rfl)
      (case a => k_is); (case l => k_is); (case c => k_is); (case k => k_is)
    case t_sSta =>
      refine' L2.tx_mk KX G ?a ?l ?c ?k (fun _ _ _ _ _ _ us hl => match us, hl with | [_], _ => rfl)
      (case a => k_is); (case l => k_is); (case c => k_is); (case k => k_is)
    case t_sPts =>
      refine' L2.tx_mk KX G ?a ?l ?c ?k (fun _ _ _ _ _ _ us hl => match us, hl with | [_], _ => rfl)
      (case a => k_is); (case l => k_is); (case c => k_is); (case k => k_is)
    case t_sSop =>
      refine' L2.tx_mk KX G ?a ?l ?c ?k (fun _ _ _ _ _ _ us hl => match us, hl with | [_, _], _ => rfl)
      (case a => k_is); (case l => k_is); (case c => k_is); (case k => k_is)
    case t_sDvd =>
      refine' L2.tx_mk KX G ?a ?l ?c ?k (fun _ _ _ _ _ _ us hl => match us, hl with | [_], _ => rfl)
      (case a => k_is); (case l => k_is); (case c => k_is); (case k => k_is)
    case t_sIsF =>
      refine' L2.tx_mk KX G ?a ?l ?c ?k (fun _ _ _ _ _ _ us hl => match us, hl with | [_], _ => rfl)
      (case a => k_is); (case l => k_is); (case c => k_is); (case k => k_is)
    case t_sUnd =>
      refine' L2.tx_mk KX G ?a ?l ?c ?k (fun _ _ _ _ _ _ us hl => match us, hl with | [_, _], _ => rfl)
      (case a => k_is); (case l => k_is); (case c => k_is); (case k => k_is)
    case t_sIor =>
      refine' L2.tx_mk KX G ?a ?l ?c ?k (fun _ _ _ _ _ _ us hl => match us, hl with | [_, _], _ => rfl)
      (case a => k_is); (case l => k_is); (case c => k_is); (case k => k_is)
    case t_sOsh =>
      refine' L2.tx_mk KX G ?a ?l ?c ?k (fun _ _ _ _ _ _ us hl => match us, hl with | [_, _], _ => rfl)
      (case a => k_is); (case l => k_is); (case c => k_is); (case k => k_is)
    case t_sMsh =>
      refine' L2.tx_mk KX G ?a ?l ?c ?k (fun _ _ _ _ _ _ us hl => match us, hl with | [_, _], _ => rfl)
      (case a => k_is); (case l => k_is); (case c => k_is); (case k => k_is)
    case t_sMss =>
      refine' L2.tx_mk KX G ?a ?l ?c ?k (fun _ _ _ _ _ _ us hl => match us, hl with | [_], _ => rfl)
      (case a => k_is); (case l => k_is); (case c => k_is); (case k => k_is)
    case t_sSwl =>
      refine' L2.tx_mk KX G ?a ?l ?c ?k (fun _ _ _ _ _ _ us hl => match us, hl with | [_], _ => rfl)
      (case a => k_is); (case l => k_is); (case c => k_is); (case k => k_is)
    case t_sCks =>
      refine' L2.tx_mk KX G ?a ?l ?c ?k (fun _ _ _ _ _ _ us hl => match us, hl with | [_, _], _ => rfl)
      (case a => k_is); (case l => k_is); (case c => k_is); (case k => k_is)
    case t_sBet =>
      refine' L2.tx_mk KX G ?a ?l ?c ?k (fun _ _ _ _ _ _ us hl => match us, hl with | [_, _], _ => rfl)
      (case a => k_is); (case l => k_is); (case c => k_is); (case k => k_is)
    case t_sCel =>
      refine' L2.tx_mk KX G ?a ?l ?c ?k (fun _ _ _ _ _ _ us hl => match us, hl with | [_, _], _ => rfl)
      (case a => k_is); (case l => k_is); (case c => k_is); (case k => k_is)
    case t_sDrw =>
      refine' L2.tx_mk KX G ?a ?l ?c ?k (fun _ _ _ _ _ _ us hl => match us, hl with | [_], _ => rfl)
      (case a => k_is); (case l => k_is); (case c => k_is); (case k => k_is)
    case t_sWho =>
      refine' L2.tx_mk KX G ?a ?l ?c ?k (fun _ _ _ _ _ _ us hl => match us, hl with | [_], _ => rfl)
      (case a => k_is); (case l => k_is); (case c => k_is); (case k => k_is)
    case t_sDiv =>
      refine' L2.tx_mk KX G ?a ?l ?c ?k (fun _ _ _ _ _ _ us hl => match us, hl with | [_, _], _ => rfl)
      (case a => k_is); (case l => k_is); (case c => k_is); (case k => k_is)
    case t_sLFr =>
      refine' L2.tx_mk KX G ?a ?l ?c ?k (fun _ _ _ _ _ _ us hl => match us, hl with | [_], _ => rfl)
      (case a => k_is); (case l => k_is); (case c => k_is); (case k => k_is)
    case t_sLFs =>
      refine' L2.tx_mk KX G ?a ?l ?c ?k (fun _ _ _ _ _ _ us hl => match us, hl with | [_, _], _ => rfl)
      (case a => k_is); (case l => k_is); (case c => k_is); (case k => k_is)
    case t_sLow =>
      refine' L2.tx_mk KX G ?a ?l ?c ?k (fun _ _ _ _ _ _ us hl => match us, hl with | [_], _ => rfl)
      (case a => k_is); (case l => k_is); (case c => k_is); (case k => k_is)
    case t_sTop =>
      refine' L2.tx_mk KX G ?a ?l ?c ?k (fun _ _ _ _ _ _ us hl => match us, hl with | [_, _], _ => rfl)
      (case a => k_is); (case l => k_is); (case c => k_is); (case k => k_is)
    case t_sShr =>
      refine' L2.tx_mk KX G ?a ?l ?c ?k (fun _ _ _ _ _ _ us hl => match us, hl with | [_, _], _ => rfl)
      (case a => k_is); (case l => k_is); (case c => k_is); (case k => k_is)
    case t_sDrn =>
      refine' L2.tx_mk KX G ?a ?l ?c ?k (fun _ _ _ _ _ _ us hl => match us, hl with | [_, _], _ => rfl)
      (case a => k_is); (case l => k_is); (case c => k_is); (case k => k_is)
    case t_sLSw =>
      refine' L2.tx_mk KX G ?a ?l ?c ?k (fun _ _ _ _ _ _ us hl => match us, hl with | [_, _], _ => rfl)
      (case a => k_is); (case l => k_is); (case c => k_is); (case k => k_is)
    case t_sOro =>
      refine' L2.tx_mk KX G ?a ?l ?c ?k (fun _ _ _ _ _ _ us hl => match us, hl with | [_, _], _ => rfl)
      (case a => k_is); (case l => k_is); (case c => k_is); (case k => k_is)
    case t_sLSt =>
      refine' L2.tx_mk KX G ?a ?l ?c ?k (fun _ _ _ _ _ _ us hl => match us, hl with | [_, _], _ => rfl)
      (case a => k_is); (case l => k_is); (case c => k_is); (case k => k_is)
    case t_sByO =>
      refine' L2.tx_mk KX G ?a ?l ?c ?k (fun _ _ _ _ _ _ us hl => match us, hl with | [_, _], _ => rfl)
      (case a => k_is); (case l => k_is); (case c => k_is); (case k => k_is)
    case t_sTwG =>
      refine' L2.tx_mk KX G ?a ?l ?c ?k (fun _ _ _ _ _ _ us hl => match us, hl with | [_, _], _ => rfl)
      (case a => k_is); (case l => k_is); (case c => k_is); (case k => k_is)
    case t_sLaw =>
      refine' L2.tx_mk KX G ?a ?l ?c ?k (fun _ _ _ _ _ _ us hl => match us, hl with | [_], _ => rfl)
      (case a => k_is); (case l => k_is); (case c => k_is); (case k => k_is)

