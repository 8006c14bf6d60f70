import Derived.Test.YtebgloacobaocaaDoorWords
import Derived.Test.YtebgloacobaocaaDoorGood
import Derived.Deep.RegionHeld3
import Derived.Deep.DeepCutAuto
import Derived.Deep.Cut
namespace Go.Proofs.YtebgloacobaocaaDoor
open Go.ChangeShapes Go.WideShapes Go.ChangeAt Go.RowKit Go.Shelf Go.Lib CharsMath
set_option linter.unusedVariables false
/-- the least kind from k on whose word it is. -/
def findGo (x : ByteArray) : Nat → Nat → Option Nat
  | 0, _ => none
  | f + 1, k => if verbV (k : Int) = x then some k else findGo x f (k + 1)
def wordAt (l : List ByteArray) (i : Nat) : ByteArray := l.getD i ⟨#[]⟩
def rest (k : Int) (l : List ByteArray) : Int × ByteArray × Bool :=
  if l.length = 1 then (if k = 3 ∨ k = 7 then (1, ⟨#[]⟩, true) else (0, ⟨#[]⟩, !numberedV k && !namedV k))
  else if numberedV k then ((numberV (wordAt l 1)).1, ⟨#[]⟩, (numberV (wordAt l 1)).2)
  else if namedV k then (0, wordAt l 1, true) else (0, ⟨#[]⟩, false)
def parseL (l : List ByteArray) : Option (Int × Int × ByteArray) :=
  if l.length = 0 then none else if 2 < l.length then none else
  match findGo (wordAt l 0) 17 1 with
  | none => none
  | some k => if (rest k l).2.2 = true ∧ goodV k (rest k l).1 (rest k l).2.1 = true then some (k, (rest k l).1, (rest k l).2.1) else none
def parseV (s : ByteArray) : Option (Int × Int × ByteArray) := parseL (wordsV s)
/-- what Parse answers. -/
def ansV : Option (Int × Int × ByteArray) → Value
  | none => .tuple #[.agg #[.int .i64 0, .int .i64 0, .string ⟨#[]⟩], .int .i64 13]
  | some (k, n, x) => .tuple #[.agg #[.int .i64 k, .int .i64 n, .string x], .int .i64 0]
/-- Parse's own boxes: R what it answers, C the command. -/
structure PB (w wr : World) (R C : Nat) (k n : Int) (x : ByteArray) (A : Option Addr) (m c : Nat) (l : List ByteArray) : Prop where
  below : Below w.heap.size w wr
  r : wr.heap[R]? = some (.cells #[.int .i64 0, .int .i64 0, .string ⟨#[]⟩] 24 (0, 0))
  cm : wr.heap[C]? = some (.cells #[.int .i64 k, .int .i64 n, .string x] 24 (0, 0))
  own : wr.ownsRow (w.heap.size + 1) 9 1 (.slice A m c) m (strs l)
  oc : (Value.slice A m c).ownBlock ≠ some C
  rc : R = w.heap.size ∧ R < C
section
variable {w wr w' : World} {R C : Nat} {k n : Int} {x : ByteArray} {A : Option Addr} {m c : Nat} {l : List ByteArray}
theorem PB.cc (h : PB w wr R C k n x A m c l) : wr.cell? ⟨C, 0, none⟩ = some (.int .i64 k) ∧ wr.cell? ⟨C, 1, none⟩ = some (.int .i64 n) ∧ wr.cell? ⟨C, 2, none⟩ = some (.string x) ∧ ∀ i, wr.frozen? ⟨C, i, none⟩ = false := by
  have := h.cm
  refine ⟨?_, ?_, ?_, fun i => ?_⟩ <;> simp [World.cell?, World.frozen?, this]
theorem PB.rr (h : PB w wr R C k n x A m c l) : wr.cell? ⟨R, 0, none⟩ = some (.int .i64 0) ∧ wr.cell? ⟨R, 1, none⟩ = some (.int .i64 0) ∧ wr.cell? ⟨R, 2, none⟩ = some (.string ⟨#[]⟩) ∧ ∀ i, wr.frozen? ⟨R, i, none⟩ = false := by
  have := h.r
  refine ⟨?_, ?_, ?_, fun i => ?_⟩ <;> simp [World.cell?, World.frozen?, this]
theorem PB.same (h : PB w wr R C k n x A m c l) (hb : Below wr.heap.size wr w') : PB w w' R C k n x A m c l :=
  ⟨h.below.trans (hb.mono h.below.size), (hb.block _ (Array.getElem?_eq_some_iff.1 h.r).1).trans h.r, (hb.block _ (Array.getElem?_eq_some_iff.1 h.cm).1).trans h.cm, own_below h.own hb, h.oc, h.rc⟩
theorem PB.set0 (h : PB w wr R C k n x A m c l) (k' : Int) : PB w (wr.setCell ⟨C, 0, none⟩ (.int .i64 k')) R C k' n x A m c l := by
  have h1 := h.rc
  refine ⟨h.below.setCell (by show w.heap.size ≤ C; omega) _, ?_, ?_, own_keep h.own (fun g hg => ?_), h.oc, h.rc⟩
  · rw [← h.r]; simp only [World.setCell]; rw [Array.getElem?_modify, if_neg (by omega)]
  · have := h.cm; simp [World.setCell, Array.getElem?_modify, this]
  · simp only [World.setCell]; rw [Array.getElem?_modify, if_neg (by intro e; exact h.oc (e ▸ hg))]
theorem PB.set1 (h : PB w wr R C k n x A m c l) (k' : Int) : PB w (wr.setCell ⟨C, 1, none⟩ (.int .i64 k')) R C k k' x A m c l := by
  have h1 := h.rc
  refine ⟨h.below.setCell (by show w.heap.size ≤ C; omega) _, ?_, ?_, own_keep h.own (fun g hg => ?_), h.oc, h.rc⟩
  · rw [← h.r]; simp only [World.setCell]; rw [Array.getElem?_modify, if_neg (by omega)]
  · have := h.cm; simp [World.setCell, Array.getElem?_modify, this]
  · simp only [World.setCell]; rw [Array.getElem?_modify, if_neg (by intro e; exact h.oc (e ▸ hg))]
theorem PB.set2 (h : PB w wr R C k n x A m c l) (k' : ByteArray) : PB w (wr.setCell ⟨C, 2, none⟩ (.string k')) R C k n k' A m c l := by
  have h1 := h.rc
  refine ⟨h.below.setCell (by show w.heap.size ≤ C; omega) _, ?_, ?_, own_keep h.own (fun g hg => ?_), h.oc, h.rc⟩
  · rw [← h.r]; simp only [World.setCell]; rw [Array.getElem?_modify, if_neg (by omega)]
  · have := h.cm; simp [World.setCell, Array.getElem?_modify, this]
  · simp only [World.setCell]; rw [Array.getElem?_modify, if_neg (by intro e; exact h.oc (e ▸ hg))]
theorem PB.word (h : PB w wr R C k n x A m c l) (i : Nat) (hi : i < m) : ∃ g, A = some ⟨g, 0, none⟩ ∧ wr.cell? ⟨g, i, none⟩ = some (.string (wordAt l i)) := by
  have hl := h.own.1
  rw [strs_len, Nat.mul_one] at hl
  obtain ⟨g, cap, e, _⟩ := h.own.form (by omega)
  injection e with e1 e2 e3
  subst e1
  refine ⟨g, rfl, ?_⟩
  rw [h.own.cellAt i (by omega)]
  simp [strs, wordAt, List.getD, show i < l.length by omega]
end
theorem loop_is (s : ByteArray) : ∀ (k i : Nat) (r : List UInt8), k = s.size - i → ByteArray.toList.loop s i r = r.reverse ++ s.data.toList.drop i := by
  intro k
  induction k with
  | zero =>
    intro i r h
    rw [ByteArray.toList.loop, if_neg (by omega)]
    rw [List.drop_eq_nil_of_le (by show s.data.toList.length ≤ i; rw [Array.length_toList]; show s.size ≤ i; omega)]
    simp
  | succ k ih =>
    intro i r h
    rw [ByteArray.toList.loop, if_pos (by omega), ih (i + 1) _ (by omega)]
    have hi : i < s.data.toList.length := by rw [Array.length_toList]; show i < s.size; omega
    rw [List.drop_eq_getElem_cons hi, List.reverse_cons, List.append_assoc]
    have hi2 : i < s.size := by omega
    have : s.get! i = s.data.toList[i] := by rw [get_eq s i hi2]; rfl
    rw [this]; rfl
theorem toList_data (s : ByteArray) : s.toList = s.data.toList := by
  unfold ByteArray.toList
  rw [loop_is s s.size 0 [] (by omega)]; rfl
theorem toList_inj {a b : ByteArray} (h : a.toList = b.toList) : a = b := by
  rw [toList_data, toList_data] at h
  obtain ⟨a⟩ := a; obtain ⟨b⟩ := b
  congr 1
  exact Array.ext' h
theorem toList_ne {a b : ByteArray} (h : a ≠ b) : (a.toList == b.toList) = false := beq_eq_false_iff_ne.2 (fun e => h (toList_inj e))
theorem st3 {W : World} {R : Nat} {a b c : Value} (a' b' c' : Value) (h : W.heap[R]? = some (.cells #[a, b, c] 24 (0, 0))) :
    (((W.setCell ⟨R, 0, none⟩ a').setCell ⟨R, 1, none⟩ b').setCell ⟨R, 2, none⟩ c').heap[R]? = some (.cells #[a', b', c'] 24 (0, 0)) := by
  have h1 : (W.setCell ⟨R, 0, none⟩ a').heap[R]? = some (.cells #[a', b, c] 24 (0, 0)) := by simp [World.setCell, Array.getElem?_modify, h]
  have h2 : ((W.setCell ⟨R, 0, none⟩ a').setCell ⟨R, 1, none⟩ b').heap[R]? = some (.cells #[a', b', c] 24 (0, 0)) := by
    simp only [World.setCell] at h1 ⊢
    rw [Array.getElem?_modify, if_pos rfl, h1]; simp
  simp only [World.setCell] at h2 ⊢
  rw [Array.getElem?_modify, if_pos rfl, h2]; simp
theorem below_set3 {w W : World} {R : Nat} (a' b' c' : Value) (h : Below w.heap.size w W) (hR : w.heap.size ≤ R) : Below w.heap.size w (((W.setCell ⟨R, 0, none⟩ a').setCell ⟨R, 1, none⟩ b').setCell ⟨R, 2, none⟩ c') :=
  ((h.setCell hR _).setCell hR _).setCell hR _
theorem res8 {tmps : Array Value} {W : World} {R : Nat} {a b c v : Value} (h2 : tmps.getD 2 undef = .pointer (some ⟨R, 0, none⟩)) (h3 : tmps.getD 3 undef = v) (hW : W.heap[R]? = some (.cells #[a, b, c] 24 (0, 0))) :
    (results Tryd.f8 tmps).run Tryd.prog W = .ok (.tuple #[.agg #[a, b, c], v]) W := by
  have c0 : W.cell? ⟨R, 0, none⟩ = some a := by simp [World.cell?, hW]
  have c1 : W.cell? ⟨R, 1, none⟩ = some b := by simp [World.cell?, hW]
  have c2 : W.cell? ⟨R, 2, none⟩ = some c := by simp [World.cell?, hW]
  simp only [Array.getD_eq_getD_getElem?] at h2 h3
  simp [results, Tryd.f8, go_sem, h2, h3, c0, c1, c2]
end Go.Proofs.YtebgloacobaocaaDoor
