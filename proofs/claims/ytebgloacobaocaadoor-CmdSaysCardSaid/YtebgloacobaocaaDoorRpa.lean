import Derived.Test.YtebgloacobaocaaDoorNamed
import Derived.Test.YtebgloacobaocaaDoorKinds
import Derived.Test.YtebgloacobaocaaDoorCount
import Derived.Test.YtebgloacobaocaaDoorCut
import Derived.Test.YtebgloacobaocaaDoorParse
namespace Go.Proofs.YtebgloacobaocaaDoor
open Go.ChangeShapes Go.WideShapes Go.ChangeAt Go.RowKit Go.Shelf Go.Lib CharsMath
set_option linter.unusedVariables false
def rkV (k : Nat) (l : List ByteArray) : Option (Int × Int × ByteArray) :=
  if behind.getD k 0 = 0 then (if l.length = 1 then some (k, 0, ⟨#[]⟩) else none)
  else if behind.getD k 0 = 2 then (if l.length = 2 ∧ rnamedV (wordAt l 1) = true then some (k, 0, wordAt l 1) else none)
  else if l.length = 1 then (if behind.getD k 0 = 3 then some (k, 1, ⟨#[]⟩) else none)
  else if countV (wordAt l 1) < 0 then none else if countV (wordAt l 1) = 0 ∧ (k : Int) ≠ 10 then none else some (k, countV (wordAt l 1), ⟨#[]⟩)
def rparseV (s : ByteArray) : Option (Int × Int × ByteArray) :=
  if (wordsV s).length = 0 then none else if 2 < (wordsV s).length then none else
  match findGo (wordAt (wordsV s) 0) 17 1 with
  | none => none
  | some k => rkV k (wordsV s)
/-- what ParseCmd answers. -/
def ransV : Option (Int × Int × ByteArray) → Value
  | none => .tuple #[.agg #[.int .i64 0, .int .i64 0, .string ⟨#[]⟩], .bool false]
  | some (k, n, x) => .tuple #[.agg #[.int .i64 k, .int .i64 n, .string x], .bool true]
theorem st30 {W : World} {R : Nat} {a b c : Value} (a' b' c' : Value) (h : W.heap[R]? = some (.cells #[a, b, c] 30 (0, 0))) :
    (((W.setCell ⟨R, 0, none⟩ a').setCell ⟨R, 1, none⟩ b').setCell ⟨R, 2, none⟩ c').heap[R]? = some (.cells #[a', b', c'] 30 (0, 0)) := by
  have h1 : (W.setCell ⟨R, 0, none⟩ a').heap[R]? = some (.cells #[a', b, c] 30 (0, 0)) := by simp [World.setCell, Array.getElem?_modify, h]
  have h2 : ((W.setCell ⟨R, 0, none⟩ a').setCell ⟨R, 1, none⟩ b').heap[R]? = some (.cells #[a', b', c] 30 (0, 0)) := by
    simp only [World.setCell] at h1 ⊢
    rw [Array.getElem?_modify, if_pos rfl, h1]; simp
  simp only [World.setCell] at h2 ⊢
  rw [Array.getElem?_modify, if_pos rfl, h2]; simp
theorem res11 {tmps : Array Value} {W : World} {R : Nat} {a b c v : Value} (h2 : tmps.getD 2 undef = .pointer (some ⟨R, 0, none⟩)) (h3 : tmps.getD 3 undef = v) (hW : W.heap[R]? = some (.cells #[a, b, c] 30 (0, 0))) :
    (results Tryd.f11 tmps).run Tryd.prog W = .ok (.tuple #[.agg #[a, b, c], v]) W := by
  have c0 : W.cell? ⟨R, 0, none⟩ = some a := by simp [World.cell?, hW]
  have c1 : W.cell? ⟨R, 1, none⟩ = some b := by simp [World.cell?, hW]
  have c2 : W.cell? ⟨R, 2, none⟩ = some c := by simp [World.cell?, hW]
  simp only [Array.getD_eq_getD_getElem?] at h2 h3
  simp [results, Tryd.f11, go_sem, h2, h3, c0, c1, c2]
/-- the boxes: R the answer, C the command. -/
structure BX (w wr : World) (R C : Nat) (k n : Int) (x : ByteArray) : Prop where
  below : Below w.heap.size w wr
  r : wr.heap[R]? = some (.cells #[.int .i64 0, .int .i64 0, .string ⟨#[]⟩] 30 (0, 0))
  cm : wr.heap[C]? = some (.cells #[.int .i64 k, .int .i64 n, .string x] 30 (0, 0))
  rc : R = w.heap.size ∧ R < C
section
variable {w wr w' : World} {R C : Nat} {k n : Int} {x : ByteArray}
theorem cells3 {W : World} {R : Nat} {a b c : Value} (this : W.heap[R]? = some (.cells #[a, b, c] 30 (0, 0))) : W.cell? ⟨R, 0, none⟩ = some a ∧ W.cell? ⟨R, 1, none⟩ = some b ∧ W.cell? ⟨R, 2, none⟩ = some c ∧ W.frozen? ⟨R, 0, none⟩ = false ∧ W.frozen? ⟨R, 1, none⟩ = false ∧ W.frozen? ⟨R, 2, none⟩ = false := by
  refine ⟨?_, ?_, ?_, ?_, ?_, ?_⟩ <;> simp [World.cell?, World.frozen?, this]
theorem BX.same (h : BX w wr R C k n x) (hb : Below wr.heap.size wr w') : BX w w' R C k n x :=
  ⟨h.below.trans (hb.mono h.below.size), (hb.block _ (Array.getElem?_eq_some_iff.1 h.r).1).trans h.r, (hb.block _ (Array.getElem?_eq_some_iff.1 h.cm).1).trans h.cm, h.rc⟩
theorem BX.set1 (h : BX w wr R C k n x) (k' : Int) : BX w (wr.setCell ⟨C, 1, none⟩ (.int .i64 k')) R C k k' x := by
  have h1 := h.rc
  refine ⟨h.below.setCell (by show w.heap.size ≤ C; omega) _, ?_, ?_, h.rc⟩
  · rw [← h.r]; simp only [World.setCell]; rw [Array.getElem?_modify, if_neg (by omega)]
  · have := h.cm; simp [World.setCell, Array.getElem?_modify, this]
theorem BX.set2 (h : BX w wr R C k n x) (k' : ByteArray) : BX w (wr.setCell ⟨C, 2, none⟩ (.string k')) R C k n k' := by
  have h1 := h.rc
  refine ⟨h.below.setCell (by show w.heap.size ≤ C; omega) _, ?_, ?_, h.rc⟩
  · rw [← h.r]; simp only [World.setCell]; rw [Array.getElem?_modify, if_neg (by omega)]
  · have := h.cm; simp [World.setCell, Array.getElem?_modify, this]
end
/-- what the loop sees. -/
structure LP (w wr : World) (R g h ga m : Nat) (l : List ByteArray) : Prop where
  below : Below w.heap.size w wr
  r : wr.heap[R]? = some (.cells #[.int .i64 0, .int .i64 0, .string ⟨#[]⟩] 30 (0, 0))
  words : ∀ i, i < 18 → wr.cell? ⟨g, i, none⟩ = some (.string (verbs.getD i ⟨#[]⟩))
  rest : ∀ i, i < 18 → wr.cell? ⟨h, i, none⟩ = some (.int .i64 (behind.getD i 0))
  args : ∀ i, i < m → wr.cell? ⟨ga, i, none⟩ = some (.string (wordAt l i))
  hR : R = w.heap.size
  lt : g < wr.heap.size ∧ h < wr.heap.size ∧ ga < wr.heap.size
theorem LP.same {w wr w' : World} {R g h ga m : Nat} {l : List ByteArray} (p : LP w wr R g h ga m l) (hb : Below wr.heap.size wr w') : LP w w' R g h ga m l :=
  ⟨p.below.trans (hb.mono p.below.size), (hb.block _ (Array.getElem?_eq_some_iff.1 p.r).1).trans p.r, fun i hi => (hb.cell (p := ⟨g, i, none⟩) p.lt.1).trans (p.words i hi), fun i hi => (hb.cell (p := ⟨h, i, none⟩) p.lt.2.1).trans (p.rest i hi), fun i hi => (hb.cell (p := ⟨ga, i, none⟩) p.lt.2.2).trans (p.args i hi), p.hR, ⟨Nat.lt_of_lt_of_le p.lt.1 hb.size, Nat.lt_of_lt_of_le p.lt.2.1 hb.size, Nat.lt_of_lt_of_le p.lt.2.2 hb.size⟩⟩
theorem LP.box {w wr : World} {R g h ga m : Nat} {l : List ByteArray} (p : LP w wr R g h ga m l) (k : Int) : BX w (wr.alloc (.cells #[.int .i64 k, .int .i64 0, .string ⟨#[]⟩] 30)) R wr.heap.size k 0 ⟨#[]⟩ := by
  have q := p.same (below_alloc wr (.cells #[.int .i64 k, .int .i64 0, .string ⟨#[]⟩] 30))
  exact ⟨q.below, q.r, heap_alloc_new _ _, p.hR, (Array.getElem?_eq_some_iff.1 p.r).1⟩
end Go.Proofs.YtebgloacobaocaaDoor
