import Derived.Test.YtkimnbdjdhapnaaDoorLexw
namespace Go.Proofs.YtkimnbdjdhapnaaDoor
open Go.ChangeShapes Go.WideShapes Go.ChangeAt Go.RowKit Go.Shelf Go.Lib CharsMath
set_option linter.unusedVariables false
/-- the words lie in block g. -/
def RowAt (w : World) (g : Nat) (l : List Tok) : Prop := ∀ j, j < l.length * 4 → w.cell? ⟨g, j, none⟩ = some ((toksC l).getD j undef)
theorem keepC {W w' : World} {p : Addr} {v : Value} (hb : Below W.heap.size W w') (h : W.cell? p = some v) : w'.cell? p = some v := (hb.cell (World.block_lt_of_cell? W p h)).trans h
theorem RowAt.below {w w' : World} {g : Nat} {l : List Tok} (h : RowAt w g l) (hb : Below w.heap.size w w') : RowAt w' g l := fun j hj => keepC hb (h j hj)
theorem LexPost.row {w w' : World} {s : ByteArray} {e : Ending} {l : List Tok} {k : Int} {i : Nat} (h : LexPost w s e w') (hL : lexV s = (l, k, i)) (h0 : 0 < l.length) :
    ∃ g c, e = .returned (.tuple #[.slice (some ⟨g, 0, none⟩) l.length c, .int .i64 k, .int .i64 i]) ∧ Hid (l.length ≤ c) ∧ Hid (RowAt w' g l) ∧ Hid (Below w.heap.size w w') := by
  unfold LexPost at h
  rw [hL] at h
  obtain ⟨A, c, he, own, hb⟩ := h
  obtain ⟨g, cap, e1, hcap⟩ := own.form h0
  injection e1 with e1 e2 e3
  subst e1
  have hc : l.length ≤ c := by
    rcases own.2 with ⟨hz, _⟩ | ⟨g2, cap2, cur, hv, hb2, hg, hr⟩
    · cases hz
    · injection hv with _ _ h3; rw [h3]; exact hr.1
  refine ⟨g, c, he, Lib.hid hc, Lib.hid (fun j hj => ?_), Lib.hid hb⟩
  have hl := toksC_len l
  rw [own.cellAt j (by omega)]
  simp [List.getD, List.getElem?_eq_getElem (show j < (toksC l).length by omega)]
theorem LexPost.bare {w w' : World} {s : ByteArray} {e : Ending} {l : List Tok} {k : Int} {i : Nat} (h : LexPost w s e w') (hL : lexV s = (l, k, i)) :
    ∃ A c, e = .returned (.tuple #[.slice A l.length c, .int .i64 k, .int .i64 i]) ∧ Hid (Below w.heap.size w w') := by
  unfold LexPost at h
  rw [hL] at h
  obtain ⟨A, c, he, own, hb⟩ := h
  exact ⟨A, c, he, Lib.hid hb⟩
theorem v0 : lexV ⟨#[108, 101, 116, 32, 120, 32, 61, 32, 49]⟩ = ([(4, ⟨#[108, 101, 116]⟩, 0, 3), (2, ⟨#[120]⟩, 4, 5), (5, ⟨#[61]⟩, 6, 7), (1, ⟨#[49]⟩, 8, 9)], 0, 0) := by decide +kernel
theorem v1 : lexV ⟨#[40, 42, 32, 97, 32, 40, 42, 32, 98, 32, 42, 41, 32, 99, 32, 42, 41, 120, 58, 61, 45, 62, 45, 67, 111, 110, 115, 39, 32, 48, 48, 55]⟩ = ([(2, ⟨#[120]⟩, 17, 18), (5, ⟨#[58, 61]⟩, 18, 20), (5, ⟨#[45, 62]⟩, 20, 22), (5, ⟨#[45]⟩, 22, 23), (3, ⟨#[67, 111, 110, 115, 39]⟩, 23, 28), (1, ⟨#[48, 48, 55]⟩, 29, 32)], 0, 0) := by decide +kernel
theorem v2 : lexV ⟨#[120, 32, 40, 42, 32, 40, 42, 32, 42, 41]⟩ = ([], 3, 2) := by decide +kernel
theorem v3 : lexV ⟨#[97, 98, 32, 62, 32, 99]⟩ = ([], 3, 3) := by decide +kernel
theorem v4 : lexV ⟨#[52, 54, 49, 49, 54, 56, 54, 48, 49, 56, 52, 50, 55, 51, 56, 55, 57, 48, 52]⟩ = ([], 3, 0) := by decide +kernel
theorem v5 : lexV ⟨#[52, 54, 49, 49, 54, 56, 54, 48, 49, 56, 52, 50, 55, 51, 56, 55, 57, 48, 51]⟩ = ([(1, ⟨#[52, 54, 49, 49, 54, 56, 54, 48, 49, 56, 52, 50, 55, 51, 56, 55, 57, 48, 51]⟩, 0, 19)], 0, 0) := by decide +kernel
theorem v6 : lexV ⟨#[120, 32, 39, 97]⟩ = ([], 3, 2) := by decide +kernel
theorem v7 : lexV ⟨#[120, 58, 121]⟩ = ([], 3, 1) := by decide +kernel
theorem v8 : lexV ⟨#[49, 50, 97, 98, 95, 51, 39]⟩ = ([(1, ⟨#[49, 50]⟩, 0, 2), (2, ⟨#[97, 98, 95, 51, 39]⟩, 2, 7)], 0, 0) := by decide +kernel
set_option maxHeartbeats 4000000 in
set_option maxRecDepth 100000 in
theorem awake_any (w : World) (hT : Tabs w) : Calls Tryd.prog 7 #[] w fun e w' => e = .returned (.bool true) ∧ Below w.heap.size w w' := by
  go_enter Tryd.func7, Tryd.ntmps7
  go_wp2_with fail
  refine (lex_any _ w (by decide) hT).mono ?_; intro e w1 h1
  obtain ⟨g, c, rfl, HC, R1, B1⟩ := h1.row v0 (by decide)
  clear h1 hT
  have hc : 4 ≤ c := HC.out
  have c0 : w1.cell? ⟨g, 0, none⟩ = some (.int .i64 4) := R1.out 0 (by decide)
  have c1 : w1.cell? ⟨g, 1, none⟩ = some (.string ⟨#[108, 101, 116]⟩) := R1.out 1 (by decide)
  have c2 : w1.cell? ⟨g, 2, none⟩ = some (.int .i64 0) := R1.out 2 (by decide)
  have c3 : w1.cell? ⟨g, 3, none⟩ = some (.int .i64 3) := R1.out 3 (by decide)
  have c4 : w1.cell? ⟨g, 4, none⟩ = some (.int .i64 2) := R1.out 4 (by decide)
  have c8 : w1.cell? ⟨g, 8, none⟩ = some (.int .i64 5) := R1.out 8 (by decide)
  have c12 : w1.cell? ⟨g, 12, none⟩ = some (.int .i64 1) := R1.out 12 (by decide)
  have c13 : w1.cell? ⟨g, 13, none⟩ = some (.string ⟨#[49]⟩) := R1.out 13 (by decide)
  have c14 : w1.cell? ⟨g, 14, none⟩ = some (.int .i64 8) := R1.out 14 (by decide)
  have c15 : w1.cell? ⟨g, 15, none⟩ = some (.int .i64 9) := R1.out 15 (by decide)
  go_wp2_with fail
  go_ret
  exact ⟨rfl, B1.out⟩
end Go.Proofs.YtkimnbdjdhapnaaDoor
