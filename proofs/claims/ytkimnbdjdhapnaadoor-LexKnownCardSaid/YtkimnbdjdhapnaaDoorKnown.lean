import Derived.Test.YtkimnbdjdhapnaaDoorAwak
namespace Go.Proofs.YtkimnbdjdhapnaaDoor
open Go.ChangeShapes Go.WideShapes Go.ChangeAt Go.RowKit Go.Shelf Go.Lib CharsMath
set_option linter.unusedVariables false
set_option maxHeartbeats 8000000 in
set_option maxRecDepth 100000 in
theorem known (w : World) (hT : Tabs w) : Calls Tryd.prog 3 #[] w fun e w' => e = .returned (.bool true) ∧ Below w.heap.size w w' := by
  have HT := Lib.hid hT
  go_enter Tryd.func3, Tryd.ntmps3
  go_wp2_with fail
  refine (awake_any w hT).mono ?_; rintro e w0 ⟨rfl, hb0⟩
  have B0 := Lib.hid hb0
  clear hb0 hT
  go_wp2_with fail
  refine (lex_any _ _ (by decide) (HT.out.below B0.out)).mono ?_; intro e w1 h1
  obtain ⟨g1, c1, rfl, HC1, R1, D1⟩ := h1.row v1 (by decide)
  have hc1 : 6 ≤ c1 := HC1.out
  have B1 := Lib.hid (bt B0.out D1.out)
  clear h1
  go_wp2_with fail
  refine (lex_any _ _ (by decide) (HT.out.below B1.out)).mono ?_; intro e w2 h2
  obtain ⟨A2, c2, rfl, D2⟩ := h2.bare v2
  have B2 := Lib.hid (bt B1.out D2.out)
  have R1 := Lib.hid (R1.out.below D2.out)
  clear h2
  go_wp2_with fail
  refine (lex_any _ _ (by decide) (HT.out.below B2.out)).mono ?_; intro e w3 h3
  obtain ⟨A3, c3, rfl, D3⟩ := h3.bare v3
  have B3 := Lib.hid (bt B2.out D3.out)
  have R1 := Lib.hid (R1.out.below D3.out)
  clear h3
  go_wp2_with fail
  refine (lex_any _ _ (by decide) (HT.out.below B3.out)).mono ?_; intro e w4 h4
  obtain ⟨A4, c4, rfl, D4⟩ := h4.bare v4
  have B4 := Lib.hid (bt B3.out D4.out)
  have R1 := Lib.hid (R1.out.below D4.out)
  clear h4
  go_wp2_with fail
  refine (lex_any _ _ (by decide) (HT.out.below B4.out)).mono ?_; intro e w5 h5
  obtain ⟨g5, c5, rfl, HC5, R5, D5⟩ := h5.row v5 (by decide)
  have hc5 : 1 ≤ c5 := HC5.out
  have B5 := Lib.hid (bt B4.out D5.out)
  have R1 := Lib.hid (R1.out.below D5.out)
  clear h5
  go_wp2_with fail
  refine (lex_any _ _ (by decide) (HT.out.below B5.out)).mono ?_; intro e w6 h6
  obtain ⟨A6, c6, rfl, D6⟩ := h6.bare v6
  have B6 := Lib.hid (bt B5.out D6.out)
  have R1 := Lib.hid (R1.out.below D6.out)
  have R5 := Lib.hid (R5.out.below D6.out)
  clear h6
  go_wp2_with fail
  refine (lex_any _ _ (by decide) (HT.out.below B6.out)).mono ?_; intro e w7 h7
  obtain ⟨A7, c7, rfl, D7⟩ := h7.bare v7
  have B7 := Lib.hid (bt B6.out D7.out)
  have R1 := Lib.hid (R1.out.below D7.out)
  have R5 := Lib.hid (R5.out.below D7.out)
  clear h7
  go_wp2_with fail
  refine (lex_any _ _ (by decide) (HT.out.below B7.out)).mono ?_; intro e w8 h8
  obtain ⟨g8, c8, rfl, HC8, R8, D8⟩ := h8.row v8 (by decide)
  have hc8 : 2 ≤ c8 := HC8.out
  have B8 := Lib.hid (bt B7.out D8.out)
  have R1 := Lib.hid (R1.out.below D8.out)
  have R5 := Lib.hid (R5.out.below D8.out)
  clear h8
  have z1_1 : w8.cell? ⟨g1, 1, none⟩ = some (.string ⟨#[120]⟩) := R1.out 1 (by decide)
  have z1_5 : w8.cell? ⟨g1, 5, none⟩ = some (.string ⟨#[58, 61]⟩) := R1.out 5 (by decide)
  have z1_9 : w8.cell? ⟨g1, 9, none⟩ = some (.string ⟨#[45, 62]⟩) := R1.out 9 (by decide)
  have z1_13 : w8.cell? ⟨g1, 13, none⟩ = some (.string ⟨#[45]⟩) := R1.out 13 (by decide)
  have z1_16 : w8.cell? ⟨g1, 16, none⟩ = some (.int .i64 3) := R1.out 16 (by decide)
  have z1_17 : w8.cell? ⟨g1, 17, none⟩ = some (.string ⟨#[67, 111, 110, 115, 39]⟩) := R1.out 17 (by decide)
  have z1_18 : w8.cell? ⟨g1, 18, none⟩ = some (.int .i64 23) := R1.out 18 (by decide)
  have z1_19 : w8.cell? ⟨g1, 19, none⟩ = some (.int .i64 28) := R1.out 19 (by decide)
  have z1_21 : w8.cell? ⟨g1, 21, none⟩ = some (.string ⟨#[48, 48, 55]⟩) := R1.out 21 (by decide)
  have z8_5 : w8.cell? ⟨g8, 5, none⟩ = some (.string ⟨#[97, 98, 95, 51, 39]⟩) := R8.out 5 (by decide)
  go_wp2_with fail
  go_ret
  exact ⟨rfl, B8.out⟩
end Go.Proofs.YtkimnbdjdhapnaaDoor
