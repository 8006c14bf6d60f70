import Derived.Test.YtebgloacobaocaaDoorParse
import Derived.Test.YtebgloacobaocaaDoorShow
import Derived.Laws.StructEq
namespace Go.Proofs.YtebgloacobaocaaDoor
open Go.ChangeShapes Go.WideShapes Go.ChangeAt Go.RowKit Go.Shelf Go.Lib CharsMath
set_option linter.unusedVariables false
set_option maxRecDepth 100000
theorem p0 : parseV ⟨#[32, 32, 115, 116, 101, 112]⟩ = some (3, 1, ⟨#[]⟩) := by decide +kernel
theorem p1 : parseV ⟨#[]⟩ = none := by decide +kernel
theorem p2 : parseV ⟨#[115, 116, 101, 112, 32, 48]⟩ = none := by decide +kernel
theorem p3 : parseV ⟨#[103, 111, 116, 111, 32, 48]⟩ = some (10, 0, ⟨#[]⟩) := by decide +kernel
theorem p4 : parseV ⟨#[112, 114, 105, 110, 116, 32, 88]⟩ = none := by decide +kernel
theorem p5 : parseV ⟨#[110, 101, 120, 116, 32, 49]⟩ = none := by decide +kernel
theorem p6 : parseV ⟨#[98, 114, 101, 97, 107]⟩ = none := by decide +kernel
theorem p7 : parseV ⟨#[119, 97, 116, 99, 104, 9, 97, 98, 39]⟩ = some (16, 0, ⟨#[97, 98, 39]⟩) := by decide +kernel
theorem p8 : parseV ⟨#[115, 116, 101, 112, 32, 49, 50, 51, 52, 53, 54, 55, 56, 57, 48]⟩ = none := by decide +kernel
theorem s0 : showV 3 1 ⟨#[]⟩ = ⟨#[115, 116, 101, 112, 32, 49]⟩ := by decide +kernel
theorem s1 : showV 4 1 ⟨#[]⟩ = ⟨#[]⟩ := by decide +kernel
theorem s2 : showV 0 0 ⟨#[]⟩ = ⟨#[]⟩ := by decide +kernel
theorem sz {s : ByteArray} (h : s.size ≤ 1000) : s.size ≤ 1000000 := by omega
/-- Parse of a text whose answer is known. -/
theorem parse_of {s : ByteArray} {r : Option (Int × Int × ByteArray)} (h : parseV s = r) (hs : s.size ≤ 1000) (w : World) (hT : Tabs w) :
    Calls Tryd.prog 8 #[.string s] w fun e w' => e = .returned (ansV r) ∧ Below w.heap.size w w' := h ▸ parse_any s w (sz hs) hT
theorem show_of {k n : Int} {x y : ByteArray} (h : showV k n x = y) (hs : x.size ≤ 1000) (w : World) (hT : Tabs w) :
    Calls Tryd.prog 9 #[.agg #[.int .i64 k, .int .i64 n, .string x]] w fun e w' => e = .returned (.string y) ∧ Below w.heap.size w w' := h ▸ show_any k n x w (by omega) hT
set_option maxHeartbeats 2000000 in
theorem awake_any (w : World) (hT : Tabs w) : Calls Tryd.prog 7 #[] w fun e w' => e = .returned (.bool true) ∧ Below w.heap.size w w' := by
  have HT := Lib.hid hT
  clear hT
  go_enter Tryd.func7, Tryd.ntmps7
  go_wp2_with fail
  refine (parse_of p0 (by decide) w HT.out).mono ?_; rintro e w1 ⟨rfl, hb1⟩
  have B1 := Lib.hid hb1; clear hb1
  obtain ⟨c0, c1, c2⟩ := box3 w1 (.int .i64 3) (.int .i64 1) (.string ⟨#[]⟩)
  have B2 := Lib.hid (bt B1.out (below_alloc w1 (.cells #[.int .i64 3, .int .i64 1, .string ⟨#[]⟩] 24)))
  have T2 := Lib.hid (HT.out.below B2.out)
  simp only [ansV]
  go_wp2_with fail
  refine (show_of s0 (by decide) _ T2.out).mono ?_; rintro e w2 ⟨rfl, hb2⟩
  have B3 := Lib.hid (bt B2.out hb2)
  have j0 := (hb2.cell (p := ⟨w1.heap.size, 0, none⟩) (by simp)).trans c0
  have j1 := (hb2.cell (p := ⟨w1.heap.size, 1, none⟩) (by simp)).trans c1
  have j2 := (hb2.cell (p := ⟨w1.heap.size, 2, none⟩) (by simp)).trans c2
  clear hb2
  go_wp2_with fail
  refine (forward_any 3 1 ⟨#[]⟩ w2).mono ?_; rintro e w3 ⟨he, hb3⟩
  rw [show forwardV 3 = true from by decide] at he
  subst he
  have B4 := Lib.hid (bt B3.out hb3)
  clear hb3
  go_wp2_with fail
  go_ret
  exact ⟨rfl, B4.out⟩
set_option maxHeartbeats 4000000 in
theorem known (w : World) (hT : Tabs w) : Calls Tryd.prog 3 #[] w fun e w' => e = .returned (.bool true) ∧ Below w.heap.size w w' := by
  have HT := Lib.hid hT
  have AW := Lib.hid (awake_any w hT)
  clear hT
  go_enter Tryd.func3, Tryd.ntmps3
  go_wp2_with fail
  refine AW.out.mono ?_; rintro e a0 ⟨rfl, hb⟩
  have B := Lib.hid hb; clear hb AW
  have T := Lib.hid (HT.out.below B.out)
  go_wp2_with fail
  refine (parse_of p1 (by decide) _ T.out).mono ?_; rintro e a1 ⟨rfl, hb⟩
  have B' := Lib.hid (bt B.out hb)
  clear B T hb
  have B := Lib.hid (bt B'.out (below_alloc a1 (.cells #[.int .i64 0, .int .i64 0, .string ⟨#[]⟩] 24)))
  have ha := below_alloc a1 (.cells #[.int .i64 0, .int .i64 0, .string ⟨#[]⟩] 24)
  clear ha B'
  simp only [ansV]
  have T := Lib.hid (HT.out.below B.out)
  go_wp2_with fail
  refine (parse_of p2 (by decide) _ T.out).mono ?_; rintro e a2 ⟨rfl, hb⟩
  have B' := Lib.hid (bt B.out hb)
  clear B T hb
  have B := Lib.hid (bt B'.out (below_alloc a2 (.cells #[.int .i64 0, .int .i64 0, .string ⟨#[]⟩] 24)))
  have ha := below_alloc a2 (.cells #[.int .i64 0, .int .i64 0, .string ⟨#[]⟩] 24)
  clear ha B'
  simp only [ansV]
  have T := Lib.hid (HT.out.below B.out)
  go_wp2_with fail
  refine (parse_of p3 (by decide) _ T.out).mono ?_; rintro e a3 ⟨rfl, hb⟩
  have B' := Lib.hid (bt B.out hb)
  clear B T hb
  have B := Lib.hid (bt B'.out (below_alloc a3 (.cells #[.int .i64 10, .int .i64 0, .string ⟨#[]⟩] 24)))
  have ha := below_alloc a3 (.cells #[.int .i64 10, .int .i64 0, .string ⟨#[]⟩] 24)
  clear ha B'
  obtain ⟨c0, c1, c2⟩ := box3 a3 (.int .i64 10) (.int .i64 0) (.string ⟨#[]⟩)
  simp only [ansV]
  have T := Lib.hid (HT.out.below B.out)
  go_wp2_with fail
  refine (parse_of p4 (by decide) _ T.out).mono ?_; rintro e a4 ⟨rfl, hb⟩
  have B' := Lib.hid (bt B.out hb)
  have c0 := (hb.cell (p := ⟨a3.heap.size, 0, none⟩) (World.block_lt_of_cell? _ _ c0)).trans c0
  have c1 := (hb.cell (p := ⟨a3.heap.size, 1, none⟩) (World.block_lt_of_cell? _ _ c1)).trans c1
  have c2 := (hb.cell (p := ⟨a3.heap.size, 2, none⟩) (World.block_lt_of_cell? _ _ c2)).trans c2
  clear B T hb
  have B := Lib.hid (bt B'.out (below_alloc a4 (.cells #[.int .i64 0, .int .i64 0, .string ⟨#[]⟩] 24)))
  have ha := below_alloc a4 (.cells #[.int .i64 0, .int .i64 0, .string ⟨#[]⟩] 24)
  have c0 := (ha.cell (p := ⟨a3.heap.size, 0, none⟩) (World.block_lt_of_cell? _ _ c0)).trans c0
  have c1 := (ha.cell (p := ⟨a3.heap.size, 1, none⟩) (World.block_lt_of_cell? _ _ c1)).trans c1
  have c2 := (ha.cell (p := ⟨a3.heap.size, 2, none⟩) (World.block_lt_of_cell? _ _ c2)).trans c2
  clear ha B'
  simp only [ansV]
  have T := Lib.hid (HT.out.below B.out)
  go_wp2_with fail
  refine (parse_of p5 (by decide) _ T.out).mono ?_; rintro e a5 ⟨rfl, hb⟩
  have B' := Lib.hid (bt B.out hb)
  have c0 := (hb.cell (p := ⟨a3.heap.size, 0, none⟩) (World.block_lt_of_cell? _ _ c0)).trans c0
  have c1 := (hb.cell (p := ⟨a3.heap.size, 1, none⟩) (World.block_lt_of_cell? _ _ c1)).trans c1
  have c2 := (hb.cell (p := ⟨a3.heap.size, 2, none⟩) (World.block_lt_of_cell? _ _ c2)).trans c2
  clear B T hb
  have B := Lib.hid (bt B'.out (below_alloc a5 (.cells #[.int .i64 0, .int .i64 0, .string ⟨#[]⟩] 24)))
  have ha := below_alloc a5 (.cells #[.int .i64 0, .int .i64 0, .string ⟨#[]⟩] 24)
  have c0 := (ha.cell (p := ⟨a3.heap.size, 0, none⟩) (World.block_lt_of_cell? _ _ c0)).trans c0
  have c1 := (ha.cell (p := ⟨a3.heap.size, 1, none⟩) (World.block_lt_of_cell? _ _ c1)).trans c1
  have c2 := (ha.cell (p := ⟨a3.heap.size, 2, none⟩) (World.block_lt_of_cell? _ _ c2)).trans c2
  clear ha B'
  simp only [ansV]
  have T := Lib.hid (HT.out.below B.out)
  go_wp2_with fail
  refine (parse_of p6 (by decide) _ T.out).mono ?_; rintro e a6 ⟨rfl, hb⟩
  have B' := Lib.hid (bt B.out hb)
  have c0 := (hb.cell (p := ⟨a3.heap.size, 0, none⟩) (World.block_lt_of_cell? _ _ c0)).trans c0
  have c1 := (hb.cell (p := ⟨a3.heap.size, 1, none⟩) (World.block_lt_of_cell? _ _ c1)).trans c1
  have c2 := (hb.cell (p := ⟨a3.heap.size, 2, none⟩) (World.block_lt_of_cell? _ _ c2)).trans c2
  clear B T hb
  have B := Lib.hid (bt B'.out (below_alloc a6 (.cells #[.int .i64 0, .int .i64 0, .string ⟨#[]⟩] 24)))
  have ha := below_alloc a6 (.cells #[.int .i64 0, .int .i64 0, .string ⟨#[]⟩] 24)
  have c0 := (ha.cell (p := ⟨a3.heap.size, 0, none⟩) (World.block_lt_of_cell? _ _ c0)).trans c0
  have c1 := (ha.cell (p := ⟨a3.heap.size, 1, none⟩) (World.block_lt_of_cell? _ _ c1)).trans c1
  have c2 := (ha.cell (p := ⟨a3.heap.size, 2, none⟩) (World.block_lt_of_cell? _ _ c2)).trans c2
  clear ha B'
  simp only [ansV]
  have T := Lib.hid (HT.out.below B.out)
  go_wp2_with fail
  refine (parse_of p7 (by decide) _ T.out).mono ?_; rintro e a7 ⟨rfl, hb⟩
  have B' := Lib.hid (bt B.out hb)
  have c0 := (hb.cell (p := ⟨a3.heap.size, 0, none⟩) (World.block_lt_of_cell? _ _ c0)).trans c0
  have c1 := (hb.cell (p := ⟨a3.heap.size, 1, none⟩) (World.block_lt_of_cell? _ _ c1)).trans c1
  have c2 := (hb.cell (p := ⟨a3.heap.size, 2, none⟩) (World.block_lt_of_cell? _ _ c2)).trans c2
  clear B T hb
  have B := Lib.hid (bt B'.out (below_alloc a7 (.cells #[.int .i64 16, .int .i64 0, .string ⟨#[97, 98, 39]⟩] 24)))
  have ha := below_alloc a7 (.cells #[.int .i64 16, .int .i64 0, .string ⟨#[97, 98, 39]⟩] 24)
  have c0 := (ha.cell (p := ⟨a3.heap.size, 0, none⟩) (World.block_lt_of_cell? _ _ c0)).trans c0
  have c1 := (ha.cell (p := ⟨a3.heap.size, 1, none⟩) (World.block_lt_of_cell? _ _ c1)).trans c1
  have c2 := (ha.cell (p := ⟨a3.heap.size, 2, none⟩) (World.block_lt_of_cell? _ _ c2)).trans c2
  clear ha B'
  obtain ⟨h0, h1, h2⟩ := box3 a7 (.int .i64 16) (.int .i64 0) (.string ⟨#[97, 98, 39]⟩)
  simp only [ansV]
  have T := Lib.hid (HT.out.below B.out)
  go_wp2_with fail
  refine (parse_of p8 (by decide) _ T.out).mono ?_; rintro e a8 ⟨rfl, hb⟩
  have B' := Lib.hid (bt B.out hb)
  have c0 := (hb.cell (p := ⟨a3.heap.size, 0, none⟩) (World.block_lt_of_cell? _ _ c0)).trans c0
  have c1 := (hb.cell (p := ⟨a3.heap.size, 1, none⟩) (World.block_lt_of_cell? _ _ c1)).trans c1
  have c2 := (hb.cell (p := ⟨a3.heap.size, 2, none⟩) (World.block_lt_of_cell? _ _ c2)).trans c2
  have h0 := (hb.cell (p := ⟨a7.heap.size, 0, none⟩) (World.block_lt_of_cell? _ _ h0)).trans h0
  have h1 := (hb.cell (p := ⟨a7.heap.size, 1, none⟩) (World.block_lt_of_cell? _ _ h1)).trans h1
  have h2 := (hb.cell (p := ⟨a7.heap.size, 2, none⟩) (World.block_lt_of_cell? _ _ h2)).trans h2
  clear B T hb
  have B := Lib.hid (bt B'.out (below_alloc a8 (.cells #[.int .i64 0, .int .i64 0, .string ⟨#[]⟩] 24)))
  have ha := below_alloc a8 (.cells #[.int .i64 0, .int .i64 0, .string ⟨#[]⟩] 24)
  have c0 := (ha.cell (p := ⟨a3.heap.size, 0, none⟩) (World.block_lt_of_cell? _ _ c0)).trans c0
  have c1 := (ha.cell (p := ⟨a3.heap.size, 1, none⟩) (World.block_lt_of_cell? _ _ c1)).trans c1
  have c2 := (ha.cell (p := ⟨a3.heap.size, 2, none⟩) (World.block_lt_of_cell? _ _ c2)).trans c2
  have h0 := (ha.cell (p := ⟨a7.heap.size, 0, none⟩) (World.block_lt_of_cell? _ _ h0)).trans h0
  have h1 := (ha.cell (p := ⟨a7.heap.size, 1, none⟩) (World.block_lt_of_cell? _ _ h1)).trans h1
  have h2 := (ha.cell (p := ⟨a7.heap.size, 2, none⟩) (World.block_lt_of_cell? _ _ h2)).trans h2
  clear ha B'
  simp only [ansV]
  have T := Lib.hid (HT.out.below B.out)
  go_wp2_with fail
  refine (show_of s1 (by decide) _ T.out).mono ?_; rintro e a9 ⟨rfl, hb⟩
  have B9 := Lib.hid (bt B.out hb)
  have T9 := Lib.hid (HT.out.below B9.out)
  clear hb B T
  go_wp2_with fail
  refine (show_of s2 (by decide) _ T9.out).mono ?_; rintro e a10 ⟨rfl, hb⟩
  have B10 := Lib.hid (bt B9.out hb)
  clear hb B9 T9
  go_wp2_with fail
  refine (forward_any 7 0 ⟨#[]⟩ a10).mono ?_; rintro e a11 ⟨he, hb⟩
  rw [show forwardV 7 = false from by decide] at he
  subst he
  have B11 := Lib.hid (bt B10.out hb)
  clear hb B10
  go_wp2_with fail
  go_ret
  exact ⟨rfl, B11.out⟩
end Go.Proofs.YtebgloacobaocaaDoor
