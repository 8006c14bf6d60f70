import Derived.Test.YtebgloacobaocaaDoorCb
namespace Go.Proofs.YtebgloacobaocaaDoor
open Go.ChangeShapes Go.WideShapes Go.ChangeAt Go.RowKit Go.Shelf Go.Lib CharsMath
set_option linter.unusedVariables false
set_option maxRecDepth 100000 in
set_option maxHeartbeats 4000000 in
theorem bk_walk (s : ByteArray) (w : World) (hT : Tabs w) : Calls Tryd.prog 5 #[.string s] w fun e w' => e = .returned (.bool true) ∧ Below w.heap.size w w' := by
  have HT := Lib.hid hT
  have AW := Lib.hid (awake_any w hT)
  clear hT
  by_cases h1 : (200 : Int) < (s.size : Int)
  · have d1 := decide_eq_true h1
    have d1' := decide_eq_true (show 200 < s.size by omega)
    go_enter Tryd.func5, Tryd.ntmps5
    go_wp2_with fail
    refine AW.out.mono ?_; rintro e w1 ⟨rfl, hb1⟩
    have HB := Lib.hid hb1; clear hb1
    go_wp2
    go_ret
    exact ⟨rfl, HB.out⟩
  have d1 := decide_eq_false h1
  have d1' := decide_eq_false (show ¬ 200 < s.size by omega)
  have hs : s.size ≤ 200 := by omega
  clear h1
  obtain ⟨t1, ht1⟩ : ∃ t, t = (⟨#[32]⟩ : ByteArray) ++ s := ⟨_, rfl⟩
  obtain ⟨t2, ht2⟩ : ∃ t, t = t1 ++ (⟨#[10]⟩ : ByteArray) := ⟨_, rfl⟩
  have l1 : t1.size ≤ 201 := by rw [ht1, ByteArray.size_append]; show 1 + s.size ≤ 201; omega
  have l2 : t2.size ≤ 300 := by rw [ht2, ByteArray.size_append]; show t1.size + 1 ≤ 300; omega
  have a1 := add_str ht1.symm (by decide) (by omega)
  have a2 := add_str ht2.symm (by omega) (by decide)
  have BBL := Lib.hid (back_blanks s)
  rw [← ht1, ← ht2] at BBL
  obtain ⟨r, hr⟩ : ∃ r, parseV s = r := ⟨_, rfl⟩
  have HR := Lib.hid hr
  have PA := Lib.hid (fun W (hT : Tabs W) => parse_of hr (by omega) W hT)
  have PC := Lib.hid (fun W (hT : Tabs W) => parse_of (BBL.out.trans hr) (by omega) W hT)
  have HS := Lib.hid hs
  clear ht1 ht2 l1 l2 hr hs BBL
  cases r with
  | none =>
    go_enter Tryd.func5, Tryd.ntmps5
    go_wp2_with fail
    refine AW.out.mono ?_; rintro e w1 ⟨rfl, hb1⟩
    have HB := Lib.hid hb1; clear hb1
    have T1 := Lib.hid (HT.out.below HB.out)
    go_wp2_with fail
    refine (PA.out _ T1.out).mono ?_; rintro e w2 ⟨rfl, hb2⟩
    simp only [ansV]
    obtain ⟨c0, c1, c2⟩ := box3 w2 (.int .i64 0) (.int .i64 0) (.string ⟨#[]⟩)
    have B3 := Lib.hid (bt (bt HB.out hb2) (below_alloc w2 (.cells #[.int .i64 0, .int .i64 0, .string ⟨#[]⟩] 24)))
    clear hb2
    go_wp2_with fail
    go_ret
    exact ⟨rfl, B3.out⟩
  | some y =>
    obtain ⟨k, n, x⟩ := y
    have PG := Lib.hid (parse_good HR.out)
    have xl : x.size ≤ 200 := by have := PG.out.2; have := HS.out; omega
    obtain ⟨v, hv⟩ : ∃ v, showV k n x = v := ⟨_, rfl⟩
    have vl : v.size ≤ 300 := by rw [← hv]; exact show_len xl
    have SH := Lib.hid (fun W (hT : Tabs W) => show_of hv (by omega) W hT)
    have PB2 := Lib.hid (fun W (hT : Tabs W) => parse_of (hv ▸ back_show PG.out.1) (by omega) W hT)
    clear xl vl hv
    go_enter Tryd.func5, Tryd.ntmps5
    go_wp2_with fail
    refine AW.out.mono ?_; rintro e w1 ⟨rfl, hb1⟩
    have HB := Lib.hid hb1; clear hb1
    have T1 := Lib.hid (HT.out.below HB.out)
    go_wp2_with fail
    refine (PA.out _ T1.out).mono ?_; rintro e w2 ⟨rfl, hb2⟩
    simp only [ansV]
    obtain ⟨c0, c1, c2⟩ := box3 w2 (.int .i64 k) (.int .i64 n) (.string x)
    have hlt : w2.heap.size < (w2.alloc (.cells #[.int .i64 k, .int .i64 n, .string x] 24)).heap.size := by simp
    have HLT := Lib.hid hlt
    have B3 := Lib.hid (bt (bt HB.out hb2) (below_alloc w2 (.cells #[.int .i64 k, .int .i64 n, .string x] 24)))
    have T3 := Lib.hid (HT.out.below B3.out)
    clear hb2 hlt
    go_wp2_with fail
    refine (SH.out _ T3.out).mono ?_; rintro e w4 ⟨rfl, hb4⟩
    have B4 := Lib.hid (bt B3.out hb4)
    have T4 := Lib.hid (HT.out.below B4.out)
    have E4 := Lib.hid hb4
    clear hb4
    go_wp2_with fail
    refine (PB2.out _ T4.out).mono ?_; rintro e w5 ⟨rfl, hb5⟩
    simp only [ansV]
    have E5 := Lib.hid (bt E4.out (bt hb5 (below_alloc w5 (.cells #[.int .i64 k, .int .i64 n, .string x] 24))))
    have B5 := Lib.hid (bt B3.out E5.out)
    have T5 := Lib.hid (HT.out.below B5.out)
    obtain ⟨f0, f1, f2⟩ := box3 w5 (.int .i64 k) (.int .i64 n) (.string x)
    clear hb5 E4 B4 T4
    go_wp2_with fail
    refine (PC.out _ T5.out).mono ?_; rintro e w6 ⟨rfl, hb6⟩
    simp only [ansV]
    have D6 := Lib.hid (bt hb6 (below_alloc w6 (.cells #[.int .i64 k, .int .i64 n, .string x] 24)))
    have E6 := Lib.hid (bt E5.out D6.out)
    have B6 := Lib.hid (bt B3.out E6.out)
    obtain ⟨g0, g1, g2⟩ := box3 w6 (.int .i64 k) (.int .i64 n) (.string x)
    have k0 := (E6.out.cell (p := ⟨w2.heap.size, 0, none⟩) HLT.out).trans c0
    have k1 := (E6.out.cell (p := ⟨w2.heap.size, 1, none⟩) HLT.out).trans c1
    have k2 := (E6.out.cell (p := ⟨w2.heap.size, 2, none⟩) HLT.out).trans c2
    have m0 := (D6.out.cell (p := ⟨w5.heap.size, 0, none⟩) (by simp)).trans f0
    have m1 := (D6.out.cell (p := ⟨w5.heap.size, 1, none⟩) (by simp)).trans f1
    have m2 := (D6.out.cell (p := ⟨w5.heap.size, 2, none⟩) (by simp)).trans f2
    clear hb6 c0 c1 c2 f0 f1 f2
    go_wp2_with fail
    go_ret
    exact ⟨rfl, B6.out⟩
end Go.Proofs.YtebgloacobaocaaDoor
