import Derived.Test.YtcbcceghkgajjaaDoorUpper
import Derived.Test.YtcbcceghkgajjaaDoorLine
namespace Go.Proofs.YtcbcceghkgajjaaDoor
open Go.ChangeShapes Go.WideShapes Go.ChangeAt Go.RowKit Go.Shelf Go.Lib CharsMath
theorem wf_i32_lo {a : Int} (h : (Lit.int .i32 a).wf = true) : -2147483648 ≤ a := by
  simp [Lit.wf, IntKind.min, IntKind.max, IntKind.signed, IntKind.bits] at h; omega
theorem wf_i32_hi {a : Int} (h : (Lit.int .i32 a).wf = true) : a ≤ 2147483647 := by
  simp [Lit.wf, IntKind.min, IntKind.max, IntKind.signed, IntKind.bits] at h; omega
theorem clampE (x : Int) (n : Nat) : ∃ a : Nat, a ≤ n ∧ (x = a ∨ (x < 0 ∧ a = 0) ∨ ((n : Int) < x ∧ a = n)) := by
  by_cases h : x < 0
  · exact ⟨0, by omega, .inr (.inl ⟨h, rfl⟩)⟩
  · by_cases h2 : (n : Int) < x
    · exact ⟨n, by omega, .inr (.inr ⟨h2, rfl⟩)⟩
    · exact ⟨x.toNat, by omega, .inl (by omega)⟩
set_option maxHeartbeats 2000000 in
theorem says_walk (s : ByteArray) (r x n : Int) (w : World) (hlo : -2147483648 ≤ r) (hhi : r ≤ 2147483647) (hT : Tabs w) :
    Calls Tryd.prog 4 #[.string s, .int .i32 r, .int .i64 x, .int .i64 n] w fun e w' => e = .returned (.bool true) ∧ Below w.heap.size w w' := by
  have hp := hT.hp
  have HT := Lib.hid hT; clear hT
  obtain ⟨h0, hc⟩ := hp
  have HC := Lib.hid hc; clear hc
  by_cases hl : (300 : Int) < s.size
  · go_enter Tryd.func4, Tryd.ntmps4
    go_wp2_with fail
    refine (awake _ h0 HC.out).mono ?_; rintro e w1 ⟨rfl, hb1⟩
    go_wp2
    all_goals (go_ret; exact ⟨rfl, hb1⟩)
  have hl' : s.size ≤ 300 := by omega
  clear hl
  obtain ⟨a, ha, hx⟩ := clampE x s.size
  have HX := Lib.hid hx; clear hx
  go_enter Tryd.func4, Tryd.ntmps4
  go_wp2_with fail
  refine (awake _ h0 HC.out).mono ?_; rintro e w1 ⟨rfl, hb1⟩
  have HT1 := Lib.hid (HT.out.below hb1)
  go_wp2_with fail
  refine (pos_any s _ a _ (by omega) ha HX.out).mono ?_; rintro e w2 ⟨rfl, hb2⟩
  have HT2 := Lib.hid (HT1.out.below hb2)
  go_wp2_with fail
  refine (rpos_any s _ a _ (by omega) ha HX.out).mono ?_; rintro e w3 ⟨rfl, hb3⟩
  have HT3 := Lib.hid (HT2.out.below hb3)
  go_wp2_with fail
  refine (line_any s _ _ (by omega)).mono ?_; rintro e w4 ⟨rfl, hb4⟩
  have HT4 := Lib.hid (HT3.out.below hb4)
  go_wp2_with fail
  refine (rline_any s _ _ (by omega)).mono ?_; rintro e w5 ⟨rfl, hb5⟩
  have HT5 := Lib.hid (HT4.out.below hb5)
  have B5 : Below w.heap.size w w5 := hb1.trans ((hb2.trans ((hb3.trans ((hb4.trans (hb5.mono hb4.size)).mono hb3.size)).mono hb2.size)).mono hb1.size)
  clear hb1 hb2 hb3 hb4 hb5
  go_wp2_with fail
  refine (class_any r _ hlo hhi HT5.out).mono ?_; rintro e w6 ⟨rfl, hb6⟩
  have HT6 := Lib.hid (HT5.out.below hb6)
  go_wp2_with fail
  refine (rclass_any r _ hlo hhi HT6.out).mono ?_; rintro e w7 ⟨rfl, hb7⟩
  have HT7 := Lib.hid (HT6.out.below hb7)
  go_wp2_with fail
  refine (runes_any s _ (by unfold maxLen; omega)).mono ?_; rintro e w8 ⟨rfl, hb8⟩
  have HT8 := Lib.hid (HT7.out.below hb8)
  go_wp2_with fail
  refine (count_any s _ (by unfold maxLen; omega)).mono ?_; rintro e w9 ⟨rfl, hb9⟩
  have HT9 := Lib.hid (HT8.out.below hb9)
  go_wp2_with fail
  refine (upper_any s _ HT9.out).mono ?_; rintro e w10 ⟨rfl, hb10⟩
  have HT10 := Lib.hid (HT9.out.below hb10)
  go_wp2_with fail
  refine (rupper_any s _ HT10.out).mono ?_; rintro e w11 ⟨rfl, hb11⟩
  have B11 : Below w.heap.size w w11 := B5.trans ((hb6.trans ((hb7.trans ((hb8.trans ((hb9.trans ((hb10.trans (hb11.mono hb10.size)).mono hb9.size)).mono hb8.size)).mono hb7.size)).mono hb6.size)).mono B5.size)
  clear hb6 hb7 hb8 hb9 hb10 hb11
  go_wp2
  go_ret
  exact ⟨rfl, B11⟩
end Go.Proofs.YtcbcceghkgajjaaDoor
