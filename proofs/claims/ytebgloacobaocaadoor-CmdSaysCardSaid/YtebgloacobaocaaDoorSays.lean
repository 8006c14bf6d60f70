/- The law's walk of CmdSays: any text is a command, or none, as the document says; any command is written as it says. -/
import Derived.Test.YtebgloacobaocaaDoorSayt
namespace Go.Proofs.YtebgloacobaocaaDoor
open Go.ChangeShapes Go.WideShapes Go.ChangeAt Go.RowKit Go.Shelf Go.Lib CharsMath
set_option linter.unusedVariables false
set_option maxRecDepth 100000 in
set_option maxHeartbeats 4000000 in
theorem says_long (s : ByteArray) (a b : Int) (c : ByteArray) (w : World) (hT : Tabs w) (h : 200 < s.size ∨ (s.size ≤ 200 ∧ 200 < c.size)) :
    Calls Tryd.prog 4 #[.string s, .agg #[.int .i64 a, .int .i64 b, .string c]] w fun e w' => e = .returned (.bool true) ∧ Below w.heap.size w w' := by
  have HT := Lib.hid hT
  have AW := Lib.hid (fun W (hT : Tabs W) => awake_any W hT)
  clear hT
  obtain ⟨a0, a1, a2⟩ := box3 w (.int .i64 a) (.int .i64 b) (.string c)
  have BA := Lib.hid (below_alloc w (.cells #[.int .i64 a, .int .i64 b, .string c] 24))
  rcases h with h | ⟨h1, h2⟩
  · have d1 := decide_eq_true (show (200 : Int) < (s.size : Int) by omega)
    have d1' := decide_eq_true h
    clear h
    go_enter Tryd.func4, Tryd.ntmps4
    go_wp2_with fail
    refine (AW.out _ (HT.out.below BA.out)).mono ?_; rintro e w1 ⟨rfl, hb1⟩
    have B1 := Lib.hid (bt BA.out hb1)
    have p2 := keepC hb1 a2
    clear a0 a1 a2 hb1
    go_wp2_with fail
    go_ret
    exact ⟨rfl, B1.out⟩
  · have d1 := decide_eq_false (show ¬ (200 : Int) < (s.size : Int) by omega)
    have d1' := decide_eq_false (show ¬ 200 < s.size by omega)
    have d2 := decide_eq_true (show (200 : Int) < (c.size : Int) by omega)
    have d2' := decide_eq_true h2
    clear h1 h2
    go_enter Tryd.func4, Tryd.ntmps4
    go_wp2_with fail
    refine (AW.out _ (HT.out.below BA.out)).mono ?_; rintro e w1 ⟨rfl, hb1⟩
    have B1 := Lib.hid (bt BA.out hb1)
    have p2 := keepC hb1 a2
    clear a0 a1 a2 hb1
    go_wp2_with fail
    go_ret
    exact ⟨rfl, B1.out⟩
theorem says_walk (s : ByteArray) (a b : Int) (c : ByteArray) (w : World) (hT : Tabs w) (hb0 : -9223372036854775808 ≤ b) (hb1 : b ≤ 9223372036854775807) :
    Calls Tryd.prog 4 #[.string s, .agg #[.int .i64 a, .int .i64 b, .string c]] w fun e w' => e = .returned (.bool true) ∧ Below w.heap.size w w' := by
  by_cases h1 : 200 < s.size
  · exact says_long s a b c w hT (.inl h1)
  by_cases h2 : 200 < c.size
  · exact says_long s a b c w hT (.inr ⟨by omega, h2⟩)
  have hs : s.size ≤ 200 := by omega
  have hc : c.size ≤ 200 := by omega
  cases hr : parseV s with
  | none =>
    by_cases f1 : a < 3
    · exact says_n1 s a b c w hT 0 0 ⟨#[]⟩ hb0 hb1 hs hc f1 hr
    · by_cases f2 : a ≤ 6
      · exact says_n2 s a b c w hT 0 0 ⟨#[]⟩ hb0 hb1 hs hc (by omega) f2 hr
      · exact says_n3 s a b c w hT 0 0 ⟨#[]⟩ hb0 hb1 hs hc (by omega) (by omega) hr
  | some y =>
    obtain ⟨k, n, x⟩ := y
    by_cases f1 : a < 3
    · exact says_s1 s a b c w hT k n x hb0 hb1 hs hc f1 hr
    · by_cases f2 : a ≤ 6
      · exact says_s2 s a b c w hT k n x hb0 hb1 hs hc (by omega) f2 hr
      · exact says_s3 s a b c w hT k n x hb0 hb1 hs hc (by omega) (by omega) hr
end Go.Proofs.YtebgloacobaocaaDoor
