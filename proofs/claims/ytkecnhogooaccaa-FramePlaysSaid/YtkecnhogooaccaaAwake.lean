import Derived.Test.YtkecnhogooaccaaModel
namespace Go.Proofs.Ytkecnhogooaccaa
open Go.ChangeShapes Go.WideShapes Go.ChangeAt Go.RowKit
set_option linter.unusedVariables false
set_option maxRecDepth 100000 in
set_option maxHeartbeats 2000000 in
theorem num5 (w : World) : Calls Try.prog 11 #[.int .i64 5] w fun e w' => e = .returned (.int .u64 11) ∧ w = w' := by
  have b1 : bits BinOp.or IntKind.u64 10 1 = 11 := by decide +kernel
  go_enter Try.func11, Try.ntmps11
  go_wp2
  go_ret
  exact ⟨rfl, rfl⟩
set_option maxRecDepth 100000 in
set_option maxHeartbeats 2000000 in
theorem awake_any (w : World) : Calls Try.prog 7 #[] w fun e w' => e = .returned (.bool true) ∧ Below w.heap.size w w' := by
  go_enter Try.func7, Try.ntmps7
  go_wp2_with fail
  refine (new_st 100 (by omega) (by omega)).mono ?_; rintro e w1 ⟨g, rfl, s1⟩
  go_wp2_with fail
  refine (push_st 7 8 2 s1.out).mono ?_; rintro e w2 ⟨he, s2⟩
  have s2 : Hid (StN w w2 g 100 [⟨7, 8, [1, 1], []⟩]) := s2
  have he : e = .returned (.int .i64 0) := he
  subst he
  clear s1
  go_wp2_with fail
  refine (num5 w2).mono ?_; rintro e w3 ⟨rfl, rfl⟩
  go_wp2_with fail
  refine (add_any 11 s2.out).mono ?_; rintro e w3 ⟨he, s3⟩
  have s3 : Hid (StN w w3 g 100 ([] ++ [⟨7, 8, [1, 1], [11]⟩])) := s3
  have he : e = .returned (.int .i64 0) := he
  subst he
  clear s2
  go_wp2_with fail
  refine (pop_st s3.out).mono ?_; rintro e w4 ⟨rfl, s4⟩
  clear s3
  go_wp2_with fail
  refine (take_any s4.out).mono ?_; rintro e w5 ⟨he, s5⟩
  have s5 : Hid (StN w w5 g 100 []) := s5
  have he : e = .returned (.tuple #[.int .u64 0, .int .i64 4]) := he
  subst he
  clear s4
  go_wp2_with fail
  refine (depth_st s5.out).mono ?_; rintro e w6 ⟨rfl, hb⟩
  have s6 := Lib.hid (s5.out.below hb)
  clear hb s5
  go_wp2
  go_ret
  exact ⟨rfl, s6.out.small⟩
end Go.Proofs.Ytkecnhogooaccaa
