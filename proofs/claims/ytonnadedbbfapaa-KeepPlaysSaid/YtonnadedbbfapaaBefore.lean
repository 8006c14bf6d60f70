import Derived.Test.YtonnadedbbfapaaInv
namespace Go.Proofs.Ytonnadedbbfapaa
open Go.ChangeShapes Go.WideShapes Go.ChangeAt Go.RowKit
theorem mul_in (i every : Int) (h1 : 0 ≤ i) (h2 : i ≤ 1000000) (h3 : 1 ≤ every) (h4 : every ≤ 1000000) : wrap64 (i * every) = i * every := by
  have a : 0 ≤ i * every := Int.mul_nonneg h1 (by omega)
  have b : i * every ≤ 1000000 * 1000000 := Int.mul_le_mul h2 h4 (by omega) (by omega)
  exact IntWalk.wrap64_in _ (by omega)
set_option maxHeartbeats 4000000 in
theorem before_out (every most n ask : Int) (w : World) (h : every < 1 ∨ 1000 < every ∨ most < 2 ∨ 64 < most ∨ n < 0 ∨ 100 < n ∨ ask < 0) :
    Calls Try.prog 5 #[.int .i64 every, .int .i64 most, .int .i64 n, .int .i64 ask] w fun e w' => e = .returned (.bool true) ∧ Below w.heap.size w w' := by
  by_cases h1 : every < 1
  · clear h; go_enter Try.func5, Try.ntmps5
    go_wp2_with fail; refine (awake _).mono ?_; rintro e w1 ⟨rfl, hb1⟩
    go_wp2; all_goals (go_ret; exact ⟨rfl, hb1⟩)
  have h1' : 1 ≤ every := by omega
  clear h1
  by_cases h2 : 1000 < every
  · clear h; go_enter Try.func5, Try.ntmps5
    go_wp2_with fail; refine (awake _).mono ?_; rintro e w1 ⟨rfl, hb1⟩
    go_wp2; all_goals (go_ret; exact ⟨rfl, hb1⟩)
  have h2' : every ≤ 1000 := by omega
  clear h2
  by_cases h3 : most < 2
  · clear h; go_enter Try.func5, Try.ntmps5
    go_wp2_with fail; refine (awake _).mono ?_; rintro e w1 ⟨rfl, hb1⟩
    go_wp2; all_goals (go_ret; exact ⟨rfl, hb1⟩)
  have h3' : 2 ≤ most := by omega
  clear h3
  by_cases h4 : 64 < most
  · clear h; go_enter Try.func5, Try.ntmps5
    go_wp2_with fail; refine (awake _).mono ?_; rintro e w1 ⟨rfl, hb1⟩
    go_wp2; all_goals (go_ret; exact ⟨rfl, hb1⟩)
  have h4' : most ≤ 64 := by omega
  clear h4
  by_cases h5 : n < 0
  · clear h; go_enter Try.func5, Try.ntmps5
    go_wp2_with fail; refine (awake _).mono ?_; rintro e w1 ⟨rfl, hb1⟩
    go_wp2; all_goals (go_ret; exact ⟨rfl, hb1⟩)
  have h5' : 0 ≤ n := by omega
  clear h5
  by_cases h6 : 100 < n
  · clear h; go_enter Try.func5, Try.ntmps5
    go_wp2_with fail; refine (awake _).mono ?_; rintro e w1 ⟨rfl, hb1⟩
    go_wp2; all_goals (go_ret; exact ⟨rfl, hb1⟩)
  have h6' : n ≤ 100 := by omega
  have h7 : ask < 0 := by omega
  clear h6 h
  go_enter Try.func5, Try.ntmps5
  go_wp2_with fail; refine (awake _).mono ?_; rintro e w1 ⟨rfl, hb1⟩
  go_wp2; all_goals (go_ret; exact ⟨rfl, hb1⟩)
set_option maxHeartbeats 4000000 in
set_option maxRecDepth 100000 in
theorem before_in (every most ask : Int) (n : Nat) (w : World) (h1 : 1 ≤ every) (h2 : every ≤ 1000) (h3 : 2 ≤ most) (h4 : most ≤ 64) (h6 : n ≤ 100) (h7 : 0 ≤ ask) :
    Calls Try.prog 5 #[.int .i64 every, .int .i64 most, .int .i64 n, .int .i64 ask] w fun e w' => e = .returned (.bool true) ∧ Below w.heap.size w w' := by
  go_enter Try.func5, Try.ntmps5
  go_wp2_with fail
  refine (awake _).mono ?_; rintro e w1 ⟨rfl, hb1⟩
  go_wp2_with fail
  refine (new_good every most _ h1 (by omega) h3 h4).mono ?_; rintro e w2 ⟨rfl, k2, hb2⟩
  have B2 := Lib.hid (hb1.trans (hb2.mono hb1.size))
  have HB1 := Lib.hid hb1
  obtain ⟨B, hB⟩ : ∃ B, B = w1.heap.size := ⟨_, rfl⟩
  rw [← hB] at k2 ⊢
  have HBe := Lib.hid hB; clear hB hb1 hb2
  have K2 := Lib.hid k2; clear k2
  go_wp2
  go_loopw [11] (fun i wr => ∃ k : Nat, k ≤ n ∧ i = .int .i64 ((k : Int) + 1) ∧ Hid (∃ h cap xs, KAt wr B (B + 1) every most h cap xs ∧ Inv every most k xs ∧ Below w.heap.size w wr)) (fun i _ => n + 1 - (intOf i).toNat)
  case atStart => exact ⟨0, by omega, rfl, Lib.hid ⟨_, _, _, K2.out, Inv.start every most h3, B2.out⟩⟩
  case round =>
    obtain ⟨k, hk, rfl, hi⟩ := hrel
    by_cases hlt : k < n
    · obtain ⟨h, cap, xs, kk, v, bb⟩ := hi.out
      have HM := Lib.hid (mul_in ((k : Int) + 1) every (by omega) (by omega) h1 (by omega))
      have ADD := Lib.hid (add_any kk v h1 (by omega) h3 h4 (by omega))
      have HV := Lib.hid (v.step h1 h3)
      have HBB := Lib.hid bb
      clear kk v bb hi
      go_wp2_with fail
      rw [HM.out]
      refine ADD.out.mono ?_
      rintro e w3 ⟨r, rfl, h', cap', k3, b3⟩
      have HN : Hid (∃ h cap xs, KAt w3 B (B + 1) every most h cap xs ∧ Inv every most (k + 1) xs ∧ Below w.heap.size w w3) :=
        Lib.hid ⟨h', cap', _, k3, HV.out, HBB.out.trans (b3.mono (by rw [HBe.out]; exact HB1.out.size))⟩
      clear k3 b3
      go_wp2
      go_roundw
      case rel => exact ⟨k + 1, by omega, by go_num, HN⟩
      case measure => simp [intOf]; omega
    · obtain rfl : k = n := by omega
      obtain ⟨h, cap, xs, kk, v, bb⟩ := hi.out
      have l1 := v.l1
      have lm : xs.length ≤ 64 := by have := v.lm; omega
      obtain ⟨q, q1, q2, q3, q4⟩ := before_is v ask h7 xs.length l1 (by omega)
      have hneg := before_neg v (-1) (by omega) xs.length (by omega)
      obtain ⟨z, hz⟩ : ∃ z, z = xs.getD q 0 := ⟨_, rfl⟩
      rw [← hz] at q2 q3
      have KK := Lib.hid kk
      have V := Lib.hid v
      have BB := Lib.hid bb
      have HZ := Lib.hid hz
      have HQ2 := Lib.hid q2
      have HQ4 := Lib.hid q4
      have HNG := Lib.hid hneg
      clear kk v bb hi hz q2 q4 hneg hlt
      go_wp2_with fail
      refine (before_any ask KK.out (by omega)).mono ?_; rintro e w3 ⟨rfl, rfl⟩
      rw [HQ2.out]
      go_wp2_with fail
      refine (kept_any KK.out (by omega) (by omega)).mono ?_; rintro e w4 ⟨r, cr, rfl, hrd, hr1, hr2, hb4⟩
      have RD := Lib.hid hrd
      have K4 := Lib.hid (KK.out.below hb4)
      have B4 := Lib.hid (BB.out.trans (hb4.mono BB.out.size))
      clear hrd hb4
      go_wp2
      go_loop [13, 15] (fun b i => ∃ j : Nat, j ≤ xs.length ∧ i = .int .i64 j ∧ b = .bool (decide (q < j))) (fun _ i => xs.length - (intOf i).toNat)
      case atStart => exact ⟨0, by omega, rfl, rfl⟩
      case round =>
        obtain ⟨j, hj, rfl, rfl⟩ := hrel
        by_cases hjl : j < xs.length
        · have cx := RD.out j hjl
          rw [Nat.zero_add] at cx
          obtain ⟨x, hx⟩ : ∃ x, x = xs.getD j 0 := ⟨_, rfl⟩
          rw [← hx] at cx
          have HX := Lib.hid hx; clear hx
          by_cases c1 : j < q
          · have hle : x < z := by
              rw [HX.out, HZ.out]
              have a := V.out.asc j (by omega); have b := V.out.mono (q - (j + 1)) (j + 1) (by omega)
              rw [show j + 1 + (q - (j + 1)) = q from by omega] at b; omega
            have e1 : (x == z) = false := beq_eq_false_iff_ne.2 (by omega)
            have e2 : decide (q < j) = false := decide_eq_false (by omega)
            have e3 : decide (q < j + 1) = false := decide_eq_false (by omega)
            have hle2 : decide (z < x) = false := decide_eq_false (by omega)
            go_wp2
            go_round
            case rel => exact ⟨j + 1, by omega, by go_num, by rw [e3]⟩
            case measure => simp [intOf]; omega
          · by_cases c2 : j = q
            · subst c2
              have hxz : x = z := by rw [HX.out, HZ.out]
              subst hxz
              have e2 : decide (j < j) = false := decide_eq_false (by omega)
              have e3 : decide (j < j + 1) = true := decide_eq_true (by omega)
              have E3 := Lib.hid e3; clear e3
              go_wp2
              go_round
              case rel => exact ⟨j + 1, by omega, by go_num, by rw [E3.out]⟩
              case measure => simp [intOf]; omega
            · have hgt : ask < x := by rw [HX.out]; exact HQ4.out j (by omega) hjl
              have hzx : z < x := by omega
              have e2 : decide (q < j) = true := decide_eq_true (by omega)
              have e3 : decide (q < j + 1) = true := decide_eq_true (by omega)
              have E3 := Lib.hid e3; clear e3 c1 c2
              go_wp2
              go_round
              case rel => exact ⟨j + 1, by omega, by go_num, by rw [E3.out]⟩
              case measure => simp [intOf]; omega
        · obtain rfl : j = xs.length := by omega
          have e2 : decide (q < xs.length) = true := decide_eq_true q1
          clear hjl
          go_wp2_with fail
          refine (before_any (-1) K4.out (by omega)).mono ?_; rintro e w5 ⟨rfl, rfl⟩
          rw [HNG.out]
          go_wp2
          go_ret
          exact ⟨rfl, B4.out⟩
theorem before_walk (every most n ask : Int) (w : World) :
    Calls Try.prog 5 #[.int .i64 every, .int .i64 most, .int .i64 n, .int .i64 ask] w fun e w' => e = .returned (.bool true) ∧ Below w.heap.size w w' := by
  by_cases h : every < 1 ∨ 1000 < every ∨ most < 2 ∨ 64 < most ∨ n < 0 ∨ 100 < n ∨ ask < 0
  · exact before_out every most n ask w h
  · obtain ⟨k, rfl⟩ : ∃ k : Nat, n = k := ⟨n.toNat, by omega⟩
    exact before_in every most ask k w (by omega) (by omega) (by omega) (by omega) (by omega) (by omega)
end Go.Proofs.Ytonnadedbbfapaa
