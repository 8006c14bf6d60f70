import Derived.Test.YtonnadedbbfapaaBefore
namespace Go.Proofs.Ytonnadedbbfapaa
open Go.ChangeShapes Go.WideShapes Go.ChangeAt Go.RowKit
set_option maxHeartbeats 4000000 in
theorem even_out (every most n : Int) (w : World) (h : every < 1 ∨ 1000 < every ∨ most < 2 ∨ 64 < most ∨ n < 0 ∨ 300 < n) :
    Calls Try.prog 4 #[.int .i64 every, .int .i64 most, .int .i64 n] w fun e w' => e = .returned (.bool true) ∧ Below w.heap.size w w' := by
  by_cases h1 : every < 1
  · clear h; go_enter Try.func4, Try.ntmps4
    go_wp2_with fail; refine (awake _).mono ?_; rintro e w1 ⟨rfl, hb1⟩
    go_wp2; all_goals (go_ret; exact ⟨rfl, hb1⟩)
  have h1' : 1 ≤ every := by omega
  clear h1
  by_cases h2 : 1000 < every
  · clear h; go_enter Try.func4, Try.ntmps4
    go_wp2_with fail; refine (awake _).mono ?_; rintro e w1 ⟨rfl, hb1⟩
    go_wp2; all_goals (go_ret; exact ⟨rfl, hb1⟩)
  have h2' : every ≤ 1000 := by omega
  clear h2
  by_cases h3 : most < 2
  · clear h; go_enter Try.func4, Try.ntmps4
    go_wp2_with fail; refine (awake _).mono ?_; rintro e w1 ⟨rfl, hb1⟩
    go_wp2; all_goals (go_ret; exact ⟨rfl, hb1⟩)
  have h3' : 2 ≤ most := by omega
  clear h3
  by_cases h4 : 64 < most
  · clear h; go_enter Try.func4, Try.ntmps4
    go_wp2_with fail; refine (awake _).mono ?_; rintro e w1 ⟨rfl, hb1⟩
    go_wp2; all_goals (go_ret; exact ⟨rfl, hb1⟩)
  have h4' : most ≤ 64 := by omega
  clear h4
  by_cases h5 : n < 0
  · clear h; go_enter Try.func4, Try.ntmps4
    go_wp2_with fail; refine (awake _).mono ?_; rintro e w1 ⟨rfl, hb1⟩
    go_wp2; all_goals (go_ret; exact ⟨rfl, hb1⟩)
  have h5' : 0 ≤ n := by omega
  clear h5
  have h6 : 300 < n := by omega
  clear h
  go_enter Try.func4, Try.ntmps4
  go_wp2_with fail; refine (awake _).mono ?_; rintro e w1 ⟨rfl, hb1⟩
  go_wp2; all_goals (go_ret; exact ⟨rfl, hb1⟩)
set_option maxHeartbeats 8000000 in
set_option maxRecDepth 100000 in
theorem even_in (every most : Int) (n : Nat) (w : World) (h1 : 1 ≤ every) (h2 : every ≤ 1000) (h3 : 2 ≤ most) (h4 : most ≤ 64) (h6 : n ≤ 300) :
    Calls Try.prog 4 #[.int .i64 every, .int .i64 most, .int .i64 n] w fun e w' => e = .returned (.bool true) ∧ Below w.heap.size w w' := by
  go_enter Try.func4, Try.ntmps4
  go_wp2_with fail
  refine (awake _).mono ?_; rintro e w1 ⟨rfl, hb1⟩
  go_wp2_with fail
  refine (new_good every most _ h1 (by omega) h3 h4).mono ?_; rintro e w2 ⟨rfl, k2, hb2⟩
  have B2 := Lib.hid (hb1.trans (hb2.mono hb1.size))
  have HB1 := Lib.hid hb1
  obtain ⟨B, hB⟩ : ∃ B, B = w1.heap.size := ⟨_, rfl⟩
  rw [← hB] at k2 ⊢
  have HBe := Lib.hid hB; clear hB hb1 hb2
  have K2 := Lib.hid k2; clear k2
  go_wp2
  go_loopw [9] (fun i wr => ∃ k : Nat, k ≤ n ∧ i = .int .i64 ((k : Int) + 1) ∧ Hid (∃ h cap xs, KAt wr B (B + 1) every most h cap xs ∧ Inv every most k xs ∧ Below w.heap.size w wr)) (fun i _ => n + 1 - (intOf i).toNat)
  case atStart => exact ⟨0, by omega, rfl, Lib.hid ⟨_, _, _, K2.out, Inv.start every most h3, B2.out⟩⟩
  case round =>
    obtain ⟨k, hk, rfl, hi⟩ := hrel
    by_cases hlt : k < n
    · obtain ⟨h, cap, xs, kk, v, bb⟩ := hi.out
      have l1 := v.l1
      have lm : xs.length ≤ 64 := by have := v.lm; omega
      have hmul := mul_in ((k : Int) + 1) every (by omega) (by omega) h1 (by omega)
      have wt := v.wants h1
      have c0 : (0 : Int) ≤ ((k : Int) + 1) * every := Int.mul_nonneg (by omega) (by omega)
      have cm : ((k : Int) + 1) * every ≤ 1000 * 1000 := Int.mul_le_mul (by omega) h2 (by omega) (by omega)
      have add := add_any kk v h1 (by omega) h3 h4 (by omega)
      have hv := v.step h1 h3
      have HK1 := Lib.hid kk
      have wcon := wants_any (((k : Int) + 1) * every) kk h1 l1 (by omega) (by omega) (by omega)
      have HBB := Lib.hid bb
      have HV0 := Lib.hid v
      clear v bb hi
      obtain ⟨c, hc⟩ : ∃ c, c = ((k : Int) + 1) * every := ⟨_, rfl⟩
      rw [← hc] at hmul wt c0 cm add hv wcon
      have HC := Lib.hid hc; clear hc
      have HM := Lib.hid hmul; clear hmul
      have WT := Lib.hid wt; clear wt
      have WC := Lib.hid wcon; clear wcon add
      have HV := Lib.hid hv; clear hv
      have hvv := HV.out
      obtain ⟨ys, hys⟩ : ∃ ys, ys = nextX most xs c := ⟨_, rfl⟩
      rw [← hys] at hvv
      have m1 := hvv.l1; have m2 := hvv.lm; have m3 := hvv.l2 (by omega)
      have mq : ys.length ≤ 64 := by omega
      have mle := hvv.le
      have mfirst := hvv.first
      have mlast : ys.getD (ys.length - 1) 0 = c := by have := hvv.last; unfold lastX at this; rw [this, HC.out]; simp
      obtain ⟨q, q1, q2, q3, q4⟩ := before_is hvv c c0 ys.length m1 (by omega)
      have hqc : beforeGo c ys ys.length = c := by
        by_cases hq : q = ys.length - 1
        · rw [q2, hq, mlast]
        · have := q4 (ys.length - 1) (by omega) (by omega); rw [mlast] at this; omega
      have MF := Lib.hid mfirst; have ML := Lib.hid mlast; have QC := Lib.hid hqc; have VV := Lib.hid hvv; have HYS := Lib.hid hys
      clear mfirst mlast hqc hvv hys q1 q2 q3 q4
      clear kk
      go_wp2_with fail
      rw [← HC.out, HM.out]
      refine WC.out.mono ?_; rintro e w3 ⟨rfl, n3, rfl⟩
      rw [WT.out]
      have K3 := Lib.hid (HK1.out.drewN n3)
      have add := add_any K3.out HV0.out h1 (by omega) h3 h4 (by omega)
      rw [← HC.out, ← HYS.out] at add
      have ADD := Lib.hid add; clear add
      go_wp2_with fail
      refine ADD.out.mono ?_
      rintro e w4 ⟨rr, rfl, h', cap', k4, b4⟩
      have K4 := Lib.hid k4; clear k4
      have b3 : Below w.heap.size w (wr.drewN n3) := HBB.out.trans ((below_drewN wr n3).mono HBB.out.size)
      have B4 := Lib.hid (b3.trans (b4.mono (by rw [HBe.out]; exact HB1.out.size)))
      clear b3 b4
      go_wp2_with fail
      refine (kept_any K4.out (by omega) (by omega)).mono ?_; rintro e w5 ⟨r, cr, rfl, hrd, hr1, hr2, hb5⟩
      have RD := Lib.hid hrd
      have K5 := Lib.hid (K4.out.below hb5)
      have B5 := Lib.hid (B4.out.trans (hb5.mono B4.out.size))
      have x0 := RD.out 0 (by omega)
      rw [MF.out, Nat.zero_add] at x0
      have xl := RD.out (ys.length - 1) (by omega)
      rw [ML.out, Nat.zero_add] at xl
      clear hrd hb5
      have HN : Hid (∃ h cap xs, KAt w5 B (B + 1) every most h cap xs ∧ Inv every most (k + 1) xs ∧ Below w.heap.size w w5) := Lib.hid ⟨_, _, _, K5.out, VV.out, B5.out⟩
      by_cases hkm : ((k : Int) + 1) < most
      · have hle := mle (by omega)
        have hne : (((ys.length : Nat) : Int) != (k : Int) + 1 + 1) = false := by rw [hle]; simp
        clear mle hle
        go_wp2_with fail
        refine (before_any c K5.out (by omega)).mono ?_; rintro e w6 ⟨rfl, rfl⟩
        rw [QC.out]
        go_wp2
        go_loopw [12] (fun iv w' => ∃ q nd : Nat, 1 ≤ q ∧ q ≤ ys.length ∧ iv = .int .i64 q ∧ w' = w5.drewN nd) (fun iv _ => ys.length - (intOf iv).toNat)
        case atStart => exact ⟨1, 0, by omega, by omega, rfl, rfl⟩
        case round =>
          obtain ⟨q, nd, hq1, hq, rfl, rfl⟩ := hrel
          by_cases hql : q < ys.length
          · have y1 := RD.out q hql
            have y2 := RD.out (q - 1) (by omega)
            rw [Nat.zero_add] at y1 y2
            obtain ⟨a, ea⟩ : ∃ a, a = ys.getD q 0 := ⟨_, rfl⟩
            obtain ⟨b, eb⟩ : ∃ b, b = ys.getD (q - 1) 0 := ⟨_, rfl⟩
            have hasc := VV.out.asc (q - 1) (by omega)
            rw [show q - 1 + 1 = q from by omega] at hasc
            have hrng := VV.out.rng q hql
            rw [← ea] at y1 hasc hrng
            rw [← eb] at y2 hasc
            obtain ⟨g1, g2, g3⟩ := hrng
            have g4 : (a % every != 0) = false := by rw [g3]; simp
            have g5 : decide (a ≤ b) = false := decide_eq_false (by omega)
            clear g2 g3 ea eb
            go_wp2
            go_quiet (fail)
            go_wp2
            go_roundw
            case rel => exact ⟨q + 1, _, by omega, by omega, by go_num, rfl⟩
            case measure => simp [intOf]; omega
          · have hqe : ys.length ≤ q := by omega
            clear hql
            go_wp2
            go_roundw
            case rel =>
              obtain ⟨h9, cap9, xs9, k9, v9, b9⟩ := HN.out
              exact ⟨k + 1, by omega, by go_num, Lib.hid ⟨h9, cap9, xs9, k9.drewN nd, v9, b9.trans ((below_drewN w5 nd).mono b9.size)⟩⟩
            case measure => simp [intOf]; omega
      · have hge : most ≤ (k : Int) + 1 := by omega
        clear mle hkm
        go_wp2_with fail
        refine (before_any c K5.out (by omega)).mono ?_; rintro e w6 ⟨rfl, rfl⟩
        rw [QC.out]
        go_wp2
        go_loopw [12] (fun iv w' => ∃ q nd : Nat, 1 ≤ q ∧ q ≤ ys.length ∧ iv = .int .i64 q ∧ w' = w5.drewN nd) (fun iv _ => ys.length - (intOf iv).toNat)
        case atStart => exact ⟨1, 0, by omega, by omega, rfl, rfl⟩
        case round =>
          obtain ⟨q, nd, hq1, hq, rfl, rfl⟩ := hrel
          by_cases hql : q < ys.length
          · have y1 := RD.out q hql
            have y2 := RD.out (q - 1) (by omega)
            rw [Nat.zero_add] at y1 y2
            obtain ⟨a, ea⟩ : ∃ a, a = ys.getD q 0 := ⟨_, rfl⟩
            obtain ⟨b, eb⟩ : ∃ b, b = ys.getD (q - 1) 0 := ⟨_, rfl⟩
            have hasc := VV.out.asc (q - 1) (by omega)
            rw [show q - 1 + 1 = q from by omega] at hasc
            have hrng := VV.out.rng q hql
            rw [← ea] at y1 hasc hrng
            rw [← eb] at y2 hasc
            obtain ⟨g1, g2, g3⟩ := hrng
            have g4 : (a % every != 0) = false := by rw [g3]; simp
            have g5 : decide (a ≤ b) = false := decide_eq_false (by omega)
            clear g2 g3 ea eb
            go_wp2
            go_quiet (fail)
            go_wp2
            go_roundw
            case rel => exact ⟨q + 1, _, by omega, by omega, by go_num, rfl⟩
            case measure => simp [intOf]; omega
          · have hqe : ys.length ≤ q := by omega
            clear hql
            go_wp2
            go_roundw
            case rel =>
              obtain ⟨h9, cap9, xs9, k9, v9, b9⟩ := HN.out
              exact ⟨k + 1, by omega, by go_num, Lib.hid ⟨h9, cap9, xs9, k9.drewN nd, v9, b9.trans ((below_drewN w5 nd).mono b9.size)⟩⟩
            case measure => simp [intOf]; omega
    · obtain rfl : k = n := by omega
      obtain ⟨h, cap, xs, kk, v, bb⟩ := hi.out
      have BB := Lib.hid bb
      clear kk v bb hi hlt
      go_wp2
      go_ret
      exact ⟨rfl, BB.out⟩
theorem even_walk (every most n : Int) (w : World) :
    Calls Try.prog 4 #[.int .i64 every, .int .i64 most, .int .i64 n] w fun e w' => e = .returned (.bool true) ∧ Below w.heap.size w w' := by
  by_cases h : every < 1 ∨ 1000 < every ∨ most < 2 ∨ 64 < most ∨ n < 0 ∨ 300 < n
  · exact even_out every most n w h
  · obtain ⟨k, rfl⟩ : ∃ k : Nat, n = k := ⟨n.toNat, by omega⟩
    exact even_in every most k w (by omega) (by omega) (by omega) (by omega) (by omega)
end Go.Proofs.Ytonnadedbbfapaa
