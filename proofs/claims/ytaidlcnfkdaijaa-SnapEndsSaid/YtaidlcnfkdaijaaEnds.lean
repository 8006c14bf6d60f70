import Derived.Test.YtaidlcnfkdaijaaBack
namespace Go.Proofs.Ytaidlcnfkdaijaa
open Go.ChangeShapes Go.WideShapes Go.ChangeAt Go.RowKit
set_option linter.unusedVariables false
theorem Sl.nil_ (w : World) : Sl w none 0 0 [] := ⟨rfl, Nat.le_refl _, fun h => absurd h (by omega)⟩
set_option maxRecDepth 100000 in
set_option maxHeartbeats 4000000 in
theorem ends_walk {w : World} {A : Option Addr} {n c : Nat} {old : List Nat} (s : Sl w A n c old) (hob : ∀ j, old.getD j 0 < 256) :
    Calls Try.prog 7 #[.slice A n c] w fun e w' => e = .returned (.bool true) ∧ Below w.heap.size w w' := by
  by_cases hl : 400 < n
  · have hn' : (400 : Int) < (n : Int) := by omega
    go_enter Try.func7, Try.ntmps7
    go_wp2_with fail
    refine (awake _).mono ?_; rintro e w1 ⟨rfl, hb1⟩
    have B1 := Lib.hid hb1; clear hb1
    go_wp2
    go_ret
    exact ⟨rfl, B1.out⟩
  have hn' : ¬ (400 : Int) < (n : Int) := by omega
  have hn4 : n ≤ 420 := by omega
  have HN4 : Hid (n ≤ 400) := Lib.hid (by omega)
  have HLN := Lib.hid s.1
  have S := Lib.hid s; have HO := Lib.hid hob
  have E0 : Hid (∀ j, ([] : List Nat).getD j 0 < 256) := Lib.hid (fun j => by simp)
  have MK0 : Hid (Makes old [] []) := Lib.hid ⟨[], rfl, rfl⟩
  clear s hob hl
  go_enter Try.func7, Try.ntmps7
  go_wp2_with fail
  refine (awake _).mono ?_; rintro e w1 ⟨rfl, hb1⟩
  have B1 := Lib.hid hb1; clear hb1
  go_wp2_with fail
  refine (diff_sl (S.out.below B1.out) (Sl.nil_ _) hn4 (by omega) HO.out E0.out).mono ?_
  rintro e w2 ⟨P, k, dk, xs, rfl, sp, hk, mk, _, hb⟩
  have B2 := Lib.hid (bt B1.out hb); clear hb
  go_wp2_with fail
  refine (apply_new (S.out.below B2.out) sp.out hn4 (by omega) mk.out).mono ?_
  rintro e w3 ⟨Q, q, dq, rfl, hq, sq, hb⟩
  have B3 := Lib.hid (bt B2.out hb); clear hb sp mk
  obtain rfl : q = 0 := hq.out
  go_wp2_with fail
  refine (diff_sl (Sl.nil_ _) (S.out.below B3.out) (by omega) hn4 E0.out HO.out).mono ?_
  rintro e w4 ⟨P2, k2, dk2, xs2, rfl, sp, hk2, mk, _, hb⟩
  have B4 := Lib.hid (bt B3.out hb); clear hb
  have K2 : Hid (k2 ≤ 420) := Lib.hid (by have := HN4.out; omega)
  go_wp2_with fail
  refine (apply_new (Sl.nil_ _) sp.out (by omega) K2.out mk.out).mono ?_
  rintro e w5 ⟨Q2, q2, dq2, rfl, hq2, sq2, hb⟩
  have B5 := Lib.hid (bt B4.out hb); clear hb sp mk
  go_wp2_with fail
  refine (apply_new (S.out.below B5.out) (Sl.nil_ _) hn4 (by omega) MK0.out).mono ?_
  rintro e w6 ⟨Q3, q3, dq3, rfl, hq3, sq3, hb⟩
  have B6 := Lib.hid (bt B5.out hb)
  obtain rfl : q3 = 0 := hq3.out
  have cq := str_sl (sq2.out.below hb)
  have ct := str_sl (S.out.below B6.out)
  clear hb
  go_wp2_with fail
  refine (diff_sl (Sl.nil_ _) (Sl.nil_ _) (by omega) (by omega) E0.out E0.out).mono ?_
  rintro e w7 ⟨P4, k4, dk4, xs4, rfl, _, hk4, _, _, hb⟩
  have B7 := Lib.hid (bt B6.out hb); clear hb cq ct
  have hk' : decide ((k4 : Int) ≤ 8) = true := decide_eq_true (by omega)
  have hk'' : decide (k4 ≤ 8) = true := decide_eq_true (by omega)
  go_wp2_with fail
  refine (sum_e none 0 _).mono ?_
  rintro e w8 ⟨rfl, rfl⟩
  go_wp2
  go_ret
  exact ⟨rfl, B7.out⟩
end Go.Proofs.Ytaidlcnfkdaijaa
