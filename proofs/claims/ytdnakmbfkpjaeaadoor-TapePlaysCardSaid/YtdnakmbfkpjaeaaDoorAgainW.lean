import Derived.Test.YtdnakmbfkpjaeaaDoorAgain
namespace Go.Proofs.YtdnakmbfkpjaeaaDoor
open Go.ChangeShapes Go.WideShapes Go.ChangeAt Go.RowKit
set_option linter.unusedVariables false
set_option maxRecDepth 100000 in
set_option maxHeartbeats 8000000 in
theorem again_long {w : World} {A B : Option Addr} {n c k d : Nat} {N M : Int} (htab : HTab w) (h : 50 < n ∨ 30 < k ∨ N < 0 ∨ 60 < N ∨ M < 0 ∨ (k : Int) < M) :
    Calls Tryd.prog 4 #[.slice A n c, .int .i64 N, .int .i64 M, .slice B k d] w fun e w' => e = .returned (.bool true) ∧ Below w.heap.size w w' := by
  have HT := Lib.hid htab
  clear htab
  by_cases h0 : 50 < n
  · have d0 := decide_eq_true (show (50 : Int) < (n : Int) by omega)
    have e0 := decide_eq_true h0
    clear h0 h
    go_enter Tryd.func4, Tryd.ntmps4
    go_wp2_with fail
    refine (awake w HT.out).mono ?_; rintro e w1 ⟨rfl, hb1⟩
    have B1 := Lib.hid hb1; clear hb1
    go_wp2
    go_ret
    exact ⟨rfl, B1.out⟩
  have d0 := decide_eq_false (show ¬ (50 : Int) < (n : Int) by omega)
  have e0 := decide_eq_false h0
  by_cases h1 : 30 < k
  · have d1 := decide_eq_true (show (30 : Int) < (k : Int) by omega)
    have e1 := decide_eq_true h1
    clear h1 h
    go_enter Tryd.func4, Tryd.ntmps4
    go_wp2_with fail
    refine (awake w HT.out).mono ?_; rintro e w1 ⟨rfl, hb1⟩
    have B1 := Lib.hid hb1; clear hb1
    go_wp2
    go_ret
    exact ⟨rfl, B1.out⟩
  have d1 := decide_eq_false (show ¬ (30 : Int) < (k : Int) by omega)
  have e1 := decide_eq_false h1
  by_cases h2 : N < 0
  · have d2 := decide_eq_true (show N < 0 by omega)
    clear h2 h
    go_enter Tryd.func4, Tryd.ntmps4
    go_wp2_with fail
    refine (awake w HT.out).mono ?_; rintro e w1 ⟨rfl, hb1⟩
    have B1 := Lib.hid hb1; clear hb1
    go_wp2
    go_ret
    exact ⟨rfl, B1.out⟩
  have d2 := decide_eq_false (show ¬ N < 0 by omega)
  by_cases h3 : 60 < N
  · have d3 := decide_eq_true (show 60 < N by omega)
    clear h3 h
    go_enter Tryd.func4, Tryd.ntmps4
    go_wp2_with fail
    refine (awake w HT.out).mono ?_; rintro e w1 ⟨rfl, hb1⟩
    have B1 := Lib.hid hb1; clear hb1
    go_wp2
    go_ret
    exact ⟨rfl, B1.out⟩
  have d3 := decide_eq_false (show ¬ 60 < N by omega)
  by_cases h4 : M < 0
  · have d4 := decide_eq_true (show M < 0 by omega)
    clear h4 h
    go_enter Tryd.func4, Tryd.ntmps4
    go_wp2_with fail
    refine (awake w HT.out).mono ?_; rintro e w1 ⟨rfl, hb1⟩
    have B1 := Lib.hid hb1; clear hb1
    go_wp2
    go_ret
    exact ⟨rfl, B1.out⟩
  have d4 := decide_eq_false (show ¬ M < 0 by omega)
  by_cases h5 : (k : Int) < M
  · have d5 := decide_eq_true (show (k : Int) < M by omega)
    clear h5 h
    go_enter Tryd.func4, Tryd.ntmps4
    go_wp2_with fail
    refine (awake w HT.out).mono ?_; rintro e w1 ⟨rfl, hb1⟩
    have B1 := Lib.hid hb1; clear hb1
    go_wp2
    go_ret
    exact ⟨rfl, B1.out⟩
  exact absurd h (by omega)
theorem again_walk {w : World} {A B : Option Addr} {n c k d : Nat} {N M : Int} {inp outs : List Int} (si : SlI w A n c inp) (so : SlI w B k d outs) (hr : ∀ j, -9223372036854775808 ≤ outs.getD j 0 ∧ outs.getD j 0 ≤ 9223372036854775807) (htab : HTab w) :
    Calls Tryd.prog 4 #[.slice A n c, .int .i64 N, .int .i64 M, .slice B k d] w fun e w' => e = .returned (.bool true) ∧ Below w.heap.size w w' := by
  by_cases h : 50 < n ∨ 30 < k ∨ N < 0 ∨ 60 < N ∨ M < 0 ∨ (k : Int) < M
  · exact again_long htab h
  obtain ⟨N, rfl⟩ : ∃ P : Nat, N = P := ⟨N.toNat, by omega⟩
  obtain ⟨M, rfl⟩ : ∃ P : Nat, M = P := ⟨M.toNat, by omega⟩
  exact again_mid si so (by omega) (by omega) (by omega) (by omega) hr htab
end Go.Proofs.YtdnakmbfkpjaeaaDoor
