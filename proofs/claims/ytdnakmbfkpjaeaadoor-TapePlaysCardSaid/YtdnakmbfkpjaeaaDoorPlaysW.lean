import Derived.Test.YtdnakmbfkpjaeaaDoorPs
namespace Go.Proofs.YtdnakmbfkpjaeaaDoor
open Go.ChangeShapes Go.WideShapes Go.ChangeAt Go.RowKit
set_option linter.unusedVariables false
set_option maxRecDepth 100000 in
set_option maxHeartbeats 4000000 in
theorem plays_long {w : World} {A B : Option Addr} {n c L d : Nat} (hn : 200 < n) (htab : HTab w) :
    Calls Tryd.prog 3 #[.slice A n c, .slice B L d] w fun e w' => e = .returned (.bool true) ∧ Below w.heap.size w w' := by
  have HT := Lib.hid htab; clear htab
  by_cases h : 250 < n
  · have b1 : (250 : Int) < (n : Int) := by omega
    go_enter Tryd.func3, Tryd.ntmps3
    go_wp2_with fail
    refine (awake w HT.out).mono ?_; rintro e w1 ⟨rfl, hb1⟩
    have B1 := Lib.hid hb1; clear hb1
    go_wp2
    go_ret
    exact ⟨rfl, B1.out⟩
  · have b1 : ¬ (250 : Int) < (n : Int) := by omega
    have b2 : (200 : Int) < (n : Int) := by omega
    go_enter Tryd.func3, Tryd.ntmps3
    go_wp2_with fail
    refine (awake w HT.out).mono ?_; rintro e w1 ⟨rfl, hb1⟩
    have B1 := Lib.hid hb1; clear hb1
    go_wp2_with fail
    refine (new_long hn).mono ?_; rintro e w2 ⟨rfl, hb2⟩
    have B2 := Lib.hid (bt B1.out hb2); clear hb2
    go_wp2
    go_ret
    exact ⟨rfl, B2.out⟩
set_option maxRecDepth 100000 in
set_option maxHeartbeats 4000000 in
theorem plays_many {w : World} {A B : Option Addr} {n c L d : Nat} {inp : List Int} (si : SlI w A n c inp) (hn : n ≤ 200) (hL : 60 < L) (htab : HTab w) :
    Calls Tryd.prog 3 #[.slice A n c, .slice B L d] w fun e w' => e = .returned (.bool true) ∧ Below w.heap.size w w' := by
  have HT := Lib.hid htab; have SI := Lib.hid si; clear htab si
  have b1 : ¬ (250 : Int) < (n : Int) := by omega
  have b2 : ¬ (200 : Int) < (n : Int) := by omega
  have b3 : (60 : Int) < (L : Int) := by omega
  go_enter Tryd.func3, Tryd.ntmps3
  go_wp2_with fail
  refine (awake w HT.out).mono ?_; rintro e w1 ⟨rfl, hb1⟩
  have B1 := Lib.hid hb1; clear hb1
  go_wp2_with fail
  refine (new_any (SI.out.below B1.out) (by omega)).mono ?_
  rintro e w2 ⟨g, iv, ov, rfl, t, hb2⟩
  have B2 := Lib.hid (bt B1.out hb2.out); clear hb2 t
  go_wp2
  go_ret
  exact ⟨rfl, B2.out⟩
set_option maxRecDepth 100000 in
set_option maxHeartbeats 4000000 in
theorem plays_none {w : World} {A B : Option Addr} {n c d : Nat} {inp : List Int} (si : SlI w A n c inp) (hn : n ≤ 200) (htab : HTab w) :
    Calls Tryd.prog 3 #[.slice A n c, .slice B 0 d] w fun e w' => e = .returned (.bool true) ∧ Below w.heap.size w w' := by
  have HT := Lib.hid htab; have SI := Lib.hid si; clear htab si
  have b1 : ¬ (250 : Int) < (n : Int) := by omega
  have b2 : ¬ (200 : Int) < (n : Int) := by omega
  go_enter Tryd.func3, Tryd.ntmps3
  go_wp2_with fail
  refine (awake w HT.out).mono ?_; rintro e w1 ⟨rfl, hb1⟩
  have B1 := Lib.hid hb1; clear hb1
  go_wp2_with fail
  refine (new_any (SI.out.below B1.out) (by omega)).mono ?_
  rintro e w2 ⟨g, iv, ov, rfl, t, hb2⟩
  have B2 := Lib.hid (bt B1.out hb2.out); clear hb2 t
  go_wp2
  refine wp_loop_rounds 1 ?_
  rw [rounds_succ]
  go_wp2
  go_ret
  exact ⟨rfl, B2.out⟩
end Go.Proofs.YtdnakmbfkpjaeaaDoor
