import Derived.Test.YtebgloacobaocaaDoorFirst
import Derived.Test.YtebgloacobaocaaDoorTail
import Derived.Test.YtebgloacobaocaaDoorNum
namespace Go.Proofs.YtebgloacobaocaaDoor
open Go.ChangeShapes Go.WideShapes Go.ChangeAt Go.RowKit Go.Shelf Go.Lib CharsMath
set_option linter.unusedVariables false
def rnamedV (s : ByteArray) : Bool := decide (0 < s.size) && classV (firstV s).1 == 1 && (firstV s).1 != 39 && !isUpperU (firstV s).1 && decide (tailV s = s.size) && decide (runes s ≤ 40)
theorem first_le (s : ByteArray) : (firstV s).1 ≤ 1114111 := by
  unfold firstV
  split
  · exact rn_le s 0 (by assumption)
  · exact Nat.zero_le _
theorem tailGo_le (s : ByteArray) : ∀ f i, tailGo s f i ≤ s.size := by
  intro f
  induction f with
  | zero => intro i; exact Nat.le_refl _
  | succ f ih =>
    intro i
    unfold tailGo
    split
    · split
      · omega
      · exact ih _
    · omega
set_option maxRecDepth 100000 in
set_option maxHeartbeats 2000000 in
theorem rnamed_any (s : ByteArray) (w : World) (hs : s.size ≤ maxLen) (hT : Tabs w) : Calls Tryd.prog 22 #[.string s] w fun e w' => e = .returned (.bool (rnamedV s)) ∧ Below w.heap.size w w' := by
  have HT := Lib.hid hT
  have hr := first_le s
  have htl : tailV s ≤ s.size := tailGo_le s _ _
  have hrl : Hid (runes s = runes s) := Lib.hid rfl
  have CF := Lib.hid (fun W => first_any s W hs)
  have CT := Lib.hid (fun W (h : Below w.heap.size w W) => tail_any s W hs (HT.out.below h))
  have CN := Lib.hid (fun W => count_any s W hs)
  unfold rnamedV
  obtain ⟨r, hrr⟩ : ∃ r, r = (firstV s).1 := ⟨_, rfl⟩
  obtain ⟨n, hnn⟩ : ∃ n, n = (firstV s).2 := ⟨_, rfl⟩
  obtain ⟨t, htt⟩ : ∃ t, t = tailV s := ⟨_, rfl⟩
  obtain ⟨m, hmm⟩ : ∃ m, m = runes s := ⟨_, rfl⟩
  rw [← hrr, ← hnn] at CF
  rw [← hrr] at hr
  rw [← htt] at CT htl
  rw [← hmm] at CN
  rw [← hrr, ← htt, ← hmm]
  unfold maxLen at hs
  clear hrr hnn htt hmm hT hrl
  have CC := Lib.hid (fun W (h : Below w.heap.size w W) => rclass_any (r : Int) W (by omega) (by omega) (HT.out.below h))
  have CU := Lib.hid (fun W (h : Below w.heap.size w W) => Tryd.unicode_IsUpper_all (r : Int) W (by omega) (by omega) (HT.out.below h).props (HT.out.below h).upper)
  obtain ⟨c, hcc⟩ : ∃ c, c = classV r := ⟨_, rfl⟩
  rw [← hcc] at CC ⊢
  obtain ⟨u, huu⟩ : ∃ u, u = isUpperU r := ⟨_, rfl⟩
  have CU2 : Hid (∀ W, Below w.heap.size w W → Calls Tryd.prog 31 #[.int .i32 r] W fun e w' => e = .returned (.bool u) ∧ Below W.heap.size W w') := Lib.hid (fun W h => by rw [huu]; exact CU.out W h)
  rw [← huu]
  clear hcc huu CU
  by_cases h0 : 0 < s.size
  case neg =>
    have d := decide_eq_false (show ¬ (0 : Int) < s.size by omega)
    have d' := decide_eq_false h0
    rw [d']
    clear h0
    go_enter Tryd.func22, Tryd.ntmps22
    go_wp2_with fail
    refine (CF.out _).mono ?_; rintro e w1 ⟨rfl, hb1⟩
    have B1 := Lib.hid hb1; clear hb1
    go_wp2
    go_ret
    exact ⟨rfl, B1.out⟩
  have d := decide_eq_true (show (0 : Int) < s.size by omega)
  have d' := decide_eq_true h0
  rw [d']
  clear h0
  by_cases h1 : c = 1
  case neg =>
    have n1 := ne_b h1
    clear h1
    rw [n1]
    go_enter Tryd.func22, Tryd.ntmps22
    go_wp2_with fail
    refine (CF.out _).mono ?_; rintro e w1 ⟨rfl, hb1⟩
    have B1 := Lib.hid hb1; clear hb1
    go_wp2_with fail
    refine (CC.out _ B1.out).mono ?_; rintro e w2 ⟨rfl, hb2⟩
    have B2 := Lib.hid (bt B1.out hb2); clear hb2 B1
    go_wp2
    go_ret
    exact ⟨rfl, B2.out⟩
  subst h1
  by_cases h2 : r = 39
  case pos =>
    subst h2
    go_enter Tryd.func22, Tryd.ntmps22
    go_wp2_with fail
    refine (CF.out _).mono ?_; rintro e w1 ⟨rfl, hb1⟩
    have B1 := Lib.hid hb1; clear hb1
    go_wp2_with fail
    refine (CC.out _ B1.out).mono ?_; rintro e w2 ⟨rfl, hb2⟩
    have B2 := Lib.hid (bt B1.out hb2); clear hb2 B1
    go_wp2
    go_ret
    exact ⟨rfl, B2.out⟩
  have m2 : ((r : Int) != 39) = true := by unfold bne; rw [ne_b (show (r : Int) ≠ 39 by omega)]; rfl
  have m3 : (r != 39) = true := by unfold bne; rw [beq_eq_false_iff_ne.2 h2]; rfl
  rw [m3]
  clear m3
  have H2 := Lib.hid h2; clear h2
  cases u with
  | true =>
    go_enter Tryd.func22, Tryd.ntmps22
    go_wp2_with fail
    refine (CF.out _).mono ?_; rintro e w1 ⟨rfl, hb1⟩
    have B1 := Lib.hid hb1; clear hb1
    go_wp2_with fail
    refine (CC.out _ B1.out).mono ?_; rintro e w2 ⟨rfl, hb2⟩
    have B2 := Lib.hid (bt B1.out hb2); clear hb2 B1
    go_wp2_with fail
    refine (CU2.out _ B2.out).mono ?_; rintro e w3 ⟨rfl, hb3⟩
    have B3 := Lib.hid (bt B2.out hb3); clear hb3 B2
    go_wp2
    go_ret
    exact ⟨rfl, B3.out⟩
  | false =>
    by_cases h3 : t = s.size
    case neg =>
      have e3 := ne_b (show (t : Int) ≠ s.size by omega)
      have e3' := decide_eq_false h3
      have e3'' := beq_eq_false_iff_ne.2 h3
      rw [e3']
      clear h3
      go_enter Tryd.func22, Tryd.ntmps22
      go_wp2_with fail
      refine (CF.out _).mono ?_; rintro e w1 ⟨rfl, hb1⟩
      have B1 := Lib.hid hb1; clear hb1
      go_wp2_with fail
      refine (CC.out _ B1.out).mono ?_; rintro e w2 ⟨rfl, hb2⟩
      have B2 := Lib.hid (bt B1.out hb2); clear hb2 B1
      go_wp2_with fail
      refine (CU2.out _ B2.out).mono ?_; rintro e w3 ⟨rfl, hb3⟩
      have B3 := Lib.hid (bt B2.out hb3); clear hb3 B2
      go_wp2_with fail
      refine (CT.out _ B3.out).mono ?_; rintro e w4 ⟨rfl, hb4⟩
      have B4 := Lib.hid (bt B3.out hb4); clear hb4 B3
      go_wp2
      go_ret
      exact ⟨rfl, B4.out⟩
    · subst h3
      rw [decide_eq_true (rfl : s.size = s.size)]
      by_cases h4 : m ≤ 40
      · have d4 := decide_eq_true (show (m : Int) ≤ 40 by omega)
        have d4' := decide_eq_true h4
        rw [d4']
        clear h4
        go_enter Tryd.func22, Tryd.ntmps22
        go_wp2_with fail
        refine (CF.out _).mono ?_; rintro e w1 ⟨rfl, hb1⟩
        have B1 := Lib.hid hb1; clear hb1
        go_wp2_with fail
        refine (CC.out _ B1.out).mono ?_; rintro e w2 ⟨rfl, hb2⟩
        have B2 := Lib.hid (bt B1.out hb2); clear hb2 B1
        go_wp2_with fail
        refine (CU2.out _ B2.out).mono ?_; rintro e w3 ⟨rfl, hb3⟩
        have B3 := Lib.hid (bt B2.out hb3); clear hb3 B2
        go_wp2_with fail
        refine (CT.out _ B3.out).mono ?_; rintro e w4 ⟨rfl, hb4⟩
        have B4 := Lib.hid (bt B3.out hb4); clear hb4 B3
        go_wp2_with fail
        refine (CN.out _).mono ?_; rintro e w5 ⟨rfl, hb5⟩
        have B5 := Lib.hid (bt B4.out hb5); clear hb5 B4
        go_wp2
        go_ret
        exact ⟨rfl, B5.out⟩
      · have d4 := decide_eq_false (show ¬ (m : Int) ≤ 40 by omega)
        have d4' := decide_eq_false h4
        rw [d4']
        clear h4
        go_enter Tryd.func22, Tryd.ntmps22
        go_wp2_with fail
        refine (CF.out _).mono ?_; rintro e w1 ⟨rfl, hb1⟩
        have B1 := Lib.hid hb1; clear hb1
        go_wp2_with fail
        refine (CC.out _ B1.out).mono ?_; rintro e w2 ⟨rfl, hb2⟩
        have B2 := Lib.hid (bt B1.out hb2); clear hb2 B1
        go_wp2_with fail
        refine (CU2.out _ B2.out).mono ?_; rintro e w3 ⟨rfl, hb3⟩
        have B3 := Lib.hid (bt B2.out hb3); clear hb3 B2
        go_wp2_with fail
        refine (CT.out _ B3.out).mono ?_; rintro e w4 ⟨rfl, hb4⟩
        have B4 := Lib.hid (bt B3.out hb4); clear hb4 B3
        go_wp2_with fail
        refine (CN.out _).mono ?_; rintro e w5 ⟨rfl, hb5⟩
        have B5 := Lib.hid (bt B4.out hb5); clear hb5 B4
        go_wp2
        go_ret
        exact ⟨rfl, B5.out⟩
end Go.Proofs.YtebgloacobaocaaDoor
