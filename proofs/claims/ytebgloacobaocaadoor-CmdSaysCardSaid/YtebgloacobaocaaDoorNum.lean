import Derived.Test.YtebgloacobaocaaDoorText
namespace Go.Proofs.YtebgloacobaocaaDoor
open Go.ChangeShapes Go.WideShapes Go.ChangeAt Go.RowKit Go.Shelf Go.Lib CharsMath
set_option linter.unusedVariables false
theorem class_two (r : Int) (h : classV r = 2) : 48 ≤ r ∧ r ≤ 57 := by
  unfold classV at h
  split at h
  · cases h
  split at h
  · cases h
  split at h
  · cases h
  split at h
  · assumption
  split at h <;> cases h
theorem wd_two (s : ByteArray) (i : Nat) (h : i < s.size) (hc : classV (rn s i) = 2) : wd s i = 1 := by
  have := class_two _ hc
  exact (rn_ascii s i h ((rn_low s i h).1 (by omega))).2
def numberGo (s : ByteArray) : Nat → Nat → Int → Int × Bool
  | 0, _, _ => (0, false)
  | f + 1, i, n => if i < s.size then (if 9 ≤ i then (0, false) else if classV (rn s i) = 2 then numberGo s f (i + wd s i) (n * 10 + ((rn s i : Int) - 48)) else (0, false)) else (n, true)
def numberV (s : ByteArray) : Int × Bool := numberGo s (s.size + 1) 0 0
def lowerV (s : ByteArray) : Bool := shapedV s && !upperV s
set_option maxRecDepth 100000 in
theorem lower_any (s : ByteArray) (w : World) (hs : s.size ≤ maxLen) (hT : Tabs w) : Calls Tryd.prog 26 #[.string s] w fun e w' => e = .returned (.bool (lowerV s)) ∧ Below w.heap.size w w' := by
  have C := Lib.hid (shaped_any s w hs hT)
  have U := Lib.hid (fun W (hW : Below w.heap.size w W) => upper_any s W (hT.below hW))
  unfold lowerV
  obtain ⟨u, hu⟩ : ∃ u, u = upperV s := ⟨_, rfl⟩
  cases hc : shapedV s with
  | false =>
    rw [hc] at C
    clear hc hT
    go_enter Tryd.func26, Tryd.ntmps26
    go_wp2_with fail
    refine C.out.mono ?_; rintro e w1 ⟨rfl, hb1⟩
    have HB := Lib.hid hb1; clear hb1
    go_wp2
    go_ret
    exact ⟨rfl, HB.out⟩
  | true =>
    rw [hc] at C
    rw [← hu] at U ⊢
    clear hc hT hu
    go_enter Tryd.func26, Tryd.ntmps26
    go_wp2_with fail
    refine C.out.mono ?_; rintro e w1 ⟨rfl, hb1⟩
    have HB := Lib.hid hb1; clear hb1
    go_wp2_with fail
    refine (U.out _ HB.out).mono ?_; rintro e w2 ⟨rfl, hb2⟩
    have HB2 := Lib.hid (bt HB.out hb2); clear hb2
    go_wp2
    go_ret
    exact ⟨rfl, HB2.out⟩
set_option maxRecDepth 100000 in
set_option maxHeartbeats 2000000 in
theorem number_any (s : ByteArray) (w : World) (hs : s.size ≤ maxLen) (hT : Tabs w) : Calls Tryd.prog 17 #[.string s] w fun e w' => e = .returned (.tuple #[.int .i64 (numberV s).1, .bool (numberV s).2]) ∧ Below w.heap.size w w' := by
  unfold maxLen at hs
  have HT : Hid (Tabs w) := Lib.hid hT
  clear hT
  go_enter Tryd.func17, Tryd.ntmps17
  go_wp2
  go_loopg [4, 5] (s.size + 1) (fun gk nv _ wr => ∃ (pos f n P : Nat), nv = .int .i64 n ∧ Hid (It w wr s pos) ∧ pos ≤ s.size ∧ gk = f + 1 ∧ s.size ≤ pos + f ∧ n < P ∧ Hid (P = 10 ^ pos) ∧ pos ≤ 9 ∧ Hid (numberGo s (f + 1) pos n = numberV s))
  case atStart => exact ⟨0, s.size, 0, 1, rfl, Lib.hid (It.start w s), by omega, rfl, by omega, by omega, Lib.hid rfl, by omega, Lib.hid rfl⟩
  case round =>
    obtain ⟨pos, f, n, P, rfl, IT, hp, rfl, hf, hn, hP, hp9, hc⟩ := hrel
    by_cases hps : pos < s.size
    · have hnx := fun ty => run_next_any_at (P := Tryd.prog) wr w.heap.size s pos ty IT.out.2 hps
      have hw1 := wd_pos s pos hps
      have hw2 := wd_le s pos hps
      have hr := rn_le s pos hps
      obtain ⟨r, hrr⟩ : ∃ r, r = (Utf8.decode s pos).1 := ⟨_, rfl⟩
      obtain ⟨p2, hp2⟩ : ∃ p2, p2 = pos + (Utf8.decode s pos).2 := ⟨_, rfl⟩
      have er : rn s pos = r := hrr.symm
      have ep : pos + wd s pos = p2 := hp2.symm
      rw [← hrr, ← hp2] at hnx
      rw [er] at hr
      have I2 := Lib.hid (IT.out.move p2)
      have HC : Hid ((if 9 ≤ pos then (0, false) else if classV r = 2 then numberGo s f p2 ((n : Int) * 10 + ((r : Int) - 48)) else (0, false)) = numberV s) := Lib.hid (by rw [← hc.out, ← er, ← ep]; simp only [numberGo]; rw [if_pos hps, er])
      have T2 := Lib.hid (HT.out.below I2.out.1)
      have CC := Lib.hid (fun W (hT : Tabs W) => class_any (r : Int) W (by omega) (by omega) hT)
      have TW : Hid (classV r = 2 → p2 = pos + 1) := Lib.hid (fun h => by rw [← ep, wd_two s pos hps (by rw [er]; exact h)])
      have hpl : pos < p2 := by omega
      have hpl2 : p2 ≤ s.size := by omega
      obtain ⟨f, rfl⟩ : ∃ g, f = g + 1 := ⟨f - 1, by omega⟩
      obtain ⟨W2, hW2⟩ : ∃ W2, W2 = wr.iterAt w.heap.size s p2 := ⟨_, rfl⟩
      rw [← hW2] at hnx I2 T2
      clear hrr hp2 er ep IT hc hW2
      by_cases h9 : 9 ≤ pos
      · have d := decide_eq_true (show (9 : Int) ≤ (pos : Int) by omega)
        have FV : Hid (numberV s = (0, false)) := Lib.hid (by rw [← HC.out, if_pos h9])
        have HB : Hid (Below w.heap.size w W2) := Lib.hid I2.out.1
        go_wp2
        go_returns
        exact ⟨by rw [FV.out]; rfl, HB.out⟩
      · have d := decide_eq_false (show ¬ (9 : Int) ≤ (pos : Int) by omega)
        have hP8 : P ≤ 100000000 := by
          rw [hP.out]
          exact Nat.pow_le_pow_right (n := 10) (by omega) (show pos ≤ 8 by omega)
        have H9 := Lib.hid h9
        by_cases hcl : classV r = 2
        · obtain ⟨hr1, hr2⟩ := class_two _ hcl
          have hcl2 := TW.out hcl
          have FV : Hid (numberGo s (f + 1) p2 ((n : Int) * 10 + ((r : Int) - 48)) = numberV s) := Lib.hid (by rw [← HC.out, if_neg H9.out, if_pos hcl])
          have hn10 : n ≤ 100000000 := by omega
          have P10 : Hid (P * 10 = 10 ^ p2) := Lib.hid (by rw [hcl2, Nat.pow_succ, ← hP.out])
          have E2 := Lib.hid hcl2
          obtain ⟨d1, hd1⟩ : ∃ d1 : Nat, (r : Int) - 48 = d1 := ⟨r - 48, by omega⟩
          obtain ⟨n2, hn2⟩ : ∃ n2 : Nat, n2 = n * 10 + d1 := ⟨_, rfl⟩
          have hd19 : d1 ≤ 9 := by omega
          rw [hd1] at FV
          have FV2 : Hid (numberGo s (f + 1) p2 (n2 : Int) = numberV s) := Lib.hid (by rw [← FV.out, hn2]; congr 1)
          have HN2 := Lib.hid hn2
          clear HC TW h9 hcl2 hn2 FV
          have RD : Hid (r ≤ 57) := Lib.hid (by omega)
          go_wp2_with fail
          refine (CC.out _ T2.out).mono ?_; rintro e w3 ⟨rfl, hb3⟩
          rw [hcl]
          have I3 := Lib.hid (I2.out.same hb3)
          clear hcl hb3 I2 T2
          go_wp2
          go_roundg (f + 1)
          case measure => omega
          case rel => exact ⟨p2, f, n2, P * 10, congrArg (Value.int .i64) (by rw [HN2.out]; omega), I3, hpl2, rfl, by have := E2.out; omega, by have := HN2.out; omega, P10, by have := E2.out; have := H9.out; omega, FV2⟩
        · have FV : Hid (numberV s = (0, false)) := Lib.hid (by rw [← HC.out, if_neg H9.out, if_neg hcl])
          obtain ⟨c, hc⟩ : ∃ c, c = classV r := ⟨_, rfl⟩
          rw [← hc] at CC hcl
          have ec := ne_b hcl
          clear HC TW h9 hcl hc
          go_wp2_with fail
          refine (CC.out _ T2.out).mono ?_; rintro e w3 ⟨rfl, hb3⟩
          have HB : Hid (Below w.heap.size w w3) := Lib.hid (I2.out.same hb3).1
          clear hb3 I2 T2
          go_wp2
          go_returns
          exact ⟨by rw [FV.out]; rfl, HB.out⟩
    · have hnx := fun ty => run_next_end_at (P := Tryd.prog) wr w.heap.size s pos ty IT.out.2 hps
      have FV : Hid (numberV s = ((n : Int), true)) := Lib.hid (by rw [← hc.out]; simp only [numberGo]; rw [if_neg hps])
      have HB := Lib.hid IT.out.1
      clear IT hc
      go_wp2
      go_returns
      exact ⟨by rw [FV.out]; rfl, HB.out⟩
end Go.Proofs.YtebgloacobaocaaDoor
