import Derived.Test.YtebgloacobaocaaDoorText
namespace Go.Proofs.YtebgloacobaocaaDoor
open Go.ChangeShapes Go.WideShapes Go.ChangeAt Go.RowKit Go.Shelf Go.Lib CharsMath
set_option linter.unusedVariables false
def tailGo (s : ByteArray) : Nat → Nat → Nat
  | 0, _ => s.size
  | f + 1, i => if i < s.size then (if goesV (rn s i) = false then i else tailGo s f (i + wd s i)) else s.size
def tailV (s : ByteArray) : Nat := tailGo s (s.size + 1) 0
set_option maxRecDepth 100000 in
set_option maxHeartbeats 2000000 in
theorem tail_any (s : ByteArray) (w : World) (hs : s.size ≤ maxLen) (hT : Tabs w) : Calls Tryd.prog 32 #[.string s] w fun e w' => e = .returned (.int .i64 (tailV s)) ∧ Below w.heap.size w w' := by
  unfold maxLen at hs
  have HT : Hid (Tabs w) := Lib.hid hT
  clear hT
  go_enter Tryd.func32, Tryd.ntmps32
  go_wp2
  go_loopg [] (s.size + 1) (fun gk wr => ∃ (pos f : Nat), Hid (It w wr s pos) ∧ pos ≤ s.size ∧ gk = f + 1 ∧ s.size ≤ pos + f ∧ Hid (tailGo s (f + 1) pos = tailV s))
  case atStart => exact ⟨0, s.size, Lib.hid (It.start w s), by omega, rfl, by omega, Lib.hid rfl⟩
  case round =>
    obtain ⟨pos, f, IT, hp, rfl, hf, hc⟩ := hrel
    by_cases hps : pos < s.size
    · have hnx := fun ty => run_next_any_at (P := Tryd.prog) wr w.heap.size s pos ty IT.out.2 hps
      have hw1 := wd_pos s pos hps
      have hw2 := wd_le s pos hps
      have hr := rn_le s pos hps
      obtain ⟨r, hrr⟩ : ∃ r, r = (Utf8.decode s pos).1 := ⟨_, rfl⟩
      obtain ⟨p2, hp2⟩ : ∃ p2, p2 = pos + (Utf8.decode s pos).2 := ⟨_, rfl⟩
      have er : rn s pos = r := hrr.symm
      have ep : pos + wd s pos = p2 := hp2.symm
      rw [← hrr, ← hp2] at hnx
      rw [er] at hr
      have I2 := Lib.hid (IT.out.move p2)
      have HC : Hid ((if goesV r = false then pos else tailGo s f p2) = tailV s) := Lib.hid (by rw [← hc.out, ← er, ← ep]; simp only [tailGo]; rw [if_pos hps, er])
      have T2 := Lib.hid (HT.out.below I2.out.1)
      have CS := Lib.hid (fun W (hT : Tabs W) => rclass_any (r : Int) W (by omega) (by omega) hT)
      have hpl : pos < p2 := by omega
      have hpl2 : p2 ≤ s.size := by omega
      obtain ⟨f, rfl⟩ : ∃ g, f = g + 1 := ⟨f - 1, by omega⟩
      obtain ⟨W2, hW2⟩ : ∃ W2, W2 = wr.iterAt w.heap.size s p2 := ⟨_, rfl⟩
      rw [← hW2] at hnx I2 T2
      clear hrr hp2 er ep IT hc hW2
      obtain ⟨c, hcl⟩ : ∃ c, c = classV r := ⟨_, rfl⟩
      rw [← hcl] at CS
      have HG : Hid (goesV r = (c == 1 || c == 2)) := Lib.hid (by unfold goesV; rw [hcl])
      clear hcl
      by_cases h1 : c = 1
      · subst h1
        have FV : Hid (tailGo s (f + 1) p2 = tailV s) := Lib.hid (by rw [← HC.out, HG.out]; rfl)
        go_wp2_with fail
        refine (CS.out _ T2.out).mono ?_; rintro e w4 ⟨rfl, hb4⟩
        have I4 := Lib.hid (I2.out.same hb4)
        clear hb4 HC
        go_wp2
        go_roundg (f + 1)
        case measure => omega
        case rel => exact ⟨p2, f, I4, hpl2, rfl, by omega, FV⟩
      by_cases h2 : c = 2
      · subst h2
        have FV : Hid (tailGo s (f + 1) p2 = tailV s) := Lib.hid (by rw [← HC.out, HG.out]; rfl)
        clear h1
        go_wp2_with fail
        refine (CS.out _ T2.out).mono ?_; rintro e w4 ⟨rfl, hb4⟩
        have I4 := Lib.hid (I2.out.same hb4)
        clear hb4 HC
        go_wp2
        go_roundg (f + 1)
        case measure => omega
        case rel => exact ⟨p2, f, I4, hpl2, rfl, by omega, FV⟩
      · have n1 := ne_b h1
        have n2 := ne_b h2
        have m1 : (c != 1) = true := by unfold bne; rw [n1]; rfl
        have m2 : (c != 2) = true := by unfold bne; rw [n2]; rfl
        have FV : Hid (tailV s = pos) := Lib.hid (by rw [← HC.out, HG.out, n1, n2]; rfl)
        clear h1 h2
        go_wp2_with fail
        refine (CS.out _ T2.out).mono ?_; rintro e w4 ⟨rfl, hb4⟩
        have HB : Hid (Below w.heap.size w w4) := Lib.hid (I2.out.same hb4).1
        clear hb4 HC
        go_wp2
        go_ret
        exact ⟨by rw [FV.out]; rfl, HB.out⟩
    · have hnx := fun ty => run_next_end_at (P := Tryd.prog) wr w.heap.size s pos ty IT.out.2 hps
      have FV : Hid (tailV s = s.size) := Lib.hid (by rw [← hc.out]; simp only [tailGo]; rw [if_neg hps])
      have HB := Lib.hid IT.out.1
      clear IT hc
      go_wp2
      go_ret
      exact ⟨by rw [FV.out]; rfl, HB.out⟩
end Go.Proofs.YtebgloacobaocaaDoor
