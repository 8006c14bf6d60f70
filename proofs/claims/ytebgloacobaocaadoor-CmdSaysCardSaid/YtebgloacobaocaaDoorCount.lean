import Derived.Test.YtebgloacobaocaaDoorNum
namespace Go.Proofs.YtebgloacobaocaaDoor
open Go.ChangeShapes Go.WideShapes Go.ChangeAt Go.RowKit Go.Shelf Go.Lib CharsMath
set_option linter.unusedVariables false
def digB (b : Nat) : Bool := decide (48 ≤ b ∧ b ≤ 57)
def countGo (s : ByteArray) : Nat → Nat → Int → Int
  | 0, _, _ => -1
  | f + 1, i, n => if i < s.size then (if digB (s.get! i).toNat then countGo s f (i + 1) (10 * n + (((s.get! i).toNat : Int) - 48)) else -1) else n
def countV (s : ByteArray) : Int := if s.size < 1 ∨ 9 < s.size then -1 else countGo s (s.size + 1) 0 0
set_option maxRecDepth 100000 in
set_option maxHeartbeats 2000000 in
theorem rcount_any (s : ByteArray) (w : World) (hs : s.size ≤ maxLen) : Calls Tryd.prog 23 #[.string s] w fun e w' => e = .returned (.int .i64 (countV s)) ∧ w = w' := by
  unfold maxLen at hs
  by_cases h1 : s.size < 1
  · rw [show countV s = -1 from if_pos (Or.inl h1)]
    have d := decide_eq_true (show (s.size : Int) < 1 by omega)
    have e0 : s.size = 0 := by omega
    go_enter Tryd.func23, Tryd.ntmps23
    go_wp2
    go_ret
    exact ⟨rfl, rfl⟩
  by_cases h9 : 9 < s.size
  · rw [show countV s = -1 from if_pos (Or.inr h9)]
    have d := decide_eq_false (show ¬ (s.size : Int) < 1 by omega)
    have d9 := decide_eq_true (show (9 : Int) < s.size by omega)
    go_enter Tryd.func23, Tryd.ntmps23
    go_wp2
    go_ret
    exact ⟨rfl, rfl⟩
  have CV : Hid (countV s = countGo s (s.size + 1) 0 0) := Lib.hid (by unfold countV; rw [if_neg (by omega)])
  have d := decide_eq_false (show ¬ (s.size : Int) < 1 by omega)
  have d9 := decide_eq_false (show ¬ (9 : Int) < s.size by omega)
  go_enter Tryd.func23, Tryd.ntmps23
  go_wp2
  go_loopg [3, 4] (s.size + 1) (fun gk nv iv wr => ∃ (i f n P : Nat), nv = .int .i64 n ∧ iv = .int .i64 i ∧ wr = w ∧ i ≤ s.size ∧ gk = f + 1 ∧ s.size ≤ i + f ∧ n < P ∧ Hid (P = 10 ^ i) ∧ Hid (countGo s (f + 1) i n = countV s))
  case atStart => exact ⟨0, s.size, 0, 1, rfl, rfl, rfl, by omega, rfl, by omega, by omega, Lib.hid rfl, Lib.hid CV.out.symm⟩
  case round =>
    obtain ⟨i, f, n, P, rfl, rfl, rfl, hi, rfl, hf, hn, hP, hc⟩ := hrel
    by_cases hps : i < s.size
    · have db := decide_eq_true (show (i : Int) < s.size by omega)
      obtain ⟨b, hb⟩ : ∃ b, (s[i]'hps).toNat = b := ⟨_, rfl⟩
      have hg : Hid ((s.get! i).toNat = b) := Lib.hid (by rw [get_eq s i hps, hb])
      have hb2 : b < 256 := by rw [← hb]; exact (s[i]'hps).toNat_lt
      obtain ⟨f, rfl⟩ : ∃ g, f = g + 1 := ⟨f - 1, by omega⟩
      have HC : Hid ((if digB b then countGo s (f + 1) (i + 1) (10 * n + ((b : Int) - 48)) else -1) = countV s) := Lib.hid (by rw [← hc.out, ← hg.out]; simp only [countGo]; rw [if_pos hps])
      have hP8 : P ≤ 100000000 := by
        rw [hP.out]
        exact Nat.pow_le_pow_right (n := 10) (by omega) (show i ≤ 8 by omega)
      by_cases hlo : b < 48
      · have e1 := decide_eq_true (show (b : Int) < 48 by omega)
        have FV : Hid (countV s = -1) := Lib.hid (by rw [← HC.out, if_neg (by unfold digB; simp; omega)])
        clear hc hg HC
        go_wp2
        go_ret
        exact ⟨by rw [FV.out]; rfl, rfl⟩
      by_cases hhi : 57 < b
      · have e1 := decide_eq_false (show ¬ (b : Int) < 48 by omega)
        have e2 := decide_eq_true (show (57 : Int) < b by omega)
        have FV : Hid (countV s = -1) := Lib.hid (by rw [← HC.out, if_neg (by unfold digB; simp; omega)])
        clear hc hg HC
        go_wp2
        go_ret
        exact ⟨by rw [FV.out]; rfl, rfl⟩
      have e1 := decide_eq_false (show ¬ (b : Int) < 48 by omega)
      have e2 := decide_eq_false (show ¬ (57 : Int) < b by omega)
      obtain ⟨dg, hdg⟩ : ∃ dg : Nat, (b : Int) - 48 = dg := ⟨b - 48, by omega⟩
      have hd9 : dg ≤ 9 := by omega
      have FV : Hid (countGo s (f + 1) (i + 1) (((10 * n + dg : Nat) : Int)) = countV s) := Lib.hid (by rw [← HC.out, if_pos (by unfold digB; simp; omega), hdg]; congr 1)
      have P10 : Hid (P * 10 = 10 ^ (i + 1)) := Lib.hid (by rw [Nat.pow_succ, ← hP.out])
      clear hc hg HC
      go_wp2_with fail
      go_roundg (f + 1)
      case measure => omega
      case rel => exact ⟨i + 1, f, 10 * n + dg, P * 10, by go_num, by go_num, rfl, by omega, rfl, by omega, by omega, P10, FV⟩
    · have db := decide_eq_false (show ¬ (i : Int) < s.size by omega)
      have FV : Hid (countV s = n) := Lib.hid (by rw [← hc.out]; simp only [countGo]; rw [if_neg hps])
      clear hc
      go_wp2
      go_ret
      exact ⟨by rw [FV.out]; rfl, rfl⟩
end Go.Proofs.YtebgloacobaocaaDoor
