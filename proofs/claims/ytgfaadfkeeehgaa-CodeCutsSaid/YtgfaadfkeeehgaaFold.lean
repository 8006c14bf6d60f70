import Derived.Test.YtgfaadfkeeehgaaProg
import Derived.Test.YtgfaadfkeeehgaaRows
import Derived.WalkKit
import Derived.Handy
import Derived.Lib.Hide
import Derived.Laws.BitsAllLaws
import Derived.Laws.DeepNot64
namespace Go.Proofs.Ytgfaadfkeeehgaa
open Go.ChangeShapes Go.WideShapes Go.ChangeAt Go.RowKit
theorem xor_ones (a : Nat) (ha : a < 18446744073709551616) : a ^^^ 18446744073709551615 = 18446744073709551615 - a := by
  have h := congrArg BitVec.toNat (BitVec.xor_allOnes (x := BitVec.ofNat 64 a))
  rw [BitVec.toNat_xor, BitVec.toNat_allOnes, BitVec.toNat_not, BitVec.toNat_ofNat, Nat.mod_eq_of_lt ha] at h
  exact h
/-- a number folded to one without a sign, near 0 small. -/
def foldN (n : Int) : Int := if 0 ≤ n then 2 * n else -2 * n - 1
theorem fold_eq (n : Int) (h1 : -9223372036854775808 ≤ n) (h2 : n < 9223372036854775808) : bits BinOp.xor IntKind.u64 (IntKind.u64.wrap (IntKind.u64.wrap n * 2)) (IntKind.u64.wrap (n / 9223372036854775808)) = foldN n := by
  unfold foldN
  by_cases h : 0 ≤ n
  · rw [if_pos h]
    have e1 : IntKind.u64.wrap (IntKind.u64.wrap n * 2) = 2 * n := by simp only [IntKind.wrap_u64]; omega
    have e2 : IntKind.u64.wrap (n / 9223372036854775808) = 0 := by simp only [IntKind.wrap_u64]; omega
    rw [e1, e2, u64_xor _ _ (by omega) (by omega) (by omega) (by omega)]
    simp; omega
  · rw [if_neg h]
    have e1 : IntKind.u64.wrap (IntKind.u64.wrap n * 2) = 2 * n + 18446744073709551616 := by simp only [IntKind.wrap_u64]; omega
    have e2 : IntKind.u64.wrap (n / 9223372036854775808) = 18446744073709551615 := by simp only [IntKind.wrap_u64]; omega
    rw [e1, e2, u64_xor _ _ (by omega) (by omega) (by omega) (by omega)]
    have := xor_ones (2 * n + 18446744073709551616).toNat (by omega)
    rw [show (18446744073709551615 : Int).toNat = 18446744073709551615 from rfl, this]
    omega
theorem foldN_in (n : Int) (h1 : -9223372036854775808 ≤ n) (h2 : n < 9223372036854775808) : 0 ≤ foldN n ∧ foldN n < 18446744073709551616 := by unfold foldN; split <;> omega
theorem fold_any (n : Int) (w : World) (h1 : -9223372036854775808 ≤ n) (h2 : n < 9223372036854775808) : Calls Try.prog 25 #[.int .i64 n] w fun e w' => e = .returned (.int .u64 (foldN n)) ∧ w = w' := by
  have H := Lib.hid (fold_eq n h1 h2)
  clear h1 h2
  go_enter Try.func25, Try.ntmps25
  go_wp2
  go_ret
  rw [← H.out]
  exact ⟨rfl, rfl⟩
/-- the number that was folded. -/
def unfoldN (u : Int) : Int := if u % 2 = 0 then u / 2 else -(u / 2) - 1
theorem unfold_fold (n : Int) : unfoldN (foldN n) = n := by unfold unfoldN foldN; split <;> split <;> omega
theorem fold_unfold (u : Int) (h : 0 ≤ u) : foldN (unfoldN u) = u := by unfold unfoldN foldN; split <;> split <;> omega
theorem and_one (u : Int) (h1 : 0 ≤ u) (h2 : u < 18446744073709551616) : bits BinOp.and IntKind.u64 u 1 = u % 2 := by
  rw [u64_and _ _ h1 h2 (by omega) (by omega)]
  rw [show (1 : Int).toNat = 1 from rfl, Nat.and_one_is_mod]; omega
theorem i64_xor_zero (x : Int) (h1 : 0 ≤ x) (h2 : x < 9223372036854775808) : bits BinOp.xor IntKind.i64 x 0 = x := by
  unfold bits
  simp only [IntKind.wrap_i64]
  rw [show BitVec.ofInt IntKind.i64.bits 0 = 0#64 from rfl]
  show (((BitVec.ofInt 64 x ^^^ 0#64).toNat : Int) + _) % _ - _ = x
  rw [BitVec.xor_zero, BitVec.toNat_ofInt]
  omega
theorem i64_xor_comm (x y : Int) : bits BinOp.xor IntKind.i64 x y = bits BinOp.xor IntKind.i64 y x := by
  unfold bits
  simp only [BitVec.xor_comm]
theorem unfold_eq (u : Int) (h1 : 0 ≤ u) (h2 : u < 18446744073709551616) : bits BinOp.xor IntKind.i64 (wrap64 (u / 2)) (wrap64 (-wrap64 (bits BinOp.and IntKind.u64 u 1))) = unfoldN u := by
  rw [and_one u h1 h2]
  unfold unfoldN
  have e1 : wrap64 (u / 2) = u / 2 := by unfold wrap64; omega
  by_cases h : u % 2 = 0
  · rw [if_pos h]
    have e2 : wrap64 (-wrap64 (u % 2)) = 0 := by unfold wrap64; omega
    rw [e1, e2, i64_xor_zero _ (by omega) (by omega)]
  · rw [if_neg h]
    have e2 : wrap64 (-wrap64 (u % 2)) = -1 := by unfold wrap64; omega
    rw [e1, e2]
    obtain ⟨m, hm⟩ : ∃ m : Nat, u / 2 = m := ⟨(u / 2).toNat, by omega⟩
    rw [hm, i64_xor_comm, i64_not m (by omega)]; omega
theorem unfold_any (n : Int) (w : World) (h1 : 0 ≤ n) (h2 : n < 18446744073709551616) : Calls Try.prog 23 #[.int .u64 n] w fun e w' => e = .returned (.int .i64 (unfoldN n)) ∧ w = w' := by
  have H := Lib.hid (unfold_eq n h1 h2)
  clear h1 h2
  go_enter Try.func23, Try.ntmps23
  go_wp2
  go_ret
  rw [← H.out]
  exact ⟨rfl, rfl⟩
theorem good_any (o a b : Int) (w : World) : Calls Try.prog 10 #[.agg #[.int .i64 o, .int .i64 a, .int .i64 b]] w fun e w' => e = .returned (.bool (decide (0 ≤ o) && decide (o ≤ 63))) ∧ Below w.heap.size w w' := by
  by_cases h0 : 0 ≤ o
  · by_cases h1 : o ≤ 63
    · have d0 : decide (0 ≤ o) = true := decide_eq_true h0
      have d1 : decide (o ≤ 63) = true := decide_eq_true h1
      rw [d0, d1]
      go_enter Try.func10, Try.ntmps10
      go_wp2
      go_returns
      exact ⟨rfl, by go_grown⟩
    · have d0 : decide (0 ≤ o) = true := decide_eq_true h0
      have d1 : decide (o ≤ 63) = false := decide_eq_false h1
      rw [d0, d1]
      go_enter Try.func10, Try.ntmps10
      go_wp2
      go_returns
      exact ⟨rfl, by go_grown⟩
  · have d0 : decide (0 ≤ o) = false := decide_eq_false h0
    rw [d0]
    go_enter Try.func10, Try.ntmps10
    go_wp2
    go_returns
    exact ⟨rfl, by go_grown⟩
theorem signed_any (n : Int) (w : World) (h1 : -9223372036854775808 ≤ n) (h2 : n < 9223372036854775808) : Calls Try.prog 20 #[.int .i64 n] w fun e w' => e = .returned (.int .u64 (foldN n)) ∧ w = w' := by
  by_cases h : 0 ≤ n
  · have hd : decide (n < 0) = false := decide_eq_false (by omega)
    have H : Hid (IntKind.u64.wrap (IntKind.u64.wrap n * 2) = foldN n) := Lib.hid (by unfold foldN; rw [if_pos h]; simp only [IntKind.wrap_u64]; omega)
    clear h1 h2
    go_enter Try.func20, Try.ntmps20
    go_wp2
    go_ret
    rw [← H.out]
    exact ⟨rfl, rfl⟩
  · have hd : decide (n < 0) = true := decide_eq_true (by omega)
    have hn : n < 0 := by omega
    have H : Hid (bits BinOp.xor IntKind.u64 IntKind.u64.max (IntKind.u64.wrap (IntKind.u64.wrap n * 2)) = foldN n) := Lib.hid (by
      unfold foldN; rw [if_neg h]
      have e1 : IntKind.u64.wrap (IntKind.u64.wrap n * 2) = 2 * n + 18446744073709551616 := by simp only [IntKind.wrap_u64]; omega
      rw [e1, show IntKind.u64.max = 18446744073709551615 from rfl, u64_xor _ _ (by omega) (by omega) (by omega) (by omega)]
      have := xor_ones (2 * n + 18446744073709551616).toNat (by omega)
      rw [show (18446744073709551615 : Int).toNat = 18446744073709551615 from rfl, Nat.xor_comm, this]
      omega)
    clear h1 h2
    go_enter Try.func20, Try.ntmps20
    go_wp2
    go_ret
    rw [← H.out]
    exact ⟨rfl, rfl⟩
end Go.Proofs.Ytgfaadfkeeehgaa
