import Derived.Test.YtaidlcnfkdaijaaBack
namespace Go.Proofs.Ytaidlcnfkdaijaa
open Go.ChangeShapes Go.WideShapes Go.ChangeAt Go.RowKit
set_option linter.unusedVariables false
theorem xor_u64 (x y : Int) : bits .xor .u64 x y = (((BitVec.ofInt 64 x ^^^ BitVec.ofInt 64 y).toNat : Nat) : Int) := by
  unfold bits
  simp only [IntKind.wrap_u64]
  show (((BitVec.ofInt 64 x ^^^ BitVec.ofInt 64 y).toNat : Int)) % _ = _
  have := (BitVec.ofInt 64 x ^^^ BitVec.ofInt 64 y).isLt
  omega
theorem ofInt_inj (a b : Int) (ha : 0 ≤ a) (ha2 : a < 18446744073709551616) (hb : 0 ≤ b) (hb2 : b < 18446744073709551616) (h : BitVec.ofInt 64 a = BitVec.ofInt 64 b) : a = b := by
  have := congrArg BitVec.toNat h
  rw [BitVec.toNat_ofInt, BitVec.toNat_ofInt] at this
  omega
theorem xor_left (a b c : Int) (ha : 0 ≤ a) (ha2 : a < 18446744073709551616) (hb : 0 ≤ b) (hb2 : b < 18446744073709551616) (h : bits .xor .u64 a c = bits .xor .u64 b c) : a = b := by
  rw [xor_u64, xor_u64] at h
  have h1 : BitVec.ofInt 64 a ^^^ BitVec.ofInt 64 c = BitVec.ofInt 64 b ^^^ BitVec.ofInt 64 c := BitVec.eq_of_toNat_eq (by omega)
  have h2 := congrArg (· ^^^ BitVec.ofInt 64 c) h1
  simp only [BitVec.xor_assoc, BitVec.xor_self, BitVec.xor_zero] at h2
  exact ofInt_inj a b ha ha2 hb hb2 h2
theorem xor_right (a b c : Int) (ha : 0 ≤ a) (ha2 : a < 18446744073709551616) (hb : 0 ≤ b) (hb2 : b < 18446744073709551616) (h : bits .xor .u64 c a = bits .xor .u64 c b) : a = b := by
  rw [xor_u64, xor_u64, BitVec.xor_comm, BitVec.xor_comm (BitVec.ofInt 64 c)] at h
  rw [← xor_u64, ← xor_u64] at h
  exact xor_left a b c ha ha2 hb hb2 h
theorem mul_inj (a b : Int) (ha : 0 ≤ a) (ha2 : a < 18446744073709551616) (hb : 0 ≤ b) (hb2 : b < 18446744073709551616) (h : IntKind.u64.wrap (a * 1099511628211) = IntKind.u64.wrap (b * 1099511628211)) : a = b := by
  simp only [IntKind.wrap_u64] at h
  have key : ∀ c : Int, 0 ≤ c → c < 18446744073709551616 → (c * 1099511628211 % 18446744073709551616 * 14886173955864302971) % 18446744073709551616 = c := fun c h0 h1 => by
    rw [Int.mul_emod, Int.emod_emod, ← Int.mul_emod, Int.mul_assoc, show (1099511628211 : Int) * 14886173955864302971 = 1 + 18446744073709551616 * 887285111055 from by decide, Int.mul_add, Int.mul_one, ← Int.mul_assoc, Int.mul_comm c, Int.mul_assoc, Int.add_mul_emod_self_left]
    exact Int.emod_eq_of_lt h0 h1
  have h2 : a * 1099511628211 % 18446744073709551616 * 14886173955864302971 % 18446744073709551616 = b * 1099511628211 % 18446744073709551616 * 14886173955864302971 % 18446744073709551616 := by rw [h]
  rw [key a ha ha2, key b hb hb2] at h2
  exact h2
theorem sumG_in (xs : List Nat) (k : Nat) : 0 ≤ sumG xs k ∧ sumG xs k < 18446744073709551616 := by
  cases k with
  | zero => simp [sumG]
  | succ k => simp only [sumG, IntKind.wrap_u64]; omega
theorem sum_set (xs : List Nat) (p z : Nat) (hp : p < xs.length) (hz : z < 256) (hx : xs.getD p 0 < 256) : ∀ k, (k ≤ p → sumG (xs.set p z) k = sumG xs k) ∧ (p < k → (sumG (xs.set p z) k = sumG xs k ↔ z = xs.getD p 0)) := by
  intro k
  induction k with
  | zero => exact ⟨fun _ => rfl, fun h => absurd h (by omega)⟩
  | succ k ih =>
    have sin := sumG_in xs k; have sin' := sumG_in (xs.set p z) k
    have hget : k ≠ p → (xs.set p z).getD k 0 = xs.getD k 0 := fun h => by simp [List.getD, Ne.symm h]
    have hgetp : (xs.set p z).getD p 0 = z := by simp [List.getD, hp]
    refine ⟨fun h => ?_, fun h => ?_⟩
    · simp only [sumG]
      rw [ih.1 (by omega), hget (by omega)]
    · by_cases hkp : k = p
      · subst hkp
        simp only [sumG]
        rw [ih.1 (Nat.le_refl _), hgetp]
        constructor
        · intro e
          have b1 := bits_u64_in .xor (sumG xs k) (IntKind.u64.wrap (z : Nat)); have b2 := bits_u64_in .xor (sumG xs k) (IntKind.u64.wrap (xs.getD k 0 : Nat))
          have e1 := mul_inj _ _ b1.1 b1.2 b2.1 b2.2 e
          have e2 := xor_right _ _ _ (by simp only [IntKind.wrap_u64]; omega) (by simp only [IntKind.wrap_u64]; omega) (by simp only [IntKind.wrap_u64]; omega) (by simp only [IntKind.wrap_u64]; omega) e1
          simp only [IntKind.wrap_u64] at e2
          omega
        · intro e; rw [e]
      · simp only [sumG]
        rw [hget hkp]
        constructor
        · intro e
          have b1 := bits_u64_in .xor (sumG (xs.set p z) k) (IntKind.u64.wrap (xs.getD k 0 : Nat)); have b2 := bits_u64_in .xor (sumG xs k) (IntKind.u64.wrap (xs.getD k 0 : Nat))
          have e1 := mul_inj _ _ b1.1 b1.2 b2.1 b2.2 e
          have e2 := xor_left _ _ _ sin'.1 sin'.2 sin.1 sin.2 e1
          exact (ih.2 (by omega)).1 e2
        · intro e
          rw [(ih.2 (by omega)).2 e]
end Go.Proofs.Ytaidlcnfkdaijaa
