/- Contracts of package word and of its reference, and the walks of the three laws of layer 11. -/
import Derived.Test.YtknpgmbniohcnaaRows
import Derived.WalkKit
import Derived.ProofKit
import Derived.OpenShut
import Derived.IntWalk
import Derived.Laws.BitsAllLaws
import Derived.Lib.Hide
namespace Go.Proofs.Ytknpgmbniohcnaa
set_option linter.unusedSimpArgs false
open Go.ChangeShapes Go.WideShapes Go.ChangeAt Go.RowKit
theorem ret_int {k : IntKind} {a b : Int} (h : a = b) : Ending.returned (.int k a) = .returned (.int k b) := by rw [h]
def numW (n : Int) : Int := (2 * n + 1) % 18446744073709551616
theorem or_one (x : Int) (h0 : 0 ≤ x) (h1 : x < 18446744073709551616) (h2 : x % 2 = 0) : bits .or .u64 x 1 = x + 1 := by
  rw [u64_or x 1 h0 h1 (by omega) (by omega)]
  have := nat_join 1 x.toNat 1 (by omega) (by omega)
  rw [show (1 : Int).toNat = 1 from rfl, this]; omega
theorem and_one (x : Int) (h0 : 0 ≤ x) (h1 : x < 18446744073709551616) : bits .and .u64 x 1 = x % 2 := by
  rw [u64_and x 1 h0 h1 (by omega) (by omega)]
  rw [show (1 : Int).toNat = 1 from rfl, nat_mask1]; omega
theorem num_any (n : Int) (w : World) : Calls Try.prog 13 #[.int .i64 n] w fun e w' => e = .returned (.int .u64 (numW n)) ∧ w = w' := by
  have h : bits BinOp.or IntKind.u64 (IntKind.u64.wrap (IntKind.u64.wrap n * 2)) 1 = numW n := by
    rw [or_one _ (by rw [IntKind.wrap_u64]; omega) (by rw [IntKind.wrap_u64]; omega) (by rw [IntKind.wrap_u64, IntKind.wrap_u64]; omega), IntKind.wrap_u64, IntKind.wrap_u64]
    unfold numW; omega
  have H := Lib.hid h; clear h
  go_enter Try.func13, Try.ntmps13
  go_wp2
  go_ret
  exact ⟨ret_int H.out, rfl⟩
def clampP (n : Int) : Int := if n < 0 then 0 else if 2147483647 < n then 2147483647 else n
theorem ptr_any (n : Int) (w : World) : Calls Try.prog 12 #[.int .i64 n] w fun e w' => e = .returned (.int .u64 (clampP n * 2)) ∧ w = w' := by
  unfold clampP
  by_cases h : n < 0
  · go_enter Try.func12, Try.ntmps12
    go_wp2
    go_ret
    exact ⟨rfl, rfl⟩
  · by_cases h' : 2147483647 < n
    · go_enter Try.func12, Try.ntmps12
      go_wp2
      go_ret
      exact ⟨rfl, rfl⟩
    · go_enter Try.func12, Try.ntmps12
      go_wp2
      go_ret
      exact ⟨rfl, rfl⟩
theorem at_yes (n : Int) (h0 : 0 ≤ n) (h1 : n < 4294967296) (h2 : n % 2 = 0) (w : World) : Calls Try.prog 51 #[.int .u64 n] w fun e w' => e = .returned (.tuple #[.int .i64 (n / 2), .bool true]) ∧ w = w' := by
  have h3 : (bits BinOp.and IntKind.u64 n 1 == 1) = false := by rw [and_one n h0 (by omega), h2]; rfl
  have h4 : n / 2 ≤ 2147483647 := by omega
  clear h2
  go_enter Try.func51, Try.ntmps51
  go_wp2
  go_ret2
  exact ⟨rfl, rfl⟩
theorem at_no (n : Int) (h0 : 0 ≤ n) (h1 : n < 18446744073709551616) (h2 : n % 2 = 1 ∨ 4294967296 ≤ n) (w : World) : Calls Try.prog 51 #[.int .u64 n] w fun e w' => e = .returned (.tuple #[.int .i64 0, .bool false]) ∧ w = w' := by
  by_cases h5 : n % 2 = 1
  · have h3 : (bits BinOp.and IntKind.u64 n 1 == 1) = true := by rw [and_one n h0 (by omega), h5]; rfl
    clear h2 h5
    go_enter Try.func51, Try.ntmps51
    go_wp2
    all_goals (go_ret2; exact ⟨rfl, rfl⟩)
  · have h6 : n % 2 = 0 := by omega
    have h3 : (bits BinOp.and IntKind.u64 n 1 == 1) = false := by rw [and_one n h0 (by omega), h6]; rfl
    have h4 : 2147483647 < n / 2 := by omega
    clear h2 h5 h6
    go_enter Try.func51, Try.ntmps51
    go_wp2
    all_goals (go_ret2; exact ⟨rfl, rfl⟩)
theorem wraps_i64 (n : Int) (h₀ : 0 ≤ n) (h₁ : n < 2 ^ 62) : IntKind.i64.wrap n = n := by rw [IntKind.wrap_i64]; omega
theorem join24 (x y : Int) (h0 : 0 ≤ x) (h1 : x < 4611686018427387904) (h2 : x % 16777216 = 0) (h3 : 0 ≤ y) (h4 : y < 16777216) : bits .or .i64 x y = x + y :=
  bits_join .i64 62 (by decide) wraps_i64 24 x y h0 h2 h1 h3 h4 (by omega)
theorem join16 (x y : Int) (h0 : 0 ≤ x) (h1 : x < 4611686018427387904) (h2 : x % 65536 = 0) (h3 : 0 ≤ y) (h4 : y < 65536) : bits .or .i64 x y = x + y :=
  bits_join .i64 62 (by decide) wraps_i64 16 x y h0 h2 h1 h3 h4 (by omega)
theorem head_yes (k t s : Int) (hk : 1 ≤ k) (hk2 : k ≤ 3) (ht : 0 ≤ t) (ht2 : t ≤ 255) (hs : 0 ≤ s) (hs2 : s ≤ 65535) (w : World) : Calls Try.prog 33 #[.int .i64 k, .int .i64 t, .int .i64 s] w fun e w' => e = .returned (.tuple #[.int .u64 (numW (k * 16777216 + t * 65536 + s)), .bool true]) ∧ w = w' := by
  have e1 : bits BinOp.or IntKind.i64 (k * 16777216) (t * 65536) = k * 16777216 + t * 65536 := join24 _ _ (by omega) (by omega) (by omega) (by omega) (by omega)
  have e2 : bits BinOp.or IntKind.i64 (k * 16777216 + t * 65536) s = k * 16777216 + t * 65536 + s := join16 _ _ (by omega) (by omega) (by omega) (by omega) (by omega)
  have E1 := Lib.hid e1; clear e1
  have E2 := Lib.hid e2; clear e2
  go_enter Try.func33, Try.ntmps33
  go_wp2_with fail
  rw [E1.out, E2.out]
  refine (num_any _ _).mono ?_; rintro e w' ⟨rfl, rfl⟩
  go_wp2
  go_ret2
  exact ⟨rfl, rfl⟩
theorem head_no (k t s : Int) (h : k < 1 ∨ 3 < k ∨ t < 0 ∨ 255 < t ∨ s < 0 ∨ 65535 < s) (w : World) : Calls Try.prog 33 #[.int .i64 k, .int .i64 t, .int .i64 s] w fun e w' => e = .returned (.tuple #[.int .u64 0, .bool false]) ∧ w = w' := by
  by_cases h1 : k < 1
  · clear h; go_enter Try.func33, Try.ntmps33
    go_wp2
    go_ret2
    exact ⟨rfl, rfl⟩
  by_cases h2 : 3 < k
  · clear h h1; go_enter Try.func33, Try.ntmps33
    go_wp2
    all_goals (go_ret2; exact ⟨rfl, rfl⟩)
  have h1' : 1 ≤ k := by omega
  have h2' : k ≤ 3 := by omega
  clear h1 h2
  by_cases h3 : t < 0
  · clear h; go_enter Try.func33, Try.ntmps33
    go_wp2
    all_goals (go_ret2; exact ⟨rfl, rfl⟩)
  have h3' : 0 ≤ t := by omega
  clear h3
  by_cases h4 : 255 < t
  · clear h; go_enter Try.func33, Try.ntmps33
    go_wp2
    all_goals (go_ret2; exact ⟨rfl, rfl⟩)
  have h4' : t ≤ 255 := by omega
  clear h4
  by_cases h5 : s < 0
  · clear h; go_enter Try.func33, Try.ntmps33
    go_wp2
    all_goals (go_ret2; exact ⟨rfl, rfl⟩)
  have h5' : 0 ≤ s := by omega
  have h6 : 65535 < s := by omega
  clear h h5
  go_enter Try.func33, Try.ntmps33
  go_wp2
  all_goals (go_ret2; exact ⟨rfl, rfl⟩)
def okS (k : Int) : Prop := k % 2 = 1 ∧ 1 ≤ k / 33554432 ∧ k / 33554432 ≤ 3
theorem split_yes (k : Int) (h0 : 0 ≤ k) (h1 : k < 18446744073709551616) (h : okS k) (w : World) : Calls Try.prog 39 #[.int .u64 k] w fun e w' => e = .returned (.tuple #[.int .i64 (k / 2 / 16777216), .int .i64 (k / 2 / 65536 % 256), .int .i64 (k / 2 % 65536), .bool true]) ∧ w = w' := by
  obtain ⟨h2, h3, h4⟩ := h
  have h5 : (bits BinOp.and IntKind.u64 k 1 == 0) = false := by rw [and_one k h0 h1, h2]; rfl
  have e1 : bits BinOp.and IntKind.u64 (k / 2 / 65536) 255 = k / 2 / 65536 % 256 := by
    rw [u64_and _ _ (by omega) (by omega) (by omega) (by omega), show (255 : Int).toNat = 255 from rfl, nat_mask8]; omega
  have e2 : bits BinOp.and IntKind.u64 (k / 2) 65535 = k / 2 % 65536 := by
    rw [u64_and _ _ (by omega) (by omega) (by omega) (by omega), show (65535 : Int).toNat = 65535 from rfl, nat_mask16]; omega
  have h6 : 1 ≤ k / 2 / 16777216 := by omega
  have h7 : k / 2 / 16777216 ≤ 3 := by omega
  clear h2 h3 h4
  go_enter Try.func39, Try.ntmps39
  go_wp2
  refine bodyPost_ret (v := .tuple #[.int .i64 (k / 2 / 16777216), .int .i64 (k / 2 / 65536 % 256), .int .i64 (k / 2 % 65536), .bool true]) (by simp [results, Try.results13, go_sem]) rfl ⟨rfl, rfl⟩
theorem split_no (k : Int) (h0 : 0 ≤ k) (h1 : k < 18446744073709551616) (h : ¬ okS k) (w : World) : Calls Try.prog 39 #[.int .u64 k] w fun e w' => e = .returned (.tuple #[.int .i64 0, .int .i64 0, .int .i64 0, .bool false]) ∧ w = w' := by
  unfold okS at h
  by_cases h2 : k % 2 = 0
  · have h5 : (bits BinOp.and IntKind.u64 k 1 == 0) = true := by rw [and_one k h0 h1, h2]; rfl
    clear h2 h
    go_enter Try.func39, Try.ntmps39
    go_wp2
    all_goals refine bodyPost_ret (v := .tuple #[.int .i64 0, .int .i64 0, .int .i64 0, .bool false]) (by simp [results, Try.results13, go_sem]) rfl ⟨rfl, rfl⟩
  · have h2' : k % 2 = 1 := by omega
    have h5 : (bits BinOp.and IntKind.u64 k 1 == 0) = false := by rw [and_one k h0 h1, h2']; rfl
    by_cases h3 : k / 2 / 16777216 < 1
    · clear h2 h2' h
      go_enter Try.func39, Try.ntmps39
      go_wp2
      all_goals refine bodyPost_ret (v := .tuple #[.int .i64 0, .int .i64 0, .int .i64 0, .bool false]) (by simp [results, Try.results13, go_sem]) rfl ⟨rfl, rfl⟩
    · have h4 : 3 < k / 2 / 16777216 := by omega
      clear h2 h2' h h3
      go_enter Try.func39, Try.ntmps39
      go_wp2
      all_goals refine bodyPost_ret (v := .tuple #[.int .i64 0, .int .i64 0, .int .i64 0, .bool false]) (by simp [results, Try.results13, go_sem]) rfl ⟨rfl, rfl⟩
def intV (k : Int) : Int := if k % 2 = 1 then wrap64 k / 2 else 0
def intB (k : Int) : Bool := decide (k % 2 = 1)
def atP (k : Int) : Prop := k % 2 = 0 ∧ k < 4294967296
instance (k : Int) : Decidable (atP k) := inferInstanceAs (Decidable (k % 2 = 0 ∧ k < 4294967296))
def atV (k : Int) : Int := if atP k then k / 2 else 0
def atB (k : Int) : Bool := decide (atP k)
theorem at_any (k : Int) (h0 : 0 ≤ k) (h1 : k < 18446744073709551616) (w : World) : Calls Try.prog 51 #[.int .u64 k] w fun e w' => e = .returned (.tuple #[.int .i64 (atV k), .bool (atB k)]) ∧ w = w' := by
  by_cases h : atP k
  · rw [show atV k = k / 2 from if_pos h, show atB k = true from decide_eq_true h]; exact at_yes k h0 h.2 h.1 w
  · rw [show atV k = 0 from if_neg h, show atB k = false from decide_eq_false h]; exact at_no k h0 h1 (by unfold atP at h; omega) w
theorem rat_any (k : Int) (h0 : 0 ≤ k) (h1 : k < 18446744073709551616) (w : World) : Calls Try.prog 52 #[.int .u64 k] w fun e w' => e = .returned (.tuple #[.int .i64 (atV k), .bool (atB k)]) ∧ w = w' := by
  by_cases h : atP k
  · rw [show atV k = k / 2 from if_pos h, show atB k = true from decide_eq_true h]
    obtain ⟨h2, h3⟩ := h
    have h4 : ((k % 2) == 1) = false := by rw [h2]; rfl
    have h5 : k ≤ 4294967294 := by omega
    clear h2 h3
    go_enter Try.func52, Try.ntmps52
    go_wp2
    go_ret2
    exact ⟨rfl, rfl⟩
  · rw [show atV k = 0 from if_neg h, show atB k = false from decide_eq_false h]
    unfold atP at h
    by_cases h2 : k % 2 = 1
    · have h4 : ((k % 2) == 1) = true := by rw [h2]; rfl
      clear h h2
      go_enter Try.func52, Try.ntmps52
      go_wp2
      all_goals (go_ret2; exact ⟨rfl, rfl⟩)
    · have h4 : ((k % 2) == 1) = false := by rw [show k % 2 = 0 from by omega]; rfl
      have h5 : 4294967294 < k := by omega
      clear h h2
      go_enter Try.func52, Try.ntmps52
      go_wp2
      all_goals (go_ret2; exact ⟨rfl, rfl⟩)
theorem rptr_any (n : Int) (w : World) : Calls Try.prog 45 #[.int .i64 n] w fun e w' => e = .returned (.int .u64 (clampP n * 2)) ∧ w = w' := by
  unfold clampP
  by_cases h : n < 0
  · go_enter Try.func45, Try.ntmps45
    go_wp2
    go_ret
    exact ⟨rfl, rfl⟩
  · by_cases h' : 2147483647 < n
    · go_enter Try.func45, Try.ntmps45
      go_wp2
      go_ret
      exact ⟨rfl, rfl⟩
    · go_enter Try.func45, Try.ntmps45
      go_wp2
      go_ret
      exact ⟨rfl, rfl⟩
def headP (k t s : Int) : Prop := (1 ≤ k ∧ k ≤ 3) ∧ (0 ≤ t ∧ t ≤ 255) ∧ (0 ≤ s ∧ s ≤ 65535)
instance (k t s : Int) : Decidable (headP k t s) := inferInstanceAs (Decidable ((1 ≤ k ∧ k ≤ 3) ∧ (0 ≤ t ∧ t ≤ 255) ∧ (0 ≤ s ∧ s ≤ 65535)))
def headV (k t s : Int) : Int := if headP k t s then numW (k * 16777216 + t * 65536 + s) else 0
def headB (k t s : Int) : Bool := decide (headP k t s)
theorem head_any (k t s : Int) (w : World) : Calls Try.prog 33 #[.int .i64 k, .int .i64 t, .int .i64 s] w fun e w' => e = .returned (.tuple #[.int .u64 (headV k t s), .bool (headB k t s)]) ∧ w = w' := by
  by_cases h : headP k t s
  · rw [show headV k t s = numW (k * 16777216 + t * 65536 + s) from if_pos h, show headB k t s = true from decide_eq_true h]
    obtain ⟨⟨a, b⟩, ⟨c, d⟩, e, f⟩ := h
    exact head_yes k t s a b c d e f w
  · rw [show headV k t s = 0 from if_neg h, show headB k t s = false from decide_eq_false h]
    exact head_no k t s (by unfold headP at h; omega) w
theorem rhead_no (k t s : Int) (h : k < 1 ∨ 3 < k ∨ t < 0 ∨ 255 < t ∨ s < 0 ∨ 65535 < s) (w : World) : Calls Try.prog 43 #[.int .i64 k, .int .i64 t, .int .i64 s] w fun e w' => e = .returned (.tuple #[.int .u64 0, .bool false]) ∧ w = w' := by
  by_cases h1 : k < 1
  · clear h; go_enter Try.func43, Try.ntmps43
    go_wp2
    go_ret2
    exact ⟨rfl, rfl⟩
  by_cases h2 : 3 < k
  · clear h h1; go_enter Try.func43, Try.ntmps43
    go_wp2
    all_goals (go_ret2; exact ⟨rfl, rfl⟩)
  have h1' : 1 ≤ k := by omega
  have h2' : k ≤ 3 := by omega
  clear h1 h2
  by_cases h3 : t < 0
  · clear h; go_enter Try.func43, Try.ntmps43
    go_wp2
    all_goals (go_ret2; exact ⟨rfl, rfl⟩)
  have h3' : 0 ≤ t := by omega
  clear h3
  by_cases h4 : 255 < t
  · clear h; go_enter Try.func43, Try.ntmps43
    go_wp2
    all_goals (go_ret2; exact ⟨rfl, rfl⟩)
  have h4' : t ≤ 255 := by omega
  clear h4
  by_cases h5 : s < 0
  · clear h; go_enter Try.func43, Try.ntmps43
    go_wp2
    all_goals (go_ret2; exact ⟨rfl, rfl⟩)
  have h5' : 0 ≤ s := by omega
  have h6 : 65535 < s := by omega
  clear h h5
  go_enter Try.func43, Try.ntmps43
  go_wp2
  all_goals (go_ret2; exact ⟨rfl, rfl⟩)
theorem rhead_any (k t s : Int) (w : World) : Calls Try.prog 43 #[.int .i64 k, .int .i64 t, .int .i64 s] w fun e w' => e = .returned (.tuple #[.int .u64 (headV k t s), .bool (headB k t s)]) ∧ w = w' := by
  by_cases h : headP k t s
  · have e1 : (s + t * 65536 + k * 16777216) * 2 + 1 = numW (k * 16777216 + t * 65536 + s) := by unfold headP at h; unfold numW; omega
    rw [show headV k t s = numW (k * 16777216 + t * 65536 + s) from if_pos h, show headB k t s = true from decide_eq_true h, ← e1]
    clear e1
    obtain ⟨⟨a, b⟩, ⟨c, d⟩, e, f⟩ := h
    go_enter Try.func43, Try.ntmps43
    go_wp2
    all_goals (go_ret2; exact ⟨rfl, rfl⟩)
  · rw [show headV k t s = 0 from if_neg h, show headB k t s = false from decide_eq_false h]
    exact rhead_no k t s (by unfold headP at h; omega) w
instance (k : Int) : Decidable (okS k) := inferInstanceAs (Decidable (k % 2 = 1 ∧ 1 ≤ k / 33554432 ∧ k / 33554432 ≤ 3))
def splK (k : Int) : Int := if okS k then k / 2 / 16777216 else 0
def splT (k : Int) : Int := if okS k then k / 2 / 65536 % 256 else 0
def splS (k : Int) : Int := if okS k then k / 2 % 65536 else 0
def splB (k : Int) : Bool := decide (okS k)
theorem split_any (k : Int) (h0 : 0 ≤ k) (h1 : k < 18446744073709551616) (w : World) : Calls Try.prog 39 #[.int .u64 k] w fun e w' => e = .returned (.tuple #[.int .i64 (splK k), .int .i64 (splT k), .int .i64 (splS k), .bool (splB k)]) ∧ w = w' := by
  by_cases h : okS k
  · rw [show splK k = k / 2 / 16777216 from if_pos h, show splT k = k / 2 / 65536 % 256 from if_pos h, show splS k = k / 2 % 65536 from if_pos h, show splB k = true from decide_eq_true h]
    exact split_yes k h0 h1 h w
  · rw [show splK k = 0 from if_neg h, show splT k = 0 from if_neg h, show splS k = 0 from if_neg h, show splB k = false from decide_eq_false h]
    exact split_no k h0 h1 h w
theorem rsplit_any (k : Int) (h0 : 0 ≤ k) (h1 : k < 18446744073709551616) (w : World) : Calls Try.prog 48 #[.int .u64 k] w fun e w' => e = .returned (.tuple #[.int .i64 (splK k), .int .i64 (splT k), .int .i64 (splS k), .bool (splB k)]) ∧ w = w' := by
  by_cases h : okS k
  · rw [show splK k = k / 2 / 16777216 from if_pos h, show splT k = k / 2 / 65536 % 256 from if_pos h, show splS k = k / 2 % 65536 from if_pos h, show splB k = true from decide_eq_true h]
    obtain ⟨h2, h3, h4⟩ := h
    have h5 : (k % 2 == 0) = false := by rw [h2]; rfl
    have h6 : k / 2 < 67108864 := by omega
    have h7 : 16777216 ≤ k / 2 := by omega
    clear h2 h3 h4
    go_enter Try.func48, Try.ntmps48
    go_wp2
    refine bodyPost_ret (v := .tuple #[.int .i64 (k / 2 / 16777216), .int .i64 (k / 2 / 65536 % 256), .int .i64 (k / 2 % 65536), .bool true]) (by simp [results, Try.results14, go_sem]) rfl ⟨rfl, rfl⟩
  · rw [show splK k = 0 from if_neg h, show splT k = 0 from if_neg h, show splS k = 0 from if_neg h, show splB k = false from decide_eq_false h]
    unfold okS at h
    by_cases h2 : k % 2 = 0
    · have h5 : (k % 2 == 0) = true := by rw [h2]; rfl
      clear h2 h
      go_enter Try.func48, Try.ntmps48
      go_wp2
      all_goals refine bodyPost_ret (v := .tuple #[.int .i64 0, .int .i64 0, .int .i64 0, .bool false]) (by simp [results, Try.results14, go_sem]) rfl ⟨rfl, rfl⟩
    · have h5 : (k % 2 == 0) = false := by rw [show k % 2 = 1 from by omega]; rfl
      by_cases h3 : k / 2 < 16777216
      · clear h2 h
        go_enter Try.func48, Try.ntmps48
        go_wp2
        all_goals refine bodyPost_ret (v := .tuple #[.int .i64 0, .int .i64 0, .int .i64 0, .bool false]) (by simp [results, Try.results14, go_sem]) rfl ⟨rfl, rfl⟩
      · have h4 : 67108864 ≤ k / 2 := by omega
        clear h2 h h3
        go_enter Try.func48, Try.ntmps48
        go_wp2
        all_goals refine bodyPost_ret (v := .tuple #[.int .i64 0, .int .i64 0, .int .i64 0, .bool false]) (by simp [results, Try.results14, go_sem]) rfl ⟨rfl, rfl⟩
end Go.Proofs.Ytknpgmbniohcnaa
