import Derived.Test.YtkecnhogooaccaaAwake
import Derived.Laws.Bits128
namespace Go.Proofs.Ytkecnhogooaccaa
open Go.ChangeShapes Go.WideShapes Go.ChangeAt Go.RowKit
set_option linter.unusedVariables false
theorem i64_and7 (n : Int) : bits .and .i64 n 7 = n % 8 := by
  have h7 : (BitVec.ofInt 64 7).toNat = 2 ^ 3 - 1 := by decide
  have key : (BitVec.ofInt 64 n &&& BitVec.ofInt 64 7).toNat = (n % ((2 ^ 64 : Nat) : Int)).toNat % 2 ^ 3 := by
    rw [BitVec.toNat_and, BitVec.toNat_ofInt, h7, Nat.and_two_pow_sub_one_eq_mod]
  show IntKind.i64.wrap ((BitVec.ofInt 64 n &&& BitVec.ofInt 64 7).toNat : Nat) = n % 8
  rw [key, IntKind.wrap_i64]
  omega
/-- an argument: a row of numbers. -/
def InL (k : IntKind) (w : World) (A : Option Addr) (n : Nat) (xs : List Int) : Prop :=
  xs.length = n ∧ (0 < n → ∃ b off, A = some ⟨b, off, none⟩ ∧ b < w.heap.size ∧ ∀ j, j < n → w.cell? ⟨b, off + j, none⟩ = some (.int k (xs.getD j 0)))
theorem InL.at {k : IntKind} {w : World} {A : Option Addr} {n : Nat} {xs : List Int} (h : InL k w A n xs) (hn : 0 < n) : ∃ b off, A = some ⟨b, off, none⟩ ∧ ∀ W j, Below w.heap.size w W → j < n → W.cell? ⟨b, off + j, none⟩ = some (.int k (xs.getD j 0)) := by
  obtain ⟨b, off, e, hb, hc⟩ := h.2 hn
  exact ⟨b, off, e, fun W j hW hj => (hW.cell (p := ⟨b, off + j, none⟩) hb).trans (hc j hj)⟩
def nn (x : Int) : Nat := (x % 8).toNat
def slW (n : Nat) (z : Int) : List Int := if n = 0 then [] else List.replicate (n - 1) 1 ++ [z]
def frN (ls ws : List Int) : Nat → List RF
  | 0 => []
  | i + 1 => frN ls ws i ++ [⟨i, ls.getD i 0, slW (nn (ls.getD i 0)) (IntKind.u64.wrap (ws.getD i 0 + 1)), [ws.getD i 0]⟩]
theorem frN_len (ls ws : List Int) (i : Nat) : (frN ls ws i).length = i := by
  induction i with
  | zero => rfl
  | succ i ih => simp [frN, ih]
theorem slW_len (n : Nat) (z : Int) : (slW n z).length = n := by
  unfold slW; split <;> simp <;> omega
theorem nn_le (x : Int) : nn x ≤ 7 := by unfold nn; omega
theorem nn_cast (x : Int) : x % 8 = (nn x : Int) := by unfold nn; omega
theorem wd_le (ls ws : List Int) (i : Nat) : (wdOf (frN ls ws i)).length ≤ 8 * i := by
  induction i with
  | zero => simp [frN, wdOf]
  | succ i ih =>
    simp only [frN, wdOf_app, wdOf_one, RF.ws, List.length_append, slW_len, List.length_singleton]
    have := nn_le (ls.getD i 0); omega
theorem pushN {ls ws : List Int} {i : Nat} (hi : i ≤ 20) : pushS 4096 (frN ls ws i) i (ls.getD i 0) (nn (ls.getD i 0)) = (0, frN ls ws i ++ [⟨i, ls.getD i 0, List.replicate (nn (ls.getD i 0)) 1, []⟩]) := by
  have h1 := wd_le ls ws i; have h2 := nn_le (ls.getD i 0)
  unfold pushS used
  rw [frN_len, if_neg (by omega), if_neg (by omega)]
  simp
theorem addN {ls ws : List Int} {i : Nat} {n : Nat} {x : Int} (hi : i ≤ 20) (hn : n ≤ 7) (a b : Int) : addS 4096 (frN ls ws i ++ [⟨a, b, List.replicate n 1, []⟩]) x = (0, frN ls ws i ++ [⟨a, b, List.replicate n 1, [x]⟩]) := by
  have h1 := wd_le ls ws i
  rw [addS_app, if_neg]
  · simp
  · unfold used
    simp only [wdOf_app, wdOf_one, RF.ws, List.length_append, List.length_replicate, List.length_nil, List.length_singleton, frN_len]
    omega
theorem setN {l : List RF} {n : Nat} {x z : Int} (hn : 0 < n) (a b : Int) : setS (l ++ [⟨a, b, List.replicate n 1, [x]⟩]) ((n - 1 : Nat) : Int) z = (0, l ++ [⟨a, b, slW n z, [x]⟩]) := by
  rw [setS_app, if_neg (by simp only [List.length_replicate]; omega)]
  obtain ⟨k, rfl⟩ : ∃ k, n = k + 1 := ⟨n - 1, by omega⟩
  simp only [Nat.add_sub_cancel, Int.toNat_natCast, slW, Nat.add_one_ne_zero, if_false]
  rw [List.replicate_succ', List.set_append_right _ _ (by simp)]
  simp
theorem slW_zero (z : Int) : slW 0 z = [] := rfl
theorem getN {l : List RF} {n : Nat} {z : Int} (hn : 0 < n) (a b : Int) (ad : List Int) : getS (l ++ [⟨a, b, slW n z, ad⟩]) ((n - 1 : Nat) : Int) = (z, 0) := by
  rw [getS_app, if_neg (by simp only [slW_len]; omega)]
  unfold slW
  rw [if_neg (by omega)]
  simp [List.getD]
theorem takeN {l : List RF} {x : Int} (a b : Int) (s : List Int) : takeS (l ++ [⟨a, b, s, [x]⟩]) = ((x, 0), l ++ [⟨a, b, s, []⟩]) := by
  unfold takeS; simp
set_option maxRecDepth 100000 in
set_option maxHeartbeats 4000000 in
theorem nests_walk {w : World} {A1 A2 : Option Addr} {n1 n2 c1 c2 : Nat} {ls ws : List Int} (h1 : InL .i64 w A1 n1 ls) (h2 : InL .u64 w A2 n2 ws) :
    Calls Try.prog 6 #[.slice A1 n1 c1, .slice A2 n2 c2] w fun e w' => e = .returned (.bool true) ∧ Below w.heap.size w w' := by
  have H1 := Lib.hid h1; have H2 := Lib.hid h2
  clear h1 h2
  by_cases hb : (20 : Int) < (n1 : Int)
  · have d1 := decide_eq_true hb
    have d1' := decide_eq_true (show 20 < n1 by omega)
    go_enter Try.func6, Try.ntmps6
    go_wp2_with fail
    refine (awake_any w).mono ?_; rintro e w1 ⟨rfl, hb1⟩
    have HB := Lib.hid hb1; clear hb1
    go_wp2
    go_ret
    exact ⟨rfl, HB.out⟩
  by_cases hc : (n2 : Int) < (n1 : Int)
  · have d1 := decide_eq_false hb
    have d1' := decide_eq_false (show ¬ 20 < n1 by omega)
    have d2 := decide_eq_true hc
    have d2' := decide_eq_true (show n2 < n1 by omega)
    go_enter Try.func6, Try.ntmps6
    go_wp2_with fail
    refine (awake_any w).mono ?_; rintro e w1 ⟨rfl, hb1⟩
    have HB := Lib.hid hb1; clear hb1
    go_wp2
    go_ret
    exact ⟨rfl, HB.out⟩
  have d1 := decide_eq_false hb
  have d1' := decide_eq_false (show ¬ 20 < n1 by omega)
  have d2 := decide_eq_false hc
  have d2' := decide_eq_false (show ¬ n2 < n1 by omega)
  have hn20 : n1 ≤ 20 := by omega
  have hn12 : n1 ≤ n2 := by omega
  clear hb hc
  go_enter Try.func6, Try.ntmps6
  go_wp2_with fail
  refine (awake_any w).mono ?_; rintro e w1 ⟨rfl, hb1⟩
  have HB := Lib.hid hb1; clear hb1
  go_wp2_with fail
  refine (new_st 4096 (by omega) (by omega)).mono ?_; rintro e w2 ⟨g, rfl, s0⟩
  have s0 : Hid (StN w1 w2 g 4096 (frN ls ws 0)) := s0
  clear d1 d1' d2 d2'
  go_wp2
  go_loopw [7] (fun ix wr => ∃ i : Nat, ix = .int .i64 i ∧ i ≤ n1 ∧ Hid (StN w1 wr g 4096 (frN ls ws i))) (fun ix _ => n1 - (intOf ix).toNat)
  case atStart => exact ⟨0, rfl, by omega, s0⟩
  case round =>
    obtain ⟨i, rfl, hi, s⟩ := hrel
    clear s0
    by_cases hin : i < n1
    · have hin' : (i : Int) < (n1 : Int) := by omega
      have hin2 : (i : Int) < (n2 : Int) := by omega
      obtain ⟨b1, o1, rfl, k1⟩ := H1.out.at (by omega)
      obtain ⟨b2, o2, rfl, k2⟩ := H2.out.at (by omega)
      have K1 := Lib.hid k1; have K2 := Lib.hid k2; clear k1 k2
      have bl : ∀ W, StN w1 W g 4096 (frN ls ws i) → Below w.heap.size w W := fun W h => HB.out.trans (h.small.mono HB.out.size)
      have x1 := K1.out wr i (HB.out.trans (s.out.small.mono HB.out.size)) hin
      have x2 := K2.out wr i (HB.out.trans (s.out.small.mono HB.out.size)) (by omega)
      obtain ⟨x, hx⟩ : ∃ x, x = ls.getD i 0 := ⟨_, rfl⟩
      obtain ⟨y, hy⟩ : ∃ y, y = ws.getD i 0 := ⟨_, rfl⟩
      have HX := Lib.hid hx; have HY := Lib.hid hy
      rw [← hx] at x1; rw [← hy] at x2
      have ad := (i64_and7 x).trans (nn_cast x)
      clear hx hy bl
      have E1 : Hid (pushS 4096 (frN ls ws i) i x (nn x) = (0, frN ls ws i ++ [⟨i, x, List.replicate (nn x) 1, []⟩])) := Lib.hid (by rw [HX.out]; exact pushN (by omega))
      have E2 : Hid (addS 4096 (frN ls ws i ++ [⟨i, x, List.replicate (nn x) 1, []⟩]) y = (0, frN ls ws i ++ [⟨i, x, List.replicate (nn x) 1, [y]⟩])) := Lib.hid (addN (by omega) (nn_le x) _ _)
      have E4 : Hid (frN ls ws (i + 1) = frN ls ws i ++ [⟨i, x, slW (nn x) (IntKind.u64.wrap (y + 1)), [y]⟩]) := Lib.hid (by rw [frN, ← HX.out, ← HY.out])
      have hn7 := nn_le x
      obtain ⟨n, hn⟩ : ∃ n, n = nn x := ⟨_, rfl⟩
      rw [← hn] at ad E1 E2 E4 hn7
      clear hn
      by_cases hn0 : n = 0
      · subst hn0
        have ad : bits BinOp.and IntKind.i64 x 7 = 0 := ad
        go_wp2_with fail
        refine (push_st i x 0 s.out).mono ?_; rintro e w3 ⟨he, s3⟩
        rw [show pushS 4096 (frN ls ws i) i x 0 = _ from E1.out] at he s3
        subst he
        clear s
        have y2 := K2.out w3 i (HB.out.trans (s3.out.small.mono HB.out.size)) (by omega)
        rw [← HY.out] at y2
        go_wp2_with fail
        refine (add_any y s3.out).mono ?_; rintro e w4 ⟨he, s4⟩
        rw [E2.out] at he s4
        subst he
        clear s3
        have S4 : Hid (StN w1 w4 g 4096 (frN ls ws (i + 1))) := Lib.hid (by rw [E4.out]; exact s4.out)
        clear s4
        go_wp2
        go_roundw
        case rel => exact ⟨i + 1, by go_num, hin, S4⟩
        case measure => simp [intOf]; omega
      · obtain ⟨m, hm⟩ : ∃ m : Nat, (n : Int) - 1 = m := ⟨n - 1, by omega⟩
        have E3 : Hid (setS (frN ls ws i ++ [⟨i, x, List.replicate n 1, [y]⟩]) (m : Int) (IntKind.u64.wrap (y + 1)) = (0, frN ls ws i ++ [⟨i, x, slW n (IntKind.u64.wrap (y + 1)), [y]⟩])) := Lib.hid (by
          have := setN (l := frN ls ws i) (n := n) (x := y) (z := IntKind.u64.wrap (y + 1)) (by omega) i x
          rwa [show ((n - 1 : Nat) : Int) = m by omega] at this)
        have hn0' : (0 : Int) < (n : Int) := by omega
        have hn0'' : 0 < n := by omega
        go_wp2_with fail
        refine (push_st i x n s.out).mono ?_; rintro e w3 ⟨he, s3⟩
        rw [E1.out] at he s3
        subst he
        clear s
        have y2 := K2.out w3 i (HB.out.trans (s3.out.small.mono HB.out.size)) (by omega)
        rw [← HY.out] at y2
        go_wp2_with fail
        refine (add_any y s3.out).mono ?_; rintro e w4 ⟨he, s4⟩
        rw [E2.out] at he s4
        subst he
        have z2 := K2.out w4 i (HB.out.trans (s4.out.small.mono HB.out.size)) (by omega)
        rw [← HY.out] at z2
        clear s3
        go_wp2_with fail
        refine (set_any m (IntKind.u64.wrap (y + 1)) s4.out).mono ?_; rintro e w5 ⟨he, s5⟩
        rw [E3.out] at he s5
        subst he
        have S4 : Hid (StN w1 w5 g 4096 (frN ls ws (i + 1))) := Lib.hid (by rw [E4.out]; exact s5.out)
        clear s4 s5
        go_wp2
        go_roundw
        case rel => exact ⟨i + 1, by go_num, hin, S4⟩
        case measure => simp [intOf]; omega
    · obtain rfl : i = n1 := by omega
      have hin' : ¬ (i : Int) < (i : Int) := by omega
      clear hin hi
      go_wp2
      go_loopw [9] (fun ix wr => ∃ (z : Int) (k : Nat), ix = .int .i64 z ∧ z = (k : Int) - 1 ∧ k ≤ i ∧ Hid (StN w1 wr g 4096 (frN ls ws k))) (fun ix _ => (intOf ix + 1).toNat)
      case atStart => exact ⟨_, i, rfl, rfl, by omega, s⟩
      case round =>
        obtain ⟨z, k, rfl, hz, hk, s2⟩ := hrel
        clear s s0
        cases k with
        | zero =>
          obtain rfl : z = -1 := by omega
          clear hz hk
          have s2 : Hid (StN w1 wr g 4096 []) := s2
          go_wp2_with fail
          refine (roots_st s2.out).mono ?_; rintro e w3 ⟨A, c, rfl, own, hb3⟩
          have BB := Lib.hid (HB.out.trans ((s2.out.below hb3.out).small.mono HB.out.size))
          have e0 : (wdOf []).length = 0 := rfl
          rw [e0]
          clear own hb3 s2 e0
          go_wp2
          go_ret
          exact ⟨rfl, BB.out⟩
        | succ j =>
          obtain rfl : z = (j : Int) := by omega
          have hj : j < i := by omega
          clear hz hk
          have hj0 : (0 : Int) ≤ (j : Int) := Int.natCast_nonneg _
          have hji : (j : Int) < (i : Int) := by omega
          have hjn : (j : Int) < (n2 : Int) := by omega
          obtain ⟨b1, o1, rfl, k1⟩ := H1.out.at (by omega)
          obtain ⟨b2, o2, rfl, k2⟩ := H2.out.at (by omega)
          have K1 := Lib.hid k1; have K2 := Lib.hid k2; clear k1 k2
          have x1 := K1.out wr j (HB.out.trans (s2.out.small.mono HB.out.size)) hj
          have x2 := K2.out wr j (HB.out.trans (s2.out.small.mono HB.out.size)) (by omega)
          obtain ⟨x, hx⟩ : ∃ x, x = ls.getD j 0 := ⟨_, rfl⟩
          obtain ⟨y, hy⟩ : ∃ y, y = ws.getD j 0 := ⟨_, rfl⟩
          have HX := Lib.hid hx; have HY := Lib.hid hy
          rw [← hx] at x1; rw [← hy] at x2
          have ad := (i64_and7 x).trans (nn_cast x)
          have s2 : Hid (StN w1 wr g 4096 (frN ls ws j ++ [⟨j, x, slW (nn x) (IntKind.u64.wrap (y + 1)), [y]⟩])) := Lib.hid (by have := s2.out; rwa [frN, ← HX.out, ← HY.out] at this)
          clear hx hy
          have hn7 := nn_le x
          obtain ⟨n, hn⟩ : ∃ n, n = nn x := ⟨_, rfl⟩
          rw [← hn] at ad hn7 s2
          clear hn
          have ER : Hid (takeS (frN ls ws j ++ [⟨j, x, slW n (IntKind.u64.wrap (y + 1)), [y]⟩]) = ((y, 0), frN ls ws j ++ [⟨j, x, slW n (IntKind.u64.wrap (y + 1)), []⟩])) := Lib.hid (takeN _ _ _)
          by_cases hn0 : n = 0
          · subst hn0
            have ad : bits BinOp.and IntKind.i64 x 7 = 0 := ad
            go_wp2_with fail
            refine (take_any s2.out).mono ?_; rintro e w3 ⟨he, s3⟩
            rw [ER.out] at he s3
            subst he
            clear s2
            go_wp2_with fail
            refine (pop_st s3.out).mono ?_; rintro e w4 ⟨rfl, s4⟩
            clear s3
            have y2 := K2.out w4 j (HB.out.trans (s4.out.small.mono HB.out.size)) (by omega)
            have y1 := K1.out w4 j (HB.out.trans (s4.out.small.mono HB.out.size)) hj
            rw [← HY.out] at y2; rw [← HX.out] at y1
            have DD : Hid (Calls Try.prog 17 #[.pointer (some ⟨g, 0, none⟩)] w4 fun e w' => e = .returned (.int .i64 j) ∧ Below w4.heap.size w4 w') := Lib.hid (by have := depth_st s4.out; rwa [frN_len] at this)
            go_wp2_with fail
            refine DD.out.mono ?_; rintro e w5 ⟨rfl, hb5⟩
            have S5 := Lib.hid (s4.out.below hb5)
            clear hb5 s4 DD
            go_wp2
            go_roundw
            case rel => exact ⟨_, j, rfl, rfl, by omega, S5⟩
            case measure => simp [intOf]
          · obtain ⟨m, hm⟩ : ∃ m : Nat, (n : Int) - 1 = m := ⟨n - 1, by omega⟩
            have EG : Hid (getS (frN ls ws j ++ [⟨j, x, slW n (IntKind.u64.wrap (y + 1)), [y]⟩]) (m : Int) = (IntKind.u64.wrap (y + 1), 0)) := Lib.hid (by
              have := getN (l := frN ls ws j) (n := n) (z := IntKind.u64.wrap (y + 1)) (by omega) j x [y]
              rwa [show ((n - 1 : Nat) : Int) = m by omega] at this)
            have hn0' : (0 : Int) < (n : Int) := by omega
            have hn0'' : 0 < n := by omega
            go_wp2_with fail
            refine (get_any m s2.out).mono ?_; rintro e w3 ⟨he, hb3⟩
            rw [EG.out] at he
            subst he
            have s3 := Lib.hid (s2.out.below hb3)
            clear s2 hb3
            have v2 := K2.out w3 j (HB.out.trans (s3.out.small.mono HB.out.size)) (by omega)
            rw [← HY.out] at v2
            go_wp2_with fail
            refine (take_any s3.out).mono ?_; rintro e w4 ⟨he, s4⟩
            rw [ER.out] at he s4
            subst he
            clear s3
            go_wp2_with fail
            refine (pop_st s4.out).mono ?_; rintro e w5 ⟨rfl, s5⟩
            clear s4
            have y2 := K2.out w5 j (HB.out.trans (s5.out.small.mono HB.out.size)) (by omega)
            have y1 := K1.out w5 j (HB.out.trans (s5.out.small.mono HB.out.size)) hj
            rw [← HY.out] at y2; rw [← HX.out] at y1
            have DD : Hid (Calls Try.prog 17 #[.pointer (some ⟨g, 0, none⟩)] w5 fun e w' => e = .returned (.int .i64 j) ∧ Below w5.heap.size w5 w') := Lib.hid (by have := depth_st s5.out; rwa [frN_len] at this)
            go_wp2_with fail
            refine DD.out.mono ?_; rintro e w6 ⟨rfl, hb6⟩
            have S6 := Lib.hid (s5.out.below hb6)
            clear hb6 s5 DD
            go_wp2
            go_roundw
            case rel => exact ⟨_, j, rfl, rfl, by omega, S6⟩
            case measure => simp [intOf]
end Go.Proofs.Ytkecnhogooaccaa
