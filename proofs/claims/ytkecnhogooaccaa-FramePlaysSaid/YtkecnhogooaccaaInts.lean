import Derived.Test.YtkecnhogooaccaaRenew
import Derived.Test.YtkecnhogooaccaaCuts
import Derived.Test.YtkecnhogooaccaaCallw
namespace Go.Proofs.Ytkecnhogooaccaa
open Go.ChangeShapes Go.WideShapes Go.ChangeAt Go.RowKit
set_option linter.unusedVariables false
set_option maxRecDepth 100000 in
set_option maxHeartbeats 2000000 in
theorem ints_len {w : World} {A1 A2 : Option Addr} {n1 n2 c1 c2 : Nat} (hn : n1 ≠ n2) :
    Calls Try.prog 18 #[.slice A1 n1 c1, .slice A2 n2 c2] w fun e w' => e = .returned (.bool false) ∧ Below w.heap.size w w' := by
  have d : ((n1 : Int) == (n2 : Int)) = false := beq_eq_false_iff_ne.2 (by omega)
  have d' : (n1 == n2) = false := beq_eq_false_iff_ne.2 hn
  clear hn
  go_enter Try.func18, Try.ntmps18
  go_wp2
  go_ret
  exact ⟨rfl, Below.refl _ _⟩
set_option maxRecDepth 100000 in
set_option maxHeartbeats 2000000 in
theorem ints_any {w : World} {A1 A2 : Option Addr} {n1 n2 c1 c2 : Nat} {xs ys : List Int} (h1 : InL .i64 w A1 n1 xs) (h2 : InL .i64 w A2 n2 ys) (hm : n1 ≤ 1000000) :
    Calls Try.prog 18 #[.slice A1 n1 c1, .slice A2 n2 c2] w fun e w' => e = .returned (.bool (sameB xs ys)) ∧ Below w.heap.size w w' := by
  by_cases hn : n1 ≠ n2
  · rw [sameB_len (by rw [h1.1, h2.1]; exact hn)]; exact ints_len hn
  obtain rfl : n1 = n2 := by omega
  clear hn
  have H1 := Lib.hid h1; have H2 := Lib.hid h2
  clear h1 h2
  go_enter Try.func18, Try.ntmps18
  go_wp2
  go_loopw [5] (fun ix wr => ∃ (i q : Nat), ix = .int .i64 i ∧ i ≤ n1 ∧ wr = w.drewN q ∧ Hid (∀ j, j < i → xs.getD j 0 = ys.getD j 0)) (fun ix _ => n1 - (intOf ix).toNat)
  case atStart => exact ⟨0, 0, rfl, by omega, rfl, Lib.hid (fun j hj => by omega)⟩
  case round =>
    obtain ⟨i, q, rfl, hi, rfl, al⟩ := hrel
    by_cases hin : i < n1
    · have hin' : (i : Int) < (n1 : Int) := by omega
      obtain ⟨b1, o1, rfl, k1⟩ := H1.out.at (by omega)
      obtain ⟨b2, o2, rfl, k2⟩ := H2.out.at (by omega)
      have x1 := k1 w i (Below.refl _ _) hin
      have x2 := k2 w i (Below.refl _ _) hin
      obtain ⟨x, hx⟩ : ∃ x, x = xs.getD i 0 := ⟨_, rfl⟩
      obtain ⟨y, hy⟩ : ∃ y, y = ys.getD i 0 := ⟨_, rfl⟩
      have HX := Lib.hid hx; have HY := Lib.hid hy
      rw [← hx] at x1; rw [← hy] at x2
      clear k1 k2 hx hy
      by_cases he : x = y
      · have AL : Hid (∀ j, j < i + 1 → xs.getD j 0 = ys.getD j 0) := Lib.hid (fun j hj => by
          by_cases hji : j = i
          · rw [hji, ← HX.out, ← HY.out]; exact he
          · exact al.out j (by omega))
        subst he
        clear al
        go_wp2
        go_quiet (fail)
        go_wp2
        go_roundw
        case rel => exact ⟨i + 1, _, by go_num, hin, by first | rfl | (rw [World.drewN_drewN]), AL⟩
        case measure => simp [intOf]; omega
      · have d : (x == y) = false := beq_eq_false_iff_ne.2 he
        have d2 : (x != y) = true := by simp [bne, d]
        have FB : Hid (sameB xs ys = false) := Lib.hid (sameB_at (by rw [← HX.out, ← HY.out]; exact he))
        clear he al
        go_wp2
        go_quiet (fail)
        go_wp2
        go_ret
        exact ⟨by rw [FB.out]; rfl, by first | exact below_drewN _ _ | exact bt (below_drewN w q) (below_drewN _ _)⟩
    · obtain rfl : i = n1 := by omega
      have hin' : ¬ (i : Int) < (i : Int) := by omega
      have FB := Lib.hid (sameB_all (H1.out.1.trans H2.out.1.symm) (fun j hj => al.out j (by rw [H1.out.1] at hj; exact hj)))
      clear hin al
      go_wp2
      go_ret
      exact ⟨by rw [FB.out]; rfl, by first | exact below_drewN _ _ | exact bt (below_drewN w q) (below_drewN _ _)⟩
end Go.Proofs.Ytkecnhogooaccaa
