import Derived.Test.YtkecnhogooaccaaRb
namespace Go.Proofs.Ytkecnhogooaccaa
open Go.ChangeShapes Go.WideShapes Go.ChangeAt Go.RowKit
set_option linter.unusedVariables false
set_option maxRecDepth 100000 in
set_option maxHeartbeats 2000000 in
theorem rtake_none {w : World} {B g room : Nat} {fv : Value} (t : RS w B g room fv []) :
    Calls Try.prog 26 #[.pointer (some ⟨g, 0, none⟩)] w fun e w' => e = .returned (.tuple #[.int .u64 0, .int .i64 4]) ∧ Below w.heap.size w w' := by
  have c1 := t.c1
  obtain ⟨A, c, rfl, _, _⟩ := t.shape
  have e0 : ([] : List RX).length = 0 := rfl
  rw [e0] at c1
  clear t
  go_enter Try.func26, Try.ntmps26
  go_wp2
  go_returns
  exact ⟨rfl, Below.refl _ _⟩
set_option maxRecDepth 100000 in
set_option maxHeartbeats 2000000 in
theorem rtake_empty {w : World} {B g room : Nat} {fv : Value} {a : List RX} {x : RX} (h0 : x.f.added = []) (t : RS w B g room fv (a ++ [x])) :
    Calls Try.prog 26 #[.pointer (some ⟨g, 0, none⟩)] w fun e w' => e = .returned (.tuple #[.int .u64 0, .int .i64 4]) ∧ Below w.heap.size w w' := by
  have c1 := t.c1
  obtain ⟨bf, c, rfl, hc, hcell, _⟩ := t.at
  obtain ⟨y0, y1, y2, y3⟩ := hcell w (Below.refl _ _)
  obtain ⟨_, ⟨A2, c2, e2, hc2, _⟩, _⟩ := RX.rows t
  rw [e2, h0] at y3
  obtain ⟨n, hn⟩ : ∃ n, n = a.length := ⟨_, rfl⟩
  obtain ⟨N, hN⟩ : ∃ N, N = (a ++ [x]).length := ⟨_, rfl⟩
  rw [← hN] at c1
  rw [← hn] at y3
  have hl : N = n + 1 := by rw [hN, hn]; simp
  have hN1 : (N : Int) - 1 = (n : Int) := by omega
  have hN0 : ((N : Int) == 0) = false := beq_eq_false_iff_ne.2 (by omega)
  have hN0' : (N == 0) = false := beq_eq_false_iff_ne.2 (by omega)
  have hn9 : n ≤ 4096 := by have := t.len.1; rw [← hN] at this; omega
  have hnN : (n : Int) < (N : Int) := by omega
  have y3' : w.cell? ⟨bf, n * 4 + 3, none⟩ = some (.slice A2 0 c2) := y3
  clear t hcell hN hn hl e2 hc y0 y1 y2 y3 h0
  go_enter Try.func26, Try.ntmps26
  go_wp2
  go_returns
  exact ⟨rfl, Below.refl _ _⟩
set_option maxRecDepth 100000 in
set_option maxHeartbeats 4000000 in
theorem rtake_ok {w : World} {B g room : Nat} {fv : Value} {a : List RX} {x : RX} {ad : List Int} {v : Int} (had : x.f.added = ad ++ [v]) (t : RS w B g room fv (a ++ [x])) :
    Calls Try.prog 26 #[.pointer (some ⟨g, 0, none⟩)] w fun e w' => ∃ av, e = .returned (.tuple #[.int .u64 v, .int .i64 0]) ∧ Hid (RS w' B g room fv (a ++ [⟨{ x.f with added := ad }, x.sv, av⟩])) ∧ Hid (Frm w w' (Own g fv (a ++ [x]))) ∧ Hid (∀ k', Own g fv (a ++ [⟨{ x.f with added := ad }, x.sv, av⟩]) k' → Own g fv (a ++ [x]) k') := by
  have c1 := t.c1
  have T := Lib.hid t
  obtain ⟨bf, c, rfl, hc, hcell, hfz⟩ := t.at
  obtain ⟨y0, y1, y2, y3⟩ := hcell w (Below.refl _ _)
  have zf := hfz (a.length * 4 + 3)
  obtain ⟨_, ⟨A2, c2, e2, hc2, _⟩, hsm⟩ := RX.rows t
  have hrow := t.ra x (by simp)
  rw [e2] at hrow y3
  obtain ⟨n, hn⟩ : ∃ n, n = a.length := ⟨_, rfl⟩
  obtain ⟨N, hN⟩ : ∃ N, N = (a ++ [x]).length := ⟨_, rfl⟩
  rw [← hN] at c1
  rw [← hn] at y3 zf
  have hl : N = n + 1 := by rw [hN, hn]; simp
  have hN1 : (N : Int) - 1 = (n : Int) := by omega
  have hN0 : ((N : Int) == 0) = false := beq_eq_false_iff_ne.2 (by omega)
  have hN0' : (N == 0) = false := beq_eq_false_iff_ne.2 (by omega)
  have hn9 : n ≤ 4096 := by have := t.len.1; rw [← hN] at this; omega
  have hnN : (n : Int) < (N : Int) := by omega
  obtain ⟨M, hM⟩ : ∃ M, M = x.f.added.length := ⟨_, rfl⟩
  obtain ⟨m, hm⟩ : ∃ m, m = ad.length := ⟨_, rfl⟩
  have hMm : M = m + 1 := by rw [hM, had, hm]; simp
  obtain ⟨b2, rfl, hBb, _, hc9, _⟩ := hrow.at (by omega)
  rw [← hM] at y3 hc2
  have z := hc9 m _ (wds_at x.f.added m (by omega))
  have hv : x.f.added.getD m 0 = v := by rw [had, hm]; simp [List.getD]
  rw [hv] at z
  have hM1 : (M : Int) - 1 = (m : Int) := by omega
  have hM0 : ((M : Int) == 0) = false := beq_eq_false_iff_ne.2 (by omega)
  have hM0' : (M == 0) = false := beq_eq_false_iff_ne.2 (by omega)
  have hm9 : m ≤ 4096 := by omega
  have hmM : (m : Int) < (M : Int) := by omega
  have hm0 : (0 : Int) ≤ (m : Int) := Int.natCast_nonneg _
  have hmc : m ≤ c2 := by omega
  have hmci : (m : Int) ≤ (c2 : Int) := by omega
  have hrb : rb x.av = some b2 := by rw [e2]; exact rb_pos (by omega)
  have hne : b2 ≠ bf := fun e => t.fz _ (rows_mem (x := x) (by simp)).2 b2 hrb (by rw [e]; exact rb_pos (by simp))
  have hne2 : bf ≠ b2 := Ne.symm hne
  have KEY : Hid (∀ j, RS ((w.setCell ⟨bf, n * 4 + 3, none⟩ (.slice (some ⟨b2, 0, none⟩) m m)).drewN j) B g room (.slice (some ⟨bf, 0, none⟩) (a ++ [x]).length c) (a ++ [⟨{ x.f with added := ad }, x.sv, .slice (some ⟨b2, 0, none⟩) m m⟩]) ∧ Frm w ((w.setCell ⟨bf, n * 4 + 3, none⟩ (.slice (some ⟨b2, 0, none⟩) m m)).drewN j) (Own g (.slice (some ⟨bf, 0, none⟩) (a ++ [x]).length c) (a ++ [x])) ∧ (∀ k', Own g (.slice (some ⟨bf, 0, none⟩) (a ++ [x]).length c) (a ++ [⟨{ x.f with added := ad }, x.sv, .slice (some ⟨b2, 0, none⟩) m m⟩]) k' → Own g (.slice (some ⟨bf, 0, none⟩) (a ++ [x]).length c) (a ++ [x]) k')) := Lib.hid (fun j => by
    have hcut := hrow.cut (p := m) (q := m) (by omega) (Nat.le_refl _) (fun h => by cases h)
    have e9 : (wds x.f.added).take (m * 1) = wds ad := by rw [had, wds_app, Nat.mul_one, List.take_left' (by rw [wds_len, hm])]
    rw [e9] at hcut
    have hsub : ∀ k, rb (.slice (some ⟨b2, 0, none⟩) m m) = some k → rb x.av = some k := fun k hk => by
      rw [hrb]
      simp only [rb] at hk
      split at hk
      · exact hk
      · cases hk
    have h := T.out.putAv (ad := ad) (by rw [← hm]; exact hcut) (fun k hk => .inl (hsub k hk)) (by
      have := T.out.fits
      rw [List.map_append, List.map_cons, List.map_nil, used_snoc] at this
      have e0 : used (([] : List RX).map (·.f)) = 0 := rfl
      rw [e0]; omega)
    rw [← hn] at h
    refine ⟨h.1.below (below_drewN _ _), frm_drewN (h.2.1.mono (fun q _ hq => by rw [hq]; exact .inr (.inl (rb_pos (by simp))))) j, fun k' hk' => ?_⟩
    rcases h.2.2 k' hk' with h | h
    · exact h
    · exact .inr (.inr ⟨_, (rows_mem (x := x) (by simp)).2, hsub k' h⟩))
  have KEY0 := Lib.hid (KEY.out 0)
  clear t hcell hN hn hl e2 hc hfz hc9 hrow had hM hm hMm hrb y0 y1 y2 hv hBb
  go_enter Try.func26, Try.ntmps26
  go_wp2
  go_region
  all_goals (
    go_wp2
    go_returns
    exact ⟨_, rfl, Lib.hid (KEY.out 1).1, Lib.hid (KEY.out 1).2.1, Lib.hid (KEY.out 1).2.2⟩)
end Go.Proofs.Ytkecnhogooaccaa
