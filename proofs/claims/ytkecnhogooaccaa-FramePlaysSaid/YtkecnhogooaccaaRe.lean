import Derived.Test.YtkecnhogooaccaaRd
namespace Go.Proofs.Ytkecnhogooaccaa
open Go.ChangeShapes Go.WideShapes Go.ChangeAt Go.RowKit
set_option linter.unusedVariables false
set_option maxRecDepth 100000 in
set_option maxHeartbeats 4000000 in
theorem rcut_ok {w : World} {B g room : Nat} {fv : Value} {a b : List RX} {x : RX} (k : Nat) (hk : k ≤ x.f.added.length) (t : RS w B g room fv (a ++ x :: b)) :
    Calls Try.prog 27 #[.pointer (some ⟨g, 0, none⟩), .int .i64 ((a.length + 1 : Nat) : Int), .int .i64 k] w fun e w' => ∃ fv' av, e = .returned (.int .i64 0) ∧ Hid (RS w' B g room fv' (a ++ [⟨{ x.f with added := x.f.added.take k }, x.sv, av⟩])) ∧ Hid (Frm w w' (Own g fv (a ++ x :: b))) ∧ Hid (∀ k', Own g fv' (a ++ [⟨{ x.f with added := x.f.added.take k }, x.sv, av⟩]) k' → Own g fv (a ++ x :: b) k') := by
  have c1 := t.c1
  have f1 := t.fz1 1
  have hlen := t.len.1
  obtain ⟨bf, c, rfl, hc, hcell, hfz⟩ := t.at
  obtain ⟨y0, y1, y2, y3⟩ := hcell w (Below.refl _ _)
  have zf := hfz (a.length * 4 + 3)
  obtain ⟨_, ⟨A2, c2, e2, hc2, hA2⟩, hsm⟩ := RX.rows t
  have hrow := t.ra x (by simp)
  rw [e2] at y3 hrow
  obtain ⟨n, hn⟩ : ∃ n, n = a.length := ⟨_, rfl⟩
  obtain ⟨N, hN⟩ : ∃ N, N = (a ++ x :: b).length := ⟨_, rfl⟩
  have hl : n + 1 ≤ N := by rw [hN, hn]; simp
  obtain ⟨d, hd⟩ : ∃ d : Nat, d = n + 1 := ⟨_, rfl⟩
  have hgb : g ≠ bf := fun e => t.gf (by rw [e]; exact rb_pos (by simp; omega))
  have hbg := Ne.symm hgb
  have KEY : Hid (∀ j, RS (((w.setCell ⟨g, 1, none⟩ (.slice (some ⟨bf, 0, none⟩) d d)).setCell ⟨bf, n * 4 + 3, none⟩ (.slice A2 k k)).drewN j) B g room (.slice (some ⟨bf, 0, none⟩) d d) (a ++ [⟨{ x.f with added := x.f.added.take k }, x.sv, .slice A2 k k⟩]) ∧ Frm w (((w.setCell ⟨g, 1, none⟩ (.slice (some ⟨bf, 0, none⟩) d d)).setCell ⟨bf, n * 4 + 3, none⟩ (.slice A2 k k)).drewN j) (Own g (.slice (some ⟨bf, 0, none⟩) (a ++ x :: b).length c) (a ++ x :: b)) ∧ (∀ k', Own g (.slice (some ⟨bf, 0, none⟩) d d) (a ++ [⟨{ x.f with added := x.f.added.take k }, x.sv, .slice A2 k k⟩]) k' → Own g (.slice (some ⟨bf, 0, none⟩) (a ++ x :: b).length c) (a ++ x :: b) k')) := Lib.hid (fun j => by
    have hf : Frm w (w.setCell ⟨g, 1, none⟩ (.slice (some ⟨bf, 0, none⟩) d d)) (· = g) := frm_set (R := (· = g)) 1 _ rfl
    have t' : RS w B g room (.slice (some ⟨bf, 0, none⟩) (a ++ x :: b).length c) ((a ++ [x]) ++ b) := by simpa using t
    have h1 := RS.pre (n := d) (q := d) (a := a ++ [x]) (b := b) t' (by rw [hd, hn]; simp) (Nat.le_refl _) (fun h => by cases h) hf (obj_set1 _ t.obj)
    have hcut := hrow.cut (p := k) (q := k) hk (Nat.le_refl _) (fun h => by have := hA2 h; omega)
    have e9 : (wds x.f.added).take (k * 1) = wds (x.f.added.take k) := by simp [wds, List.map_take]
    rw [e9] at hcut
    have hcut2 := hcut.frm hf (fun q hq e => t.gz _ (rows_mem (x := x) (by simp)).2 (by
      rw [e2, ← e]
      cases A2 with
      | none => simp [rb] at hq
      | some ad2 => simp only [rb] at hq ⊢; split at hq
                    · rw [if_pos (by omega)]; exact hq
                    · cases hq))
    have hsub : ∀ q, rb (.slice A2 k k) = some q → rb x.av = some q := fun q hq => by
      rw [e2]
      cases A2 with
      | none => simp [rb] at hq
      | some ad2 => simp only [rb] at hq ⊢; split at hq
                    · rw [if_pos (by omega)]; exact hq
                    · cases hq
    have hlk : (x.f.added.take k).length = k := by rw [List.length_take]; omega
    have h2 := RS.putAv (ad := x.f.added.take k) h1.1 (by rw [hlk]; exact hcut2) (fun q hq => .inl (hsub q hq)) (by
      have := t'.fits
      rw [List.map_append, List.map_append, List.map_cons, List.map_nil, used_app, used_snoc] at this
      have e0 : used (([] : List RX).map (·.f)) = 0 := rfl
      rw [e0, hlk]; omega)
    rw [← hn] at h2
    have e3 : Own g (.slice (some ⟨bf, 0, none⟩) (a ++ x :: b).length c) ((a ++ [x]) ++ b) = Own g (.slice (some ⟨bf, 0, none⟩) (a ++ x :: b).length c) (a ++ x :: b) := by simp
    rw [e3] at h1
    refine ⟨h2.1.below (below_drewN _ _), frm_drewN ((hf.mono (fun q _ hq => by rw [hq]; exact .inl rfl)).trans (h2.2.1.mono (fun q _ hq => by rw [hq]; exact .inr (.inl (rb_pos (by simp; omega)))))) j, fun k' hk' => ?_⟩
    rcases h2.2.2 k' hk' with h | h
    · exact h1.2 k' h
    · exact .inr (.inr ⟨_, (rows_mem (x := x) (by simp)).2, hsub k' h⟩))
  rw [← hN] at c1 hlen hc
  rw [← hn] at y3 zf ⊢
  rw [← hd]
  have hd1 : (d : Int) - 1 = (n : Int) := by omega
  obtain ⟨m, hm⟩ : ∃ m, m = x.f.added.length := ⟨_, rfl⟩
  rw [← hm] at y3 hk hc2
  have g1 := decide_eq_false (show ¬ (d : Int) < 0 by omega)
  have g2 := decide_eq_false (show ¬ (N : Int) < (d : Int) by omega)
  have g2' := decide_eq_false (show ¬ N < d by omega)
  have g3 := decide_eq_false (show ¬ (k : Int) < 0 by omega)
  have g4 : ((d : Int) == 0) = false := beq_eq_false_iff_ne.2 (by omega)
  have g4' : (d == 0) = false := beq_eq_false_iff_ne.2 (by omega)
  have g5 := decide_eq_true (show (0 : Int) < (d : Int) by omega)
  have g5' := decide_eq_true (show 0 < d by omega)
  have g6 := decide_eq_false (show ¬ (m : Int) < (k : Int) by omega)
  have g6' := decide_eq_false (show ¬ m < k by omega)
  have hn9 : n ≤ 4096 := by omega
  have hd9 : d ≤ 4097 := by omega
  have hk9 : k ≤ 4097 := by omega
  have hnN : (n : Int) < (N : Int) := by omega
  have hnd : (n : Int) < (d : Int) := by omega
  have hd0 : (0 : Int) ≤ (d : Int) := Int.natCast_nonneg _
  have hk0 : (0 : Int) ≤ (k : Int) := Int.natCast_nonneg _
  have hdc : d ≤ c := by omega
  have hdci : (d : Int) ≤ (c : Int) := by omega
  have hkc : k ≤ c2 := by omega
  have hkci : (k : Int) ≤ (c2 : Int) := by omega
  have hA' : (A2 = none ∧ m = 0 ∧ c2 = 0) ∨ ∃ ad, A2 = some ad := by
    cases A2 with
    | none => left; exact ⟨rfl, by have := hA2 rfl; omega, hA2 rfl⟩
    | some ad => right; exact ⟨ad, rfl⟩
  clear t hcell hN hn hl e2 hc hfz y0 y1 y2 hd hm hrow hA2
  rcases hA' with ⟨rfl, rfl, rfl⟩ | ⟨ad, rfl⟩
  · obtain rfl : k = 0 := by omega
    have z0 : ((0 : Nat) : Int) = 0 := rfl
    simp only [z0] at *
    go_enter Try.func27, Try.ntmps27
    go_wp2
    go_region
    all_goals (
      go_wp2
      go_ret
      exact ⟨_, _, rfl, Lib.hid (KEY.out 1).1, Lib.hid (KEY.out 1).2.1, Lib.hid (KEY.out 1).2.2⟩)
  · go_enter Try.func27, Try.ntmps27
    go_wp2
    go_region
    all_goals (
      go_wp2
      go_ret
      exact ⟨_, _, rfl, Lib.hid (KEY.out 1).1, Lib.hid (KEY.out 1).2.1, Lib.hid (KEY.out 1).2.2⟩)
end Go.Proofs.Ytkecnhogooaccaa
