import Derived.Test.YtkecnhogooaccaaAdd
namespace Go.Proofs.Ytkecnhogooaccaa
open Go.ChangeShapes Go.WideShapes Go.ChangeAt Go.RowKit
set_option linter.unusedVariables false
/-- the first cells of a row of one's own. -/
theorem own_cut {w : World} {B n p s c : Nat} {e : TypeId} {g : Nat} {xs : List Value} (h : w.ownsRow B e s (.slice (some ⟨g, 0, none⟩) n c) n xs) (hp : p ≤ n) : w.ownsRow B e s (.slice (some ⟨g, 0, none⟩) p c) p (xs.take (p * s)) := by
  have hl := h.1
  rcases h.2 with ⟨e, _⟩ | ⟨q, cap, cur, e, hb, hg, hc, hm, hs, ht⟩
  · cases e
  · injection e with e1 e2 e3
    injection e1 with e1
    injection e1 with e1
    subst e1 e3
    have hpn : p * s ≤ n * s := Nat.mul_le_mul_right s hp
    refine ⟨by rw [List.length_take]; omega, .inr ⟨g, c, cur, rfl, hb, hg, by omega, hm, hs, ?_⟩⟩
    have := congrArg (List.take (p * s)) ht
    rw [List.take_take, Nat.min_eq_left hpn] at this
    exact this
set_option maxRecDepth 100000 in
set_option maxHeartbeats 2000000 in
theorem take_ok {w : World} {B g room : Nat} {fv wv : Value} {fr : List Fm} {f : Fm} {ws : List Int} (x : Int) (t : Sk w B g room fv wv (fr ++ [f]) (ws ++ [x])) (hr : f.base + f.slots ≤ ws.length) :
    Calls Try.prog 25 #[.pointer (some ⟨g, 0, none⟩)] w fun e w' => ∃ wv', e = .returned (.tuple #[.int .u64 x, .int .i64 0]) ∧ Hid (Sk w' B g room fv wv' (fr ++ [f]) ws) ∧ Hid (Frm w w' (· = g)) ∧ Hid (wv'.ownBlock = wv.ownBlock) := by
  have T := Lib.hid t
  have AD : Hid (∀ W, Below w.heap.size w W → Calls Try.prog 32 #[.pointer (some ⟨g, 0, none⟩)] W fun e w' => ∃ F : Nat, e = .returned (.int .i64 (F : Int)) ∧ F ≠ 0 ∧ Below W.heap.size W w') := Lib.hid (fun W hW => (added_any (t.below hW)).mono (fun e w' ⟨he, hb⟩ => ⟨_, he, by simp; omega, hb⟩))
  obtain ⟨gw, cw, rfl⟩ := Go.Joins.ownsRow_form t.rw_ (by simp)
  obtain ⟨n, hn⟩ : ∃ n, n = ws.length := ⟨_, rfl⟩
  obtain ⟨N, hN⟩ : ∃ N, N = (ws ++ [x]).length := ⟨_, rfl⟩
  have hNn : N = n + 1 := by rw [hN, hn]; simp
  have hN1 : (N : Int) - 1 = (n : Int) := by omega
  have hnN : n ≤ N := by omega
  have hnNi : (n : Int) < (N : Int) := by omega
  have hn0 : (0 : Int) ≤ (n : Int) := Int.natCast_nonneg _
  have HN := Lib.hid hN; have HNn := Lib.hid hNn; have Hn := Lib.hid hn; have HR := Lib.hid hr
  have hNs : N ≤ 4096 := by have := t.fits; have := t.small; omega
  have hcw : N ≤ cw := by
    rcases t.rw_.2 with ⟨e, _⟩ | ⟨q, cap, cur, e, _, _, hc, _⟩
    · cases e
    · injection e with e1 e2 e3; omega
  have hnc : n ≤ cw := by omega
  clear t hn hN hr hNn
  go_enter Try.func25, Try.ntmps25
  go_wp2_with fail
  refine (AD.out _ (Below.refl _ _)).mono ?_; rintro e w1 ⟨F, rfl, hF, hb1⟩
  have d1 : ((F : Int) == 0) = false := beq_eq_false_iff_ne.2 (by omega)
  have d1' : (F == 0) = false := beq_eq_false_iff_ne.2 hF
  have T1 := T.out.below hb1
  have c2 := T1.obj.c2; have f2 := T1.obj.f 2
  rw [← HN.out] at c2
  have y : w1.cell? ⟨gw, n, none⟩ = some (.int .u64 x) := by
    rw [T1.rw_.cellAt n (by rw [← HN.out]; have := HNn.out; omega), wds_at _ n (by rw [← HN.out]; have := HNn.out; omega), Hn.out]
    simp [List.getD]
  have SK : Hid (Sk (w1.setCell ⟨g, 2, none⟩ (.slice (some ⟨gw, 0, none⟩) n cw)) B g room fv (.slice (some ⟨gw, 0, none⟩) n cw) (fr ++ [f]) ws) := Lib.hid (by
    have hcut := own_cut (p := n) (show w1.ownsRow B 30 1 (.slice (some ⟨gw, 0, none⟩) N cw) N (wds (ws ++ [x])) by rw [HN.out]; exact T1.rw_) hnN
    have hw : (wds (ws ++ [x])).take (n * 1) = wds ws := by rw [wds_app, Nat.mul_one, List.take_left' (by rw [wds_len]; exact Hn.out.symm)]
    rw [hw] at hcut
    refine ⟨T1.obj.set2 _, own_frm T1.rf (frm_set (R := (· = g)) 2 _ rfl) (fun k h e => T1.nf (e ▸ h)), ?_, T1.nf, T1.nw, T1.ne, T1.le, ?_, ?_, T1.small⟩
    · have := own_frm hcut (frm_set (w := w1) (g := g) (R := (· = g)) 2 (.slice (some ⟨gw, 0, none⟩) n cw) rfl) (fun k h e => T1.nw (e ▸ h))
      rwa [Hn.out] at this ⊢
    · have hg := T1.good
      rw [List.reverse_append] at hg ⊢
      exact ⟨HR.out, hg.2⟩
    · have := T1.fits; simp at this ⊢; omega)
  have FR : Hid (Frm w (w1.setCell ⟨g, 2, none⟩ (.slice (some ⟨gw, 0, none⟩) n cw)) (· = g)) := Lib.hid ((Frm.of_below hb1 (Nat.le_refl _) _).trans (frm_set 2 _ rfl))
  clear T1 hb1 hF
  go_wp2
  go_returns
  exact ⟨_, rfl, SK, FR, Lib.hid rfl⟩
set_option maxRecDepth 100000 in
set_option maxHeartbeats 2000000 in
theorem get_ok {w : World} {B g room : Nat} {fv wv : Value} {fr : List Fm} {f : Fm} {ws : List Int} {i : Nat} (t : Sk w B g room fv wv (fr ++ [f]) ws) (hi : i < f.slots) :
    Calls Try.prog 12 #[.pointer (some ⟨g, 0, none⟩), .int .i64 i] w fun e w' => e = .returned (.tuple #[.int .u64 (ws.getD (f.base + i) 0), .int .i64 0]) ∧ Below w.heap.size w w' := by
  have T := Lib.hid t
  have hg := t.good
  rw [List.reverse_append] at hg
  have hb : f.base + f.slots ≤ ws.length := hg.1
  have hs : ws.length ≤ 4096 := by have := t.fits; have := t.small; omega
  have PL := Lib.hid (place_ok t hi)
  obtain ⟨gw, cw, rfl⟩ := Go.Joins.ownsRow_form t.rw_ (by omega)
  obtain ⟨P, hP⟩ : ∃ P, P = f.base + i := ⟨_, rfl⟩
  rw [← hP] at PL ⊢
  have hPl : P < ws.length := by omega
  have hPli : (P : Int) < (ws.length : Int) := by omega
  have hP0 : (0 : Int) ≤ (P : Int) := Int.natCast_nonneg _
  obtain ⟨v, hv⟩ : ∃ v, v = ws.getD P 0 := ⟨_, rfl⟩
  rw [← hv]
  have HV := Lib.hid hv
  clear t hg hP hv
  go_enter Try.func12, Try.ntmps12
  go_wp2_with fail
  refine PL.out.mono ?_; rintro e w1 ⟨rfl, hb1⟩
  have T1 := T.out.below hb1
  have c2 := T1.obj.c2
  have y : w1.cell? ⟨gw, P, none⟩ = some (.int .u64 v) := by rw [HV.out]; exact (T1.rw_.cellAt P (by omega)).trans (wds_at _ P hPl)
  have HB := Lib.hid hb1
  clear T1 hb1
  go_wp2
  go_returns
  exact ⟨rfl, HB.out⟩
end Go.Proofs.Ytkecnhogooaccaa
