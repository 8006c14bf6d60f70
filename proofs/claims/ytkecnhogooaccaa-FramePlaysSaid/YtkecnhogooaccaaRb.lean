import Derived.Test.YtkecnhogooaccaaRa
namespace Go.Proofs.Ytkecnhogooaccaa
open Go.ChangeShapes Go.WideShapes Go.ChangeAt Go.RowKit
set_option linter.unusedVariables false
set_option maxRecDepth 100000 in
set_option maxHeartbeats 2000000 in
theorem rset_fail {w : World} {g : Nat} {i c x v : Int} (hc : (c == 0) = false) (gt : Calls Try.prog 30 #[.pointer (some ⟨g, 0, none⟩), .int .i64 i] w fun e w' => e = .returned (.tuple #[.int .u64 v, .int .i64 c]) ∧ Below w.heap.size w w') :
    Calls Try.prog 23 #[.pointer (some ⟨g, 0, none⟩), .int .i64 i, .int .u64 x] w fun e w' => e = .returned (.int .i64 c) ∧ Below w.heap.size w w' := by
  have PL := Lib.hid gt
  clear gt
  go_enter Try.func23, Try.ntmps23
  go_wp2_with fail
  refine PL.out.mono ?_; rintro e w1 ⟨rfl, hb1⟩
  have HB := Lib.hid hb1
  clear hb1
  go_wp2
  go_ret
  exact ⟨rfl, HB.out⟩
set_option maxRecDepth 100000 in
set_option maxHeartbeats 4000000 in
theorem rset_ok {w : World} {B g room : Nat} {fv : Value} {a : List RX} {x : RX} (u : Int) (k : Nat) (hk : k < x.f.slots.length) (t : RS w B g room fv (a ++ [x])) :
    Calls Try.prog 23 #[.pointer (some ⟨g, 0, none⟩), .int .i64 k, .int .u64 u] w fun e w' => e = .returned (.int .i64 0) ∧ Hid (RS w' B g room fv (a ++ [⟨{ x.f with slots := x.f.slots.set k u }, x.sv, x.av⟩])) ∧ Hid (Frm w w' (Own g fv (a ++ [x]))) ∧ Hid (∀ k', Own g fv (a ++ [⟨{ x.f with slots := x.f.slots.set k u }, x.sv, x.av⟩]) k' → Own g fv (a ++ [x]) k') := by
  have GT := Lib.hid (rget_some k t)
  have hg : getS ((a ++ [x]).map (·.f)) k = (x.f.slots.getD k 0, 0) := by
    rw [List.map_append, List.map_cons, List.map_nil, getS_app, if_neg (by omega), Int.toNat_natCast]
  rw [hg] at GT
  have T := Lib.hid t
  obtain ⟨bf, c, rfl, hc, _, _⟩ := t.at
  obtain ⟨⟨A2, c2, e2, hc2, _⟩, _, hsm⟩ := RX.rows t
  have hrow := t.rs x (by simp)
  rw [e2] at hrow
  obtain ⟨n, hn⟩ : ∃ n, n = a.length := ⟨_, rfl⟩
  obtain ⟨N, hN⟩ : ∃ N, N = (a ++ [x]).length := ⟨_, rfl⟩
  rw [← hN] at hc
  have hl : N = n + 1 := by rw [hN, hn]; simp
  have hN1 : (N : Int) - 1 = (n : Int) := by omega
  have hn9 : n ≤ 4096 := by have := t.len.1; rw [← hN] at this; omega
  have hnN : (n : Int) < (N : Int) := by omega
  obtain ⟨m, hm⟩ : ∃ m, m = x.f.slots.length := ⟨_, rfl⟩
  obtain ⟨b2, rfl, _, _, _, _⟩ := hrow.at (by omega)
  have hk' : (k : Int) < (m : Int) := by omega
  have hkm : k < m := by omega
  have hk9 : k ≤ 4096 := by omega
  have E2 := Lib.hid e2
  have HK := Lib.hid hk
  have HM := Lib.hid hm
  have HN := Lib.hid hN
  have Hn := Lib.hid hn
  clear t hrow hN hn hl e2 hm hc hg hk
  go_enter Try.func23, Try.ntmps23
  go_wp2_with fail
  refine GT.out.mono ?_; rintro e w1 ⟨rfl, hb1⟩
  have T1 := Lib.hid (T.out.below hb1)
  have c1 := T1.out.c1
  have hcell := T1.out.at
  obtain ⟨bf', c', e', _, hcl, _⟩ := hcell
  injection e' with e1 _ e3
  injection e1 with e1
  injection e1 with e1
  subst e1 e3
  obtain ⟨_, _, y2, _⟩ := hcl w1 (Below.refl _ _)
  have hrow := T1.out.rs x (by simp)
  rw [E2.out, ← HM.out] at hrow
  obtain ⟨b2', e9, _, _, hc9, hfz⟩ := hrow.at (by omega)
  injection e9 with e9; injection e9 with e9
  subst e9
  have z := hc9 k _ (wds_at x.f.slots k HK.out)
  have zf := hfz k
  rw [E2.out, ← HM.out, ← Hn.out] at y2
  rw [← HN.out] at c1
  obtain ⟨V, hV⟩ : ∃ V, V = x.f.slots.getD k 0 := ⟨_, rfl⟩
  rw [← hV] at z
  have HB1 := Lib.hid hb1
  have KEY : Hid (∀ j, RS ((w1.setCell ⟨b2, k, none⟩ (.int .u64 u)).drewN j) B g room (.slice (some ⟨bf, 0, none⟩) (a ++ [x]).length c) (a ++ [⟨{ x.f with slots := x.f.slots.set k u }, x.sv, x.av⟩]) ∧ Frm w ((w1.setCell ⟨b2, k, none⟩ (.int .u64 u)).drewN j) (Own g (.slice (some ⟨bf, 0, none⟩) (a ++ [x]).length c) (a ++ [x])) ∧ (∀ k', Own g (.slice (some ⟨bf, 0, none⟩) (a ++ [x]).length c) (a ++ [⟨{ x.f with slots := x.f.slots.set k u }, x.sv, x.av⟩]) k' → Own g (.slice (some ⟨bf, 0, none⟩) (a ++ [x]).length c) (a ++ [x]) k')) := Lib.hid (fun j => by
    have h := T1.out.setSlot E2.out k HK.out u
    exact ⟨h.1.below (below_drewN _ _), frm_drewN ((Frm.of_below HB1.out (Nat.le_refl _) _).trans (h.2.1.mono (fun q _ hq => hq ▸ h.2.2.1))) j, h.2.2.2⟩)
  clear hcl hrow hc9 hfz hb1 hV
  go_wp2
  go_region
  all_goals (
    go_wp2
    go_ret
    exact ⟨rfl, Lib.hid (KEY.out 1).1, Lib.hid (KEY.out 1).2.1, Lib.hid (KEY.out 0).2.2⟩)
end Go.Proofs.Ytkecnhogooaccaa
