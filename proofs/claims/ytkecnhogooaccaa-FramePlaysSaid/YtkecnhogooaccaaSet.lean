import Derived.Test.YtkecnhogooaccaaTake
namespace Go.Proofs.Ytkecnhogooaccaa
open Go.ChangeShapes Go.WideShapes Go.ChangeAt Go.RowKit
set_option linter.unusedVariables false
theorem wds_set (xs : List Int) (p : Nat) (z : Int) : (wds xs).set p (.int .u64 z) = wds (xs.set p z) := by simp [wds, List.map_set]
set_option maxRecDepth 100000 in
set_option maxHeartbeats 2000000 in
theorem num_any (n : Int) (w : World) (h0 : 0 ≤ n) (h1 : n < 4611686018427387904) : Calls Try.prog 11 #[.int .i64 0] w fun e w' => e = .returned (.int .u64 1) ∧ w = w' := by
  have b1 : bits BinOp.or IntKind.u64 0 1 = 1 := by decide +kernel
  go_enter Try.func11, Try.ntmps11
  go_wp2
  go_ret
  exact ⟨rfl, rfl⟩
set_option maxRecDepth 100000 in
set_option maxHeartbeats 2000000 in
theorem set_ok {w : World} {B g room : Nat} {fv wv : Value} {fr : List Fm} {f : Fm} {ws : List Int} {i : Nat} (x : Int) (t : Sk w B g room fv wv (fr ++ [f]) ws) (hi : i < f.slots) :
    Calls Try.prog 13 #[.pointer (some ⟨g, 0, none⟩), .int .i64 i, .int .u64 x] w fun e w' => e = .returned (.int .i64 0) ∧ Hid (Sk w' B g room fv wv (fr ++ [f]) (ws.set (f.base + i) x)) ∧ Hid (Frm w w' (MineW g wv)) := by
  have T := Lib.hid t
  have hg := t.good
  rw [List.reverse_append] at hg
  have hb : f.base + f.slots ≤ ws.length := hg.1
  have hs : ws.length ≤ 4096 := by have := t.fits; have := t.small; omega
  have PL := Lib.hid (place_ok t hi)
  obtain ⟨gw, cw, rfl⟩ := Go.Joins.ownsRow_form t.rw_ (by omega)
  obtain ⟨P, hP⟩ : ∃ P, P = f.base + i := ⟨_, rfl⟩
  rw [← hP] at PL ⊢
  have hPl : P < ws.length := by omega
  have hPli : (P : Int) < (ws.length : Int) := by omega
  have hP0 : (0 : Int) ≤ (P : Int) := Int.natCast_nonneg _
  clear t hg hP
  go_enter Try.func13, Try.ntmps13
  go_wp2_with fail
  refine PL.out.mono ?_; rintro e w1 ⟨rfl, hb1⟩
  have T1 := T.out.below hb1
  have c2 := T1.obj.c2
  have y : w1.cell? ⟨gw, P, none⟩ = some (.int .u64 (ws.getD P 0)) := (T1.rw_.cellAt P (by omega)).trans (wds_at _ P hPl)
  have fz := T1.rw_.frozenAt P
  have SK : Hid (Sk (w1.setCell ⟨gw, P, none⟩ (.int .u64 x)) B g room fv (.slice (some ⟨gw, 0, none⟩) ws.length cw) (fr ++ [f]) (ws.set P x)) := Lib.hid (by
    have h := (T1.rw_.stored P (.int .u64 x)).1
    rw [wds_set] at h
    have f0 := frm_set (w := w1) (g := gw) (R := (· = gw)) P (.int .u64 x) rfl
    refine ⟨(f0.block g T1.obj.lt (fun e => T1.nw (by rw [e]; rfl))).trans T1.obj, own_frm T1.rf f0 (fun k h e => T1.ne k h (by rw [e]; rfl)), by rw [List.length_set]; exact h, T1.nf, T1.nw, T1.ne, T1.le, by rw [List.length_set]; exact T1.good, by rw [List.length_set]; exact T1.fits, T1.small⟩)
  have FR : Hid (Frm w (w1.setCell ⟨gw, P, none⟩ (.int .u64 x)) (MineW g (.slice (some ⟨gw, 0, none⟩) ws.length cw))) := Lib.hid ((Frm.of_below hb1 (Nat.le_refl _) _).trans (frm_set P _ (.inr rfl)))
  clear T1 hb1
  obtain ⟨v, hv⟩ : ∃ v, v = ws.getD P 0 := ⟨_, rfl⟩
  rw [← hv] at y
  clear hv
  go_wp2
  go_ret
  exact ⟨rfl, SK, FR⟩
end Go.Proofs.Ytkecnhogooaccaa
