import Derived.Test.YtdnakmbfkpjaeaaDoorNew
namespace Go.Proofs.YtdnakmbfkpjaeaaDoor
open Go.ChangeShapes Go.WideShapes Go.ChangeAt Go.RowKit
set_option linter.unusedVariables false
theorem Tp.set2 {w : World} {B g : Nat} {iv ov : Value} {inp out : List Int} {rd : Nat} (t : Tp w B g iv ov inp out rd) (k : Nat) (hk : k ≤ inp.length) : Tp (w.setCell ⟨g, 2, none⟩ (.int .i64 k)) B g iv ov inp out k :=
  ⟨t.obj.set2 k, own_frm t.rin (frm_set (R := (· = g)) 2 _ rfl) (fun k h e => t.ni (e ▸ h)), own_frm t.rout (frm_set (R := (· = g)) 2 _ rfl) (fun k h e => t.no (e ▸ h)), t.ni, t.no, t.ne, t.le, hk⟩
theorem Tp.drewN {w : World} {B g : Nat} {iv ov : Value} {inp out : List Int} {rd : Nat} (t : Tp w B g iv ov inp out rd) (k : Nat) : Tp (w.drewN k) B g iv ov inp out rd := t.below (below_drewN w k)
set_option maxRecDepth 100000 in
set_option maxHeartbeats 2000000 in
theorem read_any {w : World} {B g : Nat} {iv ov : Value} {inp out : List Int} {rd : Nat} (t : Tp w B g iv ov inp out rd) (hl : inp.length ≤ 1000) :
    Calls Tryd.prog 7 #[.pointer (some ⟨g, 0, none⟩)] w fun e w' => ∃ rd', e = .returned (.tuple #[.int .i64 (inp.getD rd 0), .bool (decide (rd < inp.length))]) ∧ rd' = min (rd + 1) inp.length ∧ Hid (Tp w' B g iv ov inp out rd') ∧ Hid (Frm w w' (· = g)) := by
  have c0 := t.obj.c0; have c2 := t.obj.c2; have f2 := t.obj.f 2
  have T := Lib.hid t
  have hrd := t.rd
  by_cases hlt : rd < inp.length
  · have d1 : ((rd : Int) == (inp.length : Int)) = false := beq_eq_false_iff_ne.2 (by omega)
    obtain ⟨gi, ci, rfl⟩ := Go.Joins.ownsRow_form t.rin (by omega)
    have x : w.cell? ⟨gi, rd, none⟩ = some (.int .i64 (inp.getD rd 0)) := by
      rw [t.rin.cellAt rd (by omega), its_at inp rd hlt]
    have hgi : gi ≠ g := fun e => t.ni (by rw [← e]; rfl)
    obtain ⟨n, hn⟩ : ∃ n, n = inp.length := ⟨_, rfl⟩
    obtain ⟨P, hP⟩ : ∃ P : Nat, (rd : Int) + 1 = P := ⟨rd + 1, by omega⟩
    have hPm : (P : Int) - 1 = (rd : Int) := by omega
    have ts := t.set2 P (by omega)
    have y0 := ts.obj.c0; have y2 := ts.obj.c2
    have y : (w.setCell ⟨g, 2, none⟩ (.int .i64 P)).cell? ⟨gi, rd, none⟩ = some (.int .i64 (inp.getD rd 0)) := by
      rw [World.cell?_setCell_other _ _ _ _ (by intro e; injection e with e; exact hgi e.symm)]; exact x
    have TS := Lib.hid ts
    have MIN : Hid (P = min (rd + 1) inp.length) := Lib.hid (by omega)
    have hD : Hid (decide (rd < inp.length) = true) := Lib.hid (decide_eq_true hlt)
    rw [hD.out]
    obtain ⟨r, hr⟩ : ∃ r, r = inp.getD rd 0 := ⟨_, rfl⟩
    rw [← hr] at x y ⊢
    have hn0 : (0 : Int) ≤ (rd : Int) := Int.natCast_nonneg _
    have hnl : (rd : Int) < (inp.length : Int) := by omega
    clear t ts hr hn
    go_enter Tryd.func7, Tryd.ntmps7
    go_wp2
    go_quiet (fail)
    go_wp2
    go_quiet (fail)
    go_wp2
    go_returns
    exact ⟨P, rfl, MIN.out, Lib.hid (TS.out.below ⟨rfl, rfl, rfl, Nat.le_refl _, fun _ _ => rfl⟩), Lib.hid ⟨rfl, rfl, rfl, by simp [World.setCell], fun j hj hr => (frm_set (w := w) (R := (· = g)) 2 (.int .i64 P) rfl).block j hj hr⟩⟩
  · have d1 : ((rd : Int) == (inp.length : Int)) = true := beq_iff_eq.2 (by omega)
    obtain ⟨A, c, rfl⟩ := iform t.rin
    have hD : Hid (decide (rd < inp.length) = false) := Lib.hid (decide_eq_false hlt)
    have hG : Hid (inp.getD rd 0 = 0) := Lib.hid (by rw [List.getD, List.getElem?_eq_none (by omega)]; rfl)
    have MIN : Hid (rd = min (rd + 1) inp.length) := Lib.hid (by omega)
    rw [hD.out, hG.out]
    clear t hlt
    go_enter Tryd.func7, Tryd.ntmps7
    go_wp2
    go_quiet (fail)
    go_wp2
    go_returns
    exact ⟨rd, rfl, MIN.out, Lib.hid (T.out.drewN _), Lib.hid (Frm.of_below (below_drewN _ _) (Nat.le_refl _) _)⟩
end Go.Proofs.YtdnakmbfkpjaeaaDoor
