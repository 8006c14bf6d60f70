import Derived.Test.YtclilpabdcdeoaaDoorWk
import Derived.BigRegion
namespace Go.Proofs.YtclilpabdcdeoaaDoor
open Go.ChangeShapes Go.WideShapes Go.ChangeAt Go.RowKit
set_option linter.unusedVariables false
set_option maxRecDepth 100000 in
set_option maxHeartbeats 4000000 in
theorem next_any {w : World} {g b bm : Nat} {q : Option Addr} {lf sp S : Int} (hw : WkAt w g (some ⟨b, 0, none⟩) (some ⟨bm, 0, none⟩) lf sp) (hup : w.cell? ⟨b, 8, none⟩ = some (.pointer q)) (hq : q = none ∨ ∃ b', q = some ⟨b', 0, none⟩ ∧ b' < bm ∧ b' ≠ g ∧ IsCells w b') (hbg : b ≠ g) (hbm : bm ≠ g) (hcm : IsCells w bm)
    (h1 : 1 ≤ lf) (h2 : lf ≤ S) (h3 : 1 ≤ sp) (h4 : sp ≤ S) (h5 : S ≤ 4194304) :
    Calls Tryd.prog 29 #[.pointer (some ⟨g, 0, none⟩)] w fun e w' => e = .returned (.tuple #[]) ∧ Hid (Only g w w') ∧ Hid (∃ pm' lf' sp', WkAt w' g q pm' lf' sp' ∧ 1 ≤ lf' ∧ lf' ≤ 2 * S ∧ 1 ≤ sp' ∧ sp' ≤ 2 * S ∧ (∀ b', q = some ⟨b', 0, none⟩ → ∃ bm', pm' = some ⟨bm', 0, none⟩ ∧ b' ≤ bm' ∧ (bm' = bm ∨ bm' = b'))) := by
  have c0 := hw.c0; have c1 := hw.c1; have c2 := hw.c2; have c3 := hw.c3
  have f0 := hw.f 0; have f1 := hw.f 1; have f2 := hw.f 2; have f3 := hw.f 3
  have HW := Lib.hid hw
  have hgb := Ne.symm hbg
  have FIN1 : Hid (∀ W3 : World, W3.heap = ((w.setCell ⟨g, 0, none⟩ (.pointer q)).setCell ⟨g, 2, none⟩ (.int .i64 (lf - 1))).heap → W3.os = w.os → W3.tape = w.tape → W3.output = w.output → 2 ≤ lf → Only g w W3 ∧ ∃ pm' lf' sp', WkAt W3 g q pm' lf' sp' ∧ 1 ≤ lf' ∧ lf' ≤ 2 * S ∧ 1 ≤ sp' ∧ sp' ≤ 2 * S ∧ (∀ b', q = some ⟨b', 0, none⟩ → ∃ bm', pm' = some ⟨bm', 0, none⟩ ∧ b' ≤ bm' ∧ (bm' = bm ∨ bm' = b'))) := Lib.hid (fun W3 e e1 e2 e3 hl => by
    refine ⟨((only_set g 0 (.pointer q) w).trans (only_set g 2 (.int .i64 (lf - 1)) _)).heap e e1 e2 e3, some ⟨bm, 0, none⟩, lf - 1, sp, ?_, by omega, by omega, h3, by omega, fun b' hb' => ⟨bm, rfl, ?_, .inl rfl⟩⟩
    · have := (HW.out.set0 q).set2 (lf - 1)
      unfold WkAt at this ⊢; rw [e]; exact this
    · rcases hq with h | ⟨b2, h, hlt, _⟩
      · rw [h] at hb'; cases hb'
      · rw [h] at hb'; injection hb' with hb'; injection hb' with hb'; omega)
  have FIN2 : Hid (∀ W3 : World, W3.heap = (((((w.setCell ⟨g, 0, none⟩ (.pointer q)).setCell ⟨g, 2, none⟩ (.int .i64 (lf - 1))).setCell ⟨g, 3, none⟩ (.int .i64 (sp * 2))).setCell ⟨g, 1, none⟩ (.pointer q)).setCell ⟨g, 2, none⟩ (.int .i64 (sp * 2))).heap → W3.os = w.os → W3.tape = w.tape → W3.output = w.output → Only g w W3 ∧ ∃ pm' lf' sp', WkAt W3 g q pm' lf' sp' ∧ 1 ≤ lf' ∧ lf' ≤ 2 * S ∧ 1 ≤ sp' ∧ sp' ≤ 2 * S ∧ (∀ b', q = some ⟨b', 0, none⟩ → ∃ bm', pm' = some ⟨bm', 0, none⟩ ∧ b' ≤ bm' ∧ (bm' = bm ∨ bm' = b'))) := Lib.hid (fun W3 e e1 e2 e3 => by
    refine ⟨(((((only_set g 0 (.pointer q) w).trans (only_set g 2 (.int .i64 (lf - 1)) _)).trans (only_set g 3 (.int .i64 (sp * 2)) _)).trans (only_set g 1 (.pointer q) _)).trans (only_set g 2 (.int .i64 (sp * 2)) _)).heap e e1 e2 e3, q, sp * 2, sp * 2, ?_, by omega, by omega, by omega, by omega, fun b' hb' => ⟨b', hb', Nat.le_refl _, .inr rfl⟩⟩
    have := ((((HW.out.set0 q).set2 (lf - 1)).set3 (sp * 2)).set1 q).set2 (sp * 2)
    unfold WkAt at this ⊢; rw [e]; exact this)
  have EQ : ∀ nq, (binOp .eql 24 (.pointer q) (.pointer (some ⟨bm, 0, none⟩))).run Tryd.prog ((w.setCell ⟨g, 0, none⟩ (.pointer q)).drewN nq) = .ok (.bool false) ((w.setCell ⟨g, 0, none⟩ (.pointer q)).drewN nq) := fun nq => by
    rcases hq with rfl | ⟨b', rfl, hlt, hbg', cb, tb, hb'⟩
    · exact eql_nil _ _
    · obtain ⟨cm, tm, hm⟩ := hcm
      have k1 := (only_set g 0 (.pointer (some ⟨b', 0, none⟩)) w).block b' hbg'
      have k2 := (only_set g 0 (.pointer (some ⟨b', 0, none⟩)) w).block bm hbm
      exact eql_other (by omega) (k1.trans hb') (k2.trans hm)
  clear hw hcm
  have e2 : (sp * 2 : Int) = sp * 2 := rfl
  have hq0 : q = q := rfl
  clear hq e2 hq0
  by_cases hl : lf = 1
  · subst hl
    clear FIN1
    go_enter Tryd.func29, Tryd.ntmps29
    go_wp2
    go_quiet (fail)
    go_wp2
    go_region
    all_goals (
      go_wp2
      go_end0
      refine ⟨rfl, Lib.hid (And.left (FIN2.out _ ?_ ?_ ?_ ?_)), Lib.hid (And.right (FIN2.out _ ?_ ?_ ?_ ?_))⟩ <;> rfl)
  · have hl2 : 2 ≤ lf := by omega
    have ne : (lf - 1 == 0) = false := beq_eq_false_iff_ne.2 (by omega)
    clear FIN2
    go_enter Tryd.func29, Tryd.ntmps29
    go_wp2
    go_quiet (fail)
    go_wp2
    go_end0
    refine ⟨rfl, Lib.hid (And.left (FIN1.out _ ?_ ?_ ?_ ?_ hl2)), Lib.hid (And.right (FIN1.out _ ?_ ?_ ?_ ?_ hl2))⟩ <;> rfl
end Go.Proofs.YtclilpabdcdeoaaDoor
