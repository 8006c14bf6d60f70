import Derived.Test.YtifopogkbjhkjaaDoorSg
import Derived.Sort.OwnSortedInts
namespace Go.Proofs.YtifopogkbjhkjaaDoor
open Go.Sort Go.ChangeShapes Go.WideShapes Go.ChangeAt Go.RowKit Go.WideMaps
set_option linter.unusedVariables false
set_option linter.unusedSimpArgs false
/-- a row of one's own is sorted: it stays one's own, and as long. -/
theorem sort_any {w : World} {B n c : Nat} {A : Option Addr} {l : List Int} (hl : l.length ≤ 100000) (h : w.ownsRow B TI 1 (.slice A n c) n (ivs l)) :
    Calls Tryd.prog 29 #[.slice A n c] w fun e w' => e = .returned (.tuple #[]) ∧ w.grownBy w' (Value.ownBlock (.slice A n c)) ∧ ∃ ts : List Int, ts.length = l.length ∧ w'.ownsRow B TI 1 (.slice A n c) n (ivs ts) := by
  have hn : n = l.length := by have := h.1; rw [ivs_len] at this; omega
  by_cases h0 : n = 0
  · subst h0
    refine (Tryd.slices_Sort_int_none A c w).mono ?_
    rintro e w' ⟨rfl, rfl⟩
    exact ⟨rfl, ⟨rfl, rfl, rfl, Nat.le_refl _, fun _ _ _ => rfl⟩, l, rfl, h⟩
  · rcases h.2 with ⟨q1, q2⟩ | ⟨g, cap, cur, q1, q2, q3, q4, q5, q6, q7⟩
    · exact absurd q2 h0
    · injection q1 with q1 _ q1c
      subst q1 q1c
      have hh := holds_of_blockI (ss := l) q3 (by rw [Nat.mul_one, hn] at q7; exact q7)
      have hS := Tryd.slices_Sort_int g 0 c l w hh (Array.getElem?_eq_some_iff.1 q3).1 (by omega)
      rw [← hn] at hS
      refine hS.mono ?_
      rintro e w' ⟨rfl, m, os, rfl⟩
      refine ⟨rfl, grownBy_sortedI _, l.mergeSort fun x y => decide (x ≤ y), by simp, ?_⟩
      have := ownsRow_sortedI (w := w) (n := m) (os := os) (ss := l) (ts := l.mergeSort fun x y => decide (x ≤ y)) (by simp) q2 q3 (by omega) q5 q6
      rw [← hn] at this
      exact this
set_option maxRecDepth 100000 in
set_option maxHeartbeats 2000000 in
theorem sshow_any {V : TT} {Al A : Option Addr} {m ca c : Nat} {w : World} (hbg : bigT 7 V = false) (hsh : shp V = true) (h : TRow w any0 A V.args) :
    Calls Tryd.prog 20 #[scv Al m ca V A c] w fun e w' => e = .returned (.string (showT V)) ∧ Below w.heap.size w w' := by
  have CS := Lib.hid (fun W (hW : Below w.heap.size w W) => show_any hbg hsh (tv_in (c := c) h hW))
  obtain ⟨T, hT⟩ : ∃ T, T = showT V := ⟨_, rfl⟩
  rw [← hT] at CS ⊢
  unfold tv at CS
  unfold scv
  have HB := Lib.hid (below_alloc w (.cells #[.slice Al m ca, .int .i64 V.k, .string V.nm, .int .i64 V.vr, .slice A V.args.length c] SchT))
  clear hbg hsh h hT
  go_enter Tryd.func20, Tryd.ntmps20
  go_wp2_with fail
  refine (CS.out _ HB.out).mono ?_; rintro e w1 ⟨rfl, b1⟩
  have B1 := Lib.hid (bt HB.out b1)
  clear b1
  go_wp2
  go_ret
  exact ⟨rfl, B1.out⟩
end Go.Proofs.YtifopogkbjhkjaaDoor
