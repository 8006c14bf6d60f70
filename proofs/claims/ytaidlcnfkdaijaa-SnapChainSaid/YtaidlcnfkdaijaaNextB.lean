import Derived.Test.YtaidlcnfkdaijaaSum
namespace Go.Proofs.Ytaidlcnfkdaijaa
open Go.ChangeShapes Go.WideShapes Go.ChangeAt Go.RowKit
set_option linter.unusedVariables false
/-- the next piece, and what is behind it. -/
def nextS (old : List Nat) : List Nat → Option (List Nat × List Nat)
  | [] => none
  | k :: t =>
    if k = 1 then
      if (numS t).1 < 0 then none else
      if (numS (t.drop (numS t).2)).1 < 1 then none else
      if (old.length : Int) < (numS t).1 then none else
      if (old.length : Int) - (numS t).1 < (numS (t.drop (numS t).2)).1 then none else
      some ((old.drop (numS t).1.toNat).take (numS (t.drop (numS t).2)).1.toNat, (t.drop (numS t).2).drop (numS (t.drop (numS t).2)).2)
    else if k = 2 then
      if (numS t).1 < 1 then none else
      if ((t.drop (numS t).2).length : Int) < (numS t).1 then none else
      some ((t.drop (numS t).2).take (numS t).1.toNat, (t.drop (numS t).2).drop (numS t).1.toNat)
    else none
theorem numS_in (b : List Nat) : -1 ≤ (numS b).1 ∧ (numS b).1 ≤ 4611686018427387904 ∧ (numS b).2 ≤ b.length := by
  have h1 := resG_in b (b.length + 1) 0
  have h2 := resG_len b (b.length + 1) 0
  unfold numS
  split
  · exact ⟨by simp, by simp, by simp⟩
  · exact ⟨by simp only; omega, by simp only; omega, by simp only; omega⟩
/-- only block g may have turned. -/
theorem only_refl (w : World) (g : Nat) : w.grownBy w (some g) := World.grownBy.refl w _
theorem only_drewN {w w' : World} {g : Nat} (h : w.grownBy w' (some g)) (n : Nat) : w.grownBy (w'.drewN n) (some g) := ⟨h.os, h.tape, h.output, h.size, h.block⟩
theorem only_set {w w' : World} {g : Nat} (h : w.grownBy w' (some g)) (i : Nat) (v : Value) : w.grownBy (w'.setCell ⟨g, i, none⟩ v) (some g) :=
  ⟨h.os, h.tape, h.output, by simpa [World.setCell] using h.size, fun k hk hne => (Below.heap_setCell w' ⟨g, i, none⟩ v k (fun e => hne (by rw [e]))).trans (h.block k hk hne)⟩
/-- the reader's object. -/
def RObj (w : World) (g : Nat) (ov bv : Value) : Prop := w.heap[g]? = some (.cells #[ov, bv] 36 (0, 0))
theorem RObj.c0 {w : World} {g : Nat} {ov bv : Value} (h : RObj w g ov bv) : w.cell? ⟨g, 0, none⟩ = some ov := by unfold RObj at h; simp [World.cell?, h]
theorem RObj.c1 {w : World} {g : Nat} {ov bv : Value} (h : RObj w g ov bv) : w.cell? ⟨g, 1, none⟩ = some bv := by unfold RObj at h; simp [World.cell?, h]
theorem RObj.f {w : World} {g : Nat} {ov bv : Value} (h : RObj w g ov bv) (i : Nat) : w.frozen? ⟨g, i, none⟩ = false := by unfold RObj at h; simp [World.frozen?, h]
theorem RObj.set {w : World} {g : Nat} {ov bv : Value} (h : RObj w g ov bv) (v : Value) : RObj (w.setCell ⟨g, 1, none⟩ v) g ov v := by unfold RObj at h ⊢; simp [World.setCell, Array.getElem?_modify, h]
theorem RObj.drewN {w : World} {g : Nat} {ov bv : Value} (h : RObj w g ov bv) (n : Nat) : RObj (w.drewN n) g ov bv := h
theorem RObj.lt {w : World} {g : Nat} {ov bv : Value} (h : RObj w g ov bv) : g < w.heap.size := by
  unfold RObj at h
  rcases Nat.lt_or_ge g w.heap.size with h1 | h1
  · exact h1
  · rw [Array.getElem?_eq_none h1] at h; cases h
/-- what a number leaves: the reader with the rest, or as it was. -/
theorem num_r {w : World} {g h o n cap : Nat} {ov : Value} {b : List Nat} (r : RObj w g ov (.slice (some ⟨h, o, none⟩) n cap)) (hg : h ≠ g) (hn : b.length = n) (hb : ∀ j, j < b.length → w.cell? ⟨h, o + j, none⟩ = some (.int .u8 (b.getD j 0 : Nat))) (hl : n ≤ 1000000) (hcap : n ≤ cap) :
    Calls Try.prog 20 #[.pointer (some ⟨g, 0, none⟩)] w fun e w' => e = .returned (.int .i64 (numS b).1) ∧ ∃ o' n' cap', RObj w' g ov (.slice (some ⟨h, o', none⟩) n' cap') ∧ n' ≤ cap' ∧ n' ≤ n ∧ w.grownBy w' (some g) ∧
      ((numS b).1 ≠ -1 → n' = n - (numS b).2 ∧ ∀ j, j < (b.drop (numS b).2).length → w'.cell? ⟨h, o' + j, none⟩ = some (.int .u8 ((b.drop (numS b).2).getD j 0 : Nat))) ∧ ((numS b).1 = -1 → n' = n ∧ o' = o ∧ w' = w) := by
  have hi := (numS_in b).2.2
  refine (number_any r hn hb hl hcap).mono fun e w' ⟨he, hc⟩ => ⟨he, ?_⟩
  rcases hc with ⟨h1, rfl⟩ | ⟨h1, o', ho, rfl⟩
  · exact ⟨o, n, cap, r, hcap, Nat.le_refl _, only_refl _ _, fun h => absurd h1 h, fun _ => ⟨rfl, rfl, rfl⟩⟩
  · refine ⟨o', _, _, r.set _, by omega, by omega, only_set (only_refl _ _) _ _, fun _ => ⟨rfl, fun j hj => ?_⟩, fun h => absurd h h1⟩
    rw [List.length_drop] at hj
    rw [World.cell?_setCell_other _ _ _ _ (by intro e; injection e with e; exact hg e.symm), ho (by omega)]
    have := hb ((numS b).2 + j) (by omega)
    rw [show o + ((numS b).2 + j) = o + (numS b).2 + j by omega] at this
    rw [this]; simp [List.getD]
end Go.Proofs.Ytaidlcnfkdaijaa
