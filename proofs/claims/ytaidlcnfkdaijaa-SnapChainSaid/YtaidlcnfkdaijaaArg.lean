import Derived.Test.YtaidlcnfkdaijaaSays
import Derived.WalkKit
import Derived.ProofKit
import Derived.OpenShut
import Derived.LaidMore
import Derived.Carry
import Derived.ChangeSlices
import Derived.Lib.SmallJoins
namespace Go.Proofs.Ytaidlcnfkdaijaa
open Go.ChangeShapes Go.WideShapes Go.ChangeAt Go.RowKit
set_option linter.unusedVariables false
theorem cells5 : Try.prog.cellsOf 5 = 1 := by kernel_rfl
/-- an argument of bytes, as it was read. -/
theorem sl_open {H : Type} {enc : TypeId × Value → H} {W : World} {a1 : Option Addr} {n1 c1 fuel : Nat} {base : Nat} {d : DataW H} {p : List MemPlace}
    (hf : DataW.trod enc Try.prog W base (fun _ => true) true fuel 22 [.slice a1 n1 c1] = some (d, p)) : ∃ xs, Sl W a1 n1 c1 xs ∧ ∀ j, xs.getD j 0 < 256 := by
  rcases open_ints Try.underlying22 Try.underlying5 cells5 hf with ⟨hcs, hx⟩ | ⟨a, len', cap', zs, hcs, _, hl, hm, hz, hx, hcell, hwz⟩
  · simp at hcs
    obtain ⟨rfl, rfl, rfl⟩ := hcs
    exact ⟨[], ⟨rfl, Nat.le_refl _, fun h => absurd h (by omega)⟩, fun j => by simp⟩
  · simp at hcs
    obtain ⟨rfl, rfl, rfl⟩ := hcs
    simp only [if_true] at hz
    have hb : ∀ j, j < zs.length → 0 ≤ zs.getD j 0 ∧ zs.getD j 0 < 256 := fun j h => by
      have hm : zs.getD j 0 ∈ zs := by
        rw [List.getD, List.getElem?_eq_getElem h]
        exact List.getElem_mem h
      have := hwz _ hm
      simp only [Lit.wf, Bool.and_eq_true, decide_eq_true_eq] at this
      exact ⟨this.1, Int.lt_of_le_of_lt this.2 (by decide)⟩
    have hg : ∀ j, j < n1 → ((zs.take n1).map Int.toNat).getD j 0 = (zs.getD j 0).toNat := fun j hj => by
      simp [List.getD, hj]
      cases zs[j]? <;> rfl
    refine ⟨(zs.take n1).map Int.toNat, ⟨by rw [List.length_map, List.length_take]; omega, hl, fun hn => ?_⟩, fun j => ?_⟩
    · obtain ⟨b, off, rfl, hc⟩ := ints_at hcell (by omega)
      refine ⟨b, off, rfl, World.block_lt_of_cell? W ⟨b, off + 0, none⟩ (hc 0 (by omega)), fun j hj => ?_⟩
      rw [hc j (by omega), hg j (by omega), Int.toNat_of_nonneg (hb j (by omega)).1]
    · rcases Nat.lt_or_ge j n1 with h | h
      · rw [hg j h]; have := hb j (by omega); omega
      · rw [List.getD, List.getElem?_eq_none (by rw [List.length_map, List.length_take]; omega)]; simp
end Go.Proofs.Ytaidlcnfkdaijaa
