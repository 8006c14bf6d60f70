import Derived.Test.YtdnakmbfkpjaeaaDoorAgainW
import Derived.Test.YtdnakmbfkpjaeaaDoorRows
import Derived.WalkKit
import Derived.ProofKit
import Derived.OpenShut
import Derived.LaidMore
import Derived.Carry
import Derived.ChangeSlices
import Derived.Lib.LaidTab
import Derived.Stop.LaidErr
namespace Go.Proofs.YtdnakmbfkpjaeaaDoor
open Go.ChangeShapes Go.WideShapes Go.ChangeAt Go.RowKit
set_option linter.unusedVariables false
theorem laidOut : laidOutB Tryd.prog = true := by kernel_rfl
theorem cells2 : Tryd.prog.cellsOf 2 = 1 := by kernel_rfl
theorem cells45 : Tryd.prog.cellsOf 45 = 1 := by kernel_rfl
theorem cells57 : Tryd.prog.cellsOf 57 = 20 := by kernel_rfl
theorem gPow : Tryd.prog.globalNamed "internal/strconv.uint64pow10" = some 0 := by kernel_rfl
theorem gPowT : (Tryd.prog.globals[0]?).map (·.type) = some 57 := by kernel_rfl
theorem pow_eq : (Rows.laid_internal_strconv_uint64pow10 : DataW Unit) = Lib.tabData .u64 Lib.pow10Tab := by kernel_rfl
theorem htab_of {a b : String × DataW Unit} {W : World} (h : laidMet Tryd.prog [a, b, ("internal/strconv.uint64pow10", Rows.laid_internal_strconv_uint64pow10)] W) : HTab W := by
  rw [pow_eq] at h
  have ht := Lib.tabIs_of_head gPow gPowT Tryd.underlying57 Tryd.underlying45 cells45 cells57 (laidMet.tail (laidMet.tail h))
  intro W' hW
  exact Lib.tabBelow_of_tabIs (Go.Joins.tab_stays gPow ht hW (Nat.le_refl _))
/-- an argument of whole numbers, as it was read. -/
theorem sli_open {H : Type} {enc : TypeId × Value → H} {W : World} {a1 : Option Addr} {n1 c1 fuel : Nat} {base : Nat} {d : DataW H} {p : List MemPlace}
    (hf : DataW.trod enc Tryd.prog W base (fun _ => true) true fuel 22 [.slice a1 n1 c1] = some (d, p)) : ∃ xs, SlI W a1 n1 c1 xs ∧ ∀ j, -9223372036854775808 ≤ xs.getD j 0 ∧ xs.getD j 0 ≤ 9223372036854775807 := by
  rcases open_ints Tryd.underlying22 Tryd.underlying2 cells2 hf with ⟨hcs, hx⟩ | ⟨a, len', cap', zs, hcs, _, hl, hm, hz, hx, hcell, hwz⟩
  · simp at hcs
    obtain ⟨rfl, rfl, rfl⟩ := hcs
    exact ⟨[], ⟨rfl, Nat.le_refl _, fun _ => rfl, fun h => absurd h (by omega)⟩, fun j => by simp⟩
  · simp at hcs
    obtain ⟨rfl, rfl, rfl⟩ := hcs
    simp only [if_true] at hz
    have hrng : ∀ j, -9223372036854775808 ≤ (zs.take n1).getD j 0 ∧ (zs.take n1).getD j 0 ≤ 9223372036854775807 := fun j => by
      rcases Nat.lt_or_ge j (zs.take n1).length with h | h
      · have hm : (zs.take n1).getD j 0 ∈ zs := by
          rw [List.getD, List.getElem?_eq_getElem h]
          exact List.mem_of_mem_take (List.getElem_mem h)
        have := hwz _ hm
        simp only [Lit.wf, Bool.and_eq_true, decide_eq_true_eq] at this
        exact this
      · rw [List.getD, List.getElem?_eq_none h]; simp
    refine ⟨zs.take n1, ⟨by rw [List.length_take]; omega, hl, fun e => (by cases e), fun hn => ?_⟩, hrng⟩
    obtain ⟨b, off, rfl, hc⟩ := ints_at hcell (by omega)
    refine ⟨b, off, rfl, World.block_lt_of_cell? W ⟨b, off + 0, none⟩ (hc 0 (by omega)), fun j hj => ?_⟩
    rw [hc j (by omega)]
    simp [List.getD, hj]
end Go.Proofs.YtdnakmbfkpjaeaaDoor
