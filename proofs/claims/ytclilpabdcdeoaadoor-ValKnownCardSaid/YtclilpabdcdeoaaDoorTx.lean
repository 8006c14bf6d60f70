import Derived.Test.YtclilpabdcdeoaaDoorSm
import Derived.Test.YtclilpabdcdeoaaDoorFk
import Derived.Test.YtclilpabdcdeoaaDoorOps
namespace Go.Proofs.YtclilpabdcdeoaaDoor
open Go.ChangeShapes Go.WideShapes Go.ChangeAt Go.RowKit
set_option linter.unusedVariables false
theorem TxRow.at {w : World} {A : Option Addr} {l : List ByteArray} (h : TxRow w A l) (hn : 0 < l.length) : ∃ b o, A = some ⟨b, o, none⟩ ∧ ∀ i (h : i < l.length), w.cell? ⟨b, o + i, none⟩ = some (.string l[i]) := by
  rcases h with h | ⟨b, o, e, _, hc⟩
  · omega
  · exact ⟨b, o, e, hc⟩
set_option maxRecDepth 100000 in
set_option maxHeartbeats 4000000 in
theorem texts_same {w : World} {A B : Option Addr} {c c2 : Nat} {l : List ByteArray} (hA : TxRow w A l) (hB : TxRow w B l) (hl : l.length ≤ 1000000) :
    Calls Tryd.prog 12 #[.slice A l.length c, .slice B l.length c2] w fun e w' => e = .returned (.bool true) ∧ Below w.heap.size w w' := by
  have HA := Lib.hid hA
  have HB := Lib.hid hB
  have dl : ((l.length : Int) != (l.length : Int)) = false := by simp
  have dl2 : (l.length != l.length) = false := by simp
  clear hA hB
  go_enter Tryd.func12, Tryd.ntmps12
  go_wp2
  go_loopw [5] (fun i wr => ∃ k : Nat, k ≤ l.length ∧ i = .int .i64 k ∧ Hid (Below w.heap.size w wr)) (fun i _ => l.length - (intOf i).toNat)
  case atStart => exact ⟨0, by omega, rfl, Lib.hid (Below.refl _ _)⟩
  case round =>
    obtain ⟨k, hk, rfl, HBL⟩ := hrel
    by_cases hlt : k < l.length
    · obtain ⟨ab, ao, rfl, ha⟩ := HA.out.at (by omega)
      obtain ⟨bb, bo, rfl, hb⟩ := HB.out.at (by omega)
      obtain ⟨x, hx⟩ : ∃ x, x = l[k] := ⟨_, rfl⟩
      have x1 := (HBL.out.cell (p := ⟨ab, ao + k, none⟩) (World.block_lt_of_cell? w _ (ha k hlt))).trans (ha k hlt)
      have x2 := (HBL.out.cell (p := ⟨bb, bo + k, none⟩) (World.block_lt_of_cell? w _ (hb k hlt))).trans (hb k hlt)
      rw [← hx] at x1 x2
      have d : (x.toList != x.toList) = false := by simp
      have hli : (k : Int) < (l.length : Int) := by omega
      clear ha hb hx
      go_wp2
      go_quiet (fail)
      have HB2 := Lib.hid (HBL.out.trans (bN nq w.heap.size wr))
      go_wp2
      go_roundw
      case rel => exact ⟨k + 1, by omega, by go_num, HB2⟩
      case measure => simp [intOf]; omega
    · have hge : ¬ (k : Int) < (l.length : Int) := by omega
      go_wp2
      go_ret
      exact ⟨rfl, HBL.out⟩
end Go.Proofs.YtclilpabdcdeoaaDoor
