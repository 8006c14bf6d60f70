/- A call of the program whose answer is found by running it. -/
import Derived.Test.YtmikicanjmiigaaGreatDoorKb
namespace Go.Proofs.YtmikicanjmiigaaGreatDoor
open Go
set_option linter.unusedVariables false
theorem knownV0 : OvOk Tryz.prog (cxV Tryz.prog 10 tabs .nil (Tr.nil.put 5 (some [q0, q1])) (bwT bwL)) := fun f l h => by
  change (Tr.nil.put 5 (some [q0, q1])).get f = some l at h
  rw [Tr.get_put] at h
  split at h
  · rename_i e; subst e; cases h
    exact List.forall_mem_cons.2 ⟨kV0, List.forall_mem_cons.2 ⟨kV1, fun _ h => by cases h⟩⟩
  · cases h
theorem kAwake : OrcOk Tryz.prog 10 tabs 4 [] (.bool true) :=
  known_callV names mixed 10 tabs tabsGood .nil _ (bwT bwL) bwGood (fun f l h => by cases h) knownV0 20000 4 _ _ (by kernel_rfl) (by kernel_rfl) (by kernel_rfl)
end Go.Proofs.YtmikicanjmiigaaGreatDoor
