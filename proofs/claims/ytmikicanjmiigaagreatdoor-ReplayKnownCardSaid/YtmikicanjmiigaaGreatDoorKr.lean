/- The law's own run. -/
import Derived.Test.YtmikicanjmiigaaGreatDoorKb
import Derived.Test.YtmikicanjmiigaaGreatDoorKc
namespace Go.Proofs.YtmikicanjmiigaaGreatDoor
open Go
set_option linter.unusedVariables false
theorem knownV1 : OvOk Tryz.prog (cxV Tryz.prog 10 tabs (orcT [(4, [([], .bool true)])]) (Tr.nil.put 5 (some [q0, q1])) (bwT bwL)) := fun f l h => by
  change (Tr.nil.put 5 (some [q0, q1])).get f = some l at h
  rw [Tr.get_put] at h
  split at h
  · rename_i e; subst e; cases h
    exact List.forall_mem_cons.2 ⟨kV0, List.forall_mem_cons.2 ⟨kV1, fun _ h => by cases h⟩⟩
  · cases h
theorem knownO1 : OrOk Tryz.prog (cxV Tryz.prog 10 tabs (orcT [(4, [([], .bool true)])]) (Tr.nil.put 5 (some [q0, q1])) (bwT bwL)) := fun f l h =>
  orcT_ok (P := Tryz.prog) 10 tabs (l := [(4, [([], .bool true)])]) (List.forall_mem_cons.2 ⟨List.forall_mem_cons.2 ⟨kAwake, fun _ h => by cases h⟩, fun _ h => by cases h⟩) f l h
theorem runAll : OrcOk Tryz.prog 10 tabs 3 [] (.bool true) :=
  known_callV names mixed 10 tabs tabsGood _ _ (bwT bwL) bwGood knownO1 knownV1 20000 3 _ _ (by kernel_rfl) (by kernel_rfl) (by kernel_rfl)
end Go.Proofs.YtmikicanjmiigaaGreatDoor
