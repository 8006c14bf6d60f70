/- The calls together; the tables of the run. -/
import Derived.Test.YtjlpmhgngcfkcaaGreatDoorKc
import Derived.Test.YtjlpmhgngcfkcaaGreatDoorKd
import Derived.Test.YtjlpmhgngcfkcaaGreatDoorKe
import Derived.Test.YtjlpmhgngcfkcaaGreatDoorKf
namespace Go.Proofs.YtjlpmhgngcfkcaaGreatDoor
open Go
set_option linter.unusedVariables false
noncomputable section
def orv1 : Tr (List VO) := Tr.nil.put 5 (some [q0, q1, q2, q3])
theorem knownV (orc : Tr (List (List Value × Value))) : OvOk Tryz.prog (cxV Tryz.prog 11 tabs orc orv1 (bwT bwL)) := fun f l h => by
  change (Tr.nil.put 5 (some [q0, q1, q2, q3])).get f = some l at h
  rw [Tr.get_put] at h
  split at h
  · rename_i e; subst e; cases h
    exact List.forall_mem_cons.2 ⟨kV0, List.forall_mem_cons.2 ⟨kV1, List.forall_mem_cons.2 ⟨kV2, List.forall_mem_cons.2 ⟨kV3, fun _ h => by cases h⟩⟩⟩⟩
  · cases h
theorem kAwake : OrcOk Tryz.prog 11 tabs 4 [] (.bool true) :=
  known_callV names mixed 11 tabs tabsGood .nil orv1 (bwT bwL) bwGood (fun f l h => by cases h) (knownV .nil) 20000 4 _ _ (by kernel_rfl) (by kernel_rfl) (by kernel_rfl)
def orc1 : Tr (List (List Value × Value)) := orcT [(4, [([], .bool true)])]
theorem knownO : OrOk Tryz.prog (cxV Tryz.prog 11 tabs orc1 orv1 (bwT bwL)) := fun f l h =>
  orcT_ok (P := Tryz.prog) 11 tabs (l := [(4, [([], .bool true)])]) (List.forall_mem_cons.2 ⟨List.forall_mem_cons.2 ⟨kAwake, fun _ h => by cases h⟩, fun _ h => by cases h⟩) f l h
end
end Go.Proofs.YtjlpmhgngcfkcaaGreatDoor
