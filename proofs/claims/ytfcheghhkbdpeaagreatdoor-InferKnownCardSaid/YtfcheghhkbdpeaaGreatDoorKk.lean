/- The calls together. -/
import Derived.Test.YtfcheghhkbdpeaaGreatDoorKc
import Derived.Test.YtfcheghhkbdpeaaGreatDoorKd
import Derived.Test.YtfcheghhkbdpeaaGreatDoorKe
import Derived.Test.YtfcheghhkbdpeaaGreatDoorKf
import Derived.Test.YtfcheghhkbdpeaaGreatDoorKg
import Derived.Test.YtfcheghhkbdpeaaGreatDoorKh
import Derived.Test.YtfcheghhkbdpeaaGreatDoorKi
import Derived.Test.YtfcheghhkbdpeaaGreatDoorKj
namespace Go.Proofs.YtfcheghhkbdpeaaGreatDoor
open Go
set_option linter.unusedVariables false
theorem knownW : OrOk Tryz.prog (cxV Tryz.prog 6 tabs (orcT [(7, [(a_w1, r_w1), (a_w2, r_w2)])]) .nil (bwT bwL)) := fun f l h =>
  orcT_ok (P := Tryz.prog) 6 tabs (l := [(7, [(a_w1, r_w1), (a_w2, r_w2)])]) (List.forall_mem_cons.2 ⟨List.forall_mem_cons.2 ⟨k_w1, List.forall_mem_cons.2 ⟨k_w2, fun _ h => by cases h⟩⟩, fun _ h => by cases h⟩) f l h
theorem kAwake : OrcOk Tryz.prog 6 tabs 4 [] (.bool true) :=
  known_callV names mixed 6 tabs tabsGood _ .nil (bwT bwL) bwGood knownW (fun f l h => by cases h) 20000 4 _ _ (by kernel_rfl) (by kernel_rfl) (by kernel_rfl)
theorem knownM : OrOk Tryz.prog (cxV Tryz.prog 6 tabs (orcT [(4, [([], .bool true)]), (7, [(a_m1, r_m1), (a_m2, r_m2), (a_m3, r_m3), (a_m4, r_m4), (a_m5, r_m5), (a_m6, r_m6), (a_m7, r_m7), (a_m8, r_m8), (a_m9, r_m9), (a_m10, r_m10), (a_m11, r_m11), (a_m12, r_m12)])]) .nil (bwT bwL)) := fun f l h =>
  orcT_ok (P := Tryz.prog) 6 tabs (l := [(4, [([], .bool true)]), (7, [(a_m1, r_m1), (a_m2, r_m2), (a_m3, r_m3), (a_m4, r_m4), (a_m5, r_m5), (a_m6, r_m6), (a_m7, r_m7), (a_m8, r_m8), (a_m9, r_m9), (a_m10, r_m10), (a_m11, r_m11), (a_m12, r_m12)])]) (List.forall_mem_cons.2 ⟨List.forall_mem_cons.2 ⟨kAwake, fun _ h => by cases h⟩, List.forall_mem_cons.2 ⟨List.forall_mem_cons.2 ⟨k_m1, List.forall_mem_cons.2 ⟨k_m2, List.forall_mem_cons.2 ⟨k_m3, List.forall_mem_cons.2 ⟨k_m4, List.forall_mem_cons.2 ⟨k_m5, List.forall_mem_cons.2 ⟨k_m6, List.forall_mem_cons.2 ⟨k_m7, List.forall_mem_cons.2 ⟨k_m8, List.forall_mem_cons.2 ⟨k_m9, List.forall_mem_cons.2 ⟨k_m10, List.forall_mem_cons.2 ⟨k_m11, List.forall_mem_cons.2 ⟨k_m12, fun _ h => by cases h⟩⟩⟩⟩⟩⟩⟩⟩⟩⟩⟩⟩, fun _ h => by cases h⟩⟩) f l h
theorem runAll : OrcOk Tryz.prog 6 tabs 3 [] (.bool true) :=
  known_callV names mixed 6 tabs tabsGood _ .nil (bwT bwL) bwGood knownM (fun f l h => by cases h) 20000 3 _ _ (by kernel_rfl) (by kernel_rfl) (by kernel_rfl)
end Go.Proofs.YtfcheghhkbdpeaaGreatDoor
