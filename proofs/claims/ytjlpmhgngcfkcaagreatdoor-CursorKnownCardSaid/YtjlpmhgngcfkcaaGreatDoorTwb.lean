/- The tie of the tables that the card lists to the program's text: its closed facts, a part. -/
import Derived.Test.YtjlpmhgngcfkcaaGreatDoorRows
import Derived.LaidByTextLater
import Derived.SevenTiedAt
import Derived.Test.YtjlpmhgngcfkcaaGreatDoorTwl
namespace Go.Proofs.YtjlpmhgngcfkcaaGreatDoor
open Go
theorem tw_2 : ∀ os tape, (DataW.laidRun Tryz.prog (varsWorld Tryz.prog 400 (varsId Tryz.prog) os tape).memory 8 (twLaid.map (·.1))).map (fun x => decide x.2.Nodup && laidRowsB Tryz.prog (varsWorld Tryz.prog 400 (varsId Tryz.prog) os tape).memory x.2) = some true := fun _ _ => by kernel_rfl
end Go.Proofs.YtjlpmhgngcfkcaaGreatDoor
