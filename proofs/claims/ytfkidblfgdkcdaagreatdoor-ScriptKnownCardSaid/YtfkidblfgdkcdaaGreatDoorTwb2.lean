/- The tie of the tables that the card lists to the program's text: its closed facts, a part: the rows are there. -/
import Derived.Test.YtfkidblfgdkcdaaGreatDoorRows
import Derived.LaidByTextLater
import Derived.SevenTiedAt
import Derived.Test.YtfkidblfgdkcdaaGreatDoorTwl
namespace Go.Proofs.YtfkidblfgdkcdaaGreatDoor
open Go
theorem tw_2b : ∀ os tape, (DataW.laidRun Tryz.prog (varsWorld Tryz.prog 400 (varsId Tryz.prog) os tape).memory 8 (twLaid.map (·.1))).map (fun x => laidRowsB Tryz.prog (varsWorld Tryz.prog 400 (varsId Tryz.prog) os tape).memory x.2) = some true := fun _ _ => by kernel_rfl
end Go.Proofs.YtfkidblfgdkcdaaGreatDoor
