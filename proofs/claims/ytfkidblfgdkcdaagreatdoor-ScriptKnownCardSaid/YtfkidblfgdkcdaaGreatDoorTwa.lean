/- The tie of the tables that the card lists to the program's text: its closed facts, a part. -/
import Derived.Test.YtfkidblfgdkcdaaGreatDoorRows
import Derived.LaidByTextLater
import Derived.SevenTiedAt
import Derived.Test.YtfkidblfgdkcdaaGreatDoorTwl
namespace Go.Proofs.YtfkidblfgdkcdaaGreatDoor
open Go
theorem tw_1 : ∀ os tape, (DataW.laidRun Tryz.prog (varsWorld Tryz.prog 400 (varsId Tryz.prog) os tape).memory 8 (twLaid.map (·.1))).map (·.1) = some twLaid := fun _ _ => by kernel_rfl
end Go.Proofs.YtfkidblfgdkcdaaGreatDoor
