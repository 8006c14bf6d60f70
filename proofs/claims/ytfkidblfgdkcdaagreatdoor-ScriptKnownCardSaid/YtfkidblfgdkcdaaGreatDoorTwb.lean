/- The tie of the tables that the card lists to the program's text: its closed facts, a part. -/
import Derived.Test.YtfkidblfgdkcdaaGreatDoorTwb1
import Derived.Test.YtfkidblfgdkcdaaGreatDoorTwb2
namespace Go.Proofs.YtfkidblfgdkcdaaGreatDoor
open Go
theorem tw_2 : ∀ os tape, (DataW.laidRun Tryz.prog (varsWorld Tryz.prog 400 (varsId Tryz.prog) os tape).memory 8 (twLaid.map (·.1))).map (fun x => decide x.2.Nodup && laidRowsB Tryz.prog (varsWorld Tryz.prog 400 (varsId Tryz.prog) os tape).memory x.2) = some true := fun os tape => by
  have h1 := tw_2a os tape
  have h2 := tw_2b os tape
  generalize DataW.laidRun Tryz.prog (varsWorld Tryz.prog 400 (varsId Tryz.prog) os tape).memory 8 (twLaid.map (·.1)) = r at h1 h2 ⊢
  cases r with
  | none => cases h1
  | some x =>
    rw [Option.map_some] at h1 h2 ⊢
    injection h1 with h1
    injection h2 with h2
    have h3 := (freshB_nodup _ _ h1).1
    rw [decide_eq_true h3, h2]
    rfl
end Go.Proofs.YtfkidblfgdkcdaaGreatDoor
