/- The tie of the tables that the card lists to the program's text: its closed facts, a part. -/
import Derived.Test.YtfkidblfgdkcdaaGreatDoorRows
import Derived.LaidByTextLater
import Derived.SevenTiedAt
import Derived.Test.YtfkidblfgdkcdaaGreatDoorTwl
namespace Go.Proofs.YtfkidblfgdkcdaaGreatDoor
open Go
theorem tw_w : Tryz.prog.worded (varsWordLater true) = true := by kernel_rfl
theorem tw_w2 : Tryz.prog.worded (varsWordLater !true) = false := by kernel_rfl
theorem tw_root : Tryz.prog.worded rootWordLater = true := by kernel_rfl
theorem tw_k : twLaid.map (fun x => Tryz.prog.kindOfLater x.1) = ([.data, .data, .sentinel, .sentinel, .data, .data, .data] : List LaidKind).map some := by kernel_rfl
theorem tw_g : (Tryz.prog.funcNamed "gosem.cut.vars").isSome = true := by kernel_rfl
theorem tw_n : varsNamedLaterB Tryz.prog (varsId Tryz.prog) twLaid = true := by kernel_rfl
theorem tw_p : (twLaid.all fun x => x.2.handleName?.isNone) = true := by kernel_rfl
end Go.Proofs.YtfkidblfgdkcdaaGreatDoor
