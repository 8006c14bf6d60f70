/- Closed facts of the program that the row asks for, a part. -/
import Derived.Test.YtfkidblfgdkcdaaGreatDoorRows
import Derived.JoinedOf
import Derived.KernelRfl
import Derived.Test.YtfkidblfgdkcdaaGreatDoorJfa
import Derived.Test.YtfkidblfgdkcdaaGreatDoorJfb
import Derived.Test.YtfkidblfgdkcdaaGreatDoorJfc
import Derived.Test.YtfkidblfgdkcdaaGreatDoorJfd
import Derived.Test.YtfkidblfgdkcdaaGreatDoorJfe
import Derived.Test.YtfkidblfgdkcdaaGreatDoorJff
import Derived.Test.YtfkidblfgdkcdaaGreatDoorJfg
namespace Go.Proofs.YtfkidblfgdkcdaaGreatDoor
open Go
set_option linter.unusedVariables false
theorem and_mk {a b : Bool} (h : a = true) (k : b = true) : (a && b) = true := by rw [h, k]; rfl
set_option maxRecDepth 100000 in
theorem closedF : joinedFacts Tryz.pinned.checked.prog 3 Tryz.f3 Rows.scriptKnownSpec Rows.scriptKnownRow = true := by
  unfold joinedFacts
  exact (and_mk (and_mk (and_mk (and_mk (and_mk (and_mk (and_mk (and_mk (and_mk (and_mk (and_mk (and_mk (and_mk (and_mk (and_mk (and_mk (and_mk (and_mk (and_mk (and_mk (and_mk (and_mk (and_mk (and_mk (and_mk (and_mk (and_mk (and_mk (and_mk (and_mk (and_mk jf_0 jf_1) jf_2) jf_3) jf_4) jf_5) jf_6) jf_7) jf_8) jf_9) jf_10) jf_11) jf_12) jf_13) jf_14) jf_15) jf_16) jf_17) jf_18) jf_19) jf_20) jf_21) jf_22) jf_23) jf_24) jf_25) jf_26) jf_27) jf_28) jf_29) jf_30) jf_31)
end Go.Proofs.YtfkidblfgdkcdaaGreatDoor
