/- The law ScriptKnown returns true, in every memory and on every schedule; the package-level tables that the card lists are tied to the program's text; the program is run by an evaluator of this family (its soundness: main_ok). -/
import Derived.Test.YtfkidblfgdkcdaaGreatDoorCards
import Derived.Test.YtfkidblfgdkcdaaGreatDoorTw
import Derived.Test.YtfkidblfgdkcdaaGreatDoorPh
import Derived.Test.YtfkidblfgdkcdaaGreatDoorPwa
import Derived.Test.YtfkidblfgdkcdaaGreatDoorPwb
namespace Go.Proofs.YtfkidblfgdkcdaaGreatDoor.scriptKnown
open Go
set_option linter.unusedVariables false
theorem proved : Rows.ScriptKnownCardSaid :=
  Claim7.holds_tied_plain_at .later [] _ _ _ _ holds (fun _ h => by cases h) pw_wf (fun _ h => by cases h) scriptKnown_row_tie rfl ⟨rfl, rfl⟩ pw_main rfl
    (fun f fn hf hfn => by
      obtain rfl : f = 3 := Option.some.inj (pw_fn.symm.trans hf) |>.symm
      obtain rfl : fn = Tryz.f3 := (Option.some.inj (Tryz.func3.symm.trans hfn)).symm
      exact ⟨pw_looks, fun j t ht => by
        rw [Tryz.params3] at ht
        simp at ht⟩)
    pw_goes
end Go.Proofs.YtfkidblfgdkcdaaGreatDoor.scriptKnown
