/- The law ScriptKnown returns true, in every memory and on every schedule; the package-level tables that the card lists are tied to the program's text; the program is run by an evaluator of this family (its soundness: main_ok). -/
import Derived.Test.YtfkidblfgdkcdaaGreatDoorRows
import Derived.Test.YtfkidblfgdkcdaaGreatDoorKa
import Derived.Test.YtfkidblfgdkcdaaGreatDoorJf
import Derived.Test.YtfkidblfgdkcdaaGreatDoorKr
import Derived.WalkKit
import Derived.ProofKit
import Derived.OpenShut
import Derived.LaidMore
import Derived.Lay
import Derived.SevenTiedAt
import Derived.Stop.Joined
import Derived.Stop.LaidErr
import Derived.Lib.LaidTab
import Derived.Lib.Props
namespace Go.Proofs.YtfkidblfgdkcdaaGreatDoor.scriptKnown
open Go.ChangeShapes Go.WideShapes Go.ChangeAt Go.RowKit
open Go.ChangeMaps (open_string shut_string)
set_option linter.unusedVariables false
theorem g_propsL : Tryz.prog.globalNamed "unicode.properties" = some 1 := by kernel_rfl
theorem gT_propsL : (Tryz.prog.globals[1]?).map (·.type) = some 403 := by kernel_rfl
theorem c_propsL : Tryz.prog.cellsOf 403 = 256 := by kernel_rfl
theorem ce_propsL : Tryz.prog.cellsOf 5 = 1 := by kernel_rfl
theorem u_propsL : Tryz.prog.underlying 403 = some (.array 256 5) := by kernel_rfl
theorem ue_propsL : Tryz.prog.underlying 5 = some (.int .u8) := by kernel_rfl
theorem propsL_eq : (Rows.laid_unicode_properties : DataW Unit) = Lib.tabData .u8 Lib.propertiesTab := by kernel_rfl
theorem of_propsL (rest : List (String × DataW Unit)) {W : World} (h : laidMet Tryz.prog (("unicode.properties", Rows.laid_unicode_properties) :: rest) W) : ∃ e fz, W.heap[1]? = some (.cells propsL.toArray e fz) := by
  rw [propsL_eq] at h
  have h1 := Lib.tabIs_of_head g_propsL gT_propsL u_propsL ue_propsL ce_propsL c_propsL h
  unfold Lib.TabIs World.var? at h1
  rw [g_propsL] at h1
  simp only [Option.bind_some] at h1
  split at h1
  · rename_i cs e fz hh
    cases h1
    exact ⟨_, _, hh⟩
  · cases h1
theorem g_pow10L : Tryz.prog.globalNamed "internal/strconv.uint64pow10" = some 5 := by kernel_rfl
theorem gT_pow10L : (Tryz.prog.globals[5]?).map (·.type) = some 533 := by kernel_rfl
theorem c_pow10L : Tryz.prog.cellsOf 533 = 20 := by kernel_rfl
theorem ce_pow10L : Tryz.prog.cellsOf 272 = 1 := by kernel_rfl
theorem u_pow10L : Tryz.prog.underlying 533 = some (.array 20 272) := by kernel_rfl
theorem ue_pow10L : Tryz.prog.underlying 272 = some (.int .u64) := by kernel_rfl
theorem pow10L_eq : (Rows.laid_internal_strconv_uint64pow10 : DataW Unit) = Lib.tabData .u64 Lib.pow10Tab := by kernel_rfl
theorem of_pow10L (rest : List (String × DataW Unit)) {W : World} (h : laidMet Tryz.prog (("internal/strconv.uint64pow10", Rows.laid_internal_strconv_uint64pow10) :: rest) W) : ∃ e fz, W.heap[5]? = some (.cells pow10L.toArray e fz) := by
  rw [pow10L_eq] at h
  have h1 := Lib.tabIs_of_head g_pow10L gT_pow10L u_pow10L ue_pow10L ce_pow10L c_pow10L h
  unfold Lib.TabIs World.var? at h1
  rw [g_pow10L] at h1
  simp only [Option.bind_some] at h1
  split at h1
  · rename_i cs e fz hh
    cases h1
    exact ⟨_, _, hh⟩
  · cases h1
def TabsMet (W : World) : Prop := ∀ p ∈ tabs, ∃ e fz, W.heap[p.1]? = some (.cells p.2.toArray e fz)
theorem tabs_of {W : World} (h : laidMet Tryz.prog Rows.scriptKnownRow.laid W) : TabsMet W := List.forall_mem_cons.2 ⟨of_propsL _ h.tail.tail, List.forall_mem_cons.2 ⟨of_pow10L _ h.tail.tail.tail.tail.tail.tail.tail, fun _ h => by cases h⟩⟩
theorem runs : OrcOk Tryz.prog 11 tabs 3 [] (.bool true) := runAll
theorem own : ownKnob Tryz.prog.godebug = none := by kernel_rfl
set_option maxRecDepth 100000 in
theorem lifted (os : Os) (started : os.Started) (H : Type) (enc : TypeId × Value → H) :
    ReturnsInHanded {} Tryz.checked os 3 .any (fun w args => (Rows.scriptKnownSpec.pre enc Tryz.prog Tryz.f3 Rows.scriptKnownRow.domain false w args ∧ laidMetH Tryz.prog Rows.scriptKnownRow.laid w) ∧ sizedMet enc Tryz.prog Tryz.f3 (OpenSpec.ofChange Rows.scriptKnownSpec) false w args)
      (Rows.scriptKnownSpec.post enc Tryz.prog Tryz.f3 false true false false) := by
  refine returnsInHanded_of_change_and (C := Tryz.checked) (X := fun w _ => laidMetH Tryz.prog Rows.scriptKnownRow.laid w) (fun _ _ _ hh h => h.of_heap hh) own started (by kernel_rfl) Tryz.func3
    (ChangeSpec.witness_shaped (enc := enc) (C := Tryz.checked) (os := os) (X := fun w _ => laidMetH Tryz.prog Rows.scriptKnownRow.laid w) false (World.laidAll Tryz.prog os Rows.scriptKnownRow.laid) #[] 8 (World.laidAll_os _ _ _)
      (World.shaped_of_ZipB (by kernel_rfl) (by kernel_rfl)) (by kernel_rfl) (by kernel_rfl) (by kernel_rfl)
      (by rw [MakeChecks.laidMetH_plain _ _ _ (by kernel_rfl)]; exact laidMet_laidAll _ (by kernel_rfl) (by kernel_rfl))) ?_
  intro W base args ds gs before hval0 hW _ _ hL _
  have hval : ∀ (j : Nat) t v, Tryz.f3.params[j]? = some t → args[j]? = some v → Value.okWide Tryz.prog W .any base t v := hval0
  have hW' := hW
  obtain ⟨p, q, hA0, hV, rfl, _, _⟩ := hW
  have hA : DataW.TrodAll enc Tryz.prog W 0 (fun _ => true) true Tryz.f3.params.toList args.toList ds p := hA0
  rw [Tryz.params3] at hA hval
  obtain ⟨hargs0, rfl, rfl⟩ := trodAll_nil hA
  obtain rfl : args = #[] := by cases args; simp_all
  obtain ⟨rfl, rfl⟩ := trodVars_none hV
  clear hA0 hval0
  simp only [List.append_nil] at hW'
  rw [MakeChecks.laidMetH_plain _ _ _ (by kernel_rfl)] at hL
  have hT : TabsMet W := tabs_of hL
  refine (runs.closed tabsGood W hT).mono fun e W' ⟨he, hb⟩ => ?_
  subst he
  exact ⟨_, rfl, _, _, _, [], [], [], hW', trodAll_mk1 (shut_bool Tryz.underlying4 _), trodAll_mk0, rfl, hb.frame _, fun h => by cases h⟩
theorem holds : Rows.scriptKnownRow.holds Tryz.pinned (OpenSpec.ofChange Rows.scriptKnownSpec) :=
  OpenClaim.holds_of_wide 3 Tryz.f3 rfl rfl rfl rfl rfl rfl rfl ⟨rfl, rfl, rfl, rfl, rfl⟩ rfl rfl rfl rfl rfl (by kernel_rfl) Tryz.func3 closedF
    (of_decide_eq_true (by kernel_rfl)) (by unfold Func.isWrapper; first | (rw [if_pos (by decide +kernel)]; kernel_rfl) | (rw [if_neg (by decide +kernel)]; exact ⟨rfl, rfl⟩))
    (fun os started H enc _ => lifted os started H enc)
end Go.Proofs.YtfkidblfgdkcdaaGreatDoor.scriptKnown
