/- The law SlotKnown returns true, in every memory and on every schedule; the package-level tables that the card lists are tied to the program's text; the program is run by an evaluator of this family (its soundness: main_ok). -/
import Derived.Test.YtllphmchdhgnnaaGreatDoorCards
import Derived.Test.YtllphmchdhgnnaaGreatDoorTie
import Derived.Test.YtllphmchdhgnnaaGreatDoorSb
import Derived.WalkKit
import Derived.ProofKit
import Derived.OpenShut
import Derived.LaidMore
import Derived.Lib.LaidTab
import Derived.Lib.Props
import Derived.Lay
import Derived.SevenTiedAt
import Derived.Stop.Joined
import Derived.Stop.LaidErr
namespace Go.Proofs.YtllphmchdhgnnaaGreatDoor.slotKnown
open Slot
open Go.ChangeShapes Go.WideShapes Go.ChangeAt Go.RowKit
open Go.ChangeMaps (open_string shut_string)
set_option linter.unusedVariables false
set_option linter.unusedSimpArgs false
theorem own : ownKnob Tryz.prog.godebug = none := by kernel_rfl
theorem gProps : Tryz.prog.globalNamed "unicode.properties" = some 0 := by kernel_rfl
theorem gPropsT : (Tryz.prog.globals[0]?).map (·.type) = some 238 := by kernel_rfl
theorem cells238 : Tryz.prog.cellsOf 238 = 256 := by kernel_rfl
theorem cells5 : Tryz.prog.cellsOf 5 = 1 := by kernel_rfl
theorem props_eq : (Rows.laid_unicode_properties : DataW Unit) = Lib.tabData .u8 Lib.propertiesTab := by kernel_rfl
theorem knownO : OrOk Tryz.prog (cxV Tryz.prog 6 tabs (orcT [(14, [([], .bool true)])]) (Tr.nil.put 15 (some [q0]))) := fun f l h =>
  orcT_ok (P := Tryz.prog) 6 tabs (l := [(14, [([], .bool true)])]) (List.forall_mem_cons.2 ⟨List.forall_mem_cons.2 ⟨kAwake, fun _ h => by cases h⟩, fun _ h => by cases h⟩) f l h
theorem knownV : OvOk Tryz.prog (cxV Tryz.prog 6 tabs (orcT [(14, [([], .bool true)])]) (Tr.nil.put 15 (some [q0]))) := fun f l h => by
  change (Tr.nil.put 15 (some [q0])).get f = some l at h
  rw [Tr.get_put] at h
  split at h
  · rename_i e; subst e; cases h
    exact List.forall_mem_cons.2 ⟨kMade, fun _ h => by cases h⟩
  · cases h
theorem runs : OrcOk Tryz.prog 6 tabs 5 [] (.bool true) :=
  known_callV names mixed 6 tabs tabsGood _ _ knownO knownV 20000 5 _ _ (by kernel_rfl) (by kernel_rfl) (by kernel_rfl)
theorem tab_of (rest : List (String × DataW Unit)) {W : World} (h : laidMet Tryz.prog (("unicode.properties", Rows.laid_unicode_properties) :: rest) W) : ∃ e fz, W.heap[0]? = some (.cells propsL.toArray e fz) := by
  rw [props_eq] at h
  have h1 := Lib.tabIs_of_head gProps gPropsT Tryz.underlying238 Tryz.underlying5 cells5 cells238 h
  unfold Lib.TabIs World.var? at h1
  rw [gProps] at h1
  simp only [Option.bind_some] at h1
  split at h1
  · rename_i cs e fz hh
    cases h1
    exact ⟨_, _, hh⟩
  · cases h1
theorem tabs_of {W : World} (h : laidMet Tryz.prog [("unicode.properties", Rows.laid_unicode_properties), ("unicode.Letter", Rows.laid_unicode_Letter), ("unicode.Upper", Rows.laid_unicode_Upper)] W) : ∃ e fz, W.heap[0]? = some (.cells propsL.toArray e fz) :=
  tab_of _ h
set_option maxRecDepth 100000 in
theorem lifted (os : Os) (started : os.Started) (H : Type) (enc : TypeId × Value → H) :
    ReturnsInHanded {} Tryz.checked os 5 .any (fun w args => (Rows.slotKnownSpec.pre enc Tryz.prog Tryz.f5 Rows.slotKnownRow.domain false w args ∧ laidMetH Tryz.prog Rows.slotKnownRow.laid w) ∧ sizedMet enc Tryz.prog Tryz.f5 (OpenSpec.ofChange Rows.slotKnownSpec) false w args)
      (Rows.slotKnownSpec.post enc Tryz.prog Tryz.f5 false true false false) := by
  refine returnsInHanded_of_change_and (C := Tryz.checked) (X := fun w _ => laidMetH Tryz.prog Rows.slotKnownRow.laid w) (fun _ _ _ hh h => h.of_heap hh) own started (by kernel_rfl) Tryz.func5
    (ChangeSpec.witness_shaped (enc := enc) (C := Tryz.checked) (os := os) (X := fun w _ => laidMetH Tryz.prog Rows.slotKnownRow.laid w) false (World.laidAll Tryz.prog os Rows.slotKnownRow.laid) #[] 8 (World.laidAll_os _ _ _)
      (World.shaped_of_ZipB (by kernel_rfl) (by kernel_rfl)) (by kernel_rfl) (by kernel_rfl) (by kernel_rfl)
      (by rw [MakeChecks.laidMetH_plain _ _ _ (by kernel_rfl)]; exact laidMet_laidAll _ (by kernel_rfl) (by kernel_rfl))) ?_
  intro W base args ds gs before hval0 hW _ _ hL _
  have hval : ∀ (j : Nat) t v, Tryz.f5.params[j]? = some t → args[j]? = some v → Value.okWide Tryz.prog W .any base t v := hval0
  have hW' := hW
  obtain ⟨p, q, hA0, hV, rfl, _, _⟩ := hW
  have hA : DataW.TrodAll enc Tryz.prog W 0 (fun _ => true) true Tryz.f5.params.toList args.toList ds p := hA0
  rw [Tryz.params5] at hA hval
  obtain ⟨hargs0, rfl, rfl⟩ := trodAll_nil hA
  obtain rfl : args = #[] := by cases args; simp_all
  obtain ⟨rfl, rfl⟩ := trodVars_none hV
  clear hA0 hval0
  simp only [List.append_nil] at hW'
  rw [MakeChecks.laidMetH_plain _ _ _ (by kernel_rfl)] at hL
  have hT := tabs_of hL
  refine (runs.closed tabsGood W (fun p hp => by
    have hp2 : p = (0, propsL) := List.mem_singleton.1 hp
    subst hp2; exact hT)).mono fun e W' ⟨he, hb⟩ => ?_
  subst he
  exact ⟨_, rfl, _, _, _, [], [], [], hW', trodAll_mk1 (shut_bool Tryz.underlying4 _), trodAll_mk0, rfl, hb.frame _, fun h => by cases h⟩
theorem holds : Rows.slotKnownRow.holds Tryz.pinned (OpenSpec.ofChange Rows.slotKnownSpec) :=
  OpenClaim.holds_of_wide 5 Tryz.f5 rfl rfl rfl rfl rfl rfl rfl ⟨rfl, rfl, rfl, rfl, rfl⟩ rfl rfl rfl rfl rfl (by kernel_rfl) Tryz.func5 (by kernel_rfl)
    (of_decide_eq_true (by kernel_rfl)) (by unfold Func.isWrapper; first | (rw [if_pos (by decide +kernel)]; kernel_rfl) | (rw [if_neg (by decide +kernel)]; exact ⟨rfl, rfl⟩))
    (fun os started H enc _ => lifted os started H enc)
theorem proved : Rows.SlotKnownCardSaid :=
  Claim7.holds_tied_plain_at .later [] _ _ _ _ holds (fun _ h => by cases h) (by kernel_rfl) (fun _ h => by cases h) slotKnown_row_tie rfl ⟨rfl, rfl⟩ (by kernel_rfl) rfl
    (fun f fn hf hfn => by
      obtain rfl : f = 5 := Option.some.inj ((show Tryz.prog.funcNamed Rows.slotKnownRow.func = some 5 by kernel_rfl).symm.trans hf) |>.symm
      obtain rfl : fn = Tryz.f5 := (Option.some.inj (Tryz.func5.symm.trans hfn)).symm
      exact ⟨by kernel_rfl, fun j t ht => by
        rw [Tryz.params5] at ht
        simp at ht⟩)
    (by kernel_rfl)
end Go.Proofs.YtllphmchdhgnnaaGreatDoor.slotKnown
