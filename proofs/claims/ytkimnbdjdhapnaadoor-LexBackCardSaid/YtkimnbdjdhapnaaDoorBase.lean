import Derived.Test.YtkimnbdjdhapnaaDoorRows
import Derived.Test.YtkimnbdjdhapnaaDoorMath
import Derived.Test.YtkimnbdjdhapnaaDoorShelf
import Derived.WalkKit
import Derived.WalkLawsBesides
import Derived.Handy
import Derived.ProofKit
import Derived.OpenShut
import Derived.Lib.Hide
import Derived.LaidMore
import Derived.Lib.LaidU8
import Derived.Lib.LaidTab
import Derived.Lib.Props
import Derived.PinnedBridge
import Derived.Stop.LaidErr
import Derived.OwnWalk
import Derived.Maps.AppendAt
import Derived.Deep.AppendLies
import Derived.Deep.LoopGhost
namespace Go.Proofs.YtkimnbdjdhapnaaDoor
open Go.ChangeShapes Go.WideShapes Go.ChangeAt Go.RowKit Go.Shelf Go.Lib CharsMath
set_option linter.unusedVariables false
theorem gProps : Tryd.prog.globalNamed "unicode.properties" = some 2 := by kernel_rfl
theorem gPropsT : (Tryd.prog.globals[2]?).map (·.type) = some 39 := by kernel_rfl
theorem cells39 : Tryd.prog.cellsOf 39 = 256 := by kernel_rfl
theorem cells5 : Tryd.prog.cellsOf 5 = 1 := by kernel_rfl
theorem props_eq : (Rows.laid_unicode_properties : DataW Unit) = Lib.tabData .u8 Lib.propertiesTab := by kernel_rfl
theorem tab_of (rest : List (String × DataW Unit)) {W : World} (h : laidMet Tryd.prog (("unicode.properties", Rows.laid_unicode_properties) :: rest) W) : Lib.TabIs Tryd.prog W "unicode.properties" .u8 Lib.propertiesTab := by
  rw [props_eq] at h
  exact Lib.tabIs_of_head gProps gPropsT Tryd.underlying39 Tryd.underlying5 cells5 cells39 h
theorem xL : RExtra Tryd.prog Tryd.lays200_ren := ⟨by kernel_rfl, by kernel_rfl, by kernel_rfl, by kernel_rfl, by kernel_rfl, by kernel_rfl, by kernel_rfl, by kernel_rfl⟩
theorem xU : RExtra Tryd.prog Tryd.lays201_ren := ⟨by kernel_rfl, by kernel_rfl, by kernel_rfl, by kernel_rfl, by kernel_rfl, by kernel_rfl, by kernel_rfl, by kernel_rfl⟩
theorem x8 : U8Extra Tryd.prog Tryd.lays260_ren := ⟨by kernel_rfl, by kernel_rfl, by kernel_rfl, by kernel_rfl, by kernel_rfl, by kernel_rfl, by kernel_rfl⟩
theorem accept_eq : (Rows.laid_unicode_utf8_acceptRanges : DataW Unit) = acceptData := by kernel_rfl
/-- What the five tables are in a world. -/
structure Tabs (w : World) : Prop where
  props : Lib.TabIs Tryd.prog w "unicode.properties" .u8 Lib.propertiesTab
  letter : RVar 3 letterT w
  upper : RVar 4 upperT w
  utf : Lib.Utf8Tabs 0 1 w
theorem Tabs.below {w w' : World} (h : Tabs w) (hb : Below w.heap.size w w') : Tabs w' :=
  ⟨TabIs_below gProps h.props hb, RVar_below h.letter hb, RVar_below h.upper hb, Utf8Tabs_below h.utf hb⟩
theorem tabs_of {W : World} (h : laidMet Tryd.prog [("unicode/utf8.acceptRanges", Rows.laid_unicode_utf8_acceptRanges), ("unicode.properties", Rows.laid_unicode_properties), ("unicode.Letter", Rows.laid_unicode_Letter), ("unicode.Upper", Rows.laid_unicode_Upper), ("unicode/utf8.first", Rows.laid_unicode_utf8_first)] W) : Tabs W :=
  ⟨tab_of _ h.tail, rvar_of_reads { Tryd.lays200 with } xL (by kernel_rfl) (by kernel_rfl) (show VarReads Tryd.prog W _ (rtabData letterT) from Pinned.letter_eq ▸ (Lib.laidMet.reads h.tail (.tail _ (.head _)) : VarReads Tryd.prog W _ Pinned.letter)),
   rvar_of_reads { Tryd.lays201 with } xU (by kernel_rfl) (by kernel_rfl) (show VarReads Tryd.prog W _ (rtabData upperT) from Pinned.upper_eq ▸ (Lib.laidMet.reads h.tail (.tail _ (.tail _ (.head _))) : VarReads Tryd.prog W _ Pinned.upper)),
   utf8Tabs_of_reads Tryd.lays260 x8 (show VarReads Tryd.prog W _ firstData from Pinned.utf8First_eq ▸ (Lib.laidMet.reads h.tail (.tail _ (.tail _ (.tail _ (.head _)))) : VarReads Tryd.prog W _ Pinned.utf8First)) (show VarReads Tryd.prog W _ acceptData from accept_eq ▸ (Lib.laidMet.reads h (.head _) : VarReads Tryd.prog W _ Rows.laid_unicode_utf8_acceptRanges))⟩
theorem below_iter (w : World) (s : ByteArray) (p : Nat) : Below w.heap.size w (w.iter s p) := (Below.refl _ _).alloc (Nat.le_refl _) _
def markL : List Int := [40, 41, 44, 59, 61, 60, 62, 43, 45, 42, 124, 33, 58]
def spaceL : List Int := [32, 9, 10, 13]
def wordL : List Int := [95, 39]
def classV (r : Int) : Int := if r ∈ wordL then 1 else if r ∈ spaceL then 3 else if r ∈ markL then 4 else if 48 ≤ r ∧ r ≤ 57 then 2 else if isLetterU r then 1 else 0
theorem ne_b {r k : Int} (h : r ≠ k) : (r == k) = false := beq_eq_false_iff_ne.2 h
set_option maxHeartbeats 1000000 in
theorem class_any (r : Int) (w : World) (hlo : -2147483648 ≤ r) (hhi : r ≤ 2147483647) (hT : Tabs w) :
    Calls Tryd.prog 12 #[.int .i32 r] w fun e w' => e = .returned (.int .i64 (classV r)) ∧ Below w.heap.size w w' := by
  have HT : Hid (Tabs w) := Lib.hid hT
  by_cases h1 : r ∈ wordL
  · rw [show classV r = 1 from if_pos h1]
    simp only [wordL, List.mem_cons, List.mem_nil_iff, or_false] at h1
    clear hlo hhi hT
    rcases h1 with rfl | rfl
    all_goals (go_enter Tryd.func12, Tryd.ntmps12; go_wp2; go_ret; exact ⟨rfl, Below.refl _ _⟩)
  by_cases h2 : r ∈ spaceL
  · rw [show classV r = 3 from by unfold classV; rw [if_neg h1, if_pos h2]]
    simp only [spaceL, List.mem_cons, List.mem_nil_iff, or_false] at h2
    clear hlo hhi hT h1
    rcases h2 with rfl | rfl | rfl | rfl
    all_goals (go_enter Tryd.func12, Tryd.ntmps12; go_wp2; go_ret; exact ⟨rfl, Below.refl _ _⟩)
  by_cases h3 : r ∈ markL
  · rw [show classV r = 4 from by unfold classV; rw [if_neg h1, if_neg h2, if_pos h3]]
    simp only [markL, List.mem_cons, List.mem_nil_iff, or_false] at h3
    clear hlo hhi hT h1 h2
    rcases h3 with rfl | rfl | rfl | rfl | rfl | rfl | rfl | rfl | rfl | rfl | rfl | rfl | rfl
    all_goals (go_enter Tryd.func12, Tryd.ntmps12; go_wp2; go_ret; exact ⟨rfl, Below.refl _ _⟩)
  have e : classV r = if 48 ≤ r ∧ r ≤ 57 then 2 else if isLetterU r then 1 else 0 := by unfold classV; rw [if_neg h1, if_neg h2, if_neg h3]
  rw [e]; clear e
  simp only [wordL, spaceL, markL, List.mem_cons, List.mem_nil_iff, or_false, not_or] at h1 h2 h3
  obtain ⟨n1, n2⟩ := h1
  obtain ⟨n3, n4, n5, n6⟩ := h2
  obtain ⟨n7, n8, n9, n10, n11, n12, n13, n14, n15, n16, n17, n18, n19⟩ := h3
  have m1 := ne_b n1; have m2 := ne_b n2; have m3 := ne_b n3; have m4 := ne_b n4; have m5 := ne_b n5; have m6 := ne_b n6; have m7 := ne_b n7; have m8 := ne_b n8; have m9 := ne_b n9; have m10 := ne_b n10
  have m11 := ne_b n11; have m12 := ne_b n12; have m13 := ne_b n13; have m14 := ne_b n14; have m15 := ne_b n15; have m16 := ne_b n16; have m17 := ne_b n17; have m18 := ne_b n18; have m19 := ne_b n19
  clear n1 n2 n3 n4 n5 n6 n7 n8 n9 n10 n11 n12 n13 n14 n15 n16 n17 n18 n19
  by_cases hd : 48 ≤ r ∧ r ≤ 57
  · rw [if_pos hd]
    obtain ⟨d1, d2⟩ := hd
    clear hT
    go_enter Tryd.func12, Tryd.ntmps12
    go_wp2; go_ret; exact ⟨rfl, Below.refl _ _⟩
  · rw [if_neg hd]
    have c : Calls Tryd.prog 17 #[.int .i32 r] w fun e w' => e = .returned (.bool (isLetterU r)) ∧ Below w.heap.size w w' := Tryd.unicode_IsLetter_all r w hlo hhi hT.props hT.letter
    have C := Lib.hid c; clear c hT
    cases hb : isLetterU r
    all_goals
      have HB := Lib.hid hb; clear hb
      by_cases hx : r < 48
      · clear hd
        go_enter Tryd.func12, Tryd.ntmps12
        go_wp2_with fail
        refine C.out.mono ?_; rintro e w1 ⟨rfl, hb1⟩
        rw [HB.out]
        go_wp2; go_ret; exact ⟨rfl, hb1⟩
      · have hy : 57 < r := by omega
        have hx' : 48 ≤ r := by omega
        clear hd hx
        go_enter Tryd.func12, Tryd.ntmps12
        go_wp2_with fail
        refine C.out.mono ?_; rintro e w1 ⟨rfl, hb1⟩
        rw [HB.out]
        go_wp2; go_ret; exact ⟨rfl, hb1⟩
def upperV (s : ByteArray) : Bool := if 0 < s.size then isUpperU (rn s 0) else false
theorem upper_any (s : ByteArray) (w : World) (hT : Tabs w) : Calls Tryd.prog 20 #[.string s] w fun e w' => e = .returned (.bool (upperV s)) ∧ Below w.heap.size w w' := by
  have HT := Lib.hid hT; clear hT
  by_cases hp : 0 < s.size
  · rw [show upperV s = isUpperU (rn s 0) from if_pos hp]
    have hr := rn_le s 0 hp
    have hnx : ∀ ty, (Instr.next (.pointer (some ⟨w.heap.size, 0, none⟩)) true ty).run Tryd.prog (w.iter s 0) = _ := fun ty => run_next_any w s 0 ty hp
    go_enter Tryd.func20, Tryd.ntmps20
    go_wp2
    refine wp_loop_rounds 1 ?_
    rw [rounds_succ]
    go_wp2_with fail
    refine (Tryd.unicode_IsUpper_all _ _ (by unfold rn at hr; omega) (by unfold rn at hr; omega) (HT.out.below (below_iter _ _ _)).props (HT.out.below (below_iter _ _ _)).upper).mono ?_
    rintro e w2 ⟨rfl, hb2⟩
    go_wp2
    go_ret
    exact ⟨rfl, (below_iter w s _).trans (hb2.mono (below_iter w s _).size)⟩
  · rw [show upperV s = false from if_neg hp]
    have hnx : ∀ ty, (Instr.next (.pointer (some ⟨w.heap.size, 0, none⟩)) true ty).run Tryd.prog (w.iter s 0) = _ := fun ty => run_next_end w s 0 ty hp
    go_enter Tryd.func20, Tryd.ntmps20
    go_wp2
    refine wp_loop_rounds 1 ?_
    rw [rounds_succ]
    go_wp2
    go_ret
    exact ⟨rfl, below_iter _ _ _⟩
end Go.Proofs.YtkimnbdjdhapnaaDoor
