import Derived.Test.YtebgloacobaocaaDoorRows
import Derived.Test.YtebgloacobaocaaDoorMath
import Derived.Test.YtebgloacobaocaaDoorShelf
import Derived.WalkKit
import Derived.WalkLawsBesides
import Derived.Handy
import Derived.ProofKit
import Derived.OpenShut
import Derived.Lib.Hide
import Derived.LaidMore
import Derived.Lib.LaidTab
import Derived.Lib.Props
import Derived.PinnedBridge
import Derived.Stop.LaidErr
import Derived.OwnWalk
import Derived.Maps.AppendAt
import Derived.Deep.AppendLies
import Derived.Deep.LoopGhost
namespace Go.Proofs.YtebgloacobaocaaDoor
open Go.ChangeShapes Go.WideShapes Go.ChangeAt Go.RowKit Go.Shelf Go.Lib CharsMath
set_option linter.unusedVariables false
theorem gProps : Tryd.prog.globalNamed "unicode.properties" = some 0 := by kernel_rfl
theorem gPropsT : (Tryd.prog.globals[0]?).map (·.type) = some 63 := by kernel_rfl
theorem cells63 : Tryd.prog.cellsOf 63 = 256 := by kernel_rfl
theorem cells5 : Tryd.prog.cellsOf 5 = 1 := by kernel_rfl
theorem props_eq : (Rows.laid_unicode_properties : DataW Unit) = Lib.tabData .u8 Lib.propertiesTab := by kernel_rfl
theorem gPow : Tryd.prog.globalNamed "internal/strconv.uint64pow10" = some 3 := by kernel_rfl
theorem gPowT : (Tryd.prog.globals[3]?).map (·.type) = some 68 := by kernel_rfl
theorem cells68 : Tryd.prog.cellsOf 68 = 20 := by kernel_rfl
theorem cells55 : Tryd.prog.cellsOf 55 = 1 := by kernel_rfl
theorem pow_eq : (Rows.laid_internal_strconv_uint64pow10 : DataW Unit) = Lib.tabData .u64 Lib.pow10Tab := by kernel_rfl
theorem tab_of (rest : List (String × DataW Unit)) {W : World} (h : laidMet Tryd.prog (("unicode.properties", Rows.laid_unicode_properties) :: rest) W) : Lib.TabIs Tryd.prog W "unicode.properties" .u8 Lib.propertiesTab := by
  rw [props_eq] at h
  exact Lib.tabIs_of_head gProps gPropsT Tryd.underlying63 Tryd.underlying5 cells5 cells63 h
theorem pow_of (rest : List (String × DataW Unit)) {W : World} (h : laidMet Tryd.prog (("internal/strconv.uint64pow10", Rows.laid_internal_strconv_uint64pow10) :: rest) W) : Lib.TabIs Tryd.prog W "internal/strconv.uint64pow10" .u64 Lib.pow10Tab := by
  rw [pow_eq] at h
  exact Lib.tabIs_of_head gPow gPowT Tryd.underlying68 Tryd.underlying55 cells55 cells68 h
theorem xL : RExtra Tryd.prog Tryd.lays200_ren := ⟨by kernel_rfl, by kernel_rfl, by kernel_rfl, by kernel_rfl, by kernel_rfl, by kernel_rfl, by kernel_rfl, by kernel_rfl⟩
theorem xU : RExtra Tryd.prog Tryd.lays201_ren := ⟨by kernel_rfl, by kernel_rfl, by kernel_rfl, by kernel_rfl, by kernel_rfl, by kernel_rfl, by kernel_rfl, by kernel_rfl⟩
/-- What the four tables are in a world. -/
structure Tabs (w : World) : Prop where
  props : Lib.TabIs Tryd.prog w "unicode.properties" .u8 Lib.propertiesTab
  letter : RVar 2 letterT w
  upper : RVar 1 upperT w
  pow : Lib.TabIs Tryd.prog w "internal/strconv.uint64pow10" .u64 Lib.pow10Tab
theorem Tabs.below {w w' : World} (h : Tabs w) (hb : Below w.heap.size w w') : Tabs w' :=
  ⟨TabIs_below gProps h.props hb, RVar_below h.letter hb, RVar_below h.upper hb, TabIs_below gPow h.pow hb⟩
theorem tabs_of {W : World} (h : laidMet Tryd.prog [("math/bits.deBruijn32tab", Rows.laid_math_bits_deBruijn32tab), ("math/bits.deBruijn64tab", Rows.laid_math_bits_deBruijn64tab), ("internal/strconv.uint64pow10", Rows.laid_internal_strconv_uint64pow10), ("unicode.properties", Rows.laid_unicode_properties), ("unicode.Letter", Rows.laid_unicode_Letter), ("unicode.Upper", Rows.laid_unicode_Upper)] W) : Tabs W :=
  ⟨tab_of _ h.tail.tail.tail, rvar_of_reads { Tryd.lays200 with } xL (by kernel_rfl) (by kernel_rfl) (show VarReads Tryd.prog W _ (rtabData letterT) from Pinned.letter_eq ▸ (Lib.laidMet.reads h.tail.tail.tail (.tail _ (.head _)) : VarReads Tryd.prog W _ Pinned.letter)),
   rvar_of_reads { Tryd.lays201 with } xU (by kernel_rfl) (by kernel_rfl) (show VarReads Tryd.prog W _ (rtabData upperT) from Pinned.upper_eq ▸ (Lib.laidMet.reads h.tail.tail.tail (.tail _ (.tail _ (.head _))) : VarReads Tryd.prog W _ Pinned.upper)), pow_of _ h.tail.tail⟩
theorem below_iter (w : World) (s : ByteArray) (p : Nat) : Below w.heap.size w (w.iter s p) := (Below.refl _ _).alloc (Nat.le_refl _) _
set_option maxHeartbeats 400000 in
theorem runes_any (s : ByteArray) (w : World) (hs : s.size ≤ maxLen) : Calls Tryd.prog 27 #[.string s] w fun e w' => e = .returned (.int .i64 (runes s)) ∧ Below w.heap.size w w' := by
  unfold maxLen at hs
  go_enter Tryd.func27, Tryd.ntmps27
  go_wp2
  go_loopw [3] (fun n w' => ∃ (pos f N : Nat), w' = w.iter s pos ∧ n = .int .i64 N ∧ N ≤ pos ∧ pos ≤ s.size ∧ runesGo s f pos N = runes s ∧ s.size ≤ pos + f) (fun _ w' => s.size - w'.iterPos w.heap.size)
  case atStart => exact ⟨0, s.size, 0, rfl, rfl, by omega, by omega, rfl, by omega⟩
  case round =>
    obtain ⟨pos, f, N, rfl, rfl, hN, hpl, hc, hb⟩ := hrel
    have HC := Lib.hid hc; clear hc
    by_cases hp : pos < s.size
    · have hnx : ∀ ty, (Instr.next (.pointer (some ⟨w.heap.size, 0, none⟩)) true ty).run Tryd.prog (w.iter s pos) = _ := fun ty => run_next_any w s pos ty hp
      have hw1 := wd_pos s pos hp
      have hw2 := wd_le s pos hp
      go_wp2
      go_roundw
      case rel =>
        obtain ⟨f, rfl⟩ : ∃ g, f = g + 1 := ⟨f - 1, by omega⟩
        refine ⟨pos + wd s pos, f, N + 1, rfl, by go_num, by omega, by omega, ?_, by omega⟩
        rw [← HC.out]
        simp only [runesGo, if_pos hp]
      case measure =>
        unfold wd at hw1
        simp
        omega
    · have hnx : ∀ ty, (Instr.next (.pointer (some ⟨w.heap.size, 0, none⟩)) true ty).run Tryd.prog (w.iter s pos) = _ := fun ty => run_next_end w s pos ty hp
      go_wp2
      go_ret
      have := HC.out
      rw [runesGo_stop _ _ _ _ hp] at this
      subst this
      exact ⟨rfl, below_iter _ _ _⟩

def markL : List Int := [40, 41, 44, 59, 61, 60, 62, 43, 45, 42, 124, 33, 58]
def spaceL : List Int := [32, 9, 10, 13]
def wordL : List Int := [95, 39]
def classV (r : Int) : Int := if r ∈ wordL then 1 else if r ∈ spaceL then 3 else if r ∈ markL then 4 else if 48 ≤ r ∧ r ≤ 57 then 2 else if isLetterU r then 1 else 0
theorem ne_b {r k : Int} (h : r ≠ k) : (r == k) = false := beq_eq_false_iff_ne.2 h
set_option maxHeartbeats 1000000 in
theorem class_any (r : Int) (w : World) (hlo : -2147483648 ≤ r) (hhi : r ≤ 2147483647) (hT : Tabs w) :
    Calls Tryd.prog 25 #[.int .i32 r] w fun e w' => e = .returned (.int .i64 (classV r)) ∧ Below w.heap.size w w' := by
  have HT : Hid (Tabs w) := Lib.hid hT
  by_cases h1 : r ∈ wordL
  · rw [show classV r = 1 from if_pos h1]
    simp only [wordL, List.mem_cons, List.mem_nil_iff, or_false] at h1
    clear hlo hhi hT
    rcases h1 with rfl | rfl
    all_goals (go_enter Tryd.func25, Tryd.ntmps25; go_wp2; go_ret; exact ⟨rfl, Below.refl _ _⟩)
  by_cases h2 : r ∈ spaceL
  · rw [show classV r = 3 from by unfold classV; rw [if_neg h1, if_pos h2]]
    simp only [spaceL, List.mem_cons, List.mem_nil_iff, or_false] at h2
    clear hlo hhi hT h1
    rcases h2 with rfl | rfl | rfl | rfl
    all_goals (go_enter Tryd.func25, Tryd.ntmps25; go_wp2; go_ret; exact ⟨rfl, Below.refl _ _⟩)
  by_cases h3 : r ∈ markL
  · rw [show classV r = 4 from by unfold classV; rw [if_neg h1, if_neg h2, if_pos h3]]
    simp only [markL, List.mem_cons, List.mem_nil_iff, or_false] at h3
    clear hlo hhi hT h1 h2
    rcases h3 with rfl | rfl | rfl | rfl | rfl | rfl | rfl | rfl | rfl | rfl | rfl | rfl | rfl
    all_goals (go_enter Tryd.func25, Tryd.ntmps25; go_wp2; go_ret; exact ⟨rfl, Below.refl _ _⟩)
  have e : classV r = if 48 ≤ r ∧ r ≤ 57 then 2 else if isLetterU r then 1 else 0 := by unfold classV; rw [if_neg h1, if_neg h2, if_neg h3]
  rw [e]; clear e
  simp only [wordL, spaceL, markL, List.mem_cons, List.mem_nil_iff, or_false, not_or] at h1 h2 h3
  obtain ⟨n1, n2⟩ := h1
  obtain ⟨n3, n4, n5, n6⟩ := h2
  obtain ⟨n7, n8, n9, n10, n11, n12, n13, n14, n15, n16, n17, n18, n19⟩ := h3
  have m1 := ne_b n1; have m2 := ne_b n2; have m3 := ne_b n3; have m4 := ne_b n4; have m5 := ne_b n5; have m6 := ne_b n6; have m7 := ne_b n7; have m8 := ne_b n8; have m9 := ne_b n9; have m10 := ne_b n10
  have m11 := ne_b n11; have m12 := ne_b n12; have m13 := ne_b n13; have m14 := ne_b n14; have m15 := ne_b n15; have m16 := ne_b n16; have m17 := ne_b n17; have m18 := ne_b n18; have m19 := ne_b n19
  clear n1 n2 n3 n4 n5 n6 n7 n8 n9 n10 n11 n12 n13 n14 n15 n16 n17 n18 n19
  by_cases hd : 48 ≤ r ∧ r ≤ 57
  · rw [if_pos hd]
    obtain ⟨d1, d2⟩ := hd
    clear hT
    go_enter Tryd.func25, Tryd.ntmps25
    go_wp2; go_ret; exact ⟨rfl, Below.refl _ _⟩
  · rw [if_neg hd]
    have c : Calls Tryd.prog 34 #[.int .i32 r] w fun e w' => e = .returned (.bool (isLetterU r)) ∧ Below w.heap.size w w' := Tryd.unicode_IsLetter_all r w hlo hhi hT.props hT.letter
    have C := Lib.hid c; clear c hT
    cases hb : isLetterU r
    all_goals
      have HB := Lib.hid hb; clear hb
      by_cases hx : r < 48
      · clear hd
        go_enter Tryd.func25, Tryd.ntmps25
        go_wp2_with fail
        refine C.out.mono ?_; rintro e w1 ⟨rfl, hb1⟩
        rw [HB.out]
        go_wp2; go_ret; exact ⟨rfl, hb1⟩
      · have hy : 57 < r := by omega
        have hx' : 48 ≤ r := by omega
        clear hd hx
        go_enter Tryd.func25, Tryd.ntmps25
        go_wp2_with fail
        refine C.out.mono ?_; rintro e w1 ⟨rfl, hb1⟩
        rw [HB.out]
        go_wp2; go_ret; exact ⟨rfl, hb1⟩
theorem letter_space : spaceL.all (fun r => !isLetterU r) = true := by decide +kernel
theorem letter_mark : markL.all (fun r => !isLetterU r) = true := by decide +kernel
theorem letter_digit (r : Int) (h : 48 ≤ r ∧ r ≤ 57) : isLetterU r = false := by
  have : (List.range 10).all (fun k => !isLetterU (48 + (k : Int))) = true := by decide +kernel
  have h2 := List.all_eq_true.1 this (r - 48).toNat (List.mem_range.2 (by omega))
  rw [show (48 : Int) + ((r - 48).toNat : Int) = r from by omega] at h2
  simpa using h2
def MK : ByteArray := { data := #[40, 41, 44, 59, 61, 60, 62, 43, 45, 42, 124, 33, 58] }
theorem mk_get (k : Nat) (h : k < MK.size) : wrap32 ((MK[k]'h).toNat : Int) = markL.getD k 0 ∧ markL.getD k 0 ∈ markL := by
  have hk : k < 13 := h
  have : ∀ k : Fin 13, wrap32 ((MK[k.val]'k.isLt).toNat : Int) = markL.getD k.val 0 ∧ markL.getD k.val 0 ∈ markL := by unfold wrap32; decide
  exact this ⟨k, hk⟩
theorem mk_all (r : Int) (h : ∀ j, j < 13 → r ≠ markL.getD j 0) : r ∉ markL := by
  intro hm
  simp only [markL, List.mem_cons, List.mem_nil_iff, or_false] at hm
  have e := fun j hj => h j hj
  rcases hm with rfl | rfl | rfl | rfl | rfl | rfl | rfl | rfl | rfl | rfl | rfl | rfl | rfl
  · exact h 0 (by omega) rfl
  · exact h 1 (by omega) rfl
  · exact h 2 (by omega) rfl
  · exact h 3 (by omega) rfl
  · exact h 4 (by omega) rfl
  · exact h 5 (by omega) rfl
  · exact h 6 (by omega) rfl
  · exact h 7 (by omega) rfl
  · exact h 8 (by omega) rfl
  · exact h 9 (by omega) rfl
  · exact h 10 (by omega) rfl
  · exact h 11 (by omega) rfl
  · exact h 12 (by omega) rfl
theorem mark_not (r : Int) (h : r ∈ markL) : r ∉ wordL ∧ r ∉ spaceL := by
  have : markL.all (fun r => !wordL.contains r && !spaceL.contains r) = true := by decide
  have := List.all_eq_true.1 this r h
  simpa using this
set_option maxHeartbeats 2000000 in
theorem rclass_any (r : Int) (w : World) (hlo : -2147483648 ≤ r) (hhi : r ≤ 2147483647) (hT : Tabs w) :
    Calls Tryd.prog 30 #[.int .i32 r] w fun e w' => e = .returned (.int .i64 (classV r)) ∧ Below w.heap.size w w' := by
  by_cases h1 : r ∈ wordL
  · rw [show classV r = 1 from if_pos h1]
    simp only [wordL, List.mem_cons, List.mem_nil_iff, or_false] at h1
    clear hlo hhi hT
    rcases h1 with rfl | rfl
    all_goals (go_enter Tryd.func30, Tryd.ntmps30; go_wp2; go_ret; exact ⟨rfl, Below.refl _ _⟩)
  have c : Calls Tryd.prog 34 #[.int .i32 r] w fun e w' => e = .returned (.bool (isLetterU r)) ∧ Below w.heap.size w w' := Tryd.unicode_IsLetter_all r w hlo hhi hT.props hT.letter
  have C := Lib.hid c; clear c hT
  by_cases h2 : r ∈ spaceL
  · have hb : isLetterU r = false := by have := List.all_eq_true.1 letter_space r h2; simpa using this
    have HB := Lib.hid hb; clear hb
    rw [show classV r = 3 from by unfold classV; rw [if_neg h1, if_pos h2]]
    simp only [spaceL, List.mem_cons, List.mem_nil_iff, or_false] at h2
    clear hlo hhi h1
    rcases h2 with rfl | rfl | rfl | rfl
    all_goals (go_enter Tryd.func30, Tryd.ntmps30; go_wp2_with fail; refine C.out.mono ?_; rintro e w1 ⟨rfl, hb1⟩; rw [HB.out]; go_wp2; go_ret; exact ⟨rfl, hb1⟩)
  have H1 := Lib.hid h1
  have H2 := Lib.hid h2
  simp only [wordL, spaceL, List.mem_cons, List.mem_nil_iff, or_false, not_or] at h1 h2
  obtain ⟨n1, n2⟩ := h1
  obtain ⟨n3, n4, n5, n6⟩ := h2
  have m1 := ne_b n1; have m2 := ne_b n2; have m3 := ne_b n3; have m4 := ne_b n4; have m5 := ne_b n5; have m6 := ne_b n6
  clear n1 n2 n3 n4 n5 n6
  by_cases hd : 48 ≤ r ∧ r ≤ 57
  · have hb := letter_digit r hd
    have hm : r ∉ markL := by simp only [markL, List.mem_cons, List.mem_nil_iff, or_false]; omega
    rw [show classV r = 2 from by unfold classV; rw [if_neg H1.out, if_neg H2.out, if_neg hm, if_pos hd]]
    have HB := Lib.hid hb; clear hb hm
    obtain ⟨d1, d2⟩ := hd
    go_enter Tryd.func30, Tryd.ntmps30
    go_wp2_with fail; refine C.out.mono ?_; rintro e w1 ⟨rfl, hb1⟩; rw [HB.out]
    go_wp2; go_ret; exact ⟨rfl, hb1⟩
  cases hb : isLetterU r
  case true =>
    have hm : r ∉ markL := fun hm => by have := List.all_eq_true.1 letter_mark r hm; rw [hb] at this; cases this
    rw [show classV r = 1 from by unfold classV; rw [if_neg H1.out, if_neg H2.out, if_neg hm, if_neg hd, hb]; rfl]
    have HB := Lib.hid hb; clear hb hd hm
    go_enter Tryd.func30, Tryd.ntmps30
    go_wp2_with fail
    refine C.out.mono ?_; rintro e w1 ⟨rfl, hb1⟩
    rw [HB.out]
    go_wp2; go_ret; exact ⟨rfl, hb1⟩
  case false =>
    have HB := Lib.hid hb; clear hb
    have HD := Lib.hid hd
    have hd2 : r < 48 ∨ 57 < r := by omega
    clear hd
    rcases hd2 with hd | hd
    rotate_left
    · have hd3 : 48 ≤ r := by omega
      go_enter Tryd.func30, Tryd.ntmps30
      go_wp2_with fail
      refine C.out.mono ?_; rintro e w1 ⟨rfl, hb1⟩
      rw [HB.out]
      go_wp2
      go_loop [4] (fun i => ∃ k : Nat, k ≤ 13 ∧ i = .int .i64 k ∧ Hid (∀ j, j < k → r ≠ markL.getD j 0)) (fun i => 13 - (intOf i).toNat)
      case atStart => exact ⟨0, by omega, rfl, Lib.hid (fun j hj => by omega)⟩
      case round =>
        obtain ⟨k, hk, rfl, hn⟩ := hrel
        by_cases hlt : k < 13
        · have hg := mk_get k hlt
          have HG := Lib.hid hg; clear hg
          go_wp2
          · have he : (r == wrap32 ((MK[k]'hlt).toNat : Int)) = true := by assumption
            go_ret
            have he2 := beq_iff_eq.1 he
            have hm : r ∈ markL := by rw [he2, HG.out.1]; exact HG.out.2
            rw [show classV r = 4 from by unfold classV; rw [if_neg H1.out, if_neg H2.out, if_pos hm]]
            exact ⟨rfl, hb1⟩
          · have he : (r == wrap32 ((MK[k]'hlt).toNat : Int)) = false := by assumption
            go_round
            case rel =>
              refine ⟨k + 1, by omega, by go_num, Lib.hid (fun j hj => ?_)⟩
              by_cases hjk : j = k
              · subst hjk; rw [← HG.out.1]; exact beq_eq_false_iff_ne.1 he
              · exact hn.out j (by omega)
            case measure => simp [intOf]; omega
        · go_wp2
          go_ret
          have hm : r ∉ markL := mk_all r (fun j hj => hn.out j (by omega))
          rw [show classV r = 0 from by unfold classV; rw [if_neg H1.out, if_neg H2.out, if_neg hm, if_neg HD.out, HB.out]; rfl]
          exact ⟨rfl, hb1⟩
    · go_enter Tryd.func30, Tryd.ntmps30
      go_wp2_with fail
      refine C.out.mono ?_; rintro e w1 ⟨rfl, hb1⟩
      rw [HB.out]
      go_wp2
      go_loop [4] (fun i => ∃ k : Nat, k ≤ 13 ∧ i = .int .i64 k ∧ Hid (∀ j, j < k → r ≠ markL.getD j 0)) (fun i => 13 - (intOf i).toNat)
      case atStart => exact ⟨0, by omega, rfl, Lib.hid (fun j hj => by omega)⟩
      case round =>
        obtain ⟨k, hk, rfl, hn⟩ := hrel
        by_cases hlt : k < 13
        · have hg := mk_get k hlt
          have HG := Lib.hid hg; clear hg
          go_wp2
          · have he : (r == wrap32 ((MK[k]'hlt).toNat : Int)) = true := by assumption
            go_ret
            have he2 := beq_iff_eq.1 he
            have hm : r ∈ markL := by rw [he2, HG.out.1]; exact HG.out.2
            rw [show classV r = 4 from by unfold classV; rw [if_neg H1.out, if_neg H2.out, if_pos hm]]
            exact ⟨rfl, hb1⟩
          · have he : (r == wrap32 ((MK[k]'hlt).toNat : Int)) = false := by assumption
            go_round
            case rel =>
              refine ⟨k + 1, by omega, by go_num, Lib.hid (fun j hj => ?_)⟩
              by_cases hjk : j = k
              · subst hjk; rw [← HG.out.1]; exact beq_eq_false_iff_ne.1 he
              · exact hn.out j (by omega)
            case measure => simp [intOf]; omega
        · go_wp2
          go_ret
          have hm : r ∉ markL := mk_all r (fun j hj => hn.out j (by omega))
          rw [show classV r = 0 from by unfold classV; rw [if_neg H1.out, if_neg H2.out, if_neg hm, if_neg HD.out, HB.out]; rfl]
          exact ⟨rfl, hb1⟩
set_option maxHeartbeats 400000 in
theorem count_any (s : ByteArray) (w : World) (hs : s.size ≤ maxLen) : Calls Tryd.prog 33 #[.string s] w fun e w' => e = .returned (.int .i64 (runes s)) ∧ Below w.heap.size w w' := by
  unfold maxLen at hs
  go_enter Tryd.func33, Tryd.ntmps33
  go_wp2
  go_loopw [3] (fun n w' => ∃ (pos f N : Nat), w' = w.iter s pos ∧ n = .int .i64 N ∧ N ≤ pos ∧ pos ≤ s.size ∧ Hid (runesGo s f pos N = runes s) ∧ s.size ≤ pos + f) (fun _ w' => s.size - w'.iterPos w.heap.size)
  case atStart => exact ⟨0, s.size, 0, rfl, rfl, by omega, by omega, Lib.hid rfl, by omega⟩
  case round =>
    obtain ⟨pos, f, N, rfl, rfl, hN, hpl, HC, hb⟩ := hrel
    by_cases hp : pos < s.size
    · have hnx : ∀ ty, (Instr.next (.pointer (some ⟨w.heap.size, 0, none⟩)) true ty).run Tryd.prog (w.iter s pos) = _ := fun ty => run_next_any w s pos ty hp
      have hw1 := wd_pos s pos hp
      have hw2 := wd_le s pos hp
      go_wp2
      go_roundw
      case rel =>
        obtain ⟨f, rfl⟩ : ∃ g, f = g + 1 := ⟨f - 1, by omega⟩
        refine ⟨pos + wd s pos, f, N + 1, rfl, by go_num, by omega, by omega, Lib.hid ?_, by omega⟩
        rw [← HC.out]
        simp only [runesGo, if_pos hp]
      case measure =>
        unfold wd at hw1
        simp
        omega
    · have hnx : ∀ ty, (Instr.next (.pointer (some ⟨w.heap.size, 0, none⟩)) true ty).run Tryd.prog (w.iter s pos) = _ := fun ty => run_next_end w s pos ty hp
      go_wp2
      go_ret
      have := HC.out
      rw [runesGo_stop _ _ _ _ hp] at this
      subst this
      exact ⟨rfl, below_iter _ _ _⟩
def upperV (s : ByteArray) : Bool := if 0 < s.size then isUpperU (rn s 0) else false
theorem upper_any (s : ByteArray) (w : World) (hT : Tabs w) : Calls Tryd.prog 36 #[.string s] w fun e w' => e = .returned (.bool (upperV s)) ∧ Below w.heap.size w w' := by
  have HT := Lib.hid hT; clear hT
  by_cases hp : 0 < s.size
  · rw [show upperV s = isUpperU (rn s 0) from if_pos hp]
    have hr := rn_le s 0 hp
    have hnx : ∀ ty, (Instr.next (.pointer (some ⟨w.heap.size, 0, none⟩)) true ty).run Tryd.prog (w.iter s 0) = _ := fun ty => run_next_any w s 0 ty hp
    go_enter Tryd.func36, Tryd.ntmps36
    go_wp2
    refine wp_loop_rounds 1 ?_
    rw [rounds_succ]
    go_wp2_with fail
    refine (Tryd.unicode_IsUpper_all _ _ (by unfold rn at hr; omega) (by unfold rn at hr; omega) (HT.out.below (below_iter _ _ _)).props (HT.out.below (below_iter _ _ _)).upper).mono ?_
    rintro e w2 ⟨rfl, hb2⟩
    go_wp2
    go_ret
    exact ⟨rfl, (below_iter w s _).trans (hb2.mono (below_iter w s _).size)⟩
  · rw [show upperV s = false from if_neg hp]
    have hnx : ∀ ty, (Instr.next (.pointer (some ⟨w.heap.size, 0, none⟩)) true ty).run Tryd.prog (w.iter s 0) = _ := fun ty => run_next_end w s 0 ty hp
    go_enter Tryd.func36, Tryd.ntmps36
    go_wp2
    refine wp_loop_rounds 1 ?_
    rw [rounds_succ]
    go_wp2
    go_ret
    exact ⟨rfl, below_iter _ _ _⟩
end Go.Proofs.YtebgloacobaocaaDoor
