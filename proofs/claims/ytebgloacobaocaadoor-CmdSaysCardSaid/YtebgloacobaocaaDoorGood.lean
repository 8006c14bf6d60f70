import Derived.Test.YtebgloacobaocaaDoorNum
import Derived.Deep.Cut
namespace Go.Proofs.YtebgloacobaocaaDoor
open Go.ChangeShapes Go.WideShapes Go.ChangeAt Go.RowKit Go.Shelf Go.Lib CharsMath
set_option linter.unusedVariables false
def leastV (k : Int) : Int := if numberedV k then (if k = 10 then 0 else 1) else 0
def mostV (k : Int) : Int := if numberedV k then 999999999 else 0
def goodV (k n : Int) (name : ByteArray) : Bool :=
  if (verbV k).size = 0 then false else if n < leastV k then false else if mostV k < n then false
  else if namedV k then lowerV name && decide (runes name ≤ 40) else decide (name.size = 0)
theorem box3 (w : World) (a b c : Value) : (w.alloc (.cells #[a, b, c] 24)).cell? ⟨w.heap.size, 0, none⟩ = some a ∧ (w.alloc (.cells #[a, b, c] 24)).cell? ⟨w.heap.size, 1, none⟩ = some b ∧ (w.alloc (.cells #[a, b, c] 24)).cell? ⟨w.heap.size, 2, none⟩ = some c := by
  have := (MapKept.heap_alloc w (Obj.cells #[a, b, c] 24)).1
  refine ⟨?_, ?_, ?_⟩ <;> (unfold World.cell?; rw [this]; rfl)
theorem isEmpty_of (s : ByteArray) (h : ¬ s.size = 0) : s.toList.isEmpty = false := by
  have := nonempty_B s
  rw [decide_eq_true (by omega)] at this
  simpa using this
theorem emptyV : (⟨#[]⟩ : ByteArray).toList = [] := by
  unfold ByteArray.toList
  rw [ByteArray.toList.loop]
  rfl
set_option maxRecDepth 100000 in
set_option maxHeartbeats 4000000 in
theorem good_any (k n : Int) (name : ByteArray) (w : World) (hs : name.size ≤ maxLen) (hT : Tabs w) :
    Calls Tryd.prog 18 #[.agg #[.int .i64 k, .int .i64 n, .string name]] w fun e w' => e = .returned (.bool (goodV k n name)) ∧ Below w.heap.size w w' := by
  have HT := Lib.hid hT
  have HS := Lib.hid hs
  clear hT hs
  obtain ⟨c0, c1, c2⟩ := box3 w (.int .i64 k) (.int .i64 n) (.string name)
  have B0 := Lib.hid (below_alloc w (.cells #[.int .i64 k, .int .i64 n, .string name] 24))
  obtain ⟨nb, hnb⟩ : ∃ nb, nb = numberedV k := ⟨_, rfl⟩
  obtain ⟨md, hmd⟩ : ∃ md, md = namedV k := ⟨_, rfl⟩
  have NB := Lib.hid (numbered_any k); have MD := Lib.hid (named_any k)
  rw [← hnb] at NB; rw [← hmd] at MD
  have HNB := Lib.hid hnb; have HMD := Lib.hid hmd
  have VB := Lib.hid (verb_any k)
  obtain ⟨v, hv⟩ : ∃ v, v = verbV k := ⟨_, rfl⟩
  rw [← hv] at VB
  have HV := Lib.hid hv
  obtain ⟨least, hle⟩ : ∃ least, least = leastV k := ⟨_, rfl⟩
  obtain ⟨most, hmo⟩ : ∃ most, most = mostV k := ⟨_, rfl⟩
  have HLE := Lib.hid hle; have HMO := Lib.hid hmo
  clear hnb hmd hv hle hmo
  have GV : Hid (goodV k n name = if v.size = 0 then false else if n < least then false else if most < n then false else if md then lowerV name && decide (runes name ≤ 40) else decide (name.size = 0)) := Lib.hid (by unfold goodV; rw [← HV.out, ← HLE.out, ← HMO.out, ← HMD.out])
  have HC : (nb = true ∧ (k == 10) = false ∧ least = 1 ∧ most = 999999999) ∨ (nb = true ∧ k = 10 ∧ least = 0 ∧ most = 999999999) ∨ (nb = false ∧ (k == 10) = false ∧ least = 0 ∧ most = 0) := by
    rw [HNB.out, HLE.out, HMO.out]
    unfold leastV mostV
    by_cases h10 : k = 10
    · subst h10; exact .inr (.inl ⟨rfl, rfl, rfl, rfl⟩)
    · cases hn : numberedV k
      · exact .inr (.inr ⟨rfl, ne_b h10, by simp, by simp⟩)
      · exact .inl ⟨rfl, ne_b h10, by simp [h10], by simp⟩
  clear HNB HLE HMO HMD HV
  rcases HC with ⟨rfl, e10, rfl, rfl⟩ | ⟨rfl, rfl, rfl, rfl⟩ | ⟨rfl, e10, rfl, rfl⟩
  · by_cases hv : v.size = 0
    · have FV : Hid (goodV _ n name = false) := Lib.hid (by rw [GV.out, if_pos hv])
      obtain rfl := size0 hv
      have ev := emptyV
      clear hv GV
      go_enter Tryd.func18, Tryd.ntmps18
      go_wp2_with ((go_at_call 15; refine (NB.out _).mono ?_; rintro e w1 ⟨rfl, rfl⟩))
      refine (VB.out _).mono ?_; rintro e w1 ⟨rfl, hb1⟩
      have HB := Lib.hid (bt B0.out hb1)
      have k1 := (hb1.cell (p := ⟨w.heap.size, 1, none⟩) (by simp)).trans c1
      clear hb1
      go_wp2
      go_ret
      exact ⟨by rw [FV.out]; rfl, HB.out⟩
    · have ev := isEmpty_of v hv
      rw [if_neg hv] at GV
      clear hv
      go_enter Tryd.func18, Tryd.ntmps18
      go_wp2_with ((go_at_call 15; refine (NB.out _).mono ?_; rintro e w1 ⟨rfl, rfl⟩))
      refine (VB.out _).mono ?_; rintro e w1 ⟨rfl, hb1⟩
      have HB := Lib.hid (bt B0.out hb1)
      have k1 := (hb1.cell (p := ⟨w.heap.size, 1, none⟩) (by simp)).trans c1
      have k0 := (hb1.cell (p := ⟨w.heap.size, 0, none⟩) (by simp)).trans c0
      have k2 := (hb1.cell (p := ⟨w.heap.size, 2, none⟩) (by simp)).trans c2
      clear hb1
      have T1 := Lib.hid (HT.out.below HB.out)
      by_cases h1 : n < 1
      · have FV : Hid (goodV _ n name = false) := Lib.hid (by rw [GV.out, if_pos h1])
        have d1 := decide_eq_true h1
        clear h1 GV
        go_wp2
        go_ret
        exact ⟨by rw [FV.out]; rfl, HB.out⟩
      rw [if_neg h1] at GV
      have d1 := decide_eq_false h1
      by_cases h2 : 999999999 < n
      · have FV : Hid (goodV _ n name = false) := Lib.hid (by rw [GV.out, if_pos h2])
        have d2 := decide_eq_true h2
        clear h1 h2 GV
        go_wp2
        go_ret
        exact ⟨by rw [FV.out]; rfl, HB.out⟩
      rw [if_neg h2] at GV
      have d2 := decide_eq_false h2
      clear h1 h2
      cases md with
      | false =>
        by_cases hn : name.size = 0
        · have FV : Hid (goodV _ n name = true) := Lib.hid (by rw [GV.out, if_neg (by simp), decide_eq_true hn])
          obtain rfl := size0 hn
          have en := emptyV
          clear hn GV
          go_wp2_with ((go_at_call 16; refine (MD.out _).mono ?_; rintro e w2 ⟨rfl, rfl⟩))
          go_ret
          exact ⟨by rw [FV.out]; rfl, HB.out⟩
        · have FV : Hid (goodV _ n name = false) := Lib.hid (by rw [GV.out, if_neg (by simp), decide_eq_false hn])
          have en := isEmpty_of name hn
          clear hn GV
          go_wp2_with ((go_at_call 16; refine (MD.out _).mono ?_; rintro e w2 ⟨rfl, rfl⟩))
          go_ret
          exact ⟨by rw [FV.out]; rfl, HB.out⟩
      | true =>
        rw [if_pos rfl] at GV
        have LW := Lib.hid (lower_any name w1 HS.out T1.out)
        cases hl : lowerV name with
        | false =>
          have FV : Hid (goodV _ n name = false) := Lib.hid (by rw [GV.out, hl]; rfl)
          rw [hl] at LW
          clear hl GV
          go_wp2_with ((go_at_call 16; refine (MD.out _).mono ?_; rintro e w2 ⟨rfl, rfl⟩))
          refine LW.out.mono ?_; rintro e w2 ⟨rfl, hb2⟩
          have HB2 := Lib.hid (bt HB.out hb2)
          clear hb2
          go_wp2
          go_ret
          exact ⟨by rw [FV.out]; rfl, HB2.out⟩
        | true =>
          have FV : Hid (goodV _ n name = decide (runes name ≤ 40)) := Lib.hid (by rw [GV.out, hl]; rfl)
          rw [hl] at LW
          obtain ⟨q, hq⟩ : ∃ q, q = runes name := ⟨_, rfl⟩
          have RN := Lib.hid (fun W => runes_any name W HS.out)
          rw [← hq] at RN FV
          clear hl GV hq
          go_wp2_with ((go_at_call 16; refine (MD.out _).mono ?_; rintro e w2 ⟨rfl, rfl⟩))
          refine LW.out.mono ?_; rintro e w2 ⟨rfl, hb2⟩
          have HB2 := Lib.hid (bt HB.out hb2)
          have j2 : w2.cell? ⟨w.heap.size, 2, none⟩ = some (.string name) := (hb2.cell (p := ⟨w.heap.size, 2, none⟩) (World.block_lt_of_cell? _ _ k2)).trans k2
          clear hb2
          go_wp2_with fail
          refine (RN.out _).mono ?_; rintro e w3 ⟨rfl, hb3⟩
          have HB3 := Lib.hid (bt HB2.out hb3)
          clear hb3
          by_cases h40 : q ≤ 40
          · have d4 := decide_eq_true (show (q : Int) ≤ 40 by omega)
            rw [decide_eq_true h40] at FV
            clear h40
            go_wp2
            go_ret
            exact ⟨by rw [FV.out]; rfl, HB3.out⟩
          · have d4 := decide_eq_false (show ¬ (q : Int) ≤ 40 by omega)
            rw [decide_eq_false h40] at FV
            clear h40
            go_wp2
            go_ret
            exact ⟨by rw [FV.out]; rfl, HB3.out⟩
  · by_cases hv : v.size = 0
    · have FV : Hid (goodV _ n name = false) := Lib.hid (by rw [GV.out, if_pos hv])
      obtain rfl := size0 hv
      have ev := emptyV
      clear hv GV
      go_enter Tryd.func18, Tryd.ntmps18
      go_wp2_with ((go_at_call 15; refine (NB.out _).mono ?_; rintro e w1 ⟨rfl, rfl⟩))
      refine (VB.out _).mono ?_; rintro e w1 ⟨rfl, hb1⟩
      have HB := Lib.hid (bt B0.out hb1)
      have k1 := (hb1.cell (p := ⟨w.heap.size, 1, none⟩) (by simp)).trans c1
      clear hb1
      go_wp2
      go_ret
      exact ⟨by rw [FV.out]; rfl, HB.out⟩
    · have ev := isEmpty_of v hv
      rw [if_neg hv] at GV
      clear hv
      go_enter Tryd.func18, Tryd.ntmps18
      go_wp2_with ((go_at_call 15; refine (NB.out _).mono ?_; rintro e w1 ⟨rfl, rfl⟩))
      refine (VB.out _).mono ?_; rintro e w1 ⟨rfl, hb1⟩
      have HB := Lib.hid (bt B0.out hb1)
      have k1 := (hb1.cell (p := ⟨w.heap.size, 1, none⟩) (by simp)).trans c1
      have k0 := (hb1.cell (p := ⟨w.heap.size, 0, none⟩) (by simp)).trans c0
      have k2 := (hb1.cell (p := ⟨w.heap.size, 2, none⟩) (by simp)).trans c2
      clear hb1
      have T1 := Lib.hid (HT.out.below HB.out)
      by_cases h1 : n < 0
      · have FV : Hid (goodV _ n name = false) := Lib.hid (by rw [GV.out, if_pos h1])
        have d1 := decide_eq_true h1
        clear h1 GV
        go_wp2
        go_ret
        exact ⟨by rw [FV.out]; rfl, HB.out⟩
      rw [if_neg h1] at GV
      have d1 := decide_eq_false h1
      by_cases h2 : 999999999 < n
      · have FV : Hid (goodV _ n name = false) := Lib.hid (by rw [GV.out, if_pos h2])
        have d2 := decide_eq_true h2
        clear h1 h2 GV
        go_wp2
        go_ret
        exact ⟨by rw [FV.out]; rfl, HB.out⟩
      rw [if_neg h2] at GV
      have d2 := decide_eq_false h2
      clear h1 h2
      cases md with
      | false =>
        by_cases hn : name.size = 0
        · have FV : Hid (goodV _ n name = true) := Lib.hid (by rw [GV.out, if_neg (by simp), decide_eq_true hn])
          obtain rfl := size0 hn
          have en := emptyV
          clear hn GV
          go_wp2_with ((go_at_call 16; refine (MD.out _).mono ?_; rintro e w2 ⟨rfl, rfl⟩))
          go_ret
          exact ⟨by rw [FV.out]; rfl, HB.out⟩
        · have FV : Hid (goodV _ n name = false) := Lib.hid (by rw [GV.out, if_neg (by simp), decide_eq_false hn])
          have en := isEmpty_of name hn
          clear hn GV
          go_wp2_with ((go_at_call 16; refine (MD.out _).mono ?_; rintro e w2 ⟨rfl, rfl⟩))
          go_ret
          exact ⟨by rw [FV.out]; rfl, HB.out⟩
      | true =>
        rw [if_pos rfl] at GV
        have LW := Lib.hid (lower_any name w1 HS.out T1.out)
        cases hl : lowerV name with
        | false =>
          have FV : Hid (goodV _ n name = false) := Lib.hid (by rw [GV.out, hl]; rfl)
          rw [hl] at LW
          clear hl GV
          go_wp2_with ((go_at_call 16; refine (MD.out _).mono ?_; rintro e w2 ⟨rfl, rfl⟩))
          refine LW.out.mono ?_; rintro e w2 ⟨rfl, hb2⟩
          have HB2 := Lib.hid (bt HB.out hb2)
          clear hb2
          go_wp2
          go_ret
          exact ⟨by rw [FV.out]; rfl, HB2.out⟩
        | true =>
          have FV : Hid (goodV _ n name = decide (runes name ≤ 40)) := Lib.hid (by rw [GV.out, hl]; rfl)
          rw [hl] at LW
          obtain ⟨q, hq⟩ : ∃ q, q = runes name := ⟨_, rfl⟩
          have RN := Lib.hid (fun W => runes_any name W HS.out)
          rw [← hq] at RN FV
          clear hl GV hq
          go_wp2_with ((go_at_call 16; refine (MD.out _).mono ?_; rintro e w2 ⟨rfl, rfl⟩))
          refine LW.out.mono ?_; rintro e w2 ⟨rfl, hb2⟩
          have HB2 := Lib.hid (bt HB.out hb2)
          have j2 : w2.cell? ⟨w.heap.size, 2, none⟩ = some (.string name) := (hb2.cell (p := ⟨w.heap.size, 2, none⟩) (World.block_lt_of_cell? _ _ k2)).trans k2
          clear hb2
          go_wp2_with fail
          refine (RN.out _).mono ?_; rintro e w3 ⟨rfl, hb3⟩
          have HB3 := Lib.hid (bt HB2.out hb3)
          clear hb3
          by_cases h40 : q ≤ 40
          · have d4 := decide_eq_true (show (q : Int) ≤ 40 by omega)
            rw [decide_eq_true h40] at FV
            clear h40
            go_wp2
            go_ret
            exact ⟨by rw [FV.out]; rfl, HB3.out⟩
          · have d4 := decide_eq_false (show ¬ (q : Int) ≤ 40 by omega)
            rw [decide_eq_false h40] at FV
            clear h40
            go_wp2
            go_ret
            exact ⟨by rw [FV.out]; rfl, HB3.out⟩
  · by_cases hv : v.size = 0
    · have FV : Hid (goodV _ n name = false) := Lib.hid (by rw [GV.out, if_pos hv])
      obtain rfl := size0 hv
      have ev := emptyV
      clear hv GV
      go_enter Tryd.func18, Tryd.ntmps18
      go_wp2_with ((go_at_call 15; refine (NB.out _).mono ?_; rintro e w1 ⟨rfl, rfl⟩))
      refine (VB.out _).mono ?_; rintro e w1 ⟨rfl, hb1⟩
      have HB := Lib.hid (bt B0.out hb1)
      have k1 := (hb1.cell (p := ⟨w.heap.size, 1, none⟩) (by simp)).trans c1
      clear hb1
      go_wp2
      go_ret
      exact ⟨by rw [FV.out]; rfl, HB.out⟩
    · have ev := isEmpty_of v hv
      rw [if_neg hv] at GV
      clear hv
      go_enter Tryd.func18, Tryd.ntmps18
      go_wp2_with ((go_at_call 15; refine (NB.out _).mono ?_; rintro e w1 ⟨rfl, rfl⟩))
      refine (VB.out _).mono ?_; rintro e w1 ⟨rfl, hb1⟩
      have HB := Lib.hid (bt B0.out hb1)
      have k1 := (hb1.cell (p := ⟨w.heap.size, 1, none⟩) (by simp)).trans c1
      have k0 := (hb1.cell (p := ⟨w.heap.size, 0, none⟩) (by simp)).trans c0
      have k2 := (hb1.cell (p := ⟨w.heap.size, 2, none⟩) (by simp)).trans c2
      clear hb1
      have T1 := Lib.hid (HT.out.below HB.out)
      by_cases h1 : n < 0
      · have FV : Hid (goodV _ n name = false) := Lib.hid (by rw [GV.out, if_pos h1])
        have d1 := decide_eq_true h1
        clear h1 GV
        go_wp2
        go_ret
        exact ⟨by rw [FV.out]; rfl, HB.out⟩
      rw [if_neg h1] at GV
      have d1 := decide_eq_false h1
      by_cases h2 : 0 < n
      · have FV : Hid (goodV _ n name = false) := Lib.hid (by rw [GV.out, if_pos h2])
        have d2 := decide_eq_true h2
        clear h1 h2 GV
        go_wp2
        go_ret
        exact ⟨by rw [FV.out]; rfl, HB.out⟩
      rw [if_neg h2] at GV
      have d2 := decide_eq_false h2
      clear h1 h2
      cases md with
      | false =>
        by_cases hn : name.size = 0
        · have FV : Hid (goodV _ n name = true) := Lib.hid (by rw [GV.out, if_neg (by simp), decide_eq_true hn])
          obtain rfl := size0 hn
          have en := emptyV
          clear hn GV
          go_wp2_with ((go_at_call 16; refine (MD.out _).mono ?_; rintro e w2 ⟨rfl, rfl⟩))
          go_ret
          exact ⟨by rw [FV.out]; rfl, HB.out⟩
        · have FV : Hid (goodV _ n name = false) := Lib.hid (by rw [GV.out, if_neg (by simp), decide_eq_false hn])
          have en := isEmpty_of name hn
          clear hn GV
          go_wp2_with ((go_at_call 16; refine (MD.out _).mono ?_; rintro e w2 ⟨rfl, rfl⟩))
          go_ret
          exact ⟨by rw [FV.out]; rfl, HB.out⟩
      | true =>
        rw [if_pos rfl] at GV
        have LW := Lib.hid (lower_any name w1 HS.out T1.out)
        cases hl : lowerV name with
        | false =>
          have FV : Hid (goodV _ n name = false) := Lib.hid (by rw [GV.out, hl]; rfl)
          rw [hl] at LW
          clear hl GV
          go_wp2_with ((go_at_call 16; refine (MD.out _).mono ?_; rintro e w2 ⟨rfl, rfl⟩))
          refine LW.out.mono ?_; rintro e w2 ⟨rfl, hb2⟩
          have HB2 := Lib.hid (bt HB.out hb2)
          clear hb2
          go_wp2
          go_ret
          exact ⟨by rw [FV.out]; rfl, HB2.out⟩
        | true =>
          have FV : Hid (goodV _ n name = decide (runes name ≤ 40)) := Lib.hid (by rw [GV.out, hl]; rfl)
          rw [hl] at LW
          obtain ⟨q, hq⟩ : ∃ q, q = runes name := ⟨_, rfl⟩
          have RN := Lib.hid (fun W => runes_any name W HS.out)
          rw [← hq] at RN FV
          clear hl GV hq
          go_wp2_with ((go_at_call 16; refine (MD.out _).mono ?_; rintro e w2 ⟨rfl, rfl⟩))
          refine LW.out.mono ?_; rintro e w2 ⟨rfl, hb2⟩
          have HB2 := Lib.hid (bt HB.out hb2)
          have j2 : w2.cell? ⟨w.heap.size, 2, none⟩ = some (.string name) := (hb2.cell (p := ⟨w.heap.size, 2, none⟩) (World.block_lt_of_cell? _ _ k2)).trans k2
          clear hb2
          go_wp2_with fail
          refine (RN.out _).mono ?_; rintro e w3 ⟨rfl, hb3⟩
          have HB3 := Lib.hid (bt HB2.out hb3)
          clear hb3
          by_cases h40 : q ≤ 40
          · have d4 := decide_eq_true (show (q : Int) ≤ 40 by omega)
            rw [decide_eq_true h40] at FV
            clear h40
            go_wp2
            go_ret
            exact ⟨by rw [FV.out]; rfl, HB3.out⟩
          · have d4 := decide_eq_false (show ¬ (q : Int) ≤ 40 by omega)
            rw [decide_eq_false h40] at FV
            clear h40
            go_wp2
            go_ret
            exact ⟨by rw [FV.out]; rfl, HB3.out⟩
end Go.Proofs.YtebgloacobaocaaDoor
