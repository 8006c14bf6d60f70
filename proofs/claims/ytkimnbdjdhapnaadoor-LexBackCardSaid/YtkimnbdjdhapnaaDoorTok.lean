import Derived.Test.YtkimnbdjdhapnaaDoorNumb
import Derived.Test.YtkimnbdjdhapnaaDoorNam
import Derived.Test.YtkimnbdjdhapnaaDoorGap
import Derived.Deep.LoopGhost
namespace Go.Proofs.YtkimnbdjdhapnaaDoor
open Go.ChangeShapes Go.WideShapes Go.ChangeAt Go.RowKit Go.Shelf Go.Lib CharsMath
set_option linter.unusedVariables false
set_option maxHeartbeats 4000000 in
set_option maxRecDepth 100000 in
theorem tok_any (t : ByteArray) (h0 : 0 < t.size) (w : World) (hs : t.size ≤ 1000000) (hT : Tabs w) : Calls Tryd.prog 10 #[.string t] w fun e w' => e = .returned (.tuple #[.int .i64 (tokV t).1, .int .i64 (tokV t).2]) ∧ Below w.heap.size w w' := by
  have HT := Lib.hid hT
  have DE := Lib.hid (fun W (hT : Tabs W) => dec_any t h0 W hT)
  have NU := Lib.hid (fun W (hT : Tabs W) => num_any t W hs hT)
  have NA := Lib.hid (fun W (hT : Tabs W) => name_any t W hs hT)
  have hr := rn_le t 0 h0
  obtain ⟨r, hrr⟩ : ∃ r, r = rn t 0 := ⟨_, rfl⟩
  obtain ⟨m, hm⟩ : ∃ m, m = wd t 0 := ⟨_, rfl⟩
  have GV : Hid (tokV t = if classV r = 2 then numT t (t.size + 1) 0 0 else if startsV r = true then nameT t else if 1 < t.size ∧ (two t 0 58 61 = true ∨ two t 0 45 62 = true) then (5, 2) else if r = 58 ∨ r = 62 ∨ classV r ≠ 4 then (0, 0) else (5, 1)) := Lib.hid (by unfold tokV; rw [← hrr])
  rw [← hrr] at hr
  rw [← hrr, ← hm] at DE
  have CC := Lib.hid (fun W (hT : Tabs W) => class_any (r : Int) W (by omega) (by omega) hT)
  have CS := Lib.hid (fun W (hT : Tabs W) => starts_any (r : Int) W (by omega) (by omega) hT)
  obtain ⟨cl, hcl⟩ : ∃ cl, cl = classV (r : Int) := ⟨_, rfl⟩
  obtain ⟨st, hst⟩ : ∃ st, st = startsV (r : Int) := ⟨_, rfl⟩
  obtain ⟨nu, hnu⟩ : ∃ nu, nu = numT t (t.size + 1) 0 0 := ⟨_, rfl⟩
  obtain ⟨na, hna⟩ : ∃ na, na = nameT t := ⟨_, rfl⟩
  rw [← hcl] at CC GV
  rw [← hst] at CS GV
  rw [← hnu] at NU GV
  rw [← hna] at NA GV
  obtain ⟨G, hG⟩ : ∃ G, G = tokV t := ⟨_, rfl⟩
  rw [← hG] at GV ⊢
  clear hT hrr hm hcl hst hnu hna hG
  by_cases h2 : cl = 2
  · subst h2
    have GV2 : Hid (G = nu) := Lib.hid (by rw [GV.out, if_pos rfl])
    clear GV
    go_enter Tryd.func10, Tryd.ntmps10
    go_wp2_with fail
    refine (DE.out _ HT.out).mono ?_; rintro e w1 ⟨rfl, hb1⟩
    have B1 := Lib.hid hb1
    have T1 := Lib.hid (HT.out.below hb1)
    clear hb1
    go_wp2_with fail
    refine (CC.out _ T1.out).mono ?_; rintro e w2 ⟨rfl, hb2⟩
    have B2 := Lib.hid (bt B1.out hb2)
    have T2 := Lib.hid (T1.out.below hb2)
    clear hb2
    go_wp2_with fail
    refine (NU.out _ T2.out).mono ?_; rintro e w3 ⟨rfl, hb3⟩
    have B3 := Lib.hid (bt B2.out hb3)
    clear hb3
    go_wp2_with fail
    go_returns
    exact ⟨by rw [GV2.out]; rfl, B3.out⟩
  have ec : (cl == 2) = false := beq_eq_false_iff_ne.2 h2
  have GV3 := Lib.hid (GV.out.trans (if_neg h2))
  clear GV h2
  cases st with
  | true =>
    have GV2 : Hid (G = na) := Lib.hid (by rw [GV3.out, if_pos rfl])
    clear GV3
    go_enter Tryd.func10, Tryd.ntmps10
    go_wp2_with fail
    refine (DE.out _ HT.out).mono ?_; rintro e w1 ⟨rfl, hb1⟩
    have B1 := Lib.hid hb1
    have T1 := Lib.hid (HT.out.below hb1)
    clear hb1
    go_wp2_with fail
    refine (CC.out _ T1.out).mono ?_; rintro e w2 ⟨rfl, hb2⟩
    have B2 := Lib.hid (bt B1.out hb2)
    have T2 := Lib.hid (T1.out.below hb2)
    clear hb2
    go_wp2_with fail
    refine (CS.out _ T2.out).mono ?_; rintro e w3 ⟨rfl, hb3⟩
    have B3 := Lib.hid (bt B2.out hb3)
    have T3 := Lib.hid (T2.out.below hb3)
    clear hb3
    go_wp2_with fail
    refine (NA.out _ T3.out).mono ?_; rintro e w4 ⟨rfl, hb4⟩
    have B4 := Lib.hid (bt B3.out hb4)
    clear hb4
    go_wp2_with fail
    go_returns
    exact ⟨by rw [GV2.out]; rfl, B4.out⟩
  | false =>
  have GV4 : Hid (G = if 1 < t.size ∧ (two t 0 58 61 = true ∨ two t 0 45 62 = true) then (5, 2) else if (r = 58 ∨ r = 62 ∨ cl ≠ 4) then (0, 0) else (5, 1)) := Lib.hid (by rw [GV3.out]; rfl)
  clear GV3
  have key : ∀ (x y : Bool), Hid (((t.extract 0 2).toList == [58, 61]) = x) → Hid (((t.extract 0 2).toList == [45, 62]) = y) → 1 < t.size → Hid (G = if (x = true ∨ y = true) then (5, 2) else if (r = 58 ∨ r = 62 ∨ cl ≠ 4) then (0, 0) else (5, 1)) := fun x y hx hy h1 => Lib.hid (by
    rw [GV4.out]
    have e1 : two t 0 58 61 = x := hx.out
    have e2 : two t 0 45 62 = y := hy.out
    rw [e1, e2]; simp only [h1, true_and])
  have KEY := Lib.hid key
  clear key
  by_cases h1 : 1 < t.size
  · have d1 := decide_eq_true (show (1 : Int) < (t.size : Int) by omega)
    have z2 : (2 : Int) ≤ (t.size : Int) := by omega
    cases x1 : ((t.extract 0 2).toList == [58, 61]) with
    | true =>
      have GV2 : Hid (G = (5, 2)) := Lib.hid (by
        have := (KEY.out true _ (Lib.hid x1) (Lib.hid rfl) h1).out; rw [this, if_pos (.inl rfl)])
      clear KEY GV4
      go_enter Tryd.func10, Tryd.ntmps10
      go_wp2_with fail
      refine (DE.out _ HT.out).mono ?_; rintro e w1 ⟨rfl, hb1⟩
      have B1 := Lib.hid hb1
      have T1 := Lib.hid (HT.out.below hb1)
      clear hb1
      go_wp2_with fail
      refine (CC.out _ T1.out).mono ?_; rintro e w2 ⟨rfl, hb2⟩
      have B2 := Lib.hid (bt B1.out hb2)
      have T2 := Lib.hid (T1.out.below hb2)
      clear hb2
      go_wp2_with fail
      refine (CS.out _ T2.out).mono ?_; rintro e w3 ⟨rfl, hb3⟩
      have B3 := Lib.hid (bt B2.out hb3)
      have T3 := Lib.hid (T2.out.below hb3)
      clear hb3
      go_wp2_with fail
      go_returns
      exact ⟨by rw [GV2.out]; rfl, B3.out⟩
    | false =>
    cases x2 : ((t.extract 0 2).toList == [45, 62]) with
    | true =>
      have GV2 : Hid (G = (5, 2)) := Lib.hid (by
        have := (KEY.out false true (Lib.hid x1) (Lib.hid x2) h1).out; rw [this, if_pos (.inr rfl)])
      clear KEY GV4
      go_enter Tryd.func10, Tryd.ntmps10
      go_wp2_with fail
      refine (DE.out _ HT.out).mono ?_; rintro e w1 ⟨rfl, hb1⟩
      have B1 := Lib.hid hb1
      have T1 := Lib.hid (HT.out.below hb1)
      clear hb1
      go_wp2_with fail
      refine (CC.out _ T1.out).mono ?_; rintro e w2 ⟨rfl, hb2⟩
      have B2 := Lib.hid (bt B1.out hb2)
      have T2 := Lib.hid (T1.out.below hb2)
      clear hb2
      go_wp2_with fail
      refine (CS.out _ T2.out).mono ?_; rintro e w3 ⟨rfl, hb3⟩
      have B3 := Lib.hid (bt B2.out hb3)
      have T3 := Lib.hid (T2.out.below hb3)
      clear hb3
      go_wp2_with fail
      go_returns
      exact ⟨by rw [GV2.out]; rfl, B3.out⟩
    | false =>
    have GV5 : Hid (G = if (r = 58 ∨ r = 62 ∨ cl ≠ 4) then (0, 0) else (5, 1)) := Lib.hid (by
      have := (KEY.out false false (Lib.hid x1) (Lib.hid x2) h1).out; rw [this, if_neg (by simp)])
    clear KEY GV4
    by_cases r1 : r = 58
    · subst r1
      have GV2 : Hid (G = (0, 0)) := Lib.hid (by rw [GV5.out, if_pos (.inl rfl)])
      clear GV5
      go_enter Tryd.func10, Tryd.ntmps10
      go_wp2_with fail
      refine (DE.out _ HT.out).mono ?_; rintro e w1 ⟨rfl, hb1⟩
      have B1 := Lib.hid hb1
      have T1 := Lib.hid (HT.out.below hb1)
      clear hb1
      go_wp2_with fail
      refine (CC.out _ T1.out).mono ?_; rintro e w2 ⟨rfl, hb2⟩
      have B2 := Lib.hid (bt B1.out hb2)
      have T2 := Lib.hid (T1.out.below hb2)
      clear hb2
      go_wp2_with fail
      refine (CS.out _ T2.out).mono ?_; rintro e w3 ⟨rfl, hb3⟩
      have B3 := Lib.hid (bt B2.out hb3)
      have T3 := Lib.hid (T2.out.below hb3)
      clear hb3
      go_wp2_with fail
      go_returns
      exact ⟨by rw [GV2.out]; rfl, B3.out⟩
    have n1 : ((r : Int) == 58) = false := beq_eq_false_iff_ne.2 (by omega)
    by_cases r2 : r = 62
    · subst r2
      have GV2 : Hid (G = (0, 0)) := Lib.hid (by rw [GV5.out, if_pos (.inr (.inl rfl))])
      clear GV5
      go_enter Tryd.func10, Tryd.ntmps10
      go_wp2_with fail
      refine (DE.out _ HT.out).mono ?_; rintro e w1 ⟨rfl, hb1⟩
      have B1 := Lib.hid hb1
      have T1 := Lib.hid (HT.out.below hb1)
      clear hb1
      go_wp2_with fail
      refine (CC.out _ T1.out).mono ?_; rintro e w2 ⟨rfl, hb2⟩
      have B2 := Lib.hid (bt B1.out hb2)
      have T2 := Lib.hid (T1.out.below hb2)
      clear hb2
      go_wp2_with fail
      refine (CS.out _ T2.out).mono ?_; rintro e w3 ⟨rfl, hb3⟩
      have B3 := Lib.hid (bt B2.out hb3)
      have T3 := Lib.hid (T2.out.below hb3)
      clear hb3
      go_wp2_with fail
      go_returns
      exact ⟨by rw [GV2.out]; rfl, B3.out⟩
    have n2 : ((r : Int) == 62) = false := beq_eq_false_iff_ne.2 (by omega)
    by_cases c4 : cl = 4
    · subst c4
      have GV2 : Hid (G = (5, 1)) := Lib.hid (by rw [GV5.out, if_neg (by rintro (h | h | h); exact r1 h; exact r2 h; exact h rfl)])
      clear GV5 r1 r2
      go_enter Tryd.func10, Tryd.ntmps10
      go_wp2_with fail
      refine (DE.out _ HT.out).mono ?_; rintro e w1 ⟨rfl, hb1⟩
      have B1 := Lib.hid hb1
      have T1 := Lib.hid (HT.out.below hb1)
      clear hb1
      go_wp2_with fail
      refine (CC.out _ T1.out).mono ?_; rintro e w2 ⟨rfl, hb2⟩
      have B2 := Lib.hid (bt B1.out hb2)
      have T2 := Lib.hid (T1.out.below hb2)
      clear hb2
      go_wp2_with fail
      refine (CS.out _ T2.out).mono ?_; rintro e w3 ⟨rfl, hb3⟩
      have B3 := Lib.hid (bt B2.out hb3)
      have T3 := Lib.hid (T2.out.below hb3)
      clear hb3
      go_wp2_with fail
      refine (CC.out _ T3.out).mono ?_; rintro e w4 ⟨rfl, hb4⟩
      have B4 := Lib.hid (bt B3.out hb4)
      clear hb4
      go_wp2_with fail
      go_returns
      exact ⟨by rw [GV2.out]; rfl, B4.out⟩
    · have n3 : (cl == 4) = false := beq_eq_false_iff_ne.2 c4
      have GV2 : Hid (G = (0, 0)) := Lib.hid (by rw [GV5.out, if_pos (.inr (.inr c4))])
      clear GV5 r1 r2 c4
      go_enter Tryd.func10, Tryd.ntmps10
      go_wp2_with fail
      refine (DE.out _ HT.out).mono ?_; rintro e w1 ⟨rfl, hb1⟩
      have B1 := Lib.hid hb1
      have T1 := Lib.hid (HT.out.below hb1)
      clear hb1
      go_wp2_with fail
      refine (CC.out _ T1.out).mono ?_; rintro e w2 ⟨rfl, hb2⟩
      have B2 := Lib.hid (bt B1.out hb2)
      have T2 := Lib.hid (T1.out.below hb2)
      clear hb2
      go_wp2_with fail
      refine (CS.out _ T2.out).mono ?_; rintro e w3 ⟨rfl, hb3⟩
      have B3 := Lib.hid (bt B2.out hb3)
      have T3 := Lib.hid (T2.out.below hb3)
      clear hb3
      go_wp2_with fail
      refine (CC.out _ T3.out).mono ?_; rintro e w4 ⟨rfl, hb4⟩
      have B4 := Lib.hid (bt B3.out hb4)
      clear hb4
      go_wp2_with fail
      go_returns
      exact ⟨by rw [GV2.out]; rfl, B4.out⟩
  · have d1 := decide_eq_false (show ¬ (1 : Int) < (t.size : Int) by omega)
    have GV5 : Hid (G = if (r = 58 ∨ r = 62 ∨ cl ≠ 4) then (0, 0) else (5, 1)) := Lib.hid (by rw [GV4.out, if_neg (fun h => h1 h.1)])
    clear KEY GV4
    by_cases r1 : r = 58
    · subst r1
      have GV2 : Hid (G = (0, 0)) := Lib.hid (by rw [GV5.out, if_pos (.inl rfl)])
      clear GV5
      go_enter Tryd.func10, Tryd.ntmps10
      go_wp2_with fail
      refine (DE.out _ HT.out).mono ?_; rintro e w1 ⟨rfl, hb1⟩
      have B1 := Lib.hid hb1
      have T1 := Lib.hid (HT.out.below hb1)
      clear hb1
      go_wp2_with fail
      refine (CC.out _ T1.out).mono ?_; rintro e w2 ⟨rfl, hb2⟩
      have B2 := Lib.hid (bt B1.out hb2)
      have T2 := Lib.hid (T1.out.below hb2)
      clear hb2
      go_wp2_with fail
      refine (CS.out _ T2.out).mono ?_; rintro e w3 ⟨rfl, hb3⟩
      have B3 := Lib.hid (bt B2.out hb3)
      have T3 := Lib.hid (T2.out.below hb3)
      clear hb3
      go_wp2_with fail
      go_returns
      exact ⟨by rw [GV2.out]; rfl, B3.out⟩
    have n1 : ((r : Int) == 58) = false := beq_eq_false_iff_ne.2 (by omega)
    by_cases r2 : r = 62
    · subst r2
      have GV2 : Hid (G = (0, 0)) := Lib.hid (by rw [GV5.out, if_pos (.inr (.inl rfl))])
      clear GV5
      go_enter Tryd.func10, Tryd.ntmps10
      go_wp2_with fail
      refine (DE.out _ HT.out).mono ?_; rintro e w1 ⟨rfl, hb1⟩
      have B1 := Lib.hid hb1
      have T1 := Lib.hid (HT.out.below hb1)
      clear hb1
      go_wp2_with fail
      refine (CC.out _ T1.out).mono ?_; rintro e w2 ⟨rfl, hb2⟩
      have B2 := Lib.hid (bt B1.out hb2)
      have T2 := Lib.hid (T1.out.below hb2)
      clear hb2
      go_wp2_with fail
      refine (CS.out _ T2.out).mono ?_; rintro e w3 ⟨rfl, hb3⟩
      have B3 := Lib.hid (bt B2.out hb3)
      have T3 := Lib.hid (T2.out.below hb3)
      clear hb3
      go_wp2_with fail
      go_returns
      exact ⟨by rw [GV2.out]; rfl, B3.out⟩
    have n2 : ((r : Int) == 62) = false := beq_eq_false_iff_ne.2 (by omega)
    by_cases c4 : cl = 4
    · subst c4
      have GV2 : Hid (G = (5, 1)) := Lib.hid (by rw [GV5.out, if_neg (by rintro (h | h | h); exact r1 h; exact r2 h; exact h rfl)])
      clear GV5 r1 r2
      go_enter Tryd.func10, Tryd.ntmps10
      go_wp2_with fail
      refine (DE.out _ HT.out).mono ?_; rintro e w1 ⟨rfl, hb1⟩
      have B1 := Lib.hid hb1
      have T1 := Lib.hid (HT.out.below hb1)
      clear hb1
      go_wp2_with fail
      refine (CC.out _ T1.out).mono ?_; rintro e w2 ⟨rfl, hb2⟩
      have B2 := Lib.hid (bt B1.out hb2)
      have T2 := Lib.hid (T1.out.below hb2)
      clear hb2
      go_wp2_with fail
      refine (CS.out _ T2.out).mono ?_; rintro e w3 ⟨rfl, hb3⟩
      have B3 := Lib.hid (bt B2.out hb3)
      have T3 := Lib.hid (T2.out.below hb3)
      clear hb3
      go_wp2_with fail
      refine (CC.out _ T3.out).mono ?_; rintro e w4 ⟨rfl, hb4⟩
      have B4 := Lib.hid (bt B3.out hb4)
      clear hb4
      go_wp2_with fail
      go_returns
      exact ⟨by rw [GV2.out]; rfl, B4.out⟩
    · have n3 : (cl == 4) = false := beq_eq_false_iff_ne.2 c4
      have GV2 : Hid (G = (0, 0)) := Lib.hid (by rw [GV5.out, if_pos (.inr (.inr c4))])
      clear GV5 r1 r2 c4
      go_enter Tryd.func10, Tryd.ntmps10
      go_wp2_with fail
      refine (DE.out _ HT.out).mono ?_; rintro e w1 ⟨rfl, hb1⟩
      have B1 := Lib.hid hb1
      have T1 := Lib.hid (HT.out.below hb1)
      clear hb1
      go_wp2_with fail
      refine (CC.out _ T1.out).mono ?_; rintro e w2 ⟨rfl, hb2⟩
      have B2 := Lib.hid (bt B1.out hb2)
      have T2 := Lib.hid (T1.out.below hb2)
      clear hb2
      go_wp2_with fail
      refine (CS.out _ T2.out).mono ?_; rintro e w3 ⟨rfl, hb3⟩
      have B3 := Lib.hid (bt B2.out hb3)
      have T3 := Lib.hid (T2.out.below hb3)
      clear hb3
      go_wp2_with fail
      refine (CC.out _ T3.out).mono ?_; rintro e w4 ⟨rfl, hb4⟩
      have B4 := Lib.hid (bt B3.out hb4)
      clear hb4
      go_wp2_with fail
      go_returns
      exact ⟨by rw [GV2.out]; rfl, B4.out⟩
end Go.Proofs.YtkimnbdjdhapnaaDoor
