import Derived.Test.YtdkfimejabanlaaDoorRz
namespace Go.Proofs.YtdkfimejabanlaaDoor
open DR
open Go.ChangeShapes Go.WideShapes Go.ChangeAt Go.RowKit Go.WideMaps
set_option linter.unusedVariables false
set_option linter.unusedSimpArgs false
/-- what kinds asks of a node. -/
theorem headOk_parts (V : TT) : headOk V = (decide (1 ≤ V.k) && decide (V.k ≤ 7) && decide ((V.args.length : Int) = arT V.k) && ((!emptyB V.nm) == (V.k == 4)) && decide (0 ≤ V.vr) && decide (V.vr ≤ 1999) && (V.vr == 0 || V.k == 7)) := rfl
set_option maxRecDepth 100000 in
set_option maxHeartbeats 16000000 in
theorem kinds_any : ∀ (d : Nat) (V : TT) (v : Value) (w : World), bigT d V = false → TIn w any0 V v → Calls Tryd.prog 43 #[v] w fun e w' => e = .returned (.bool (shp V)) ∧ Below w.heap.size w w' := by
  intro d
  induction d with
  | zero => intro V v w h; cases h
  | succ d ih =>
  intro V v w hbg ⟨A, c, hv, hA⟩
  obtain ⟨hl4, -, b3⟩ := bigT_parts hbg
  subst hv
  have HI := Lib.hid ih
  have HBG := Lib.hid b3
  have HSP := Lib.hid (shp_eq V)
  have HP := Lib.hid (headOk_parts V)
  unfold tv
  obtain ⟨args, ha⟩ : ∃ l, l = V.args := ⟨_, rfl⟩
  obtain ⟨nm, hn⟩ : ∃ l, l = V.nm := ⟨_, rfl⟩
  obtain ⟨k0, hk0⟩ : ∃ l, l = V.k := ⟨_, rfl⟩
  obtain ⟨vr, hvr⟩ : ∃ l, l = V.vr := ⟨_, rfl⟩
  rw [← ha] at hA HBG hl4 HSP HP ⊢
  obtain ⟨N, hN⟩ : ∃ n, n = args.length := ⟨_, rfl⟩
  rw [← hN] at hl4 HP ⊢
  have HN := Lib.hid hN
  rw [← hn] at HP ⊢
  rw [← hk0] at HP ⊢
  rw [← hvr] at HP ⊢
  obtain ⟨ans, hans⟩ : ∃ b, b = shp V := ⟨_, rfl⟩
  rw [← hans] at HSP ⊢
  obtain ⟨hd, hhd⟩ : ∃ b, b = headOk V := ⟨_, rfl⟩
  rw [← hhd] at HSP HP
  have HA := Lib.hid hA
  obtain ⟨wA, hwA⟩ : ∃ z, z = w.alloc (.cells #[.int .i64 k0, .string nm, .int .i64 vr, .slice A N c] 44) := ⟨_, rfl⟩
  have BA := Lib.hid (show Below w.heap.size w wA by rw [hwA]; exact below_alloc w _)
  have HX := Lib.hid (show wA.heap[w.heap.size]? = some (.cells #[.int .i64 k0, .string nm, .int .i64 vr, .slice A N c] 44 (0, 0)) by rw [hwA]; exact heap_alloc_new w _)
  have HZ := Lib.hid (show w.heap.size < wA.heap.size by rw [hwA]; simp)
  have HWA := Lib.hid hwA
  obtain ⟨x0, x1, x2, x3⟩ := cells4 HX.out
  have BAD := Lib.hid (show hd = false → ans = false from fun h => by rw [HSP.out, h]; rfl)
  clear ih hbg b3 ha hA hwA hn hk0 hvr hans hhd hN
  by_cases hr : k0 < 1 ∨ 7 < k0
  · have RES := Lib.hid (BAD.out (by rw [HP.out]; rcases hr with h | h; (rw [show decide (1 ≤ k0) = false from decide_eq_false (by omega)]; rfl); (rw [show decide (k0 ≤ 7) = false from decide_eq_false (by omega)]; simp)))
    have n1 : ¬ k0 = 1 := by omega
    have m1 : (k0 == 1) = false := beq_eq_false_iff_ne.2 n1
    have n2 : ¬ k0 = 2 := by omega
    have m2 : (k0 == 2) = false := beq_eq_false_iff_ne.2 n2
    have n3 : ¬ k0 = 3 := by omega
    have m3 : (k0 == 3) = false := beq_eq_false_iff_ne.2 n3
    have n4 : ¬ k0 = 4 := by omega
    have m4 : (k0 == 4) = false := beq_eq_false_iff_ne.2 n4
    have n5 : ¬ k0 = 5 := by omega
    have m5 : (k0 == 5) = false := beq_eq_false_iff_ne.2 n5
    have n6 : ¬ k0 = 6 := by omega
    have m6 : (k0 == 6) = false := beq_eq_false_iff_ne.2 n6
    have n7 : ¬ k0 = 7 := by omega
    have m7 : (k0 == 7) = false := beq_eq_false_iff_ne.2 n7
    clear hr HP BAD
    clear HSP HI HBG HA HN
    go_enter Tryd.func43, Tryd.ntmps43
    go_wp2
    go_ret
    exact ⟨by rw [RES.out]; rfl, below_alloc _ _⟩
  have hcs : k0 = 1 ∨ k0 = 2 ∨ k0 = 3 ∨ k0 = 4 ∨ k0 = 5 ∨ k0 = 6 ∨ k0 = 7 := by omega
  clear hr
  rcases hcs with rfl | rfl | rfl | rfl | rfl | rfl | rfl
  · by_cases hn : ¬ N = 0
    · have RES := Lib.hid (BAD.out (by rw [HP.out]; rw [show decide ((N : Int) = arT 1) = false from decide_eq_false (by show ¬ (N : Int) = 0; omega)]; simp))
      have hn2 : ¬ (N : Int) = 0 := by omega
      clear HP BAD
      clear HSP HI HBG HA HN
      go_enter Tryd.func43, Tryd.ntmps43
      go_wp2
      go_ret
      exact ⟨by rw [RES.out]; rfl, below_alloc _ _⟩
    obtain rfl : N = 0 := by omega
    clear hn
    cases he : emptyB nm with
    | false =>
      have RES := Lib.hid (BAD.out (by rw [HP.out, he]; simp))
      have hne : nm.toList.isEmpty = false := by unfold emptyB at he; exact he
      have hne2 : ¬ nm.toList = [] := fun e => by rw [e] at hne; cases hne
      clear HP BAD he
      clear HSP HI HBG HA HN
      go_enter Tryd.func43, Tryd.ntmps43
      go_wp2
      go_ret
      exact ⟨by rw [RES.out]; rfl, below_alloc _ _⟩
    | true =>
    have hnm : nm = ⟨#[]⟩ := toList_nil (by unfold emptyB at he; exact he)
    subst hnm
    by_cases hv : ¬ vr = 0
    · have RES := Lib.hid (BAD.out (by rw [HP.out]; rw [show (vr == 0 || (1 : Int) == 7) = false from by rw [beq_eq_false_iff_ne.2 hv]; rfl]; simp))
      have hv2 : (vr == 0) = false := beq_eq_false_iff_ne.2 hv
      clear HP BAD he
      clear HSP HI HBG HA HN
      go_enter Tryd.func43, Tryd.ntmps43
      go_wp2
      go_ret
      exact ⟨by rw [RES.out]; rfl, below_alloc _ _⟩
    obtain rfl : vr = 0 := by omega
    clear hv
    have HHD := Lib.hid (show hd = true by rw [HP.out, he]; rfl)
    have HAN := Lib.hid (show ans = shpL args by rw [HSP.out, HHD.out]; rfl)
    clear HP BAD he HSP HHD
    go_enter Tryd.func43, Tryd.ntmps43
    go_wp2
    try rw [← HWA.out]
    have RES := Lib.hid (show ans = true by rw [HAN.out, List.length_eq_zero_iff.1 HN.out.symm]; rfl)
    clear HAN HI HBG HA
    go_loopw [4] (fun i wr => i = .int .i64 0 ∧ wr = wA) (fun _ _ => 0)
    case atStart => exact ⟨by first | rfl | trivial, by first | rfl | trivial⟩
    case round =>
      obtain ⟨rfl, hwr⟩ := hrel
      subst hwr
      go_wp2
      go_ret
      exact ⟨by rw [RES.out]; rfl, BA.out⟩
  · by_cases hn : ¬ N = 0
    · have RES := Lib.hid (BAD.out (by rw [HP.out]; rw [show decide ((N : Int) = arT 2) = false from decide_eq_false (by show ¬ (N : Int) = 0; omega)]; simp))
      have hn2 : ¬ (N : Int) = 0 := by omega
      clear HP BAD
      clear HSP HI HBG HA HN
      go_enter Tryd.func43, Tryd.ntmps43
      go_wp2
      go_ret
      exact ⟨by rw [RES.out]; rfl, below_alloc _ _⟩
    obtain rfl : N = 0 := by omega
    clear hn
    cases he : emptyB nm with
    | false =>
      have RES := Lib.hid (BAD.out (by rw [HP.out, he]; simp))
      have hne : nm.toList.isEmpty = false := by unfold emptyB at he; exact he
      have hne2 : ¬ nm.toList = [] := fun e => by rw [e] at hne; cases hne
      clear HP BAD he
      clear HSP HI HBG HA HN
      go_enter Tryd.func43, Tryd.ntmps43
      go_wp2
      go_ret
      exact ⟨by rw [RES.out]; rfl, below_alloc _ _⟩
    | true =>
    have hnm : nm = ⟨#[]⟩ := toList_nil (by unfold emptyB at he; exact he)
    subst hnm
    by_cases hv : ¬ vr = 0
    · have RES := Lib.hid (BAD.out (by rw [HP.out]; rw [show (vr == 0 || (2 : Int) == 7) = false from by rw [beq_eq_false_iff_ne.2 hv]; rfl]; simp))
      have hv2 : (vr == 0) = false := beq_eq_false_iff_ne.2 hv
      clear HP BAD he
      clear HSP HI HBG HA HN
      go_enter Tryd.func43, Tryd.ntmps43
      go_wp2
      go_ret
      exact ⟨by rw [RES.out]; rfl, below_alloc _ _⟩
    obtain rfl : vr = 0 := by omega
    clear hv
    have HHD := Lib.hid (show hd = true by rw [HP.out, he]; rfl)
    have HAN := Lib.hid (show ans = shpL args by rw [HSP.out, HHD.out]; rfl)
    clear HP BAD he HSP HHD
    go_enter Tryd.func43, Tryd.ntmps43
    go_wp2
    try rw [← HWA.out]
    have RES := Lib.hid (show ans = true by rw [HAN.out, List.length_eq_zero_iff.1 HN.out.symm]; rfl)
    clear HAN HI HBG HA
    go_loopw [4] (fun i wr => i = .int .i64 0 ∧ wr = wA) (fun _ _ => 0)
    case atStart => exact ⟨by first | rfl | trivial, by first | rfl | trivial⟩
    case round =>
      obtain ⟨rfl, hwr⟩ := hrel
      subst hwr
      go_wp2
      go_ret
      exact ⟨by rw [RES.out]; rfl, BA.out⟩
  · by_cases hn : ¬ N = 0
    · have RES := Lib.hid (BAD.out (by rw [HP.out]; rw [show decide ((N : Int) = arT 3) = false from decide_eq_false (by show ¬ (N : Int) = 0; omega)]; simp))
      have hn2 : ¬ (N : Int) = 0 := by omega
      clear HP BAD
      clear HSP HI HBG HA HN
      go_enter Tryd.func43, Tryd.ntmps43
      go_wp2
      go_ret
      exact ⟨by rw [RES.out]; rfl, below_alloc _ _⟩
    obtain rfl : N = 0 := by omega
    clear hn
    cases he : emptyB nm with
    | false =>
      have RES := Lib.hid (BAD.out (by rw [HP.out, he]; simp))
      have hne : nm.toList.isEmpty = false := by unfold emptyB at he; exact he
      have hne2 : ¬ nm.toList = [] := fun e => by rw [e] at hne; cases hne
      clear HP BAD he
      clear HSP HI HBG HA HN
      go_enter Tryd.func43, Tryd.ntmps43
      go_wp2
      go_ret
      exact ⟨by rw [RES.out]; rfl, below_alloc _ _⟩
    | true =>
    have hnm : nm = ⟨#[]⟩ := toList_nil (by unfold emptyB at he; exact he)
    subst hnm
    by_cases hv : ¬ vr = 0
    · have RES := Lib.hid (BAD.out (by rw [HP.out]; rw [show (vr == 0 || (3 : Int) == 7) = false from by rw [beq_eq_false_iff_ne.2 hv]; rfl]; simp))
      have hv2 : (vr == 0) = false := beq_eq_false_iff_ne.2 hv
      clear HP BAD he
      clear HSP HI HBG HA HN
      go_enter Tryd.func43, Tryd.ntmps43
      go_wp2
      go_ret
      exact ⟨by rw [RES.out]; rfl, below_alloc _ _⟩
    obtain rfl : vr = 0 := by omega
    clear hv
    have HHD := Lib.hid (show hd = true by rw [HP.out, he]; rfl)
    have HAN := Lib.hid (show ans = shpL args by rw [HSP.out, HHD.out]; rfl)
    clear HP BAD he HSP HHD
    go_enter Tryd.func43, Tryd.ntmps43
    go_wp2
    try rw [← HWA.out]
    have RES := Lib.hid (show ans = true by rw [HAN.out, List.length_eq_zero_iff.1 HN.out.symm]; rfl)
    clear HAN HI HBG HA
    go_loopw [4] (fun i wr => i = .int .i64 0 ∧ wr = wA) (fun _ _ => 0)
    case atStart => exact ⟨by first | rfl | trivial, by first | rfl | trivial⟩
    case round =>
      obtain ⟨rfl, hwr⟩ := hrel
      subst hwr
      go_wp2
      go_ret
      exact ⟨by rw [RES.out]; rfl, BA.out⟩
  · by_cases hn : ¬ N = 0
    · have RES := Lib.hid (BAD.out (by rw [HP.out]; rw [show decide ((N : Int) = arT 4) = false from decide_eq_false (by show ¬ (N : Int) = 0; omega)]; simp))
      have hn2 : ¬ (N : Int) = 0 := by omega
      clear HP BAD
      clear HSP HI HBG HA HN
      go_enter Tryd.func43, Tryd.ntmps43
      go_wp2
      go_ret
      exact ⟨by rw [RES.out]; rfl, below_alloc _ _⟩
    obtain rfl : N = 0 := by omega
    clear hn
    cases he : emptyB nm with
    | true =>
      have RES := Lib.hid (BAD.out (by rw [HP.out, he]; simp))
      have hnm : nm = ⟨#[]⟩ := toList_nil (by unfold emptyB at he; exact he)
      subst hnm
      clear HP BAD he
      clear HSP HI HBG HA HN
      go_enter Tryd.func43, Tryd.ntmps43
      go_wp2
      go_ret
      exact ⟨by rw [RES.out]; rfl, below_alloc _ _⟩
    | false =>
    have hne : nm.toList.isEmpty = false := by unfold emptyB at he; exact he
    have hne2 : ¬ nm.toList = [] := fun e => by rw [e] at hne; cases hne
    by_cases hv : ¬ vr = 0
    · have RES := Lib.hid (BAD.out (by rw [HP.out]; rw [show (vr == 0 || (4 : Int) == 7) = false from by rw [beq_eq_false_iff_ne.2 hv]; rfl]; simp))
      have hv2 : (vr == 0) = false := beq_eq_false_iff_ne.2 hv
      clear HP BAD he
      clear HSP HI HBG HA HN
      go_enter Tryd.func43, Tryd.ntmps43
      go_wp2
      go_ret
      exact ⟨by rw [RES.out]; rfl, below_alloc _ _⟩
    obtain rfl : vr = 0 := by omega
    clear hv
    have HHD := Lib.hid (show hd = true by rw [HP.out, he]; rfl)
    have HAN := Lib.hid (show ans = shpL args by rw [HSP.out, HHD.out]; rfl)
    clear HP BAD he HSP HHD
    go_enter Tryd.func43, Tryd.ntmps43
    go_wp2
    try rw [← HWA.out]
    have RES := Lib.hid (show ans = true by rw [HAN.out, List.length_eq_zero_iff.1 HN.out.symm]; rfl)
    clear HAN HI HBG HA
    go_loopw [4] (fun i wr => i = .int .i64 0 ∧ wr = wA) (fun _ _ => 0)
    case atStart => exact ⟨by first | rfl | trivial, by first | rfl | trivial⟩
    case round =>
      obtain ⟨rfl, hwr⟩ := hrel
      subst hwr
      go_wp2
      go_ret
      exact ⟨by rw [RES.out]; rfl, BA.out⟩
  · by_cases hn : ¬ N = 2
    · have RES := Lib.hid (BAD.out (by rw [HP.out]; rw [show decide ((N : Int) = arT 5) = false from decide_eq_false (by show ¬ (N : Int) = 2; omega)]; simp))
      have hn2 : ¬ (N : Int) = 2 := by omega
      clear HP BAD
      clear HSP HI HBG HA HN
      go_enter Tryd.func43, Tryd.ntmps43
      go_wp2
      go_ret
      exact ⟨by rw [RES.out]; rfl, below_alloc _ _⟩
    obtain rfl : N = 2 := by omega
    clear hn
    cases he : emptyB nm with
    | false =>
      have RES := Lib.hid (BAD.out (by rw [HP.out, he]; simp))
      have hne : nm.toList.isEmpty = false := by unfold emptyB at he; exact he
      have hne2 : ¬ nm.toList = [] := fun e => by rw [e] at hne; cases hne
      clear HP BAD he
      clear HSP HI HBG HA HN
      go_enter Tryd.func43, Tryd.ntmps43
      go_wp2
      go_ret
      exact ⟨by rw [RES.out]; rfl, below_alloc _ _⟩
    | true =>
    have hnm : nm = ⟨#[]⟩ := toList_nil (by unfold emptyB at he; exact he)
    subst hnm
    by_cases hv : ¬ vr = 0
    · have RES := Lib.hid (BAD.out (by rw [HP.out]; rw [show (vr == 0 || (5 : Int) == 7) = false from by rw [beq_eq_false_iff_ne.2 hv]; rfl]; simp))
      have hv2 : (vr == 0) = false := beq_eq_false_iff_ne.2 hv
      clear HP BAD he
      clear HSP HI HBG HA HN
      go_enter Tryd.func43, Tryd.ntmps43
      go_wp2
      go_ret
      exact ⟨by rw [RES.out]; rfl, below_alloc _ _⟩
    obtain rfl : vr = 0 := by omega
    clear hv
    have HHD := Lib.hid (show hd = true by rw [HP.out, he]; rfl)
    have HAN := Lib.hid (show ans = shpL args by rw [HSP.out, HHD.out]; rfl)
    clear HP BAD he HSP HHD
    go_enter Tryd.func43, Tryd.ntmps43
    go_wp2
    try rw [← HWA.out]
    go_loopw [4] (fun i wr => ∃ k : Nat, k ≤ 2 ∧ i = .int .i64 k ∧ Hid (shpL (args.take k) = true) ∧ Hid (Below wA.heap.size wA wr)) (fun i _ => 2 - (intOf i).toNat)
    case atStart => exact ⟨0, by omega, by first | rfl | trivial, Lib.hid (by rw [List.take_zero]; rfl), Lib.hid (Below.refl _ _)⟩
    case round =>
      obtain ⟨k, hk, rfl, HL, HW⟩ := hrel
      have HBW := Lib.hid (bt BA.out HW.out)
      obtain ⟨e0, e1, e2, e3⟩ := cells4 ((HW.out.block w.heap.size HZ.out).trans HX.out)
      by_cases hlt : k < 2
      · have hlti : (k : Int) < 2 := by omega
        have hlt' : k < args.length := by rw [← HN.out]; exact hlt
        obtain ⟨b, o, rfl, hb, hr⟩ := HA.out.at (by omega)
        obtain ⟨A', c', y0, y1, y2, y3, hin⟩ := hr _ HBW.out k hlt'
        have CALL := Lib.hid (HI.out args[k] _ _ (HBG.out _ (List.getElem_mem hlt')) hin)
        have NO := Lib.hid (show shp args[k] = false → ans = false from fun h => by rw [HAN.out]; exact shpL_no hlt' h)
        have YES := Lib.hid (show shp args[k] = true → shpL (args.take (k + 1)) = true from fun h => by rw [shpL_take hlt' HL.out]; exact h)
        obtain ⟨E, hE⟩ : ∃ E, E = args[k] := ⟨_, rfl⟩
        rw [← hE] at y0 y1 y2 y3 CALL NO YES
        unfold tv at CALL
        clear hr hin hb HI hE HAN
        cases hs : shp E with
        | false =>
          rw [hs] at CALL
          have RES := Lib.hid (NO.out hs)
          clear hs NO YES
          go_wp2_with fail
          refine CALL.out.mono ?_; rintro e w5 ⟨rfl, b5⟩
          have B5 := Lib.hid (bt HBW.out b5)
          clear b5 CALL
          go_wp2
          go_ret
          exact ⟨by rw [RES.out]; rfl, B5.out⟩
        | true =>
          rw [hs] at CALL
          have RES := Lib.hid (YES.out hs)
          clear hs NO YES
          go_wp2_with fail
          refine CALL.out.mono ?_; rintro e w5 ⟨rfl, b5⟩
          have B5 := Lib.hid (bt HW.out b5)
          clear b5 CALL e0 e1 e2 e3 y0 y1 y2 y3
          go_wp2
          go_roundw
          case rel => exact ⟨k + 1, by omega, by go_num, RES, B5⟩
          case measure => simp [intOf]; omega
      · obtain rfl : 2 = k := by omega
        have hge : ¬ (2 : Int) < 2 := by omega
        have RES := Lib.hid (show ans = true by rw [HAN.out]; have := HL.out; rw [HN.out, List.take_length] at this; exact this)
        go_wp2
        go_ret
        exact ⟨by rw [RES.out]; rfl, HBW.out⟩
  · by_cases hn : ¬ N = 1
    · have RES := Lib.hid (BAD.out (by rw [HP.out]; rw [show decide ((N : Int) = arT 6) = false from decide_eq_false (by show ¬ (N : Int) = 1; omega)]; simp))
      have hn2 : ¬ (N : Int) = 1 := by omega
      clear HP BAD
      clear HSP HI HBG HA HN
      go_enter Tryd.func43, Tryd.ntmps43
      go_wp2
      go_ret
      exact ⟨by rw [RES.out]; rfl, below_alloc _ _⟩
    obtain rfl : N = 1 := by omega
    clear hn
    cases he : emptyB nm with
    | false =>
      have RES := Lib.hid (BAD.out (by rw [HP.out, he]; simp))
      have hne : nm.toList.isEmpty = false := by unfold emptyB at he; exact he
      have hne2 : ¬ nm.toList = [] := fun e => by rw [e] at hne; cases hne
      clear HP BAD he
      clear HSP HI HBG HA HN
      go_enter Tryd.func43, Tryd.ntmps43
      go_wp2
      go_ret
      exact ⟨by rw [RES.out]; rfl, below_alloc _ _⟩
    | true =>
    have hnm : nm = ⟨#[]⟩ := toList_nil (by unfold emptyB at he; exact he)
    subst hnm
    by_cases hv : ¬ vr = 0
    · have RES := Lib.hid (BAD.out (by rw [HP.out]; rw [show (vr == 0 || (6 : Int) == 7) = false from by rw [beq_eq_false_iff_ne.2 hv]; rfl]; simp))
      have hv2 : (vr == 0) = false := beq_eq_false_iff_ne.2 hv
      clear HP BAD he
      clear HSP HI HBG HA HN
      go_enter Tryd.func43, Tryd.ntmps43
      go_wp2
      go_ret
      exact ⟨by rw [RES.out]; rfl, below_alloc _ _⟩
    obtain rfl : vr = 0 := by omega
    clear hv
    have HHD := Lib.hid (show hd = true by rw [HP.out, he]; rfl)
    have HAN := Lib.hid (show ans = shpL args by rw [HSP.out, HHD.out]; rfl)
    clear HP BAD he HSP HHD
    go_enter Tryd.func43, Tryd.ntmps43
    go_wp2
    try rw [← HWA.out]
    go_loopw [4] (fun i wr => ∃ k : Nat, k ≤ 1 ∧ i = .int .i64 k ∧ Hid (shpL (args.take k) = true) ∧ Hid (Below wA.heap.size wA wr)) (fun i _ => 1 - (intOf i).toNat)
    case atStart => exact ⟨0, by omega, by first | rfl | trivial, Lib.hid (by rw [List.take_zero]; rfl), Lib.hid (Below.refl _ _)⟩
    case round =>
      obtain ⟨k, hk, rfl, HL, HW⟩ := hrel
      have HBW := Lib.hid (bt BA.out HW.out)
      obtain ⟨e0, e1, e2, e3⟩ := cells4 ((HW.out.block w.heap.size HZ.out).trans HX.out)
      by_cases hlt : k < 1
      · have hlti : (k : Int) < 1 := by omega
        have hlt' : k < args.length := by rw [← HN.out]; exact hlt
        obtain ⟨b, o, rfl, hb, hr⟩ := HA.out.at (by omega)
        obtain ⟨A', c', y0, y1, y2, y3, hin⟩ := hr _ HBW.out k hlt'
        have CALL := Lib.hid (HI.out args[k] _ _ (HBG.out _ (List.getElem_mem hlt')) hin)
        have NO := Lib.hid (show shp args[k] = false → ans = false from fun h => by rw [HAN.out]; exact shpL_no hlt' h)
        have YES := Lib.hid (show shp args[k] = true → shpL (args.take (k + 1)) = true from fun h => by rw [shpL_take hlt' HL.out]; exact h)
        obtain ⟨E, hE⟩ : ∃ E, E = args[k] := ⟨_, rfl⟩
        rw [← hE] at y0 y1 y2 y3 CALL NO YES
        unfold tv at CALL
        clear hr hin hb HI hE HAN
        cases hs : shp E with
        | false =>
          rw [hs] at CALL
          have RES := Lib.hid (NO.out hs)
          clear hs NO YES
          go_wp2_with fail
          refine CALL.out.mono ?_; rintro e w5 ⟨rfl, b5⟩
          have B5 := Lib.hid (bt HBW.out b5)
          clear b5 CALL
          go_wp2
          go_ret
          exact ⟨by rw [RES.out]; rfl, B5.out⟩
        | true =>
          rw [hs] at CALL
          have RES := Lib.hid (YES.out hs)
          clear hs NO YES
          go_wp2_with fail
          refine CALL.out.mono ?_; rintro e w5 ⟨rfl, b5⟩
          have B5 := Lib.hid (bt HW.out b5)
          clear b5 CALL e0 e1 e2 e3 y0 y1 y2 y3
          go_wp2
          go_roundw
          case rel => exact ⟨k + 1, by omega, by go_num, RES, B5⟩
          case measure => simp [intOf]; omega
      · obtain rfl : 1 = k := by omega
        have hge : ¬ (1 : Int) < 1 := by omega
        have RES := Lib.hid (show ans = true by rw [HAN.out]; have := HL.out; rw [HN.out, List.take_length] at this; exact this)
        go_wp2
        go_ret
        exact ⟨by rw [RES.out]; rfl, HBW.out⟩
  · by_cases hn : ¬ N = 0
    · have RES := Lib.hid (BAD.out (by rw [HP.out]; rw [show decide ((N : Int) = arT 7) = false from decide_eq_false (by show ¬ (N : Int) = 0; omega)]; simp))
      have hn2 : ¬ (N : Int) = 0 := by omega
      clear HP BAD
      clear HSP HI HBG HA HN
      go_enter Tryd.func43, Tryd.ntmps43
      go_wp2
      go_ret
      exact ⟨by rw [RES.out]; rfl, below_alloc _ _⟩
    obtain rfl : N = 0 := by omega
    clear hn
    cases he : emptyB nm with
    | false =>
      have RES := Lib.hid (BAD.out (by rw [HP.out, he]; simp))
      have hne : nm.toList.isEmpty = false := by unfold emptyB at he; exact he
      have hne2 : ¬ nm.toList = [] := fun e => by rw [e] at hne; cases hne
      clear HP BAD he
      clear HSP HI HBG HA HN
      go_enter Tryd.func43, Tryd.ntmps43
      go_wp2
      go_ret
      exact ⟨by rw [RES.out]; rfl, below_alloc _ _⟩
    | true =>
    have hnm : nm = ⟨#[]⟩ := toList_nil (by unfold emptyB at he; exact he)
    subst hnm
    by_cases hv : vr < 0
    · have RES := Lib.hid (BAD.out (by rw [HP.out]; rw [show decide (0 ≤ vr) = false from decide_eq_false (by omega)]; simp))
      have hv2 : decide (vr < 0) = true := decide_eq_true hv
      clear HP BAD he
      clear HSP HI HBG HA HN
      go_enter Tryd.func43, Tryd.ntmps43
      go_wp2
      go_ret
      exact ⟨by rw [RES.out]; rfl, below_alloc _ _⟩
    by_cases hv9 : 1999 < vr
    · have RES := Lib.hid (BAD.out (by rw [HP.out]; rw [show decide (vr ≤ 1999) = false from decide_eq_false (by omega)]; simp))
      have hv2 : decide (vr < 0) = false := decide_eq_false hv
      have hv3 : decide (1999 < vr) = true := decide_eq_true hv9
      clear HP BAD he
      clear HSP HI HBG HA HN
      go_enter Tryd.func43, Tryd.ntmps43
      go_wp2
      go_ret
      exact ⟨by rw [RES.out]; rfl, below_alloc _ _⟩
    have hv2 : decide (vr < 0) = false := decide_eq_false hv
    have hv3 : decide (1999 < vr) = false := decide_eq_false hv9
    have HHD := Lib.hid (show hd = true by rw [HP.out, he, show decide (0 ≤ vr) = true from decide_eq_true (by omega), show decide (vr ≤ 1999) = true from decide_eq_true (by omega)]; simp [arT])
    have HAN := Lib.hid (show ans = shpL args by rw [HSP.out, HHD.out]; rfl)
    clear HP BAD he HSP HHD
    go_enter Tryd.func43, Tryd.ntmps43
    go_wp2
    try rw [← HWA.out]
    have RES := Lib.hid (show ans = true by rw [HAN.out, List.length_eq_zero_iff.1 HN.out.symm]; rfl)
    clear HAN HI HBG HA
    go_loopw [4] (fun i wr => i = .int .i64 0 ∧ wr = wA) (fun _ _ => 0)
    case atStart => exact ⟨by first | rfl | trivial, by first | rfl | trivial⟩
    case round =>
      obtain ⟨rfl, hwr⟩ := hrel
      subst hwr
      go_wp2
      go_ret
      exact ⟨by rw [RES.out]; rfl, BA.out⟩
end Go.Proofs.YtdkfimejabanlaaDoor
