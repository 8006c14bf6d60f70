import Derived.Test.YtifopogkbjhkjaaGreatDoorRs
namespace Go.Proofs.YtifopogkbjhkjaaGreatDoor
open DR
open Go.ChangeShapes Go.WideShapes Go.ChangeAt Go.RowKit Go.WideMaps
set_option linter.unusedVariables false
set_option linter.unusedSimpArgs false
theorem cnt_exact (V : TT) : ∀ m : Int, cnt V m ≤ m → cnt V m = nodes V := by
  refine TT.rec (motive_1 := fun V => ∀ m : Int, cnt V m ≤ m → cnt V m = nodes V) (motive_2 := fun l => (∀ n m : Int, n ≤ cntTL l n m) ∧ ∀ n m : Int, cntTL l n m ≤ m → cntTL l n m = n + nodesL l) ?_ ?_ ?_ V
  · intro k nm vr args ih m h
    rw [cnt] at h ⊢
    rw [nodes, ih.2 1 m h]
    omega
  · exact ⟨fun n m => by rw [cntTL]; omega, fun n m _ => by rw [cntTL, nodesL]; omega⟩
  · intro a l ia il
    have h1 : ∀ n m : Int, n ≤ cntTL (a :: l) n m := fun n m => by
      rw [cntTL]
      split
      · omega
      · have := il.1 (n + cnt a (m - n)) m
        have := (cnt_le a (m - n)).1
        omega
    refine ⟨h1, fun n m h => ?_⟩
    rw [cntTL] at h ⊢
    split at h
    · omega
    · rename_i hm
      rw [if_neg hm]
      have h2 := il.1 (n + cnt a (m - n)) m
      have h3 := il.2 (n + cnt a (m - n)) m h
      have h4 := ia (m - n) (by omega)
      rw [h3, h4, nodesL]
      omega
theorem size_nodes (V : TT) : sizeT V = min (nodes V : Int) 501 := by
  unfold sizeT
  have h1 := (cnt_le V 500).2
  by_cases h : cnt V 500 ≤ 500
  · rw [cnt_exact V 500 h]
  · omega
set_option maxRecDepth 100000 in
set_option maxHeartbeats 4000000 in
theorem rsize_any : ∀ (d : Nat) (V : TT) (v : Value) (w : World), bigT d V = false → TIn w any0 V v → Calls Tryz.prog 52 #[v] w fun e w' => e = .returned (.int .i64 (min (nodes V : Int) 501)) ∧ Below w.heap.size w w' := by
  intro d
  induction d with
  | zero => intro V v w h; cases h
  | succ d ih =>
  intro V v w hbg ⟨A, c, hv, hA⟩
  obtain ⟨hl4, -, b3⟩ := bigT_parts hbg
  subst hv
  have HI := Lib.hid ih
  have HBG := Lib.hid b3
  have HND := Lib.hid (nodes_eq V)
  unfold tv
  obtain ⟨args, ha⟩ : ∃ l, l = V.args := ⟨_, rfl⟩
  rw [← ha] at hA HBG hl4 HND ⊢
  have HA := Lib.hid hA
  obtain ⟨wA, hwA⟩ : ∃ z, z = w.alloc (.cells #[.int .i64 V.k, .string V.nm, .int .i64 V.vr, .slice A args.length c] 36) := ⟨_, rfl⟩
  have BA := Lib.hid (show Below w.heap.size w wA by rw [hwA]; exact below_alloc w _)
  have HX := Lib.hid (show wA.heap[w.heap.size]? = some (.cells #[.int .i64 V.k, .string V.nm, .int .i64 V.vr, .slice A args.length c] 36 (0, 0)) by rw [hwA]; exact heap_alloc_new w _)
  have HZ := Lib.hid (show w.heap.size < wA.heap.size by rw [hwA]; simp)
  have HWA := Lib.hid hwA
  obtain ⟨x0, x1, x2, x3⟩ := cells4 HX.out
  obtain ⟨R, hR⟩ : ∃ r : Int, r = min (nodes V : Int) 501 := ⟨_, rfl⟩
  have HR := Lib.hid hR
  rw [← hR]
  clear ih hbg b3 ha hA hwA hR
  go_enter Tryz.func52, Tryz.ntmps52
  go_wp2
  try rw [← HWA.out]
  go_loopw [3, 4] (fun nv i wr => ∃ (k : Nat) (q : Int), k ≤ args.length ∧ nv = .int .i64 q ∧ i = .int .i64 k ∧ 1 ≤ q ∧ q ≤ 1001 ∧ Hid (min q 501 = min (1 + (nodesL (args.take k) : Int)) 501) ∧ Hid (Below wA.heap.size wA wr)) (fun _ i _ => args.length - (intOf i).toNat)
  case atStart => exact ⟨0, 1, by omega, by first | rfl | trivial, by first | rfl | trivial, by omega, by omega, Lib.hid (by rw [List.take_zero, nodesL]; rfl), Lib.hid (Below.refl _ _)⟩
  case round =>
    obtain ⟨k, q, hk, rfl, rfl, hq1, hq2, HQ, HW⟩ := hrel
    have HBW := Lib.hid (bt BA.out HW.out)
    obtain ⟨e0, e1, e2, e3⟩ := cells4 ((HW.out.block w.heap.size HZ.out).trans HX.out)
    by_cases hlt : k < args.length
    · have hlti : (k : Int) < (args.length : Int) := by omega
      by_cases h5 : q ≤ 500
      · have d5 : decide (q ≤ 500) = true := decide_eq_true h5
        obtain ⟨b, o, rfl, hb, hr⟩ := HA.out.at (by omega)
        obtain ⟨A', c', y0, y1, y2, y3, hin⟩ := hr _ HBW.out k hlt
        have CALL := Lib.hid (HI.out args[k] _ _ (HBG.out _ (List.getElem_mem hlt)) hin)
        have htk := nodesL_take args k hlt
        have hq9 := HQ.out
        obtain ⟨s, hs⟩ : ∃ s : Int, s = min (nodes args[k] : Int) 501 := ⟨_, rfl⟩
        rw [← hs] at CALL
        have HN := Lib.hid (show min (q + s) 501 = min (1 + (nodesL (args.take (k + 1)) : Int)) 501 by rw [hs]; omega)
        have hs1 : 0 ≤ s := by omega
        have hs2 : s ≤ 501 := by omega
        have wq : IntKind.i64.wrap (q + s) = q + s := IntWalk.i64_in _ (by omega)
        obtain ⟨E, hE⟩ : ∃ E, E = args[k] := ⟨_, rfl⟩
        rw [← hE] at y0 y1 y2 y3 CALL
        unfold tv at CALL
        have h9 : q + s ≤ 1001 := by omega
        have h8 : 1 ≤ q + s := by omega
        clear hr hin hb HI hE htk hq9 hs HQ
        go_wp2_with fail
        refine CALL.out.mono ?_; rintro e w5 ⟨rfl, b5⟩
        have B5 := Lib.hid (bt HW.out b5)
        clear b5 CALL e0 e1 e2 e3 y0 y1 y2 y3
        go_wp2
        go_roundw
        case rel => exact ⟨k + 1, q + s, by omega, by first | rfl | go_num, by go_num, h8, h9, HN, B5⟩
        case measure => simp [intOf]; omega
      · have d5 : decide (q ≤ 500) = false := decide_eq_false h5
        have hle := nodesL_take_le args k
        have hq9 := HQ.out
        have hnd := HND.out
        by_cases h6 : 501 < q
        · have d6 : decide (501 < q) = true := decide_eq_true h6
          have RES := Lib.hid (show R = 501 by rw [HR.out]; omega)
          clear hle hq9 hnd HQ
          go_wp2
          go_ret
          exact ⟨by rw [RES.out]; rfl, HBW.out⟩
        · have d6 : decide (501 < q) = false := decide_eq_false h6
          have RES := Lib.hid (show R = q by rw [HR.out]; omega)
          clear hle hq9 hnd HQ
          go_wp2
          go_ret
          exact ⟨by rw [RES.out]; rfl, HBW.out⟩
    · obtain rfl : args.length = k := by omega
      have hge : ¬ (args.length : Int) < (args.length : Int) := by omega
      have hq9 := HQ.out
      rw [List.take_length] at hq9
      have hnd := HND.out
      by_cases h6 : 501 < q
      · have d6 : decide (501 < q) = true := decide_eq_true h6
        have RES := Lib.hid (show R = 501 by rw [HR.out]; omega)
        clear hq9 hnd HQ
        go_wp2
        go_ret
        exact ⟨by rw [RES.out]; rfl, HBW.out⟩
      · have d6 : decide (501 < q) = false := decide_eq_false h6
        have RES := Lib.hid (show R = q by rw [HR.out]; omega)
        clear hq9 hnd HQ
        go_wp2
        go_ret
        exact ⟨by rw [RES.out]; rfl, HBW.out⟩
end Go.Proofs.YtifopogkbjhkjaaGreatDoor
namespace Go.Proofs.YtifopogkbjhkjaaGreatDoor
open DR
open Go.ChangeShapes Go.WideShapes Go.ChangeAt Go.RowKit Go.WideMaps
set_option linter.unusedVariables false
set_option linter.unusedSimpArgs false
/-- what kinds asks of a node. -/
theorem headOk_parts (V : TT) : headOk V = (decide (1 ≤ V.k) && decide (V.k ≤ 7) && decide ((V.args.length : Int) = arT V.k) && ((!emptyB V.nm) == (V.k == 4)) && decide (0 ≤ V.vr) && decide (V.vr ≤ 1999) && (V.vr == 0 || V.k == 7)) := rfl
set_option maxRecDepth 100000 in
set_option maxHeartbeats 16000000 in
theorem kinds_any : ∀ (d : Nat) (V : TT) (v : Value) (w : World), bigT d V = false → TIn w any0 V v → Calls Tryz.prog 53 #[v] w fun e w' => e = .returned (.bool (shp V)) ∧ Below w.heap.size w w' := by
  intro d
  induction d with
  | zero => intro V v w h; cases h
  | succ d ih =>
  intro V v w hbg ⟨A, c, hv, hA⟩
  obtain ⟨hl4, -, b3⟩ := bigT_parts hbg
  subst hv
  have HI := Lib.hid ih
  have HBG := Lib.hid b3
  have HSP := Lib.hid (shp_eq V)
  have HP := Lib.hid (headOk_parts V)
  unfold tv
  obtain ⟨args, ha⟩ : ∃ l, l = V.args := ⟨_, rfl⟩
  obtain ⟨nm, hn⟩ : ∃ l, l = V.nm := ⟨_, rfl⟩
  obtain ⟨k0, hk0⟩ : ∃ l, l = V.k := ⟨_, rfl⟩
  obtain ⟨vr, hvr⟩ : ∃ l, l = V.vr := ⟨_, rfl⟩
  rw [← ha] at hA HBG hl4 HSP HP ⊢
  obtain ⟨N, hN⟩ : ∃ n, n = args.length := ⟨_, rfl⟩
  rw [← hN] at hl4 HP ⊢
  have HN := Lib.hid hN
  rw [← hn] at HP ⊢
  rw [← hk0] at HP ⊢
  rw [← hvr] at HP ⊢
  obtain ⟨ans, hans⟩ : ∃ b, b = shp V := ⟨_, rfl⟩
  rw [← hans] at HSP ⊢
  obtain ⟨hd, hhd⟩ : ∃ b, b = headOk V := ⟨_, rfl⟩
  rw [← hhd] at HSP HP
  have HA := Lib.hid hA
  obtain ⟨wA, hwA⟩ : ∃ z, z = w.alloc (.cells #[.int .i64 k0, .string nm, .int .i64 vr, .slice A N c] 36) := ⟨_, rfl⟩
  have BA := Lib.hid (show Below w.heap.size w wA by rw [hwA]; exact below_alloc w _)
  have HX := Lib.hid (show wA.heap[w.heap.size]? = some (.cells #[.int .i64 k0, .string nm, .int .i64 vr, .slice A N c] 36 (0, 0)) by rw [hwA]; exact heap_alloc_new w _)
  have HZ := Lib.hid (show w.heap.size < wA.heap.size by rw [hwA]; simp)
  have HWA := Lib.hid hwA
  obtain ⟨x0, x1, x2, x3⟩ := cells4 HX.out
  have BAD := Lib.hid (show hd = false → ans = false from fun h => by rw [HSP.out, h]; rfl)
  clear ih hbg b3 ha hA hwA hn hk0 hvr hans hhd hN
  by_cases hr : k0 < 1 ∨ 7 < k0
  · have RES := Lib.hid (BAD.out (by rw [HP.out]; rcases hr with h | h; (rw [show decide (1 ≤ k0) = false from decide_eq_false (by omega)]; rfl); (rw [show decide (k0 ≤ 7) = false from decide_eq_false (by omega)]; simp)))
    have n1 : ¬ k0 = 1 := by omega
    have m1 : (k0 == 1) = false := beq_eq_false_iff_ne.2 n1
    have n2 : ¬ k0 = 2 := by omega
    have m2 : (k0 == 2) = false := beq_eq_false_iff_ne.2 n2
    have n3 : ¬ k0 = 3 := by omega
    have m3 : (k0 == 3) = false := beq_eq_false_iff_ne.2 n3
    have n4 : ¬ k0 = 4 := by omega
    have m4 : (k0 == 4) = false := beq_eq_false_iff_ne.2 n4
    have n5 : ¬ k0 = 5 := by omega
    have m5 : (k0 == 5) = false := beq_eq_false_iff_ne.2 n5
    have n6 : ¬ k0 = 6 := by omega
    have m6 : (k0 == 6) = false := beq_eq_false_iff_ne.2 n6
    have n7 : ¬ k0 = 7 := by omega
    have m7 : (k0 == 7) = false := beq_eq_false_iff_ne.2 n7
    clear hr HP BAD
    clear HSP HI HBG HA HN
    go_enter Tryz.func53, Tryz.ntmps53
    go_wp2
    go_ret
    exact ⟨by rw [RES.out]; rfl, below_alloc _ _⟩
  have hcs : k0 = 1 ∨ k0 = 2 ∨ k0 = 3 ∨ k0 = 4 ∨ k0 = 5 ∨ k0 = 6 ∨ k0 = 7 := by omega
  clear hr
  rcases hcs with rfl | rfl | rfl | rfl | rfl | rfl | rfl
  · by_cases hn : ¬ N = 0
    · have RES := Lib.hid (BAD.out (by rw [HP.out]; rw [show decide ((N : Int) = arT 1) = false from decide_eq_false (by show ¬ (N : Int) = 0; omega)]; simp))
      have hn2 : ¬ (N : Int) = 0 := by omega
      clear HP BAD
      clear HSP HI HBG HA HN
      go_enter Tryz.func53, Tryz.ntmps53
      go_wp2
      go_ret
      exact ⟨by rw [RES.out]; rfl, below_alloc _ _⟩
    obtain rfl : N = 0 := by omega
    clear hn
    cases he : emptyB nm with
    | false =>
      have RES := Lib.hid (BAD.out (by rw [HP.out, he]; simp))
      have hne : nm.toList.isEmpty = false := by unfold emptyB at he; exact he
      have hne2 : ¬ nm.toList = [] := fun e => by rw [e] at hne; cases hne
      clear HP BAD he
      clear HSP HI HBG HA HN
      go_enter Tryz.func53, Tryz.ntmps53
      go_wp2
      go_ret
      exact ⟨by rw [RES.out]; rfl, below_alloc _ _⟩
    | true =>
    have hnm : nm = ⟨#[]⟩ := toList_nil (by unfold emptyB at he; exact he)
    subst hnm
    by_cases hv : ¬ vr = 0
    · have RES := Lib.hid (BAD.out (by rw [HP.out]; rw [show (vr == 0 || (1 : Int) == 7) = false from by rw [beq_eq_false_iff_ne.2 hv]; rfl]; simp))
      have hv2 : (vr == 0) = false := beq_eq_false_iff_ne.2 hv
      clear HP BAD he
      clear HSP HI HBG HA HN
      go_enter Tryz.func53, Tryz.ntmps53
      go_wp2
      go_ret
      exact ⟨by rw [RES.out]; rfl, below_alloc _ _⟩
    obtain rfl : vr = 0 := by omega
    clear hv
    have HHD := Lib.hid (show hd = true by rw [HP.out, he]; rfl)
    have HAN := Lib.hid (show ans = shpL args by rw [HSP.out, HHD.out]; rfl)
    clear HP BAD he HSP HHD
    go_enter Tryz.func53, Tryz.ntmps53
    go_wp2
    try rw [← HWA.out]
    have RES := Lib.hid (show ans = true by rw [HAN.out, List.length_eq_zero_iff.1 HN.out.symm]; rfl)
    clear HAN HI HBG HA
    go_loopw [4] (fun i wr => i = .int .i64 0 ∧ wr = wA) (fun _ _ => 0)
    case atStart => exact ⟨by first | rfl | trivial, by first | rfl | trivial⟩
    case round =>
      obtain ⟨rfl, hwr⟩ := hrel
      subst hwr
      go_wp2
      go_ret
      exact ⟨by rw [RES.out]; rfl, BA.out⟩
  · by_cases hn : ¬ N = 0
    · have RES := Lib.hid (BAD.out (by rw [HP.out]; rw [show decide ((N : Int) = arT 2) = false from decide_eq_false (by show ¬ (N : Int) = 0; omega)]; simp))
      have hn2 : ¬ (N : Int) = 0 := by omega
      clear HP BAD
      clear HSP HI HBG HA HN
      go_enter Tryz.func53, Tryz.ntmps53
      go_wp2
      go_ret
      exact ⟨by rw [RES.out]; rfl, below_alloc _ _⟩
    obtain rfl : N = 0 := by omega
    clear hn
    cases he : emptyB nm with
    | false =>
      have RES := Lib.hid (BAD.out (by rw [HP.out, he]; simp))
      have hne : nm.toList.isEmpty = false := by unfold emptyB at he; exact he
      have hne2 : ¬ nm.toList = [] := fun e => by rw [e] at hne; cases hne
      clear HP BAD he
      clear HSP HI HBG HA HN
      go_enter Tryz.func53, Tryz.ntmps53
      go_wp2
      go_ret
      exact ⟨by rw [RES.out]; rfl, below_alloc _ _⟩
    | true =>
    have hnm : nm = ⟨#[]⟩ := toList_nil (by unfold emptyB at he; exact he)
    subst hnm
    by_cases hv : ¬ vr = 0
    · have RES := Lib.hid (BAD.out (by rw [HP.out]; rw [show (vr == 0 || (2 : Int) == 7) = false from by rw [beq_eq_false_iff_ne.2 hv]; rfl]; simp))
      have hv2 : (vr == 0) = false := beq_eq_false_iff_ne.2 hv
      clear HP BAD he
      clear HSP HI HBG HA HN
      go_enter Tryz.func53, Tryz.ntmps53
      go_wp2
      go_ret
      exact ⟨by rw [RES.out]; rfl, below_alloc _ _⟩
    obtain rfl : vr = 0 := by omega
    clear hv
    have HHD := Lib.hid (show hd = true by rw [HP.out, he]; rfl)
    have HAN := Lib.hid (show ans = shpL args by rw [HSP.out, HHD.out]; rfl)
    clear HP BAD he HSP HHD
    go_enter Tryz.func53, Tryz.ntmps53
    go_wp2
    try rw [← HWA.out]
    have RES := Lib.hid (show ans = true by rw [HAN.out, List.length_eq_zero_iff.1 HN.out.symm]; rfl)
    clear HAN HI HBG HA
    go_loopw [4] (fun i wr => i = .int .i64 0 ∧ wr = wA) (fun _ _ => 0)
    case atStart => exact ⟨by first | rfl | trivial, by first | rfl | trivial⟩
    case round =>
      obtain ⟨rfl, hwr⟩ := hrel
      subst hwr
      go_wp2
      go_ret
      exact ⟨by rw [RES.out]; rfl, BA.out⟩
  · by_cases hn : ¬ N = 0
    · have RES := Lib.hid (BAD.out (by rw [HP.out]; rw [show decide ((N : Int) = arT 3) = false from decide_eq_false (by show ¬ (N : Int) = 0; omega)]; simp))
      have hn2 : ¬ (N : Int) = 0 := by omega
      clear HP BAD
      clear HSP HI HBG HA HN
      go_enter Tryz.func53, Tryz.ntmps53
      go_wp2
      go_ret
      exact ⟨by rw [RES.out]; rfl, below_alloc _ _⟩
    obtain rfl : N = 0 := by omega
    clear hn
    cases he : emptyB nm with
    | false =>
      have RES := Lib.hid (BAD.out (by rw [HP.out, he]; simp))
      have hne : nm.toList.isEmpty = false := by unfold emptyB at he; exact he
      have hne2 : ¬ nm.toList = [] := fun e => by rw [e] at hne; cases hne
      clear HP BAD he
      clear HSP HI HBG HA HN
      go_enter Tryz.func53, Tryz.ntmps53
      go_wp2
      go_ret
      exact ⟨by rw [RES.out]; rfl, below_alloc _ _⟩
    | true =>
    have hnm : nm = ⟨#[]⟩ := toList_nil (by unfold emptyB at he; exact he)
    subst hnm
    by_cases hv : ¬ vr = 0
    · have RES := Lib.hid (BAD.out (by rw [HP.out]; rw [show (vr == 0 || (3 : Int) == 7) = false from by rw [beq_eq_false_iff_ne.2 hv]; rfl]; simp))
      have hv2 : (vr == 0) = false := beq_eq_false_iff_ne.2 hv
      clear HP BAD he
      clear HSP HI HBG HA HN
      go_enter Tryz.func53, Tryz.ntmps53
      go_wp2
      go_ret
      exact ⟨by rw [RES.out]; rfl, below_alloc _ _⟩
    obtain rfl : vr = 0 := by omega
    clear hv
    have HHD := Lib.hid (show hd = true by rw [HP.out, he]; rfl)
    have HAN := Lib.hid (show ans = shpL args by rw [HSP.out, HHD.out]; rfl)
    clear HP BAD he HSP HHD
    go_enter Tryz.func53, Tryz.ntmps53
    go_wp2
    try rw [← HWA.out]
    have RES := Lib.hid (show ans = true by rw [HAN.out, List.length_eq_zero_iff.1 HN.out.symm]; rfl)
    clear HAN HI HBG HA
    go_loopw [4] (fun i wr => i = .int .i64 0 ∧ wr = wA) (fun _ _ => 0)
    case atStart => exact ⟨by first | rfl | trivial, by first | rfl | trivial⟩
    case round =>
      obtain ⟨rfl, hwr⟩ := hrel
      subst hwr
      go_wp2
      go_ret
      exact ⟨by rw [RES.out]; rfl, BA.out⟩
  · by_cases hn : ¬ N = 0
    · have RES := Lib.hid (BAD.out (by rw [HP.out]; rw [show decide ((N : Int) = arT 4) = false from decide_eq_false (by show ¬ (N : Int) = 0; omega)]; simp))
      have hn2 : ¬ (N : Int) = 0 := by omega
      clear HP BAD
      clear HSP HI HBG HA HN
      go_enter Tryz.func53, Tryz.ntmps53
      go_wp2
      go_ret
      exact ⟨by rw [RES.out]; rfl, below_alloc _ _⟩
    obtain rfl : N = 0 := by omega
    clear hn
    cases he : emptyB nm with
    | true =>
      have RES := Lib.hid (BAD.out (by rw [HP.out, he]; simp))
      have hnm : nm = ⟨#[]⟩ := toList_nil (by unfold emptyB at he; exact he)
      subst hnm
      clear HP BAD he
      clear HSP HI HBG HA HN
      go_enter Tryz.func53, Tryz.ntmps53
      go_wp2
      go_ret
      exact ⟨by rw [RES.out]; rfl, below_alloc _ _⟩
    | false =>
    have hne : nm.toList.isEmpty = false := by unfold emptyB at he; exact he
    have hne2 : ¬ nm.toList = [] := fun e => by rw [e] at hne; cases hne
    by_cases hv : ¬ vr = 0
    · have RES := Lib.hid (BAD.out (by rw [HP.out]; rw [show (vr == 0 || (4 : Int) == 7) = false from by rw [beq_eq_false_iff_ne.2 hv]; rfl]; simp))
      have hv2 : (vr == 0) = false := beq_eq_false_iff_ne.2 hv
      clear HP BAD he
      clear HSP HI HBG HA HN
      go_enter Tryz.func53, Tryz.ntmps53
      go_wp2
      go_ret
      exact ⟨by rw [RES.out]; rfl, below_alloc _ _⟩
    obtain rfl : vr = 0 := by omega
    clear hv
    have HHD := Lib.hid (show hd = true by rw [HP.out, he]; rfl)
    have HAN := Lib.hid (show ans = shpL args by rw [HSP.out, HHD.out]; rfl)
    clear HP BAD he HSP HHD
    go_enter Tryz.func53, Tryz.ntmps53
    go_wp2
    try rw [← HWA.out]
    have RES := Lib.hid (show ans = true by rw [HAN.out, List.length_eq_zero_iff.1 HN.out.symm]; rfl)
    clear HAN HI HBG HA
    go_loopw [4] (fun i wr => i = .int .i64 0 ∧ wr = wA) (fun _ _ => 0)
    case atStart => exact ⟨by first | rfl | trivial, by first | rfl | trivial⟩
    case round =>
      obtain ⟨rfl, hwr⟩ := hrel
      subst hwr
      go_wp2
      go_ret
      exact ⟨by rw [RES.out]; rfl, BA.out⟩
  · by_cases hn : ¬ N = 2
    · have RES := Lib.hid (BAD.out (by rw [HP.out]; rw [show decide ((N : Int) = arT 5) = false from decide_eq_false (by show ¬ (N : Int) = 2; omega)]; simp))
      have hn2 : ¬ (N : Int) = 2 := by omega
      clear HP BAD
      clear HSP HI HBG HA HN
      go_enter Tryz.func53, Tryz.ntmps53
      go_wp2
      go_ret
      exact ⟨by rw [RES.out]; rfl, below_alloc _ _⟩
    obtain rfl : N = 2 := by omega
    clear hn
    cases he : emptyB nm with
    | false =>
      have RES := Lib.hid (BAD.out (by rw [HP.out, he]; simp))
      have hne : nm.toList.isEmpty = false := by unfold emptyB at he; exact he
      have hne2 : ¬ nm.toList = [] := fun e => by rw [e] at hne; cases hne
      clear HP BAD he
      clear HSP HI HBG HA HN
      go_enter Tryz.func53, Tryz.ntmps53
      go_wp2
      go_ret
      exact ⟨by rw [RES.out]; rfl, below_alloc _ _⟩
    | true =>
    have hnm : nm = ⟨#[]⟩ := toList_nil (by unfold emptyB at he; exact he)
    subst hnm
    by_cases hv : ¬ vr = 0
    · have RES := Lib.hid (BAD.out (by rw [HP.out]; rw [show (vr == 0 || (5 : Int) == 7) = false from by rw [beq_eq_false_iff_ne.2 hv]; rfl]; simp))
      have hv2 : (vr == 0) = false := beq_eq_false_iff_ne.2 hv
      clear HP BAD he
      clear HSP HI HBG HA HN
      go_enter Tryz.func53, Tryz.ntmps53
      go_wp2
      go_ret
      exact ⟨by rw [RES.out]; rfl, below_alloc _ _⟩
    obtain rfl : vr = 0 := by omega
    clear hv
    have HHD := Lib.hid (show hd = true by rw [HP.out, he]; rfl)
    have HAN := Lib.hid (show ans = shpL args by rw [HSP.out, HHD.out]; rfl)
    clear HP BAD he HSP HHD
    go_enter Tryz.func53, Tryz.ntmps53
    go_wp2
    try rw [← HWA.out]
    go_loopw [4] (fun i wr => ∃ k : Nat, k ≤ 2 ∧ i = .int .i64 k ∧ Hid (shpL (args.take k) = true) ∧ Hid (Below wA.heap.size wA wr)) (fun i _ => 2 - (intOf i).toNat)
    case atStart => exact ⟨0, by omega, by first | rfl | trivial, Lib.hid (by rw [List.take_zero]; rfl), Lib.hid (Below.refl _ _)⟩
    case round =>
      obtain ⟨k, hk, rfl, HL, HW⟩ := hrel
      have HBW := Lib.hid (bt BA.out HW.out)
      obtain ⟨e0, e1, e2, e3⟩ := cells4 ((HW.out.block w.heap.size HZ.out).trans HX.out)
      by_cases hlt : k < 2
      · have hlti : (k : Int) < 2 := by omega
        have hlt' : k < args.length := by rw [← HN.out]; exact hlt
        obtain ⟨b, o, rfl, hb, hr⟩ := HA.out.at (by omega)
        obtain ⟨A', c', y0, y1, y2, y3, hin⟩ := hr _ HBW.out k hlt'
        have CALL := Lib.hid (HI.out args[k] _ _ (HBG.out _ (List.getElem_mem hlt')) hin)
        have NO := Lib.hid (show shp args[k] = false → ans = false from fun h => by rw [HAN.out]; exact shpL_no hlt' h)
        have YES := Lib.hid (show shp args[k] = true → shpL (args.take (k + 1)) = true from fun h => by rw [shpL_take hlt' HL.out]; exact h)
        obtain ⟨E, hE⟩ : ∃ E, E = args[k] := ⟨_, rfl⟩
        rw [← hE] at y0 y1 y2 y3 CALL NO YES
        unfold tv at CALL
        clear hr hin hb HI hE HAN
        cases hs : shp E with
        | false =>
          rw [hs] at CALL
          have RES := Lib.hid (NO.out hs)
          clear hs NO YES
          go_wp2_with fail
          refine CALL.out.mono ?_; rintro e w5 ⟨rfl, b5⟩
          have B5 := Lib.hid (bt HBW.out b5)
          clear b5 CALL
          go_wp2
          go_ret
          exact ⟨by rw [RES.out]; rfl, B5.out⟩
        | true =>
          rw [hs] at CALL
          have RES := Lib.hid (YES.out hs)
          clear hs NO YES
          go_wp2_with fail
          refine CALL.out.mono ?_; rintro e w5 ⟨rfl, b5⟩
          have B5 := Lib.hid (bt HW.out b5)
          clear b5 CALL e0 e1 e2 e3 y0 y1 y2 y3
          go_wp2
          go_roundw
          case rel => exact ⟨k + 1, by omega, by go_num, RES, B5⟩
          case measure => simp [intOf]; omega
      · obtain rfl : 2 = k := by omega
        have hge : ¬ (2 : Int) < 2 := by omega
        have RES := Lib.hid (show ans = true by rw [HAN.out]; have := HL.out; rw [HN.out, List.take_length] at this; exact this)
        go_wp2
        go_ret
        exact ⟨by rw [RES.out]; rfl, HBW.out⟩
  · by_cases hn : ¬ N = 1
    · have RES := Lib.hid (BAD.out (by rw [HP.out]; rw [show decide ((N : Int) = arT 6) = false from decide_eq_false (by show ¬ (N : Int) = 1; omega)]; simp))
      have hn2 : ¬ (N : Int) = 1 := by omega
      clear HP BAD
      clear HSP HI HBG HA HN
      go_enter Tryz.func53, Tryz.ntmps53
      go_wp2
      go_ret
      exact ⟨by rw [RES.out]; rfl, below_alloc _ _⟩
    obtain rfl : N = 1 := by omega
    clear hn
    cases he : emptyB nm with
    | false =>
      have RES := Lib.hid (BAD.out (by rw [HP.out, he]; simp))
      have hne : nm.toList.isEmpty = false := by unfold emptyB at he; exact he
      have hne2 : ¬ nm.toList = [] := fun e => by rw [e] at hne; cases hne
      clear HP BAD he
      clear HSP HI HBG HA HN
      go_enter Tryz.func53, Tryz.ntmps53
      go_wp2
      go_ret
      exact ⟨by rw [RES.out]; rfl, below_alloc _ _⟩
    | true =>
    have hnm : nm = ⟨#[]⟩ := toList_nil (by unfold emptyB at he; exact he)
    subst hnm
    by_cases hv : ¬ vr = 0
    · have RES := Lib.hid (BAD.out (by rw [HP.out]; rw [show (vr == 0 || (6 : Int) == 7) = false from by rw [beq_eq_false_iff_ne.2 hv]; rfl]; simp))
      have hv2 : (vr == 0) = false := beq_eq_false_iff_ne.2 hv
      clear HP BAD he
      clear HSP HI HBG HA HN
      go_enter Tryz.func53, Tryz.ntmps53
      go_wp2
      go_ret
      exact ⟨by rw [RES.out]; rfl, below_alloc _ _⟩
    obtain rfl : vr = 0 := by omega
    clear hv
    have HHD := Lib.hid (show hd = true by rw [HP.out, he]; rfl)
    have HAN := Lib.hid (show ans = shpL args by rw [HSP.out, HHD.out]; rfl)
    clear HP BAD he HSP HHD
    go_enter Tryz.func53, Tryz.ntmps53
    go_wp2
    try rw [← HWA.out]
    go_loopw [4] (fun i wr => ∃ k : Nat, k ≤ 1 ∧ i = .int .i64 k ∧ Hid (shpL (args.take k) = true) ∧ Hid (Below wA.heap.size wA wr)) (fun i _ => 1 - (intOf i).toNat)
    case atStart => exact ⟨0, by omega, by first | rfl | trivial, Lib.hid (by rw [List.take_zero]; rfl), Lib.hid (Below.refl _ _)⟩
    case round =>
      obtain ⟨k, hk, rfl, HL, HW⟩ := hrel
      have HBW := Lib.hid (bt BA.out HW.out)
      obtain ⟨e0, e1, e2, e3⟩ := cells4 ((HW.out.block w.heap.size HZ.out).trans HX.out)
      by_cases hlt : k < 1
      · have hlti : (k : Int) < 1 := by omega
        have hlt' : k < args.length := by rw [← HN.out]; exact hlt
        obtain ⟨b, o, rfl, hb, hr⟩ := HA.out.at (by omega)
        obtain ⟨A', c', y0, y1, y2, y3, hin⟩ := hr _ HBW.out k hlt'
        have CALL := Lib.hid (HI.out args[k] _ _ (HBG.out _ (List.getElem_mem hlt')) hin)
        have NO := Lib.hid (show shp args[k] = false → ans = false from fun h => by rw [HAN.out]; exact shpL_no hlt' h)
        have YES := Lib.hid (show shp args[k] = true → shpL (args.take (k + 1)) = true from fun h => by rw [shpL_take hlt' HL.out]; exact h)
        obtain ⟨E, hE⟩ : ∃ E, E = args[k] := ⟨_, rfl⟩
        rw [← hE] at y0 y1 y2 y3 CALL NO YES
        unfold tv at CALL
        clear hr hin hb HI hE HAN
        cases hs : shp E with
        | false =>
          rw [hs] at CALL
          have RES := Lib.hid (NO.out hs)
          clear hs NO YES
          go_wp2_with fail
          refine CALL.out.mono ?_; rintro e w5 ⟨rfl, b5⟩
          have B5 := Lib.hid (bt HBW.out b5)
          clear b5 CALL
          go_wp2
          go_ret
          exact ⟨by rw [RES.out]; rfl, B5.out⟩
        | true =>
          rw [hs] at CALL
          have RES := Lib.hid (YES.out hs)
          clear hs NO YES
          go_wp2_with fail
          refine CALL.out.mono ?_; rintro e w5 ⟨rfl, b5⟩
          have B5 := Lib.hid (bt HW.out b5)
          clear b5 CALL e0 e1 e2 e3 y0 y1 y2 y3
          go_wp2
          go_roundw
          case rel => exact ⟨k + 1, by omega, by go_num, RES, B5⟩
          case measure => simp [intOf]; omega
      · obtain rfl : 1 = k := by omega
        have hge : ¬ (1 : Int) < 1 := by omega
        have RES := Lib.hid (show ans = true by rw [HAN.out]; have := HL.out; rw [HN.out, List.take_length] at this; exact this)
        go_wp2
        go_ret
        exact ⟨by rw [RES.out]; rfl, HBW.out⟩
  · by_cases hn : ¬ N = 0
    · have RES := Lib.hid (BAD.out (by rw [HP.out]; rw [show decide ((N : Int) = arT 7) = false from decide_eq_false (by show ¬ (N : Int) = 0; omega)]; simp))
      have hn2 : ¬ (N : Int) = 0 := by omega
      clear HP BAD
      clear HSP HI HBG HA HN
      go_enter Tryz.func53, Tryz.ntmps53
      go_wp2
      go_ret
      exact ⟨by rw [RES.out]; rfl, below_alloc _ _⟩
    obtain rfl : N = 0 := by omega
    clear hn
    cases he : emptyB nm with
    | false =>
      have RES := Lib.hid (BAD.out (by rw [HP.out, he]; simp))
      have hne : nm.toList.isEmpty = false := by unfold emptyB at he; exact he
      have hne2 : ¬ nm.toList = [] := fun e => by rw [e] at hne; cases hne
      clear HP BAD he
      clear HSP HI HBG HA HN
      go_enter Tryz.func53, Tryz.ntmps53
      go_wp2
      go_ret
      exact ⟨by rw [RES.out]; rfl, below_alloc _ _⟩
    | true =>
    have hnm : nm = ⟨#[]⟩ := toList_nil (by unfold emptyB at he; exact he)
    subst hnm
    by_cases hv : vr < 0
    · have RES := Lib.hid (BAD.out (by rw [HP.out]; rw [show decide (0 ≤ vr) = false from decide_eq_false (by omega)]; simp))
      have hv2 : decide (vr < 0) = true := decide_eq_true hv
      clear HP BAD he
      clear HSP HI HBG HA HN
      go_enter Tryz.func53, Tryz.ntmps53
      go_wp2
      go_ret
      exact ⟨by rw [RES.out]; rfl, below_alloc _ _⟩
    by_cases hv9 : 1999 < vr
    · have RES := Lib.hid (BAD.out (by rw [HP.out]; rw [show decide (vr ≤ 1999) = false from decide_eq_false (by omega)]; simp))
      have hv2 : decide (vr < 0) = false := decide_eq_false hv
      have hv3 : decide (1999 < vr) = true := decide_eq_true hv9
      clear HP BAD he
      clear HSP HI HBG HA HN
      go_enter Tryz.func53, Tryz.ntmps53
      go_wp2
      go_ret
      exact ⟨by rw [RES.out]; rfl, below_alloc _ _⟩
    have hv2 : decide (vr < 0) = false := decide_eq_false hv
    have hv3 : decide (1999 < vr) = false := decide_eq_false hv9
    have HHD := Lib.hid (show hd = true by rw [HP.out, he, show decide (0 ≤ vr) = true from decide_eq_true (by omega), show decide (vr ≤ 1999) = true from decide_eq_true (by omega)]; simp [arT])
    have HAN := Lib.hid (show ans = shpL args by rw [HSP.out, HHD.out]; rfl)
    clear HP BAD he HSP HHD
    go_enter Tryz.func53, Tryz.ntmps53
    go_wp2
    try rw [← HWA.out]
    have RES := Lib.hid (show ans = true by rw [HAN.out, List.length_eq_zero_iff.1 HN.out.symm]; rfl)
    clear HAN HI HBG HA
    go_loopw [4] (fun i wr => i = .int .i64 0 ∧ wr = wA) (fun _ _ => 0)
    case atStart => exact ⟨by first | rfl | trivial, by first | rfl | trivial⟩
    case round =>
      obtain ⟨rfl, hwr⟩ := hrel
      subst hwr
      go_wp2
      go_ret
      exact ⟨by rw [RES.out]; rfl, BA.out⟩
end Go.Proofs.YtifopogkbjhkjaaGreatDoor
namespace Go.Proofs.YtifopogkbjhkjaaGreatDoor
open DR
open Go.ChangeShapes Go.WideShapes Go.ChangeAt Go.RowKit Go.WideMaps
set_option linter.unusedVariables false
set_option linter.unusedSimpArgs false
set_option maxRecDepth 100000 in
set_option maxHeartbeats 2000000 in
theorem rgood_any {d : Nat} {V : TT} {v : Value} {w : World} (hbg : bigT d V = false) (h : TIn w any0 V v) : Calls Tryz.prog 29 #[v] w fun e w' => e = .returned (.bool (goodT V)) ∧ Below w.heap.size w w' := by
  have SZ := Lib.hid (fun W (hW : Below w.heap.size w W) => rsize_any d V v W hbg (h.later hW))
  have SH := Lib.hid (fun W (hW : Below w.heap.size w W) => kinds_any d V v W hbg (h.later hW))
  have HG := Lib.hid (show goodT V = (decide (min (nodes V : Int) 501 ≤ 500) && shp V) by unfold goodT; rw [size_nodes])
  obtain ⟨A, c, rfl, -⟩ := h
  obtain ⟨Z, hZ⟩ : ∃ z, z = min (nodes V : Int) 501 := ⟨_, rfl⟩
  obtain ⟨S, hS⟩ : ∃ z, z = shp V := ⟨_, rfl⟩
  obtain ⟨G, hG⟩ : ∃ z, z = goodT V := ⟨_, rfl⟩
  rw [← hZ] at SZ HG
  rw [← hS] at SH HG
  rw [← hG] at HG ⊢
  unfold tv at SZ SH ⊢
  have HB0 := Lib.hid (below_alloc w (.cells #[.int .i64 V.k, .string V.nm, .int .i64 V.vr, .slice A V.args.length c] 36))
  have HBX := Lib.hid (box4 w V A c V.args.length 36)
  clear hZ hS hbg hG
  by_cases h5 : Z ≤ 500
  · have d5 := decide_eq_true h5
    rw [d5] at HG
    clear h5
    go_enter Tryz.func29, Tryz.ntmps29
    go_wp2_with fail
    refine (SZ.out _ HB0.out).mono ?_; rintro e w1 ⟨rfl, hb1⟩
    have B1 := Lib.hid (bt HB0.out hb1)
    have zc := cell4 ((hb1.block w.heap.size (by simp)).trans HBX.out)
    have z0 := zc.1; have z1 := zc.2.1; have z2 := zc.2.2.1; have z3 := zc.2.2.2
    clear zc hb1 SZ
    go_wp2_with fail
    refine (SH.out _ B1.out).mono ?_; rintro e w2 ⟨rfl, hb2⟩
    have B2 := Lib.hid (bt B1.out hb2)
    clear hb2 SH
    go_wp2
    go_ret
    exact ⟨by rw [HG.out]; first | rfl | (cases S <;> rfl), B2.out⟩
  · have d5 := decide_eq_false h5
    rw [d5] at HG
    clear h5
    go_enter Tryz.func29, Tryz.ntmps29
    go_wp2_with fail
    refine (SZ.out _ HB0.out).mono ?_; rintro e w1 ⟨rfl, hb1⟩
    have B1 := Lib.hid (bt HB0.out hb1)
    clear hb1 SZ
    go_wp2
    go_ret
    exact ⟨by rw [HG.out]; first | rfl | (cases S <;> rfl), B1.out⟩
end Go.Proofs.YtifopogkbjhkjaaGreatDoor
