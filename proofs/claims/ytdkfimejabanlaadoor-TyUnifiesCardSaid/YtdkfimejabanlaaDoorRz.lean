import Derived.Test.YtdkfimejabanlaaDoorRs
namespace Go.Proofs.YtdkfimejabanlaaDoor
open DR
open Go.ChangeShapes Go.WideShapes Go.ChangeAt Go.RowKit Go.WideMaps
set_option linter.unusedVariables false
set_option linter.unusedSimpArgs false
theorem cnt_exact (V : TT) : ∀ m : Int, cnt V m ≤ m → cnt V m = nodes V := by
  refine TT.rec (motive_1 := fun V => ∀ m : Int, cnt V m ≤ m → cnt V m = nodes V) (motive_2 := fun l => (∀ n m : Int, n ≤ cntTL l n m) ∧ ∀ n m : Int, cntTL l n m ≤ m → cntTL l n m = n + nodesL l) ?_ ?_ ?_ V
  · intro k nm vr args ih m h
    rw [cnt] at h ⊢
    rw [nodes, ih.2 1 m h]
    omega
  · exact ⟨fun n m => by rw [cntTL]; omega, fun n m _ => by rw [cntTL, nodesL]; omega⟩
  · intro a l ia il
    have h1 : ∀ n m : Int, n ≤ cntTL (a :: l) n m := fun n m => by
      rw [cntTL]
      split
      · omega
      · have := il.1 (n + cnt a (m - n)) m
        have := (cnt_le a (m - n)).1
        omega
    refine ⟨h1, fun n m h => ?_⟩
    rw [cntTL] at h ⊢
    split at h
    · omega
    · rename_i hm
      rw [if_neg hm]
      have h2 := il.1 (n + cnt a (m - n)) m
      have h3 := il.2 (n + cnt a (m - n)) m h
      have h4 := ia (m - n) (by omega)
      rw [h3, h4, nodesL]
      omega
theorem size_nodes (V : TT) : sizeT V = min (nodes V : Int) 501 := by
  unfold sizeT
  have h1 := (cnt_le V 500).2
  by_cases h : cnt V 500 ≤ 500
  · rw [cnt_exact V 500 h]
  · omega
set_option maxRecDepth 100000 in
set_option maxHeartbeats 4000000 in
theorem rsize_any : ∀ (d : Nat) (V : TT) (v : Value) (w : World), bigT d V = false → TIn w any0 V v → Calls Tryd.prog 27 #[v] w fun e w' => e = .returned (.int .i64 (min (nodes V : Int) 501)) ∧ Below w.heap.size w w' := by
  intro d
  induction d with
  | zero => intro V v w h; cases h
  | succ d ih =>
  intro V v w hbg ⟨A, c, hv, hA⟩
  obtain ⟨hl4, -, b3⟩ := bigT_parts hbg
  subst hv
  have HI := Lib.hid ih
  have HBG := Lib.hid b3
  have HND := Lib.hid (nodes_eq V)
  unfold tv
  obtain ⟨args, ha⟩ : ∃ l, l = V.args := ⟨_, rfl⟩
  rw [← ha] at hA HBG hl4 HND ⊢
  have HA := Lib.hid hA
  obtain ⟨wA, hwA⟩ : ∃ z, z = w.alloc (.cells #[.int .i64 V.k, .string V.nm, .int .i64 V.vr, .slice A args.length c] 44) := ⟨_, rfl⟩
  have BA := Lib.hid (show Below w.heap.size w wA by rw [hwA]; exact below_alloc w _)
  have HX := Lib.hid (show wA.heap[w.heap.size]? = some (.cells #[.int .i64 V.k, .string V.nm, .int .i64 V.vr, .slice A args.length c] 44 (0, 0)) by rw [hwA]; exact heap_alloc_new w _)
  have HZ := Lib.hid (show w.heap.size < wA.heap.size by rw [hwA]; simp)
  have HWA := Lib.hid hwA
  obtain ⟨x0, x1, x2, x3⟩ := cells4 HX.out
  obtain ⟨R, hR⟩ : ∃ r : Int, r = min (nodes V : Int) 501 := ⟨_, rfl⟩
  have HR := Lib.hid hR
  rw [← hR]
  clear ih hbg b3 ha hA hwA hR
  go_enter Tryd.func27, Tryd.ntmps27
  go_wp2
  try rw [← HWA.out]
  go_loopw [3, 4] (fun nv i wr => ∃ (k : Nat) (q : Int), k ≤ args.length ∧ nv = .int .i64 q ∧ i = .int .i64 k ∧ 1 ≤ q ∧ q ≤ 1001 ∧ Hid (min q 501 = min (1 + (nodesL (args.take k) : Int)) 501) ∧ Hid (Below wA.heap.size wA wr)) (fun _ i _ => args.length - (intOf i).toNat)
  case atStart => exact ⟨0, 1, by omega, by first | rfl | trivial, by first | rfl | trivial, by omega, by omega, Lib.hid (by rw [List.take_zero, nodesL]; rfl), Lib.hid (Below.refl _ _)⟩
  case round =>
    obtain ⟨k, q, hk, rfl, rfl, hq1, hq2, HQ, HW⟩ := hrel
    have HBW := Lib.hid (bt BA.out HW.out)
    obtain ⟨e0, e1, e2, e3⟩ := cells4 ((HW.out.block w.heap.size HZ.out).trans HX.out)
    by_cases hlt : k < args.length
    · have hlti : (k : Int) < (args.length : Int) := by omega
      by_cases h5 : q ≤ 500
      · have d5 : decide (q ≤ 500) = true := decide_eq_true h5
        obtain ⟨b, o, rfl, hb, hr⟩ := HA.out.at (by omega)
        obtain ⟨A', c', y0, y1, y2, y3, hin⟩ := hr _ HBW.out k hlt
        have CALL := Lib.hid (HI.out args[k] _ _ (HBG.out _ (List.getElem_mem hlt)) hin)
        have htk := nodesL_take args k hlt
        have hq9 := HQ.out
        obtain ⟨s, hs⟩ : ∃ s : Int, s = min (nodes args[k] : Int) 501 := ⟨_, rfl⟩
        rw [← hs] at CALL
        have HN := Lib.hid (show min (q + s) 501 = min (1 + (nodesL (args.take (k + 1)) : Int)) 501 by rw [hs]; omega)
        have hs1 : 0 ≤ s := by omega
        have hs2 : s ≤ 501 := by omega
        have wq : IntKind.i64.wrap (q + s) = q + s := IntWalk.i64_in _ (by omega)
        obtain ⟨E, hE⟩ : ∃ E, E = args[k] := ⟨_, rfl⟩
        rw [← hE] at y0 y1 y2 y3 CALL
        unfold tv at CALL
        have h9 : q + s ≤ 1001 := by omega
        have h8 : 1 ≤ q + s := by omega
        clear hr hin hb HI hE htk hq9 hs HQ
        go_wp2_with fail
        refine CALL.out.mono ?_; rintro e w5 ⟨rfl, b5⟩
        have B5 := Lib.hid (bt HW.out b5)
        clear b5 CALL e0 e1 e2 e3 y0 y1 y2 y3
        go_wp2
        go_roundw
        case rel => exact ⟨k + 1, q + s, by omega, by first | rfl | go_num, by go_num, h8, h9, HN, B5⟩
        case measure => simp [intOf]; omega
      · have d5 : decide (q ≤ 500) = false := decide_eq_false h5
        have hle := nodesL_take_le args k
        have hq9 := HQ.out
        have hnd := HND.out
        by_cases h6 : 501 < q
        · have d6 : decide (501 < q) = true := decide_eq_true h6
          have RES := Lib.hid (show R = 501 by rw [HR.out]; omega)
          clear hle hq9 hnd HQ
          go_wp2
          go_ret
          exact ⟨by rw [RES.out]; rfl, HBW.out⟩
        · have d6 : decide (501 < q) = false := decide_eq_false h6
          have RES := Lib.hid (show R = q by rw [HR.out]; omega)
          clear hle hq9 hnd HQ
          go_wp2
          go_ret
          exact ⟨by rw [RES.out]; rfl, HBW.out⟩
    · obtain rfl : args.length = k := by omega
      have hge : ¬ (args.length : Int) < (args.length : Int) := by omega
      have hq9 := HQ.out
      rw [List.take_length] at hq9
      have hnd := HND.out
      by_cases h6 : 501 < q
      · have d6 : decide (501 < q) = true := decide_eq_true h6
        have RES := Lib.hid (show R = 501 by rw [HR.out]; omega)
        clear hq9 hnd HQ
        go_wp2
        go_ret
        exact ⟨by rw [RES.out]; rfl, HBW.out⟩
      · have d6 : decide (501 < q) = false := decide_eq_false h6
        have RES := Lib.hid (show R = q by rw [HR.out]; omega)
        clear hq9 hnd HQ
        go_wp2
        go_ret
        exact ⟨by rw [RES.out]; rfl, HBW.out⟩
end Go.Proofs.YtdkfimejabanlaaDoor
