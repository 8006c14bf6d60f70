import Derived.Test.YtifopogkbjhkjaaGreatDoorIr
namespace Go.Proofs.YtifopogkbjhkjaaGreatDoor
open DR
open Go.ChangeShapes Go.WideShapes Go.ChangeAt Go.RowKit Go.WideMaps
set_option linter.unusedVariables false
set_option linter.unusedSimpArgs false
theorem ones_ivs {l : List Int} : ∀ u ∈ ivs l, u.oneCell' = true := fun u hu => by
  unfold ivs at hu
  obtain ⟨x, -, rfl⟩ := List.mem_map.1 hu
  rfl
theorem irow_news {w : World} {A : Option Addr} {l : List Int} (h : IRow w A l) (ad : Addr) (e : A = some ad) (j : Nat) (u : Value) (hj : (ivs l)[j]? = some u) : w.cell? (ad.add j) = some u := by
  have hlt : j < l.length := by
    have := (List.getElem?_eq_some_iff.1 hj).1
    rw [ivs_len] at this; exact this
  have hu : u = .int .i64 l[j] := by
    have : (ivs l)[j]? = some (.int .i64 l[j]) := by simp [ivs, hlt]
    rw [this] at hj; injection hj with hj; exact hj.symm
  rcases h with h | ⟨b, o, h1, h2, h3⟩
  · omega
  · rw [h1] at e
    injection e with e
    subst e
    rw [hu, Go.WideShapes.add_plain]
    exact h3 j hlt
set_option maxRecDepth 100000 in
set_option maxHeartbeats 8000000 in
theorem rvars_any : ∀ (d : Nat) (V : TT) (v : Value) (l : List Int) (Al : Option Addr) (ca : Nat) (w : World), bigT d V = false → shp V = true → l.length + nodes V ≤ 1000000 → TIn w any0 V v → IRow w Al l → (Al = none → l.length = 0 ∧ ca = 0) →
    Calls Tryz.prog 64 #[v, .slice Al l.length ca] w (RvPost w (varsT V l)) := by
  intro d
  induction d with
  | zero => intro V v l Al ca w h; cases h
  | succ d ih =>
  intro V v l Al ca w hbg hsh hln ⟨A, c, hv, hA⟩ hir hnl
  obtain ⟨i0, hi0, hz0, hz1, hz2⟩ := info_parts infoI
  obtain ⟨hl4, -, b3⟩ := bigT_parts hbg
  have hnd := nodes_eq V
  subst hv
  have HI := Lib.hid ih
  have HBG := Lib.hid b3
  have HIR := Lib.hid hir
  have HNL0 := Lib.hid hnl
  have hs2 := hsh
  rw [shp_eq, Bool.and_eq_true] at hs2
  have HSHL := Lib.hid ((shpL_all _).1 hs2.2)
  have HVE := Lib.hid (varsT_eq V l)
  have hkv : V.k = 7 → V.args = [] := fun h7 => (shp_var hsh h7).1
  unfold tv
  obtain ⟨args, ha⟩ : ∃ x, x = V.args := ⟨_, rfl⟩
  obtain ⟨vr, hvr⟩ : ∃ x, x = V.vr := ⟨_, rfl⟩
  rw [← ha] at hA HBG hl4 HSHL HVE hkv hnd ⊢
  rw [← hvr] at HVE ⊢
  obtain ⟨N, hN⟩ : ∃ n, n = l.length := ⟨_, rfl⟩
  rw [← hN] at HNL0 hln ⊢
  have HN := Lib.hid hN
  have HNL := HNL0
  have HA := Lib.hid hA
  obtain ⟨wA, hwA⟩ : ∃ z, z = w.alloc (.cells #[.int .i64 V.k, .string V.nm, .int .i64 vr, .slice A args.length c] 36) := ⟨_, rfl⟩
  have BA := Lib.hid (show Below w.heap.size w wA by rw [hwA]; exact below_alloc w _)
  have HX := Lib.hid (show wA.heap[w.heap.size]? = some (.cells #[.int .i64 V.k, .string V.nm, .int .i64 vr, .slice A args.length c] 36 (0, 0)) by rw [hwA]; exact heap_alloc_new w _)
  have HZ := Lib.hid (show w.heap.size < wA.heap.size by rw [hwA]; simp)
  have HWA := Lib.hid hwA
  have IRA := Lib.hid (HIR.out.later BA.out)
  obtain ⟨x0, x1, x2, x3⟩ := cells4 HX.out
  have hn1 : N ≤ 1000000 := by omega
  by_cases h7 : V.k = 7
  · have q7 : (V.k == 7) = true := by rw [h7]; rfl
    have ha0 := hkv h7
    have HVA := Lib.hid (show varsT V l = addV l vr by rw [HVE.out, if_pos h7, ha0, varsL])
    have CH := Lib.hid (rhas_any (c := ca) (A := Al) (l := l) (w := wA) vr (by rw [← HN.out]; omega) IRA.out)
    rw [← HN.out] at CH
    clear ih hbg hsh b3 ha hA hwA hir hnl hs2 hkv hvr hnd h7 ha0 hN hln
    by_cases hin : vr ∈ l
    · rw [decide_eq_true hin] at CH
      have HAD := Lib.hid (show varsT V l = l by rw [HVA.out]; unfold addV; rw [if_pos hin])
      clear hin
      go_enter Tryz.func64, Tryz.ntmps64
      go_wp2_with fail
      rw [← HWA.out]
      try go_wp2_with fail
      refine CH.out.mono ?_; rintro e w1 ⟨rfl, hw1⟩
      obtain rfl : wA = w1 := hw1.symm
      go_wp2
      go_ret
      exact ⟨Al, ca, by rw [HAD.out, ← HN.out]; rfl, by rw [HAD.out]; exact IRA.out, by rw [HAD.out, ← HN.out]; exact HNL.out, BA.out⟩
    · rw [decide_eq_false hin] at CH
      have HAD := Lib.hid (show varsT V l = l ++ [vr] by rw [HVA.out]; unfold addV; rw [if_neg hin])
      have HNW := Lib.hid (fun W (hW : Below wA.heap.size wA W) => irow_news (IRA.out.later hW))
      clear hin
      go_enter Tryz.func64, Tryz.ntmps64
      go_wp2_with fail
      rw [← HWA.out]
      try go_wp2_with fail
      refine CH.out.mono ?_; rintro e w1 ⟨rfl, hw1⟩
      obtain rfl : wA = w1 := hw1.symm
      go_wp2_with fail
      refine wp_region_D [7] (fun w' => Below wA.heap.size wA w') (by kernel_rfl) (bdr wA) (fun hHeld => ?_)
      obtain ⟨w_0, hw_0⟩ : ∃ z, z = wA.drew := ⟨_, rfl⟩
      have BD : Hid (Below wA.heap.size wA w_0) := Lib.hid (by rw [hw_0]; exact bdr wA)
      rw [← hw_0] at hHeld ⊢
      clear hw_0
      refine WDs 1 ⟨some 15, .move (.tmp 1), 26, _, #[], none⟩ ?vb1 ?hyb1 hHeld ?_
      case hyb1 => (intro wz hSw; (try dsimp only at hSw); go_simp; try with_reducible rfl)
      (try simp only [putz])
      refine WDs 3 ⟨some 17, .fieldAddr 36 (.tmp 2) 2, 0, _, #[], none⟩ ?vb3 ?hyb3 hHeld ?_
      case hyb3 => (intro wz hSw; (try dsimp only at hSw); go_simp; try with_reducible rfl)
      (try simp only [putz])
      refine WDs 4 ⟨some 18, .load 3 (.tmp 17), 3, _, #[⟨3, .data⟩], none⟩ ?vb4 ?hyb4 hHeld ?_
      case hyb4 => (intro wz hSw; (try dsimp only at hSw); have q2 := (hSw.cell (p := ⟨w.heap.size, 2, none⟩) (by have := HZ.out; show w.heap.size < _; omega)).trans x2; go_simp; try with_reducible rfl)
      (try simp only [putz])
      refine WD_ready (rs := [0, 5]) (by kernel_rfl) (by simp) ?_
      refine AllD.cons (o := _) rfl (fun K hK => ?_) (AllD.cons (o := _) rfl (fun K hK => ?_) AllD.nil)
      · go_simp
        refine hK.out _ _ (bt BD.out (below_alloc w_0 _)) (fun hHeld_1 => ?_)
        clear hK K
        (try simp only [putz])
        obtain ⟨w_1, hw_1⟩ : ∃ z, z = w_0.alloc (.cells #[] 3) := ⟨_, rfl⟩
        have B_1 : Hid (Below wA.heap.size wA w_1) := Lib.hid (by rw [hw_1]; exact hHeld_1)
        have C_1 : Hid (w_1.heap[w_0.heap.size]? = some (.cells #[] 3 (0, 0))) := Lib.hid (by rw [hw_1]; exact heap_alloc_new w_0 _)
        have L_1 : Hid (Below w_0.heap.size w_0 w_1) := Lib.hid (by rw [hw_1]; exact below_alloc w_0 _)
        have Z_1 : Hid (wA.heap.size ≤ w_0.heap.size ∧ w_0.heap.size < w_1.heap.size) := Lib.hid ⟨BD.out.size, by rw [hw_1]; show _ < (Array.push _ _).size; simp⟩
        clear hHeld_1
        try rw [← hw_1]
        clear hw_1
        refine WD_ready (rs := [2, 5]) (by kernel_rfl) (by simp) ?_
        refine AllD.cons (o := _) rfl (fun K hK => ?_) (AllD.cons (o := _) rfl (fun K hK => ?_) AllD.nil)
        · refine step_append_sl rfl (.tmp 14) (.tmp 15) 26 rfl wA.heap.size 3 i0 (.int .i64 0) 1 8 Tryz.underlying26 hi0 hz0 hz1 hz2 rfl (by decide) (.slice (some ⟨w_0.heap.size, 0, none⟩) 0 0) 0 [] rfl (own_litg (k := w_0.heap.size) C_1.out Z_1.out.1) Al N ca (ivs l) rfl (by rw [ivs_len, Nat.mul_one, HN.out]) HNL.out ((fun ad e j u hj => HNW.out _ B_1.out ad e j u hj)) (fun u hu => ones_ivs u hu) (by unfold maxLen; omega) (by omega) B_1.out.size ?_
          intro v_2 w_2 own_2 gr_2 at_2
          simp only [Nat.zero_add, List.nil_append] at own_2
          have B_2 : Hid (Below wA.heap.size wA w_2) := Lib.hid (B_1.out.grown gr_2 B_1.out.size (fun q hq => by simp [Value.ownBlock] at hq; have := Z_1.out.1; omega))
          have op_2 := Lib.hid own_2
          clear own_2 gr_2 at_2
          refine hK.out _ _ B_2.out (fun _ => ?_)
          clear hK K
          (try simp only [putz])
          refine WD_ready (rs := [5]) (by kernel_rfl) (by simp) ?_
          refine AllD.cons (o := _) rfl (fun K hK => ?_) AllD.nil
          go_simp
          refine hK.out _ _ (bt B_2.out (below_alloc w_2 _)) (fun hHeld_3 => ?_)
          clear hK K
          (try simp only [putz])
          obtain ⟨w_3, hw_3⟩ : ∃ z, z = w_2.alloc (.cells #[.int .i64 vr] 3) := ⟨_, rfl⟩
          have B_3 : Hid (Below wA.heap.size wA w_3) := Lib.hid (by rw [hw_3]; exact hHeld_3)
          have C_3 : Hid (w_3.heap[w_2.heap.size]? = some (.cells #[.int .i64 vr] 3 (0, 0))) := Lib.hid (by rw [hw_3]; exact heap_alloc_new w_2 _)
          have L_3 : Hid (Below w_2.heap.size w_2 w_3) := Lib.hid (by rw [hw_3]; exact below_alloc w_2 _)
          have Z_3 : Hid (wA.heap.size ≤ w_2.heap.size ∧ w_2.heap.size < w_3.heap.size) := Lib.hid ⟨B_2.out.size, by rw [hw_3]; show _ < (Array.push _ _).size; simp⟩
          clear hHeld_3
          try rw [← hw_3]
          clear hw_3
          have op_3 := Lib.hid (own_bl op_2.out L_3.out)
          refine WD_ready (rs := [6]) (by kernel_rfl) (by simp) ?_
          refine AllD.cons (o := _) rfl (fun K hK => ?_) AllD.nil
          refine step_append_lies _ (by rfl) (.tmp 16) (.tmp 19) 26 rfl wA.heap.size 3 i0 (.int .i64 0) 1 8 Tryz.underlying26 hi0 hz0 hz1 hz2 rfl (by decide) v_2 N (ivs l) rfl op_3.out ⟨w_2.heap.size, 0, none⟩ 1 1 [.int .i64 vr] rfl rfl (World.news_of_block (cs := #[.int .i64 vr]) (t := 3) (fr := (0, 0)) C_3.out) (by simp [Value.oneCell']) (by omega) (by unfold maxLen; omega) (by omega) B_3.out.size _ rfl ?_
          intro g3 cap3 w_4 own_4 gr_4 at_4 hlt_4
          have B_4 : Hid (Below wA.heap.size wA w_4) := Lib.hid (B_3.out.grown gr_4 B_3.out.size (fun q hq => (op_3.out.lt q hq).1))
          have oq_4 := Lib.hid own_4
          clear own_4 gr_4 at_4 hlt_4
          refine hK.out _ _ B_4.out (fun _ => ?_)
          clear hK K
          (try simp only [putz])
          refine WD_ready (rs := [7]) (by kernel_rfl) (by simp) ?_
          refine AllD.last (o := ⟨some 4, .assign (.tmp 20), 26, _, #[⟨6, .data⟩, ⟨6, .chain⟩, ⟨0, .phase⟩, ⟨1, .phase⟩, ⟨2, .phase⟩, ⟨3, .phase⟩, ⟨4, .phase⟩, ⟨5, .phase⟩, ⟨6, .phase⟩], none⟩) rfl (by kernel_rfl) (fun K hK => ?_) AllD.nil
          rw [if_pos (by rfl)]
          go_simp
          refine hK.out _ _ ?_
          clear hK K
          (try simp only [putz])
          refine WD_done (by kernel_rfl) ?_ _
          have E := own_irow (l := l ++ [vr]) (by rw [ivs_app]; exact oq_4.out) (by rw [List.length_append, HN.out]; rfl)
          have BB := Lib.hid (bt BA.out B_4.out)
          have HE := Lib.hid E
          clear E
          go_wp2
          go_ret
          exact ⟨_, _, by rw [HAD.out, List.length_append, ← HN.out]; rfl, by rw [HAD.out]; exact HE.out, (fun e => by cases e), BB.out⟩
        · go_simp
          refine hK.out _ _ (bt B_1.out (below_alloc w_1 _)) (fun hHeld_5 => ?_)
          clear hK K
          (try simp only [putz])
          obtain ⟨w_5, hw_5⟩ : ∃ z, z = w_1.alloc (.cells #[.int .i64 vr] 3) := ⟨_, rfl⟩
          have B_5 : Hid (Below wA.heap.size wA w_5) := Lib.hid (by rw [hw_5]; exact hHeld_5)
          have C_5 : Hid (w_5.heap[w_1.heap.size]? = some (.cells #[.int .i64 vr] 3 (0, 0))) := Lib.hid (by rw [hw_5]; exact heap_alloc_new w_1 _)
          have L_5 : Hid (Below w_1.heap.size w_1 w_5) := Lib.hid (by rw [hw_5]; exact below_alloc w_1 _)
          have Z_5 : Hid (wA.heap.size ≤ w_1.heap.size ∧ w_1.heap.size < w_5.heap.size) := Lib.hid ⟨B_1.out.size, by rw [hw_5]; show _ < (Array.push _ _).size; simp⟩
          clear hHeld_5
          try rw [← hw_5]
          clear hw_5
          have cA_5 := Lib.hid ((L_5.out.block _ Z_1.out.2).trans C_1.out)
          have zA_5 := Lib.hid (And.intro Z_1.out.1 (Nat.lt_of_lt_of_le Z_1.out.2 L_5.out.size))
          refine WD_ready (rs := [2]) (by kernel_rfl) (by simp) ?_
          refine AllD.cons (o := _) rfl (fun K hK => ?_) AllD.nil
          refine step_append_sl rfl (.tmp 14) (.tmp 15) 26 rfl wA.heap.size 3 i0 (.int .i64 0) 1 8 Tryz.underlying26 hi0 hz0 hz1 hz2 rfl (by decide) (.slice (some ⟨w_0.heap.size, 0, none⟩) 0 0) 0 [] rfl (own_litg (k := w_0.heap.size) cA_5.out zA_5.out.1) Al N ca (ivs l) rfl (by rw [ivs_len, Nat.mul_one, HN.out]) HNL.out ((fun ad e j u hj => HNW.out _ B_5.out ad e j u hj)) (fun u hu => ones_ivs u hu) (by unfold maxLen; omega) (by omega) B_5.out.size ?_
          intro v_6 w_6 own_6 gr_6 at_6
          simp only [Nat.zero_add, List.nil_append] at own_6
          have B_6 : Hid (Below wA.heap.size wA w_6) := Lib.hid (B_5.out.grown gr_6 B_5.out.size (fun q hq => by simp [Value.ownBlock] at hq; have := zA_5.out.1; omega))
          have cX_6 : Hid (w_6.heap[w_1.heap.size]? = some (.cells #[.int .i64 vr] 3 (0, 0))) := Lib.hid ((gr_6.block _ Z_5.out.2 (by simp [Value.ownBlock]; have := Z_1.out; omega)).trans C_5.out)
          have op_6 := Lib.hid own_6
          clear own_6 gr_6 at_6
          refine hK.out _ _ B_6.out (fun _ => ?_)
          clear hK K
          (try simp only [putz])
          refine WD_ready (rs := [6]) (by kernel_rfl) (by simp) ?_
          refine AllD.cons (o := _) rfl (fun K hK => ?_) AllD.nil
          refine step_append_lies _ (by rfl) (.tmp 16) (.tmp 19) 26 rfl wA.heap.size 3 i0 (.int .i64 0) 1 8 Tryz.underlying26 hi0 hz0 hz1 hz2 rfl (by decide) v_6 N (ivs l) rfl op_6.out ⟨w_1.heap.size, 0, none⟩ 1 1 [.int .i64 vr] rfl rfl (World.news_of_block (cs := #[.int .i64 vr]) (t := 3) (fr := (0, 0)) cX_6.out) (by simp [Value.oneCell']) (by omega) (by unfold maxLen; omega) (by omega) B_6.out.size _ rfl ?_
          intro g3 cap3 w_7 own_7 gr_7 at_7 hlt_7
          have B_7 : Hid (Below wA.heap.size wA w_7) := Lib.hid (B_6.out.grown gr_7 B_6.out.size (fun q hq => (op_6.out.lt q hq).1))
          have oq_7 := Lib.hid own_7
          clear own_7 gr_7 at_7 hlt_7
          refine hK.out _ _ B_7.out (fun _ => ?_)
          clear hK K
          (try simp only [putz])
          refine WD_ready (rs := [7]) (by kernel_rfl) (by simp) ?_
          refine AllD.last (o := ⟨some 4, .assign (.tmp 20), 26, _, #[⟨6, .data⟩, ⟨6, .chain⟩, ⟨0, .phase⟩, ⟨1, .phase⟩, ⟨2, .phase⟩, ⟨3, .phase⟩, ⟨4, .phase⟩, ⟨5, .phase⟩, ⟨6, .phase⟩], none⟩) rfl (by kernel_rfl) (fun K hK => ?_) AllD.nil
          rw [if_pos (by rfl)]
          go_simp
          refine hK.out _ _ ?_
          clear hK K
          (try simp only [putz])
          refine WD_done (by kernel_rfl) ?_ _
          have E := own_irow (l := l ++ [vr]) (by rw [ivs_app]; exact oq_7.out) (by rw [List.length_append, HN.out]; rfl)
          have BB := Lib.hid (bt BA.out B_7.out)
          have HE := Lib.hid E
          clear E
          go_wp2
          go_ret
          exact ⟨_, _, by rw [HAD.out, List.length_append, ← HN.out]; rfl, by rw [HAD.out]; exact HE.out, (fun e => by cases e), BB.out⟩
      · go_simp
        refine hK.out _ _ (bt BD.out (below_alloc w_0 _)) (fun hHeld_8 => ?_)
        clear hK K
        (try simp only [putz])
        obtain ⟨w_8, hw_8⟩ : ∃ z, z = w_0.alloc (.cells #[.int .i64 vr] 3) := ⟨_, rfl⟩
        have B_8 : Hid (Below wA.heap.size wA w_8) := Lib.hid (by rw [hw_8]; exact hHeld_8)
        have C_8 : Hid (w_8.heap[w_0.heap.size]? = some (.cells #[.int .i64 vr] 3 (0, 0))) := Lib.hid (by rw [hw_8]; exact heap_alloc_new w_0 _)
        have L_8 : Hid (Below w_0.heap.size w_0 w_8) := Lib.hid (by rw [hw_8]; exact below_alloc w_0 _)
        have Z_8 : Hid (wA.heap.size ≤ w_0.heap.size ∧ w_0.heap.size < w_8.heap.size) := Lib.hid ⟨BD.out.size, by rw [hw_8]; show _ < (Array.push _ _).size; simp⟩
        clear hHeld_8
        try rw [← hw_8]
        clear hw_8
        refine WD_ready (rs := [0]) (by kernel_rfl) (by simp) ?_
        refine AllD.cons (o := _) rfl (fun K hK => ?_) AllD.nil
        go_simp
        refine hK.out _ _ (bt B_8.out (below_alloc w_8 _)) (fun hHeld_9 => ?_)
        clear hK K
        (try simp only [putz])
        obtain ⟨w_9, hw_9⟩ : ∃ z, z = w_8.alloc (.cells #[] 3) := ⟨_, rfl⟩
        have B_9 : Hid (Below wA.heap.size wA w_9) := Lib.hid (by rw [hw_9]; exact hHeld_9)
        have C_9 : Hid (w_9.heap[w_8.heap.size]? = some (.cells #[] 3 (0, 0))) := Lib.hid (by rw [hw_9]; exact heap_alloc_new w_8 _)
        have L_9 : Hid (Below w_8.heap.size w_8 w_9) := Lib.hid (by rw [hw_9]; exact below_alloc w_8 _)
        have Z_9 : Hid (wA.heap.size ≤ w_8.heap.size ∧ w_8.heap.size < w_9.heap.size) := Lib.hid ⟨B_8.out.size, by rw [hw_9]; show _ < (Array.push _ _).size; simp⟩
        clear hHeld_9
        try rw [← hw_9]
        clear hw_9
        have cX_9 := Lib.hid ((L_9.out.block _ Z_8.out.2).trans C_8.out)
        have zX_9 := Lib.hid (And.intro Z_8.out.1 (Nat.lt_of_lt_of_le Z_8.out.2 L_9.out.size))
        refine WD_ready (rs := [2]) (by kernel_rfl) (by simp) ?_
        refine AllD.cons (o := _) rfl (fun K hK => ?_) AllD.nil
        refine step_append_sl rfl (.tmp 14) (.tmp 15) 26 rfl wA.heap.size 3 i0 (.int .i64 0) 1 8 Tryz.underlying26 hi0 hz0 hz1 hz2 rfl (by decide) (.slice (some ⟨w_8.heap.size, 0, none⟩) 0 0) 0 [] rfl (own_litg (k := w_8.heap.size) C_9.out Z_9.out.1) Al N ca (ivs l) rfl (by rw [ivs_len, Nat.mul_one, HN.out]) HNL.out ((fun ad e j u hj => HNW.out _ B_9.out ad e j u hj)) (fun u hu => ones_ivs u hu) (by unfold maxLen; omega) (by omega) B_9.out.size ?_
        intro v_10 w_10 own_10 gr_10 at_10
        simp only [Nat.zero_add, List.nil_append] at own_10
        have B_10 : Hid (Below wA.heap.size wA w_10) := Lib.hid (B_9.out.grown gr_10 B_9.out.size (fun q hq => by simp [Value.ownBlock] at hq; have := Z_9.out.1; omega))
        have cX_10 : Hid (w_10.heap[w_0.heap.size]? = some (.cells #[.int .i64 vr] 3 (0, 0))) := Lib.hid ((gr_10.block _ zX_9.out.2 (by simp [Value.ownBlock]; have := Z_8.out; omega)).trans cX_9.out)
        have op_10 := Lib.hid own_10
        clear own_10 gr_10 at_10
        refine hK.out _ _ B_10.out (fun _ => ?_)
        clear hK K
        (try simp only [putz])
        refine WD_ready (rs := [6]) (by kernel_rfl) (by simp) ?_
        refine AllD.cons (o := _) rfl (fun K hK => ?_) AllD.nil
        refine step_append_lies _ (by rfl) (.tmp 16) (.tmp 19) 26 rfl wA.heap.size 3 i0 (.int .i64 0) 1 8 Tryz.underlying26 hi0 hz0 hz1 hz2 rfl (by decide) v_10 N (ivs l) rfl op_10.out ⟨w_0.heap.size, 0, none⟩ 1 1 [.int .i64 vr] rfl rfl (World.news_of_block (cs := #[.int .i64 vr]) (t := 3) (fr := (0, 0)) cX_10.out) (by simp [Value.oneCell']) (by omega) (by unfold maxLen; omega) (by omega) B_10.out.size _ rfl ?_
        intro g3 cap3 w_11 own_11 gr_11 at_11 hlt_11
        have B_11 : Hid (Below wA.heap.size wA w_11) := Lib.hid (B_10.out.grown gr_11 B_10.out.size (fun q hq => (op_10.out.lt q hq).1))
        have oq_11 := Lib.hid own_11
        clear own_11 gr_11 at_11 hlt_11
        refine hK.out _ _ B_11.out (fun _ => ?_)
        clear hK K
        (try simp only [putz])
        refine WD_ready (rs := [7]) (by kernel_rfl) (by simp) ?_
        refine AllD.last (o := ⟨some 4, .assign (.tmp 20), 26, _, #[⟨6, .data⟩, ⟨6, .chain⟩, ⟨0, .phase⟩, ⟨1, .phase⟩, ⟨2, .phase⟩, ⟨3, .phase⟩, ⟨4, .phase⟩, ⟨5, .phase⟩, ⟨6, .phase⟩], none⟩) rfl (by kernel_rfl) (fun K hK => ?_) AllD.nil
        rw [if_pos (by rfl)]
        go_simp
        refine hK.out _ _ ?_
        clear hK K
        (try simp only [putz])
        refine WD_done (by kernel_rfl) ?_ _
        have E := own_irow (l := l ++ [vr]) (by rw [ivs_app]; exact oq_11.out) (by rw [List.length_append, HN.out]; rfl)
        have BB := Lib.hid (bt BA.out B_11.out)
        have HE := Lib.hid E
        clear E
        go_wp2
        go_ret
        exact ⟨_, _, by rw [HAD.out, List.length_append, ← HN.out]; rfl, by rw [HAD.out]; exact HE.out, (fun e => by cases e), BB.out⟩
  · have q7 : (V.k == 7) = false := beq_eq_false_iff_ne.2 h7
    have HVA := Lib.hid (show varsT V l = varsL args l by rw [HVE.out, if_neg h7])
    clear ih hbg hsh b3 ha hA hwA hir hnl hs2 hkv hvr h7 hN
    have hnd9 : N + nodesL args ≤ 1000000 := by omega
    clear hnd hln
    go_enter Tryz.func64, Tryz.ntmps64
    go_wp2
    try rw [← HWA.out]
    go_loopw [1, 5] (fun lv i wr => ∃ (k n : Nat) (A1 : Option Addr) (c1 : Nat), k ≤ args.length ∧ lv = .slice A1 n c1 ∧ i = .int .i64 k ∧ Hid (n = (varsL (args.take k) l).length) ∧ Hid (IRow wr A1 (varsL (args.take k) l)) ∧ Hid (A1 = none → n = 0 ∧ c1 = 0) ∧ Hid (Below wA.heap.size wA wr)) (fun _ i _ => args.length - (intOf i).toNat)
    case atStart => exact ⟨0, N, Al, ca, by omega, by first | rfl | trivial, by first | rfl | trivial, Lib.hid (by rw [List.take_zero, varsL]; exact HN.out), Lib.hid (by rw [List.take_zero, varsL]; exact IRA.out), HNL, Lib.hid (Below.refl _ _)⟩
    case round =>
      obtain ⟨k, n, A1, c1, hk, rfl, rfl, HL, HI1, HN1, HW⟩ := hrel
      have HBW := Lib.hid (bt BA.out HW.out)
      obtain ⟨e0, e1, e2, e3⟩ := cells4 ((HW.out.block w.heap.size HZ.out).trans HX.out)
      by_cases hlt : k < args.length
      · have hlti : (k : Int) < (args.length : Int) := by omega
        obtain ⟨b, o, rfl, hb, hr⟩ := HA.out.at (by omega)
        obtain ⟨A', c', y0, y1, y2, y3, hin⟩ := hr _ HBW.out k hlt
        have hlen := varsL_len (args.take k) l
        have htk := nodesL_take args k hlt
        have htl := nodesL_take_le args (k + 1)
        have hnn := HN.out
        have CALL := Lib.hid (HI.out args[k] _ (varsL (args.take k) l) A1 c1 _ (HBG.out _ (List.getElem_mem hlt)) (HSHL.out _ (List.getElem_mem hlt)) (by omega) hin HI1.out (by rw [← HL.out]; exact HN1.out))
        rw [← HL.out] at CALL
        have HV2 := Lib.hid (varsL_take args l k hlt)
        rw [← HV2.out] at CALL
        obtain ⟨E, hE⟩ : ∃ E, E = args[k] := ⟨_, rfl⟩
        rw [← hE] at y0 y1 y2 y3 CALL
        unfold tv at CALL
        clear hr hin hb HI hE hlen htk htl hnn
        go_wp2_with fail
        refine CALL.out.mono ?_; rintro e w5 ⟨A5, c5, rfl, ir5, nl5, b5⟩
        have IR5 := Lib.hid ir5; have NL5 := Lib.hid nl5
        have B5 := Lib.hid (bt HW.out b5)
        clear b5 CALL ir5 nl5 e0 e1 e2 e3 y0 y1 y2 y3
        go_wp2
        go_roundw
        case rel => exact ⟨k + 1, _, A5, c5, by omega, by first | rfl | trivial, by go_num, Lib.hid rfl, IR5, NL5, B5⟩
        case measure => simp [intOf]; omega
      · obtain rfl : args.length = k := by omega
        have hge : ¬ (args.length : Int) < (args.length : Int) := by omega
        have HL2 := Lib.hid (show n = (varsT V l).length by rw [HVA.out]; have := HL.out; rw [List.take_length] at this; exact this)
        have HI2 := Lib.hid (show IRow wr A1 (varsT V l) by rw [HVA.out]; have := HI1.out; rw [List.take_length] at this; exact this)
        go_wp2
        go_ret
        exact ⟨A1, c1, by rw [← HL2.out]; rfl, HI2.out, by rw [← HL2.out]; exact HN1.out, HBW.out⟩
set_option maxRecDepth 100000 in
set_option maxHeartbeats 2000000 in
theorem rVars_any {V : TT} {v : Value} {w : World} (hbg : bigT 7 V = false) (hsh : shp V = true) (h : TIn w any0 V v) : Calls Tryz.prog 38 #[v] w (RvPost w (varsOf V)) := by
  have hnd := small_nodes hbg (Nat.le_refl 7)
  have CV := Lib.hid (fun W (hW : Below w.heap.size w W) => rvars_any 7 V v [] none 0 W hbg hsh (by simp; omega) (h.later hW) (.inl rfl) (fun _ => ⟨rfl, rfl⟩))
  obtain ⟨A, c, rfl, -⟩ := h
  unfold tv at CV ⊢
  have HB0 := Lib.hid (below_alloc w (.cells #[.int .i64 V.k, .string V.nm, .int .i64 V.vr, .slice A V.args.length c] 36))
  clear hbg hsh hnd
  go_enter Tryz.func38, Tryz.ntmps38
  go_wp2_with fail
  refine (CV.out _ HB0.out).mono ?_; rintro e w1 ⟨A1, c1, rfl, ir, nl, b⟩
  have IR := Lib.hid ir; have NL := Lib.hid nl; have B := Lib.hid (bt HB0.out b)
  clear ir nl b CV
  go_wp2
  go_ret
  exact ⟨A1, c1, rfl, IR.out, NL.out, B.out⟩
end Go.Proofs.YtifopogkbjhkjaaGreatDoor
