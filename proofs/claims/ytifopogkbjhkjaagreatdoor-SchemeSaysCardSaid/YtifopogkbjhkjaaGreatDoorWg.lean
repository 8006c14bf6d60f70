import Derived.Test.YtifopogkbjhkjaaGreatDoorWf
namespace Go.Proofs.YtifopogkbjhkjaaGreatDoor
open DR
open Go.ChangeShapes Go.WideShapes Go.ChangeAt Go.RowKit Go.WideMaps
set_option linter.unusedVariables false
set_option linter.unusedSimpArgs false
theorem five5 {w : World} {R : Nat} {y0 y1 y2 y3 y4 : Value} {t : TypeId} (h : w.heap[R]? = some (.cells #[y0, y1, y2, y3, y4] t (0, 0))) :
    w.cell? ⟨R, 0, none⟩ = some y0 ∧ w.cell? ⟨R, 1, none⟩ = some y1 ∧ w.cell? ⟨R, 2, none⟩ = some y2 ∧ w.cell? ⟨R, 3, none⟩ = some y3 ∧ w.cell? ⟨R, 4, none⟩ = some y4 := by
  refine ⟨?_, ?_, ?_, ?_, ?_⟩ <;> simp [World.cell?, h]
theorem bad_in {vs all : List Int} {k : Nat} (h : k < all.length) (hn : all[k] ∉ vs) : badAt vs all k := by
  refine .inr ?_
  rw [List.getD_eq_getElem?_getD, List.getElem?_eq_getElem h]; exact hn
theorem bad_le {vs all : List Int} {k : Nat} (h : k < all.length) (h0 : 0 < k) (hl : all[k] ≤ all[k - 1]) : badAt vs all k := by
  refine .inl ⟨h0, ?_⟩
  rw [List.getD_eq_getElem?_getD, List.getElem?_eq_getElem h, List.getD_eq_getElem?_getD, List.getElem?_eq_getElem (by omega : k - 1 < all.length)]; exact hl
theorem bad_no {vs all : List Int} {k : Nat} (h : k < all.length) (hin : all[k] ∈ vs) (hl : 0 < k → ¬ all[k] ≤ all[k - 1]) : ¬ badAt vs all k := by
  rintro (⟨h0, h1⟩ | h1)
  · rw [List.getD_eq_getElem?_getD, List.getElem?_eq_getElem h, List.getD_eq_getElem?_getD, List.getElem?_eq_getElem (by omega : k - 1 < all.length)] at h1
    exact hl h0 h1
  · rw [List.getD_eq_getElem?_getD, List.getElem?_eq_getElem h] at h1
    exact h1 hin
set_option maxRecDepth 100000 in
set_option maxHeartbeats 8000000 in
theorem rgoodS {V : TT} {all : List Int} {Al A : Option Addr} {ca c : Nat} {w : World} (hbg : bigT 7 V = false) (hl : all.length ≤ 10) (ha : IRow w Al all) (h : TRow w any0 A V.args) :
    Calls Tryz.prog 18 #[scv Al all.length ca V A c] w fun e w' => e = .returned (.bool (sgoodT V all)) ∧ Below w.heap.size w w' := by
  have CG := Lib.hid (fun W (hW : Below w.heap.size w W) => rgood_any (v := tv V A c) hbg ⟨A, c, rfl, h.later hW⟩)
  obtain ⟨N, hN⟩ : ∃ N, N = all.length := ⟨_, rfl⟩
  have HN := Lib.hid hN
  have HAL := Lib.hid ha
  obtain ⟨S, hS⟩ : ∃ z, z = sgoodT V all := ⟨_, rfl⟩
  have HS := Lib.hid hS
  rw [← hN] at hl
  rw [← hN, ← hS]
  unfold scv
  obtain ⟨wA, hwA⟩ : ∃ z, z = w.alloc (.cells #[.slice Al N ca, .int .i64 V.k, .string V.nm, .int .i64 V.vr, .slice A V.args.length c] RScT) := ⟨_, rfl⟩
  have HA := Lib.hid (show Below w.heap.size w wA by rw [hwA]; exact below_alloc w _)
  have HX := Lib.hid (show wA.heap[w.heap.size]? = some (.cells #[.slice Al N ca, .int .i64 V.k, .string V.nm, .int .i64 V.vr, .slice A V.args.length c] RScT (0, 0)) by rw [hwA]; exact heap_alloc_new w _)
  have HZ := Lib.hid (show w.heap.size < wA.heap.size by rw [hwA]; simp)
  obtain ⟨x0, x1, x2, x3, x4⟩ := five5 HX.out
  have HWA := Lib.hid hwA
  clear hwA hN hS ha
  by_cases hg : goodT V = true
  case neg =>
    have hgf : goodT V = false := by simpa using hg
    have RES := Lib.hid (show S = false by rw [HS.out]; unfold sgoodT; rw [hgf]; rfl)
    rw [hgf] at CG
    unfold tv at CG
    clear hg hgf h hbg
    as_aux_lemma =>
    go_enter Tryz.func18, Tryz.ntmps18
    go_wp2_with fail
    try rw [← HWA.out]
    try go_wp2_with fail
    refine (CG.out _ HA.out).mono ?_; rintro e w1 ⟨rfl, b1⟩
    have B1 := Lib.hid (bt HA.out b1)
    clear b1 x0 x1 x2 x3 x4
    go_wp2
    go_ret
    exact ⟨by rw [RES.out]; rfl, B1.out⟩
  have CV := Lib.hid (fun W (hW : Below w.heap.size w W) => rVars_any (v := tv V A c) hbg (good_shp hg) ⟨A, c, rfl, h.later hW⟩)
  have HSN := Lib.hid (show (∃ k, ∃ (h : k < all.length), badAt (varsOf V) all k) → S = false from fun ⟨k, hk, hb⟩ => by rw [HS.out]; exact sgood_no hk hb)
  have HSY := Lib.hid (show (∀ i, i < all.length → ¬ badAt (varsOf V) all i) → S = true from fun hb => by rw [HS.out]; exact sgood_yes hg hb)
  have hvl : (varsOf V).length ≤ 5461 := by have := varsT_len V []; have := small_nodes hbg (Nat.le_refl 7); unfold varsOf; simp at *; omega
  obtain ⟨vs, hvs⟩ : ∃ vs, vs = varsOf V := ⟨_, rfl⟩
  rw [← hvs] at CV HSN HSY hvl
  rw [hg] at CG
  unfold tv at CG CV
  clear hg h hbg hvs
  go_enter Tryz.func18, Tryz.ntmps18
  go_wp2_with fail
  try rw [← HWA.out]
  try go_wp2_with fail
  refine (CG.out _ HA.out).mono ?_; rintro e w1 ⟨rfl, b1⟩
  have B1 := Lib.hid (bt HA.out b1)
  have X1 := Lib.hid ((b1.block w.heap.size HZ.out).trans HX.out)
  have Z1 := Lib.hid (Nat.lt_of_lt_of_le HZ.out b1.size)
  clear b1 x0 x1 x2 x3 x4 CG
  obtain ⟨x0, x1, x2, x3, x4⟩ := five5 X1.out
  go_wp2_with fail
  refine (CV.out _ B1.out).mono ?_; rintro e w2 ⟨A2, c2, rfl, ir2, -, b2⟩
  have B2 := Lib.hid (bt B1.out b2)
  have X2 := Lib.hid ((b2.block w.heap.size Z1.out).trans X1.out)
  have Z2 := Lib.hid (Nat.lt_of_lt_of_le Z1.out b2.size)
  have IR := Lib.hid ir2
  clear b2 ir2 CV x0 x1 x2 x3 x4
  obtain ⟨M, hM⟩ : ∃ M, M = vs.length := ⟨_, rfl⟩
  have HM := Lib.hid hM
  rw [← hM] at hvl ⊢
  clear hM
  go_wp2
  go_loopw [4] (fun i wr => ∃ k : Nat, k ≤ N ∧ i = .int .i64 k ∧ Hid (∀ i, i < k → ¬ badAt vs all i) ∧ Hid (Below w2.heap.size w2 wr)) (fun i _ => N - (intOf i).toNat)
  case atStart => exact ⟨0, by omega, by first | rfl | trivial, Lib.hid (fun i h => by omega), Lib.hid (Below.refl _ _)⟩
  case round =>
    obtain ⟨k, hk, rfl, HQ, HW⟩ := hrel
    have C5 := Lib.hid (fun W (hW : Below wr.heap.size wr W) => five5 (((bt HW.out hW).block w.heap.size Z2.out).trans X2.out))
    have BW := Lib.hid (bt B2.out HW.out)
    obtain ⟨e0, e1, e2, e3, e4⟩ := C5.out wr (Below.refl _ _)
    by_cases hlt : k < N
    · have hlti : (k : Int) < (N : Int) := by omega
      have hlt' : k < all.length := by rw [← HN.out]; exact hlt
      obtain ⟨b, o, rfl, hb, hr⟩ : ∃ b o, Al = some ⟨b, o, none⟩ ∧ b < wr.heap.size ∧ ∀ j (h : j < all.length), wr.cell? ⟨b, o + j, none⟩ = some (.int .i64 all[j]) := (HAL.out.later BW.out).resolve_left (by rw [← HN.out]; omega)
      have x0 := hr k hlt'
      have HBL := Lib.hid hb
      have BI := Lib.hid (bad_in (vs := vs) hlt')
      have BN := Lib.hid (bad_no (vs := vs) hlt')
      have HNX := Lib.hid (show ¬ badAt vs all k → ∀ i, i < k + 1 → ¬ badAt vs all i from fun hn i hi => by
        by_cases e : i = k
        · subst e; exact hn
        · exact HQ.out i (by omega))
      have HLT := Lib.hid hlt'
      have CH := Lib.hid (fun W (hW : Below wr.heap.size wr W) => rhas_any (c := c2) (all[k]'hlt') (by rw [← HM.out]; omega) (IR.out.later (bt HW.out hW)))
      rw [← HM.out] at CH
      by_cases h0 : 0 < k
      · have h0i : (0 : Int) < (k : Int) := by omega
        have wk : IntKind.i64.wrap ((k : Int) - 1) = ((k - 1 : Nat) : Int) := by rw [IntWalk.i64_in _ (by omega)]; omega
        have hk1 : ((k - 1 : Nat) : Int) < (N : Int) := by omega
        have hk0 : (0 : Int) ≤ ((k - 1 : Nat) : Int) := by omega
        have y0 := hr (k - 1) (by omega)
        have BL := Lib.hid (bad_le (vs := vs) hlt' h0)
        obtain ⟨x, hx⟩ : ∃ x, all[k]'hlt' = x := ⟨_, rfl⟩
        obtain ⟨y, hy⟩ : ∃ y, all[k - 1]'(by omega) = y := ⟨_, rfl⟩
        rw [hx] at x0
        rw [hx] at BI
        rw [hx] at BN
        rw [hx] at CH
        rw [hx] at BL
        rw [hy] at y0
        rw [hy] at BN
        rw [hy] at BL
        have DK := Lib.hid (show decide ((0 : Int) < (k : Int)) = true from decide_eq_true h0i)
        clear hr hb hx hy hlt'
        by_cases hin : x ∈ vs
        · rw [decide_eq_true hin] at CH
          by_cases hle : x ≤ y
          · have dle : decide (x ≤ y) = true := decide_eq_true hle
            have RES := Lib.hid (HSN.out ⟨k, HLT.out, BL.out hle⟩)
            clear hin
            as_aux_lemma =>
            have dk := DK.out
            go_wp2_with fail
            refine wp_region_D [] (fun w' => Below wr.heap.size wr w') (by kernel_rfl) (bdr wr) (fun hHeld => ?_)
            refine WDs 0 ⟨some 19, .move (.tmp 3), 26, _, #[], none⟩ ?va0 ?hya0 hHeld ?_
            case hya0 => (intro wz hSw; (try dsimp only at hSw); go_simp; try with_reducible rfl)
            (try simp only [putz])
            refine WDs 1 ⟨some 20, .fieldAddr 48 (.tmp 1) 0, 0, _, #[], none⟩ ?va1 ?hya1 hHeld ?_
            case hya1 => (intro wz hSw; (try dsimp only at hSw); go_simp; try with_reducible rfl)
            (try simp only [putz])
            refine WDs 2 ⟨some 21, .load 26 (.tmp 20), 26, _, #[⟨1, .data⟩], none⟩ ?va2 ?hya2 hHeld ?_
            case hya2 => (intro wz hSw; (try dsimp only at hSw); obtain ⟨z0, z1, z2, z3, z4⟩ := C5.out _ hSw; go_simp; try with_reducible rfl)
            (try simp only [putz])
            refine WDs 3 ⟨some 22, .move (.tmp 4), 3, _, #[], none⟩ ?va3 ?hya3 hHeld ?_
            case hya3 => (intro wz hSw; (try dsimp only at hSw); go_simp; try with_reducible rfl)
            (try simp only [putz])
            refine WDs 4 ⟨some 23, .indexAddr 26 (.tmp 21) (.tmp 22), 0, _, #[⟨2, .data⟩, ⟨3, .data⟩], none⟩ ?va4 ?hya4 hHeld ?_
            case hya4 => (intro wz hSw; (try dsimp only at hSw); go_simp; try with_reducible rfl)
            (try simp only [putz])
            refine WDs 5 ⟨some 24, .load 3 (.tmp 23), 3, _, #[⟨4, .data⟩], none⟩ ?va5 ?hya5 hHeld ?_
            case hya5 => (intro wz hSw; (try dsimp only at hSw); have q0 := (hSw.cell (p := ⟨b, _, none⟩) HBL.out).trans x0; go_simp; try with_reducible rfl)
            (try simp only [putz])
            refine WD_ready (rs := [6]) (by kernel_rfl) (by simp) ?_
            refine AllD.cons (o := _) rfl (fun K hK => ?_) AllD.nil
            rw [if_pos (by rfl)]
            go_simp
            refine (CH.out _ hHeld).mono ?_; rintro e w5 ⟨rfl, rfl⟩
            try go_wp2_with fail
            refine hK.out _ _ (hHeld) (fun hHeld => ?_)
            clear hK K
            (try simp only [putz])
            refine WDs 7 ⟨some 26, .unOp .not 4 (.tmp 25), 4, _, #[⟨6, .data⟩], none⟩ ?va7 ?hya7 hHeld ?_
            case hya7 => (intro wz hSw; (try dsimp only at hSw); go_simp; try with_reducible rfl)
            (try simp only [putz])
            refine WDs 8 ⟨some 27, .move (.tmp 26), 4, _, #[⟨7, .data⟩, ⟨6, .chain⟩], none⟩ ?va8 ?hya8 hHeld ?_
            case hya8 => (intro wz hSw; (try dsimp only at hSw); go_simp; try with_reducible rfl)
            (try simp only [putz])
            refine WDs 9 ⟨some 28, .move (.tmp 4), 3, _, #[⟨8, .guard⟩], some (8, false)⟩ ?va9 ?hya9 hHeld ?_
            case hya9 => (intro wz hSw; (try dsimp only at hSw); go_simp; try with_reducible rfl)
            (try simp only [putz])
            refine WDs 10 ⟨some 29, .binOp .gtr 3 (.tmp 28) (.const (.int .i64 0)) 3, 4, _, #[⟨9, .data⟩, ⟨8, .guard⟩], some (8, false)⟩ ?va10 ?hya10 hHeld ?_
            case hya10 => (intro wz hSw; (try dsimp only at hSw); go_simp; try with_reducible rfl)
            (try simp only [putz])
            refine WDs 11 ⟨some 30, .move (.tmp 29), 4, _, #[⟨10, .data⟩, ⟨8, .chain⟩, ⟨8, .guard⟩], some (8, false)⟩ ?va11 ?hya11 hHeld ?_
            case hya11 => (intro wz hSw; (try dsimp only at hSw); go_simp; try with_reducible rfl)
            (try simp only [putz])
            refine WDs 12 ⟨some 31, .fieldAddr 48 (.tmp 1) 0, 0, _, #[⟨11, .guard⟩], some (11, true)⟩ ?va12 ?hya12 hHeld ?_
            case hya12 => (intro wz hSw; (try dsimp only at hSw); go_simp; try with_reducible rfl)
            (try simp only [putz])
            refine WDs 13 ⟨some 32, .load 26 (.tmp 31), 26, _, #[⟨12, .data⟩, ⟨11, .guard⟩], some (11, true)⟩ ?va13 ?hya13 hHeld ?_
            case hya13 => (intro wz hSw; (try dsimp only at hSw); obtain ⟨z0, z1, z2, z3, z4⟩ := C5.out _ hSw; go_simp; try with_reducible rfl)
            (try simp only [putz])
            refine WDs 14 ⟨some 33, .move (.tmp 4), 3, _, #[⟨11, .guard⟩], some (11, true)⟩ ?va14 ?hya14 hHeld ?_
            case hya14 => (intro wz hSw; (try dsimp only at hSw); go_simp; try with_reducible rfl)
            (try simp only [putz])
            refine WDs 15 ⟨some 34, .indexAddr 26 (.tmp 32) (.tmp 33), 0, _, #[⟨13, .data⟩, ⟨14, .data⟩, ⟨11, .guard⟩], some (11, true)⟩ ?va15 ?hya15 hHeld ?_
            case hya15 => (intro wz hSw; (try dsimp only at hSw); go_simp; try with_reducible rfl)
            (try simp only [putz])
            refine WDs 16 ⟨some 35, .load 3 (.tmp 34), 3, _, #[⟨15, .data⟩, ⟨11, .guard⟩], some (11, true)⟩ ?va16 ?hya16 hHeld ?_
            case hya16 => (intro wz hSw; (try dsimp only at hSw); have q0 := (hSw.cell (p := ⟨b, _, none⟩) HBL.out).trans x0; go_simp; try with_reducible rfl)
            (try simp only [putz])
            refine WDs 17 ⟨some 36, .fieldAddr 48 (.tmp 1) 0, 0, _, #[⟨11, .guard⟩], some (11, true)⟩ ?va17 ?hya17 hHeld ?_
            case hya17 => (intro wz hSw; (try dsimp only at hSw); go_simp; try with_reducible rfl)
            (try simp only [putz])
            refine WDs 18 ⟨some 37, .load 26 (.tmp 36), 26, _, #[⟨17, .data⟩, ⟨11, .guard⟩], some (11, true)⟩ ?va18 ?hya18 hHeld ?_
            case hya18 => (intro wz hSw; (try dsimp only at hSw); obtain ⟨z0, z1, z2, z3, z4⟩ := C5.out _ hSw; go_simp; try with_reducible rfl)
            (try simp only [putz])
            refine WDs 19 ⟨some 38, .move (.tmp 4), 3, _, #[⟨11, .guard⟩], some (11, true)⟩ ?va19 ?hya19 hHeld ?_
            case hya19 => (intro wz hSw; (try dsimp only at hSw); go_simp; try with_reducible rfl)
            (try simp only [putz])
            refine WDs 20 ⟨some 39, .binOp .sub 3 (.tmp 38) (.const (.int .i64 1)) 3, 3, _, #[⟨19, .data⟩, ⟨11, .guard⟩], some (11, true)⟩ ?va20 ?hya20 hHeld ?_
            case hya20 => (intro wz hSw; (try dsimp only at hSw); go_simp; try with_reducible rfl)
            (try simp only [putz])
            refine WDs 21 ⟨some 40, .indexAddr 26 (.tmp 37) (.tmp 39), 0, _, #[⟨18, .data⟩, ⟨20, .data⟩, ⟨11, .guard⟩], some (11, true)⟩ ?va21 ?hya21 hHeld ?_
            case hya21 => (intro wz hSw; (try dsimp only at hSw); go_simp; try with_reducible rfl)
            (try simp only [putz])
            refine WDs 22 ⟨some 41, .load 3 (.tmp 40), 3, _, #[⟨21, .data⟩, ⟨11, .guard⟩], some (11, true)⟩ ?va22 ?hya22 hHeld ?_
            case hya22 => (intro wz hSw; (try dsimp only at hSw); have q0 := (hSw.cell (p := ⟨b, _, none⟩) HBL.out).trans y0; go_simp; try with_reducible rfl)
            (try simp only [putz])
            refine WDs 23 ⟨some 42, .binOp .leq 3 (.tmp 35) (.tmp 41) 3, 4, _, #[⟨16, .data⟩, ⟨22, .data⟩, ⟨11, .guard⟩], some (11, true)⟩ ?va23 ?hya23 hHeld ?_
            case hya23 => (intro wz hSw; (try dsimp only at hSw); go_simp; try with_reducible rfl)
            (try simp only [putz])
            refine WDs 24 ⟨some 43, .pick (.tmp 30) (.tmp 42) (.const (.bool false)), 4, _, #[⟨11, .data⟩, ⟨23, .data⟩, ⟨8, .guard⟩], some (8, false)⟩ ?va24 ?hya24 hHeld ?_
            case hya24 => (intro wz hSw; (try dsimp only at hSw); go_simp; try with_reducible rfl)
            (try simp only [putz])
            refine WDs 25 ⟨some 44, .pick (.tmp 27) (.const (.bool true)) (.tmp 43), 4, _, #[⟨8, .data⟩, ⟨24, .data⟩], none⟩ ?va25 ?hya25 hHeld ?_
            case hya25 => (intro wz hSw; (try dsimp only at hSw); go_simp; try with_reducible rfl)
            (try simp only [putz])
            refine WD_done (by kernel_rfl) ?_ _
            have B5 := Lib.hid (bt BW.out hHeld)
            clear hHeld
            go_wp2
            go_ret
            exact ⟨by rw [RES.out]; rfl, B5.out⟩
          · have dle : decide (x ≤ y) = false := decide_eq_false hle
            have HN2 := Lib.hid (HNX.out (BN.out hin (fun _ => hle)))
            clear hin
            have dk := DK.out
            go_wp2_with fail
            refine wp_region_D [] (fun w' => Below wr.heap.size wr w') (by kernel_rfl) (bdr wr) (fun hHeld => ?_)
            refine WDs 0 ⟨some 19, .move (.tmp 3), 26, _, #[], none⟩ ?vb0 ?hyb0 hHeld ?_
            case hyb0 => (intro wz hSw; (try dsimp only at hSw); go_simp; try with_reducible rfl)
            (try simp only [putz])
            refine WDs 1 ⟨some 20, .fieldAddr 48 (.tmp 1) 0, 0, _, #[], none⟩ ?vb1 ?hyb1 hHeld ?_
            case hyb1 => (intro wz hSw; (try dsimp only at hSw); go_simp; try with_reducible rfl)
            (try simp only [putz])
            refine WDs 2 ⟨some 21, .load 26 (.tmp 20), 26, _, #[⟨1, .data⟩], none⟩ ?vb2 ?hyb2 hHeld ?_
            case hyb2 => (intro wz hSw; (try dsimp only at hSw); obtain ⟨z0, z1, z2, z3, z4⟩ := C5.out _ hSw; go_simp; try with_reducible rfl)
            (try simp only [putz])
            refine WDs 3 ⟨some 22, .move (.tmp 4), 3, _, #[], none⟩ ?vb3 ?hyb3 hHeld ?_
            case hyb3 => (intro wz hSw; (try dsimp only at hSw); go_simp; try with_reducible rfl)
            (try simp only [putz])
            refine WDs 4 ⟨some 23, .indexAddr 26 (.tmp 21) (.tmp 22), 0, _, #[⟨2, .data⟩, ⟨3, .data⟩], none⟩ ?vb4 ?hyb4 hHeld ?_
            case hyb4 => (intro wz hSw; (try dsimp only at hSw); go_simp; try with_reducible rfl)
            (try simp only [putz])
            refine WDs 5 ⟨some 24, .load 3 (.tmp 23), 3, _, #[⟨4, .data⟩], none⟩ ?vb5 ?hyb5 hHeld ?_
            case hyb5 => (intro wz hSw; (try dsimp only at hSw); have q0 := (hSw.cell (p := ⟨b, _, none⟩) HBL.out).trans x0; go_simp; try with_reducible rfl)
            (try simp only [putz])
            refine WD_ready (rs := [6]) (by kernel_rfl) (by simp) ?_
            refine AllD.cons (o := _) rfl (fun K hK => ?_) AllD.nil
            rw [if_pos (by rfl)]
            go_simp
            refine (CH.out _ hHeld).mono ?_; rintro e w5 ⟨rfl, rfl⟩
            try go_wp2_with fail
            refine hK.out _ _ (hHeld) (fun hHeld => ?_)
            clear hK K
            (try simp only [putz])
            refine WDs 7 ⟨some 26, .unOp .not 4 (.tmp 25), 4, _, #[⟨6, .data⟩], none⟩ ?vb7 ?hyb7 hHeld ?_
            case hyb7 => (intro wz hSw; (try dsimp only at hSw); go_simp; try with_reducible rfl)
            (try simp only [putz])
            refine WDs 8 ⟨some 27, .move (.tmp 26), 4, _, #[⟨7, .data⟩, ⟨6, .chain⟩], none⟩ ?vb8 ?hyb8 hHeld ?_
            case hyb8 => (intro wz hSw; (try dsimp only at hSw); go_simp; try with_reducible rfl)
            (try simp only [putz])
            refine WDs 9 ⟨some 28, .move (.tmp 4), 3, _, #[⟨8, .guard⟩], some (8, false)⟩ ?vb9 ?hyb9 hHeld ?_
            case hyb9 => (intro wz hSw; (try dsimp only at hSw); go_simp; try with_reducible rfl)
            (try simp only [putz])
            refine WDs 10 ⟨some 29, .binOp .gtr 3 (.tmp 28) (.const (.int .i64 0)) 3, 4, _, #[⟨9, .data⟩, ⟨8, .guard⟩], some (8, false)⟩ ?vb10 ?hyb10 hHeld ?_
            case hyb10 => (intro wz hSw; (try dsimp only at hSw); go_simp; try with_reducible rfl)
            (try simp only [putz])
            refine WDs 11 ⟨some 30, .move (.tmp 29), 4, _, #[⟨10, .data⟩, ⟨8, .chain⟩, ⟨8, .guard⟩], some (8, false)⟩ ?vb11 ?hyb11 hHeld ?_
            case hyb11 => (intro wz hSw; (try dsimp only at hSw); go_simp; try with_reducible rfl)
            (try simp only [putz])
            refine WDs 12 ⟨some 31, .fieldAddr 48 (.tmp 1) 0, 0, _, #[⟨11, .guard⟩], some (11, true)⟩ ?vb12 ?hyb12 hHeld ?_
            case hyb12 => (intro wz hSw; (try dsimp only at hSw); go_simp; try with_reducible rfl)
            (try simp only [putz])
            refine WDs 13 ⟨some 32, .load 26 (.tmp 31), 26, _, #[⟨12, .data⟩, ⟨11, .guard⟩], some (11, true)⟩ ?vb13 ?hyb13 hHeld ?_
            case hyb13 => (intro wz hSw; (try dsimp only at hSw); obtain ⟨z0, z1, z2, z3, z4⟩ := C5.out _ hSw; go_simp; try with_reducible rfl)
            (try simp only [putz])
            refine WDs 14 ⟨some 33, .move (.tmp 4), 3, _, #[⟨11, .guard⟩], some (11, true)⟩ ?vb14 ?hyb14 hHeld ?_
            case hyb14 => (intro wz hSw; (try dsimp only at hSw); go_simp; try with_reducible rfl)
            (try simp only [putz])
            refine WDs 15 ⟨some 34, .indexAddr 26 (.tmp 32) (.tmp 33), 0, _, #[⟨13, .data⟩, ⟨14, .data⟩, ⟨11, .guard⟩], some (11, true)⟩ ?vb15 ?hyb15 hHeld ?_
            case hyb15 => (intro wz hSw; (try dsimp only at hSw); go_simp; try with_reducible rfl)
            (try simp only [putz])
            refine WDs 16 ⟨some 35, .load 3 (.tmp 34), 3, _, #[⟨15, .data⟩, ⟨11, .guard⟩], some (11, true)⟩ ?vb16 ?hyb16 hHeld ?_
            case hyb16 => (intro wz hSw; (try dsimp only at hSw); have q0 := (hSw.cell (p := ⟨b, _, none⟩) HBL.out).trans x0; go_simp; try with_reducible rfl)
            (try simp only [putz])
            refine WDs 17 ⟨some 36, .fieldAddr 48 (.tmp 1) 0, 0, _, #[⟨11, .guard⟩], some (11, true)⟩ ?vb17 ?hyb17 hHeld ?_
            case hyb17 => (intro wz hSw; (try dsimp only at hSw); go_simp; try with_reducible rfl)
            (try simp only [putz])
            refine WDs 18 ⟨some 37, .load 26 (.tmp 36), 26, _, #[⟨17, .data⟩, ⟨11, .guard⟩], some (11, true)⟩ ?vb18 ?hyb18 hHeld ?_
            case hyb18 => (intro wz hSw; (try dsimp only at hSw); obtain ⟨z0, z1, z2, z3, z4⟩ := C5.out _ hSw; go_simp; try with_reducible rfl)
            (try simp only [putz])
            refine WDs 19 ⟨some 38, .move (.tmp 4), 3, _, #[⟨11, .guard⟩], some (11, true)⟩ ?vb19 ?hyb19 hHeld ?_
            case hyb19 => (intro wz hSw; (try dsimp only at hSw); go_simp; try with_reducible rfl)
            (try simp only [putz])
            refine WDs 20 ⟨some 39, .binOp .sub 3 (.tmp 38) (.const (.int .i64 1)) 3, 3, _, #[⟨19, .data⟩, ⟨11, .guard⟩], some (11, true)⟩ ?vb20 ?hyb20 hHeld ?_
            case hyb20 => (intro wz hSw; (try dsimp only at hSw); go_simp; try with_reducible rfl)
            (try simp only [putz])
            refine WDs 21 ⟨some 40, .indexAddr 26 (.tmp 37) (.tmp 39), 0, _, #[⟨18, .data⟩, ⟨20, .data⟩, ⟨11, .guard⟩], some (11, true)⟩ ?vb21 ?hyb21 hHeld ?_
            case hyb21 => (intro wz hSw; (try dsimp only at hSw); go_simp; try with_reducible rfl)
            (try simp only [putz])
            refine WDs 22 ⟨some 41, .load 3 (.tmp 40), 3, _, #[⟨21, .data⟩, ⟨11, .guard⟩], some (11, true)⟩ ?vb22 ?hyb22 hHeld ?_
            case hyb22 => (intro wz hSw; (try dsimp only at hSw); have q0 := (hSw.cell (p := ⟨b, _, none⟩) HBL.out).trans y0; go_simp; try with_reducible rfl)
            (try simp only [putz])
            refine WDs 23 ⟨some 42, .binOp .leq 3 (.tmp 35) (.tmp 41) 3, 4, _, #[⟨16, .data⟩, ⟨22, .data⟩, ⟨11, .guard⟩], some (11, true)⟩ ?vb23 ?hyb23 hHeld ?_
            case hyb23 => (intro wz hSw; (try dsimp only at hSw); go_simp; try with_reducible rfl)
            (try simp only [putz])
            refine WDs 24 ⟨some 43, .pick (.tmp 30) (.tmp 42) (.const (.bool false)), 4, _, #[⟨11, .data⟩, ⟨23, .data⟩, ⟨8, .guard⟩], some (8, false)⟩ ?vb24 ?hyb24 hHeld ?_
            case hyb24 => (intro wz hSw; (try dsimp only at hSw); go_simp; try with_reducible rfl)
            (try simp only [putz])
            refine WDs 25 ⟨some 44, .pick (.tmp 27) (.const (.bool true)) (.tmp 43), 4, _, #[⟨8, .data⟩, ⟨24, .data⟩], none⟩ ?vb25 ?hyb25 hHeld ?_
            case hyb25 => (intro wz hSw; (try dsimp only at hSw); go_simp; try with_reducible rfl)
            (try simp only [putz])
            refine WD_done (by kernel_rfl) ?_ _
            have B5 := Lib.hid (bt HW.out hHeld)
            clear hHeld
            go_wp2
            go_roundw
            case rel => exact ⟨k + 1, by omega, by go_num, Lib.hid (fun i hi => HN2.out i hi), B5⟩
            case measure => simp [intOf]; omega
        · rw [decide_eq_false hin] at CH
          have RES := Lib.hid (HSN.out ⟨k, HLT.out, BI.out hin⟩)
          clear hin
          as_aux_lemma =>
          go_wp2_with fail
          refine wp_region_D [] (fun w' => Below wr.heap.size wr w') (by kernel_rfl) (bdr wr) (fun hHeld => ?_)
          refine WDs 0 ⟨some 19, .move (.tmp 3), 26, _, #[], none⟩ ?vc0 ?hyc0 hHeld ?_
          case hyc0 => (intro wz hSw; (try dsimp only at hSw); go_simp; try with_reducible rfl)
          (try simp only [putz])
          refine WDs 1 ⟨some 20, .fieldAddr 48 (.tmp 1) 0, 0, _, #[], none⟩ ?vc1 ?hyc1 hHeld ?_
          case hyc1 => (intro wz hSw; (try dsimp only at hSw); go_simp; try with_reducible rfl)
          (try simp only [putz])
          refine WDs 2 ⟨some 21, .load 26 (.tmp 20), 26, _, #[⟨1, .data⟩], none⟩ ?vc2 ?hyc2 hHeld ?_
          case hyc2 => (intro wz hSw; (try dsimp only at hSw); obtain ⟨z0, z1, z2, z3, z4⟩ := C5.out _ hSw; go_simp; try with_reducible rfl)
          (try simp only [putz])
          refine WDs 3 ⟨some 22, .move (.tmp 4), 3, _, #[], none⟩ ?vc3 ?hyc3 hHeld ?_
          case hyc3 => (intro wz hSw; (try dsimp only at hSw); go_simp; try with_reducible rfl)
          (try simp only [putz])
          refine WDs 4 ⟨some 23, .indexAddr 26 (.tmp 21) (.tmp 22), 0, _, #[⟨2, .data⟩, ⟨3, .data⟩], none⟩ ?vc4 ?hyc4 hHeld ?_
          case hyc4 => (intro wz hSw; (try dsimp only at hSw); go_simp; try with_reducible rfl)
          (try simp only [putz])
          refine WDs 5 ⟨some 24, .load 3 (.tmp 23), 3, _, #[⟨4, .data⟩], none⟩ ?vc5 ?hyc5 hHeld ?_
          case hyc5 => (intro wz hSw; (try dsimp only at hSw); have q0 := (hSw.cell (p := ⟨b, _, none⟩) HBL.out).trans x0; go_simp; try with_reducible rfl)
          (try simp only [putz])
          refine WD_ready (rs := [6]) (by kernel_rfl) (by simp) ?_
          refine AllD.cons (o := _) rfl (fun K hK => ?_) AllD.nil
          rw [if_pos (by rfl)]
          go_simp
          refine (CH.out _ hHeld).mono ?_; rintro e w5 ⟨rfl, rfl⟩
          try go_wp2_with fail
          refine hK.out _ _ (hHeld) (fun hHeld => ?_)
          clear hK K
          (try simp only [putz])
          refine WDs 7 ⟨some 26, .unOp .not 4 (.tmp 25), 4, _, #[⟨6, .data⟩], none⟩ ?vc7 ?hyc7 hHeld ?_
          case hyc7 => (intro wz hSw; (try dsimp only at hSw); go_simp; try with_reducible rfl)
          (try simp only [putz])
          refine WDs 8 ⟨some 27, .move (.tmp 26), 4, _, #[⟨7, .data⟩, ⟨6, .chain⟩], none⟩ ?vc8 ?hyc8 hHeld ?_
          case hyc8 => (intro wz hSw; (try dsimp only at hSw); go_simp; try with_reducible rfl)
          (try simp only [putz])
          refine WDk 9 ⟨some 28, .move (.tmp 4), 3, _, #[⟨8, .guard⟩], some (8, false)⟩ hHeld ?_
          (try simp only [putz])
          refine WDk 10 ⟨some 29, .binOp .gtr 3 (.tmp 28) (.const (.int .i64 0)) 3, 4, _, #[⟨9, .data⟩, ⟨8, .guard⟩], some (8, false)⟩ hHeld ?_
          (try simp only [putz])
          refine WDk 11 ⟨some 30, .move (.tmp 29), 4, _, #[⟨10, .data⟩, ⟨8, .chain⟩, ⟨8, .guard⟩], some (8, false)⟩ hHeld ?_
          (try simp only [putz])
          refine WDk 12 ⟨some 31, .fieldAddr 48 (.tmp 1) 0, 0, _, #[⟨11, .guard⟩], some (11, true)⟩ hHeld ?_
          (try simp only [putz])
          refine WDk 13 ⟨some 32, .load 26 (.tmp 31), 26, _, #[⟨12, .data⟩, ⟨11, .guard⟩], some (11, true)⟩ hHeld ?_
          (try simp only [putz])
          refine WDk 14 ⟨some 33, .move (.tmp 4), 3, _, #[⟨11, .guard⟩], some (11, true)⟩ hHeld ?_
          (try simp only [putz])
          refine WDk 15 ⟨some 34, .indexAddr 26 (.tmp 32) (.tmp 33), 0, _, #[⟨13, .data⟩, ⟨14, .data⟩, ⟨11, .guard⟩], some (11, true)⟩ hHeld ?_
          (try simp only [putz])
          refine WDk 16 ⟨some 35, .load 3 (.tmp 34), 3, _, #[⟨15, .data⟩, ⟨11, .guard⟩], some (11, true)⟩ hHeld ?_
          (try simp only [putz])
          refine WDk 17 ⟨some 36, .fieldAddr 48 (.tmp 1) 0, 0, _, #[⟨11, .guard⟩], some (11, true)⟩ hHeld ?_
          (try simp only [putz])
          refine WDk 18 ⟨some 37, .load 26 (.tmp 36), 26, _, #[⟨17, .data⟩, ⟨11, .guard⟩], some (11, true)⟩ hHeld ?_
          (try simp only [putz])
          refine WDk 19 ⟨some 38, .move (.tmp 4), 3, _, #[⟨11, .guard⟩], some (11, true)⟩ hHeld ?_
          (try simp only [putz])
          refine WDk 20 ⟨some 39, .binOp .sub 3 (.tmp 38) (.const (.int .i64 1)) 3, 3, _, #[⟨19, .data⟩, ⟨11, .guard⟩], some (11, true)⟩ hHeld ?_
          (try simp only [putz])
          refine WDk 21 ⟨some 40, .indexAddr 26 (.tmp 37) (.tmp 39), 0, _, #[⟨18, .data⟩, ⟨20, .data⟩, ⟨11, .guard⟩], some (11, true)⟩ hHeld ?_
          (try simp only [putz])
          refine WDk 22 ⟨some 41, .load 3 (.tmp 40), 3, _, #[⟨21, .data⟩, ⟨11, .guard⟩], some (11, true)⟩ hHeld ?_
          (try simp only [putz])
          refine WDk 23 ⟨some 42, .binOp .leq 3 (.tmp 35) (.tmp 41) 3, 4, _, #[⟨16, .data⟩, ⟨22, .data⟩, ⟨11, .guard⟩], some (11, true)⟩ hHeld ?_
          (try simp only [putz])
          refine WDk 24 ⟨some 43, .pick (.tmp 30) (.tmp 42) (.const (.bool false)), 4, _, #[⟨11, .data⟩, ⟨23, .data⟩, ⟨8, .guard⟩], some (8, false)⟩ hHeld ?_
          (try simp only [putz])
          refine WDs 25 ⟨some 44, .pick (.tmp 27) (.const (.bool true)) (.tmp 43), 4, _, #[⟨8, .data⟩, ⟨24, .data⟩], none⟩ ?vc25 ?hyc25 hHeld ?_
          case hyc25 => (intro wz hSw; (try dsimp only at hSw); go_simp; try with_reducible rfl)
          (try simp only [putz])
          refine WD_done (by kernel_rfl) ?_ _
          have B5 := Lib.hid (bt BW.out hHeld)
          clear hHeld
          go_wp2
          go_ret
          exact ⟨by rw [RES.out]; rfl, B5.out⟩
      · obtain rfl : k = 0 := by omega
        rw [Nat.add_zero] at x0
        obtain ⟨x, hx⟩ : ∃ x, all[0]'hlt' = x := ⟨_, rfl⟩
        rw [hx] at x0
        rw [hx] at BI
        rw [hx] at CH
        rw [hx] at BN
        have BN := Lib.hid (show x ∈ vs → ¬ badAt vs all 0 from fun h => BN.out h (fun h => absurd h (by omega)))
        clear hr hb hx hlt'
        by_cases hin : x ∈ vs
        · rw [decide_eq_true hin] at CH
          have HN2 := Lib.hid (HNX.out (BN.out hin))
          clear hin
          go_wp2_with fail
          refine wp_region_D [] (fun w' => Below wr.heap.size wr w') (by kernel_rfl) (bdr wr) (fun hHeld => ?_)
          refine WDs 0 ⟨some 19, .move (.tmp 3), 26, _, #[], none⟩ ?vd0 ?hyd0 hHeld ?_
          case hyd0 => (intro wz hSw; (try dsimp only at hSw); go_simp; try with_reducible rfl)
          (try simp only [putz])
          refine WDs 1 ⟨some 20, .fieldAddr 48 (.tmp 1) 0, 0, _, #[], none⟩ ?vd1 ?hyd1 hHeld ?_
          case hyd1 => (intro wz hSw; (try dsimp only at hSw); go_simp; try with_reducible rfl)
          (try simp only [putz])
          refine WDs 2 ⟨some 21, .load 26 (.tmp 20), 26, _, #[⟨1, .data⟩], none⟩ ?vd2 ?hyd2 hHeld ?_
          case hyd2 => (intro wz hSw; (try dsimp only at hSw); obtain ⟨z0, z1, z2, z3, z4⟩ := C5.out _ hSw; go_simp; try with_reducible rfl)
          (try simp only [putz])
          refine WDs 3 ⟨some 22, .move (.tmp 4), 3, _, #[], none⟩ ?vd3 ?hyd3 hHeld ?_
          case hyd3 => (intro wz hSw; (try dsimp only at hSw); go_simp; try with_reducible rfl)
          (try simp only [putz])
          refine WDs 4 ⟨some 23, .indexAddr 26 (.tmp 21) (.tmp 22), 0, _, #[⟨2, .data⟩, ⟨3, .data⟩], none⟩ ?vd4 ?hyd4 hHeld ?_
          case hyd4 => (intro wz hSw; (try dsimp only at hSw); go_simp; try with_reducible rfl)
          (try simp only [putz])
          refine WDs 5 ⟨some 24, .load 3 (.tmp 23), 3, _, #[⟨4, .data⟩], none⟩ ?vd5 ?hyd5 hHeld ?_
          case hyd5 => (intro wz hSw; (try dsimp only at hSw); have q0 := (hSw.cell (p := ⟨b, _, none⟩) HBL.out).trans x0; go_simp; try with_reducible rfl)
          (try simp only [putz])
          refine WD_ready (rs := [6]) (by kernel_rfl) (by simp) ?_
          refine AllD.cons (o := _) rfl (fun K hK => ?_) AllD.nil
          rw [if_pos (by rfl)]
          go_simp
          refine (CH.out _ hHeld).mono ?_; rintro e w5 ⟨rfl, rfl⟩
          try go_wp2_with fail
          refine hK.out _ _ (hHeld) (fun hHeld => ?_)
          clear hK K
          (try simp only [putz])
          refine WDs 7 ⟨some 26, .unOp .not 4 (.tmp 25), 4, _, #[⟨6, .data⟩], none⟩ ?vd7 ?hyd7 hHeld ?_
          case hyd7 => (intro wz hSw; (try dsimp only at hSw); go_simp; try with_reducible rfl)
          (try simp only [putz])
          refine WDs 8 ⟨some 27, .move (.tmp 26), 4, _, #[⟨7, .data⟩, ⟨6, .chain⟩], none⟩ ?vd8 ?hyd8 hHeld ?_
          case hyd8 => (intro wz hSw; (try dsimp only at hSw); go_simp; try with_reducible rfl)
          (try simp only [putz])
          refine WDs 9 ⟨some 28, .move (.tmp 4), 3, _, #[⟨8, .guard⟩], some (8, false)⟩ ?vd9 ?hyd9 hHeld ?_
          case hyd9 => (intro wz hSw; (try dsimp only at hSw); go_simp; try with_reducible rfl)
          (try simp only [putz])
          refine WDs 10 ⟨some 29, .binOp .gtr 3 (.tmp 28) (.const (.int .i64 0)) 3, 4, _, #[⟨9, .data⟩, ⟨8, .guard⟩], some (8, false)⟩ ?vd10 ?hyd10 hHeld ?_
          case hyd10 => (intro wz hSw; (try dsimp only at hSw); go_simp; try with_reducible rfl)
          (try simp only [putz])
          refine WDs 11 ⟨some 30, .move (.tmp 29), 4, _, #[⟨10, .data⟩, ⟨8, .chain⟩, ⟨8, .guard⟩], some (8, false)⟩ ?vd11 ?hyd11 hHeld ?_
          case hyd11 => (intro wz hSw; (try dsimp only at hSw); go_simp; try with_reducible rfl)
          (try simp only [putz])
          refine WDk 12 ⟨some 31, .fieldAddr 48 (.tmp 1) 0, 0, _, #[⟨11, .guard⟩], some (11, true)⟩ hHeld ?_
          (try simp only [putz])
          refine WDk 13 ⟨some 32, .load 26 (.tmp 31), 26, _, #[⟨12, .data⟩, ⟨11, .guard⟩], some (11, true)⟩ hHeld ?_
          (try simp only [putz])
          refine WDk 14 ⟨some 33, .move (.tmp 4), 3, _, #[⟨11, .guard⟩], some (11, true)⟩ hHeld ?_
          (try simp only [putz])
          refine WDk 15 ⟨some 34, .indexAddr 26 (.tmp 32) (.tmp 33), 0, _, #[⟨13, .data⟩, ⟨14, .data⟩, ⟨11, .guard⟩], some (11, true)⟩ hHeld ?_
          (try simp only [putz])
          refine WDk 16 ⟨some 35, .load 3 (.tmp 34), 3, _, #[⟨15, .data⟩, ⟨11, .guard⟩], some (11, true)⟩ hHeld ?_
          (try simp only [putz])
          refine WDk 17 ⟨some 36, .fieldAddr 48 (.tmp 1) 0, 0, _, #[⟨11, .guard⟩], some (11, true)⟩ hHeld ?_
          (try simp only [putz])
          refine WDk 18 ⟨some 37, .load 26 (.tmp 36), 26, _, #[⟨17, .data⟩, ⟨11, .guard⟩], some (11, true)⟩ hHeld ?_
          (try simp only [putz])
          refine WDk 19 ⟨some 38, .move (.tmp 4), 3, _, #[⟨11, .guard⟩], some (11, true)⟩ hHeld ?_
          (try simp only [putz])
          refine WDk 20 ⟨some 39, .binOp .sub 3 (.tmp 38) (.const (.int .i64 1)) 3, 3, _, #[⟨19, .data⟩, ⟨11, .guard⟩], some (11, true)⟩ hHeld ?_
          (try simp only [putz])
          refine WDk 21 ⟨some 40, .indexAddr 26 (.tmp 37) (.tmp 39), 0, _, #[⟨18, .data⟩, ⟨20, .data⟩, ⟨11, .guard⟩], some (11, true)⟩ hHeld ?_
          (try simp only [putz])
          refine WDk 22 ⟨some 41, .load 3 (.tmp 40), 3, _, #[⟨21, .data⟩, ⟨11, .guard⟩], some (11, true)⟩ hHeld ?_
          (try simp only [putz])
          refine WDk 23 ⟨some 42, .binOp .leq 3 (.tmp 35) (.tmp 41) 3, 4, _, #[⟨16, .data⟩, ⟨22, .data⟩, ⟨11, .guard⟩], some (11, true)⟩ hHeld ?_
          (try simp only [putz])
          refine WDs 24 ⟨some 43, .pick (.tmp 30) (.tmp 42) (.const (.bool false)), 4, _, #[⟨11, .data⟩, ⟨23, .data⟩, ⟨8, .guard⟩], some (8, false)⟩ ?vd24 ?hyd24 hHeld ?_
          case hyd24 => (intro wz hSw; (try dsimp only at hSw); go_simp; try with_reducible rfl)
          (try simp only [putz])
          refine WDs 25 ⟨some 44, .pick (.tmp 27) (.const (.bool true)) (.tmp 43), 4, _, #[⟨8, .data⟩, ⟨24, .data⟩], none⟩ ?vd25 ?hyd25 hHeld ?_
          case hyd25 => (intro wz hSw; (try dsimp only at hSw); go_simp; try with_reducible rfl)
          (try simp only [putz])
          refine WD_done (by kernel_rfl) ?_ _
          have B5 := Lib.hid (bt HW.out hHeld)
          clear hHeld
          go_wp2
          go_roundw
          case rel => exact ⟨0 + 1, by omega, by go_num, Lib.hid (fun i hi => HN2.out i hi), B5⟩
          case measure => simp [intOf]; omega
        · rw [decide_eq_false hin] at CH
          have RES := Lib.hid (HSN.out ⟨0, HLT.out, BI.out hin⟩)
          clear hin
          as_aux_lemma =>
          go_wp2_with fail
          refine wp_region_D [] (fun w' => Below wr.heap.size wr w') (by kernel_rfl) (bdr wr) (fun hHeld => ?_)
          refine WDs 0 ⟨some 19, .move (.tmp 3), 26, _, #[], none⟩ ?ve0 ?hye0 hHeld ?_
          case hye0 => (intro wz hSw; (try dsimp only at hSw); go_simp; try with_reducible rfl)
          (try simp only [putz])
          refine WDs 1 ⟨some 20, .fieldAddr 48 (.tmp 1) 0, 0, _, #[], none⟩ ?ve1 ?hye1 hHeld ?_
          case hye1 => (intro wz hSw; (try dsimp only at hSw); go_simp; try with_reducible rfl)
          (try simp only [putz])
          refine WDs 2 ⟨some 21, .load 26 (.tmp 20), 26, _, #[⟨1, .data⟩], none⟩ ?ve2 ?hye2 hHeld ?_
          case hye2 => (intro wz hSw; (try dsimp only at hSw); obtain ⟨z0, z1, z2, z3, z4⟩ := C5.out _ hSw; go_simp; try with_reducible rfl)
          (try simp only [putz])
          refine WDs 3 ⟨some 22, .move (.tmp 4), 3, _, #[], none⟩ ?ve3 ?hye3 hHeld ?_
          case hye3 => (intro wz hSw; (try dsimp only at hSw); go_simp; try with_reducible rfl)
          (try simp only [putz])
          refine WDs 4 ⟨some 23, .indexAddr 26 (.tmp 21) (.tmp 22), 0, _, #[⟨2, .data⟩, ⟨3, .data⟩], none⟩ ?ve4 ?hye4 hHeld ?_
          case hye4 => (intro wz hSw; (try dsimp only at hSw); go_simp; try with_reducible rfl)
          (try simp only [putz])
          refine WDs 5 ⟨some 24, .load 3 (.tmp 23), 3, _, #[⟨4, .data⟩], none⟩ ?ve5 ?hye5 hHeld ?_
          case hye5 => (intro wz hSw; (try dsimp only at hSw); have q0 := (hSw.cell (p := ⟨b, _, none⟩) HBL.out).trans x0; go_simp; try with_reducible rfl)
          (try simp only [putz])
          refine WD_ready (rs := [6]) (by kernel_rfl) (by simp) ?_
          refine AllD.cons (o := _) rfl (fun K hK => ?_) AllD.nil
          rw [if_pos (by rfl)]
          go_simp
          refine (CH.out _ hHeld).mono ?_; rintro e w5 ⟨rfl, rfl⟩
          try go_wp2_with fail
          refine hK.out _ _ (hHeld) (fun hHeld => ?_)
          clear hK K
          (try simp only [putz])
          refine WDs 7 ⟨some 26, .unOp .not 4 (.tmp 25), 4, _, #[⟨6, .data⟩], none⟩ ?ve7 ?hye7 hHeld ?_
          case hye7 => (intro wz hSw; (try dsimp only at hSw); go_simp; try with_reducible rfl)
          (try simp only [putz])
          refine WDs 8 ⟨some 27, .move (.tmp 26), 4, _, #[⟨7, .data⟩, ⟨6, .chain⟩], none⟩ ?ve8 ?hye8 hHeld ?_
          case hye8 => (intro wz hSw; (try dsimp only at hSw); go_simp; try with_reducible rfl)
          (try simp only [putz])
          refine WDk 9 ⟨some 28, .move (.tmp 4), 3, _, #[⟨8, .guard⟩], some (8, false)⟩ hHeld ?_
          (try simp only [putz])
          refine WDk 10 ⟨some 29, .binOp .gtr 3 (.tmp 28) (.const (.int .i64 0)) 3, 4, _, #[⟨9, .data⟩, ⟨8, .guard⟩], some (8, false)⟩ hHeld ?_
          (try simp only [putz])
          refine WDk 11 ⟨some 30, .move (.tmp 29), 4, _, #[⟨10, .data⟩, ⟨8, .chain⟩, ⟨8, .guard⟩], some (8, false)⟩ hHeld ?_
          (try simp only [putz])
          refine WDk 12 ⟨some 31, .fieldAddr 48 (.tmp 1) 0, 0, _, #[⟨11, .guard⟩], some (11, true)⟩ hHeld ?_
          (try simp only [putz])
          refine WDk 13 ⟨some 32, .load 26 (.tmp 31), 26, _, #[⟨12, .data⟩, ⟨11, .guard⟩], some (11, true)⟩ hHeld ?_
          (try simp only [putz])
          refine WDk 14 ⟨some 33, .move (.tmp 4), 3, _, #[⟨11, .guard⟩], some (11, true)⟩ hHeld ?_
          (try simp only [putz])
          refine WDk 15 ⟨some 34, .indexAddr 26 (.tmp 32) (.tmp 33), 0, _, #[⟨13, .data⟩, ⟨14, .data⟩, ⟨11, .guard⟩], some (11, true)⟩ hHeld ?_
          (try simp only [putz])
          refine WDk 16 ⟨some 35, .load 3 (.tmp 34), 3, _, #[⟨15, .data⟩, ⟨11, .guard⟩], some (11, true)⟩ hHeld ?_
          (try simp only [putz])
          refine WDk 17 ⟨some 36, .fieldAddr 48 (.tmp 1) 0, 0, _, #[⟨11, .guard⟩], some (11, true)⟩ hHeld ?_
          (try simp only [putz])
          refine WDk 18 ⟨some 37, .load 26 (.tmp 36), 26, _, #[⟨17, .data⟩, ⟨11, .guard⟩], some (11, true)⟩ hHeld ?_
          (try simp only [putz])
          refine WDk 19 ⟨some 38, .move (.tmp 4), 3, _, #[⟨11, .guard⟩], some (11, true)⟩ hHeld ?_
          (try simp only [putz])
          refine WDk 20 ⟨some 39, .binOp .sub 3 (.tmp 38) (.const (.int .i64 1)) 3, 3, _, #[⟨19, .data⟩, ⟨11, .guard⟩], some (11, true)⟩ hHeld ?_
          (try simp only [putz])
          refine WDk 21 ⟨some 40, .indexAddr 26 (.tmp 37) (.tmp 39), 0, _, #[⟨18, .data⟩, ⟨20, .data⟩, ⟨11, .guard⟩], some (11, true)⟩ hHeld ?_
          (try simp only [putz])
          refine WDk 22 ⟨some 41, .load 3 (.tmp 40), 3, _, #[⟨21, .data⟩, ⟨11, .guard⟩], some (11, true)⟩ hHeld ?_
          (try simp only [putz])
          refine WDk 23 ⟨some 42, .binOp .leq 3 (.tmp 35) (.tmp 41) 3, 4, _, #[⟨16, .data⟩, ⟨22, .data⟩, ⟨11, .guard⟩], some (11, true)⟩ hHeld ?_
          (try simp only [putz])
          refine WDk 24 ⟨some 43, .pick (.tmp 30) (.tmp 42) (.const (.bool false)), 4, _, #[⟨11, .data⟩, ⟨23, .data⟩, ⟨8, .guard⟩], some (8, false)⟩ hHeld ?_
          (try simp only [putz])
          refine WDs 25 ⟨some 44, .pick (.tmp 27) (.const (.bool true)) (.tmp 43), 4, _, #[⟨8, .data⟩, ⟨24, .data⟩], none⟩ ?ve25 ?hye25 hHeld ?_
          case hye25 => (intro wz hSw; (try dsimp only at hSw); go_simp; try with_reducible rfl)
          (try simp only [putz])
          refine WD_done (by kernel_rfl) ?_ _
          have B5 := Lib.hid (bt BW.out hHeld)
          clear hHeld
          go_wp2
          go_ret
          exact ⟨by rw [RES.out]; rfl, B5.out⟩
    · obtain rfl : k = N := by omega
      have hge : ¬ (k : Int) < (k : Int) := by omega
      have RES := Lib.hid (HSY.out (by rw [← HN.out]; exact HQ.out))
      go_wp2
      go_ret
      exact ⟨by rw [RES.out]; rfl, BW.out⟩
end Go.Proofs.YtifopogkbjhkjaaGreatDoor
