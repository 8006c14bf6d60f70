import Derived.Test.YtifopogkbjhkjaaGreatDoorMo
namespace Go.Proofs.YtifopogkbjhkjaaGreatDoor
open DR
open Go.ChangeShapes Go.WideShapes Go.ChangeAt Go.RowKit Go.WideMaps
set_option linter.unusedVariables false
set_option linter.unusedSimpArgs false
theorem infoR : (Tryz.prog.info? 36).map (fun i => (i.zero, i.size, i.bytes)) = some (some (.agg #[.int .i64 0, .string .empty, .int .i64 0, .slice none 0 0]), 4, 56) := by kernel_rfl
set_option maxRecDepth 100000 in
set_option maxHeartbeats 8000000 in
/-- ty1: a type as the document's own. -/
theorem ty1_any : ∀ (d : Nat) (V : TT) (v : Value) (w : World), bigT d V = false → TIn w any0 V v → Calls Tryz.prog 11 #[v] w (CpPost w V) := by
  intro d
  induction d with
  | zero => intro V v w h; cases h
  | succ d ih =>
  intro V v w hbg ⟨A, c, hv, hA⟩
  obtain ⟨i0, hi0, hz0, hz1, hz2⟩ := info_parts infoR
  obtain ⟨hl4, -, b3⟩ := bigT_parts hbg
  subst hv
  obtain ⟨RF, hRF⟩ : ∃ RF : TT → TT, RF = id := ⟨_, rfl⟩
  have HI : Hid (∀ (V : TT) (v : Value) (w : World), bigT d V = false → TIn w any0 V v → Calls Tryz.prog 11 #[v] w (CpPost w (RF V))) := Lib.hid (by rw [hRF]; exact ih)
  have HBG := Lib.hid b3
  have HRN0 := Lib.hid (show RF V = .mk V.k V.nm V.vr (V.args.map RF) by rw [hRF]; simpa using TT.eta V)
  have HV := Lib.hid (show RF V = V by rw [hRF]; rfl)
  rw [← HV.out]
  unfold tv
  obtain ⟨args, ha⟩ : ∃ l, l = V.args := ⟨_, rfl⟩
  have HRN := Lib.hid (show RF V = .mk V.k V.nm V.vr (args.map RF) by rw [ha]; exact HRN0.out)
  rw [HV.out]
  have HAR := Lib.hid ha
  rw [← ha] at hA HBG hl4 ⊢
  rw [← HV.out]
  rw [show (RF V).k = V.k by rw [HV.out], show (RF V).nm = V.nm by rw [HV.out], show (RF V).vr = V.vr by rw [HV.out]]
  have HA := Lib.hid hA
  clear ih hbg b3 ha hA hRF
  obtain ⟨wB, hwB⟩ : ∃ z, z = ((w.alloc (.cells #[.int .i64 V.k, .string V.nm, .int .i64 V.vr, .slice A args.length c] 24)).alloc (.cells #[.int .i64 0, .string ⟨#[]⟩, .int .i64 0, .slice none 0 0] 36)).alloc (.cells #[.int .i64 V.k, .string V.nm, .int .i64 V.vr, .slice none 0 0] 36) := ⟨_, rfl⟩
  have HB : Hid (Below w.heap.size w wB) := Lib.hid (by rw [hwB]; exact bt (below_alloc w _) (bt (below_alloc _ _) (below_alloc _ _)))
  have HZ := Lib.hid (show wB.heap.size = w.heap.size + 3 by rw [hwB]; simp)
  have BX := two_box (w := w) (.cells #[.int .i64 V.k, .string V.nm, .int .i64 V.vr, .slice A args.length c] 24) (.cells #[.int .i64 0, .string ⟨#[]⟩, .int .i64 0, .slice none 0 0] 36)
  have HT0 := Lib.hid (show wB.heap[w.heap.size]? = some (.cells #[.int .i64 V.k, .string V.nm, .int .i64 V.vr, .slice A args.length c] 24 (0, 0)) by rw [hwB]; exact ((below_alloc _ _).block w.heap.size (by simp; omega)).trans BX.1)
  have HR0 := Lib.hid (show wB.heap[w.heap.size + 1]? = some (.cells #[.int .i64 0, .string ⟨#[]⟩, .int .i64 0, .slice none 0 0] 36 (0, 0)) by rw [hwB]; exact ((below_alloc _ _).block (w.heap.size + 1) (by simp)).trans BX.2)
  have HU0 := Lib.hid (show wB.heap[w.heap.size + 2]? = some (.cells #[.int .i64 V.k, .string V.nm, .int .i64 V.vr, .slice none 0 0] 36 (0, 0)) by
    rw [hwB]
    have := heap_alloc_new (((w.alloc (.cells #[.int .i64 V.k, .string V.nm, .int .i64 V.vr, .slice A args.length c] 24)).alloc (.cells #[.int .i64 0, .string ⟨#[]⟩, .int .i64 0, .slice none 0 0] 36))) (.cells #[.int .i64 V.k, .string V.nm, .int .i64 V.vr, .slice none 0 0] 36)
    rw [show (((w.alloc (.cells #[.int .i64 V.k, .string V.nm, .int .i64 V.vr, .slice A args.length c] 24)).alloc (.cells #[.int .i64 0, .string ⟨#[]⟩, .int .i64 0, .slice none 0 0] 36))).heap.size = w.heap.size + 2 by simp] at this
    exact this)
  have HWB := Lib.hid hwB
  clear hwB BX
  go_enter Tryz.func11, Tryz.ntmps11
  go_wp2
  try rw [← HWB.out]
  go_loopw [4] (fun i wr => ∃ (k : Nat) (v : Value) (xs : List Value), k ≤ args.length ∧ i = .int .i64 k ∧ Hid (CpU 36 wB wr (w.heap.size + 2) v k ((args.take k).map RF) xs) ∧ Hid (wr.heap[w.heap.size + 2]? = some (.cells #[.int .i64 V.k, .string V.nm, .int .i64 V.vr, v] 36 (0, 0)))) (fun i _ => args.length - (intOf i).toNat)
  case atStart => exact ⟨0, .slice none 0 0, [], by omega, by first | rfl | trivial, Lib.hid (by rw [List.take_zero]; exact ⟨Frm.refl _ _, World.ownsRow_nil _ _ _ _, rfl, rfl, by rw [HZ.out]; omega⟩), HU0⟩
  case round =>
    obtain ⟨k, v, xs, hk, rfl, HS, HU⟩ := hrel
    obtain ⟨Ar, cr, rfl⟩ := vform HS.out.own
    have hz := HZ.out
    have hBr : Below w.heap.size w wr := HB.out.trans (HS.out.frm.below (fun q hq => by have : q = w.heap.size + 2 := hq; omega) (by omega))
    have HTB := Lib.hid ((HS.out.frm.block w.heap.size (by omega) (by show ¬ w.heap.size = w.heap.size + 2; omega)).trans HT0.out)
    have HRB := Lib.hid ((HS.out.frm.block (w.heap.size + 1) (by omega) (by show ¬ w.heap.size + 1 = w.heap.size + 2; omega)).trans HR0.out)
    have HSZ := Lib.hid (show w.heap.size + 3 ≤ wr.heap.size by have := HS.out.frm.size; omega)
    obtain ⟨e0, e1, e2, e3⟩ := cells4 HTB.out
    obtain ⟨d0, d1, d2, d3⟩ := cells4 HU.out
    by_cases hlt : k < args.length
    · have hlti : (k : Int) < (args.length : Int) := by omega
      obtain ⟨b, o, rfl, hb, hr⟩ := HA.out.at (by omega)
      obtain ⟨A', c', x0, x1, x2, x3, hin⟩ := hr wr hBr k hlt
      have hbl : b < wr.heap.size := Nat.lt_of_lt_of_le hb hBr.size
      have CALL := Lib.hid (fun W (hW : Below wr.heap.size wr W) => HI.out args[k] _ W (HBG.out _ (List.getElem_mem hlt)) (hin.later hW))
      have HTK : Hid ((args.take (k + 1)).map RF = (args.take k).map RF ++ [RF args[k]]) := Lib.hid (by rw [List.take_succ_eq_append_getElem hlt, List.map_append]; rfl)
      obtain ⟨T, hT⟩ : ∃ T, T = RF args[k] := ⟨_, rfl⟩
      obtain ⟨E, hE⟩ : ∃ E, E = args[k] := ⟨_, rfl⟩
      rw [← hT] at CALL HTK
      rw [← hE] at x0 x1 x2 x3 CALL
      unfold tv at CALL
      clear hr hin hb HI hT hE
      go_wp2_with fail
      refine wp_region_D [9, 11] (fun w' => Below wr.heap.size wr w') (by kernel_rfl) (bdr wr) (fun hHeld => ?_)
      refine WDs 0 ⟨some 19, .fieldAddr 36 (.tmp 3) 3, 0, _, #[], none⟩ ?va0 ?hya0 hHeld ?_
      case hya0 => (intro wz hSw; (try dsimp only at hSw); go_simp; try with_reducible rfl)
      (try simp only [putz])
      refine WDs 1 ⟨some 20, .load 34 (.tmp 19), 34, _, #[⟨0, .data⟩], none⟩ ?va1 ?hya1 hHeld ?_
      case hya1 => (intro wz hSw; (try dsimp only at hSw); have q0 := (hSw.cell (p := ⟨w.heap.size + 2, 3, none⟩) (by have := HSZ.out; show w.heap.size + 2 < _; omega)).trans d3; go_simp; try with_reducible rfl)
      (try simp only [putz])
      refine WDs 2 ⟨some 21, .fieldAddr 24 (.tmp 1) 3, 0, _, #[], none⟩ ?va2 ?hya2 hHeld ?_
      case hya2 => (intro wz hSw; (try dsimp only at hSw); go_simp; try with_reducible rfl)
      (try simp only [putz])
      refine WDs 3 ⟨some 22, .load 22 (.tmp 21), 22, _, #[⟨2, .data⟩], none⟩ ?va3 ?hya3 hHeld ?_
      case hya3 => (intro wz hSw; (try dsimp only at hSw); have q0 := (hSw.cell (p := ⟨w.heap.size, 3, none⟩) (by have := HSZ.out; show w.heap.size < _; omega)).trans e3; go_simp; try with_reducible rfl)
      (try simp only [putz])
      refine WDs 4 ⟨some 23, .move (.tmp 4), 3, _, #[], none⟩ ?va4 ?hya4 hHeld ?_
      case hya4 => (intro wz hSw; (try dsimp only at hSw); go_simp; try with_reducible rfl)
      (try simp only [putz])
      refine WDs 5 ⟨some 24, .indexAddr 22 (.tmp 22) (.tmp 23), 0, _, #[⟨3, .data⟩, ⟨4, .data⟩], none⟩ ?va5 ?hya5 hHeld ?_
      case hya5 => (intro wz hSw; (try dsimp only at hSw); go_simp; try with_reducible rfl)
      (try simp only [putz])
      refine WDs 6 ⟨some 25, .load 24 (.tmp 24), 24, _, #[⟨5, .data⟩], none⟩ ?va6 ?hya6 hHeld ?_
      case hya6 => (intro wz hSw; (try dsimp only at hSw); have q0 := (hSw.cell (p := ⟨b, _, none⟩) hbl).trans x0; have q1 := (hSw.cell (p := ⟨b, _, none⟩) hbl).trans x1; have q2 := (hSw.cell (p := ⟨b, _, none⟩) hbl).trans x2; have q3 := (hSw.cell (p := ⟨b, _, none⟩) hbl).trans x3; go_simp; try with_reducible rfl)
      (try simp only [putz])
      have hHs0 := hHeld.size
      refine WD_ready (rs := [7]) (by kernel_rfl) (by simp) ?_
      refine AllD.cons (o := _) rfl (fun K hK => ?_) AllD.nil
      rw [if_pos (by rfl)]
      go_simp
      refine (CALL.out _ hHeld).mono ?_; rintro e w2 ⟨A2, c2, rfl, hr2, hb2⟩
      unfold tv
      try go_wp2_with fail
      refine hK.out _ _ (bt hHeld hb2) (fun hHeld => ?_)
      clear hK K
      (try simp only [putz])
      have R2 := Lib.hid (hr2.weak (P' := (wr.heap.size ≤ ·)) (fun b _ h => Nat.le_trans hHs0 h))
      have B2 := Lib.hid hHeld
      clear hHeld hr2 hb2
      refine WD_ready (rs := [8]) (by kernel_rfl) (by simp) ?_
      refine AllD.cons (o := _) rfl (fun K hK => ?_) AllD.nil
      rw [if_pos (by rfl)]
      go_simp
      refine hK.out _ _ (bt B2.out (below_alloc w2 _)) (fun hHeld => ?_)
      clear hK K
      (try simp only [putz])
      clear hHeld
      obtain ⟨w3, hw3⟩ : ∃ z, z = w2.alloc (.cells #[.int .i64 T.k, .string T.nm, .int .i64 T.vr, .slice A2 T.args.length c2] 36) := ⟨_, rfl⟩
      rw [← hw3]
      have N3 : Hid (w3.heap[w2.heap.size]? = some (.cells #[.int .i64 T.k, .string T.nm, .int .i64 T.vr, .slice A2 T.args.length c2] 36 (0, 0))) := Lib.hid (by rw [hw3]; exact heap_alloc_new w2 _)
      have B3 := Lib.hid (show Below wr.heap.size wr w3 by rw [hw3]; exact bt B2.out (below_alloc w2 _))
      have O3 := Lib.hid (own_bl HS.out.own B3.out)
      have U3 := Lib.hid ((B3.out.block (w.heap.size + 2) (by have := HSZ.out; omega)).trans HU.out)
      have Q3 := Lib.hid (show wr.heap.size ≤ w2.heap.size ∧ w2.heap.size < w3.heap.size ∧ wB.heap.size ≤ wr.heap.size from ⟨B2.out.size, by rw [hw3]; simp, HS.out.frm.size⟩)
      have hq3 := Q3.out
      have HW3 := Lib.hid hw3
      clear hw3
      refine WD_ready (rs := [9]) (by kernel_rfl) (by simp) ?_
      refine AllD.last (o := _) rfl (by kernel_rfl) (fun K hK => ?_) AllD.nil
      refine step_append_lies _ (by rfl) (.tmp 20) (.tmp 27) 34 rfl wB.heap.size 36 i0 (.agg #[.int .i64 0, .string .empty, .int .i64 0, .slice none 0 0]) 4 56 Tryz.underlying34 hi0 hz0 hz1 hz2 rfl (by decide) (.slice Ar k cr) k xs rfl O3.out ⟨w2.heap.size, 0, none⟩ 1 1 (kidT T A2 c2) rfl rfl (World.news_of_block (cs := #[.int .i64 T.k, .string T.nm, .int .i64 T.vr, .slice A2 T.args.length c2]) (t := 36) (fr := (0, 0)) N3.out) (kid_one _ _ _) (by omega) (by unfold maxLen; omega) (by omega) (by omega) _ rfl ?_
      intro g cap w4 own4 gr4 at4 hlt4
      refine hK.out _ _ ?_
      clear hK K
      (try simp only [putz])
      have hub : (Value.slice Ar k cr).ownBlock ≠ some (w.heap.size + 2) := fun e => by have h1 := (O3.out.lt _ e).1; have h2 := HZ.out; omega
      have U4 := Lib.hid ((gr4.block (w.heap.size + 2) (Array.getElem?_eq_some_iff.1 U3.out).1 (fun e => hub e.symm)).trans U3.out)
      have ST5 := Lib.hid (show CpU 36 wB (w4.setCell ⟨w.heap.size + 2, 3, none⟩ (.slice (some ⟨g, 0, none⟩) (k + 1) cap)) (w.heap.size + 2) (.slice (some ⟨g, 0, none⟩) (k + 1) cap) (k + 1) ((args.take (k + 1)).map RF) (xs ++ kidT T A2 c2) by rw [HTK.out]; rw [HW3.out] at gr4 at4; exact cpu_step HS.out B2.out R2.out _ own4 gr4 (by rcases at4 with e | e; exact .inl e.symm; right; rw [e]; rfl))
      have HU5 := Lib.hid (set_last (.slice (some ⟨g, 0, none⟩) (k + 1) cap) U4.out)
      obtain ⟨u0, u1, u2, u3⟩ := cells4 U4.out
      obtain ⟨v0, v1, v2, v3⟩ := froz4 U4.out
      clear own4 gr4 at4 hlt4
      refine WD_takeAny (i := 10) (oi := ⟨some 29, .fieldAddr 36 (.tmp 3) 3, 0, _, #[⟨0, .phase⟩, ⟨1, .phase⟩, ⟨2, .phase⟩, ⟨3, .phase⟩, ⟨4, .phase⟩, ⟨5, .phase⟩, ⟨6, .phase⟩, ⟨7, .phase⟩, ⟨8, .phase⟩, ⟨9, .phase⟩], none⟩) (v := ?va10) rfl (by kernel_rfl) (by kernel_rfl) (by kernel_rfl) (by kernel_rfl) (fun _ _ _ h => h) (Or.inl ⟨by rfl, ?hya10⟩) ?_
      case hya10 => (intro wz _; go_simp; try with_reducible rfl)
      (try simp only [putz])
      refine WD_ready (rs := [11]) (by kernel_rfl) (by simp) ?_
      refine AllD.last (o := _) rfl (by kernel_rfl) (fun K hK => ?_) AllD.nil
      rw [if_pos (by rfl)]
      go_simp
      refine hK.out _ _ ?_
      clear hK K
      (try simp only [putz])
      refine WD_done (by kernel_rfl) ?_ _
      go_wp2
      go_roundw
      case rel => exact ⟨k + 1, _, _, by omega, by go_num, ST5, HU5⟩
      case measure => simp [intOf]; omega
    · obtain rfl : k = args.length := by omega
      have hge : ¬ (args.length : Int) < (args.length : Int) := by omega
      obtain ⟨A', c', hv, hrow⟩ := cpu_fin HS.out
      injection hv with hv1 _ hv2
      subst hv1 hv2
      rw [List.take_length] at hrow
      have HROW := Lib.hid hrow
      have hrb := HRB.out
      obtain ⟨y0, y1, y2, y3⟩ := cells4 hrb
      obtain ⟨k0, k1, k2, k3⟩ := froz4 hrb
      obtain ⟨t0, t1, t2, t3⟩ := cells4 (cells_all (.int .i64 V.k) (.string V.nm) (.int .i64 V.vr) (.slice Ar args.length cr) hrb)
      have FR := Lib.hid (frm4 wr (w.heap.size + 1) (.int .i64 V.k) (.string V.nm) (.int .i64 V.vr) (.slice Ar args.length cr))
      have HBW := Lib.hid hBr
      clear hrow hBr hrb
      go_wp2
      (try simp only [Exit.inBlock, Exit.then])
      refine bodyPost_ret (by simp [results, Tryz.results11, go_sem, t0, t1, t2, t3]; try rfl) rfl ?_
      exact ⟨Ar, cr, (by rw [HRN.out]; unfold tv; simp [TT.k, TT.nm, TT.vr, TT.args]), (show args.map RF = (RF V).args by rw [HRN.out]; rfl) ▸ HROW.out.move (fun b hb (hp : wB.heap.size ≤ b) => ⟨FR.out.block b hb (by show ¬ b = w.heap.size + 1; omega), by omega⟩) FR.out.size, HBW.out.trans (FR.out.below (fun q hq => by have : q = w.heap.size + 1 := hq; omega) (by have := HSZ.out; omega))⟩
end Go.Proofs.YtifopogkbjhkjaaGreatDoor
