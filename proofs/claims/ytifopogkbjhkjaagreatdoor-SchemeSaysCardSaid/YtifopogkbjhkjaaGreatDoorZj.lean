import Derived.Test.YtifopogkbjhkjaaGreatDoorZb
import Derived.Test.YtifopogkbjhkjaaGreatDoorMy
import Derived.Test.YtifopogkbjhkjaaGreatDoorYq
import Derived.Test.YtifopogkbjhkjaaGreatDoorRg
import Derived.Test.YtifopogkbjhkjaaGreatDoorYr
import Derived.Test.YtifopogkbjhkjaaGreatDoorZf
import Derived.Test.YtifopogkbjhkjaaGreatDoorYu
import Derived.Test.YtifopogkbjhkjaaGreatDoorTs
import Derived.Deep.Cut
namespace Go.Proofs.YtifopogkbjhkjaaGreatDoor
open DR
open Go.ChangeShapes Go.WideShapes Go.ChangeAt Go.RowKit Go.WideMaps
set_option linter.unusedVariables false
set_option linter.unusedSimpArgs false
variable {nx : Int}
set_option maxRecDepth 100000 in
set_option maxHeartbeats 8000000 in
theorem rall_ok {P : Nat → Prop} {St : List TT} {rk : Int → Nat} (hst : StOk St rk) {rb : Nat} : ∀ V : TT, shp V = true → ∀ (x : Value) (w : World), TIn w any0 V x → RSub nx w P rb St → Calls Tryz.prog 63 #[.pointer (some ⟨rb, 0, none⟩), x] w (CpPost w (apvF St V)) := by
  refine res_ind hst ?_
  intro V hsh ih x w ⟨A, c, hv, hA⟩ hu
  obtain ⟨i0, hi0, hz0, hz1, hz2⟩ := info_parts infoR
  subst hv
  have hR := resF_res hst V
  have RS := Lib.hid (fun W (hW : Below w.heap.size w W) => head_ok hst (P := (· < w.heap.size)) (c := c) hsh ((hA.weak fun b hb _ => hb).later hW) ((hu.moveP rfl (P' := (· < w.heap.size)) (fun b hb _ => ⟨rfl, hb⟩) (Nat.le_refl _)).later hW))
  have HSH := Lib.hid (shp_head (res_shp hst hR hsh)).2.2
  have hl2 := (shp_head (res_shp hst hR hsh)).2.1
  have HI := Lib.hid ih
  have HRN := Lib.hid (app_eq hst hsh)
  obtain ⟨T, hT⟩ : ∃ T, T = resF St V := ⟨_, rfl⟩
  obtain ⟨RF, hRF⟩ : ∃ z, z = apvF St := ⟨_, rfl⟩
  rw [← hT] at RS HSH hl2 HI HRN
  rw [← hRF] at HI HRN ⊢
  have HU0 := Lib.hid hu
  unfold tv at RS ⊢
  obtain ⟨args, ha⟩ : ∃ l, l = T.args := ⟨_, rfl⟩
  have HAR := Lib.hid ha
  rw [← ha] at HSH hl2 HI HRN RS
  obtain ⟨wA, hwA⟩ : ∃ z, z = (w.alloc (.cells #[.int .i64 V.k, .string V.nm, .int .i64 V.vr, .slice A V.args.length c] 36)).alloc (.cells #[.int .i64 0, .string ⟨#[]⟩, .int .i64 0, .slice none 0 0] 36) := ⟨_, rfl⟩
  have BA := Lib.hid (show Below w.heap.size w wA by rw [hwA]; exact bt (below_alloc w _) (below_alloc _ _))
  have BX := two_box (w := w) (.cells #[.int .i64 V.k, .string V.nm, .int .i64 V.vr, .slice A V.args.length c] 36) (.cells #[.int .i64 0, .string ⟨#[]⟩, .int .i64 0, .slice none 0 0] 36)
  rw [← hwA] at BX
  have HX := Lib.hid BX.1
  have HY := Lib.hid BX.2
  have HZ := Lib.hid (show wA.heap.size = w.heap.size + 2 by rw [hwA]; simp)
  have HWA := Lib.hid hwA
  clear ih hT hA hsh hR hwA hst hu BX hRF ha
  go_enter Tryz.func63, Tryz.ntmps63
  obtain ⟨e0, e1, e2, e3⟩ := cells4 HX.out
  go_wp2_with fail
  try rw [← HWA.out]
  refine (RS.out _ BA.out).mono ?_; rintro e w1 ⟨A1, c1, rfl, hr1, hb1⟩
  have H1 := Lib.hid hb1
  have R1 := Lib.hid (hr1.later hb1)
  have X1 := Lib.hid ((hb1.block w.heap.size (by have := HZ.out; omega)).trans HX.out)
  have Y1 := Lib.hid ((hb1.block (w.heap.size + 1) (by have := HZ.out; omega)).trans HY.out)
  clear e0 e1 e2 e3
  obtain ⟨f0, f1, f2, f3⟩ := froz4 X1.out
  obtain ⟨g0, g1, g2, g3⟩ := cells4 X1.out
  clear hr1 hb1
  obtain ⟨wS, hwS⟩ : ∃ z, z = (((w1.setCell ⟨w.heap.size, 0, none⟩ (.int .i64 T.k)).setCell ⟨w.heap.size, 1, none⟩ (.string T.nm)).setCell ⟨w.heap.size, 2, none⟩ (.int .i64 T.vr)).setCell ⟨w.heap.size, 3, none⟩ (.slice A1 args.length c1) := ⟨_, rfl⟩
  have FS := Lib.hid (show Frm w1 wS (· = w.heap.size) by rw [hwS]; exact frm4 w1 w.heap.size _ _ _ _)
  have XS := Lib.hid (show wS.heap[w.heap.size]? = some (.cells #[.int .i64 T.k, .string T.nm, .int .i64 T.vr, .slice A1 args.length c1] 36 (0, 0)) by rw [hwS]; exact cells_all _ _ _ _ X1.out)
  have ZS := Lib.hid (show wS.heap.size = w1.heap.size by rw [hwS]; simp [World.setCell])
  have YS := Lib.hid ((FS.out.block (w.heap.size + 1) (by have := H1.out.size; have := HZ.out; omega) (by show ¬ w.heap.size + 1 = w.heap.size; omega)).trans Y1.out)
  have S1 := Lib.hid (show w.heap.size + 2 ≤ w1.heap.size by have := H1.out.size; have := HZ.out; omega)
  have BS := Lib.hid (show Below w.heap.size w wS from (bt BA.out H1.out).trans (FS.out.below (fun q hq => by have : q = w.heap.size := hq; omega) (by have := S1.out; omega)))
  have RS2 := Lib.hid (R1.out.move (w' := wS) (P' := (· < w.heap.size)) (fun b hb (hp : b < w.heap.size) => ⟨FS.out.block b hb (by show ¬ b = w.heap.size; omega), hp⟩) FS.out.size)
  go_wp2
  rw [← hwS]
  obtain ⟨ub, hub⟩ : ∃ z, z = w1.heap.size := ⟨_, rfl⟩
  obtain ⟨wB, hwB⟩ : ∃ z, z = wS.alloc (.cells #[.int .i64 T.k, .string T.nm, .int .i64 T.vr, .slice none 0 0] 36) := ⟨_, rfl⟩
  have HUB := Lib.hid (show w.heap.size + 2 ≤ ub ∧ wB.heap.size = ub + 1 by rw [hub, hwB]; exact ⟨S1.out, by simp [ZS.out]⟩)
  have HB := Lib.hid (show Below w.heap.size w wB by rw [hwB]; exact bt BS.out (below_alloc _ _))
  have HT0 := Lib.hid (show wB.heap[w.heap.size]? = some (.cells #[.int .i64 T.k, .string T.nm, .int .i64 T.vr, .slice A1 args.length c1] 36 (0, 0)) by rw [hwB]; exact ((below_alloc wS _).block w.heap.size (by have := S1.out; have := ZS.out; omega)).trans XS.out)
  have HR0 := Lib.hid (show wB.heap[w.heap.size + 1]? = some (.cells #[.int .i64 0, .string ⟨#[]⟩, .int .i64 0, .slice none 0 0] 36 (0, 0)) by rw [hwB]; exact ((below_alloc wS _).block (w.heap.size + 1) (by have := S1.out; have := ZS.out; omega)).trans YS.out)
  have HU1 := Lib.hid (show wB.heap[ub]? = some (.cells #[.int .i64 T.k, .string T.nm, .int .i64 T.vr, .slice none 0 0] 36 (0, 0)) by rw [hwB, hub, ← ZS.out]; exact heap_alloc_new wS _)
  have HAN := Lib.hid (show TRow wB (fun b => b ≠ ub) A1 args by rw [hwB, hub]; exact (RS2.out.later (below_alloc wS _)).weak (fun b _ hb => by have := S1.out; have hb2 : b < w.heap.size := hb; show b ≠ w1.heap.size; omega))
  rw [← hub]
  try rw [← hwB]
  clear hwB hwS hub f0 f1 f2 f3 g0 g1 g2 g3 X1 Y1 XS YS R1 RS2 BS FS ZS S1 H1
  go_loopw [6] (fun i wr => ∃ (k : Nat) (v : Value) (xs : List Value), k ≤ args.length ∧ i = .int .i64 k ∧ Hid (CpU 36 wB wr ub v k ((args.take k).map RF) xs) ∧ Hid (wr.heap[ub]? = some (.cells #[.int .i64 T.k, .string T.nm, .int .i64 T.vr, v] 36 (0, 0)))) (fun i _ => args.length - (intOf i).toNat)
  case atStart => exact ⟨0, .slice none 0 0, [], by omega, by first | rfl | trivial, Lib.hid (by rw [List.take_zero]; exact ⟨Frm.refl _ _, World.ownsRow_nil _ _ _ _, rfl, rfl, by rw [HUB.out.2]; omega⟩), HU1⟩
  case round =>
    obtain ⟨k, v, xs, hk, rfl, HS, HU⟩ := hrel
    obtain ⟨Ar, cr, rfl⟩ := vform HS.out.own
    have hz := HUB.out
    have hBr : Below w.heap.size w wr := HB.out.trans (HS.out.frm.below (fun q hq => by have : q = ub := hq; omega) (by omega))
    have HTB := Lib.hid ((HS.out.frm.block w.heap.size (by omega) (by show ¬ w.heap.size = ub; omega)).trans HT0.out)
    have HRB := Lib.hid ((HS.out.frm.block (w.heap.size + 1) (by omega) (by show ¬ w.heap.size + 1 = ub; omega)).trans HR0.out)
    have HSZ := Lib.hid (show ub + 1 ≤ wr.heap.size by have := HS.out.frm.size; omega)
    obtain ⟨e0, e1, e2, e3⟩ := cells4 HTB.out
    obtain ⟨d0, d1, d2, d3⟩ := cells4 HU.out
    by_cases hlt : k < args.length
    · have hlti : (k : Int) < (args.length : Int) := by omega
      have HAr := Lib.hid (show TRow wr (fun b => b ≠ ub) A1 args from (HAN.out).move (fun b hb hp => ⟨HS.out.frm.block b hb hp, hp⟩) HS.out.frm.size)
      obtain ⟨b, o, rfl, hb, hr⟩ := HAr.out.at (by omega)
      obtain ⟨A', c', x0, x1, x2, x3, hin⟩ := hr wr (Below.refl _ _) k hlt
      have hbl : b < wr.heap.size := hb
      have CALL := Lib.hid (fun W (hW : Below wr.heap.size wr W) => HI.out args[k] (List.getElem_mem hlt) _ W ((hin.weak (P' := any0) (fun _ _ _ => trivial)).later hW) (HU0.out.later (bt hBr hW)))
      have HTK : Hid ((args.take (k + 1)).map RF = (args.take k).map RF ++ [RF args[k]]) := Lib.hid (by rw [List.take_succ_eq_append_getElem hlt, List.map_append]; rfl)
      obtain ⟨TT2, hT⟩ : ∃ T, T = RF args[k] := ⟨_, rfl⟩
      obtain ⟨E, hE⟩ : ∃ E, E = args[k] := ⟨_, rfl⟩
      rw [← hT] at CALL HTK
      rw [← hE] at x0 x1 x2 x3 CALL
      unfold tv at CALL
      clear hr hin hb HI hT hE hz
      go_wp2_with fail
      refine wp_region_D [10, 12] (fun w' => Below wr.heap.size wr w') (by kernel_rfl) (bdr wr) (fun hHeld => ?_)
      refine WDs 0 ⟨some 24, .fieldAddr 36 (.tmp 5) 3, 0, _, #[], none⟩ ?va0 ?hya0 hHeld ?_
      case hya0 => (intro wz hSw; (try dsimp only at hSw); go_simp; try with_reducible rfl)
      (try simp only [putz])
      refine WDs 1 ⟨some 25, .load 34 (.tmp 24), 34, _, #[⟨0, .data⟩], none⟩ ?va1 ?hya1 hHeld ?_
      case hya1 => (intro wz hSw; (try dsimp only at hSw); have q0 := (hSw.cell (p := ⟨ub, 3, none⟩) (by have := HSZ.out; have := HUB.out; show ub < _; omega)).trans d3; go_simp; try with_reducible rfl)
      (try simp only [putz])
      refine WDs 2 ⟨some 26, .move (.tmp 0), 33, _, #[], none⟩ ?va2 ?hya2 hHeld ?_
      case hya2 => (intro wz hSw; (try dsimp only at hSw); go_simp; try with_reducible rfl)
      (try simp only [putz])
      refine WDs 3 ⟨some 27, .fieldAddr 36 (.tmp 3) 3, 0, _, #[], none⟩ ?va3 ?hya3 hHeld ?_
      case hya3 => (intro wz hSw; (try dsimp only at hSw); go_simp; try with_reducible rfl)
      (try simp only [putz])
      refine WDs 4 ⟨some 28, .load 34 (.tmp 27), 34, _, #[⟨3, .data⟩], none⟩ ?va4 ?hya4 hHeld ?_
      case hya4 => (intro wz hSw; (try dsimp only at hSw); have q0 := (hSw.cell (p := ⟨w.heap.size, 3, none⟩) (by have := HSZ.out; have := HUB.out; show w.heap.size < _; omega)).trans e3; go_simp; try with_reducible rfl)
      (try simp only [putz])
      refine WDs 5 ⟨some 29, .move (.tmp 6), 3, _, #[], none⟩ ?va5 ?hya5 hHeld ?_
      case hya5 => (intro wz hSw; (try dsimp only at hSw); go_simp; try with_reducible rfl)
      (try simp only [putz])
      refine WDs 6 ⟨some 30, .indexAddr 34 (.tmp 28) (.tmp 29), 0, _, #[⟨4, .data⟩, ⟨5, .data⟩], none⟩ ?va6 ?hya6 hHeld ?_
      case hya6 => (intro wz hSw; (try dsimp only at hSw); go_simp; try with_reducible rfl)
      (try simp only [putz])
      refine WDs 7 ⟨some 31, .load 36 (.tmp 30), 36, _, #[⟨6, .data⟩], none⟩ ?va7 ?hya7 hHeld ?_
      case hya7 => (intro wz hSw; (try dsimp only at hSw); have q0 := (hSw.cell (p := ⟨b, _, none⟩) hbl).trans x0; have q1 := (hSw.cell (p := ⟨b, _, none⟩) hbl).trans x1; have q2 := (hSw.cell (p := ⟨b, _, none⟩) hbl).trans x2; have q3 := (hSw.cell (p := ⟨b, _, none⟩) hbl).trans x3; go_simp; try with_reducible rfl)
      (try simp only [putz])
      have hHs0 := hHeld.size
      refine WD_ready (rs := [8]) (by kernel_rfl) (by simp) ?_
      refine AllD.cons (o := _) rfl (fun K hK => ?_) AllD.nil
      rw [if_pos (by rfl)]
      go_simp
      refine (CALL.out _ hHeld).mono ?_; rintro e w2 ⟨A2, c2, rfl, hr2, hb2⟩
      unfold tv
      try go_wp2_with fail
      refine hK.out _ _ (bt hHeld hb2) (fun hHeld => ?_)
      clear hK K
      (try simp only [putz])
      have R2 := Lib.hid (hr2.weak (P' := (wr.heap.size ≤ ·)) (fun b _ h => Nat.le_trans hHs0 h))
      have B2 := Lib.hid hHeld
      clear hHeld hr2 hb2
      refine WD_ready (rs := [9]) (by kernel_rfl) (by simp) ?_
      refine AllD.cons (o := _) rfl (fun K hK => ?_) AllD.nil
      rw [if_pos (by rfl)]
      go_simp
      refine hK.out _ _ (bt B2.out (below_alloc w2 _)) (fun hHeld => ?_)
      clear hK K
      (try simp only [putz])
      clear hHeld
      obtain ⟨w3, hw3⟩ : ∃ z, z = w2.alloc (.cells #[.int .i64 TT2.k, .string TT2.nm, .int .i64 TT2.vr, .slice A2 TT2.args.length c2] 36) := ⟨_, rfl⟩
      rw [← hw3]
      have N3 : Hid (w3.heap[w2.heap.size]? = some (.cells #[.int .i64 TT2.k, .string TT2.nm, .int .i64 TT2.vr, .slice A2 TT2.args.length c2] 36 (0, 0))) := Lib.hid (by rw [hw3]; exact heap_alloc_new w2 _)
      have B3 := Lib.hid (show Below wr.heap.size wr w3 by rw [hw3]; exact bt B2.out (below_alloc w2 _))
      have O3 := Lib.hid (own_bl HS.out.own B3.out)
      have U3 := Lib.hid ((B3.out.block (ub) (by have := HSZ.out; have := HUB.out; omega)).trans HU.out)
      have Q3 := Lib.hid (show wr.heap.size ≤ w2.heap.size ∧ w2.heap.size < w3.heap.size ∧ wB.heap.size ≤ wr.heap.size from ⟨B2.out.size, by rw [hw3]; simp, HS.out.frm.size⟩)
      have hq3 := Q3.out
      have HW3 := Lib.hid hw3
      clear hw3
      refine WD_ready (rs := [10]) (by kernel_rfl) (by simp) ?_
      refine AllD.last (o := _) rfl (by kernel_rfl) (fun K hK => ?_) AllD.nil
      refine step_append_lies _ (by rfl) (.tmp 25) (.tmp 33) 34 rfl wB.heap.size 36 i0 (.agg #[.int .i64 0, .string .empty, .int .i64 0, .slice none 0 0]) 4 56 Tryz.underlying34 hi0 hz0 hz1 hz2 rfl (by decide) (.slice Ar k cr) k xs rfl O3.out ⟨w2.heap.size, 0, none⟩ 1 1 (kidT TT2 A2 c2) rfl rfl (World.news_of_block (cs := #[.int .i64 TT2.k, .string TT2.nm, .int .i64 TT2.vr, .slice A2 TT2.args.length c2]) (t := 36) (fr := (0, 0)) N3.out) (kid_one _ _ _) (by omega) (by unfold maxLen; omega) (by omega) (by omega) _ rfl ?_
      intro g cap w4 own4 gr4 at4 hlt4
      refine hK.out _ _ ?_
      clear hK K
      (try simp only [putz])
      have hub : (Value.slice Ar k cr).ownBlock ≠ some (ub) := fun e => by have h1 := (O3.out.lt _ e).1; have h2 := HUB.out; omega
      have U4 := Lib.hid ((gr4.block (ub) (Array.getElem?_eq_some_iff.1 U3.out).1 (fun e => hub e.symm)).trans U3.out)
      have ST5 := Lib.hid (show CpU 36 wB (w4.setCell ⟨ub, 3, none⟩ (.slice (some ⟨g, 0, none⟩) (k + 1) cap)) (ub) (.slice (some ⟨g, 0, none⟩) (k + 1) cap) (k + 1) ((args.take (k + 1)).map RF) (xs ++ kidT TT2 A2 c2) by rw [HTK.out]; rw [HW3.out] at gr4 at4; exact cpu_step HS.out B2.out R2.out _ own4 gr4 (by rcases at4 with e | e; exact .inl e.symm; right; rw [e]; rfl))
      have HU5 := Lib.hid (set_last (.slice (some ⟨g, 0, none⟩) (k + 1) cap) U4.out)
      obtain ⟨u0, u1, u2, u3⟩ := cells4 U4.out
      obtain ⟨v0, v1, v2, v3⟩ := froz4 U4.out
      clear own4 gr4 at4 hlt4
      refine WD_takeAny (i := 11) (oi := ⟨some 35, .fieldAddr 36 (.tmp 5) 3, 0, _, #[⟨0, .phase⟩, ⟨1, .phase⟩, ⟨2, .phase⟩, ⟨3, .phase⟩, ⟨4, .phase⟩, ⟨5, .phase⟩, ⟨6, .phase⟩, ⟨7, .phase⟩, ⟨8, .phase⟩, ⟨9, .phase⟩, ⟨10, .phase⟩], none⟩) (v := ?va11) rfl (by kernel_rfl) (by kernel_rfl) (by kernel_rfl) (by kernel_rfl) (fun _ _ _ h => h) (Or.inl ⟨by rfl, ?hya11⟩) ?_
      case hya11 => (intro wz _; go_simp; try with_reducible rfl)
      (try simp only [putz])
      refine WD_ready (rs := [12]) (by kernel_rfl) (by simp) ?_
      refine AllD.last (o := _) rfl (by kernel_rfl) (fun K hK => ?_) AllD.nil
      rw [if_pos (by rfl)]
      go_simp
      refine hK.out _ _ ?_
      clear hK K
      (try simp only [putz])
      refine WD_done (by kernel_rfl) ?_ _
      go_wp2
      go_roundw
      case rel => exact ⟨k + 1, _, _, by omega, by go_num, ST5, HU5⟩
      case measure => simp [intOf]; omega
    · obtain rfl : k = args.length := by omega
      have hge : ¬ (args.length : Int) < (args.length : Int) := by omega
      obtain ⟨A', c', hv, hrow⟩ := cpu_fin HS.out
      injection hv with hv1 _ hv2
      subst hv1 hv2
      rw [List.take_length] at hrow
      have HROW := Lib.hid hrow
      have hrb := HRB.out
      obtain ⟨y0, y1, y2, y3⟩ := cells4 hrb
      obtain ⟨k0, k1, k2, k3⟩ := froz4 hrb
      obtain ⟨t0, t1, t2, t3⟩ := cells4 (cells_all (.int .i64 T.k) (.string T.nm) (.int .i64 T.vr) (.slice Ar args.length cr) hrb)
      have FR := Lib.hid (frm4 wr (w.heap.size + 1) (.int .i64 T.k) (.string T.nm) (.int .i64 T.vr) (.slice Ar args.length cr))
      have HBW := Lib.hid hBr
      clear hrow hBr hrb hz
      go_wp2
      (try simp only [Exit.inBlock, Exit.then])
      refine bodyPost_ret (by simp [results, Tryz.results63, go_sem, t0, t1, t2, t3]; try rfl) rfl ?_
      exact ⟨Ar, cr, (by rw [HRN.out]; unfold tv; simp [TT.k, TT.nm, TT.vr, TT.args]), (show args.map RF = (RF V).args by rw [HRN.out]; rfl) ▸ HROW.out.move (fun b hb (hp : wB.heap.size ≤ b) => ⟨FR.out.block b hb (by have := HUB.out; show ¬ b = w.heap.size + 1; omega), by have := HUB.out; omega⟩) FR.out.size, HBW.out.trans (FR.out.below (fun q hq => by have : q = w.heap.size + 1 := hq; omega) (by have := HSZ.out; have := HUB.out; omega))⟩
end Go.Proofs.YtifopogkbjhkjaaGreatDoor
namespace Go.Proofs.YtifopogkbjhkjaaGreatDoor
open DR
open Go.ChangeShapes Go.WideShapes Go.ChangeAt Go.RowKit Go.WideMaps
set_option linter.unusedVariables false
set_option linter.unusedSimpArgs false
variable {nx : Int}
open Classical in
set_option maxRecDepth 100000 in
set_option maxHeartbeats 2000000 in
theorem rapply {d : Nat} {V : TT} {v : Value} {w : World} {P : Nat → Prop} {sb : Nat} {St : List TT} (hbg : bigT d V = false) (hst : SInv St) (hS : RSub nx w P sb St) (h : TIn w any0 V v) : Calls Tryz.prog 36 #[.pointer (some ⟨sb, 0, none⟩), v] w (ApPost w (apG St V)) := by
  have hin := h
  obtain ⟨rk, hr⟩ := hst.ok
  obtain ⟨A, c, rfl, hA⟩ := h
  have CG := Lib.hid (fun W (hW : Below w.heap.size w W) => rgood_any hbg (hin.later hW))
  have HRED := Lib.hid hS
  unfold tv at CG ⊢
  obtain ⟨wB, hwB⟩ : ∃ z, z = (w.alloc (.cells #[.int .i64 V.k, .string V.nm, .int .i64 V.vr, .slice A V.args.length c] 36)).alloc (.cells #[.int .i64 0, .string ⟨#[]⟩, .int .i64 0, .slice none 0 0] 36) := ⟨_, rfl⟩
  have BX := two_box (w := w) (.cells #[.int .i64 V.k, .string V.nm, .int .i64 V.vr, .slice A V.args.length c] 36) (.cells #[.int .i64 0, .string ⟨#[]⟩, .int .i64 0, .slice none 0 0] 36)
  have BB := Lib.hid (show Below w.heap.size w wB by rw [hwB]; exact bt (below_alloc w _) (below_alloc _ _))
  have HZ := Lib.hid (show wB.heap.size = w.heap.size + 2 by rw [hwB]; simp)
  rw [← hwB] at BX
  have HX := Lib.hid BX.1
  have HY := Lib.hid BX.2
  have HWB := Lib.hid hwB
  obtain ⟨x0, x1, x2, x3⟩ := cells4 BX.1
  have HA := Lib.hid hA
  by_cases hg : goodT V = true
  · have HF := Lib.hid (fun W (hW : Below w.heap.size w W) => rall_ok (P := P) (rb := sb) hr V (good_shp hg) (tv V A c) W ⟨A, c, rfl, hA.later hW⟩ (HRED.out.later hW))
    have EQ := Lib.hid (show apG St V = apvF St V by unfold apG; rw [if_pos hg])
    rw [hg] at CG
    rw [EQ.out]
    obtain ⟨T, hT⟩ : ∃ T, T = apvF St V := ⟨_, rfl⟩
    rw [← hT] at HF ⊢
    unfold tv at HF
    clear BX hwB hg hT hr hA hin hS hst
    go_enter Tryz.func36, Tryz.ntmps36
    go_wp2_with fail
    rw [← HWB.out]
    go_wp2_with fail
    refine (CG.out _ BB.out).mono ?_; rintro e w1 ⟨rfl, hb1⟩
    have B1 := Lib.hid (bt BB.out hb1)
    have X1 := Lib.hid ((hb1.block w.heap.size (by have := HZ.out; omega)).trans HX.out)
    have Y1 := Lib.hid ((hb1.block (w.heap.size + 1) (by have := HZ.out; omega)).trans HY.out)
    have S1 := Lib.hid (show w.heap.size + 2 ≤ w1.heap.size by have := hb1.size; have := HZ.out; omega)
    obtain ⟨y0, y1, y2, y3⟩ := cells4 X1.out
    clear hb1 x0 x1 x2 x3 CG
    go_wp2_with fail
    refine (HF.out _ B1.out).mono ?_; rintro e w2 ⟨A2, c2, rfl, hr2, hb2⟩
    have B2 := Lib.hid (bt B1.out hb2)
    have R2 := Lib.hid hr2
    have Y2 := Lib.hid ((hb2.block (w.heap.size + 1) (by have := S1.out; omega)).trans Y1.out)
    clear hr2 hb2 HF y0 y1 y2 y3
    unfold tv
    obtain ⟨y0, y1, y2, y3⟩ := cells4 Y2.out
    obtain ⟨f0, f1, f2, f3⟩ := froz4 Y2.out
    obtain ⟨t0, t1, t2, t3⟩ := cells4 (cells_all (.int .i64 T.k) (.string T.nm) (.int .i64 T.vr) (.slice A2 T.args.length c2) Y2.out)
    have FR := Lib.hid (frm4 w2 (w.heap.size + 1) (.int .i64 T.k) (.string T.nm) (.int .i64 T.vr) (.slice A2 T.args.length c2))
    go_wp2
    (try simp only [Exit.inBlock, Exit.then])
    refine bodyPost_ret (by simp [results, Tryz.results36, go_sem, t0, t1, t2, t3]; try rfl) rfl ?_
    exact ⟨A2, c2, rfl, R2.out.move (P' := any0) (fun b hb (hp : w1.heap.size ≤ b) => ⟨FR.out.block b hb (by have := S1.out; show ¬ b = w.heap.size + 1; omega), trivial⟩) FR.out.size, B2.out.trans (FR.out.below (fun q hq => by have : q = w.heap.size + 1 := hq; omega) B2.out.size)⟩
  · have hg' : goodT V = false := by simpa using hg
    have EQ := Lib.hid (show apG St V = V by unfold apG; rw [if_neg hg])
    rw [hg'] at CG
    rw [EQ.out]
    clear BX hwB hg hg' hr hA hin hS hst
    go_enter Tryz.func36, Tryz.ntmps36
    go_wp2_with fail
    rw [← HWB.out]
    go_wp2_with fail
    refine (CG.out _ BB.out).mono ?_; rintro e w1 ⟨rfl, hb1⟩
    have B1 := Lib.hid (bt BB.out hb1)
    have X1 := Lib.hid ((hb1.block w.heap.size (by have := HZ.out; omega)).trans HX.out)
    have Y1 := Lib.hid ((hb1.block (w.heap.size + 1) (by have := HZ.out; omega)).trans HY.out)
    have S1 := Lib.hid (show w.heap.size + 2 ≤ w1.heap.size by have := hb1.size; have := HZ.out; omega)
    obtain ⟨z0, z1, z2, z3⟩ := cells4 X1.out
    obtain ⟨y0, y1, y2, y3⟩ := cells4 Y1.out
    obtain ⟨f0, f1, f2, f3⟩ := froz4 Y1.out
    obtain ⟨t0, t1, t2, t3⟩ := cells4 (cells_all (.int .i64 V.k) (.string V.nm) (.int .i64 V.vr) (.slice A V.args.length c) Y1.out)
    have FR := Lib.hid (frm4 w1 (w.heap.size + 1) (.int .i64 V.k) (.string V.nm) (.int .i64 V.vr) (.slice A V.args.length c))
    have RB := Lib.hid ((HA.out.weak (P' := (· < w.heap.size)) fun b hb _ => hb).later B1.out)
    clear hb1 x0 x1 x2 x3 CG
    go_wp2
    (try simp only [Exit.inBlock, Exit.then])
    refine bodyPost_ret (by simp [results, Tryz.results36, go_sem, t0, t1, t2, t3]; try rfl) rfl ?_
    exact ⟨A, c, rfl, RB.out.move (P' := any0) (fun b hb (hp : b < w.heap.size) => ⟨FR.out.block b hb (by show ¬ b = w.heap.size + 1; omega), trivial⟩) FR.out.size, B1.out.trans (FR.out.below (fun q hq => by have : q = w.heap.size + 1 := hq; omega) B1.out.size)⟩
end Go.Proofs.YtifopogkbjhkjaaGreatDoor
namespace Go.Proofs.YtifopogkbjhkjaaGreatDoor
open DR
open Go.ChangeShapes Go.WideShapes Go.ChangeAt Go.RowKit Go.WideMaps
set_option linter.unusedVariables false
set_option linter.unusedSimpArgs false
variable {nx : Int}
theorem occ_cong1 {St St' : List TT} (h : ∀ x, stA St' x = stA St x) {v : Int} {t : TT} (ho : Occ St v t) : Occ St' v t := by
  induction ho with
  | here h1 h2 h3 => exact .here h1 (fun hb => h2 ⟨hb.1, by rw [← h]; exact hb.2⟩) h3
  | step hb _ ih => exact .step ⟨hb.1, by rw [h]; exact hb.2⟩ (by rw [h]; exact ih)
  | arg h1 h2 _ ih => exact .arg h1 h2 ih
theorem occ_congr {St St' : List TT} (h : ∀ x, stA St' x = stA St x) : Occ St' = Occ St :=
  funext fun v => funext fun t => propext ⟨occ_cong1 (fun x => (h x).symm), occ_cong1 h⟩
theorem great_iff {St : List TT} {rk : Int → Nat} (hst : StOk St rk) : Great St ↔ ∃ x : Nat, x < 2000 ∧ 500 < fsz St (varT (x : Int)) := by
  constructor
  · rintro ⟨x, hx, h⟩
    have hl := hst.len
    refine ⟨x, by omega, ?_⟩
    unfold msz at h
    have e : (TT.mk 7 ⟨#[]⟩ (x : Int) []) = varT (x : Int) := rfl
    rw [e] at h
    omega
  · rintro ⟨x, hx, h⟩
    have hv : shp (varT (x : Int)) = true := shp_v hx
    by_cases hl : x < St.length
    · refine ⟨x, hl, ?_⟩
      unfold msz
      have e : (TT.mk 7 ⟨#[]⟩ (x : Int) []) = varT (x : Int) := rfl
      rw [e]
      omega
    · have : ¬ bnd St (varT (x : Int)) := fun e => e.2 (stA_out hl)
      rw [fsz_eq hst hv, resF_stop hst this] at h
      exact absurd h (by show ¬ 500 < 1 + sumL _ []; simp [sumL])
theorem great_congr {St St' : List TT} {rk rk' : Int → Nat} (hst : StOk St rk) (hst' : StOk St' rk') (h : ∀ x, stA St' x = stA St x) : Great St' ↔ Great St := by
  rw [great_iff hst, great_iff hst', fsz_congr h]
structure USame (u u' : US) : Prop where
  set : u'.set = u.set
  st : ∀ x, stA u'.st x = stA u.st x
theorem stand_same {u u' : US} (h : USame u u') (v : Int) (t : TT) : USame (standU u v t) (standU u' v t) := by
  refine ⟨by show u'.set ++ [v] = u.set ++ [v]; rw [h.set], fun x => ?_⟩
  show stA (bindS u'.st v.toNat t) x = stA (bindS u.st v.toNat t) x
  by_cases e : x = (v.toNat : Int)
  · subst e; rw [stA_bind, stA_bind]
  · rw [stA_bind_ne _ _ e, stA_bind_ne _ _ e, h.st]
def QSame (q q' : Int × US) : Prop := q'.1 = q.1 ∧ USame q.2 q'.2
theorem uniL_same {f : US → TT → TT → Int × US} (hf : ∀ u u' a b, USame u u' → QSame (f u a b) (f u' a b)) : ∀ (l r : List TT) (u u' : US), USame u u' → QSame (uniL f l r u) (uniL f l r u') := by
  intro l
  induction l with
  | nil => intro r u u' h; rw [uniL, uniL] <;> first | exact ⟨rfl, h⟩ | simp
  | cons a l ih =>
    intro r u u' h
    cases r with
    | nil => rw [uniL, uniL] <;> first | exact ⟨rfl, h⟩ | simp
    | cons b r =>
      have h1 := hf u u' a b h
      rw [uniL, uniL, h1.1]
      by_cases e : (f u a b).1 = 0
      · rw [if_pos e, if_pos e]; exact ih r _ _ h1.2
      · rw [if_neg e, if_neg e]; exact h1
theorem uniF_same : ∀ (d : Nat) (u u' : US) (a b : TT), USame u u' → QSame (uniF d u a b) (uniF d u' a b) := by
  intro d
  induction d with
  | zero => intro u u' a b h; exact ⟨rfl, h⟩
  | succ d ih =>
    intro u u' a b h
    rw [uniF, uniF, resF_congr h.st, fsz_congr h.st, occ_congr h.st]
    by_cases c1 : 500 < fsz u.st a ∨ 500 < fsz u.st b
    · rw [if_pos c1, if_pos c1]; exact ⟨rfl, h⟩
    rw [if_neg c1, if_neg c1]
    by_cases a7 : (resF u.st a).k = 7
    · rw [if_pos a7, if_pos a7]
      by_cases b7 : (resF u.st b).k = 7
      · rw [if_pos b7, if_pos b7]
        by_cases c2 : (resF u.st b).vr < (resF u.st a).vr
        · rw [if_pos c2, if_pos c2]; exact ⟨rfl, stand_same h _ _⟩
        rw [if_neg c2, if_neg c2]
        by_cases c3 : (resF u.st a).vr < (resF u.st b).vr
        · rw [if_pos c3, if_pos c3]; exact ⟨rfl, stand_same h _ _⟩
        · rw [if_neg c3, if_neg c3]; exact ⟨rfl, h⟩
      · rw [if_neg b7, if_neg b7]
        by_cases c2 : Occ u.st (resF u.st a).vr (resF u.st b)
        · rw [if_pos c2, if_pos c2]; exact ⟨rfl, h⟩
        · rw [if_neg c2, if_neg c2]; exact ⟨rfl, stand_same h _ _⟩
    rw [if_neg a7, if_neg a7]
    by_cases b7 : (resF u.st b).k = 7
    · rw [if_pos b7, if_pos b7]
      by_cases c2 : Occ u.st (resF u.st b).vr (resF u.st a)
      · rw [if_pos c2, if_pos c2]; exact ⟨rfl, h⟩
      · rw [if_neg c2, if_neg c2]; exact ⟨rfl, stand_same h _ _⟩
    rw [if_neg b7, if_neg b7]
    by_cases c2 : (resF u.st a).k ≠ (resF u.st b).k ∨ (resF u.st a).nm ≠ (resF u.st b).nm
    · rw [if_pos c2, if_pos c2]; exact ⟨rfl, h⟩
    · rw [if_neg c2, if_neg c2]; exact uniL_same (fun u u' a b h => ih u u' a b h) _ _ _ _ h
/-- the reference and the program say the same. -/
theorem runi_same {St R : List TT} (h : SInv2 St) (hl : R.length = 2000) (he : ∀ x, stA R x = stA St x) (a b : TT) : (runiG R a b).1 = (uniG St a b).1 ∧ ∀ x, stA (runiG R a b).2 x = stA (uniG St a b).2 x := by
  have hR : SInv R := h.inv.same (by omega) he
  unfold runiG uniG
  by_cases hg : goodT a = true ∧ goodT b = true
  case neg => rw [if_neg hg, if_neg hg]; exact ⟨rfl, he⟩
  rw [if_pos hg, if_pos hg]
  have ha := good_shp hg.1
  have hb := good_shp hg.2
  have hq : QSame (uniQ St a b) (uniQ R a b) := uniF_same _ ⟨St, []⟩ ⟨R, []⟩ a b ⟨rfl, he⟩
  have hx := uniQ_ext h.inv ha hb
  have hu := undo_same h.inv ha hb
  obtain ⟨r1, o1⟩ := hx.1.ok
  obtain ⟨r2, o2⟩ := (uniQ_ext hR ha hb).1.ok
  have hG := great_congr o1 o2 hq.2.st
  rw [hq.1]
  by_cases e0 : (uniQ St a b).1 = 0
  · rw [if_pos e0, if_pos e0]
    by_cases g : Great (uniQ St a b).2.st
    · have hs : (uniQ St a b).2.set ≠ [] := fun hs => by
        obtain ⟨x, hx2, h5⟩ := (great_iff o1).1 g
        rw [fsz_congr (fun y => hx.2.2 y (by rw [hs]; simp))] at h5
        have := h.sz x hx2
        omega
      rw [if_pos (hG.2 g), if_pos ⟨hs, g⟩]
      exact ⟨rfl, fun x => (he x).trans (hu.1 x).symm⟩
    · rw [if_neg (fun e => g (hG.1 e)), if_neg (fun e => g e.2)]
      exact ⟨rfl, hq.2.st⟩
  · rw [if_neg e0, if_neg e0]
    exact ⟨rfl, fun x => (he x).trans (hu.1 x).symm⟩
theorem apG_congr {St R : List TT} (he : ∀ x, stA R x = stA St x) : apG R = apG St := by
  funext t; unfold apG; rw [app_congr he]
end Go.Proofs.YtifopogkbjhkjaaGreatDoor
namespace Go.Proofs.YtifopogkbjhkjaaGreatDoor
open DR
open Go.ChangeShapes Go.WideShapes Go.ChangeAt Go.RowKit Go.WideMaps
set_option linter.unusedVariables false
set_option linter.unusedSimpArgs false
variable {nx : Int}
def zsubA : Array Value := (zarr ++ [Value.int .i64 0]).toArray
set_option maxRecDepth 100000 in
theorem infoZS : (Tryz.prog.info? RSy).map (fun i => (i.zero, i.size)) = some (some (.agg zsubA), 8001) := by kernel_rfl
theorem build_sub (W : World) : (Instr.build RSy #[]).run Tryz.prog W = .ok (.agg zsubA) W := by
  have hz := (zero_of_info infoZS).1 W
  have hu := Tryz.underlying39
  have h2 := (zero_of_info infoZA).2
  have h3 : (Tryz.prog.info? 3).map (·.size) = some 1 := by kernel_rfl
  cases hq : Tryz.prog.info? RAy with
  | none => simp [hq] at h2
  | some i =>
    cases hq3 : Tryz.prog.info? 3 with
    | none => simp [hq3] at h3
    | some i3 =>
      simp [Instr.build, hz, Value.cells, run_underlying hu, Instr.fill, sizeOf, typeInfo, hq, hq3]
theorem kids_zero {w : World} {P : Nat → Prop} : ∀ n : Nat, KidsT w P (List.replicate n zeroT) (List.replicate n z4).flatten
  | 0 => rfl
  | n + 1 => by
    rw [List.replicate_succ, List.replicate_succ, List.flatten_cons]
    exact ⟨none, 0, _, rfl, .inl rfl, kids_zero n⟩
theorem rsub_new {w : World} {P : Nat → Prop} {rb : Nat} (h : w.heap[rb]? = some (.cells zsubA RSy (0, 0))) : RSub 0 w P rb (List.replicate 2000 zeroT) :=
  ⟨zarr, h, kids_zero 2000, List.length_replicate⟩
theorem stA_zeros (n : Nat) (x : Int) : stA (List.replicate n zeroT) x = stA [] x := by
  rw [stA_get, stA_get]
  split
  · rw [List.getElem?_replicate]
    split <;> rfl
  · rfl
theorem wp_build_lit {P : Program} {o : Oper} {a : Act} {w : World} {K : Act → World → Prop} {Q : Exit → Act → World → Prop} {t : TypeId} {v : Value} (ho : o.op = Op.build t #[]) (h : (Instr.build t #[]).run P w = .ok v w) (hK : K (a.put o.dst v) w) : o.wp P a w K Q := by
  unfold Oper.wp
  simp [execOp, ho, h, Result.andThen]
  exact hK
theorem wp_box_lit {P : Program} {o : Oper} {a : Act} {w : World} {K : Act → World → Prop} {Q : Exit → Act → World → Prop} {t : TypeId} {x : Operand} {z : Array Value} (ho : o.op = Op.box t x) (hx : a.eval x = .agg z) (hK : K (a.put o.dst (.pointer (some ⟨w.heap.size, 0, none⟩))) (w.alloc (.cells z t))) : o.wp P a w K Q := by
  unfold Oper.wp
  simp [execOp, ho, hx, Instr.box, Result.andThen, newVar, newRow, Value.cells]
  exact hK
theorem rsame_true {d : Nat} {V : TT} {v u : Value} {w : World} (hb : bigT d V = false) (h : TIn w any0 V v) (h2 : TIn w any0 V u) : Calls Tryz.prog 20 #[v, u] w fun e w' => e = .returned (.bool true) ∧ Below w.heap.size w w' := by
  refine (rsame_gen d V V v u w hb hb h h2).mono ?_
  rintro e w' ⟨⟨b, rfl, hs⟩, hw⟩
  have : b = true := hs.2 rfl
  subst this
  exact ⟨rfl, hw⟩
end Go.Proofs.YtifopogkbjhkjaaGreatDoor
