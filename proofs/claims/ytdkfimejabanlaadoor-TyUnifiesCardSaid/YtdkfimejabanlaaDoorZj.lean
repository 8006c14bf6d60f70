import Derived.Test.YtdkfimejabanlaaDoorZb
import Derived.Test.YtdkfimejabanlaaDoorMy
import Derived.Test.YtdkfimejabanlaaDoorYq
import Derived.Test.YtdkfimejabanlaaDoorRg
import Derived.Test.YtdkfimejabanlaaDoorYr
import Derived.Test.YtdkfimejabanlaaDoorZf
import Derived.Test.YtdkfimejabanlaaDoorYu
import Derived.Test.YtdkfimejabanlaaDoorTs
import Derived.Deep.Cut
namespace Go.Proofs.YtdkfimejabanlaaDoor
open DR
open Go.ChangeShapes Go.WideShapes Go.ChangeAt Go.RowKit Go.WideMaps
set_option linter.unusedVariables false
set_option linter.unusedSimpArgs false
set_option maxRecDepth 100000 in
set_option maxHeartbeats 8000000 in
theorem rall_ok {P : Nat → Prop} {St : List TT} {rk : Int → Nat} (hst : StOk St rk) {rb : Nat} : ∀ V : TT, shp V = true → ∀ (x : Value) (w : World), TIn w any0 V x → RSub w P rb St → Calls Tryd.prog 48 #[.pointer (some ⟨rb, 0, none⟩), x] w (CpPost w (apvF St V)) := by
  refine res_ind hst ?_
  intro V hsh ih x w ⟨A, c, hv, hA⟩ hu
  obtain ⟨i0, hi0, hz0, hz1, hz2⟩ := info_parts infoR
  subst hv
  have hR := resF_res hst V
  have RS := Lib.hid (fun W (hW : Below w.heap.size w W) => head_ok hst (P := (· < w.heap.size)) (c := c) hsh ((hA.weak fun b hb _ => hb).later hW) ((hu.moveP rfl (P' := (· < w.heap.size)) (fun b hb _ => ⟨rfl, hb⟩) (Nat.le_refl _)).later hW))
  have HSH := Lib.hid (shp_head (res_shp hst hR hsh)).2.2
  have hl2 := (shp_head (res_shp hst hR hsh)).2.1
  have HI := Lib.hid ih
  have HRN := Lib.hid (app_eq hst hsh)
  obtain ⟨T, hT⟩ : ∃ T, T = resF St V := ⟨_, rfl⟩
  obtain ⟨RF, hRF⟩ : ∃ z, z = apvF St := ⟨_, rfl⟩
  rw [← hT] at RS HSH hl2 HI HRN
  rw [← hRF] at HI HRN ⊢
  have HU0 := Lib.hid hu
  unfold tv at RS ⊢
  obtain ⟨args, ha⟩ : ∃ l, l = T.args := ⟨_, rfl⟩
  have HAR := Lib.hid ha
  rw [← ha] at HSH hl2 HI HRN RS
  obtain ⟨wA, hwA⟩ : ∃ z, z = (w.alloc (.cells #[.int .i64 V.k, .string V.nm, .int .i64 V.vr, .slice A V.args.length c] 44)).alloc (.cells #[.int .i64 0, .string ⟨#[]⟩, .int .i64 0, .slice none 0 0] 44) := ⟨_, rfl⟩
  have BA := Lib.hid (show Below w.heap.size w wA by rw [hwA]; exact bt (below_alloc w _) (below_alloc _ _))
  have BX := two_box (w := w) (.cells #[.int .i64 V.k, .string V.nm, .int .i64 V.vr, .slice A V.args.length c] 44) (.cells #[.int .i64 0, .string ⟨#[]⟩, .int .i64 0, .slice none 0 0] 44)
  rw [← hwA] at BX
  have HX := Lib.hid BX.1
  have HY := Lib.hid BX.2
  have HZ := Lib.hid (show wA.heap.size = w.heap.size + 2 by rw [hwA]; simp)
  have HWA := Lib.hid hwA
  clear ih hT hA hsh hR hwA hst hu BX hRF ha
  go_enter Tryd.func48, Tryd.ntmps48
  obtain ⟨e0, e1, e2, e3⟩ := cells4 HX.out
  go_wp2_with fail
  try rw [← HWA.out]
  refine (RS.out _ BA.out).mono ?_; rintro e w1 ⟨A1, c1, rfl, hr1, hb1⟩
  have H1 := Lib.hid hb1
  have R1 := Lib.hid (hr1.later hb1)
  have X1 := Lib.hid ((hb1.block w.heap.size (by have := HZ.out; omega)).trans HX.out)
  have Y1 := Lib.hid ((hb1.block (w.heap.size + 1) (by have := HZ.out; omega)).trans HY.out)
  clear e0 e1 e2 e3
  obtain ⟨f0, f1, f2, f3⟩ := froz4 X1.out
  obtain ⟨g0, g1, g2, g3⟩ := cells4 X1.out
  clear hr1 hb1
  obtain ⟨wS, hwS⟩ : ∃ z, z = (((w1.setCell ⟨w.heap.size, 0, none⟩ (.int .i64 T.k)).setCell ⟨w.heap.size, 1, none⟩ (.string T.nm)).setCell ⟨w.heap.size, 2, none⟩ (.int .i64 T.vr)).setCell ⟨w.heap.size, 3, none⟩ (.slice A1 args.length c1) := ⟨_, rfl⟩
  have FS := Lib.hid (show Frm w1 wS (· = w.heap.size) by rw [hwS]; exact frm4 w1 w.heap.size _ _ _ _)
  have XS := Lib.hid (show wS.heap[w.heap.size]? = some (.cells #[.int .i64 T.k, .string T.nm, .int .i64 T.vr, .slice A1 args.length c1] 44 (0, 0)) by rw [hwS]; exact cells_all _ _ _ _ X1.out)
  have ZS := Lib.hid (show wS.heap.size = w1.heap.size by rw [hwS]; simp [World.setCell])
  have YS := Lib.hid ((FS.out.block (w.heap.size + 1) (by have := H1.out.size; have := HZ.out; omega) (by show ¬ w.heap.size + 1 = w.heap.size; omega)).trans Y1.out)
  have S1 := Lib.hid (show w.heap.size + 2 ≤ w1.heap.size by have := H1.out.size; have := HZ.out; omega)
  have BS := Lib.hid (show Below w.heap.size w wS from (bt BA.out H1.out).trans (FS.out.below (fun q hq => by have : q = w.heap.size := hq; omega) (by have := S1.out; omega)))
  have RS2 := Lib.hid (R1.out.move (w' := wS) (P' := (· < w.heap.size)) (fun b hb (hp : b < w.heap.size) => ⟨FS.out.block b hb (by show ¬ b = w.heap.size; omega), hp⟩) FS.out.size)
  go_wp2
  rw [← hwS]
  obtain ⟨ub, hub⟩ : ∃ z, z = w1.heap.size := ⟨_, rfl⟩
  obtain ⟨wB, hwB⟩ : ∃ z, z = wS.alloc (.cells #[.int .i64 T.k, .string T.nm, .int .i64 T.vr, .slice none 0 0] 44) := ⟨_, rfl⟩
  have HUB := Lib.hid (show w.heap.size + 2 ≤ ub ∧ wB.heap.size = ub + 1 by rw [hub, hwB]; exact ⟨S1.out, by simp [ZS.out]⟩)
  have HB := Lib.hid (show Below w.heap.size w wB by rw [hwB]; exact bt BS.out (below_alloc _ _))
  have HT0 := Lib.hid (show wB.heap[w.heap.size]? = some (.cells #[.int .i64 T.k, .string T.nm, .int .i64 T.vr, .slice A1 args.length c1] 44 (0, 0)) by rw [hwB]; exact ((below_alloc wS _).block w.heap.size (by have := S1.out; have := ZS.out; omega)).trans XS.out)
  have HR0 := Lib.hid (show wB.heap[w.heap.size + 1]? = some (.cells #[.int .i64 0, .string ⟨#[]⟩, .int .i64 0, .slice none 0 0] 44 (0, 0)) by rw [hwB]; exact ((below_alloc wS _).block (w.heap.size + 1) (by have := S1.out; have := ZS.out; omega)).trans YS.out)
  have HU1 := Lib.hid (show wB.heap[ub]? = some (.cells #[.int .i64 T.k, .string T.nm, .int .i64 T.vr, .slice none 0 0] 44 (0, 0)) by rw [hwB, hub, ← ZS.out]; exact heap_alloc_new wS _)
  have HAN := Lib.hid (show TRow wB (fun b => b ≠ ub) A1 args by rw [hwB, hub]; exact (RS2.out.later (below_alloc wS _)).weak (fun b _ hb => by have := S1.out; have hb2 : b < w.heap.size := hb; show b ≠ w1.heap.size; omega))
  rw [← hub]
  try rw [← hwB]
  clear hwB hwS hub f0 f1 f2 f3 g0 g1 g2 g3 X1 Y1 XS YS R1 RS2 BS FS ZS S1 H1
  go_loopw [6] (fun i wr => ∃ (k : Nat) (v : Value) (xs : List Value), k ≤ args.length ∧ i = .int .i64 k ∧ Hid (CpU 44 wB wr ub v k ((args.take k).map RF) xs) ∧ Hid (wr.heap[ub]? = some (.cells #[.int .i64 T.k, .string T.nm, .int .i64 T.vr, v] 44 (0, 0)))) (fun i _ => args.length - (intOf i).toNat)
  case atStart => exact ⟨0, .slice none 0 0, [], by omega, by first | rfl | trivial, Lib.hid (by rw [List.take_zero]; exact ⟨Frm.refl _ _, World.ownsRow_nil _ _ _ _, rfl, rfl, by rw [HUB.out.2]; omega⟩), HU1⟩
  case round =>
    obtain ⟨k, v, xs, hk, rfl, HS, HU⟩ := hrel
    obtain ⟨Ar, cr, rfl⟩ := vform HS.out.own
    have hz := HUB.out
    have hBr : Below w.heap.size w wr := HB.out.trans (HS.out.frm.below (fun q hq => by have : q = ub := hq; omega) (by omega))
    have HTB := Lib.hid ((HS.out.frm.block w.heap.size (by omega) (by show ¬ w.heap.size = ub; omega)).trans HT0.out)
    have HRB := Lib.hid ((HS.out.frm.block (w.heap.size + 1) (by omega) (by show ¬ w.heap.size + 1 = ub; omega)).trans HR0.out)
    have HSZ := Lib.hid (show ub + 1 ≤ wr.heap.size by have := HS.out.frm.size; omega)
    obtain ⟨e0, e1, e2, e3⟩ := cells4 HTB.out
    obtain ⟨d0, d1, d2, d3⟩ := cells4 HU.out
    by_cases hlt : k < args.length
    · have hlti : (k : Int) < (args.length : Int) := by omega
      have HAr := Lib.hid (show TRow wr (fun b => b ≠ ub) A1 args from (HAN.out).move (fun b hb hp => ⟨HS.out.frm.block b hb hp, hp⟩) HS.out.frm.size)
      obtain ⟨b, o, rfl, hb, hr⟩ := HAr.out.at (by omega)
      obtain ⟨A', c', x0, x1, x2, x3, hin⟩ := hr wr (Below.refl _ _) k hlt
      have hbl : b < wr.heap.size := hb
      have CALL := Lib.hid (fun W (hW : Below wr.heap.size wr W) => HI.out args[k] (List.getElem_mem hlt) _ W ((hin.weak (P' := any0) (fun _ _ _ => trivial)).later hW) (HU0.out.later (bt hBr hW)))
      have HTK : Hid ((args.take (k + 1)).map RF = (args.take k).map RF ++ [RF args[k]]) := Lib.hid (by rw [List.take_succ_eq_append_getElem hlt, List.map_append]; rfl)
      obtain ⟨TT2, hT⟩ : ∃ T, T = RF args[k] := ⟨_, rfl⟩
      obtain ⟨E, hE⟩ : ∃ E, E = args[k] := ⟨_, rfl⟩
      rw [← hT] at CALL HTK
      rw [← hE] at x0 x1 x2 x3 CALL
      unfold tv at CALL
      clear hr hin hb HI hT hE hz
      go_wp2_with fail
      refine wp_region_D [10, 12] (fun w' => Below wr.heap.size wr w') (by kernel_rfl) (bdr wr) (fun hHeld => ?_)
      refine WDt 0 { dst := some 24, op := .fieldAddr 44 (.tmp 5) 3, type := 0, pos := _, after := #[], guard := none } (v := ?va0) rfl (by kernel_rfl) (fun _ _ _ h => h) (Or.inl ⟨by rfl, ?hya0⟩) hHeld ?_
      case hya0 => (intro wz hSw; (try dsimp only at hSw); go_simp; try with_reducible rfl)
      (try simp only [putz])
      refine WDt 1 { dst := some 25, op := .load 42 (.tmp 24), type := 42, pos := _, after := #[{ on := 0, ground := .data }], guard := none } (v := ?va1) rfl (by kernel_rfl) (fun _ _ _ h => h) (Or.inl ⟨by rfl, ?hya1⟩) hHeld ?_
      case hya1 => (intro wz hSw; (try dsimp only at hSw); have q0 := (hSw.cell (p := ⟨ub, 3, none⟩) (by have := HSZ.out; have := HUB.out; show ub < _; omega)).trans d3; go_simp; try with_reducible rfl)
      (try simp only [putz])
      refine WDt 2 { dst := some 26, op := .move (.tmp 0), type := 51, pos := _, after := #[], guard := none } (v := ?va2) rfl (by kernel_rfl) (fun _ _ _ h => h) (Or.inl ⟨by rfl, ?hya2⟩) hHeld ?_
      case hya2 => (intro wz hSw; (try dsimp only at hSw); go_simp; try with_reducible rfl)
      (try simp only [putz])
      refine WDt 3 { dst := some 27, op := .fieldAddr 44 (.tmp 3) 3, type := 0, pos := _, after := #[], guard := none } (v := ?va3) rfl (by kernel_rfl) (fun _ _ _ h => h) (Or.inl ⟨by rfl, ?hya3⟩) hHeld ?_
      case hya3 => (intro wz hSw; (try dsimp only at hSw); go_simp; try with_reducible rfl)
      (try simp only [putz])
      refine WDt 4 { dst := some 28, op := .load 42 (.tmp 27), type := 42, pos := _, after := #[{ on := 3, ground := .data }], guard := none } (v := ?va4) rfl (by kernel_rfl) (fun _ _ _ h => h) (Or.inl ⟨by rfl, ?hya4⟩) hHeld ?_
      case hya4 => (intro wz hSw; (try dsimp only at hSw); have q0 := (hSw.cell (p := ⟨w.heap.size, 3, none⟩) (by have := HSZ.out; have := HUB.out; show w.heap.size < _; omega)).trans e3; go_simp; try with_reducible rfl)
      (try simp only [putz])
      refine WDt 5 { dst := some 29, op := .move (.tmp 6), type := 3, pos := _, after := #[], guard := none } (v := ?va5) rfl (by kernel_rfl) (fun _ _ _ h => h) (Or.inl ⟨by rfl, ?hya5⟩) hHeld ?_
      case hya5 => (intro wz hSw; (try dsimp only at hSw); go_simp; try with_reducible rfl)
      (try simp only [putz])
      refine WDt 6 { dst := some 30, op := .indexAddr 42 (.tmp 28) (.tmp 29), type := 0, pos := _, after := #[{ on := 4, ground := .data }, { on := 5, ground := .data }], guard := none } (v := ?va6) rfl (by kernel_rfl) (fun _ _ _ h => h) (Or.inl ⟨by rfl, ?hya6⟩) hHeld ?_
      case hya6 => (intro wz hSw; (try dsimp only at hSw); go_simp; try with_reducible rfl)
      (try simp only [putz])
      refine WDt 7 { dst := some 31, op := .load 44 (.tmp 30), type := 44, pos := _, after := #[{ on := 6, ground := .data }], guard := none } (v := ?va7) rfl (by kernel_rfl) (fun _ _ _ h => h) (Or.inl ⟨by rfl, ?hya7⟩) hHeld ?_
      case hya7 => (intro wz hSw; (try dsimp only at hSw); have q0 := (hSw.cell (p := ⟨b, _, none⟩) hbl).trans x0; have q1 := (hSw.cell (p := ⟨b, _, none⟩) hbl).trans x1; have q2 := (hSw.cell (p := ⟨b, _, none⟩) hbl).trans x2; have q3 := (hSw.cell (p := ⟨b, _, none⟩) hbl).trans x3; go_simp; try with_reducible rfl)
      (try simp only [putz])
      have hHs0 := hHeld.size
      refine WD_ready (rs := [8]) (by kernel_rfl) (by simp) ?_
      refine AllD.cons (o := _) rfl (fun K hK => ?_) AllD.nil
      rw [if_pos (by rfl)]
      go_simp
      refine (CALL.out _ hHeld).mono ?_; rintro e w2 ⟨A2, c2, rfl, hr2, hb2⟩
      unfold tv
      try go_wp2_with fail
      refine hK.out _ _ (bt hHeld hb2) (fun hHeld => ?_)
      clear hK K
      (try simp only [putz])
      have R2 := Lib.hid (hr2.weak (P' := (wr.heap.size ≤ ·)) (fun b _ h => Nat.le_trans hHs0 h))
      have B2 := Lib.hid hHeld
      clear hHeld hr2 hb2
      refine WD_ready (rs := [9]) (by kernel_rfl) (by simp) ?_
      refine AllD.cons (o := _) rfl (fun K hK => ?_) AllD.nil
      rw [if_pos (by rfl)]
      go_simp
      refine hK.out _ _ (bt B2.out (below_alloc w2 _)) (fun hHeld => ?_)
      clear hK K
      (try simp only [putz])
      clear hHeld
      obtain ⟨w3, hw3⟩ : ∃ z, z = w2.alloc (.cells #[.int .i64 TT2.k, .string TT2.nm, .int .i64 TT2.vr, .slice A2 TT2.args.length c2] 44) := ⟨_, rfl⟩
      rw [← hw3]
      have N3 : Hid (w3.heap[w2.heap.size]? = some (.cells #[.int .i64 TT2.k, .string TT2.nm, .int .i64 TT2.vr, .slice A2 TT2.args.length c2] 44 (0, 0))) := Lib.hid (by rw [hw3]; exact heap_alloc_new w2 _)
      have B3 := Lib.hid (show Below wr.heap.size wr w3 by rw [hw3]; exact bt B2.out (below_alloc w2 _))
      have O3 := Lib.hid (own_bl HS.out.own B3.out)
      have U3 := Lib.hid ((B3.out.block (ub) (by have := HSZ.out; have := HUB.out; omega)).trans HU.out)
      have Q3 := Lib.hid (show wr.heap.size ≤ w2.heap.size ∧ w2.heap.size < w3.heap.size ∧ wB.heap.size ≤ wr.heap.size from ⟨B2.out.size, by rw [hw3]; simp, HS.out.frm.size⟩)
      have hq3 := Q3.out
      have HW3 := Lib.hid hw3
      clear hw3
      refine WD_ready (rs := [10]) (by kernel_rfl) (by simp) ?_
      refine AllD.last (o := _) rfl (by kernel_rfl) (fun K hK => ?_) AllD.nil
      refine step_append_lies _ (by rfl) (.tmp 25) (.tmp 33) 42 rfl wB.heap.size 44 i0 (.agg #[.int .i64 0, .string .empty, .int .i64 0, .slice none 0 0]) 4 56 Tryd.underlying42 hi0 hz0 hz1 hz2 rfl (by decide) (.slice Ar k cr) k xs rfl O3.out ⟨w2.heap.size, 0, none⟩ 1 1 (kidT TT2 A2 c2) rfl rfl (World.news_of_block (cs := #[.int .i64 TT2.k, .string TT2.nm, .int .i64 TT2.vr, .slice A2 TT2.args.length c2]) (t := 44) (fr := (0, 0)) N3.out) (kid_one _ _ _) (by omega) (by unfold maxLen; omega) (by omega) (by omega) _ rfl ?_
      intro g cap w4 own4 gr4 at4 hlt4
      refine hK.out _ _ ?_
      clear hK K
      (try simp only [putz])
      have hub : (Value.slice Ar k cr).ownBlock ≠ some (ub) := fun e => by have h1 := (O3.out.lt _ e).1; have h2 := HUB.out; omega
      have U4 := Lib.hid ((gr4.block (ub) (Array.getElem?_eq_some_iff.1 U3.out).1 (fun e => hub e.symm)).trans U3.out)
      have ST5 := Lib.hid (show CpU 44 wB (w4.setCell ⟨ub, 3, none⟩ (.slice (some ⟨g, 0, none⟩) (k + 1) cap)) (ub) (.slice (some ⟨g, 0, none⟩) (k + 1) cap) (k + 1) ((args.take (k + 1)).map RF) (xs ++ kidT TT2 A2 c2) by rw [HTK.out]; rw [HW3.out] at gr4 at4; exact cpu_step HS.out B2.out R2.out _ own4 gr4 (by rcases at4 with e | e; exact .inl e.symm; right; rw [e]; rfl))
      have HU5 := Lib.hid (set_last (.slice (some ⟨g, 0, none⟩) (k + 1) cap) U4.out)
      obtain ⟨u0, u1, u2, u3⟩ := cells4 U4.out
      obtain ⟨v0, v1, v2, v3⟩ := froz4 U4.out
      clear own4 gr4 at4 hlt4
      refine WD_takeAny (i := 11) (oi := { dst := some 35, op := .fieldAddr 44 (.tmp 5) 3, type := 0, pos := _, after := #[{ on := 0, ground := .phase }, { on := 1, ground := .phase }, { on := 2, ground := .phase }, { on := 3, ground := .phase }, { on := 4, ground := .phase }, { on := 5, ground := .phase }, { on := 6, ground := .phase }, { on := 7, ground := .phase }, { on := 8, ground := .phase }, { on := 9, ground := .phase }, { on := 10, ground := .phase }], guard := none }) (v := ?va11) rfl (by kernel_rfl) (by kernel_rfl) (by kernel_rfl) (by kernel_rfl) (fun _ _ _ h => h) (Or.inl ⟨by rfl, ?hya11⟩) ?_
      case hya11 => (intro wz _; go_simp; try with_reducible rfl)
      (try simp only [putz])
      refine WD_ready (rs := [12]) (by kernel_rfl) (by simp) ?_
      refine AllD.last (o := _) rfl (by kernel_rfl) (fun K hK => ?_) AllD.nil
      rw [if_pos (by rfl)]
      go_simp
      refine hK.out _ _ ?_
      clear hK K
      (try simp only [putz])
      refine WD_done (by kernel_rfl) ?_ _
      go_wp2
      go_roundw
      case rel => exact ⟨k + 1, _, _, by omega, by go_num, ST5, HU5⟩
      case measure => simp [intOf]; omega
    · obtain rfl : k = args.length := by omega
      have hge : ¬ (args.length : Int) < (args.length : Int) := by omega
      obtain ⟨A', c', hv, hrow⟩ := cpu_fin HS.out
      injection hv with hv1 _ hv2
      subst hv1 hv2
      rw [List.take_length] at hrow
      have HROW := Lib.hid hrow
      have hrb := HRB.out
      obtain ⟨y0, y1, y2, y3⟩ := cells4 hrb
      obtain ⟨k0, k1, k2, k3⟩ := froz4 hrb
      obtain ⟨t0, t1, t2, t3⟩ := cells4 (cells_all (.int .i64 T.k) (.string T.nm) (.int .i64 T.vr) (.slice Ar args.length cr) hrb)
      have FR := Lib.hid (frm4 wr (w.heap.size + 1) (.int .i64 T.k) (.string T.nm) (.int .i64 T.vr) (.slice Ar args.length cr))
      have HBW := Lib.hid hBr
      clear hrow hBr hrb hz
      go_wp2
      (try simp only [Exit.inBlock, Exit.then])
      refine bodyPost_ret (by simp [results, Tryd.results48, go_sem, t0, t1, t2, t3]; try rfl) rfl ?_
      exact ⟨Ar, cr, (by rw [HRN.out]; unfold tv; simp [TT.k, TT.nm, TT.vr, TT.args]), (show args.map RF = (RF V).args by rw [HRN.out]; rfl) ▸ HROW.out.move (fun b hb (hp : wB.heap.size ≤ b) => ⟨FR.out.block b hb (by have := HUB.out; show ¬ b = w.heap.size + 1; omega), by have := HUB.out; omega⟩) FR.out.size, HBW.out.trans (FR.out.below (fun q hq => by have : q = w.heap.size + 1 := hq; omega) (by have := HSZ.out; have := HUB.out; omega))⟩
end Go.Proofs.YtdkfimejabanlaaDoor
namespace Go.Proofs.YtdkfimejabanlaaDoor
open DR
open Go.ChangeShapes Go.WideShapes Go.ChangeAt Go.RowKit Go.WideMaps
set_option linter.unusedVariables false
set_option linter.unusedSimpArgs false
open Classical in
set_option maxRecDepth 100000 in
set_option maxHeartbeats 2000000 in
theorem rapply {d : Nat} {V : TT} {v : Value} {w : World} {P : Nat → Prop} {sb : Nat} {St : List TT} (hbg : bigT d V = false) (hst : SInv St) (hS : RSub w P sb St) (h : TIn w any0 V v) : Calls Tryd.prog 31 #[.pointer (some ⟨sb, 0, none⟩), v] w (ApPost w (apG St V)) := by
  have hin := h
  obtain ⟨rk, hr⟩ := hst.ok
  obtain ⟨A, c, rfl, hA⟩ := h
  have CG := Lib.hid (fun W (hW : Below w.heap.size w W) => rgood_any hbg (hin.later hW))
  have HRED := Lib.hid hS
  unfold tv at CG ⊢
  obtain ⟨wB, hwB⟩ : ∃ z, z = (w.alloc (.cells #[.int .i64 V.k, .string V.nm, .int .i64 V.vr, .slice A V.args.length c] 44)).alloc (.cells #[.int .i64 0, .string ⟨#[]⟩, .int .i64 0, .slice none 0 0] 44) := ⟨_, rfl⟩
  have BX := two_box (w := w) (.cells #[.int .i64 V.k, .string V.nm, .int .i64 V.vr, .slice A V.args.length c] 44) (.cells #[.int .i64 0, .string ⟨#[]⟩, .int .i64 0, .slice none 0 0] 44)
  have BB := Lib.hid (show Below w.heap.size w wB by rw [hwB]; exact bt (below_alloc w _) (below_alloc _ _))
  have HZ := Lib.hid (show wB.heap.size = w.heap.size + 2 by rw [hwB]; simp)
  rw [← hwB] at BX
  have HX := Lib.hid BX.1
  have HY := Lib.hid BX.2
  have HWB := Lib.hid hwB
  obtain ⟨x0, x1, x2, x3⟩ := cells4 BX.1
  have HA := Lib.hid hA
  by_cases hg : goodT V = true
  · have HF := Lib.hid (fun W (hW : Below w.heap.size w W) => rall_ok (P := P) (rb := sb) hr V (good_shp hg) (tv V A c) W ⟨A, c, rfl, hA.later hW⟩ (HRED.out.later hW))
    have EQ := Lib.hid (show apG St V = apvF St V by unfold apG; rw [if_pos hg])
    rw [hg] at CG
    rw [EQ.out]
    obtain ⟨T, hT⟩ : ∃ T, T = apvF St V := ⟨_, rfl⟩
    rw [← hT] at HF ⊢
    unfold tv at HF
    clear BX hwB hg hT hr hA hin hS hst
    go_enter Tryd.func31, Tryd.ntmps31
    go_wp2_with fail
    rw [← HWB.out]
    go_wp2_with fail
    refine (CG.out _ BB.out).mono ?_; rintro e w1 ⟨rfl, hb1⟩
    have B1 := Lib.hid (bt BB.out hb1)
    have X1 := Lib.hid ((hb1.block w.heap.size (by have := HZ.out; omega)).trans HX.out)
    have Y1 := Lib.hid ((hb1.block (w.heap.size + 1) (by have := HZ.out; omega)).trans HY.out)
    have S1 := Lib.hid (show w.heap.size + 2 ≤ w1.heap.size by have := hb1.size; have := HZ.out; omega)
    obtain ⟨y0, y1, y2, y3⟩ := cells4 X1.out
    clear hb1 x0 x1 x2 x3 CG
    go_wp2_with fail
    refine (HF.out _ B1.out).mono ?_; rintro e w2 ⟨A2, c2, rfl, hr2, hb2⟩
    have B2 := Lib.hid (bt B1.out hb2)
    have R2 := Lib.hid hr2
    have Y2 := Lib.hid ((hb2.block (w.heap.size + 1) (by have := S1.out; omega)).trans Y1.out)
    clear hr2 hb2 HF y0 y1 y2 y3
    unfold tv
    obtain ⟨y0, y1, y2, y3⟩ := cells4 Y2.out
    obtain ⟨f0, f1, f2, f3⟩ := froz4 Y2.out
    obtain ⟨t0, t1, t2, t3⟩ := cells4 (cells_all (.int .i64 T.k) (.string T.nm) (.int .i64 T.vr) (.slice A2 T.args.length c2) Y2.out)
    have FR := Lib.hid (frm4 w2 (w.heap.size + 1) (.int .i64 T.k) (.string T.nm) (.int .i64 T.vr) (.slice A2 T.args.length c2))
    go_wp2
    (try simp only [Exit.inBlock, Exit.then])
    refine bodyPost_ret (by simp [results, Tryd.results31, go_sem, t0, t1, t2, t3]; try rfl) rfl ?_
    exact ⟨A2, c2, rfl, R2.out.move (P' := any0) (fun b hb (hp : w1.heap.size ≤ b) => ⟨FR.out.block b hb (by have := S1.out; show ¬ b = w.heap.size + 1; omega), trivial⟩) FR.out.size, B2.out.trans (FR.out.below (fun q hq => by have : q = w.heap.size + 1 := hq; omega) B2.out.size)⟩
  · have hg' : goodT V = false := by simpa using hg
    have EQ := Lib.hid (show apG St V = V by unfold apG; rw [if_neg hg])
    rw [hg'] at CG
    rw [EQ.out]
    clear BX hwB hg hg' hr hA hin hS hst
    go_enter Tryd.func31, Tryd.ntmps31
    go_wp2_with fail
    rw [← HWB.out]
    go_wp2_with fail
    refine (CG.out _ BB.out).mono ?_; rintro e w1 ⟨rfl, hb1⟩
    have B1 := Lib.hid (bt BB.out hb1)
    have X1 := Lib.hid ((hb1.block w.heap.size (by have := HZ.out; omega)).trans HX.out)
    have Y1 := Lib.hid ((hb1.block (w.heap.size + 1) (by have := HZ.out; omega)).trans HY.out)
    have S1 := Lib.hid (show w.heap.size + 2 ≤ w1.heap.size by have := hb1.size; have := HZ.out; omega)
    obtain ⟨z0, z1, z2, z3⟩ := cells4 X1.out
    obtain ⟨y0, y1, y2, y3⟩ := cells4 Y1.out
    obtain ⟨f0, f1, f2, f3⟩ := froz4 Y1.out
    obtain ⟨t0, t1, t2, t3⟩ := cells4 (cells_all (.int .i64 V.k) (.string V.nm) (.int .i64 V.vr) (.slice A V.args.length c) Y1.out)
    have FR := Lib.hid (frm4 w1 (w.heap.size + 1) (.int .i64 V.k) (.string V.nm) (.int .i64 V.vr) (.slice A V.args.length c))
    have RB := Lib.hid ((HA.out.weak (P' := (· < w.heap.size)) fun b hb _ => hb).later B1.out)
    clear hb1 x0 x1 x2 x3 CG
    go_wp2
    (try simp only [Exit.inBlock, Exit.then])
    refine bodyPost_ret (by simp [results, Tryd.results31, go_sem, t0, t1, t2, t3]; try rfl) rfl ?_
    exact ⟨A, c, rfl, RB.out.move (P' := any0) (fun b hb (hp : b < w.heap.size) => ⟨FR.out.block b hb (by show ¬ b = w.heap.size + 1; omega), trivial⟩) FR.out.size, B1.out.trans (FR.out.below (fun q hq => by have : q = w.heap.size + 1 := hq; omega) B1.out.size)⟩
end Go.Proofs.YtdkfimejabanlaaDoor
namespace Go.Proofs.YtdkfimejabanlaaDoor
open DR
open Go.ChangeShapes Go.WideShapes Go.ChangeAt Go.RowKit Go.WideMaps
set_option linter.unusedVariables false
set_option linter.unusedSimpArgs false
theorem occ_cong1 {St St' : List TT} (h : ∀ x, stA St' x = stA St x) {v : Int} {t : TT} (ho : Occ St v t) : Occ St' v t := by
  induction ho with
  | here h1 h2 h3 => exact .here h1 (fun hb => h2 ⟨hb.1, by rw [← h]; exact hb.2⟩) h3
  | step hb _ ih => exact .step ⟨hb.1, by rw [h]; exact hb.2⟩ (by rw [h]; exact ih)
  | arg h1 h2 _ ih => exact .arg h1 h2 ih
theorem occ_congr {St St' : List TT} (h : ∀ x, stA St' x = stA St x) : Occ St' = Occ St :=
  funext fun v => funext fun t => propext ⟨occ_cong1 (fun x => (h x).symm), occ_cong1 h⟩
theorem great_iff {St : List TT} {rk : Int → Nat} (hst : StOk St rk) : Great St ↔ ∃ x : Nat, x < 2000 ∧ 500 < fsz St (varT (x : Int)) := by
  constructor
  · rintro ⟨x, hx, h⟩
    have hl := hst.len
    refine ⟨x, by omega, ?_⟩
    unfold msz at h
    have e : (TT.mk 7 ⟨#[]⟩ (x : Int) []) = varT (x : Int) := rfl
    rw [e] at h
    omega
  · rintro ⟨x, hx, h⟩
    have hv : shp (varT (x : Int)) = true := shp_v hx
    by_cases hl : x < St.length
    · refine ⟨x, hl, ?_⟩
      unfold msz
      have e : (TT.mk 7 ⟨#[]⟩ (x : Int) []) = varT (x : Int) := rfl
      rw [e]
      omega
    · have : ¬ bnd St (varT (x : Int)) := fun e => e.2 (stA_out hl)
      rw [fsz_eq hst hv, resF_stop hst this] at h
      exact absurd h (by show ¬ 500 < 1 + sumL _ []; simp [sumL])
theorem great_congr {St St' : List TT} {rk rk' : Int → Nat} (hst : StOk St rk) (hst' : StOk St' rk') (h : ∀ x, stA St' x = stA St x) : Great St' ↔ Great St := by
  rw [great_iff hst, great_iff hst', fsz_congr h]
structure USame (u u' : US) : Prop where
  set : u'.set = u.set
  st : ∀ x, stA u'.st x = stA u.st x
theorem stand_same {u u' : US} (h : USame u u') (v : Int) (t : TT) : USame (standU u v t) (standU u' v t) := by
  refine ⟨by show u'.set ++ [v] = u.set ++ [v]; rw [h.set], fun x => ?_⟩
  show stA (bindS u'.st v.toNat t) x = stA (bindS u.st v.toNat t) x
  by_cases e : x = (v.toNat : Int)
  · subst e; rw [stA_bind, stA_bind]
  · rw [stA_bind_ne _ _ e, stA_bind_ne _ _ e, h.st]
def QSame (q q' : Int × US) : Prop := q'.1 = q.1 ∧ USame q.2 q'.2
theorem uniL_same {f : US → TT → TT → Int × US} (hf : ∀ u u' a b, USame u u' → QSame (f u a b) (f u' a b)) : ∀ (l r : List TT) (u u' : US), USame u u' → QSame (uniL f l r u) (uniL f l r u') := by
  intro l
  induction l with
  | nil => intro r u u' h; rw [uniL, uniL] <;> first | exact ⟨rfl, h⟩ | simp
  | cons a l ih =>
    intro r u u' h
    cases r with
    | nil => rw [uniL, uniL] <;> first | exact ⟨rfl, h⟩ | simp
    | cons b r =>
      have h1 := hf u u' a b h
      rw [uniL, uniL, h1.1]
      by_cases e : (f u a b).1 = 0
      · rw [if_pos e, if_pos e]; exact ih r _ _ h1.2
      · rw [if_neg e, if_neg e]; exact h1
theorem uniF_same : ∀ (d : Nat) (u u' : US) (a b : TT), USame u u' → QSame (uniF d u a b) (uniF d u' a b) := by
  intro d
  induction d with
  | zero => intro u u' a b h; exact ⟨rfl, h⟩
  | succ d ih =>
    intro u u' a b h
    rw [uniF, uniF, resF_congr h.st, fsz_congr h.st, occ_congr h.st]
    by_cases c1 : 500 < fsz u.st a ∨ 500 < fsz u.st b
    · rw [if_pos c1, if_pos c1]; exact ⟨rfl, h⟩
    rw [if_neg c1, if_neg c1]
    by_cases a7 : (resF u.st a).k = 7
    · rw [if_pos a7, if_pos a7]
      by_cases b7 : (resF u.st b).k = 7
      · rw [if_pos b7, if_pos b7]
        by_cases c2 : (resF u.st b).vr < (resF u.st a).vr
        · rw [if_pos c2, if_pos c2]; exact ⟨rfl, stand_same h _ _⟩
        rw [if_neg c2, if_neg c2]
        by_cases c3 : (resF u.st a).vr < (resF u.st b).vr
        · rw [if_pos c3, if_pos c3]; exact ⟨rfl, stand_same h _ _⟩
        · rw [if_neg c3, if_neg c3]; exact ⟨rfl, h⟩
      · rw [if_neg b7, if_neg b7]
        by_cases c2 : Occ u.st (resF u.st a).vr (resF u.st b)
        · rw [if_pos c2, if_pos c2]; exact ⟨rfl, h⟩
        · rw [if_neg c2, if_neg c2]; exact ⟨rfl, stand_same h _ _⟩
    rw [if_neg a7, if_neg a7]
    by_cases b7 : (resF u.st b).k = 7
    · rw [if_pos b7, if_pos b7]
      by_cases c2 : Occ u.st (resF u.st b).vr (resF u.st a)
      · rw [if_pos c2, if_pos c2]; exact ⟨rfl, h⟩
      · rw [if_neg c2, if_neg c2]; exact ⟨rfl, stand_same h _ _⟩
    rw [if_neg b7, if_neg b7]
    by_cases c2 : (resF u.st a).k ≠ (resF u.st b).k ∨ (resF u.st a).nm ≠ (resF u.st b).nm
    · rw [if_pos c2, if_pos c2]; exact ⟨rfl, h⟩
    · rw [if_neg c2, if_neg c2]; exact uniL_same (fun u u' a b h => ih u u' a b h) _ _ _ _ h
/-- the reference and the program say the same. -/
theorem runi_same {St R : List TT} (h : SInv2 St) (hl : R.length = 2000) (he : ∀ x, stA R x = stA St x) (a b : TT) : (runiG R a b).1 = (uniG St a b).1 ∧ ∀ x, stA (runiG R a b).2 x = stA (uniG St a b).2 x := by
  have hR : SInv R := h.inv.same (by omega) he
  unfold runiG uniG
  by_cases hg : goodT a = true ∧ goodT b = true
  case neg => rw [if_neg hg, if_neg hg]; exact ⟨rfl, he⟩
  rw [if_pos hg, if_pos hg]
  have ha := good_shp hg.1
  have hb := good_shp hg.2
  have hq : QSame (uniQ St a b) (uniQ R a b) := uniF_same _ ⟨St, []⟩ ⟨R, []⟩ a b ⟨rfl, he⟩
  have hx := uniQ_ext h.inv ha hb
  have hu := undo_same h.inv ha hb
  obtain ⟨r1, o1⟩ := hx.1.ok
  obtain ⟨r2, o2⟩ := (uniQ_ext hR ha hb).1.ok
  have hG := great_congr o1 o2 hq.2.st
  rw [hq.1]
  by_cases e0 : (uniQ St a b).1 = 0
  · rw [if_pos e0, if_pos e0]
    by_cases g : Great (uniQ St a b).2.st
    · have hs : (uniQ St a b).2.set ≠ [] := fun hs => by
        obtain ⟨x, hx2, h5⟩ := (great_iff o1).1 g
        rw [fsz_congr (fun y => hx.2.2 y (by rw [hs]; simp))] at h5
        have := h.sz x hx2
        omega
      rw [if_pos (hG.2 g), if_pos ⟨hs, g⟩]
      exact ⟨rfl, fun x => (he x).trans (hu.1 x).symm⟩
    · rw [if_neg (fun e => g (hG.1 e)), if_neg (fun e => g e.2)]
      exact ⟨rfl, hq.2.st⟩
  · rw [if_neg e0, if_neg e0]
    exact ⟨rfl, fun x => (he x).trans (hu.1 x).symm⟩
theorem apG_congr {St R : List TT} (he : ∀ x, stA R x = stA St x) : apG R = apG St := by
  funext t; unfold apG; rw [app_congr he]
end Go.Proofs.YtdkfimejabanlaaDoor
namespace Go.Proofs.YtdkfimejabanlaaDoor
open DR
open Go.ChangeShapes Go.WideShapes Go.ChangeAt Go.RowKit Go.WideMaps
set_option linter.unusedVariables false
set_option linter.unusedSimpArgs false
def zsubA : Array Value := (zarr ++ [Value.int .i64 0]).toArray
set_option maxRecDepth 100000 in
theorem infoZS : (Tryd.prog.info? RSy).map (fun i => (i.zero, i.size)) = some (some (.agg zsubA), 8001) := by kernel_rfl
theorem build_sub (W : World) : (Instr.build RSy #[]).run Tryd.prog W = .ok (.agg zsubA) W := by
  have hz := (zero_of_info infoZS).1 W
  have hu := Tryd.underlying54
  have h2 := (zero_of_info infoZA).2
  have h3 : (Tryd.prog.info? 3).map (·.size) = some 1 := by kernel_rfl
  cases hq : Tryd.prog.info? RAy with
  | none => simp [hq] at h2
  | some i =>
    cases hq3 : Tryd.prog.info? 3 with
    | none => simp [hq3] at h3
    | some i3 =>
      simp [Instr.build, hz, Value.cells, run_underlying hu, Instr.fill, sizeOf, typeInfo, hq, hq3]
theorem kids_zero {w : World} {P : Nat → Prop} : ∀ n : Nat, KidsT w P (List.replicate n zeroT) (List.replicate n z4).flatten
  | 0 => rfl
  | n + 1 => by
    rw [List.replicate_succ, List.replicate_succ, List.flatten_cons]
    exact ⟨none, 0, _, rfl, .inl rfl, kids_zero n⟩
theorem rsub_new {w : World} {P : Nat → Prop} {rb : Nat} (h : w.heap[rb]? = some (.cells zsubA RSy (0, 0))) : RSub w P rb (List.replicate 2000 zeroT) :=
  ⟨zarr, h, kids_zero 2000, List.length_replicate⟩
theorem stA_zeros (n : Nat) (x : Int) : stA (List.replicate n zeroT) x = stA [] x := by
  rw [stA_get, stA_get]
  split
  · rw [List.getElem?_replicate]
    split <;> rfl
  · rfl
theorem wp_build_lit {P : Program} {o : Oper} {a : Act} {w : World} {K : Act → World → Prop} {Q : Exit → Act → World → Prop} {t : TypeId} {v : Value} (ho : o.op = Op.build t #[]) (h : (Instr.build t #[]).run P w = .ok v w) (hK : K (a.put o.dst v) w) : o.wp P a w K Q := by
  unfold Oper.wp
  simp [execOp, ho, h, Result.andThen]
  exact hK
theorem wp_box_lit {P : Program} {o : Oper} {a : Act} {w : World} {K : Act → World → Prop} {Q : Exit → Act → World → Prop} {t : TypeId} {x : Operand} {z : Array Value} (ho : o.op = Op.box t x) (hx : a.eval x = .agg z) (hK : K (a.put o.dst (.pointer (some ⟨w.heap.size, 0, none⟩))) (w.alloc (.cells z t))) : o.wp P a w K Q := by
  unfold Oper.wp
  simp [execOp, ho, hx, Instr.box, Result.andThen, newVar, newRow, Value.cells]
  exact hK
theorem rsame_true {d : Nat} {V : TT} {v u : Value} {w : World} (hb : bigT d V = false) (h : TIn w any0 V v) (h2 : TIn w any0 V u) : Calls Tryd.prog 26 #[v, u] w fun e w' => e = .returned (.bool true) ∧ Below w.heap.size w w' := by
  refine (rsame_gen d V V v u w hb hb h h2).mono ?_
  rintro e w' ⟨⟨b, rfl, hs⟩, hw⟩
  have : b = true := hs.2 rfl
  subst this
  exact ⟨rfl, hw⟩
-- WALK
theorem bel_cell {B : Nat} {w w' : World} (h : Below B w w') {b i : Nat} {v : Value} (hb : b < B) (hc : w.cell? ⟨b, i, none⟩ = some v) : w'.cell? ⟨b, i, none⟩ = some v := (World.cell?_of_block (h.block b hb)).trans hc
set_option maxRecDepth 100000 in
set_option maxHeartbeats 16000000 in
theorem unifies_walk {l : List TT} {A : Option Addr} {c : Nat} {ak : TT} {vk : Value} {w : World} (hAw : ∀ W, Calls Tryd.prog 10 #[] W fun e W' => e = .returned (.bool true) ∧ Below W.heap.size W W') (hl : TRow w any0 A l) (hk : TIn w any0 ak vk) :
    Calls Tryd.prog 5 #[.slice A l.length c, vk] w fun e w' => e = .returned (.bool true) ∧ Below w.heap.size w w' := by
  have HAW := Lib.hid hAw
  have HL := Lib.hid hl
  have HIK := Lib.hid hk
  obtain ⟨Ak, ck, rfl, hAk⟩ := hk
  have CSK := Lib.hid (fun W (hW : Below w.heap.size w W) => small_any 7 ak _ 64 W most64 (HIK.out.later hW))
  obtain ⟨wB, hwB⟩ : ∃ z, z = w.alloc (.cells #[.int .i64 ak.k, .string ak.nm, .int .i64 ak.vr, .slice Ak ak.args.length ck] 27) := ⟨_, rfl⟩
  have HB := Lib.hid (show Below w.heap.size w wB by rw [hwB]; exact below_alloc w _)
  have HZ := Lib.hid (show wB.heap.size = w.heap.size + 1 by rw [hwB]; simp)
  have HX := Lib.hid (show wB.heap[w.heap.size]? = some (.cells #[.int .i64 ak.k, .string ak.nm, .int .i64 ak.vr, .slice Ak ak.args.length ck] 27 (0, 0)) by rw [hwB]; exact heap_alloc_new w _)
  have HWB := Lib.hid hwB
  have KK := Lib.hid (fun W (hW : Below wB.heap.size wB W) => cells4 ((hW.block w.heap.size (by rw [HZ.out]; omega)).trans HX.out))
  unfold tv at CSK HIK ⊢
  clear hwB hAw hl hAk
  by_cases h30 : 30 < l.length
  · have d30 : decide ((30 : Int) < (l.length : Int)) = true := decide_eq_true (by omega)
    have i30 : (30 : Int) < (l.length : Int) := by omega
    clear h30
    as_aux_lemma =>
    go_enter Tryd.func5, Tryd.ntmps5
    go_wp2_with fail
    try rw [← HWB.out]
    try go_wp2_with fail
    refine (HAW.out _).mono ?_; rintro e w1 ⟨rfl, b1⟩
    have B1 := Lib.hid b1
    clear b1
    go_wp2
    go_ret
    exact ⟨rfl, bt HB.out B1.out⟩
  have d30 : decide ((30 : Int) < (l.length : Int)) = false := decide_eq_false (by omega)
  have i30 : ¬ (30 : Int) < (l.length : Int) := by omega
  have hl30 : l.length ≤ 30 := by omega
  clear h30
  cases hbk : bigT 7 ak with
  | true =>
    rw [hbk] at CSK
    as_aux_lemma =>
    go_enter Tryd.func5, Tryd.ntmps5
    go_wp2_with fail
    try rw [← HWB.out]
    try go_wp2_with fail
    refine (HAW.out _).mono ?_; rintro e w1 ⟨rfl, b1⟩
    have B1 := Lib.hid b1
    clear b1
    obtain ⟨x0, x1, x2, x3⟩ := KK.out _ B1.out
    go_wp2_with fail
    refine (CSK.out _ (bt HB.out B1.out)).mono ?_; rintro e w2 ⟨rfl, b2⟩
    have B2 := Lib.hid (bt B1.out b2)
    clear b2 x0 x1 x2 x3
    go_wp2
    go_ret
    exact ⟨rfl, bt HB.out B2.out⟩
  | false =>
  rw [hbk] at CSK
  have HBK := Lib.hid hbk
  clear hbk
  go_enter Tryd.func5, Tryd.ntmps5
  go_wp2_with fail
  try rw [← HWB.out]
  try go_wp2_with fail
  refine (HAW.out _).mono ?_; rintro e w1 ⟨rfl, b1⟩
  have B1 := Lib.hid b1
  clear b1
  obtain ⟨x0, x1, x2, x3⟩ := KK.out _ B1.out
  go_wp2_with fail
  refine (CSK.out _ (bt HB.out B1.out)).mono ?_; rintro e w2 ⟨rfl, b2⟩
  have B2 := Lib.hid (bt B1.out b2)
  clear b2 x0 x1 x2 x3 CSK HAW
  have BLD := build_sub
  go_upto_region 5 with (fail)
  refine wp_region_lit ?_
  refine wpList_step (fun K hK => ?_)
  rw [if_pos (by rfl)]
  go_simp
  refine (news_any (Pr := fun _ => False) (fun _ h => h) _).mono ?_; rintro e w3 ⟨rfl, s3, b3⟩
  (try go_simp)
  refine hK _ _ ?_
  clear hK K
  (try simp only [putz])
  obtain ⟨sb, hsb⟩ : ∃ z, z = w2.heap.size := ⟨_, rfl⟩
  rw [← hsb] at s3 ⊢
  have S3 := Lib.hid s3
  have B3 := Lib.hid (bt B2.out b3)
  have L3 := Lib.hid (show sb < w3.heap.size by obtain ⟨_, _, _, h, _⟩ := s3; exact h.slt)
  have HSB := Lib.hid (show wB.heap.size ≤ sb by rw [hsb]; exact B2.out.size)
  clear s3 b3 hsb B2
  refine wpList_step (fun K hK => ?_)
  rw [if_pos (by rfl)]
  refine wp_build_lit rfl (BLD _) ?_
  refine hK _ _ ?_
  clear hK K
  (try simp only [putz])
  refine wpList_step (fun K hK => ?_)
  rw [if_pos (by rfl)]
  refine wp_box_lit rfl rfl ?_
  refine hK _ _ ?_
  clear hK K
  (try simp only [putz])
  refine wpList_step (fun K hK => ?_)
  rw [if_pos (by rfl)]
  go_simp
  refine hK _ _ ?_
  clear hK K
  (try simp only [putz])
  refine wpList_step (fun K hK => ?_)
  rw [if_pos (by rfl)]
  go_simp
  refine hK _ _ ?_
  clear hK K
  (try simp only [putz])
  obtain ⟨rb, hrb⟩ : ∃ z, z = w3.heap.size := ⟨_, rfl⟩
  obtain ⟨w4, hw4⟩ : ∃ z, z = w3.alloc (.cells zsubA RSy) := ⟨_, rfl⟩
  try rw [← hw4]
  try rw [← hrb]
  have B4 := Lib.hid (show Below wB.heap.size wB w4 by rw [hw4]; exact bt B3.out (below_alloc _ _))
  have L4 := Lib.hid (show sb < rb ∧ rb < w4.heap.size by rw [hrb, hw4]; exact ⟨L3.out, by simp⟩)
  have R4 := Lib.hid (show RSub w4 (fun b => b = rb ∧ b ≠ rb) rb (List.replicate 2000 zeroT) from rsub_new (by rw [hw4, hrb]; exact heap_alloc_new w3 _))
  have S4 := Lib.hid (show SubS w4 (fun b => b = rb) sb sb 0 [] by
    rw [hw4]
    exact S3.out.swap (Frm.of_below (below_alloc w3 _) (Nat.le_refl _) _) (fun b e => by subst e; exact ⟨by rw [hrb]; simp, .inr (by rw [hrb]; exact Nat.le_refl _)⟩))
  clear hw4 hrb BLD S3 L3 B3
  go_wp2
  go_loopw [7] (fun i wr => ∃ (j : Nat) (St R : List TT) (Pr : Nat → Prop), j ≤ 32 ∧ i = .int .i64 j ∧ Hid (SubS wr Pr sb sb 0 St) ∧ Hid (RSub wr (fun b => Pr b ∧ b ≠ rb) rb R) ∧ Hid (Pr rb) ∧ Hid (SInv2 St) ∧ Hid (∀ x, stA R x = stA St x) ∧ Hid (Below sb w4 wr)) (fun i _ => 32 - (intOf i).toNat)
  case atStart => exact ⟨0, [], _, _, by omega, by first | rfl | trivial, S4, R4, Lib.hid rfl, Lib.hid sinv2_nil, Lib.hid (stA_zeros 2000), Lib.hid (Below.refl _ _)⟩
  case round =>
    obtain ⟨j, St, R, Pr, hj, rfl, HT, HR, HPR, HI, HCG, HW4⟩ := hrel
    have HZR := Lib.hid (show sb ≤ wr.heap.size ∧ rb < wr.heap.size by have := HW4.out.size; have := L4.out; omega)
    have HWB4 := Lib.hid (show Below wB.heap.size wB wr from B4.out.trans (HW4.out.mono HSB.out))
    have HWR := Lib.hid (show Below w.heap.size w wr from bt HB.out HWB4.out)
    have HSW := Lib.hid (show w.heap.size ≤ sb ∧ w.heap.size < sb by have := HZ.out; have := HSB.out; omega)
    by_cases hjl : j + 1 < l.length
    · have hjli : (j : Int) + 1 < (l.length : Int) := by omega
      have hj0 : j < l.length := by omega
      have hj0i : (j : Int) < (l.length : Int) := by omega
      obtain ⟨b, o, rfl, hb, hr⟩ := HL.out.at (by omega)
      obtain ⟨Aa, ca, p0, p1, p2, p3, hin1⟩ := hr wr HWR.out j hj0
      obtain ⟨Ab, cb, q0, q1, q2, q3, hin2⟩ := hr wr HWR.out (j + 1) hjl
      obtain ⟨_, _, _, _, _, _, hin1w⟩ := hr w (Below.refl _ _) j hj0
      clear hin1w
      obtain ⟨V, hV⟩ : ∃ V, V = l[j] := ⟨_, rfl⟩
      obtain ⟨U, hU⟩ : ∃ V, V = l[j + 1] := ⟨_, rfl⟩
      rw [← hV] at p0 p1 p2 p3 hin1
      rw [← hU] at q0 q1 q2 q3 hin2
      have I0 := Lib.hid (show ∀ W, Below w.heap.size w W → TIn W any0 V (tv V Aa ca) ∧ TIn W any0 U (tv U Ab cb) by
        intro W hW
        obtain ⟨A1, c1, y0, y1, y2, y3, h1⟩ := hr W hW j hj0
        obtain ⟨A2, c2, z0, z1, z2, z3, h2⟩ := hr W hW (j + 1) hjl
        rw [← hV] at y3 h1
        rw [← hU] at z3 h2
        have e1 := y3.symm.trans ((hW.cell (p := ⟨b, _, none⟩) hb).trans ((HWR.out.cell (p := ⟨b, _, none⟩) hb).symm.trans p3))
        have e2 := z3.symm.trans ((hW.cell (p := ⟨b, _, none⟩) hb).trans ((HWR.out.cell (p := ⟨b, _, none⟩) hb).symm.trans q3))
        injection e1 with e1; injection e1 with e1 _ e1'
        injection e2 with e2; injection e2 with e2 _ e2'
        subst e1 e1' e2 e2'
        exact ⟨h1, h2⟩)
      have CS := Lib.hid (fun W (hW : Below wr.heap.size wr W) => small_any 7 V _ 64 W most64 (hin1.later hW))
      have CS2 := Lib.hid (fun W (hW : Below wr.heap.size wr W) => small_any 7 U _ 64 W most64 (hin2.later hW))
      have HBL := Lib.hid (show b < wr.heap.size from Nat.lt_of_lt_of_le hb HWR.out.size)
      have HBS := Lib.hid (show b < sb by have := HSW.out; omega)
      unfold tv at CS CS2
      clear hr hb hV hU hin1 hin2
      cases hbg : bigT 7 V with
      | true =>
        rw [hbg] at CS
        as_aux_lemma =>
        clear hbg CS2
        go_wp2_with fail
        refine (CS.out _ (Below.refl _ _)).mono ?_; rintro e w5 ⟨rfl, b5⟩
        have B5 := Lib.hid (bt HWR.out b5)
        clear b5 CS p0 p1 p2 p3 q0 q1 q2 q3
        go_wp2
        go_ret
        exact ⟨rfl, B5.out⟩
      | false =>
      rw [hbg] at CS
      cases hbg2 : bigT 7 U with
      | true =>
        rw [hbg2] at CS2
        as_aux_lemma =>
        clear hbg hbg2
        have WJ : IntKind.i64.wrap ((j : Int) + 1) = (j : Int) + 1 := IntWalk.i64_in _ (by omega)
        go_wp2_with fail
        refine (CS.out _ (Below.refl _ _)).mono ?_; rintro e w5 ⟨rfl, b5⟩
        have B5 := Lib.hid b5
        have q0 := (b5.cell (p := ⟨b, _, none⟩) HBL.out).trans q0
        have q1 := (b5.cell (p := ⟨b, _, none⟩) HBL.out).trans q1
        have q2 := (b5.cell (p := ⟨b, _, none⟩) HBL.out).trans q2
        have q3 := (b5.cell (p := ⟨b, _, none⟩) HBL.out).trans q3
        clear b5 CS p0 p1 p2 p3
        go_wp2_with fail
        refine (CS2.out _ B5.out).mono ?_; rintro e w6 ⟨rfl, b6⟩
        have B6 := Lib.hid (bt HWR.out (bt B5.out b6))
        clear b6 CS2 q0 q1 q2 q3
        go_wp2
        go_ret
        exact ⟨rfl, B6.out⟩
      | false =>
      rw [hbg2] at CS2
      have WJ := Lib.hid (show IntKind.i64.wrap ((j : Int) + 1) = (j : Int) + 1 from IntWalk.i64_in _ (by omega))
      have hj1 : (0 : Int) ≤ (j : Int) + 1 := by omega
      have BGV := Lib.hid hbg
      have BGU := Lib.hid hbg2
      have HI2 := Lib.hid (show SInv2 (uniG St V U).2 from uniG_inv2 HI.out ⟨7, hbg⟩ ⟨7, hbg2⟩)
      have HRN := Lib.hid (show SInv R by
        have hrl : R.length = 2000 := by obtain ⟨_, _, _, h⟩ := HR.out; exact h
        exact HI.out.inv.same (by omega) HCG.out)
      have HSM := Lib.hid (show (runiG R V U).1 = (uniG St V U).1 ∧ ∀ x, stA (runiG R V U).2 x = stA (uniG St V U).2 x by
        have hrl : R.length = 2000 := by obtain ⟨_, _, _, h⟩ := HR.out; exact h
        exact runi_same HI.out hrl HCG.out V U)
      clear hbg hbg2
      go_wp2_with fail
      refine (CS.out _ (Below.refl _ _)).mono ?_; rintro e w5 ⟨rfl, b5⟩
      have B5 := Lib.hid b5
      have q0' := (b5.cell (p := ⟨b, _, none⟩) HBL.out).trans q0
      have q1' := (b5.cell (p := ⟨b, _, none⟩) HBL.out).trans q1
      have q2' := (b5.cell (p := ⟨b, _, none⟩) HBL.out).trans q2
      have q3' := (b5.cell (p := ⟨b, _, none⟩) HBL.out).trans q3
      have P0 := Lib.hid p0; have P1 := Lib.hid p1; have P2 := Lib.hid p2; have P3 := Lib.hid p3
      have Q0 := Lib.hid q0; have Q1 := Lib.hid q1; have Q2 := Lib.hid q2; have Q3 := Lib.hid q3
      clear b5 CS p0 p1 p2 p3 q0 q1 q2 q3
      go_wp2_with fail
      refine (CS2.out _ B5.out).mono ?_; rintro e w6 ⟨rfl, b6⟩
      have B6 := Lib.hid (bt B5.out b6)
      clear b6 CS2 q0' q1' q2' q3' B5
      have HZ6 := Lib.hid (show sb ≤ w6.heap.size by have := B6.out.size; have := HZR.out; omega)
      have UN := Lib.hid (unifyS (w := w6.drew) HI.out.inv (HT.out.later (bt B6.out (bdr w6))) (show sb ≤ w6.drew.heap.size from HZ6.out) BGV.out BGU.out (I0.out _ (bt HWR.out (bt B6.out (bdr w6)))).1 (I0.out _ (bt HWR.out (bt B6.out (bdr w6)))).2)
      have R6 := Lib.hid (show RSub w6.drew (fun b => Pr b ∧ b ≠ rb) rb R from HR.out.later (bt B6.out (bdr w6)))
      obtain ⟨⟨er, St2⟩, hq⟩ : ∃ q, q = uniG St V U := ⟨_, rfl⟩
      obtain ⟨⟨er2, R2⟩, hq2⟩ : ∃ q, q = runiG R V U := ⟨_, rfl⟩
      rw [← hq] at UN HI2 HSM
      rw [← hq2] at HSM
      have HQ2 := Lib.hid hq2
      obtain rfl : er2 = er := HSM.out.1
      have HCG2 := Lib.hid (show ∀ x, stA R2 x = stA St2 x from HSM.out.2)
      unfold tv at UN
      clear hq hq2
      have HWW := Lib.hid (fun W (hW : Below sb w6 W) => (show Below w.heap.size w W from (bt HWR.out B6.out).trans (hW.mono HSW.out.1)))
      have CLV := Lib.hid (show ∀ W, Below sb w6 W → W.cell? ⟨b, o + j * 4, none⟩ = some (.int .i64 V.k) ∧ W.cell? ⟨b, o + j * 4 + 1, none⟩ = some (.string V.nm) ∧ W.cell? ⟨b, o + j * 4 + 2, none⟩ = some (.int .i64 V.vr) ∧ W.cell? ⟨b, o + j * 4 + 3, none⟩ = some (.slice Aa V.args.length ca) from fun W hW => ⟨bel_cell hW HBS.out ((B6.out.cell (p := ⟨b, _, none⟩) HBL.out).trans P0.out), bel_cell hW HBS.out ((B6.out.cell (p := ⟨b, _, none⟩) HBL.out).trans P1.out), bel_cell hW HBS.out ((B6.out.cell (p := ⟨b, _, none⟩) HBL.out).trans P2.out), bel_cell hW HBS.out ((B6.out.cell (p := ⟨b, _, none⟩) HBL.out).trans P3.out)⟩)
      have CLU := Lib.hid (show ∀ W, Below sb w6 W → W.cell? ⟨b, o + (j + 1) * 4, none⟩ = some (.int .i64 U.k) ∧ W.cell? ⟨b, o + (j + 1) * 4 + 1, none⟩ = some (.string U.nm) ∧ W.cell? ⟨b, o + (j + 1) * 4 + 2, none⟩ = some (.int .i64 U.vr) ∧ W.cell? ⟨b, o + (j + 1) * 4 + 3, none⟩ = some (.slice Ab U.args.length cb) from fun W hW => ⟨bel_cell hW HBS.out ((B6.out.cell (p := ⟨b, _, none⟩) HBL.out).trans Q0.out), bel_cell hW HBS.out ((B6.out.cell (p := ⟨b, _, none⟩) HBL.out).trans Q1.out), bel_cell hW HBS.out ((B6.out.cell (p := ⟨b, _, none⟩) HBL.out).trans Q2.out), bel_cell hW HBS.out ((B6.out.cell (p := ⟨b, _, none⟩) HBL.out).trans Q3.out)⟩)
      clear P0 P1 P2 P3 Q0 Q1 Q2 Q3
      go_wp2_with fail
      refine wp_region_D [] (fun w' => Below sb w6 w') (by kernel_rfl) ((bdr w6).mono HZ6.out) (fun hHeld => ?_)
      refine WDt 0 { dst := some 43, op := .move (.tmp 5), type := 23, pos := _, after := #[], guard := none } (v := ?va0) rfl (by kernel_rfl) (fun _ _ _ h => h) (Or.inl ⟨by rfl, ?hya0⟩) hHeld ?_
      case hya0 => (intro wz hSw; (try dsimp only at hSw); go_simp; try with_reducible rfl)
      (try simp only [putz])
      refine WDt 1 { dst := some 44, op := .move (.tmp 0), type := 25, pos := _, after := #[], guard := none } (v := ?va1) rfl (by kernel_rfl) (fun _ _ _ h => h) (Or.inl ⟨by rfl, ?hya1⟩) hHeld ?_
      case hya1 => (intro wz hSw; (try dsimp only at hSw); go_simp; try with_reducible rfl)
      (try simp only [putz])
      refine WDt 2 { dst := some 45, op := .move (.tmp 7), type := 3, pos := _, after := #[], guard := none } (v := ?va2) rfl (by kernel_rfl) (fun _ _ _ h => h) (Or.inl ⟨by rfl, ?hya2⟩) hHeld ?_
      case hya2 => (intro wz hSw; (try dsimp only at hSw); go_simp; try with_reducible rfl)
      (try simp only [putz])
      refine WDt 3 { dst := some 46, op := .indexAddr 25 (.tmp 44) (.tmp 45), type := 0, pos := _, after := #[{ on := 1, ground := .data }, { on := 2, ground := .data }], guard := none } (v := ?va3) rfl (by kernel_rfl) (fun _ _ _ h => h) (Or.inl ⟨by rfl, ?hya3⟩) hHeld ?_
      case hya3 => (intro wz hSw; (try dsimp only at hSw); go_simp; try with_reducible rfl)
      (try simp only [putz])
      refine WDt 4 { dst := some 47, op := .load 27 (.tmp 46), type := 27, pos := _, after := #[{ on := 3, ground := .data }], guard := none } (v := ?va4) rfl (by kernel_rfl) (fun _ _ _ h => h) (Or.inl ⟨by rfl, ?hya4⟩) hHeld ?_
      case hya4 => (intro wz hSw; (try dsimp only at hSw); obtain ⟨z0, z1, z2, z3⟩ := CLV.out _ hSw; go_simp; try with_reducible rfl)
      (try simp only [putz])
      refine WDt 5 { dst := some 48, op := .move (.tmp 0), type := 25, pos := _, after := #[], guard := none } (v := ?va5) rfl (by kernel_rfl) (fun _ _ _ h => h) (Or.inl ⟨by rfl, ?hya5⟩) hHeld ?_
      case hya5 => (intro wz hSw; (try dsimp only at hSw); have wj := WJ.out; go_simp; try with_reducible rfl)
      (try simp only [putz])
      refine WDt 6 { dst := some 49, op := .move (.tmp 7), type := 3, pos := _, after := #[], guard := none } (v := ?va6) rfl (by kernel_rfl) (fun _ _ _ h => h) (Or.inl ⟨by rfl, ?hya6⟩) hHeld ?_
      case hya6 => (intro wz hSw; (try dsimp only at hSw); have wj := WJ.out; go_simp; try with_reducible rfl)
      (try simp only [putz])
      refine WDt 7 { dst := some 50, op := .binOp .add 3 (.tmp 49) (.const (.int .i64 1)) 3, type := 3, pos := _, after := #[{ on := 6, ground := .data }], guard := none } (v := ?va7) rfl (by kernel_rfl) (fun _ _ _ h => h) (Or.inl ⟨by rfl, ?hya7⟩) hHeld ?_
      case hya7 => (intro wz hSw; (try dsimp only at hSw); have wj := WJ.out; go_simp; try with_reducible rfl)
      (try simp only [putz])
      refine WDt 8 { dst := some 51, op := .indexAddr 25 (.tmp 48) (.tmp 50), type := 0, pos := _, after := #[{ on := 5, ground := .data }, { on := 7, ground := .data }], guard := none } (v := ?va8) rfl (by kernel_rfl) (fun _ _ _ h => h) (Or.inl ⟨by rfl, ?hya8⟩) hHeld ?_
      case hya8 => (intro wz hSw; (try dsimp only at hSw); have wj := WJ.out; go_simp; try with_reducible rfl)
      (try simp only [putz])
      refine WDt 9 { dst := some 52, op := .load 27 (.tmp 51), type := 27, pos := _, after := #[{ on := 8, ground := .data }], guard := none } (v := ?va9) rfl (by kernel_rfl) (fun _ _ _ h => h) (Or.inl ⟨by rfl, ?hya9⟩) hHeld ?_
      case hya9 => (intro wz hSw; (try dsimp only at hSw); obtain ⟨z0, z1, z2, z3⟩ := CLU.out _ hSw; go_simp; try with_reducible rfl)
      (try simp only [putz])
      refine WDt 11 { dst := some 54, op := .move (.tmp 6), type := 51, pos := _, after := #[], guard := none } (v := ?va11) rfl (by kernel_rfl) (fun _ _ _ h => h) (Or.inl ⟨by rfl, ?hya11⟩) hHeld ?_
      case hya11 => (intro wz hSw; (try dsimp only at hSw); go_simp; try with_reducible rfl)
      (try simp only [putz])
      refine WDt 12 { dst := some 55, op := .move (.tmp 0), type := 25, pos := _, after := #[], guard := none } (v := ?va12) rfl (by kernel_rfl) (fun _ _ _ h => h) (Or.inl ⟨by rfl, ?hya12⟩) hHeld ?_
      case hya12 => (intro wz hSw; (try dsimp only at hSw); go_simp; try with_reducible rfl)
      (try simp only [putz])
      refine WDt 13 { dst := some 56, op := .move (.tmp 7), type := 3, pos := _, after := #[], guard := none } (v := ?va13) rfl (by kernel_rfl) (fun _ _ _ h => h) (Or.inl ⟨by rfl, ?hya13⟩) hHeld ?_
      case hya13 => (intro wz hSw; (try dsimp only at hSw); go_simp; try with_reducible rfl)
      (try simp only [putz])
      refine WDt 14 { dst := some 57, op := .indexAddr 25 (.tmp 55) (.tmp 56), type := 0, pos := _, after := #[{ on := 12, ground := .data }, { on := 13, ground := .data }], guard := none } (v := ?va14) rfl (by kernel_rfl) (fun _ _ _ h => h) (Or.inl ⟨by rfl, ?hya14⟩) hHeld ?_
      case hya14 => (intro wz hSw; (try dsimp only at hSw); go_simp; try with_reducible rfl)
      (try simp only [putz])
      refine WDt 15 { dst := some 58, op := .load 27 (.tmp 57), type := 27, pos := _, after := #[{ on := 14, ground := .data }], guard := none } (v := ?va15) rfl (by kernel_rfl) (fun _ _ _ h => h) (Or.inl ⟨by rfl, ?hya15⟩) hHeld ?_
      case hya15 => (intro wz hSw; (try dsimp only at hSw); obtain ⟨z0, z1, z2, z3⟩ := CLV.out _ hSw; go_simp; try with_reducible rfl)
      (try simp only [putz])
      refine WDt 17 { dst := some 60, op := .move (.tmp 0), type := 25, pos := _, after := #[], guard := none } (v := ?va17) rfl (by kernel_rfl) (fun _ _ _ h => h) (Or.inl ⟨by rfl, ?hya17⟩) hHeld ?_
      case hya17 => (intro wz hSw; (try dsimp only at hSw); have wj := WJ.out; go_simp; try with_reducible rfl)
      (try simp only [putz])
      refine WDt 18 { dst := some 61, op := .move (.tmp 7), type := 3, pos := _, after := #[], guard := none } (v := ?va18) rfl (by kernel_rfl) (fun _ _ _ h => h) (Or.inl ⟨by rfl, ?hya18⟩) hHeld ?_
      case hya18 => (intro wz hSw; (try dsimp only at hSw); have wj := WJ.out; go_simp; try with_reducible rfl)
      (try simp only [putz])
      refine WDt 19 { dst := some 62, op := .binOp .add 3 (.tmp 61) (.const (.int .i64 1)) 3, type := 3, pos := _, after := #[{ on := 18, ground := .data }], guard := none } (v := ?va19) rfl (by kernel_rfl) (fun _ _ _ h => h) (Or.inl ⟨by rfl, ?hya19⟩) hHeld ?_
      case hya19 => (intro wz hSw; (try dsimp only at hSw); have wj := WJ.out; go_simp; try with_reducible rfl)
      (try simp only [putz])
      refine WDt 20 { dst := some 63, op := .indexAddr 25 (.tmp 60) (.tmp 62), type := 0, pos := _, after := #[{ on := 17, ground := .data }, { on := 19, ground := .data }], guard := none } (v := ?va20) rfl (by kernel_rfl) (fun _ _ _ h => h) (Or.inl ⟨by rfl, ?hya20⟩) hHeld ?_
      case hya20 => (intro wz hSw; (try dsimp only at hSw); have wj := WJ.out; go_simp; try with_reducible rfl)
      (try simp only [putz])
      refine WDt 21 { dst := some 64, op := .load 27 (.tmp 63), type := 27, pos := _, after := #[{ on := 20, ground := .data }], guard := none } (v := ?va21) rfl (by kernel_rfl) (fun _ _ _ h => h) (Or.inl ⟨by rfl, ?hya21⟩) hHeld ?_
      case hya21 => (intro wz hSw; (try dsimp only at hSw); obtain ⟨z0, z1, z2, z3⟩ := CLU.out _ hSw; go_simp; try with_reducible rfl)
      (try simp only [putz])
      refine WD_ready (rs := [10]) (by kernel_rfl) (by simp) ?_
      refine AllD.cons (o := _) rfl (fun K hK => ?_) AllD.nil
      rw [if_pos (by rfl)]
      go_simp
      refine UN.out.mono ?_; rintro e w7 ⟨rfl, s7, f7⟩
      try go_wp2_with fail
      refine hK.out _ _ (((bdr w6).mono HZ6.out).trans (f7.below (fun q hq => hq.1) HZ6.out)) (fun hHeld => ?_)
      clear hK K
      (try simp only [putz])
      have S7 := Lib.hid s7
      have R7 := Lib.hid (show RSub w7 (fun b => Pr b ∧ b ≠ rb) rb R from R6.out.moveP (f7.block rb R6.out.lt (fun e => e.2 HPR.out)) (fun q hq hp => ⟨f7.block q hq (fun e => e.2 hp.1), hp⟩) f7.size)
      have Z7 := Lib.hid (show sb ≤ w7.heap.size from Nat.le_trans HZ6.out f7.size)
      clear s7 f7 UN R6
      refine WD_ready (rs := [16]) (by kernel_rfl) (by simp) ?_
      refine AllD.cons (o := _) rfl (fun K hK => ?_) AllD.nil
      rw [if_pos (by rfl)]
      go_simp
      refine (ty1_any 7 V (tv V Aa ca) _ BGV.out (I0.out _ (HWW.out _ hHeld)).1).mono ?_; rintro e w8 ⟨A8, c8, rfl, r8, b8⟩
      unfold tv
      try go_wp2_with fail
      refine hK.out _ _ (hHeld.trans (b8.mono Z7.out)) (fun hHeld => ?_)
      clear hK K
      (try simp only [putz])
      have B8 := Lib.hid b8
      have T8 := Lib.hid r8
      clear r8 b8
      refine WD_ready (rs := [22]) (by kernel_rfl) (by simp) ?_
      refine AllD.cons (o := _) rfl (fun K hK => ?_) AllD.nil
      rw [if_pos (by rfl)]
      go_simp
      refine (ty1_any 7 U (tv U Ab cb) _ BGU.out (I0.out _ (HWW.out _ hHeld)).2).mono ?_; rintro e w9 ⟨A9, c9, rfl, r9, b9⟩
      unfold tv
      try go_wp2_with fail
      refine hK.out _ _ (hHeld.trans (b9.mono (Nat.le_trans Z7.out B8.out.size))) (fun hHeld => ?_)
      clear hK K
      (try simp only [putz])
      have B9 := Lib.hid b9
      have T9 := Lib.hid r9
      clear r9 b9
      have RU := Lib.hid (runify (P := fun q => (Pr q ∨ w7.heap.size ≤ q) ∧ q ≠ rb) (d := 7) (rb := rb) (a := V) (b := U) (w := w9) (fun _ h => h.2) HRN.out ((R7.out.later (bt B8.out B9.out)).moveP rfl (fun q _ hp => ⟨rfl, .inl hp.1, hp.2⟩) (Nat.le_refl _)) BGV.out BGU.out ⟨A8, c8, rfl, (T8.out.later B9.out).weak (fun q _ (hq : w7.heap.size ≤ q) => ⟨.inr hq, by have := R7.out.lt; omega⟩)⟩ ⟨A9, c9, rfl, T9.out.weak (fun q _ (hq : w8.heap.size ≤ q) => ⟨.inr (Nat.le_trans B8.out.size hq), by have := R7.out.lt; have := B8.out.size; omega⟩)⟩)
      rw [← HQ2.out] at RU
      unfold tv at RU
      refine WD_ready (rs := [23]) (by kernel_rfl) (by simp) ?_
      refine AllD.cons (o := _) rfl (fun K hK => ?_) AllD.nil
      rw [if_pos (by rfl)]
      go_simp
      refine RU.out.mono ?_; rintro e wE ⟨rfl, r10, f10⟩
      try go_wp2_with fail
      refine hK.out _ _ (hHeld.trans (f10.below (fun q (hq : q = rb) => by have := L4.out; omega) (Nat.le_trans Z7.out (Nat.le_trans B8.out.size B9.out.size)))) (fun hHeld => ?_)
      clear hK K
      (try simp only [putz])
      have R10 := Lib.hid r10
      have F10 := Lib.hid f10
      clear r10 f10 RU
      refine WDt 24 { dst := some 67, op := .binOp .neq 29 (.tmp 53) (.tmp 66) 29, type := 4, pos := _, after := #[{ on := 10, ground := .data }, { on := 23, ground := .data }], guard := none } (v := ?va24) rfl (by kernel_rfl) (fun _ _ _ h => h) (Or.inl ⟨by rfl, ?hya24⟩) hHeld ?_
      case hya24 => (intro wz hSw; (try dsimp only at hSw); go_simp; try with_reducible rfl)
      (try simp only [putz])
      have H10 := Lib.hid hHeld
      clear hHeld
      refine WD_done (by kernel_rfl) ?_ _
      have FPR := Lib.hid (show Frm w7 wE Pr from (Frm.of_below (bt B8.out B9.out) (Nat.le_refl _) Pr).trans (F10.out.mono (fun q _ (hq : q = rb) => by rw [hq]; exact HPR.out)))
      have S10 := Lib.hid (show SubS wE (fun q => q < wE.heap.size ∧ (Pr q ∨ w7.heap.size ≤ q)) sb sb 0 St2 from S7.out.swap FPR.out (fun q h => h))
      have R11 := Lib.hid (show RSub wE (fun q => (q < wE.heap.size ∧ (Pr q ∨ w7.heap.size ≤ q)) ∧ q ≠ rb) rb R2 from R10.out.moveP rfl (fun q hq hp => ⟨rfl, ⟨hq, hp.1⟩, hp.2⟩) (Nat.le_refl _))
      have HPR2 := Lib.hid (show rb < wE.heap.size ∧ (Pr rb ∨ w7.heap.size ≤ rb) from ⟨R10.out.lt, .inl HPR.out⟩)
      obtain ⟨Pr2, hPr2⟩ : ∃ P : Nat → Prop, P = fun q => q < wE.heap.size ∧ (Pr q ∨ w7.heap.size ≤ q) := ⟨_, rfl⟩
      rw [← hPr2] at S10
      have R12 := Lib.hid (show RSub wE (fun q => Pr2 q ∧ q ≠ rb) rb R2 by rw [hPr2]; exact R11.out)
      have HPR3 := Lib.hid (show Pr2 rb by rw [hPr2]; exact HPR2.out)
      have BWE := Lib.hid (HWW.out _ H10.out)
      have BE4 := Lib.hid (show Below sb w4 wE from HW4.out.trans ((B6.out.mono HZR.out.1).trans H10.out))
      have BBE := Lib.hid (show Below wB.heap.size wB wE from B4.out.trans (BE4.out.mono HSB.out))
      clear hPr2 FPR R10 R11 HPR2 S7 R7 B8 T8 B9 T9 F10 H10 HWW CLV CLU B6 HZ6 HSM HQ2 I0 HT HR HI HCG HRN
      have HSR := Lib.hid (show SInv R2 by
        have hrl : R2.length = 2000 := by obtain ⟨_, _, _, h⟩ := R12.out; exact h
        exact HI2.out.inv.same (by omega) HCG2.out)
      have HAG := Lib.hid (show apG R2 ak = apG St2 ak by rw [apG_congr HCG2.out])
      have GK := Lib.hid (fun W (hW : Below wE.heap.size wE W) => good_any (d := 7) (Nat.le_refl 7) HBK.out (HIK.out.later (bt BWE.out hW)))
      have KE := Lib.hid (fun W (hW : Below wE.heap.size wE W) => KK.out W (bt BBE.out hW))
      cases hg : goodT ak with
      | true =>
        rw [hg] at GK
        have HBT := Lib.hid (show bigT 507 (apG St2 ak) = false by unfold apG; rw [if_pos hg]; exact big_app HI2.out 7 ak HBK.out (good_shp hg))
        have AP := Lib.hid (fun W (hW : Below wE.heap.size wE W) => applyS (Nat.le_refl 7) HBK.out HI2.out.inv (S10.out.later hW) (HIK.out.later (bt BWE.out hW)))
        have TK := Lib.hid (fun W (hW : Below wE.heap.size wE W) => ty1_any 7 ak _ W HBK.out (HIK.out.later (bt BWE.out hW)))
        have RA := Lib.hid (fun W v (hW : Below wE.heap.size wE W) (h : TIn W any0 ak v) => rapply HBK.out HSR.out (R12.out.later hW) h)
        rw [HAG.out] at RA
        obtain ⟨T, hT⟩ : ∃ T, T = apG St2 ak := ⟨_, rfl⟩
        rw [← hT] at HBT AP RA
        clear hg hT
        as_aux_lemma =>
        go_wp2_with fail
        refine wp_region_D [] (fun w' => Below wE.heap.size wE w') (by kernel_rfl) (bdr wE) (fun hHeld => ?_)
        refine WDt 0 { dst := some 68, op := .load 27 (.tmp 3), type := 27, pos := _, after := #[], guard := none } (v := ?vb0) rfl (by kernel_rfl) (fun _ _ _ h => h) (Or.inl ⟨by rfl, ?hyb0⟩) hHeld ?_
        case hyb0 => (intro wz hSw; (try dsimp only at hSw); obtain ⟨z0, z1, z2, z3⟩ := KE.out _ hSw; go_simp; try with_reducible rfl)
        (try simp only [putz])
        refine WD_ready (rs := [1]) (by kernel_rfl) (by simp) ?_
        refine AllD.cons (o := _) rfl (fun K hK => ?_) AllD.nil
        rw [if_pos (by rfl)]
        go_simp
        refine (GK.out _ hHeld).mono ?_; rintro e wa ⟨rfl, ba⟩
        try go_wp2_with fail
        refine hK.out _ _ (bt hHeld ba) (fun hHeld => ?_)
        clear hK K
        (try simp only [putz])
        clear ba
        refine WDt 2 { dst := some 70, op := .move (.tmp 69), type := 4, pos := _, after := #[{ on := 1, ground := .data }, { on := 1, ground := .chain }], guard := none } (v := ?vb2) rfl (by kernel_rfl) (fun _ _ _ h => h) (Or.inl ⟨by rfl, ?hyb2⟩) hHeld ?_
        case hyb2 => (intro wz hSw; (try dsimp only at hSw); go_simp; try with_reducible rfl)
        (try simp only [putz])
        refine WDt 3 { dst := some 71, op := .move (.tmp 5), type := 23, pos := _, after := #[{ on := 2, ground := .guard }], guard := some (2, true) } (v := ?vb3) rfl (by kernel_rfl) (fun _ _ _ h => h) (Or.inl ⟨by rfl, ?hyb3⟩) hHeld ?_
        case hyb3 => (intro wz hSw; (try dsimp only at hSw); go_simp; try with_reducible rfl)
        (try simp only [putz])
        refine WDt 4 { dst := some 72, op := .load 27 (.tmp 3), type := 27, pos := _, after := #[{ on := 2, ground := .guard }], guard := some (2, true) } (v := ?vb4) rfl (by kernel_rfl) (fun _ _ _ h => h) (Or.inl ⟨by rfl, ?hyb4⟩) hHeld ?_
        case hyb4 => (intro wz hSw; (try dsimp only at hSw); obtain ⟨z0, z1, z2, z3⟩ := KE.out _ hSw; go_simp; try with_reducible rfl)
        (try simp only [putz])
        refine WDt 7 { dst := some 75, op := .move (.tmp 6), type := 51, pos := _, after := #[{ on := 2, ground := .guard }], guard := some (2, true) } (v := ?vb7) rfl (by kernel_rfl) (fun _ _ _ h => h) (Or.inl ⟨by rfl, ?hyb7⟩) hHeld ?_
        case hyb7 => (intro wz hSw; (try dsimp only at hSw); go_simp; try with_reducible rfl)
        (try simp only [putz])
        refine WDt 8 { dst := some 76, op := .load 27 (.tmp 3), type := 27, pos := _, after := #[{ on := 2, ground := .guard }], guard := some (2, true) } (v := ?vb8) rfl (by kernel_rfl) (fun _ _ _ h => h) (Or.inl ⟨by rfl, ?hyb8⟩) hHeld ?_
        case hyb8 => (intro wz hSw; (try dsimp only at hSw); obtain ⟨z0, z1, z2, z3⟩ := KE.out _ hSw; go_simp; try with_reducible rfl)
        (try simp only [putz])
        refine WD_ready (rs := [5]) (by kernel_rfl) (by simp) ?_
        refine AllD.cons (o := _) rfl (fun K hK => ?_) AllD.nil
        rw [if_pos (by rfl)]
        go_simp
        refine (AP.out _ hHeld).mono ?_; rintro e wb ⟨A5, c5, rfl, r5, bb⟩
        unfold tv
        try go_wp2_with fail
        refine hK.out _ _ (bt hHeld bb) (fun hHeld => ?_)
        clear hK K
        (try simp only [putz])
        have R5 := Lib.hid r5
        clear r5 bb
        refine WD_ready (rs := [6]) (by kernel_rfl) (by simp) ?_
        refine AllD.cons (o := _) rfl (fun K hK => ?_) AllD.nil
        rw [if_pos (by rfl)]
        go_simp
        refine (ty1_any 507 T (tv T A5 c5) _ HBT.out ⟨A5, c5, rfl, R5.out⟩).mono ?_; rintro e wc ⟨A6, c6, rfl, r6, bc⟩
        unfold tv
        try go_wp2_with fail
        refine hK.out _ _ (bt hHeld bc) (fun hHeld => ?_)
        clear hK K
        (try simp only [putz])
        have R6 := Lib.hid (r6.weak (P' := any0) (fun _ _ _ => trivial))
        clear r6 bc
        refine WD_ready (rs := [9]) (by kernel_rfl) (by simp) ?_
        refine AllD.cons (o := _) rfl (fun K hK => ?_) AllD.nil
        rw [if_pos (by rfl)]
        go_simp
        refine (TK.out _ hHeld).mono ?_; rintro e wd ⟨A9, c9, rfl, r9, bd⟩
        unfold tv
        try go_wp2_with fail
        refine hK.out _ _ (bt hHeld bd) (fun hHeld => ?_)
        clear hK K
        (try simp only [putz])
        have R9 := Lib.hid (r9.weak (P' := any0) (fun _ _ _ => trivial))
        have R6d := Lib.hid (R6.out.later bd)
        clear r9 bd
        refine WD_ready (rs := [10]) (by kernel_rfl) (by simp) ?_
        refine AllD.cons (o := _) rfl (fun K hK => ?_) AllD.nil
        rw [if_pos (by rfl)]
        go_simp
        refine (RA.out _ (tv ak A9 c9) hHeld ⟨A9, c9, rfl, R9.out⟩).mono ?_; rintro e we ⟨Ae, ce, rfl, re, be⟩
        unfold tv
        try go_wp2_with fail
        refine hK.out _ _ (bt hHeld be) (fun hHeld => ?_)
        clear hK K
        (try simp only [putz])
        have Re := Lib.hid re
        have R6e := Lib.hid (R6d.out.later be)
        clear re be
        refine WD_ready (rs := [11]) (by kernel_rfl) (by simp) ?_
        refine AllD.cons (o := _) rfl (fun K hK => ?_) AllD.nil
        rw [if_pos (by rfl)]
        go_simp
        refine (rsame_true (V := T) (v := tv T A6 c6) (u := tv T Ae ce) HBT.out ⟨A6, c6, rfl, R6e.out⟩ ⟨Ae, ce, rfl, Re.out⟩).mono ?_; rintro e wf ⟨rfl, bf⟩
        try go_wp2_with fail
        refine hK.out _ _ (bt hHeld bf) (fun hHeld => ?_)
        clear hK K
        (try simp only [putz])
        clear bf
        refine WDt 12 { dst := some 80, op := .unOp .not 4 (.tmp 79), type := 4, pos := _, after := #[{ on := 11, ground := .data }, { on := 2, ground := .guard }], guard := some (2, true) } (v := ?vb12) rfl (by kernel_rfl) (fun _ _ _ h => h) (Or.inl ⟨by rfl, ?hyb12⟩) hHeld ?_
        case hyb12 => (intro wz hSw; (try dsimp only at hSw); go_simp; try with_reducible rfl)
        (try simp only [putz])
        refine WDt 13 { dst := some 81, op := .pick (.tmp 70) (.tmp 80) (.const (.bool false)), type := 4, pos := _, after := #[{ on := 2, ground := .data }, { on := 12, ground := .data }], guard := none } (v := ?vb13) rfl (by kernel_rfl) (fun _ _ _ h => h) (Or.inl ⟨by rfl, ?hyb13⟩) hHeld ?_
        case hyb13 => (intro wz hSw; (try dsimp only at hSw); go_simp; try with_reducible rfl)
        (try simp only [putz])
        have BF := Lib.hid hHeld
        clear hHeld
        refine WD_done (by kernel_rfl) ?_ _
        have SF := Lib.hid (S10.out.later BF.out)
        have RF := Lib.hid (R12.out.later BF.out)
        have B4F := Lib.hid (BE4.out.trans (BF.out.mono (by have := BE4.out.size; have := L4.out; omega)))
        go_wp2
        go_roundw
        case rel => exact ⟨j + 2, St2, R2, Pr2, by omega, by go_num, SF, RF, HPR3, HI2, HCG2, B4F⟩
        case measure => simp [intOf]; omega
      | false =>
        rw [hg] at GK
        clear hg
        as_aux_lemma =>
        go_wp2_with fail
        refine wp_region_D [] (fun w' => Below wE.heap.size wE w') (by kernel_rfl) (bdr wE) (fun hHeld => ?_)
        refine WDt 0 { dst := some 68, op := .load 27 (.tmp 3), type := 27, pos := _, after := #[], guard := none } (v := ?vc0) rfl (by kernel_rfl) (fun _ _ _ h => h) (Or.inl ⟨by rfl, ?hyc0⟩) hHeld ?_
        case hyc0 => (intro wz hSw; (try dsimp only at hSw); obtain ⟨z0, z1, z2, z3⟩ := KE.out _ hSw; go_simp; try with_reducible rfl)
        (try simp only [putz])
        refine WD_ready (rs := [1]) (by kernel_rfl) (by simp) ?_
        refine AllD.cons (o := _) rfl (fun K hK => ?_) AllD.nil
        rw [if_pos (by rfl)]
        go_simp
        refine (GK.out _ hHeld).mono ?_; rintro e wa ⟨rfl, ba⟩
        try go_wp2_with fail
        refine hK.out _ _ (bt hHeld ba) (fun hHeld => ?_)
        clear hK K
        (try simp only [putz])
        clear ba
        refine WDt 2 { dst := some 70, op := .move (.tmp 69), type := 4, pos := _, after := #[{ on := 1, ground := .data }, { on := 1, ground := .chain }], guard := none } (v := ?vc2) rfl (by kernel_rfl) (fun _ _ _ h => h) (Or.inl ⟨by rfl, ?hyc2⟩) hHeld ?_
        case hyc2 => (intro wz hSw; (try dsimp only at hSw); go_simp; try with_reducible rfl)
        (try simp only [putz])
        refine WDt 3 { dst := some 71, op := .move (.tmp 5), type := 23, pos := _, after := #[{ on := 2, ground := .guard }], guard := some (2, true) } (v := undef) rfl (by kernel_rfl) (fun _ _ _ h => h) (Or.inr ⟨by rfl, rfl⟩) hHeld ?_
        (try simp only [putz])
        refine WDt 4 { dst := some 72, op := .load 27 (.tmp 3), type := 27, pos := _, after := #[{ on := 2, ground := .guard }], guard := some (2, true) } (v := undef) rfl (by kernel_rfl) (fun _ _ _ h => h) (Or.inr ⟨by rfl, rfl⟩) hHeld ?_
        (try simp only [putz])
        refine WDt 7 { dst := some 75, op := .move (.tmp 6), type := 51, pos := _, after := #[{ on := 2, ground := .guard }], guard := some (2, true) } (v := undef) rfl (by kernel_rfl) (fun _ _ _ h => h) (Or.inr ⟨by rfl, rfl⟩) hHeld ?_
        (try simp only [putz])
        refine WDt 8 { dst := some 76, op := .load 27 (.tmp 3), type := 27, pos := _, after := #[{ on := 2, ground := .guard }], guard := some (2, true) } (v := undef) rfl (by kernel_rfl) (fun _ _ _ h => h) (Or.inr ⟨by rfl, rfl⟩) hHeld ?_
        (try simp only [putz])
        refine WD_ready (rs := [5]) (by kernel_rfl) (by simp) ?_
        refine AllD.cons (o := { dst := some 73, op := .call { callee := .value (.func 15), args := #[.tmp 71, .tmp 72], argTypes := #[23, 27] }, type := 27, pos := _, after := #[{ on := 3, ground := .data }, { on := 4, ground := .data }, { on := 2, ground := .chain }, { on := 2, ground := .guard }], guard := some (2, true) }) rfl (fun K hK => ?_) AllD.nil
        rw [if_neg (fun h => nomatch h)]
        refine hK.out _ _ hHeld (fun hHeld => ?_)
        clear hK K
        (try simp only [putz])
        refine WD_ready (rs := [6]) (by kernel_rfl) (by simp) ?_
        refine AllD.cons (o := { dst := some 74, op := .call { callee := .value (.func 24), args := #[.tmp 73], argTypes := #[27] }, type := 44, pos := _, after := #[{ on := 5, ground := .data }, { on := 5, ground := .chain }, { on := 2, ground := .guard }], guard := some (2, true) }) rfl (fun K hK => ?_) AllD.nil
        rw [if_neg (fun h => nomatch h)]
        refine hK.out _ _ hHeld (fun hHeld => ?_)
        clear hK K
        (try simp only [putz])
        refine WD_ready (rs := [9]) (by kernel_rfl) (by simp) ?_
        refine AllD.cons (o := { dst := some 77, op := .call { callee := .value (.func 24), args := #[.tmp 76], argTypes := #[27] }, type := 44, pos := _, after := #[{ on := 8, ground := .data }, { on := 6, ground := .chain }, { on := 2, ground := .guard }], guard := some (2, true) }) rfl (fun K hK => ?_) AllD.nil
        rw [if_neg (fun h => nomatch h)]
        refine hK.out _ _ hHeld (fun hHeld => ?_)
        clear hK K
        (try simp only [putz])
        refine WD_ready (rs := [10]) (by kernel_rfl) (by simp) ?_
        refine AllD.cons (o := { dst := some 78, op := .call { callee := .value (.func 31), args := #[.tmp 75, .tmp 77], argTypes := #[51, 44] }, type := 44, pos := _, after := #[{ on := 7, ground := .data }, { on := 9, ground := .data }, { on := 9, ground := .chain }, { on := 2, ground := .guard }], guard := some (2, true) }) rfl (fun K hK => ?_) AllD.nil
        rw [if_neg (fun h => nomatch h)]
        refine hK.out _ _ hHeld (fun hHeld => ?_)
        clear hK K
        (try simp only [putz])
        refine WD_ready (rs := [11]) (by kernel_rfl) (by simp) ?_
        refine AllD.cons (o := { dst := some 79, op := .call { callee := .value (.func 26), args := #[.tmp 74, .tmp 78], argTypes := #[44, 44] }, type := 4, pos := _, after := #[{ on := 6, ground := .data }, { on := 10, ground := .data }, { on := 10, ground := .chain }, { on := 2, ground := .guard }], guard := some (2, true) }) rfl (fun K hK => ?_) AllD.nil
        rw [if_neg (fun h => nomatch h)]
        refine hK.out _ _ hHeld (fun hHeld => ?_)
        clear hK K
        (try simp only [putz])
        refine WDt 12 { dst := some 80, op := .unOp .not 4 (.tmp 79), type := 4, pos := _, after := #[{ on := 11, ground := .data }, { on := 2, ground := .guard }], guard := some (2, true) } (v := undef) rfl (by kernel_rfl) (fun _ _ _ h => h) (Or.inr ⟨by rfl, rfl⟩) hHeld ?_
        (try simp only [putz])
        refine WDt 13 { dst := some 81, op := .pick (.tmp 70) (.tmp 80) (.const (.bool false)), type := 4, pos := _, after := #[{ on := 2, ground := .data }, { on := 12, ground := .data }], guard := none } (v := ?vc13) rfl (by kernel_rfl) (fun _ _ _ h => h) (Or.inl ⟨by rfl, ?hyc13⟩) hHeld ?_
        case hyc13 => (intro wz hSw; (try dsimp only at hSw); go_simp; try with_reducible rfl)
        (try simp only [putz])
        have BF := Lib.hid hHeld
        clear hHeld
        refine WD_done (by kernel_rfl) ?_ _
        have SF := Lib.hid (S10.out.later BF.out)
        have RF := Lib.hid (R12.out.later BF.out)
        have B4F := Lib.hid (BE4.out.trans (BF.out.mono (by have := BE4.out.size; have := L4.out; omega)))
        go_wp2
        go_roundw
        case rel => exact ⟨j + 2, St2, R2, Pr2, by omega, by go_num, SF, RF, HPR3, HI2, HCG2, B4F⟩
        case measure => simp [intOf]; omega
    · have hjli : ¬ (j : Int) + 1 < (l.length : Int) := by omega
      go_wp2
      go_ret
      exact ⟨rfl, HWR.out⟩
end Go.Proofs.YtdkfimejabanlaaDoor
