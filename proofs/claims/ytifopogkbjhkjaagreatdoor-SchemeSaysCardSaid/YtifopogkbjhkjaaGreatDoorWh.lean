import Derived.Test.YtifopogkbjhkjaaGreatDoorWg
namespace Go.Proofs.YtifopogkbjhkjaaGreatDoor
open DR
open Go.ChangeShapes Go.WideShapes Go.ChangeAt Go.RowKit Go.WideMaps
set_option linter.unusedVariables false
set_option linter.unusedSimpArgs false
variable {nx : Int}
/-- the place of a number in a row. -/
def posI : List Int → Int → Nat
  | [], _ => 0
  | a :: l, x => if a = x then 0 else posI l x + 1
theorem posI_at : ∀ {l : List Int} {k : Nat} (h : k < l.length), l[k] ∉ l.take k → posI l l[k] = k
  | a :: l, 0, h, _ => by simp [posI]
  | a :: l, k + 1, h, hn => by
    have hk : k < l.length := by simpa using h
    have e : (a :: l)[k + 1] = l[k] := rfl
    rw [e] at hn ⊢
    rw [List.take_succ_cons, List.mem_cons, not_or] at hn
    rw [posI, if_neg (fun e => hn.1 e.symm), posI_at hk hn.2]
/-- what the variables of a scheme are put for. -/
def gF (all : List Int) (n : Int) : Int → Option Int := fun x => if x ∈ all then some (n + (posI all x : Nat)) else none
def tosF (n : Int) (N : Nat) : List TT := (List.range N).map (fun i : Nat => varT (n + (i : Nat)))
theorem tosF_len (n : Int) (N : Nat) : (tosF n N).length = N := by unfold tosF; simp
theorem tosF_at (n : Int) (N k : Nat) (h : k < (tosF n N).length) : (tosF n N)[k] = varT (n + k) := by
  have e : (tosF n N)[k]? = some (varT (n + k)) := by
    unfold tosF; rw [List.getElem?_map, List.getElem?_range (by rw [tosF_len] at h; exact h)]; rfl
  rw [List.getElem?_eq_getElem h] at e
  exact Option.some.inj e
theorem put_res {tm : Array Value} {W : World} {R : Nat} {v0 v1 v2 v3 : Value} (h : tm[6]? = some (.pointer (some ⟨R, 0, none⟩))) (t0 : W.cell? ⟨R, 0, none⟩ = some v0) (t1 : W.cell? ⟨R, 1, none⟩ = some v1) (t2 : W.cell? ⟨R, 2, none⟩ = some v2) (t3 : W.cell? ⟨R, 3, none⟩ = some v3) :
    (results Tryz.f42 tm).run Tryz.prog W = .ok (.agg #[v0, v1, v2, v3]) W := by
  simp [results, Tryz.results42, go_sem, h, t0, t1, t2, t3]
set_option maxRecDepth 100000 in
set_option maxHeartbeats 16000000 in
theorem put_any {all : List Int} {n : Int} {Al At : Option Addr} {ca ct : Nat} (hal : all.length ≤ 1000) : ∀ (d : Nat) (V : TT) (v : Value) (w : World), bigT d V = false → shp V = true → TIn w any0 V v → IRow w Al all → TRow w any0 At (tosF n all.length) → Calls Tryz.prog 42 #[v, .slice Al all.length ca, .slice At all.length ct] w (CpPost w (renT (gF all n) V)) := by
  intro d
  induction d with
  | zero => intro V v w h; cases h
  | succ d ih =>
  intro V v w hbg hsh ⟨A, c, hv, hA⟩ hra hrt
  obtain ⟨i0, hi0, hz0, hz1, hz2⟩ := info_parts infoR
  obtain ⟨hl4, -, b3⟩ := bigT_parts hbg
  subst hv
  obtain ⟨N, hN⟩ : ∃ N, N = all.length := ⟨_, rfl⟩
  have HN := Lib.hid hN
  have HAL := Lib.hid hra
  rw [← hN] at hal ih hrt ⊢
  clear hN
  have HTO := Lib.hid hrt
  by_cases h7 : V.k = 7
  · have q7 : (V.k == 7) = true := by rw [h7]; rfl
    obtain ⟨hva, hvn⟩ := shp_var hsh h7
    have HVE := Lib.hid (show V = varT V.vr from by rw [TT.eta V, h7, hvn, hva]; rfl)
    have HYES := Lib.hid (fun (k : Nat) (hk : k < all.length) (hn : all[k] ∉ all.take k) (e : all[k] = V.vr) => (show renT (gF all n) V = varT (n + k) by
      refine renT_var h7 ?_
      unfold gF
      rw [← e, if_pos (List.getElem_mem hk), posI_at hk hn]))
    have HNO := Lib.hid (fun (hn : V.vr ∉ all) => (show renT (gF all n) V = V by
      rw [renT_not (fun e => by have := e.2; unfold gF at this; rw [if_neg hn] at this; cases this), hva]
      rw [List.map_nil, ← hva]; exact (TT.eta V).symm))
    have hlen0 : V.args.length = 0 := by rw [hva]; rfl
    obtain ⟨F0, hF0⟩ : ∃ z, z = renT (gF all n) V := ⟨_, rfl⟩
    rw [← hF0]
    rw [← hF0] at HYES HNO
    unfold tv
    rw [hlen0]
    clear ih hbg b3 hA hra hrt h7 hva hvn hF0 hsh
    as_aux_lemma =>
    obtain ⟨wB, hwB⟩ : ∃ z, z = (w.alloc (.cells #[.int .i64 V.k, .string V.nm, .int .i64 V.vr, .slice A 0 c] 36)).alloc (.cells #[.int .i64 0, .string ⟨#[]⟩, .int .i64 0, .slice none 0 0] 36) := ⟨_, rfl⟩
    have HB : Hid (Below w.heap.size w wB) := Lib.hid (by rw [hwB]; exact bt (below_alloc w _) (below_alloc _ _))
    have HZ := Lib.hid (show wB.heap.size = w.heap.size + 2 by rw [hwB]; simp)
    have BX := two_box (w := w) (.cells #[.int .i64 V.k, .string V.nm, .int .i64 V.vr, .slice A 0 c] 36) (.cells #[.int .i64 0, .string ⟨#[]⟩, .int .i64 0, .slice none 0 0] 36)
    rw [← hwB] at BX
    have HX := Lib.hid BX.1
    have HY := Lib.hid BX.2
    have HWB := Lib.hid hwB
    obtain ⟨x0, x1, x2, x3⟩ := cells4 BX.1
    clear hwB BX
    go_enter Tryz.func42, Tryz.ntmps42
    go_wp2_with fail
    try rw [← HWB.out]
    try go_wp2
    go_loopw [7] (fun i wr => ∃ k : Nat, k ≤ N ∧ i = .int .i64 k ∧ Hid (V.vr ∉ all.take k) ∧ Hid (Below wB.heap.size wB wr)) (fun i _ => N - (intOf i).toNat)
    case atStart => exact ⟨0, by omega, by first | rfl | trivial, Lib.hid (by simp), Lib.hid (Below.refl _ _)⟩
    case round =>
      obtain ⟨k, hk, rfl, HT, HW⟩ := hrel
      have XB := Lib.hid ((HW.out.block w.heap.size (by have := HZ.out; omega)).trans HX.out)
      have YB := Lib.hid ((HW.out.block (w.heap.size + 1) (by have := HZ.out; omega)).trans HY.out)
      have SZ := Lib.hid (show w.heap.size + 2 ≤ wr.heap.size by have := HW.out.size; have := HZ.out; omega)
      have BW := Lib.hid (bt HB.out HW.out)
      clear x0 x1 x2 x3
      obtain ⟨x0, x1, x2, x3⟩ := cells4 XB.out
      by_cases hlt : k < N
      · have hlti : (k : Int) < (N : Int) := by omega
        have hlt' : k < all.length := by rw [← HN.out]; exact hlt
        obtain ⟨b, o, rfl, hb, hr⟩ : ∃ b o, Al = some ⟨b, o, none⟩ ∧ b < wr.heap.size ∧ ∀ j (h : j < all.length), wr.cell? ⟨b, o + j, none⟩ = some (.int .i64 all[j]) := (HAL.out.later BW.out).resolve_left (by rw [← HN.out]; omega)
        have y0 := hr k hlt'
        have HBL := Lib.hid hb
        by_cases hx : all[k]'hlt' = V.vr
        · have RES := Lib.hid (HYES.out k hlt' (by rw [hx]; exact HT.out) hx)
          have qx : (V.vr == V.vr) = true := beq_self_eq_true _
          rw [hx] at y0
          have hkt : k < (tosF n N).length := by rw [tosF_len]; exact hlt
          obtain ⟨bt', ot, hAt, hbt, hrt⟩ := (HTO.out.later BW.out).at (by omega)
          subst hAt
          obtain ⟨A', c', e0, e1, e2, e3, -⟩ := hrt wr (Below.refl _ _) k hkt
          rw [tosF_at] at e0 e1 e2 e3
          replace e0 : wr.cell? ⟨bt', ot + k * 4, none⟩ = some (.int .i64 7) := e0
          replace e1 : wr.cell? ⟨bt', ot + k * 4 + 1, none⟩ = some (.string ⟨#[]⟩) := e1
          replace e2 : wr.cell? ⟨bt', ot + k * 4 + 2, none⟩ = some (.int .i64 (n + k)) := e2
          replace e3 : wr.cell? ⟨bt', ot + k * 4 + 3, none⟩ = some (.slice A' 0 c') := e3
          have HBT := Lib.hid hbt
          have FR := Lib.hid (frm4 wr (w.heap.size + 1) (.int .i64 7) (.string ⟨#[]⟩) (.int .i64 (n + k)) (.slice A' 0 c'))
          obtain ⟨f0, f1, f2, f3⟩ := froz4 YB.out
          obtain ⟨z0, z1, z2, z3⟩ := cells4 YB.out
          obtain ⟨t0, t1, t2, t3⟩ := cells4 (cells_all (.int .i64 7) (.string ⟨#[]⟩) (.int .i64 (n + k)) (.slice A' 0 c') YB.out)
          have BF := Lib.hid (show ∀ w', w' = ((((wr.setCell ⟨w.heap.size + 1, 0, none⟩ (.int .i64 7)).setCell ⟨w.heap.size + 1, 1, none⟩ (.string ⟨#[]⟩)).setCell ⟨w.heap.size + 1, 2, none⟩ (.int .i64 (n + k))).setCell ⟨w.heap.size + 1, 3, none⟩ (.slice A' 0 c')) → Below w.heap.size w w'.drew ∧ Below w.heap.size w w' by
            rintro w' rfl
            have := BW.out.trans (FR.out.below (fun q hq => by have : q = w.heap.size + 1 := hq; omega) (by have := SZ.out; omega))
            exact ⟨this.drew, this⟩)
          clear hr hb hx hrt hbt hkt hlt' FR
          go_wp2_with fail
          refine wp_region_D [] (fun w' => Below wr.heap.size wr w') (by kernel_rfl) (bdr wr) (fun hHeld => ?_)
          refine WDs 0 ⟨some 19, .move (.tmp 1), 26, _, #[], none⟩ ?vb0 ?hyb0 hHeld ?_
          case hyb0 => (intro wz hSw; (try dsimp only at hSw); go_simp; try with_reducible rfl)
          (try simp only [putz])
          refine WDs 1 ⟨some 20, .move (.tmp 7), 3, _, #[], none⟩ ?vb1 ?hyb1 hHeld ?_
          case hyb1 => (intro wz hSw; (try dsimp only at hSw); go_simp; try with_reducible rfl)
          (try simp only [putz])
          refine WDs 2 ⟨some 21, .indexAddr 26 (.tmp 19) (.tmp 20), 0, _, #[⟨0, .data⟩, ⟨1, .data⟩], none⟩ ?vb2 ?hyb2 hHeld ?_
          case hyb2 => (intro wz hSw; (try dsimp only at hSw); go_simp; try with_reducible rfl)
          (try simp only [putz])
          refine WDs 3 ⟨some 22, .load 3 (.tmp 21), 3, _, #[⟨2, .data⟩], none⟩ ?vb3 ?hyb3 hHeld ?_
          case hyb3 => (intro wz hSw; (try dsimp only at hSw); have q0 := (hSw.cell (p := ⟨b, _, none⟩) HBL.out).trans y0; go_simp; try with_reducible rfl)
          (try simp only [putz])
          refine WDs 4 ⟨some 23, .fieldAddr 36 (.tmp 3) 2, 0, _, #[], none⟩ ?vb4 ?hyb4 hHeld ?_
          case hyb4 => (intro wz hSw; (try dsimp only at hSw); go_simp; try with_reducible rfl)
          (try simp only [putz])
          refine WDs 5 ⟨some 24, .load 3 (.tmp 23), 3, _, #[⟨4, .data⟩], none⟩ ?vb5 ?hyb5 hHeld ?_
          case hyb5 => (intro wz hSw; (try dsimp only at hSw); obtain ⟨z0, z1, z2, z3⟩ := cells4 ((hSw.block w.heap.size (by have := SZ.out; omega)).trans XB.out); go_simp; try with_reducible rfl)
          (try simp only [putz])
          refine WDs 6 ⟨some 25, .binOp .eql 3 (.tmp 22) (.tmp 24) 3, 4, _, #[⟨3, .data⟩, ⟨5, .data⟩], none⟩ ?vb6 ?hyb6 hHeld ?_
          case hyb6 => (intro wz hSw; (try dsimp only at hSw); go_simp; try with_reducible rfl)
          (try simp only [putz])
          refine WD_done (by kernel_rfl) ?_ _
          clear hHeld
          go_wp2
          (try simp only [Exit.inBlock, Exit.then])
          refine bodyPost_ret (by simp [results, Tryz.results42, go_sem, t0, t1, t2, t3]; try rfl) rfl ?_
          rw [RES.out]
          exact ⟨A', c', rfl, .inl rfl, by first | exact (BF.out _ rfl).1 | exact (BF.out _ rfl).2⟩
        · have qx : (all[k]'hlt' == V.vr) = false := beq_eq_false_iff_ne.2 hx
          have HT2 := Lib.hid (notin_take hlt' HT.out hx)
          obtain ⟨y, hy⟩ : ∃ y, all[k]'hlt' = y := ⟨_, rfl⟩
          rw [hy] at y0 qx
          clear hr hb hx hy hlt'
          go_wp2_with fail
          refine wp_region_D [] (fun w' => Below wr.heap.size wr w') (by kernel_rfl) (bdr wr) (fun hHeld => ?_)
          refine WDs 0 ⟨some 19, .move (.tmp 1), 26, _, #[], none⟩ ?vc0 ?hyc0 hHeld ?_
          case hyc0 => (intro wz hSw; (try dsimp only at hSw); go_simp; try with_reducible rfl)
          (try simp only [putz])
          refine WDs 1 ⟨some 20, .move (.tmp 7), 3, _, #[], none⟩ ?vc1 ?hyc1 hHeld ?_
          case hyc1 => (intro wz hSw; (try dsimp only at hSw); go_simp; try with_reducible rfl)
          (try simp only [putz])
          refine WDs 2 ⟨some 21, .indexAddr 26 (.tmp 19) (.tmp 20), 0, _, #[⟨0, .data⟩, ⟨1, .data⟩], none⟩ ?vc2 ?hyc2 hHeld ?_
          case hyc2 => (intro wz hSw; (try dsimp only at hSw); go_simp; try with_reducible rfl)
          (try simp only [putz])
          refine WDs 3 ⟨some 22, .load 3 (.tmp 21), 3, _, #[⟨2, .data⟩], none⟩ ?vc3 ?hyc3 hHeld ?_
          case hyc3 => (intro wz hSw; (try dsimp only at hSw); have q0 := (hSw.cell (p := ⟨b, _, none⟩) HBL.out).trans y0; go_simp; try with_reducible rfl)
          (try simp only [putz])
          refine WDs 4 ⟨some 23, .fieldAddr 36 (.tmp 3) 2, 0, _, #[], none⟩ ?vc4 ?hyc4 hHeld ?_
          case hyc4 => (intro wz hSw; (try dsimp only at hSw); go_simp; try with_reducible rfl)
          (try simp only [putz])
          refine WDs 5 ⟨some 24, .load 3 (.tmp 23), 3, _, #[⟨4, .data⟩], none⟩ ?vc5 ?hyc5 hHeld ?_
          case hyc5 => (intro wz hSw; (try dsimp only at hSw); obtain ⟨z0, z1, z2, z3⟩ := cells4 ((hSw.block w.heap.size (by have := SZ.out; omega)).trans XB.out); go_simp; try with_reducible rfl)
          (try simp only [putz])
          refine WDs 6 ⟨some 25, .binOp .eql 3 (.tmp 22) (.tmp 24) 3, 4, _, #[⟨3, .data⟩, ⟨5, .data⟩], none⟩ ?vc6 ?hyc6 hHeld ?_
          case hyc6 => (intro wz hSw; (try dsimp only at hSw); go_simp; try with_reducible rfl)
          (try simp only [putz])
          refine WD_done (by kernel_rfl) ?_ _
          have B5 := Lib.hid (bt HW.out hHeld)
          clear hHeld
          go_wp2
          go_roundw
          case rel => exact ⟨k + 1, by omega, by go_num, HT2, B5⟩
          case measure => simp [intOf]; omega
      · obtain rfl : k = N := by omega
        have hge : ¬ (k : Int) < (k : Int) := by omega
        have RES := Lib.hid (HNO.out (by have := HT.out; rw [HN.out, List.take_length] at this; exact this))
        have FR := Lib.hid (frm4 wr (w.heap.size + 1) (.int .i64 V.k) (.string V.nm) (.int .i64 V.vr) (.slice A 0 c))
        obtain ⟨f0, f1, f2, f3⟩ := froz4 YB.out
        obtain ⟨z0, z1, z2, z3⟩ := cells4 YB.out
        obtain ⟨t0, t1, t2, t3⟩ := cells4 (cells_all (.int .i64 V.k) (.string V.nm) (.int .i64 V.vr) (.slice A 0 c) YB.out)
        have BF := Lib.hid (show Below w.heap.size w ((((wr.setCell ⟨w.heap.size + 1, 0, none⟩ (.int .i64 V.k)).setCell ⟨w.heap.size + 1, 1, none⟩ (.string V.nm)).setCell ⟨w.heap.size + 1, 2, none⟩ (.int .i64 V.vr)).setCell ⟨w.heap.size + 1, 3, none⟩ (.slice A 0 c)) from BW.out.trans (FR.out.below (fun q hq => by have : q = w.heap.size + 1 := hq; omega) (by have := SZ.out; omega)))
        clear FR
        go_wp2
        (try simp only [Exit.inBlock, Exit.then])
        refine bodyPost_ret (put_res rfl t0 t1 t2 t3) rfl ?_
        rw [RES.out]
        have ha : V.args = [] := List.eq_nil_of_length_eq_zero hlen0
        exact ⟨A, c, by unfold tv; rw [ha]; rfl, .inl hlen0, BF.out⟩
  · have q7 : (V.k == 7) = false := beq_eq_false_iff_ne.2 h7
    obtain ⟨RF, hRF⟩ : ∃ RF : TT → TT, RF = renT (gF all n) := ⟨_, rfl⟩
    have HI : Hid (∀ (V : TT) (v : Value) (w : World), bigT d V = false → shp V = true → TIn w any0 V v → IRow w Al all → TRow w any0 At (tosF n N) → Calls Tryz.prog 42 #[v, .slice Al N ca, .slice At N ct] w (CpPost w (RF V))) := Lib.hid (by rw [hRF]; exact ih)
    have HBG := Lib.hid b3
    have HSH := Lib.hid (shp_head hsh).2.2
    have HRN0 := Lib.hid (show RF V = .mk V.k V.nm V.vr (V.args.map RF) by rw [hRF]; exact renT_not (fun e => h7 e.1))
    rw [← hRF]
    unfold tv
    obtain ⟨args, ha⟩ : ∃ l, l = V.args := ⟨_, rfl⟩
    have HRN := Lib.hid (show RF V = .mk V.k V.nm V.vr (args.map RF) by rw [ha]; exact HRN0.out)
    rw [← ha] at hA HBG HSH hl4 ⊢
    have HA := Lib.hid hA
    clear ih hbg b3 ha hA hRF h7 hra hrt hsh
    obtain ⟨wB, hwB⟩ : ∃ z, z = ((w.alloc (.cells #[.int .i64 V.k, .string V.nm, .int .i64 V.vr, .slice A args.length c] 36)).alloc (.cells #[.int .i64 0, .string ⟨#[]⟩, .int .i64 0, .slice none 0 0] 36)).alloc (.cells #[.int .i64 V.k, .string V.nm, .int .i64 V.vr, .slice none 0 0] 36) := ⟨_, rfl⟩
    have HB : Hid (Below w.heap.size w wB) := Lib.hid (by rw [hwB]; exact bt (below_alloc w _) (bt (below_alloc _ _) (below_alloc _ _)))
    have HZ := Lib.hid (show wB.heap.size = w.heap.size + 3 by rw [hwB]; simp)
    have BX := two_box (w := w) (.cells #[.int .i64 V.k, .string V.nm, .int .i64 V.vr, .slice A args.length c] 36) (.cells #[.int .i64 0, .string ⟨#[]⟩, .int .i64 0, .slice none 0 0] 36)
    have HT0 := Lib.hid (show wB.heap[w.heap.size]? = some (.cells #[.int .i64 V.k, .string V.nm, .int .i64 V.vr, .slice A args.length c] 36 (0, 0)) by rw [hwB]; exact ((below_alloc _ _).block w.heap.size (by simp; omega)).trans BX.1)
    have HR0 := Lib.hid (show wB.heap[w.heap.size + 1]? = some (.cells #[.int .i64 0, .string ⟨#[]⟩, .int .i64 0, .slice none 0 0] 36 (0, 0)) by rw [hwB]; exact ((below_alloc _ _).block (w.heap.size + 1) (by simp)).trans BX.2)
    have HU0 := Lib.hid (show wB.heap[w.heap.size + 2]? = some (.cells #[.int .i64 V.k, .string V.nm, .int .i64 V.vr, .slice none 0 0] 36 (0, 0)) by
      rw [hwB]
      have := heap_alloc_new (((w.alloc (.cells #[.int .i64 V.k, .string V.nm, .int .i64 V.vr, .slice A args.length c] 36)).alloc (.cells #[.int .i64 0, .string ⟨#[]⟩, .int .i64 0, .slice none 0 0] 36))) (.cells #[.int .i64 V.k, .string V.nm, .int .i64 V.vr, .slice none 0 0] 36)
      rw [show (((w.alloc (.cells #[.int .i64 V.k, .string V.nm, .int .i64 V.vr, .slice A args.length c] 36)).alloc (.cells #[.int .i64 0, .string ⟨#[]⟩, .int .i64 0, .slice none 0 0] 36))).heap.size = w.heap.size + 2 by simp] at this
      exact this)
    have HWB := Lib.hid hwB
    clear hwB BX
    go_enter Tryz.func42, Tryz.ntmps42
    go_wp2
    try rw [← HWB.out]
    go_loopw [9] (fun i wr => ∃ (k : Nat) (v : Value) (xs : List Value), k ≤ args.length ∧ i = .int .i64 k ∧ Hid (CpU 36 wB wr (w.heap.size + 2) v k ((args.take k).map RF) xs) ∧ Hid (wr.heap[w.heap.size + 2]? = some (.cells #[.int .i64 V.k, .string V.nm, .int .i64 V.vr, v] 36 (0, 0)))) (fun i _ => args.length - (intOf i).toNat)
    case atStart => exact ⟨0, .slice none 0 0, [], by omega, by first | rfl | trivial, Lib.hid (by rw [List.take_zero]; exact ⟨Frm.refl _ _, World.ownsRow_nil _ _ _ _, rfl, rfl, by rw [HZ.out]; omega⟩), HU0⟩
    case round =>
      obtain ⟨k, v, xs, hk, rfl, HS, HU⟩ := hrel
      obtain ⟨Ar, cr, rfl⟩ := vform HS.out.own
      have hz := HZ.out
      have hBr : Below w.heap.size w wr := HB.out.trans (HS.out.frm.below (fun q hq => by have : q = w.heap.size + 2 := hq; omega) (by omega))
      have HTB := Lib.hid ((HS.out.frm.block w.heap.size (by omega) (by show ¬ w.heap.size = w.heap.size + 2; omega)).trans HT0.out)
      have HRB := Lib.hid ((HS.out.frm.block (w.heap.size + 1) (by omega) (by show ¬ w.heap.size + 1 = w.heap.size + 2; omega)).trans HR0.out)
      have HSZ := Lib.hid (show w.heap.size + 3 ≤ wr.heap.size by have := HS.out.frm.size; omega)
      obtain ⟨e0, e1, e2, e3⟩ := cells4 HTB.out
      obtain ⟨d0, d1, d2, d3⟩ := cells4 HU.out
      by_cases hlt : k < args.length
      · have hlti : (k : Int) < (args.length : Int) := by omega
        obtain ⟨b, o, rfl, hb, hr⟩ := HA.out.at (by omega)
        obtain ⟨A', c', x0, x1, x2, x3, hin⟩ := hr wr hBr k hlt
        have hbl : b < wr.heap.size := Nat.lt_of_lt_of_le hb hBr.size
        have CALL := Lib.hid (fun W (hW : Below wr.heap.size wr W) => HI.out args[k] _ W (HBG.out _ (List.getElem_mem hlt)) (HSH.out _ (List.getElem_mem hlt)) (hin.later hW) (HAL.out.later (bt hBr hW)) (HTO.out.later (bt hBr hW)))
        have HTK : Hid ((args.take (k + 1)).map RF = (args.take k).map RF ++ [RF args[k]]) := Lib.hid (by rw [List.take_succ_eq_append_getElem hlt, List.map_append]; rfl)
        obtain ⟨T, hT⟩ : ∃ T, T = RF args[k] := ⟨_, rfl⟩
        obtain ⟨E, hE⟩ : ∃ E, E = args[k] := ⟨_, rfl⟩
        rw [← hT] at CALL HTK
        rw [← hE] at x0 x1 x2 x3 CALL
        unfold tv at CALL
        clear hr hin hb HI hT hE
        go_wp2_with fail
        refine wp_region_D [11, 13] (fun w' => Below wr.heap.size wr w') (by kernel_rfl) (bdr wr) (fun hHeld => ?_)
        refine WDs 0 ⟨some 45, .fieldAddr 36 (.tmp 8) 3, 0, _, #[], none⟩ ?va0 ?hya0 hHeld ?_
        case hya0 => (intro wz hSw; (try dsimp only at hSw); go_simp; try with_reducible rfl)
        (try simp only [putz])
        refine WDs 1 ⟨some 46, .load 34 (.tmp 45), 34, _, #[⟨0, .data⟩], none⟩ ?va1 ?hya1 hHeld ?_
        case hya1 => (intro wz hSw; (try dsimp only at hSw); have q0 := (hSw.cell (p := ⟨w.heap.size + 2, 3, none⟩) (by have := HSZ.out; show w.heap.size + 2 < _; omega)).trans d3; go_simp; try with_reducible rfl)
        (try simp only [putz])
        refine WDs 2 ⟨some 47, .fieldAddr 36 (.tmp 3) 3, 0, _, #[], none⟩ ?va2 ?hya2 hHeld ?_
        case hya2 => (intro wz hSw; (try dsimp only at hSw); go_simp; try with_reducible rfl)
        (try simp only [putz])
        refine WDs 3 ⟨some 48, .load 34 (.tmp 47), 34, _, #[⟨2, .data⟩], none⟩ ?va3 ?hya3 hHeld ?_
        case hya3 => (intro wz hSw; (try dsimp only at hSw); have q0 := (hSw.cell (p := ⟨w.heap.size, 3, none⟩) (by have := HSZ.out; show w.heap.size < _; omega)).trans e3; go_simp; try with_reducible rfl)
        (try simp only [putz])
        refine WDs 4 ⟨some 49, .move (.tmp 9), 3, _, #[], none⟩ ?va4 ?hya4 hHeld ?_
        case hya4 => (intro wz hSw; (try dsimp only at hSw); go_simp; try with_reducible rfl)
        (try simp only [putz])
        refine WDs 5 ⟨some 50, .indexAddr 34 (.tmp 48) (.tmp 49), 0, _, #[⟨3, .data⟩, ⟨4, .data⟩], none⟩ ?va5 ?hya5 hHeld ?_
        case hya5 => (intro wz hSw; (try dsimp only at hSw); go_simp; try with_reducible rfl)
        (try simp only [putz])
        refine WDs 6 ⟨some 51, .load 36 (.tmp 50), 36, _, #[⟨5, .data⟩], none⟩ ?va6 ?hya6 hHeld ?_
        case hya6 => (intro wz hSw; (try dsimp only at hSw); have q0 := (hSw.cell (p := ⟨b, _, none⟩) hbl).trans x0; have q1 := (hSw.cell (p := ⟨b, _, none⟩) hbl).trans x1; have q2 := (hSw.cell (p := ⟨b, _, none⟩) hbl).trans x2; have q3 := (hSw.cell (p := ⟨b, _, none⟩) hbl).trans x3; go_simp; try with_reducible rfl)
        (try simp only [putz])
        refine WDs 7 ⟨some 52, .move (.tmp 1), 26, _, #[], none⟩ ?va7 ?hya7 hHeld ?_
        case hya7 => (intro wz hSw; (try dsimp only at hSw); go_simp; try with_reducible rfl)
        (try simp only [putz])
        refine WDs 8 ⟨some 53, .move (.tmp 2), 34, _, #[], none⟩ ?va8 ?hya8 hHeld ?_
        case hya8 => (intro wz hSw; (try dsimp only at hSw); go_simp; try with_reducible rfl)
        (try simp only [putz])
        have hHs0 := hHeld.size
        refine WD_ready (rs := [9]) (by kernel_rfl) (by simp) ?_
        refine AllD.cons (o := _) rfl (fun K hK => ?_) AllD.nil
        rw [if_pos (by rfl)]
        go_simp
        refine (CALL.out _ hHeld).mono ?_; rintro e w2 ⟨A2, c2, rfl, hr2, hb2⟩
        unfold tv
        try go_wp2_with fail
        refine hK.out _ _ (bt hHeld hb2) (fun hHeld => ?_)
        clear hK K
        (try simp only [putz])
        have R2 := Lib.hid (hr2.weak (P' := (wr.heap.size ≤ ·)) (fun b _ h => Nat.le_trans hHs0 h))
        have B2 := Lib.hid hHeld
        clear hHeld hr2 hb2
        refine WD_ready (rs := [10]) (by kernel_rfl) (by simp) ?_
        refine AllD.cons (o := _) rfl (fun K hK => ?_) AllD.nil
        rw [if_pos (by rfl)]
        go_simp
        refine hK.out _ _ (bt B2.out (below_alloc w2 _)) (fun hHeld => ?_)
        clear hK K
        (try simp only [putz])
        clear hHeld
        obtain ⟨w3, hw3⟩ : ∃ z, z = w2.alloc (.cells #[.int .i64 T.k, .string T.nm, .int .i64 T.vr, .slice A2 T.args.length c2] 36) := ⟨_, rfl⟩
        rw [← hw3]
        have N3 : Hid (w3.heap[w2.heap.size]? = some (.cells #[.int .i64 T.k, .string T.nm, .int .i64 T.vr, .slice A2 T.args.length c2] 36 (0, 0))) := Lib.hid (by rw [hw3]; exact heap_alloc_new w2 _)
        have B3 := Lib.hid (show Below wr.heap.size wr w3 by rw [hw3]; exact bt B2.out (below_alloc w2 _))
        have O3 := Lib.hid (own_bl HS.out.own B3.out)
        have U3 := Lib.hid ((B3.out.block (w.heap.size + 2) (by have := HSZ.out; omega)).trans HU.out)
        have Q3 := Lib.hid (show wr.heap.size ≤ w2.heap.size ∧ w2.heap.size < w3.heap.size ∧ wB.heap.size ≤ wr.heap.size from ⟨B2.out.size, by rw [hw3]; simp, HS.out.frm.size⟩)
        have hq3 := Q3.out
        have HW3 := Lib.hid hw3
        clear hw3
        refine WD_ready (rs := [11]) (by kernel_rfl) (by simp) ?_
        refine AllD.last (o := _) rfl (by kernel_rfl) (fun K hK => ?_) AllD.nil
        refine step_append_lies _ (by rfl) (.tmp 46) (.tmp 55) 34 rfl wB.heap.size 36 i0 (.agg #[.int .i64 0, .string .empty, .int .i64 0, .slice none 0 0]) 4 56 Tryz.underlying34 hi0 hz0 hz1 hz2 rfl (by decide) (.slice Ar k cr) k xs rfl O3.out ⟨w2.heap.size, 0, none⟩ 1 1 (kidT T A2 c2) rfl rfl (World.news_of_block (cs := #[.int .i64 T.k, .string T.nm, .int .i64 T.vr, .slice A2 T.args.length c2]) (t := 36) (fr := (0, 0)) N3.out) (kid_one _ _ _) (by omega) (by unfold maxLen; omega) (by omega) (by omega) _ rfl ?_
        intro g cap w4 own4 gr4 at4 hlt4
        refine hK.out _ _ ?_
        clear hK K
        (try simp only [putz])
        have hub : (Value.slice Ar k cr).ownBlock ≠ some (w.heap.size + 2) := fun e => by have h1 := (O3.out.lt _ e).1; have h2 := HZ.out; omega
        have U4 := Lib.hid ((gr4.block (w.heap.size + 2) (Array.getElem?_eq_some_iff.1 U3.out).1 (fun e => hub e.symm)).trans U3.out)
        have ST5 := Lib.hid (show CpU 36 wB (w4.setCell ⟨w.heap.size + 2, 3, none⟩ (.slice (some ⟨g, 0, none⟩) (k + 1) cap)) (w.heap.size + 2) (.slice (some ⟨g, 0, none⟩) (k + 1) cap) (k + 1) ((args.take (k + 1)).map RF) (xs ++ kidT T A2 c2) by rw [HTK.out]; rw [HW3.out] at gr4 at4; exact cpu_step HS.out B2.out R2.out _ own4 gr4 (by rcases at4 with e | e; exact .inl e.symm; right; rw [e]; rfl))
        have HU5 := Lib.hid (set_last (.slice (some ⟨g, 0, none⟩) (k + 1) cap) U4.out)
        obtain ⟨u0, u1, u2, u3⟩ := cells4 U4.out
        obtain ⟨v0, v1, v2, v3⟩ := froz4 U4.out
        clear own4 gr4 at4 hlt4
        refine WD_takeAny (i := 12) (oi := ⟨some 57, .fieldAddr 36 (.tmp 8) 3, 0, _, #[⟨0, .phase⟩, ⟨1, .phase⟩, ⟨2, .phase⟩, ⟨3, .phase⟩, ⟨4, .phase⟩, ⟨5, .phase⟩, ⟨6, .phase⟩, ⟨7, .phase⟩, ⟨8, .phase⟩, ⟨9, .phase⟩, ⟨10, .phase⟩, ⟨11, .phase⟩], none⟩) (v := ?va12) rfl (by kernel_rfl) (by kernel_rfl) (by kernel_rfl) (by kernel_rfl) (fun _ _ _ h => h) (Or.inl ⟨by rfl, ?hya12⟩) ?_
        case hya12 => (intro wz _; go_simp; try with_reducible rfl)
        (try simp only [putz])
        refine WD_ready (rs := [13]) (by kernel_rfl) (by simp) ?_
        refine AllD.last (o := _) rfl (by kernel_rfl) (fun K hK => ?_) AllD.nil
        rw [if_pos (by rfl)]
        go_simp
        refine hK.out _ _ ?_
        clear hK K
        (try simp only [putz])
        refine WD_done (by kernel_rfl) ?_ _
        go_wp2
        go_roundw
        case rel => exact ⟨k + 1, _, _, by omega, by go_num, ST5, HU5⟩
        case measure => simp [intOf]; omega
      · obtain rfl : k = args.length := by omega
        have hge : ¬ (args.length : Int) < (args.length : Int) := by omega
        obtain ⟨A', c', hv, hrow⟩ := cpu_fin HS.out
        injection hv with hv1 _ hv2
        subst hv1 hv2
        rw [List.take_length] at hrow
        have HROW := Lib.hid hrow
        have hrb := HRB.out
        obtain ⟨y0, y1, y2, y3⟩ := cells4 hrb
        obtain ⟨k0, k1, k2, k3⟩ := froz4 hrb
        obtain ⟨t0, t1, t2, t3⟩ := cells4 (cells_all (.int .i64 V.k) (.string V.nm) (.int .i64 V.vr) (.slice Ar args.length cr) hrb)
        have FR := Lib.hid (frm4 wr (w.heap.size + 1) (.int .i64 V.k) (.string V.nm) (.int .i64 V.vr) (.slice Ar args.length cr))
        have HBW := Lib.hid hBr
        clear hrow hBr hrb
        go_wp2
        (try simp only [Exit.inBlock, Exit.then])
        refine bodyPost_ret (by simp [results, Tryz.results42, go_sem, t0, t1, t2, t3]; try rfl) rfl ?_
        exact ⟨Ar, cr, (by rw [HRN.out]; unfold tv; simp [TT.k, TT.nm, TT.vr, TT.args]), (show args.map RF = (RF V).args by rw [HRN.out]; rfl) ▸ HROW.out.move (fun b hb (hp : wB.heap.size ≤ b) => ⟨FR.out.block b hb (by show ¬ b = w.heap.size + 1; omega), by omega⟩) FR.out.size, HBW.out.trans (FR.out.below (fun q hq => by have : q = w.heap.size + 1 := hq; omega) (by have := HSZ.out; omega))⟩
end Go.Proofs.YtifopogkbjhkjaaGreatDoor
