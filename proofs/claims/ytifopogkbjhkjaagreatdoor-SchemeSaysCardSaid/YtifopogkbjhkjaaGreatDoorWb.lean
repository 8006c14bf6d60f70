import Derived.Test.YtifopogkbjhkjaaGreatDoorWa
namespace Go.Proofs.YtifopogkbjhkjaaGreatDoor
open DR
open Go.ChangeShapes Go.WideShapes Go.ChangeAt Go.RowKit Go.WideMaps
set_option linter.unusedVariables false
set_option linter.unusedSimpArgs false
theorem varT_in (w : World) (P : Nat → Prop) (n : Int) : TIn w P (varT n) (tv (varT n) none 0) := ⟨none, 0, rfl, .inl rfl⟩
open Classical in
/-- what one variable of a scheme's type holds free. -/
noncomputable def frP (St : List TT) (all : List Int) (x : Int) : List Int := if apvF St (varT x) = varT x ∧ x ∈ all then [] else varsOf (apvF St (varT x))
noncomputable def frK (St : List TT) (all vs : List Int) : List Int := vs.flatMap (frP St all)
theorem frK_take {St : List TT} {all vs : List Int} {k : Nat} (h : k < vs.length) : frK St all (vs.take (k + 1)) = frK St all (vs.take k) ++ frP St all vs[k] := by
  unfold frK
  rw [List.take_succ_eq_append_getElem h, List.flatMap_append]
  simp
theorem var_nodes {St : List TT} (h : SInv2 St) {x : Int} (h0 : 0 ≤ x) (h1 : x ≤ 1999) : shp (apvF St (varT x)) = true ∧ nodes (apvF St (varT x)) ≤ 500 ∧ bigT 507 (apvF St (varT x)) = false ∧ apG St (varT x) = apvF St (varT x) := by
  obtain ⟨rk, hr⟩ := h.inv.ok
  obtain ⟨m, rfl⟩ : ∃ m : Nat, x = m := ⟨x.toNat, by omega⟩
  have hs : shp (varT (m : Int)) = true := shp_v (by omega)
  refine ⟨app_shp hr _ hs, ?_, big_app h 7 _ rfl hs, ?_⟩
  · rw [nodes_app hr _ hs]; exact h.sz m (by omega)
  · unfold apG; rw [if_pos (good_varT (by omega) (by omega))]
theorem frP_len {St : List TT} (h : SInv2 St) (all : List Int) {x : Int} (h0 : 0 ≤ x) (h1 : x ≤ 1999) : (frP St all x).length ≤ 500 := by
  unfold frP
  split
  · simp
  · have hv := var_nodes h h0 h1
    have hl := varsT_len (apvF St (varT x)) []
    unfold varsOf
    simp at hl
    omega
theorem frK_len {St : List TT} (h : SInv2 St) (all : List Int) : ∀ vs : List Int, (∀ x ∈ vs, 0 ≤ x ∧ x ≤ 1999) → (frK St all vs).length ≤ 500 * vs.length
  | [], _ => by simp [frK]
  | x :: vs, hv => by
    have h1 := hv x (by simp)
    have h2 := frP_len h all h1.1 h1.2
    have h3 := frK_len h all vs (fun y hy => hv y (by simp [hy]))
    unfold frK at h3 ⊢
    rw [List.flatMap_cons, List.length_append, List.length_cons]
    omega
theorem own_parts {w : World} {B n c : Nat} {A : Option Addr} {l : List Int} (h : w.ownsRow B TI 1 (.slice A n c) n (ivs l)) : (A = none → n = 0 ∧ c = 0) ∧ ∀ ad, A = some ad → ∀ j u, (ivs l)[j]? = some u → w.cell? (ad.add j) = some u := by
  rcases h.2 with ⟨q1, q2⟩ | ⟨g, cap, cur, q1, q2, q3⟩
  · injection q1 with q1 q4 q5
    exact ⟨fun _ => ⟨q2, q5⟩, fun ad e => (by rw [q1] at e; cases e)⟩
  · injection q1 with q1 q4 q5
    refine ⟨fun e => (by rw [q1] at e; cases e), fun ad e j u hj => ?_⟩
    have e2 : ad = ⟨g, 0, none⟩ := by rw [q1] at e; injection e with e; exact e.symm
    subst e2
    exact h.cells (g := g) (by rw [q1]; rfl) j u hj
open Classical in
set_option maxRecDepth 100000 in
set_option maxHeartbeats 8000000 in
/-- free, of any scheme, in any substitution. -/
theorem free_st {V : TT} {all : List Int} {Al A : Option Addr} {ca c sb B : Nat} {n : Int} {St : List TT} {Pr : Nat → Prop} {w : World} (hbg : bigT 7 V = false) (hsh : shp V = true) (hst : SInv2 St) (hS : SubS w Pr B sb n St) (hal : all.length ≤ 1000000) (ha : IRow w Al all) (h : TRow w any0 A V.args) :
    Calls Tryz.prog 32 #[.pointer (some ⟨sb, 0, none⟩), scv Al all.length ca V A c] w (RowPost w (frK St all (varsOf V))) := by
  obtain ⟨i0, hi0, hz0, hz1, hz2⟩ := info_parts infoI
  have CV := Lib.hid (fun W (hW : Below w.heap.size w W) => vars_any (Nat.le_refl 7) hbg hsh (⟨A, c, rfl, h.later hW⟩ : TIn W any0 V (tv V A c)))
  have HRG := Lib.hid (vars_in V [] hsh (fun _ h => by cases h))
  have hvf : (varsOf V).length ≤ 99 := by have := vars_few 6 V [] hbg hsh; unfold varsOf; simp at this; omega
  have HS := Lib.hid hS
  have HST := Lib.hid hst
  have HAL := Lib.hid ha
  have HLA := Lib.hid hal
  obtain ⟨vs, hvs⟩ : ∃ vs, vs = varsOf V := ⟨_, rfl⟩
  have HRG : Hid (∀ x ∈ vs, 0 ≤ x ∧ x ≤ 1999) := Lib.hid (by rw [hvs]; exact HRG.out)
  rw [← hvs] at hvf CV ⊢
  have HFL := Lib.hid (fun k => frK_len hst all (vs.take k) (fun x hx => HRG.out x (List.mem_of_mem_take hx)))
  unfold tv at CV
  unfold scv
  obtain ⟨NA, hNA⟩ : ∃ N, N = all.length := ⟨_, rfl⟩
  rw [← hNA]
  have HNA := Lib.hid hNA
  obtain ⟨wA, hwA⟩ : ∃ z, z = w.alloc (.cells #[.slice Al NA ca, .int .i64 V.k, .string V.nm, .int .i64 V.vr, .slice A V.args.length c] SchT) := ⟨_, rfl⟩
  have HA := Lib.hid (show Below w.heap.size w wA by rw [hwA]; exact below_alloc w _)
  have hx := heap_alloc_new w (.cells #[.slice Al NA ca, .int .i64 V.k, .string V.nm, .int .i64 V.vr, .slice A V.args.length c] SchT)
  rw [← hwA] at hx
  have HZ := Lib.hid (show w.heap.size < wA.heap.size by rw [hwA]; simp)
  obtain ⟨⟨x0, x1, x2, x3, x4⟩, -⟩ := five_cells hx
  have HX := Lib.hid hx; have HWA := Lib.hid hwA
  clear hbg hsh h hwA hx hS hst ha hal hvs hNA
  go_enter Tryz.func32, Tryz.ntmps32
  go_wp2_with fail
  rw [← HWA.out]
  try go_wp2_with fail
  refine (CV.out _ HA.out).mono ?_; rintro e w2 ⟨A2, c2, rfl, o2, b2⟩
  have B2 := Lib.hid (bt HA.out b2.out)
  have RV := Lib.hid (own_irow o2.out rfl)
  have HX2 := Lib.hid ((b2.out.block w.heap.size HZ.out).trans HX.out)
  have Q2 := Lib.hid (show w.heap.size < w2.heap.size from Nat.lt_of_lt_of_le HZ.out b2.out.size)
  obtain ⟨N, hN⟩ : ∃ N, N = vs.length := ⟨_, rfl⟩
  rw [← hN] at hvf ⊢
  have HN := Lib.hid hN
  clear o2 b2 CV x0 x1 x2 x3 x4 hN
  go_wp2
  go_loopw [5, 13] (fun lv i wr => ∃ (k q : Nat) (v : Value), v = lv ∧ k ≤ N ∧ i = .int .i64 k ∧ q = (frK St all (vs.take k)).length ∧ Hid (Below w2.heap.size w2 wr) ∧ Hid (wr.ownsRow w2.heap.size TI 1 v q (ivs (frK St all (vs.take k))))) (fun _ i _ => N - (intOf i).toNat)
  case atStart => exact ⟨0, 0, _, rfl, by omega, by first | rfl | trivial, rfl, Lib.hid (Below.refl _ _), Lib.hid (World.ownsRow_nil _ _ _ _)⟩
  case round =>
    obtain ⟨k, q, v, rfl, hk, rfl, hq, HB, HO⟩ := hrel
    obtain ⟨⟨z0, z1, z2, z3, z4⟩, -⟩ := five_cells ((HB.out.block w.heap.size Q2.out).trans HX2.out)
    obtain ⟨Ar, cr, rfl⟩ := vform HO.out
    have HQ := Lib.hid hq
    have hqb : q ≤ 500 * k := by have := HFL.out k; rw [List.length_take] at this; have : min k vs.length ≤ k := Nat.min_le_left _ _; rw [hq]; have := HFL.out k; rw [List.length_take] at this; omega
    clear hq
    by_cases hlt : k < N
    · have hlti : (k : Int) < (N : Int) := by omega
      have hlt' : k < vs.length := by rw [← HN.out]; exact hlt
      obtain ⟨b, o, rfl, hb, hr⟩ : ∃ b o, A2 = some ⟨b, o, none⟩ ∧ b < wr.heap.size ∧ ∀ j (h : j < vs.length), wr.cell? ⟨b, o + j, none⟩ = some (.int .i64 vs[j]) := (RV.out.later HB.out).resolve_left (by rw [← HN.out]; omega)
      have x0 := hr k hlt'
      have hrange := HRG.out _ (List.getElem_mem hlt')
      have HT := Lib.hid (frK_take (St := St) (all := all) hlt')
      obtain ⟨x, hx⟩ : ∃ x, x = vs[k] := ⟨_, rfl⟩
      rw [← hx] at x0 hrange HT
      obtain ⟨hTs, hTn, hTb, hTg⟩ := var_nodes HST.out hrange.1 hrange.2
      have CA := Lib.hid (fun W (hW : Below wr.heap.size wr W) (v : Value) (hv : TIn W any0 (varT x) v) => applyS (d := 7) (Nat.le_refl 7) (show bigT 7 (varT x) = false from rfl) HST.out.inv (HS.out.later (bt B2.out (bt HB.out hW))) hv)
      rw [hTg] at CA
      have HFP := Lib.hid (show frP St all x = if apvF St (varT x) = varT x ∧ x ∈ all then [] else varsOf (apvF St (varT x)) from rfl)
      obtain ⟨T, hT⟩ : ∃ T, T = apvF St (varT x) := ⟨_, rfl⟩
      rw [← hT] at hTs hTn hTb CA HFP
      have CSM := Lib.hid (fun W (v u : Value) (h : TIn W any0 T v) (h2 : TIn W any0 (varT x) u) => (Same_big (d := 507) (by omega) hTb rfl h h2))
      have VV := Lib.hid (fun W (v : Value) (h : TIn W any0 T v) => vars_big (d := 507) (by omega) (by omega) hTb hTs h)
      have HVL := Lib.hid (show (varsOf T).length ≤ 500 by have := varsT_len T []; unfold varsOf; simp at this; omega)
      clear hr hb hx hT hTs hTn hTb hTg
      go_wp2_with fail
      refine (variable_any x _).mono ?_; rintro e w3 ⟨rfl, b3⟩
      have B3 := Lib.hid b3
      clear b3
      go_wp2_with fail
      refine (CA.out _ B3.out _ (varT_in _ _ x)).mono ?_; rintro e w4 ⟨A4, c4, rfl, r4, b4⟩
      have B4 := Lib.hid (B3.out.trans (b4.mono B3.out.size))
      have R4 := Lib.hid r4
      obtain ⟨wC, hwC⟩ : ∃ z, z = w4.alloc (.cells #[.int .i64 T.k, .string T.nm, .int .i64 T.vr, .slice A4 T.args.length c4] 24) := ⟨_, rfl⟩
      have BC := Lib.hid (show Below wr.heap.size wr wC by rw [hwC]; exact bt B4.out (below_alloc w4 _))
      have TC := Lib.hid (show wC.heap[w4.heap.size]? = some (.cells #[.int .i64 T.k, .string T.nm, .int .i64 T.vr, .slice A4 T.args.length c4] 24 (0, 0)) by rw [hwC]; exact heap_alloc_new w4 _)
      have QC := Lib.hid (show w4.heap.size < wC.heap.size by rw [hwC]; simp)
      have RC := Lib.hid (show TRow wC any0 A4 T.args by rw [hwC]; exact R4.out.later (below_alloc _ _))
      have QX := Lib.hid (show w.heap.size < wC.heap.size from Nat.lt_of_lt_of_le (Nat.lt_of_lt_of_le Q2.out HB.out.size) BC.out.size)
      have XC := Lib.hid (((HB.out.trans (BC.out.mono HB.out.size)).block w.heap.size Q2.out).trans HX2.out)
      have HWC := Lib.hid hwC
      have BWC := Lib.hid (bt B2.out (bt HB.out BC.out))
      clear r4 b4 hwC z0 z1 z2 z3 z4 x0 CA
      unfold tv
      go_wp2_with fail
      rw [← HWC.out]
      try go_wp2_with fail
      by_cases hTx : T = varT x
      · have SM := Lib.hid (fun W (v u : Value) (h : TIn W any0 T v) (h2 : TIn W any0 (varT x) u) => (show Calls Tryz.prog 58 #[v, u] W fun e w' => e = .returned (.bool true) ∧ Below W.heap.size W w' from (CSM.out W v u h h2).mono (by rintro e w' ⟨⟨b, rfl, hs⟩, hw⟩; have : b = true := hs.2 hTx; subst this; exact ⟨rfl, hw⟩)))
        by_cases hin : x ∈ all
        · have HPE := Lib.hid (show frP St all x = [] by rw [HFP.out, if_pos ⟨hTx, hin⟩])
          have hdc : decide (x ∈ all) = true := decide_eq_true hin
          have CN := Lib.hid (fun W (hW : Below w.heap.size w W) => contains_any (A := Al) (c := ca) x HLA.out (HAL.out.later hW))
          rw [hdc, ← HNA.out] at CN
          clear hTx hin hdc CSM VV HFP
          refine wp_region_D [8] (fun w' => Below wC.heap.size wC w') (by kernel_rfl) (bdr wC) (fun hHeld => ?_)
          refine WDs 0 ⟨some 21, .load 24 (.tmp 8), 24, _, #[], none⟩ ?va0 ?hya0 hHeld ?_
          case hya0 => (intro wz hSw; (try dsimp only at hSw); have zc := zero_cells ((hSw.block _ QC.out).trans TC.out); have z0 := zc.1.1; have z1 := zc.1.2.1; have z2 := zc.1.2.2.1; have z3 := zc.1.2.2.2; go_simp; try with_reducible rfl)
          (try simp only [putz])
          refine WDs 1 ⟨some 22, .move (.tmp 7), 3, _, #[], none⟩ ?va1 ?hya1 hHeld ?_
          case hya1 => (intro wz hSw; (try dsimp only at hSw); go_simp; try with_reducible rfl)
          (try simp only [putz])
          refine WD_ready (rs := [2]) (by kernel_rfl) (by simp) ?_
          refine AllD.cons (o := _) rfl (fun K hK => ?_) AllD.nil
          rw [if_pos (by rfl)]
          go_simp
          refine (variable_any x _).mono ?_; rintro e w6 ⟨rfl, b6⟩
          try go_wp2_with fail
          refine hK.out _ _ (bt hHeld b6) (fun hHeld => ?_)
          clear hK K
          (try simp only [putz])
          clear b6
          refine WD_ready (rs := [3]) (by kernel_rfl) (by simp) ?_
          refine AllD.cons (o := _) rfl (fun K hK => ?_) AllD.nil
          rw [if_pos (by rfl)]
          go_simp
          refine (SM.out _ (tv T A4 c4) (tv (varT x) none 0) ⟨A4, c4, rfl, RC.out.later hHeld⟩ (varT_in _ _ x)).mono ?_; rintro e w7 ⟨rfl, b7⟩
          try go_wp2_with fail
          refine hK.out _ _ (bt hHeld b7) (fun hHeld => ?_)
          clear hK K
          (try simp only [putz])
          clear b7
          refine WDs 4 ⟨some 25, .move (.tmp 24), 4, _, #[⟨3, .data⟩, ⟨3, .chain⟩], none⟩ ?va4 ?hya4 hHeld ?_
          case hya4 => (intro wz hSw; (try dsimp only at hSw); go_simp; try with_reducible rfl)
          (try simp only [putz])
          refine WDs 5 ⟨some 26, .fieldAddr 28 (.tmp 3) 0, 0, _, #[⟨4, .guard⟩], some (4, true)⟩ ?va5 ?hya5 hHeld ?_
          case hya5 => (intro wz hSw; (try dsimp only at hSw); go_simp; try with_reducible rfl)
          (try simp only [putz])
          refine WDs 6 ⟨some 27, .load 26 (.tmp 26), 26, _, #[⟨5, .data⟩, ⟨4, .guard⟩], some (4, true)⟩ ?va6 ?hya6 hHeld ?_
          case hya6 => (intro wz hSw; (try dsimp only at hSw); have zc := (five_cells ((hSw.block _ QX.out).trans XC.out)).1; have z0 := zc.1; go_simp; try with_reducible rfl)
          (try simp only [putz])
          refine WDs 7 ⟨some 28, .move (.tmp 7), 3, _, #[⟨4, .guard⟩], some (4, true)⟩ ?va7 ?hya7 hHeld ?_
          case hya7 => (intro wz hSw; (try dsimp only at hSw); go_simp; try with_reducible rfl)
          (try simp only [putz])
          have hH9 := hHeld
          refine WD_ready (rs := [8]) (by kernel_rfl) (by simp) ?_
          refine AllD.last (o := _) rfl (by kernel_rfl) (fun K hK => ?_) AllD.nil
          rw [if_pos (by rfl)]
          go_simp
          refine (CN.out _ (bt BWC.out hHeld)).mono ?_; rintro e w8 ⟨rfl, b8⟩
          try go_wp2_with fail
          refine hK.out _ _ ?_
          clear hK K
          (try simp only [putz])
          refine WD_takeAny (i := 9) (oi := ⟨some 30, .pick (.tmp 25) (.tmp 29) (.const (.bool false)), 4, _, #[⟨4, .data⟩, ⟨8, .data⟩], none⟩) (v := ?va9) rfl (by kernel_rfl) (by kernel_rfl) (by kernel_rfl) (by kernel_rfl) (fun _ _ _ h => h) (Or.inl ⟨by rfl, ?hya9⟩) ?_
          case hya9 => (intro wz _; go_simp; try with_reducible rfl)
          (try simp only [putz])
          refine WD_done (by kernel_rfl) ?_ _
          have BR8 := Lib.hid (bt BC.out (bt hHeld b8))
          clear b8 hHeld hH9
          go_wp2
          go_roundw
          case rel => exact ⟨k + 1, q, _, rfl, by omega, by go_num, by rw [HT.out, HPE.out, List.append_nil]; exact HQ.out, Lib.hid (HB.out.trans (BR8.out.mono HB.out.size)), Lib.hid (by rw [HT.out, HPE.out, List.append_nil]; exact own_bl HO.out BR8.out)⟩
          case measure => simp [intOf]; omega
        · have HPE := Lib.hid (show frP St all x = varsOf T by rw [HFP.out, if_neg (fun e => hin e.2)])
          have hdc : decide (x ∈ all) = false := decide_eq_false hin
          have CN := Lib.hid (fun W (hW : Below w.heap.size w W) => contains_any (A := Al) (c := ca) x HLA.out (HAL.out.later hW))
          rw [hdc, ← HNA.out] at CN
          clear hTx hin hdc CSM HFP
          refine wp_region_D [8] (fun w' => Below wC.heap.size wC w') (by kernel_rfl) (bdr wC) (fun hHeld => ?_)
          refine WDs 0 ⟨some 21, .load 24 (.tmp 8), 24, _, #[], none⟩ ?vb0 ?hyb0 hHeld ?_
          case hyb0 => (intro wz hSw; (try dsimp only at hSw); have zc := zero_cells ((hSw.block _ QC.out).trans TC.out); have z0 := zc.1.1; have z1 := zc.1.2.1; have z2 := zc.1.2.2.1; have z3 := zc.1.2.2.2; go_simp; try with_reducible rfl)
          (try simp only [putz])
          refine WDs 1 ⟨some 22, .move (.tmp 7), 3, _, #[], none⟩ ?vb1 ?hyb1 hHeld ?_
          case hyb1 => (intro wz hSw; (try dsimp only at hSw); go_simp; try with_reducible rfl)
          (try simp only [putz])
          refine WD_ready (rs := [2]) (by kernel_rfl) (by simp) ?_
          refine AllD.cons (o := _) rfl (fun K hK => ?_) AllD.nil
          rw [if_pos (by rfl)]
          go_simp
          refine (variable_any x _).mono ?_; rintro e w6 ⟨rfl, b6⟩
          try go_wp2_with fail
          refine hK.out _ _ (bt hHeld b6) (fun hHeld => ?_)
          clear hK K
          (try simp only [putz])
          clear b6
          refine WD_ready (rs := [3]) (by kernel_rfl) (by simp) ?_
          refine AllD.cons (o := _) rfl (fun K hK => ?_) AllD.nil
          rw [if_pos (by rfl)]
          go_simp
          refine (SM.out _ (tv T A4 c4) (tv (varT x) none 0) ⟨A4, c4, rfl, RC.out.later hHeld⟩ (varT_in _ _ x)).mono ?_; rintro e w7 ⟨rfl, b7⟩
          try go_wp2_with fail
          refine hK.out _ _ (bt hHeld b7) (fun hHeld => ?_)
          clear hK K
          (try simp only [putz])
          clear b7
          refine WDs 4 ⟨some 25, .move (.tmp 24), 4, _, #[⟨3, .data⟩, ⟨3, .chain⟩], none⟩ ?vb4 ?hyb4 hHeld ?_
          case hyb4 => (intro wz hSw; (try dsimp only at hSw); go_simp; try with_reducible rfl)
          (try simp only [putz])
          refine WDs 5 ⟨some 26, .fieldAddr 28 (.tmp 3) 0, 0, _, #[⟨4, .guard⟩], some (4, true)⟩ ?vb5 ?hyb5 hHeld ?_
          case hyb5 => (intro wz hSw; (try dsimp only at hSw); go_simp; try with_reducible rfl)
          (try simp only [putz])
          refine WDs 6 ⟨some 27, .load 26 (.tmp 26), 26, _, #[⟨5, .data⟩, ⟨4, .guard⟩], some (4, true)⟩ ?vb6 ?hyb6 hHeld ?_
          case hyb6 => (intro wz hSw; (try dsimp only at hSw); have zc := (five_cells ((hSw.block _ QX.out).trans XC.out)).1; have z0 := zc.1; go_simp; try with_reducible rfl)
          (try simp only [putz])
          refine WDs 7 ⟨some 28, .move (.tmp 7), 3, _, #[⟨4, .guard⟩], some (4, true)⟩ ?vb7 ?hyb7 hHeld ?_
          case hyb7 => (intro wz hSw; (try dsimp only at hSw); go_simp; try with_reducible rfl)
          (try simp only [putz])
          refine WD_ready (rs := [8]) (by kernel_rfl) (by simp) ?_
          refine AllD.last (o := _) rfl (by kernel_rfl) (fun K hK => ?_) AllD.nil
          rw [if_pos (by rfl)]
          go_simp
          refine (CN.out _ (bt BWC.out hHeld)).mono ?_; rintro e w8 ⟨rfl, b8⟩
          try go_wp2_with fail
          refine hK.out _ _ ?_
          clear hK K
          (try simp only [putz])
          refine WD_takeAny (i := 9) (oi := ⟨some 30, .pick (.tmp 25) (.tmp 29) (.const (.bool false)), 4, _, #[⟨4, .data⟩, ⟨8, .data⟩], none⟩) (v := ?vb9) rfl (by kernel_rfl) (by kernel_rfl) (by kernel_rfl) (by kernel_rfl) (fun _ _ _ h => h) (Or.inl ⟨by rfl, ?hyb9⟩) ?_
          case hyb9 => (intro wz _; go_simp; try with_reducible rfl)
          (try simp only [putz])
          refine WD_done (by kernel_rfl) ?_ _
          have hb8 : Below wC.heap.size wC w8 := bt hHeld b8
          have BR8 := Lib.hid (bt BC.out hb8)
          have t8 := (hb8.block _ QC.out).trans TC.out
          obtain ⟨⟨y0, y1, y2, y3⟩, -⟩ := zero_cells t8
          have HVV := Lib.hid (VV.out w8 (tv T A4 c4) ⟨A4, c4, rfl, RC.out.later hb8⟩)
          unfold tv at HVV
          clear b8 hHeld hb8 t8 VV
          go_wp2_with fail
          refine HVV.out.mono ?_; rintro e w9 ⟨A9, c9, rfl, o9, b9⟩
          have BR9 := Lib.hid (bt BR8.out b9.out)
          have OW := Lib.hid (own_bl HO.out BR9.out)
          have OP := Lib.hid (own_parts o9.out)
          have hb0 := HB.out.size
          have hb9 := BR9.out.size
          have hml := HVL.out
          obtain ⟨M, hM⟩ : ∃ M, M = (varsOf T).length := ⟨_, rfl⟩
          have HM := Lib.hid hM
          rw [← hM] at OP hml ⊢
          clear o9 b9 HVV y0 y1 y2 y3 hM
          go_wp2_with (at_builtin; refine wpList_step (fun K hK => ?_); refine step_append_sl (by rfl) (.tmp 31) (.tmp 33) 26 rfl w2.heap.size TI i0 (.int .i64 0) 1 8 Tryz.underlying26 hi0 hz0 hz1 hz2 rfl (by decide) (.slice Ar q cr) q (ivs (frK St all (vs.take k))) rfl OW.out A9 M c9 (ivs (varsOf T)) rfl (by simp [ivs, HM.out]) OP.out.1 OP.out.2 ones_ivs (by unfold maxLen; omega) (by omega) (by omega) ?_; intro v10 w10 own10 gr10 at10; refine hK _ _ ?_; clear hK K)
          have HT2 := Lib.hid (show ivs (frK St all (vs.take (k + 1))) = ivs (frK St all (vs.take k)) ++ ivs (varsOf T) by rw [HT.out, HPE.out]; exact List.map_append)
          have HQ2 := Lib.hid (show q + M = (frK St all (vs.take (k + 1))).length by rw [HT.out, HPE.out, List.length_append, HM.out, ← HQ.out])
          have O10 : Hid (w10.ownsRow w2.heap.size TI 1 v10 (q + M) (ivs (frK St all (vs.take (k + 1))))) := Lib.hid (by rw [HT2.out]; exact own10)
          have B10 := Lib.hid ((HB.out.trans (BR9.out.mono HB.out.size)).grown gr10 (Nat.le_trans hb0 hb9) (fun q hq => (OW.out.lt q hq).1))
          clear own10 gr10 at10 OW OP
          go_wp2
          go_roundw
          case rel => exact ⟨k + 1, q + M, _, rfl, by omega, by go_num, HQ2.out, B10, O10⟩
          case measure => simp [intOf]; omega
      · have SM := Lib.hid (fun W (v u : Value) (h : TIn W any0 T v) (h2 : TIn W any0 (varT x) u) => (show Calls Tryz.prog 58 #[v, u] W fun e w' => e = .returned (.bool false) ∧ Below W.heap.size W w' from (CSM.out W v u h h2).mono (by rintro e w' ⟨⟨b, rfl, hs⟩, hw⟩; have : b = false := Bool.eq_false_iff.2 (fun e => hTx (hs.1 e)); subst this; exact ⟨rfl, hw⟩)))
        have HPE := Lib.hid (show frP St all x = varsOf T by rw [HFP.out, if_neg (fun e => hTx e.1)])
        clear hTx CSM HFP
        refine wp_region_D [] (fun w' => Below wC.heap.size wC w') (by kernel_rfl) (bdr wC) (fun hHeld => ?_)
        refine WDs 0 ⟨some 21, .load 24 (.tmp 8), 24, _, #[], none⟩ ?vc0 ?hyc0 hHeld ?_
        case hyc0 => (intro wz hSw; (try dsimp only at hSw); have zc := zero_cells ((hSw.block _ QC.out).trans TC.out); have z0 := zc.1.1; have z1 := zc.1.2.1; have z2 := zc.1.2.2.1; have z3 := zc.1.2.2.2; go_simp; try with_reducible rfl)
        (try simp only [putz])
        refine WDs 1 ⟨some 22, .move (.tmp 7), 3, _, #[], none⟩ ?vc1 ?hyc1 hHeld ?_
        case hyc1 => (intro wz hSw; (try dsimp only at hSw); go_simp; try with_reducible rfl)
        (try simp only [putz])
        refine WD_ready (rs := [2]) (by kernel_rfl) (by simp) ?_
        refine AllD.cons (o := _) rfl (fun K hK => ?_) AllD.nil
        rw [if_pos (by rfl)]
        go_simp
        refine (variable_any x _).mono ?_; rintro e w6 ⟨rfl, b6⟩
        try go_wp2_with fail
        refine hK.out _ _ (bt hHeld b6) (fun hHeld => ?_)
        clear hK K
        (try simp only [putz])
        clear b6
        refine WD_ready (rs := [3]) (by kernel_rfl) (by simp) ?_
        refine AllD.cons (o := _) rfl (fun K hK => ?_) AllD.nil
        rw [if_pos (by rfl)]
        go_simp
        refine (SM.out _ (tv T A4 c4) (tv (varT x) none 0) ⟨A4, c4, rfl, RC.out.later hHeld⟩ (varT_in _ _ x)).mono ?_; rintro e w7 ⟨rfl, b7⟩
        try go_wp2_with fail
        refine hK.out _ _ (bt hHeld b7) (fun hHeld => ?_)
        clear hK K
        (try simp only [putz])
        clear b7
        refine WDs 4 ⟨some 25, .move (.tmp 24), 4, _, #[⟨3, .data⟩, ⟨3, .chain⟩], none⟩ ?vc4 ?hyc4 hHeld ?_
        case hyc4 => (intro wz hSw; (try dsimp only at hSw); go_simp; try with_reducible rfl)
        (try simp only [putz])
        refine WDk 5 ⟨some 26, .fieldAddr 28 (.tmp 3) 0, 0, _, #[⟨4, .guard⟩], some (4, true)⟩ hHeld ?_
        (try simp only [putz])
        refine WDk 6 ⟨some 27, .load 26 (.tmp 26), 26, _, #[⟨5, .data⟩, ⟨4, .guard⟩], some (4, true)⟩ hHeld ?_
        (try simp only [putz])
        refine WDk 7 ⟨some 28, .move (.tmp 7), 3, _, #[⟨4, .guard⟩], some (4, true)⟩ hHeld ?_
        (try simp only [putz])
        refine WD_ready (rs := [8]) (by kernel_rfl) (by simp) ?_
        refine AllD.cons (o := ⟨some 29, .call { callee := .value (.func 43), args := #[.tmp 27, .tmp 28], argTypes := #[26, 3] }, 4, _, #[⟨6, .data⟩, ⟨7, .data⟩, ⟨4, .chain⟩, ⟨4, .guard⟩], some (4, true)⟩) rfl (fun K hK => ?_) AllD.nil
        rw [if_neg (fun h => nomatch h)]
        refine hK.out _ _ hHeld (fun hHeld => ?_)
        clear hK K
        (try simp only [putz])
        refine WDs 9 ⟨some 30, .pick (.tmp 25) (.tmp 29) (.const (.bool false)), 4, _, #[⟨4, .data⟩, ⟨8, .data⟩], none⟩ ?vc9 ?hyc9 hHeld ?_
        case hyc9 => (intro wz hSw; (try dsimp only at hSw); go_simp; try with_reducible rfl)
        (try simp only [putz])
        have hh8 := hHeld
        clear hHeld
        refine WD_done (by kernel_rfl) ?_ _
        obtain ⟨w8, hw8⟩ : ∃ z, z = w7 := ⟨_, rfl⟩
        have hHeld : True := trivial
        have b8 : True := trivial
        have hb8 : Below wC.heap.size wC w8 := by rw [hw8]; exact hh8
        try rw [← hw8]
        clear hh8 hw8
        have BR8 := Lib.hid (bt BC.out hb8)
        have t8 := (hb8.block _ QC.out).trans TC.out
        obtain ⟨⟨y0, y1, y2, y3⟩, -⟩ := zero_cells t8
        have HVV := Lib.hid (VV.out w8 (tv T A4 c4) ⟨A4, c4, rfl, RC.out.later hb8⟩)
        unfold tv at HVV
        clear b8 hHeld hb8 t8 VV
        go_wp2_with fail
        refine HVV.out.mono ?_; rintro e w9 ⟨A9, c9, rfl, o9, b9⟩
        have BR9 := Lib.hid (bt BR8.out b9.out)
        have OW := Lib.hid (own_bl HO.out BR9.out)
        have OP := Lib.hid (own_parts o9.out)
        have hb0 := HB.out.size
        have hb9 := BR9.out.size
        have hml := HVL.out
        obtain ⟨M, hM⟩ : ∃ M, M = (varsOf T).length := ⟨_, rfl⟩
        have HM := Lib.hid hM
        rw [← hM] at OP hml ⊢
        clear o9 b9 HVV y0 y1 y2 y3 hM
        go_wp2_with (at_builtin; refine wpList_step (fun K hK => ?_); refine step_append_sl (by rfl) (.tmp 31) (.tmp 33) 26 rfl w2.heap.size TI i0 (.int .i64 0) 1 8 Tryz.underlying26 hi0 hz0 hz1 hz2 rfl (by decide) (.slice Ar q cr) q (ivs (frK St all (vs.take k))) rfl OW.out A9 M c9 (ivs (varsOf T)) rfl (by simp [ivs, HM.out]) OP.out.1 OP.out.2 ones_ivs (by unfold maxLen; omega) (by omega) (by omega) ?_; intro v10 w10 own10 gr10 at10; refine hK _ _ ?_; clear hK K)
        have HT2 := Lib.hid (show ivs (frK St all (vs.take (k + 1))) = ivs (frK St all (vs.take k)) ++ ivs (varsOf T) by rw [HT.out, HPE.out]; exact List.map_append)
        have HQ2 := Lib.hid (show q + M = (frK St all (vs.take (k + 1))).length by rw [HT.out, HPE.out, List.length_append, HM.out, ← HQ.out])
        have O10 : Hid (w10.ownsRow w2.heap.size TI 1 v10 (q + M) (ivs (frK St all (vs.take (k + 1))))) := Lib.hid (by rw [HT2.out]; exact own10)
        have B10 := Lib.hid ((HB.out.trans (BR9.out.mono HB.out.size)).grown gr10 (Nat.le_trans hb0 hb9) (fun q hq => (OW.out.lt q hq).1))
        clear own10 gr10 at10 OW OP
        go_wp2
        go_roundw
        case rel => exact ⟨k + 1, q + M, _, rfl, by omega, by go_num, HQ2.out, B10, O10⟩
        case measure => simp [intOf]; omega
    · obtain rfl : k = N := by omega
      have hge : ¬ (k : Int) < (k : Int) := by omega
      have e9 : vs.take k = vs := by rw [HN.out]; exact List.take_length
      have h9 := HO.out
      have hq9 := HQ.out
      rw [e9] at h9 hq9
      have OF := Lib.hid (own_irow h9 hq9)
      subst hq9
      clear e9 h9
      go_wp2
      go_ret
      exact ⟨Ar, cr, rfl, OF.out, bt B2.out HB.out⟩
end Go.Proofs.YtifopogkbjhkjaaGreatDoor
