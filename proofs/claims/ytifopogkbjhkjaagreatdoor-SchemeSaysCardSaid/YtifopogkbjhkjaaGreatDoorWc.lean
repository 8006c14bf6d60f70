import Derived.Test.YtifopogkbjhkjaaGreatDoorWb
import Derived.Deep.Cut
namespace Go.Proofs.YtifopogkbjhkjaaGreatDoor
open DR
open Go.ChangeShapes Go.WideShapes Go.ChangeAt Go.RowKit Go.WideMaps
set_option linter.unusedVariables false
set_option linter.unusedSimpArgs false
def ClEnv (w : World) (T : TT) (all : List Int) (e : Ending) (w' : World) : Prop := ∃ Al ca A c, e = .returned (scv Al all.length ca T A c) ∧ IRow w' Al all ∧ (∀ b o f, Al = some ⟨b, o, f⟩ → w.heap.size ≤ b) ∧ TRow w' (w.heap.size ≤ ·) A T.args ∧ Below w.heap.size w w'
/-- what free says of all the schemes of an env. -/
noncomputable def takenS (St : List TT) (E : List (List Int × TT)) : List Int := E.flatMap (fun e => frK St e.1 (varsOf e.2))
theorem takenS_take {St : List TT} {E : List (List Int × TT)} {k : Nat} (h : k < E.length) : ∀ x, x ∈ takenS St (E.take (k + 1)) ↔ x ∈ takenS St (E.take k) ∨ x ∈ frK St E[k].1 (varsOf E[k].2) := by
  intro x
  unfold takenS
  rw [List.take_succ_eq_append_getElem h, List.flatMap_append, List.mem_append]
  simp
theorem frK_range {St : List TT} (h : SInv2 St) (all vs : List Int) (hv : ∀ x ∈ vs, 0 ≤ x ∧ x ≤ 1999) : ∀ y ∈ frK St all vs, 0 ≤ y ∧ y ≤ 1999 := by
  intro y hy
  obtain ⟨x, hx, hy⟩ := List.mem_flatMap.1 hy
  have hr := hv x hx
  unfold frP at hy
  split at hy
  · cases hy
  · exact vars_in _ [] (var_nodes h hr.1 hr.2).1 (fun _ h => by cases h) y hy
theorem good_allS {V : TT} {all : List Int} (h : sgoodT V all = true) : goodT V = true := by
  unfold sgoodT at h; rw [Bool.and_eq_true] at h; exact h.1
theorem app_nodes {St : List TT} (h : SInv2 St) : ∀ (d : Nat) (V : TT), bigT (d + 1) V = false → shp V = true → nodes (apvF St V) + 1 ≤ 501 * 2 ^ d := by
  obtain ⟨rk, hr⟩ := h.inv.ok
  intro d
  induction d with
  | zero =>
    intro V hb hs
    by_cases h7 : V.k = 7
    · obtain ⟨m, hm, rfl⟩ := shp_isvar hs h7
      rw [nodes_app hr _ hs]; have := h.sz m hm; omega
    · rw [app_eq hr hs, resF_stop hr (fun e => h7 e.1)]
      have h3 := (bigT_parts hb).2.2
      cases ha : V.args with
      | nil => rw [nodes_eq]; simp [TT.args, nodesL]
      | cons a l => have := h3 a (by rw [ha]; simp); simp [bigT] at this
  | succ d ih =>
    intro V hb hs
    have hp : 1 ≤ 2 ^ d := Nat.one_le_pow _ _ (by omega)
    rw [Nat.pow_succ]
    by_cases h7 : V.k = 7
    · obtain ⟨m, hm, rfl⟩ := shp_isvar hs h7
      rw [nodes_app hr _ hs]; have := h.sz m hm; omega
    · rw [app_eq hr hs, resF_stop hr (fun e => h7 e.1)]
      have h3 := (bigT_parts hb).2.2
      have hh := shp_head hs
      rw [nodes_eq]
      show 1 + nodesL (V.args.map (apvF St)) + 1 ≤ _
      cases ha : V.args with
      | nil => simp [nodesL]; omega
      | cons a l =>
        rw [ha] at h3 hh
        have e1 := ih a (h3 a (by simp)) (hh.2.2 a (by simp))
        cases l with
        | nil => simp [nodesL]; omega
        | cons b l =>
          have e2 := ih b (h3 b (by simp)) (hh.2.2 b (by simp))
          cases l with
          | nil => simp [nodesL]; omega
          | cons c l => have := hh.2.1; simp at this
theorem app_few {St : List TT} (h : SInv2 St) {V : TT} (hb : bigT 7 V = false) (hs : shp V = true) : nodes (apvF St V) ≤ 60000 := by
  have := app_nodes h 6 V hb hs
  omega
open Classical in
/-- what Close makes of a type in an env. -/
noncomputable def closeF (St : List TT) (E : List (List Int × TT)) (V : TT) : TT × List Int :=
  if goodT V = true ∧ ∀ e ∈ E, sgoodT e.2 e.1 = true then (apvF St V, freeS (apvF St V) (takenS St E)) else (V, [])
theorem close_res {tm : Array Value} {W : World} {R : Nat} {v0 v1 v2 v3 v4 : Value} (h : tm[6]? = some (.pointer (some ⟨R, 0, none⟩))) (t0 : W.cell? ⟨R, 0, none⟩ = some v0) (t1 : W.cell? ⟨R, 1, none⟩ = some v1) (t2 : W.cell? ⟨R, 2, none⟩ = some v2) (t3 : W.cell? ⟨R, 3, none⟩ = some v3) (t4 : W.cell? ⟨R, 4, none⟩ = some v4) :
    (results Tryz.f13 tm).run Tryz.prog W = .ok (.agg #[v0, v1, v2, v3, v4]) W := by
  simp [results, Tryz.results13, go_sem, h, t0, t1, t2, t3, t4]
set_option maxRecDepth 100000 in
set_option maxHeartbeats 16000000 in
theorem close_st {V : TT} {v : Value} {sb ce B : Nat} {Ae : Option Addr} {E : List (List Int × TT)} {n : Int} {St : List TT} {Pr : Nat → Prop} {w : World} (he : SRow w Ae E) (hE : ∀ x ∈ E, bigT 7 x.2 = false ∧ x.1.length ≤ 10) (hl6 : E.length ≤ 6) (hbg : bigT 7 V = false) (hst : SInv2 St) (hS : SubS w Pr B sb n St) (h : TIn w any0 V v) :
    Calls Tryz.prog 13 #[.pointer (some ⟨sb, 0, none⟩), v, .slice Ae E.length ce] w (ClEnv w (closeF St E V).1 (closeF St E V).2) := by
  obtain ⟨i0, hi0, hz0, hz1, hz2⟩ := info_parts infoI
  have hin := h
  obtain ⟨A, c, rfl, -⟩ := h
  have CM := Lib.hid (fun W (hW : Below w.heap.size w W) => mono_any (d := 7) (by omega) hbg (hin.later hW))
  have CG := Lib.hid (fun W (hW : Below w.heap.size w W) => good_any (Nat.le_refl 7) hbg (hin.later hW))
  obtain ⟨Q, hQ⟩ : ∃ q, q = closeF St E V := ⟨_, rfl⟩
  rw [← hQ]
  have HQ := Lib.hid hQ
  obtain ⟨wB, hwB⟩ : ∃ z, z = (w.alloc (.cells #[.int .i64 V.k, .string V.nm, .int .i64 V.vr, .slice A V.args.length c] 24)).alloc (.cells #[.slice none 0 0, .int .i64 0, .string ⟨#[]⟩, .int .i64 0, .slice none 0 0] SchT) := ⟨_, rfl⟩
  have BX := two_box (w := w) (.cells #[.int .i64 V.k, .string V.nm, .int .i64 V.vr, .slice A V.args.length c] 24) (.cells #[.slice none 0 0, .int .i64 0, .string ⟨#[]⟩, .int .i64 0, .slice none 0 0] SchT)
  rw [← hwB] at BX
  have HB := Lib.hid (show Below w.heap.size w wB by rw [hwB]; exact bt (below_alloc w _) (below_alloc _ _))
  have HZ := Lib.hid (show wB.heap.size = w.heap.size + 2 by rw [hwB]; simp)
  have HX := Lib.hid BX
  obtain ⟨x0, x1, x2, x3⟩ := cell4 BX.1
  have HWB := Lib.hid hwB
  clear BX hwB hQ
  by_cases hg : goodT V = true
  case neg =>
    have hgf : goodT V = false := by simpa using hg
    have EQ := Lib.hid (show Q = (V, []) by rw [HQ.out]; unfold closeF; rw [if_neg (fun e => hg e.1)])
    rw [hgf] at CG
    unfold tv at CG CM ⊢
    clear hg hgf hbg hst hS he hE hin
    as_aux_lemma =>
    go_enter Tryz.func13, Tryz.ntmps13
    go_wp2_with fail
    rw [← HWB.out]
    try go_wp2_with fail
    refine (CG.out _ HB.out).mono ?_; rintro e w1 ⟨rfl, b1⟩
    have B1 := Lib.hid (bt HB.out b1)
    have T1 := Lib.hid ((b1.block w.heap.size (by have := HZ.out; omega)).trans HX.out.1)
    have R1 := Lib.hid ((b1.block (w.heap.size + 1) (by have := HZ.out; omega)).trans HX.out.2)
    have S1 := Lib.hid (show w.heap.size + 2 ≤ w1.heap.size by have := b1.size; have := HZ.out; omega)
    clear b1 x0 x1 x2 x3 CG
    obtain ⟨z0, z1, z2, z3⟩ := cell4 T1.out
    go_wp2_with fail
    refine (CM.out _ B1.out).mono ?_; rintro e wm ⟨Am, cm, rfl, rm, bm⟩
    have rm5 := (bm.block (w.heap.size + 1) (by have := S1.out; omega)).trans R1.out
    obtain ⟨⟨y0, y1, y2, y3, y4⟩, k0, k1, k2, k3, k4⟩ := five_cells rm5
    obtain ⟨t0, t1, t2, t3, t4⟩ := set5_cells (.slice none 0 0) (.int .i64 V.k) (.string V.nm) (.int .i64 V.vr) (.slice Am V.args.length cm) rm5
    have BM := Lib.hid (set5_below (.slice none 0 0) (.int .i64 V.k) (.string V.nm) (.int .i64 V.vr) (.slice Am V.args.length cm) (bt B1.out bm) (Nat.le_succ w.heap.size))
    have TM := Lib.hid (rm.move (w' := set5 wm (w.heap.size + 1) (.slice none 0 0) (.int .i64 V.k) (.string V.nm) (.int .i64 V.vr) (.slice Am V.args.length cm)) (P' := (w.heap.size ≤ ·)) (fun b _ hp => ⟨set5_keep wm (w.heap.size + 1) _ _ _ _ _ b (by have := S1.out; omega), by have := S1.out; omega⟩) (by rw [set5_size]; exact Nat.le_refl _))
    unfold scv
    clear rm bm rm5 z0 z1 z2 z3 CM
    go_wp2
    (try simp only [Exit.inBlock, Exit.then])
    refine bodyPost_ret (close_res rfl t0 t1 t2 t3 t4) rfl ?_
    rw [EQ.out]
    exact ⟨none, 0, Am, cm, rfl, .inl rfl, fun _ _ _ e => (by cases e), TM.out, BM.out⟩
  have hsh : shp V = true := by have q := hg; unfold goodT at q; rw [Bool.and_eq_true] at q; exact q.2
  have CA := Lib.hid (fun W (hW : Below w.heap.size w W) => applyF hbg hg hst.inv (hS.later hW) (hin.later hW))
  obtain ⟨rk, hrk⟩ := hst.inv.ok
  have hTs := app_shp hrk V hsh
  have hTn := app_few hst hbg hsh
  have hTb := big_app hst 7 V hbg hsh
  clear hrk
  have CG1 := Lib.hid (fun k (hk : k < E.length) (W : World) (Al : Option Addr) (ca : Nat) (A' : Option Addr) (c' : Nat) (ha : IRow W Al E[k].1) (hr : TRow W any0 A' E[k].2.args) => by
    have h3 := hE _ (List.getElem_mem hk)
    exact sgood_any (all := E[k].1) (Al := Al) (ca := ca) (c := c') (Nat.le_refl 7) h3.1 h3.2 ha hr)
  have CF := Lib.hid (fun k (hk : k < E.length) (hgk : sgoodT E[k].2 E[k].1 = true) (W : World) (Al : Option Addr) (ca : Nat) (A' : Option Addr) (c' : Nat) (hW : Below w.heap.size w W) (ha : IRow W Al E[k].1) (hr : TRow W any0 A' E[k].2.args) => by
    have h3 := hE _ (List.getElem_mem hk)
    exact free_st (Al := Al) (ca := ca) (c := c') h3.1 (good_shp (good_allS hgk)) hst (hS.later hW) (by omega) ha hr)
  have CN := Lib.hid (fun k (hk : k < E.length) (hgk : sgoodT E[k].2 E[k].1 = true) => by
    have h3 := hE _ (List.getElem_mem hk)
    have hsh3 : shp E[k].2 = true := good_shp (good_allS hgk)
    have h4 := vars_few 6 E[k].2 [] h3.1 hsh3
    have h5 := vars_in E[k].2 [] hsh3 (fun _ h => by cases h)
    have h6 := frK_len hst E[k].1 (varsOf E[k].2) h5
    exact (⟨by unfold varsOf at h6 ⊢; simp at h4; omega, frK_range hst _ _ h5⟩ : (frK St E[k].1 (varsOf E[k].2)).length ≤ 50000 ∧ (∀ x ∈ frK St E[k].1 (varsOf E[k].2), 0 ≤ x ∧ x ≤ 1999)))
  unfold scv at CG1 CF
  rw [hg] at CG
  have HE := Lib.hid he
  have HQY := Lib.hid (show (∀ e ∈ E, sgoodT e.2 e.1 = true) → Q = (apvF St V, freeS (apvF St V) (takenS St E)) from fun h => by rw [HQ.out]; unfold closeF; rw [if_pos ⟨hg, h⟩])
  have HQN := Lib.hid (show (∃ e ∈ E, sgoodT e.2 e.1 = false) → Q = (V, []) from fun ⟨e, he, hf⟩ => by rw [HQ.out]; unfold closeF; rw [if_neg (fun h => by have := h.2 e he; rw [hf] at this; cases this)])
  obtain ⟨T, hT⟩ : ∃ T, T = apvF St V := ⟨_, rfl⟩
  rw [← hT] at CA hTs hTn hTb HQY
  have hvf : (varsOf T).length ≤ 60000 := by have := varsT_len T []; unfold varsOf; simp at this; omega
  have HRG := Lib.hid (vars_in T [] hTs (fun _ h => by cases h))
  have CV := Lib.hid (fun W A' c' (h : TRow W any0 A' T.args) => vars_big (d := 507) (by omega) hTn hTb hTs (⟨A', c', rfl, h⟩ : TIn W any0 T (tv T A' c')))
  obtain ⟨NE, hNE⟩ : ∃ N, N = E.length := ⟨_, rfl⟩
  rw [← hNE] at hl6 ⊢
  have HNE := Lib.hid hNE
  obtain ⟨all, hall⟩ : ∃ a, a = freeS T (takenS St E) := ⟨_, rfl⟩
  have HALL := Lib.hid hall
  rw [← hall] at HQY
  have hmm := @run_makeMap Tryz.prog
  obtain ⟨vs, hvs⟩ : ∃ vs, vs = varsOf T := ⟨_, rfl⟩
  have HRG : Hid (∀ x ∈ vs, 0 ≤ x ∧ x ≤ 1999) := Lib.hid (by rw [hvs]; exact HRG.out)
  have HALL : Hid (all = ((vs.filter fun x => decide (x ∉ takenS St E)).mergeSort fun x y => decide (x ≤ y))) := Lib.hid (by rw [hvs]; exact HALL.out)
  rw [← hvs] at hvf CV
  unfold tv at CG CA CV CM ⊢
  have HVS := Lib.hid hvs
  clear hbg hsh hg hS hst hin hvs he hE hNE hall hT hTs hTn hTb HQ
  go_enter Tryz.func13, Tryz.ntmps13
  go_wp2_with fail
  rw [← HWB.out]
  try go_wp2_with fail
  refine (CG.out _ HB.out).mono ?_; rintro e w1 ⟨rfl, b1⟩
  obtain ⟨w2, hw2⟩ : ∃ z, z = w1.alloc (.map #[] 0) := ⟨_, rfl⟩
  have b2 : Below wB.heap.size wB w2 := by rw [hw2]; exact bt b1 (below_alloc w1 _)
  have HM := Lib.hid (show MN w2 w1.heap.size 0 (fun _ => none) by rw [hw2]; exact mn_made w1)
  have B2 := Lib.hid (bt HB.out b2)
  have T2 := Lib.hid ((b2.block w.heap.size (by have := HZ.out; omega)).trans HX.out.1)
  have R2 := Lib.hid ((b2.block (w.heap.size + 1) (by have := HZ.out; omega)).trans HX.out.2)
  have QM := Lib.hid (show w.heap.size + 2 ≤ w1.heap.size by have := b1.size; have := HZ.out; omega)
  obtain ⟨M, hM⟩ : ∃ M, M = w1.heap.size := ⟨_, rfl⟩
  have HW2 := Lib.hid hw2
  clear b1 b2 hw2 x0 x1 x2 x3 CG
  go_wp2
  rw [← HW2.out]
  rw [← hM] at HM QM ⊢
  clear hM HW2 hmm
  have Q2 := Lib.hid (show w.heap.size + 2 ≤ w2.heap.size ∧ M < w2.heap.size by have := QM.out; have := HM.out.lt; omega)
  obtain ⟨tk, htk⟩ : ∃ tk, tk = takenS St E := ⟨_, rfl⟩
  have HTK := Lib.hid htk
  rw [← htk] at HALL
  clear htk
  go_loopw [23] (fun i wr => ∃ (k nn : Nat) (f : Int → Option Int), k ≤ NE ∧ i = .int .i64 k ∧ nn ≤ 50000 * k ∧ Hid (∀ e ∈ E.take k, sgoodT e.2 e.1 = true) ∧ Hid (MN wr M nn f) ∧ Hid (∀ x, (f x).isSome = true ↔ x ∈ takenS St (E.take k)) ∧ Hid (∀ x y, f x = some y → 1 ≤ y ∧ y ≤ ((50000 * k : Nat) : Int)) ∧ Hid (Frm w2 wr (· = M))) (fun i _ => NE - (intOf i).toNat)
  case atStart => exact ⟨0, 0, _, by omega, by first | rfl | trivial, by omega, Lib.hid (by simp), HM, Lib.hid (fun x => by simp [takenS]), Lib.hid (fun _ _ h => by cases h), Lib.hid (Frm.refl _ _)⟩
  case round =>
    obtain ⟨k0, nn0, f0, hk0, rfl, hnn0, GD0, MP0, PA0, PB0, FM0⟩ := hrel
    have BW0 := Lib.hid (B2.out.trans (FM0.out.below (fun q hq => by have := QM.out; have : q = M := hq; omega) (by have := Q2.out; omega)))
    by_cases hlt0 : k0 < NE
    · have hlti0 : (k0 : Int) < (NE : Int) := by omega
      have hlt0' : k0 < E.length := by rw [← HNE.out]; exact hlt0
      obtain ⟨b0, o0, rfl, hb0, hr0⟩ := (HE.out.later BW0.out).resolve_left (by rw [← HNE.out]; omega)
      obtain ⟨Al0, ca0, A0, c0, z0, z1, z2, z3, z4, ir0, tr0⟩ := hr0 k0 hlt0'
      have CG2 := Lib.hid (fun W (hW : Below wr.heap.size wr W) => CG1.out k0 hlt0' W Al0 ca0 A0 c0 (ir0.later hW) (tr0.later hW))
      have CF2 := Lib.hid (fun hgk W (hW : Below wr.heap.size wr W) => CF.out k0 hlt0' hgk W Al0 ca0 A0 c0 (bt BW0.out hW) (ir0.later hW) (tr0.later hW))
      have CN2 := Lib.hid (CN.out k0 hlt0')
      have HTE := Lib.hid (takenS_take (St := St) hlt0')
      have HTG := Lib.hid (show sgoodT E[k0].2 E[k0].1 = true → ∀ e ∈ E.take (k0 + 1), sgoodT e.2 e.1 = true from fun hgk e he => by
        rw [List.take_succ_eq_append_getElem hlt0', List.mem_append, List.mem_singleton] at he
        rcases he with he | he
        · exact GD0.out e he
        · rw [he]; exact hgk)
      have HMEM := Lib.hid (List.getElem_mem hlt0')
      obtain ⟨X, hX⟩ : ∃ X, X = E[k0].2 := ⟨_, rfl⟩
      obtain ⟨Y, hY⟩ : ∃ Y, Y = E[k0].1 := ⟨_, rfl⟩
      have HXY := Lib.hid (show E[k0] = (Y, X) by rw [hX, hY])
      rw [← hX] at z1 z2 z3 z4 CG2 CF2 CN2 HTE HTG
      rw [← hY] at z0 CG2 CF2 CN2 HTE HTG
      rw [HXY.out] at HMEM
      obtain ⟨us, hus⟩ : ∃ us, us = frK St Y (varsOf X) := ⟨_, rfl⟩
      rw [← hus] at CF2 CN2 HTE
      have hx9 := heap_alloc_new wr (.cells #[.slice Al0 Y.length ca0, .int .i64 X.k, .string X.nm, .int .i64 X.vr, .slice A0 X.args.length c0] SchT)
      obtain ⟨wE, hwE⟩ : ∃ z, z = wr.alloc (.cells #[.slice Al0 Y.length ca0, .int .i64 X.k, .string X.nm, .int .i64 X.vr, .slice A0 X.args.length c0] SchT) := ⟨_, rfl⟩
      rw [← hwE] at hx9
      have BE := Lib.hid (show Below wr.heap.size wr wE by rw [hwE]; exact below_alloc _ _)
      have HE9 := Lib.hid hx9
      have HWE := Lib.hid hwE
      clear hx9 hwE hr0 hb0 hX hY hus tr0 ir0
      go_wp2_with fail
      rw [← HWE.out]
      try go_wp2_with fail
      cases hgk : sgoodT X Y with
      | false =>
        have EQ := Lib.hid (HQN.out ⟨(Y, X), HMEM.out, hgk⟩)
        rw [hgk] at CG2
        have TB0 := Lib.hid ((FM0.out.block w.heap.size (by have := Q2.out; omega) (by show ¬ w.heap.size = M; have := QM.out; omega)).trans T2.out)
        have RB0 := Lib.hid ((FM0.out.block (w.heap.size + 1) (by have := Q2.out; omega) (by show ¬ w.heap.size + 1 = M; have := QM.out; omega)).trans R2.out)
        have SB0 := Lib.hid (show w.heap.size + 2 ≤ wr.heap.size by have := Q2.out; have := FM0.out.size; omega)
        clear hgk HQN HQY HALL CN CN2 CF CF2 CG1 HTG HTE
        as_aux_lemma =>
        refine (CG2.out _ BE.out).mono ?_; rintro e w4 ⟨rfl, b4⟩
        have B4 := Lib.hid (bt BW0.out (bt BE.out b4))
        have bw4 := bt BE.out b4
        have T4 := Lib.hid ((bw4.block w.heap.size (by have := SB0.out; omega)).trans TB0.out)
        have R4 := Lib.hid ((bw4.block (w.heap.size + 1) (by have := SB0.out; omega)).trans RB0.out)
        have S4 := Lib.hid (show w.heap.size + 2 ≤ w4.heap.size by have := bw4.size; have := SB0.out; omega)
        clear b4 bw4 CG2 z0 z1 z2 z3 z4
        obtain ⟨z0, z1, z2, z3⟩ := cell4 T4.out
        go_wp2_with fail
        refine (CM.out _ B4.out).mono ?_; rintro e wm ⟨Am, cm, rfl, rm, bm⟩
        have rm5 := (bm.block (w.heap.size + 1) (by have := S4.out; omega)).trans R4.out
        obtain ⟨⟨y0, y1, y2, y3, y4⟩, k0, k1, k2, k3, k4⟩ := five_cells rm5
        obtain ⟨t0, t1, t2, t3, t4⟩ := set5_cells (.slice none 0 0) (.int .i64 V.k) (.string V.nm) (.int .i64 V.vr) (.slice Am V.args.length cm) rm5
        have BM := Lib.hid (set5_below (.slice none 0 0) (.int .i64 V.k) (.string V.nm) (.int .i64 V.vr) (.slice Am V.args.length cm) (bt B4.out bm) (Nat.le_succ w.heap.size))
        have TM := Lib.hid (rm.move (w' := set5 wm (w.heap.size + 1) (.slice none 0 0) (.int .i64 V.k) (.string V.nm) (.int .i64 V.vr) (.slice Am V.args.length cm)) (P' := (w.heap.size ≤ ·)) (fun b _ hp => ⟨set5_keep wm (w.heap.size + 1) _ _ _ _ _ b (by have := S4.out; omega), by have := S4.out; omega⟩) (by rw [set5_size]; exact Nat.le_refl _))
        unfold scv
        clear rm bm rm5 z0 z1 z2 z3 CM
        go_wp2
        (try simp only [Exit.inBlock, Exit.then])
        refine bodyPost_ret (close_res rfl t0 t1 t2 t3 t4) rfl ?_
        rw [EQ.out]
        exact ⟨none, 0, Am, cm, rfl, .inl rfl, fun _ _ _ e => (by cases e), TM.out, BM.out⟩
      | true =>
      rw [hgk] at CG2
      have CF2 := Lib.hid (CF2.out hgk)
      have HTG := Lib.hid (HTG.out hgk)
      obtain ⟨hn99, hn1⟩ := CN2.out hgk
      have HRG0 := Lib.hid hn1
      clear hgk hn1 CN2
      refine (CG2.out _ BE.out).mono ?_; rintro e w4 ⟨rfl, b4⟩
      have B4 := Lib.hid (bt BE.out b4)
      have h4 := (b4.block _ (Array.getElem?_eq_some_iff.1 HE9.out).1).trans HE9.out
      obtain ⟨⟨y0, y1, y2, y3, y4⟩, -⟩ := five_cells h4
      clear b4 h4 z0 z1 z2 z3 z4
      go_wp2_with fail
      refine (CF2.out _ B4.out).mono ?_; rintro e w6 ⟨Af, cf, rfl, if6, b6⟩
      have B6 := Lib.hid (bt B4.out b6)
      have IF6 := Lib.hid if6
      clear b6 if6 y0 y1 y2 y3 y4 CG2 CF2
      have F6 := Lib.hid (Frm.of_below B6.out (Nat.le_refl _) (· = M))
      have M6 := Lib.hid (MP0.out.below B6.out)
      obtain ⟨N, hN⟩ : ∃ N, N = us.length := ⟨_, rfl⟩
      rw [← hN] at hn99 ⊢
      have HN := Lib.hid hN
      clear hN
      go_wp2
      go_loopw [36] (fun i wr => ∃ (k nn : Nat) (f : Int → Option Int), k ≤ N ∧ i = .int .i64 k ∧ nn ≤ 50000 * k0 + k ∧ Hid (MN wr M nn f) ∧ Hid (∀ x, (f x).isSome = true ↔ x ∈ takenS St (E.take k0) ∨ x ∈ us.take k) ∧ Hid (∀ x y, f x = some y → 1 ≤ y ∧ y ≤ ((50000 * k0 + k : Nat) : Int)) ∧ Hid (Frm w6 wr (· = M))) (fun i _ => N - (intOf i).toNat)
      case atStart => exact ⟨0, nn0, f0, by omega, by first | rfl | trivial, by omega, M6, Lib.hid (fun x => by rw [PA0.out x]; simp), Lib.hid (fun x y h => by have := PB0.out x y h; omega), Lib.hid (Frm.refl _ _)⟩
      case round =>
        obtain ⟨k, nn, f, hk, rfl, hnn, MP, PA, PB, FM⟩ := hrel
        by_cases hlt : k < N
        · have hlti : (k : Int) < (N : Int) := by omega
          have hlt' : k < us.length := by rw [← HN.out]; exact hlt
          have hrange := HRG0.out _ (List.getElem_mem hlt')
          have HT := Lib.hid (show us.take (k + 1) = us.take k ++ [us[k]] from List.take_succ_eq_append_getElem hlt')
          obtain ⟨b, o, rfl, hb, hr⟩ : ∃ b o, Af = some ⟨b, o, none⟩ ∧ b < w6.heap.size ∧ ∀ j (h : j < us.length), w6.cell? ⟨b, o + j, none⟩ = some (.int .i64 us[j]) := IF6.out.resolve_left (by rw [← HN.out]; omega)
          have hbM : b ≠ M := fun e => by
            have h1 := hr k hlt'
            obtain ⟨D, hown, _⟩ := M6.out
            have h2 := M6.out.no_row (cur := #[]) (t := 0) (fr := (0, 0))
            subst e
            unfold World.cell? at h1
            split at h1
            · rename_i cur t fr heq
              exact M6.out.no_row heq
            · cases h1
          have x0 : wr.cell? ⟨b, o + k, none⟩ = some (.int .i64 us[k]) := (World.cell?_of_block (FM.out.block b hb hbM)).trans (hr k hlt')
          obtain ⟨x, hx⟩ : ∃ x, x = us[k] := ⟨_, rfl⟩
          rw [← hx] at x0 hrange HT
          obtain ⟨D, hown, hD, hhas, hat⟩ := MP.out
          have hkey := Maps.keyOf_int_mk (P := Tryz.prog) Tryz.underlying3 (wf_int (show -9223372036854775808 ≤ x by omega) (by omega))
          have CLB : Hid (∀ cc : Int, D.atKey (.int .i64 x) (.lit (.int .i64 0)) = .lit (.int .i64 cc) → 0 ≤ cc ∧ cc ≤ ((50000 * k0 + k : Nat) : Int)) := Lib.hid (fun cc hcc => by
            cases hf : f x with
            | none =>
              have hh : Maps.has D (.int .i64 x) = false := by rw [hhas x, hf]; rfl
              rw [Maps.atKey_of_not_has hh] at hcc
              injection hcc with hcc; injection hcc with _ hcc
              omega
            | some y =>
              have := mn_found (hat x y hf) hcc
              have := PB.out x y hf
              omega)
          clear hr hb hbM hx
          go_upto_region 12 with (fail)
          refine wp_region_lit ?_
          (refine wpList_step (fun K hK => ?_); rw [if_pos (by rfl)]; go_simp; refine hK _ _ ?_; clear hK K; (try simp only [Act.put, List.setIfInBounds_toArray, List.set_cons_zero, List.set_cons_succ]))
          (refine wpList_step (fun K hK => ?_); rw [if_pos (by rfl)]; go_simp; refine hK _ _ ?_; clear hK K; (try simp only [Act.put, List.setIfInBounds_toArray, List.set_cons_zero, List.set_cons_succ]))
          refine wpList_lookup_own_int _ rfl (.tmp 40) (.tmp 41) 70 rfl TI TI .i64 law3 Tryz.underlying70 Tryz.underlying3 (zero3 _) M nn D rfl hown _ _ rfl hkey ?_
          intro cL hatc hwc
          (try simp only [Act.put, List.setIfInBounds_toArray, List.set_cons_zero, List.set_cons_succ])
          obtain ⟨cl0, cl1⟩ := CLB.out cL hatc
          have wc : IntKind.i64.wrap (cL + 1) = cL + 1 := IntWalk.i64_in _ (by omega)
          (refine wpList_step (fun K hK => ?_); rw [if_pos (by rfl)]; go_simp; refine hK _ _ ?_; clear hK K; (try simp only [Act.put, List.setIfInBounds_toArray, List.set_cons_zero, List.set_cons_succ]))
          refine wpList_step (fun K hK => ?_)
          rw [if_pos (by rfl)]
          refine wp_map_put (.tmp 40) (.tmp 41) (.tmp 43) 70 rfl TI TI law3 Tryz.underlying70 _ M nn D rfl hown (by unfold maxLen; omega) _ _ _ rfl rfl hkey _ [] (plainElem_int (H := Unit) Tryz.underlying3 (wf_int (show -9223372036854775808 ≤ cL + 1 by omega) (by omega))) ?_
          intro w7 hown7 gr7
          have MP7 := Lib.hid (mn_step hD hhas hat hown7)
          have PA7 : Hid (∀ z, (putF f x (cL + 1) z).isSome = true ↔ z ∈ takenS St (E.take k0) ∨ z ∈ us.take (k + 1)) := Lib.hid (fun z => by
            unfold putF
            rw [HT.out, List.mem_append, List.mem_singleton]
            by_cases e : z = x
            · rw [if_pos e]; simp [e]
            · rw [if_neg e, PA.out z]; simp [e])
          have PB7 : Hid (∀ z y, putF f x (cL + 1) z = some y → 1 ≤ y ∧ y ≤ ((50000 * k0 + (k + 1) : Nat) : Int)) := Lib.hid (fun z y h => by
            unfold putF at h
            split at h
            · injection h with h; omega
            · have := PB.out z y h; omega)
          have FM7 : Hid (Frm w6 w7 (· = M)) := Lib.hid (FM.out.trans (Frm.of_grown gr7 (fun q hq => by injection hq with hq; exact hq.symm)))
          refine hK _ _ ?_
          clear hK K hown7 gr7 hown hD hhas hat CLB MP PA PB FM hatc hwc hkey
          (try simp only [Act.put, List.setIfInBounds_toArray, List.set_cons_zero, List.set_cons_succ])
          go_wp2
          go_roundw
          case rel => exact ⟨k + 1, nn + 1, _, by omega, by go_num, by omega, MP7, PA7, PB7, FM7⟩
          case measure => simp [intOf]; omega
        · obtain rfl : k = N := by omega
          have hge : ¬ (k : Int) < (k : Int) := by omega
          have PAF : Hid (∀ x, (f x).isSome = true ↔ x ∈ takenS St (E.take (k0 + 1))) := Lib.hid (fun x => by rw [PA.out x, HTE.out x, HN.out, List.take_length])
          have PBF : Hid (∀ x y, f x = some y → 1 ≤ y ∧ y ≤ ((50000 * (k0 + 1) : Nat) : Int)) := Lib.hid (fun x y h => by have := PB.out x y h; omega)
          go_wp2
          go_roundw
          case rel => exact ⟨k0 + 1, nn, f, by omega, by go_num, by omega, HTG, MP, PAF, PBF, Lib.hid ((FM0.out.trans F6.out).trans FM.out)⟩
          case measure => simp [intOf]; omega
    · obtain rfl : k0 = NE := by omega
      have hge0 : ¬ (k0 : Int) < (k0 : Int) := by omega
      have PF : Hid (∀ x, (f0 x).isSome = true ↔ x ∈ tk) := Lib.hid (fun x => by rw [PA0.out x, HNE.out, List.take_length, HTK.out])
      have P1 : Hid (∀ x y, f0 x = some y → 1 ≤ y) := Lib.hid (fun x y h => (PB0.out x y h).1)
      have HQF := Lib.hid (HQY.out (by have := GD0.out; rw [HNE.out, List.take_length] at this; exact this))
      have HMW := MP0
      obtain ⟨nn, hnn⟩ : ∃ q, q = nn0 := ⟨_, rfl⟩
      rw [← hnn] at HMW
      obtain ⟨f, hff⟩ : ∃ q, q = f0 := ⟨_, rfl⟩
      rw [← hff] at HMW PF P1
      have TW2 := Lib.hid ((FM0.out.block w.heap.size (by have := Q2.out; omega) (by show ¬ w.heap.size = M; have := QM.out; omega)).trans T2.out)
      have RW2 := Lib.hid ((FM0.out.block (w.heap.size + 1) (by have := Q2.out; omega) (by show ¬ w.heap.size + 1 = M; have := QM.out; omega)).trans R2.out)
      have BW2 := BW0
      clear hnn hff MP0 PA0 PB0 CG1 CF CN HNE HQY HQN GD0 CM
      obtain ⟨z0, z1, z2, z3⟩ := cell4 TW2.out
      go_wp2_with fail
      refine (CA.out _ BW2.out).mono ?_; rintro e w3 ⟨A3, c3, rfl, r3, b3⟩
      obtain ⟨w4, hw4⟩ : ∃ z, z = w3.alloc (.cells #[.slice none 0 0, .int .i64 T.k, .string T.nm, .int .i64 T.vr, .slice A3 T.args.length c3] SchT) := ⟨_, rfl⟩
      have hB4 : Below w3.heap.size w3 w4 := by rw [hw4]; exact below_alloc _ _
      have B4 := Lib.hid (bt b3 hB4)
      have HC4 := Lib.hid (show w4.heap[w3.heap.size]? = some (.cells #[.slice none 0 0, .int .i64 T.k, .string T.nm, .int .i64 T.vr, .slice A3 T.args.length c3] SchT (0, 0)) by rw [hw4]; exact heap_alloc_new w3 _)
      have R4 := Lib.hid (r3.later hB4)
      have R4' := Lib.hid (r3.move (P' := fun b => wr.heap.size ≤ b ∧ b < w3.heap.size) (fun b hb hp => ⟨rfl, hp, hb⟩) (Nat.le_refl _))
      have Q34 := Lib.hid (show wr.heap.size ≤ w3.heap.size ∧ w3.heap.size < w4.heap.size from ⟨b3.size, by rw [hw4]; simp⟩)
      have HW4 := Lib.hid hw4
      have HVV := Lib.hid (CV.out w4 A3 c3 (R4.out.weak (fun _ _ _ => trivial)))
      clear b3 r3 hw4 hB4 CA CV z0 z1 z2 z3
      obtain ⟨bc, hbc⟩ : ∃ b, b = w3.heap.size := ⟨_, rfl⟩
      unfold tv
      go_wp2_with fail
      rw [← HW4.out, ← hbc]
      rw [← hbc] at HC4 Q34 R4'
      refine HVV.out.mono ?_; rintro e w5 ⟨A5, c5, rfl, o5, b5⟩
      have O5 := Lib.hid o5.out
      have HC5 := Lib.hid ((b5.out.block bc Q34.out.2).trans HC4.out)
      have Q5 := Lib.hid (show wr.heap.size ≤ bc ∧ bc < w4.heap.size ∧ w4.heap.size ≤ w5.heap.size from ⟨Q34.out.1, Q34.out.2, b5.out.size⟩)
      have BB5 := Lib.hid (show Below wr.heap.size wr w5 from bt B4.out b5.out)
      have QW := Lib.hid (show w.heap.size + 2 ≤ wr.heap.size by have := QM.out; have := HMW.out.lt; omega)
      have M5 := Lib.hid (HMW.out.below BB5.out)
      have T5 := Lib.hid (show TRow w5 (fun b => wr.heap.size ≤ b ∧ b < bc) A3 T.args from R4'.out.move (fun b hb hp => ⟨((show Below w3.heap.size w3 w5 from (by rw [HW4.out] at b5; exact bt (below_alloc _ _) b5.out)).block b hb), hp⟩) (by have := Q5.out; rw [hbc] at this; omega))
      have QB := Lib.hid (show w.heap.size + 2 ≤ bc ∧ M < bc ∧ bc < w5.heap.size by have := QW.out; have := Q5.out; have := HMW.out.lt; omega)
      have T5 := Lib.hid (T5.out.weak (P' := fun b => w.heap.size + 2 ≤ b ∧ b < bc) (fun b _ hp => ⟨Nat.le_trans QW.out hp.1, hp.2⟩))
      have R5 := Lib.hid ((BB5.out.block (w.heap.size + 1) (by have := QW.out; omega)).trans RW2.out)
      have BW5 := Lib.hid (bt BW2.out BB5.out)
      obtain ⟨N, hN⟩ : ∃ N, N = vs.length := ⟨_, rfl⟩
      rw [← hN] at hvf O5 ⊢
      have HN := Lib.hid hN
      clear o5 b5 HVV hN hbc
      obtain ⟨⟨z0, z1, z2, z3, z4⟩, -⟩ := five_cells HC5.out
      go_wp2
      clear z0 z1 z2 z3 z4
      go_loopw [54] (fun i wr => ∃ (k m : Nat) (Al : Option Addr) (ca : Nat), k ≤ N ∧ m ≤ k ∧ i = .int .i64 k ∧ Hid (wr.heap[bc]? = some (.cells #[.slice Al m ca, .int .i64 T.k, .string T.nm, .int .i64 T.vr, .slice A3 T.args.length c3] SchT (0, 0))) ∧ Hid (wr.ownsRow w5.heap.size TI 1 (.slice Al m ca) m (ivs (flt tk vs k))) ∧ Hid (Frm w5 wr (· = bc))) (fun i _ => N - (intOf i).toNat)
      case atStart => exact ⟨0, 0, none, 0, by omega, by omega, by first | rfl | trivial, HC5, Lib.hid (World.ownsRow_nil _ _ _ _), Lib.hid (Frm.refl _ _)⟩
      case round =>
        obtain ⟨k, m, Al, ca, hk, hmk, rfl, HC, HO, FM⟩ := hrel
        have hBo := FM.out.size
        have hnb : ∀ q, (Value.slice Al m ca).ownBlock = some q → q ≠ bc := fun q hq e => by
          have := (HO.out.lt q hq).1
          have := QB.out
          omega
        by_cases hlt : k < N
        · have hlti : (k : Int) < (N : Int) := by omega
          have hlt' : k < vs.length := by rw [← HN.out]; exact hlt
          have OV := own_frm O5.out FM.out (fun q hq e => by have := (O5.out.lt q hq).1; have := Q5.out; have : q = bc := e; omega)
          obtain ⟨b, o, rfl, hb, hr⟩ : ∃ b o, A5 = some ⟨b, o, none⟩ ∧ b < wr.heap.size ∧ ∀ j (h : j < vs.length), wr.cell? ⟨b, o + j, none⟩ = some (.int .i64 vs[j]) := (own_irow OV HN.out).resolve_left (by rw [← HN.out]; omega)
          have x0 := hr k hlt'
          have hrange := HRG.out _ (List.getElem_mem hlt')
          by_cases hin : vs[k] ∈ tk
          · have HT := Lib.hid (flt_no hlt' hin)
            obtain ⟨x, hx⟩ : ∃ x, x = vs[k] := ⟨_, rfl⟩
            rw [← hx] at x0 hrange hin
            obtain ⟨y, hfy⟩ := Option.isSome_iff_exists.1 ((PF.out x).2 hin)
            have hy1 := P1.out x y hfy
            have MW : MN wr M nn f := M5.out.frm FM.out (by show ¬ M = bc; have := QB.out; omega)
            obtain ⟨D, hown, hD, hhas, hat⟩ := MW
            have hkey := Maps.keyOf_int_mk (P := Tryz.prog) Tryz.underlying3 (wf_int (show -9223372036854775808 ≤ x by omega) (by omega))
            have CLY := Lib.hid (fun (cc : Int) (hcc : D.atKey (.int .i64 x) (.lit (.int .i64 0)) = .lit (.int .i64 cc)) => mn_found (hat x y hfy) hcc)
            have qy : (y == 0) = false := beq_eq_false_iff_ne.2 (by omega)
            have HOF : Hid (wr.ownsRow w5.heap.size TI 1 (.slice Al m ca) m (ivs (flt tk vs (k + 1)))) := Lib.hid (by rw [HT.out]; exact HO.out)
            clear hr hb hx hD hhas hat hfy hnb OV HO
            go_wp2_with (first
              | (at_lookup; refine wpList_lookup_own_int _ rfl _ _ 70 rfl TI TI .i64 law3 Tryz.underlying70 Tryz.underlying3 (zero3 _) M nn D rfl hown _ _ rfl hkey ?_; intro cL hatc hwc; obtain rfl := CLY.out cL hatc; clear hatc hwc CLY)
              | fail)
            go_roundw
            case rel => exact ⟨k + 1, m, _, _, by omega, by omega, by go_num, HC, HOF, FM⟩
            case measure => simp [intOf]; omega
          · have HT := Lib.hid (flt_yes hlt' hin)
            obtain ⟨x, hx⟩ : ∃ x, x = vs[k] := ⟨_, rfl⟩
            rw [← hx] at x0 hrange HT hin
            have MW : MN wr M nn f := M5.out.frm FM.out (by show ¬ M = bc; have := QB.out; omega)
            obtain ⟨D, hown, hD, hhas, hat⟩ := MW
            have hkey := Maps.keyOf_int_mk (P := Tryz.prog) Tryz.underlying3 (wf_int (show -9223372036854775808 ≤ x by omega) (by omega))
            have hh : Maps.has D (.int .i64 x) = false := by rw [hhas x]; cases hq : f x with | none => rfl | some y => exact absurd ((PF.out x).1 (by rw [hq]; rfl)) hin
            have CL0 : Hid (∀ cc : Int, D.atKey (.int .i64 x) (.lit (.int .i64 0)) = .lit (.int .i64 cc) → cc = 0) := Lib.hid (fun cc hcc => by
              rw [Maps.atKey_of_not_has hh] at hcc
              injection hcc with hcc; injection hcc with _ hcc; exact hcc.symm)
            have z0 := (five_cells HC.out).1.1
            have HNB := Lib.hid hnb
            have hcl : (wr.alloc (.cells #[.int .i64 x] TI)).heap[bc]? = some (.cells #[.slice Al m ca, .int .i64 T.k, .string T.nm, .int .i64 T.vr, .slice A3 T.args.length c3] SchT (0, 0)) := by
              rw [Below.heap_alloc wr _ _ (Array.getElem?_eq_some_iff.1 HC.out).1]; exact HC.out
            have HCL := Lib.hid hcl
            have z1 := (five_cells hcl).1.1
            clear hr hb hx hD hhas hat hcl hnb OV
            go_wp2_with (first
              | (at_lookup; refine wpList_lookup_own_int _ rfl _ _ 70 rfl TI TI .i64 law3 Tryz.underlying70 Tryz.underlying3 (zero3 _) M nn D rfl hown _ _ rfl hkey ?_; intro cL hatc hwc; obtain rfl := CL0.out cL hatc; clear hatc hwc CL0)
              | (at_builtin; refine wpList_append_lies _ rfl (.tmp 63) (.tmp 65) 26 rfl w5.heap.size TI i0 (.int .i64 0) 1 8 Tryz.underlying26 hi0 hz0 hz1 hz2 rfl (by decide) (.slice Al m ca) m (ivs (flt tk vs k)) rfl (HO.out.alloc _) ⟨wr.heap.size, 0, none⟩ 1 1 [.int .i64 x] rfl rfl (World.news_of_block (cs := #[.int .i64 x]) (t := TI) (fr := (0, 0)) (heap_alloc_new _ _)) (by simp [Value.oneCell']) (by omega) (by unfold maxLen; omega) (by omega) (by simp; omega) (wr.heap.size + 1) (by simp) ?_; intro g cap w7 own7 gr7 at7 hlt7; have h7 : w7.heap[bc]? = some (.cells #[.slice Al m ca, .int .i64 T.k, .string T.nm, .int .i64 T.vr, .slice A3 T.args.length c3] SchT (0, 0)) := ((gr7.block bc (by simp; have := (Array.getElem?_eq_some_iff.1 HC.out).1; omega) (fun e => HNB.out bc e.symm rfl)).trans HCL.out); have z7 := (five_cells h7).1.1; have f7 := (five_cells h7).2.1)
              | fail)
            have hgne : (Value.slice (some ⟨g, 0, none⟩) (m + 1) cap).ownBlock ≠ some bc := fun e => by
              obtain ⟨cur, hc⟩ := own_type own7 e
              rw [h7] at hc; injection hc with hc; injection hc with _ hc; cases hc
            have fs : Frm w7 (w7.setCell ⟨bc, 0, none⟩ (.slice (some ⟨g, 0, none⟩) (m + 1) cap)) (· = bc) := frm_set 0 _ rfl
            have HC8 : Hid ((w7.setCell ⟨bc, 0, none⟩ (.slice (some ⟨g, 0, none⟩) (m + 1) cap)).heap[bc]? = some (.cells #[.slice (some ⟨g, 0, none⟩) (m + 1) cap, .int .i64 T.k, .string T.nm, .int .i64 T.vr, .slice A3 T.args.length c3] SchT (0, 0))) := Lib.hid (by simp [World.setCell, Array.getElem?_modify, h7])
            have HO8 : Hid ((w7.setCell ⟨bc, 0, none⟩ (.slice (some ⟨g, 0, none⟩) (m + 1) cap)).ownsRow w5.heap.size TI 1 (.slice (some ⟨g, 0, none⟩) (m + 1) cap) (m + 1) (ivs (flt tk vs (k + 1)))) := Lib.hid (by rw [HT.out]; exact own_frm own7 fs (fun q hq e => hgne (e ▸ hq)))
            have FM8 : Hid (Frm w5 (w7.setCell ⟨bc, 0, none⟩ (.slice (some ⟨g, 0, none⟩) (m + 1) cap)) (· = bc)) := Lib.hid (((FM.out.trans (Frm.of_below (below_alloc wr _) (Nat.le_refl _) _)).trans' (Frm.of_grown (R := fun q => (Value.slice Al m ca).ownBlock = some q) gr7 (fun q h => h)) (fun q hq h => by have := (HO.out.lt q h).1; omega)).trans fs)
            go_roundw
            case rel => exact ⟨k + 1, m + 1, _, _, by omega, by omega, by go_num, HC8, HO8, FM8⟩
            case measure => simp [intOf]; omega
        · obtain rfl : k = N := by omega
          have HOw := Lib.hid (show all = ((flt tk vs k).mergeSort fun x y => decide (x ≤ y)) by rw [HALL.out, HN.out]; unfold flt; rw [List.take_length])
          have HML := Lib.hid (show m = (flt tk vs k).length by have := HO.out.1; rw [ivs_len] at this; omega)
          have hge : ¬ (k : Int) < (k : Int) := by omega
          have z0 := (five_cells HC.out).1.1
          have SO := Lib.hid (sort_gen (w := wr) (by rw [← HML.out]; omega) HO.out)
          have HNB := Lib.hid hnb
          have LT := Lib.hid (fun q hq => (HO.out.lt q hq).1)
          clear hnb
          go_wp2_with fail
          refine SO.out.mono ?_; rintro e w9 ⟨rfl, gr9, own9⟩
          rw [← HOw.out] at own9
          have h9 : w9.heap[bc]? = some (.cells #[.slice Al m ca, .int .i64 T.k, .string T.nm, .int .i64 T.vr, .slice A3 T.args.length c3] SchT (0, 0)) := (gr9.block bc (Array.getElem?_eq_some_iff.1 HC.out).1 (fun e => HNB.out bc e.symm rfl)).trans HC.out
          have hr9 : w9.heap[w.heap.size + 1]? = some (.cells #[.slice none 0 0, .int .i64 0, .string ⟨#[]⟩, .int .i64 0, .slice none 0 0] SchT (0, 0)) := by
            have q1 := QB.out
            rw [gr9.block _ (by omega) (fun e => by have := LT.out _ e.symm; omega), FM.out.block _ (by omega) (by show ¬ w.heap.size + 1 = bc; omega)]
            exact R5.out
          have B9 : Below w.heap.size w w9 := (BW5.out.trans (FM.out.below (fun q hq => by have := QB.out; have : q = bc := hq; omega) (by have := QB.out; omega))).grown gr9 (by have := QB.out; omega) (fun q hq => by have := LT.out q hq; have := QB.out; omega)
          have T9 : TRow w9 (fun b => w.heap.size + 2 ≤ b ∧ b < bc) A3 T.args := T5.out.move (fun b hb hp => ⟨(gr9.block b (by omega) (fun e => by have := LT.out _ e.symm; omega)).trans (FM.out.block b hb (by show ¬ b = bc; omega)), hp⟩) (Nat.le_trans hBo gr9.size)
          obtain ⟨⟨a0, a1, a2, a3, a4⟩, -⟩ := five_cells h9
          obtain ⟨⟨y0, y1, y2, y3, y4⟩, k0, k1, k2, k3, k4⟩ := five_cells hr9
          obtain ⟨t0, t1, t2, t3, t4⟩ := set5_cells (.slice Al m ca) (.int .i64 T.k) (.string T.nm) (.int .i64 T.vr) (.slice A3 T.args.length c3) hr9
          have M1 := Lib.hid (set5_below (.slice Al m ca) (.int .i64 T.k) (.string T.nm) (.int .i64 T.vr) (.slice A3 T.args.length c3) B9 (Nat.le_succ w.heap.size))
          have M2 := Lib.hid (T9.move (w' := set5 w9 (w.heap.size + 1) (.slice Al m ca) (.int .i64 T.k) (.string T.nm) (.int .i64 T.vr) (.slice A3 T.args.length c3)) (P' := (w.heap.size ≤ ·)) (fun b _ hp => ⟨set5_keep w9 (w.heap.size + 1) _ _ _ _ _ b (by omega), by omega⟩) (by rw [set5_size]; exact Nat.le_refl _))
          have M3 := Lib.hid (own_irow (own_frm own9 (set5_frm w9 (w.heap.size + 1) (.slice Al m ca) (.int .i64 T.k) (.string T.nm) (.int .i64 T.vr) (.slice A3 T.args.length c3)) (fun q hq e => by have h1 := LT.out q hq; have h2 := QB.out; have h3 : q = w.heap.size + 1 := e; omega)) (by have := own9.1; rw [ivs_len] at this; omega))
          have M4 := Lib.hid (show ∀ b o f, Al = some ⟨b, o, f⟩ → w.heap.size ≤ b from fun b o f e => by subst e; have h1 := LT.out b rfl; have h2 := QB.out; omega)
          have HLL := Lib.hid (show all.length = m by have := own9.1; rw [ivs_len] at this; omega)
          clear gr9 own9 h9 hr9 B9 T9 SO z0
          go_wp2
          (try simp only [Exit.inBlock, Exit.then])
          refine bodyPost_ret (close_res rfl t0 t1 t2 t3 t4) rfl ?_
          rw [HQF.out]
          exact ⟨Al, ca, A3, c3, by rw [HLL.out]; rfl, M3.out, M4.out, M2.out, M1.out⟩end Go.Proofs.YtifopogkbjhkjaaGreatDoor
