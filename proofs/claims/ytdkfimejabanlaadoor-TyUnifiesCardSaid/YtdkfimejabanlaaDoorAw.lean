import Derived.Test.YtdkfimejabanlaaDoorYu
import Derived.Test.YtdkfimejabanlaaDoorSf
namespace Go.Proofs.YtdkfimejabanlaaDoor
open DR
open Go.ChangeShapes Go.WideShapes Go.ChangeAt Go.RowKit Go.WideMaps
set_option linter.unusedVariables false
set_option linter.unusedSimpArgs false
def tI : TT := .mk 1 ⟨#[]⟩ 0 []
def tB : TT := .mk 2 ⟨#[]⟩ 0 []
def tF (V U : TT) : TT := .mk 5 ⟨#[]⟩ 0 [V, U]
theorem app_nil : ∀ t, shp t = true → apvF [] t = t := by
  obtain ⟨rk, hr⟩ := sinv_nil.ok
  refine res_ind hr ?_
  intro t ht ih
  rw [app_eq hr ht, resF_nil]
  rw [resF_nil] at ih
  have e : t.args.map (apvF []) = t.args := by
    have : t.args.map (apvF []) = t.args.map id := List.map_congr_left (fun a ha => ih a ha)
    rw [this, List.map_id]
  rw [e, ← TT.eta]
theorem fsz_leaf {St : List TT} {rk : Int → Nat} (hr : StOk St rk) {t : TT} (ht : shp t = true) (hb : ¬ bnd St t) (ha : t.args = []) : fsz St t = 1 := by
  rw [fsz_eq hr ht, resF_stop hr hb, ha]; rfl
theorem no_occ {St : List TT} {v : Int} {t : TT} (h7 : t.k ≠ 7) (ha : t.args = []) : ¬ Occ St v t := fun h => by
  rw [occ_args h7, ha] at h
  obtain ⟨a, ha, _⟩ := h
  cases ha
theorem awake_uni : (uniG [] (tF (varT 0) tI) (tF tB (varT 1))).1 = 0 := by
  have s0 : shp (varT 0) = true := shp_v (k := 0) (by omega)
  have s1 : shp (varT 1) = true := shp_v (k := 1) (by omega)
  have sI : shp tI = true := by kernel_rfl
  have sB : shp tB = true := by kernel_rfl
  have sV : shp (tF (varT 0) tI) = true := by kernel_rfl
  have sU : shp (tF tB (varT 1)) = true := by kernel_rfl
  have g1 : goodT (tF (varT 0) tI) = true := by kernel_rfl
  have g2 : goodT (tF tB (varT 1)) = true := by kernel_rfl
  obtain ⟨rk, hr⟩ := sinv_nil.ok
  have f1 : fsz [] (tF (varT 0) tI) = 3 := by rw [← nodes_app hr _ sV, app_nil _ sV]; rfl
  have f2 : fsz [] (tF tB (varT 1)) = 3 := by rw [← nodes_app hr _ sU, app_nil _ sU]; rfl
  have f3 : fsz [] (varT 0) = 1 := by rw [← nodes_app hr _ s0, app_nil _ s0]; rfl
  have f4 : fsz [] tB = 1 := by rw [← nodes_app hr _ sB, app_nil _ sB]; rfl
  have hu1 : ∀ d, uniF (d + 1) ⟨[], []⟩ (varT 0) tB = (0, standU ⟨[], []⟩ 0 tB) := fun d => by
    rw [uniF, resF_nil (varT 0), resF_nil tB]
    rw [if_neg (by rw [f3, f4]; omega), if_pos (show (varT 0).k = 7 from rfl), if_neg (show ¬ tB.k = 7 by decide), if_neg (no_occ (show tB.k ≠ 7 by decide) rfl)]
    rfl
  have x1 := uniF_ext 1 ⟨[], []⟩ (varT 0) tB sinv_nil.u s0 sB
  rw [hu1 0] at x1
  obtain ⟨rk1, hr1⟩ := x1.inv.ok
  have nb1 : ¬ bnd (standU ⟨[], []⟩ 0 tB).st (varT 1) := fun h => h.2 rfl
  have nbI : ∀ St, ¬ bnd St tI := fun St h => absurd h.1 (by decide)
  have r1 := resF_stop hr1 nb1
  have rI := resF_stop hr1 (nbI _)
  have f5 := fsz_leaf hr1 s1 nb1 rfl
  have f6 := fsz_leaf hr1 sI (nbI _) rfl
  have hu2 : ∀ d, uniF (d + 1) (standU ⟨[], []⟩ 0 tB) tI (varT 1) = (0, standU (standU ⟨[], []⟩ 0 tB) 1 tI) := fun d => by
    rw [uniF, r1, rI]
    rw [if_neg (by rw [f5, f6]; omega), if_neg (show ¬ tI.k = 7 by decide), if_pos (show (varT 1).k = 7 from rfl), if_neg (no_occ (show tI.k ≠ 7 by decide) rfl)]
    rfl
  have x2 := uniF_ext 1 (standU ⟨[], []⟩ 0 tB) tI (varT 1) x1.inv sI s1
  rw [hu2 0] at x2
  obtain ⟨rk2, hr2⟩ := x2.inv.ok
  have hq : uniQ [] (tF (varT 0) tI) (tF tB (varT 1)) = (0, standU (standU ⟨[], []⟩ 0 tB) 1 tI) := by
    unfold uniQ
    rw [show 2001 * 502 = 1004500 + 1 + 1 by decide, uniF, resF_nil (tF (varT 0) tI), resF_nil (tF tB (varT 1))]
    rw [if_neg (by rw [f1, f2]; omega), if_neg (show ¬ (tF (varT 0) tI).k = 7 by decide), if_neg (show ¬ (tF tB (varT 1)).k = 7 by decide), if_neg (by rintro (h | h) <;> exact h rfl)]
    show uniL (uniF (1004500 + 1)) [varT 0, tI] [tB, varT 1] ⟨[], []⟩ = _
    rw [uniL, hu1, if_pos rfl, uniL, hu2, if_pos rfl]
    rfl
  have nG : ¬ Great (standU (standU ⟨[], []⟩ 0 tB) 1 tI).st := by
    rintro ⟨x, hx, hm⟩
    have hx2 : x < 2 := hx
    have hxs : x = 0 ∨ x = 1 := by omega
    have sx : shp (varT (x : Int)) = true := shp_v (by omega)
    have bx : bnd (standU (standU ⟨[], []⟩ 0 tB) 1 tI).st (varT (x : Int)) := by
      rcases hxs with rfl | rfl
      · exact ⟨rfl, by decide⟩
      · exact ⟨rfl, by decide⟩
    unfold msz at hm
    rw [show fsz (standU (standU ⟨[], []⟩ 0 tB) 1 tI).st (.mk 7 ⟨#[]⟩ (x : Int) []) = 1 by
      show fsz _ (varT (x : Int)) = 1
      rw [fsz_bnd hr2 sx bx]
      rcases hxs with rfl | rfl
      · exact fsz_leaf hr2 sB (fun h => absurd h.1 (by decide)) rfl
      · exact fsz_leaf hr2 sI (nbI _) rfl] at hm
    omega
  unfold uniG
  rw [if_pos ⟨g1, g2⟩, hq, if_pos rfl, if_neg (fun h => nG h.2)]
theorem uniG_zero2 {St : List TT} (h : SInv St) {a b : TT} (he : (uniG St a b).1 = 0) : goodT a = true ∧ goodT b = true ∧ (uniG St a b).2 = (uniQ St a b).2.st ∧ (uniQ St a b).1 = 0 := by
  revert he
  unfold uniG
  split
  · rename_i hg
    split
    · rename_i hz
      split
      · intro he; cases he
      · intro _; exact ⟨hg.1, hg.2, rfl, hz⟩
    · rename_i hz; intro he; exact absurd he hz
  · intro he; cases he
theorem awake_app : apvF (uniG [] (tF (varT 0) tI) (tF tB (varT 1))).2 (varT 0) = tB ∧ apvF (uniG [] (tF (varT 0) tI) (tF tB (varT 1))).2 (varT 1) = tI := by
  have nb : ∀ V : TT, bigT 7 V = false → NB V := fun V h => ⟨7, h⟩
  have hI := uniG_inv2 sinv2_nil (a := tF (varT 0) tI) (b := tF tB (varT 1)) (nb _ rfl) (nb _ rfl)
  obtain ⟨rk, hr⟩ := hI.inv.ok
  have sV : shp (tF (varT 0) tI) = true := by kernel_rfl
  have sU : shp (tF tB (varT 1)) = true := by kernel_rfl
  have sI : shp tI = true := by kernel_rfl
  have sB : shp tB = true := by kernel_rfl
  obtain ⟨g1, g2, e2, hz⟩ := uniG_zero2 sinv_nil awake_uni
  obtain ⟨rk', hr'⟩ := sinv_nil.ok
  have e := uni_same (2001 * 502) ⟨[], []⟩ _ _ sinv_nil.u sV sU hz
  have e : apvF (uniG [] (tF (varT 0) tI) (tF tB (varT 1))).2 (tF (varT 0) tI) = apvF (uniG [] (tF (varT 0) tI) (tF tB (varT 1))).2 (tF tB (varT 1)) := by rw [e2]; exact e
  generalize uniG [] (tF (varT 0) tI) (tF tB (varT 1)) = Q at *
  have n1 : ¬ bnd Q.2 (tF (varT 0) tI) := fun h => absurd h.1 (by decide)
  have n2 : ¬ bnd Q.2 (tF tB (varT 1)) := fun h => absurd h.1 (by decide)
  have nI : ¬ bnd Q.2 tI := fun h => absurd h.1 (by decide)
  have nB : ¬ bnd Q.2 tB := fun h => absurd h.1 (by decide)
  have aI : apvF Q.2 tI = tI := by rw [app_eq hr sI, resF_stop hr nI]; rfl
  have aB : apvF Q.2 tB = tB := by rw [app_eq hr sB, resF_stop hr nB]; rfl
  rw [app_eq hr sV, app_eq hr sU, resF_stop hr n1, resF_stop hr n2] at e
  simp only [tF, TT.k, TT.nm, TT.vr, TT.args, List.map_cons, List.map_nil, TT.mk.injEq, true_and, List.cons.injEq, and_true] at e
  exact ⟨e.1.trans aB, (e.2.symm.trans aI)⟩
set_option maxRecDepth 100000 in
set_option maxHeartbeats 4000000 in
theorem fun_any {V U : TT} {A A' : Option Addr} {c c' : Nat} {w : World} (hV : TRow w any0 A V.args) (hU : TRow w any0 A' U.args) : Calls Tryd.prog 14 #[tv V A c, tv U A' c'] w fun e w' => ∃ A2 c2, e = .returned (tv (tF V U) A2 c2) ∧ TRow w' any0 A2 [V, U] ∧ Below w.heap.size w w' := by
  unfold tv
  obtain ⟨wB, hwB⟩ : ∃ z, z = (w.alloc (.cells #[.int .i64 V.k, .string V.nm, .int .i64 V.vr, .slice A V.args.length c] 27)).alloc (.cells #[.int .i64 U.k, .string U.nm, .int .i64 U.vr, .slice A' U.args.length c'] 27) := ⟨_, rfl⟩
  have BX := two_box (w := w) (.cells #[.int .i64 V.k, .string V.nm, .int .i64 V.vr, .slice A V.args.length c] 27) (.cells #[.int .i64 U.k, .string U.nm, .int .i64 U.vr, .slice A' U.args.length c'] 27)
  rw [← hwB] at BX
  have BB := Lib.hid (show Below w.heap.size w wB by rw [hwB]; exact bt (below_alloc w _) (below_alloc _ _))
  have hz : wB.heap.size = w.heap.size + 2 := by rw [hwB]; simp
  obtain ⟨wZ, hwZ⟩ : ∃ z, z = wB.alloc (.cells #[.int .i64 0, .string ⟨#[]⟩, .int .i64 0, .slice none 0 0] 27) := ⟨_, rfl⟩
  have BZ := Lib.hid (show Below wB.heap.size wB wZ by rw [hwZ]; exact below_alloc _ _)
  have hz2 : wZ.heap.size = w.heap.size + 3 := by rw [hwZ]; simp [hz]
  have ZX := (BZ.out.block w.heap.size (by omega)).trans BX.1
  have ZY := (BZ.out.block (w.heap.size + 1) (by omega)).trans BX.2
  have ZR : wZ.heap[w.heap.size + 2]? = some (.cells #[.int .i64 0, .string ⟨#[]⟩, .int .i64 0, .slice none 0 0] 27 (0, 0)) := by rw [hwZ, ← hz]; exact heap_alloc_new _ _
  obtain ⟨x0, x1, x2, x3⟩ := cells4 ZX
  obtain ⟨y0, y1, y2, y3⟩ := cells4 ZY
  obtain ⟨r0, r1, r2, r3⟩ := cells4 ZR
  obtain ⟨f0, f1, f2, f3⟩ := froz4 ZR
  have HZ2 := Lib.hid hz2
  have HWB := Lib.hid hwB
  have HWZ := Lib.hid hwZ
  have HZR := Lib.hid ZR
  have HZZ := Lib.hid hz
  clear hwB hwZ BX ZX ZY hz
  go_enter Tryd.func14, Tryd.ntmps14
  go_wp2_with fail
  rw [← HWB.out]
  try rw [← HWZ.out]
  clear x0 x1 x2 x3 y0 y1 y2 y3 r0 r1 r2 r3 f0 f1 f2 f3 ZR HZR HWZ HWB BZ
  have BE := two_box (w := wB) (.cells #[.int .i64 5, .string ⟨#[]⟩, .int .i64 0, .slice (some ⟨w.heap.size + 1 + 1 + 1, 0, none⟩) 2 2] 27) (.cells #[.int .i64 V.k, .string V.nm, .int .i64 V.vr, .slice A V.args.length c, .int .i64 U.k, .string U.nm, .int .i64 U.vr, .slice A' U.args.length c'] 27)
  rw [HZZ.out] at BE
  have hbe : Below w.heap.size w ((wB.alloc (.cells #[.int .i64 5, .string ⟨#[]⟩, .int .i64 0, .slice (some ⟨w.heap.size + 1 + 1 + 1, 0, none⟩) 2 2] 27)).alloc (.cells #[.int .i64 V.k, .string V.nm, .int .i64 V.vr, .slice A V.args.length c, .int .i64 U.k, .string U.nm, .int .i64 U.vr, .slice A' U.args.length c'] 27)) := bt BB.out (bt (below_alloc wB _) (below_alloc _ _))
  have hsz : ((wB.alloc (.cells #[.int .i64 5, .string ⟨#[]⟩, .int .i64 0, .slice (some ⟨w.heap.size + 1 + 1 + 1, 0, none⟩) 2 2] 27)).alloc (.cells #[.int .i64 V.k, .string V.nm, .int .i64 V.vr, .slice A V.args.length c, .int .i64 U.k, .string U.nm, .int .i64 U.vr, .slice A' U.args.length c'] 27)).heap.size = w.heap.size + 4 := by simp [HZZ.out]
  generalize (wB.alloc (.cells #[.int .i64 5, .string ⟨#[]⟩, .int .i64 0, .slice (some ⟨w.heap.size + 1 + 1 + 1, 0, none⟩) 2 2] 27)).alloc (.cells #[.int .i64 V.k, .string V.nm, .int .i64 V.vr, .slice A V.args.length c, .int .i64 U.k, .string U.nm, .int .i64 U.vr, .slice A' U.args.length c'] 27) = wE at BE hbe hsz ⊢
  obtain ⟨BE1, BE2⟩ := BE
  obtain ⟨t0, t1, t2, t3⟩ := cells4 BE1
  have hR : TRow wE any0 (some ⟨w.heap.size + 1 + 1 + 1, 0, none⟩) [V, U] := by
    refine .inr ⟨w.heap.size + 1 + 1 + 1, 0, rfl, by omega, trivial, ?_⟩
    rw [okTL, okTL, okTL, okT_eq, okT_eq]
    refine ⟨⟨by simp [World.cell?, BE2], by simp [World.cell?, BE2], by simp [World.cell?, BE2], A, c, by simp [World.cell?, BE2], hV.later hbe⟩, ⟨by simp [World.cell?, BE2], by simp [World.cell?, BE2], by simp [World.cell?, BE2], A', c', by simp [World.cell?, BE2], hU.later hbe⟩, trivial⟩
  refine bodyPost_ret (by simp [results, Tryd.results14, go_sem, t0, t1, t2, t3]; try rfl) rfl ?_
  exact ⟨_, 2, rfl, hR, hbe⟩

set_option maxRecDepth 100000 in
set_option maxHeartbeats 16000000 in
theorem awake_any (w : World) : Calls Tryd.prog 10 #[] w fun e w' => e = .returned (.bool true) ∧ Below w.heap.size w w' := by
  have hI := uniG_inv2 sinv2_nil (a := tF (varT 0) tI) (b := tF tB (varT 1)) ⟨7, rfl⟩ ⟨7, rfl⟩
  obtain ⟨e0, e1⟩ := awake_app
  have g0 : goodT (varT 0) = true := by kernel_rfl
  have g1 : goodT (varT 1) = true := by kernel_rfl
  have p0 : apG (uniG [] (tF (varT 0) tI) (tF tB (varT 1))).2 (varT 0) = tB := by unfold apG; rw [if_pos g0]; exact e0
  have p1 : apG (uniG [] (tF (varT 0) tI) (tF tB (varT 1))).2 (varT 1) = tI := by unfold apG; rw [if_pos g1]; exact e1
  have hz := awake_uni
  obtain ⟨⟨er, St⟩, hq⟩ : ∃ q, q = uniG [] (tF (varT 0) tI) (tF tB (varT 1)) := ⟨_, rfl⟩
  rw [← hq] at hI p0 p1 hz
  have hz : er = 0 := hz
  subst hz
  have HI := Lib.hid hI
  have HQ := Lib.hid hq
  have P0 := Lib.hid (show apG St (varT 0) = tB from p0)
  have P1 := Lib.hid (show apG St (varT 1) = tI from p1)
  have G0 := Lib.hid g0
  have s2 : showT tB = ⟨#[98, 111, 111, 108]⟩ := by kernel_rfl
  have s3 : showT tI = ⟨#[105, 110, 116]⟩ := by kernel_rfl
  have s4 : showT (tF (varT 7) (varT 3)) = ⟨#[40, 39, 97, 32, 45, 62, 32, 39, 98, 41]⟩ := by kernel_rfl
  have H2 := Lib.hid (fun W A c => show_any (V := tB) (v := tv tB A c) (w := W) rfl (by kernel_rfl) ⟨A, c, rfl, .inl rfl⟩)
  have H3 := Lib.hid (fun W A c => show_any (V := tI) (v := tv tI A c) (w := W) rfl (by kernel_rfl) ⟨A, c, rfl, .inl rfl⟩)
  have H4 := Lib.hid (fun W A c (h : TRow W any0 A [varT 7, varT 3]) => show_any (V := tF (varT 7) (varT 3)) (v := tv (tF (varT 7) (varT 3)) A c) (w := W) rfl (by kernel_rfl) ⟨A, c, rfl, h⟩)
  rw [s2] at H2
  rw [s3] at H3
  rw [s4] at H4
  clear hI hq e0 e1 g0 g1 p0 p1 s2 s3 s4
  go_enter Tryd.func10, Tryd.ntmps10
  go_wp2_with fail
  refine (news_any (Pr := fun _ => False) (fun _ h => h) _).mono ?_; rintro e w1 ⟨rfl, s1, b1⟩
  obtain ⟨sb, hsb⟩ : ∃ z, z = w.heap.size := ⟨_, rfl⟩
  rw [← hsb] at s1 ⊢
  have HSB := Lib.hid hsb
  have S1 := Lib.hid s1
  have BN := Lib.hid b1
  have B1 := Lib.hid (Below.refl w1.heap.size w1)
  clear s1 b1 hsb
  go_wp2_with fail
  refine (vlaw_any 0 _).mono ?_; rintro e w2 ⟨rfl, b9⟩
  have B2 := Lib.hid (bt B1.out b9)
  clear b9
  rw [show tv (varT 0) none 0 = .agg #[.int .i64 7, .string ⟨#[]⟩, .int .i64 0, .slice none 0 0] from rfl]
  go_wp2_with fail
  refine (fun_any (V := varT 0) (U := tI) (A := none) (c := 0) (A' := none) (c' := 0) (.inl rfl) (.inl rfl)).mono ?_; rintro e w3 ⟨A3, c3, rfl, r9, b9⟩
  have B3 := Lib.hid (bt B2.out b9)
  have R3 := Lib.hid r9
  clear r9 b9
  rw [show tv (tF (varT 0) (tI)) A3 c3 = .agg #[.int .i64 5, .string ⟨#[]⟩, .int .i64 0, .slice A3 2 c3] from rfl]
  go_wp2_with fail
  refine (vlaw_any 1 _).mono ?_; rintro e w4 ⟨rfl, b9⟩
  have B4 := Lib.hid (bt B3.out b9)
  have C4 := Lib.hid b9
  clear b9
  rw [show tv (varT 1) none 0 = .agg #[.int .i64 7, .string ⟨#[]⟩, .int .i64 1, .slice none 0 0] from rfl]
  go_wp2_with fail
  refine (fun_any (V := tB) (U := varT 1) (A := none) (c := 0) (A' := none) (c' := 0) (.inl rfl) (.inl rfl)).mono ?_; rintro e w5 ⟨A5, c5, rfl, r9, b9⟩
  have B5 := Lib.hid (bt B4.out b9)
  have R5 := Lib.hid r9
  have C5 := Lib.hid (bt C4.out b9)
  clear r9 b9
  rw [show tv (tF (tB) (varT 1)) A5 c5 = .agg #[.int .i64 5, .string ⟨#[]⟩, .int .i64 0, .slice A5 2 c5] from rfl]
  have R35 := Lib.hid (show TRow w5 any0 A3 [varT 0, tI] from R3.out.later C5.out)
  have ZB := Lib.hid (show sb ≤ w5.heap.size by have h1 := BN.out.size; have h2 := B5.out.size; have := HSB.out; omega)
  have UN := Lib.hid (unifyS (Pr := fun _ => False) sinv_nil (S1.out.later B5.out) ZB.out (a := tF (varT 0) tI) (b := tF tB (varT 1)) rfl rfl (va := tv (tF (varT 0) tI) A3 c3) (vb := tv (tF tB (varT 1)) A5 c5) ⟨A3, c3, rfl, R35.out⟩ ⟨A5, c5, rfl, R5.out⟩)
  rw [← HQ.out] at UN
  go_wp2_with fail
  refine UN.out.mono ?_; rintro e w6 ⟨rfl, s6, f6⟩
  have S6 := Lib.hid s6
  have BW := Lib.hid (show Below w.heap.size w w6 from (bt BN.out B5.out).trans (f6.below (fun q hq => by have := hq.1; have := HSB.out; omega) (bt BN.out B5.out).size))
  have B6 := Lib.hid (Below.refl w6.heap.size w6)
  clear s6 f6 UN R3 R5 R35
  go_wp2_with fail
  refine (vlaw_any 0 _).mono ?_; rintro e w7 ⟨rfl, b9⟩
  have B7 := Lib.hid (bt B6.out b9)
  clear b9
  rw [show tv (varT 0) none 0 = .agg #[.int .i64 7, .string ⟨#[]⟩, .int .i64 0, .slice none 0 0] from rfl]
  go_wp2_with fail
  refine (applyS (d := 7) (V := varT 0) (v := .agg #[.int .i64 7, .string ⟨#[]⟩, .int .i64 0, .slice none 0 0]) (Nat.le_refl _) rfl HI.out.inv (S6.out.later B7.out) ⟨none, 0, rfl, .inl rfl⟩).mono ?_
  rw [P0.out]
  rintro e w8 ⟨A8, c8, rfl, -, b9⟩
  have B8 := Lib.hid (bt B7.out b9)
  clear b9
  rw [show tv tB A8 c8 = .agg #[.int .i64 2, .string ⟨#[]⟩, .int .i64 0, .slice A8 0 c8] from rfl]
  go_wp2_with fail
  refine (H2.out _ A8 c8).mono ?_; rintro e w9 ⟨rfl, b9⟩
  have B9 := Lib.hid (bt B8.out b9)
  clear b9
  go_wp2_with fail
  refine (vlaw_any 1 _).mono ?_; rintro e w10 ⟨rfl, b9⟩
  have B10 := Lib.hid (bt B9.out b9)
  clear b9
  rw [show tv (varT 1) none 0 = .agg #[.int .i64 7, .string ⟨#[]⟩, .int .i64 1, .slice none 0 0] from rfl]
  go_wp2_with fail
  refine (applyS (d := 7) (V := varT 1) (v := .agg #[.int .i64 7, .string ⟨#[]⟩, .int .i64 1, .slice none 0 0]) (Nat.le_refl _) rfl HI.out.inv (S6.out.later B10.out) ⟨none, 0, rfl, .inl rfl⟩).mono ?_
  rw [P1.out]
  rintro e w11 ⟨A11, c11, rfl, -, b9⟩
  have B11 := Lib.hid (bt B10.out b9)
  clear b9
  rw [show tv tI A11 c11 = .agg #[.int .i64 1, .string ⟨#[]⟩, .int .i64 0, .slice A11 0 c11] from rfl]
  go_wp2_with fail
  refine (H3.out _ A11 c11).mono ?_; rintro e w12 ⟨rfl, b9⟩
  have B12 := Lib.hid (bt B11.out b9)
  clear b9
  go_wp2_with fail
  refine (vlaw_any 0 _).mono ?_; rintro e w13 ⟨rfl, b9⟩
  have B13 := Lib.hid (bt B12.out b9)
  clear b9
  rw [show tv (varT 0) none 0 = .agg #[.int .i64 7, .string ⟨#[]⟩, .int .i64 0, .slice none 0 0] from rfl]
  go_wp2_with fail
  refine (good_any (d := 7) (V := varT 0) (v := .agg #[.int .i64 7, .string ⟨#[]⟩, .int .i64 0, .slice none 0 0]) (Nat.le_refl _) rfl ⟨none, 0, rfl, .inl rfl⟩).mono ?_
  rw [G0.out]
  rintro e w14 ⟨rfl, b9⟩
  have B14 := Lib.hid (bt B13.out b9)
  clear b9
  go_wp2_with fail
  refine (vlaw_any 7 _).mono ?_; rintro e w15 ⟨rfl, b9⟩
  have B15 := Lib.hid (bt B14.out b9)
  clear b9
  rw [show tv (varT 7) none 0 = .agg #[.int .i64 7, .string ⟨#[]⟩, .int .i64 7, .slice none 0 0] from rfl]
  go_wp2_with fail
  refine (vlaw_any 3 _).mono ?_; rintro e w16 ⟨rfl, b9⟩
  have B16 := Lib.hid (bt B15.out b9)
  clear b9
  rw [show tv (varT 3) none 0 = .agg #[.int .i64 7, .string ⟨#[]⟩, .int .i64 3, .slice none 0 0] from rfl]
  go_wp2_with fail
  refine (fun_any (V := varT 7) (U := varT 3) (A := none) (c := 0) (A' := none) (c' := 0) (.inl rfl) (.inl rfl)).mono ?_; rintro e w17 ⟨A17, c17, rfl, r9, b9⟩
  have B17 := Lib.hid (bt B16.out b9)
  have R17 := Lib.hid r9
  clear r9 b9
  rw [show tv (tF (varT 7) (varT 3)) A17 c17 = .agg #[.int .i64 5, .string ⟨#[]⟩, .int .i64 0, .slice A17 2 c17] from rfl]
  go_wp2_with fail
  refine (H4.out _ A17 c17 R17.out).mono ?_; rintro e w18 ⟨rfl, b9⟩
  have B18 := Lib.hid (bt B17.out b9)
  clear b9
  go_wp2
  go_ret
  exact ⟨rfl, bt BW.out B18.out⟩
end Go.Proofs.YtdkfimejabanlaaDoor
