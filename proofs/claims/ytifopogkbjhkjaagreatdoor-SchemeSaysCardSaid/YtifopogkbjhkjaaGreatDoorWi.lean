import Derived.Test.YtifopogkbjhkjaaGreatDoorWh
namespace Go.Proofs.YtifopogkbjhkjaaGreatDoor
open DR
open Go.ChangeShapes Go.WideShapes Go.ChangeAt Go.RowKit Go.WideMaps
set_option linter.unusedVariables false
set_option linter.unusedSimpArgs false
variable {nx : Int}
open Classical in
set_option maxRecDepth 100000 in
set_option maxHeartbeats 2000000 in
theorem rapplyF {d : Nat} {V : TT} {v : Value} {w : World} {P : Nat → Prop} {sb : Nat} {St : List TT} (hbg : bigT d V = false) (hg : goodT V = true) (hst : SInv St) (hS : RSub nx w P sb St) (h : TIn w any0 V v) : Calls Tryz.prog 36 #[.pointer (some ⟨sb, 0, none⟩), v] w (CpPost w (apvF St V)) := by
  have hin := h
  obtain ⟨rk, hr⟩ := hst.ok
  obtain ⟨A, c, rfl, hA⟩ := h
  have CG := Lib.hid (fun W (hW : Below w.heap.size w W) => rgood_any hbg (hin.later hW))
  have HRED := Lib.hid hS
  unfold tv at CG ⊢
  obtain ⟨wB, hwB⟩ : ∃ z, z = (w.alloc (.cells #[.int .i64 V.k, .string V.nm, .int .i64 V.vr, .slice A V.args.length c] 36)).alloc (.cells #[.int .i64 0, .string ⟨#[]⟩, .int .i64 0, .slice none 0 0] 36) := ⟨_, rfl⟩
  have BX := two_box (w := w) (.cells #[.int .i64 V.k, .string V.nm, .int .i64 V.vr, .slice A V.args.length c] 36) (.cells #[.int .i64 0, .string ⟨#[]⟩, .int .i64 0, .slice none 0 0] 36)
  have BB := Lib.hid (show Below w.heap.size w wB by rw [hwB]; exact bt (below_alloc w _) (below_alloc _ _))
  have HZ := Lib.hid (show wB.heap.size = w.heap.size + 2 by rw [hwB]; simp)
  rw [← hwB] at BX
  have HX := Lib.hid BX.1
  have HY := Lib.hid BX.2
  have HWB := Lib.hid hwB
  obtain ⟨x0, x1, x2, x3⟩ := cells4 BX.1
  have HA := Lib.hid hA
  have HF := Lib.hid (fun W (hW : Below w.heap.size w W) => rall_ok (P := P) (rb := sb) hr V (good_shp hg) (tv V A c) W ⟨A, c, rfl, hA.later hW⟩ (HRED.out.later hW))
  rw [hg] at CG
  obtain ⟨T, hT⟩ : ∃ T, T = apvF St V := ⟨_, rfl⟩
  rw [← hT] at HF ⊢
  unfold tv at HF
  clear BX hwB hg hT hr hA hin hS hst
  go_enter Tryz.func36, Tryz.ntmps36
  go_wp2_with fail
  rw [← HWB.out]
  go_wp2_with fail
  refine (CG.out _ BB.out).mono ?_; rintro e w1 ⟨rfl, hb1⟩
  have B1 := Lib.hid (bt BB.out hb1)
  have X1 := Lib.hid ((hb1.block w.heap.size (by have := HZ.out; omega)).trans HX.out)
  have Y1 := Lib.hid ((hb1.block (w.heap.size + 1) (by have := HZ.out; omega)).trans HY.out)
  have S1 := Lib.hid (show w.heap.size + 2 ≤ w1.heap.size by have := hb1.size; have := HZ.out; omega)
  obtain ⟨y0, y1, y2, y3⟩ := cells4 X1.out
  clear hb1 x0 x1 x2 x3 CG
  go_wp2_with fail
  refine (HF.out _ B1.out).mono ?_; rintro e w2 ⟨A2, c2, rfl, hr2, hb2⟩
  have B2 := Lib.hid (bt B1.out hb2)
  have R2 := Lib.hid hr2
  have Y2 := Lib.hid ((hb2.block (w.heap.size + 1) (by have := S1.out; omega)).trans Y1.out)
  clear hr2 hb2 HF y0 y1 y2 y3
  unfold tv
  obtain ⟨y0, y1, y2, y3⟩ := cells4 Y2.out
  obtain ⟨f0, f1, f2, f3⟩ := froz4 Y2.out
  obtain ⟨t0, t1, t2, t3⟩ := cells4 (cells_all (.int .i64 T.k) (.string T.nm) (.int .i64 T.vr) (.slice A2 T.args.length c2) Y2.out)
  have FR := Lib.hid (frm4 w2 (w.heap.size + 1) (.int .i64 T.k) (.string T.nm) (.int .i64 T.vr) (.slice A2 T.args.length c2))
  go_wp2
  (try simp only [Exit.inBlock, Exit.then])
  refine bodyPost_ret (by simp [results, Tryz.results36, go_sem, t0, t1, t2, t3]; try rfl) rfl ?_
  exact ⟨A2, c2, rfl, R2.out.move (P' := (w.heap.size ≤ ·)) (fun b hb (hp : w1.heap.size ≤ b) => ⟨FR.out.block b hb (by have := S1.out; show ¬ b = w.heap.size + 1; omega), by have := S1.out; omega⟩) FR.out.size, B2.out.trans (FR.out.below (fun q hq => by have : q = w.heap.size + 1 := hq; omega) B2.out.size)⟩
abbrev no9 : Nat → Prop := fun _ => False
theorem tosF_snoc (n : Int) (k : Nat) : tosF n (k + 1) = tosF n k ++ [varT (n + k)] := by
  unfold tosF; rw [List.range_succ, List.map_append]; rfl
theorem kids9 {w w' : World} : ∀ {l : List TT} {xs : List Value}, KidsT w no9 l xs → KidsT w' any0 l xs
  | [], _, h => h
  | v :: l, _, ⟨A, c, ys, h1, h3, h4⟩ => ⟨A, c, ys, h1, h3.elim .inl (fun ⟨_, _, _, _, h, _⟩ => h.elim), kids9 h4⟩
theorem kids99 {w w' : World} : ∀ {l : List TT} {xs : List Value}, KidsT w no9 l xs → KidsT w' no9 l xs
  | [], _, h => h
  | v :: l, _, ⟨A, c, ys, h1, h3, h4⟩ => ⟨A, c, ys, h1, h3.elim .inl (fun ⟨_, _, _, _, h, _⟩ => h.elim), kids99 h4⟩
theorem kids_row9 {w : World} {B k c : Nat} {A : Option Addr} {l : List TT} {xs : List Value} {e : TypeId} (ho : w.ownsRow B e 4 (.slice A k c) k xs) (hk : KidsT w no9 l xs) (hl : l.length = k) : TRow w any0 A l := by
  rcases ho.2 with ⟨q1, q2⟩ | ⟨g, cap, cur, q1, q2, q3, q4, q5, q6, q7⟩
  · exact .inl (by omega)
  · injection q1 with q1
    refine .inr ⟨g, 0, q1, (Array.getElem?_eq_some_iff.1 q3).1, trivial, ?_⟩
    refine KidsT.row (kids9 hk) (fun j hj => ?_)
    rw [Nat.zero_add]
    have hown := ho
    rw [q1] at hown
    exact (hown.cellAt j (by rw [← hown.1]; exact hj)).trans (List.getElem?_eq_getElem hj)
theorem gF_range {all : List Int} {n : Int} {x y : Int} (h : gF all n x = some y) : n ≤ y ∧ y ≤ n + all.length := by
  unfold gF at h
  split at h
  · injection h with h
    have : ∀ (l : List Int), posI l x ≤ l.length := by
      intro l
      induction l with
      | nil => simp [posI]
      | cons a l ih => rw [posI]; split <;> simp <;> omega
    have := this all
    omega
  · cases h
/-- what the reference's Open answers, and its next variable. -/
noncomputable def ropenF (R : List TT) (n : Int) (all : List Int) (V : TT) : TT × Int := if sgoodT V all = true then (apG R (renT (gF all n) V), n + all.length) else (V, n)
theorem open_res {tm : Array Value} {W : World} {R : Nat} {v0 v1 v2 v3 : Value} (h : tm[4]? = some (.pointer (some ⟨R, 0, none⟩))) (t0 : W.cell? ⟨R, 0, none⟩ = some v0) (t1 : W.cell? ⟨R, 1, none⟩ = some v1) (t2 : W.cell? ⟨R, 2, none⟩ = some v2) (t3 : W.cell? ⟨R, 3, none⟩ = some v3) :
    (results Tryz.f16 tm).run Tryz.prog W = .ok (.agg #[v0, v1, v2, v3]) W := by
  simp [results, Tryz.results16, go_sem, h, t0, t1, t2, t3]
set_option maxRecDepth 100000 in
set_option maxHeartbeats 16000000 in
theorem ropen {P0 : Nat → Prop} {V : TT} {all : List Int} {Al A : Option Addr} {ca c rb : Nat} {n : Int} {R : List TT} {P : Nat → Prop} {w : World} (hP : ∀ b, P b → b ≠ rb) (hbg : bigT 7 V = false) (hl : all.length ≤ 10) (h0 : 0 ≤ n) (hn : n ≤ 100) (hst : SInv R) (hS : RSub n w P rb R)
    (ha : ∀ w', Frm w w' (· = rb) → IRow w' Al all) (h : ∀ w', Frm w w' (· = rb) → TRow w' P0 A V.args) : Calls Tryz.prog 16 #[.pointer (some ⟨rb, 0, none⟩), scv Al all.length ca V A c] w fun e w' => ∃ A c, e = .returned (tv (ropenF R n all V).1 A c) ∧ TRow w' (fun q => P0 q ∨ w.heap.size ≤ q) A (ropenF R n all V).1.args ∧ RSub (ropenF R n all V).2 w' P rb R ∧ Frm w w' (· = rb) := by
  obtain ⟨i0, hi0, hz0, hz1, hz2⟩ := info_parts infoR
  have CG := Lib.hid (fun W (hW : Below w.heap.size w W) => rgoodS (ca := ca) (c := c) hbg hl (ha W (Frm.of_below hW (Nat.le_refl _) _)) ((h W (Frm.of_below hW (Nat.le_refl _) _)).weak (fun _ _ _ => trivial)))
  obtain ⟨Q, hQ⟩ : ∃ q, q = ropenF R n all V := ⟨_, rfl⟩
  rw [← hQ]
  have HQ := Lib.hid hQ
  have HRL := Lib.hid hS.lt
  have HS := Lib.hid hS
  have HP := Lib.hid hP
  have HTV := Lib.hid h
  have HAL := Lib.hid ha
  obtain ⟨N, hN⟩ : ∃ N, N = all.length := ⟨_, rfl⟩
  have HN := Lib.hid hN
  rw [← hN] at CG hl ⊢
  unfold scv at CG ⊢
  obtain ⟨wB, hwB⟩ : ∃ z, z = (w.alloc (.cells #[.slice Al N ca, .int .i64 V.k, .string V.nm, .int .i64 V.vr, .slice A V.args.length c] RScT)).alloc (.cells #[.int .i64 0, .string ⟨#[]⟩, .int .i64 0, .slice none 0 0] 36) := ⟨_, rfl⟩
  have BX := two_box (w := w) (.cells #[.slice Al N ca, .int .i64 V.k, .string V.nm, .int .i64 V.vr, .slice A V.args.length c] RScT) (.cells #[.int .i64 0, .string ⟨#[]⟩, .int .i64 0, .slice none 0 0] 36)
  rw [← hwB] at BX
  have HB := Lib.hid (show Below w.heap.size w wB by rw [hwB]; exact bt (below_alloc w _) (below_alloc _ _))
  have HZ := Lib.hid (show wB.heap.size = w.heap.size + 2 by rw [hwB]; simp)
  have HX := Lib.hid BX
  have HWB := Lib.hid hwB
  obtain ⟨x0, x1, x2, x3, x4⟩ := five5 BX.1
  clear hwB BX hQ hS hP h ha hN
  by_cases hsg : sgoodT V all = true
  case neg =>
    have hsgf : sgoodT V all = false := by simpa using hsg
    have EQ := Lib.hid (show Q = (V, n) by rw [HQ.out]; unfold ropenF; rw [if_neg hsg])
    rw [hsgf] at CG
    clear hsg hsgf
    as_aux_lemma =>
    go_enter Tryz.func16, Tryz.ntmps16
    go_wp2_with fail
    try rw [← HWB.out]
    try go_wp2_with fail
    refine (CG.out _ HB.out).mono ?_; rintro e w1 ⟨rfl, b1⟩
    have B1 := Lib.hid (bt HB.out b1)
    have X1 := Lib.hid ((b1.block w.heap.size (by have := HZ.out; omega)).trans HX.out.1)
    have Y1 := Lib.hid ((b1.block (w.heap.size + 1) (by have := HZ.out; omega)).trans HX.out.2)
    have S1 := Lib.hid (show w.heap.size + 2 ≤ w1.heap.size by have := b1.size; have := HZ.out; omega)
    clear b1 x0 x1 x2 x3 x4 CG
    obtain ⟨x0, x1, x2, x3, x4⟩ := five5 X1.out
    obtain ⟨f0, f1, f2, f3⟩ := froz4 Y1.out
    obtain ⟨z0, z1, z2, z3⟩ := cells4 Y1.out
    obtain ⟨t0, t1, t2, t3⟩ := cells4 (cells_all (.int .i64 V.k) (.string V.nm) (.int .i64 V.vr) (.slice A V.args.length c) Y1.out)
    have FR := Lib.hid (frm4 w1 (w.heap.size + 1) (.int .i64 V.k) (.string V.nm) (.int .i64 V.vr) (.slice A V.args.length c))
    have BF := Lib.hid (B1.out.trans (FR.out.below (fun q hq => by have : q = w.heap.size + 1 := hq; omega) (by have := S1.out; omega)))
    clear FR
    go_wp2
    (try simp only [Exit.inBlock, Exit.then])
    refine bodyPost_ret (open_res rfl t0 t1 t2 t3) rfl ?_
    rw [EQ.out]
    exact ⟨A, c, rfl, (HTV.out _ (Frm.of_below BF.out (Nat.le_refl _) _)).weak (fun _ _ hp => .inl hp), HS.out.later BF.out, Frm.of_below BF.out (Nat.le_refl _) _⟩
  obtain ⟨hg, hmem⟩ := good_all hsg
  rw [hsg] at CG
  have hsh : shp V = true := good_shp hg
  have hgr : goodT (renT (gF all n) V) = true := good_ren (fun x y hy => by have := gF_range hy; rw [← HN.out] at this; omega) hg
  have EQ := Lib.hid (show Q = (apvF R (renT (gF all n) V), n + N) by rw [HQ.out, HN.out]; unfold ropenF; rw [if_pos hsg]; unfold apG; rw [if_pos hgr])
  have CP := Lib.hid (fun W (At : Option Addr) (ct : Nat) (hW : Frm w W (· = rb)) (ht : TRow W any0 At (tosF n all.length)) => put_any (ca := ca) (ct := ct) (by rw [← HN.out]; omega) 7 V (tv V A c) W hbg hsh ⟨A, c, rfl, (HTV.out W hW).weak (fun _ _ _ => trivial)⟩ (HAL.out W hW) ht)
  have CA := Lib.hid (fun W v m (hW : RSub m W (fun b => b < w.heap.size ∧ P b) rb R) (hv : TIn W any0 (renT (gF all n) V) v) => rapplyF (d := 7) (big_ren _ 7 V hbg) hgr hst hW hv)
  rw [← HN.out] at CP
  obtain ⟨U0, hU0⟩ : ∃ U, U = renT (gF all n) V := ⟨_, rfl⟩
  rw [← hU0] at CP CA EQ
  obtain ⟨U, hU⟩ : ∃ U, U = apvF R U0 := ⟨_, rfl⟩
  rw [← hU] at CA EQ
  unfold tv at CP
  clear hg hgr hmem hsh hbg hst hsg hU hU0
  go_enter Tryz.func16, Tryz.ntmps16
  go_wp2_with fail
  try rw [← HWB.out]
  try go_wp2_with fail
  refine (CG.out _ HB.out).mono ?_; rintro e w1 ⟨rfl, b1⟩
  have B1 := Lib.hid (bt HB.out b1)
  have X1 := Lib.hid ((b1.block w.heap.size (by have := HZ.out; omega)).trans HX.out.1)
  have Y1 := Lib.hid ((b1.block (w.heap.size + 1) (by have := HZ.out; omega)).trans HX.out.2)
  have S1 := Lib.hid (show w.heap.size + 2 ≤ w1.heap.size by have := b1.size; have := HZ.out; omega)
  clear b1 x0 x1 x2 x3 x4 CG
  go_wp2
  go_loopw [5, 6] (fun tv0 i wr => ∃ (k : Nat) (v : Value) (xs : List Value), v = tv0 ∧ k ≤ N ∧ i = .int .i64 k ∧ Hid (wr.ownsRow w1.heap.size 36 4 v k xs) ∧ Hid (KidsT wr no9 (tosF n k) xs) ∧ Hid (RSub (n + k) wr (fun b => b < w.heap.size ∧ P b) rb R) ∧ Hid (Frm w1 wr (· = rb))) (fun _ i _ => N - (intOf i).toNat)
  case atStart => exact ⟨0, _, [], rfl, by omega, by first | rfl | trivial, Lib.hid (World.ownsRow_nil _ _ _ _), Lib.hid rfl, Lib.hid (by have := (HS.out.moveP rfl (P' := (fun b => b < w.heap.size ∧ P b)) (fun b hb hp => ⟨rfl, hb, hp⟩) (Nat.le_refl _)).later B1.out; simpa using this), Lib.hid (Frm.refl _ _)⟩
  case round =>
    obtain ⟨k, v, xs, rfl, hk, rfl, HO, HK, HR, HF⟩ := hrel
    obtain ⟨Ar, cr, rfl⟩ := vform HO.out
    have XR := Lib.hid ((HF.out.block w.heap.size (by have := S1.out; omega) (by have := HRL.out; show ¬ w.heap.size = rb; omega)).trans X1.out)
    have YR := Lib.hid ((HF.out.block (w.heap.size + 1) (by have := S1.out; omega) (by have := HRL.out; show ¬ w.heap.size + 1 = rb; omega)).trans Y1.out)
    have SR := Lib.hid (show w.heap.size + 2 ≤ wr.heap.size ∧ w1.heap.size ≤ wr.heap.size by have := HF.out.size; have := S1.out; omega)
    have FW := Lib.hid ((Frm.of_below B1.out (Nat.le_refl _) (· = rb)).trans HF.out)
    obtain ⟨x0, x1, x2, x3, x4⟩ := five5 XR.out
    by_cases hlt : k < N
    · have hlti : (k : Int) < (N : Int) := by omega
      have CF := Lib.hid (rfresh (nx := n + k) (fun b hb => HP.out b hb.2) (by omega) (by omega) HR.out)
      clear CP CA EQ
      go_wp2_with fail
      refine CF.out.mono ?_; rintro e w3 ⟨rfl, r3, f3⟩
      rw [show tv (varT (n + k)) none 0 = .agg #[.int .i64 7, .string ⟨#[]⟩, .int .i64 (n + k), .slice none 0 0] from rfl]
      have O3 := Lib.hid (own_frm HO.out f3 (fun q hq e => by have := (HO.out.lt q hq).1; have := HRL.out; have := SR.out; have : q = rb := e; have := S1.out; omega))
      have R3 := Lib.hid r3
      have F3 := Lib.hid (HF.out.trans f3)
      have hs3 := f3.size
      have hsr := SR.out
      clear r3 f3 CF x0 x1 x2 x3 x4
      go_wp2_with (at_builtin; refine wpList_append_lies _ rfl (.tmp 19) (.tmp 22) 34 rfl w1.heap.size 36 i0 (.agg #[.int .i64 0, .string .empty, .int .i64 0, .slice none 0 0]) 4 56 Tryz.underlying34 hi0 hz0 hz1 hz2 rfl (by decide) (.slice Ar k cr) k xs rfl (O3.out.alloc _) ⟨w3.heap.size, 0, none⟩ 1 1 (kidT (varT (n + k)) none 0) rfl rfl (World.news_of_block (cs := #[.int .i64 7, .string ⟨#[]⟩, .int .i64 (n + k), .slice none 0 0]) (t := 36) (fr := (0, 0)) (heap_alloc_new _ _)) (kid_one _ _ _) (by omega) (by unfold maxLen; omega) (by omega) (by simp; omega) (w3.heap.size + 1) (by simp) ?_; intro g cap w7 own7 gr7 at7 hlt7)
      have K7 := Lib.hid (show KidsT w7 no9 (tosF n (k + 1)) (xs ++ kidT (varT (n + k)) none 0) by rw [tosF_snoc]; exact KidsT.snoc (.inl rfl) (kids99 HK.out))
      have FG := Lib.hid (show Frm w3 w7 (fun q => (Value.slice Ar k cr).ownBlock = some q) from (Frm.of_below (below_alloc w3 _) (Nat.le_refl _) _).trans (Frm.of_grown gr7 (fun q hq => hq)))
      have OL := Lib.hid (show ∀ q, (Value.slice Ar k cr).ownBlock = some q → w1.heap.size ≤ q from fun q hq => (HO.out.lt q hq).1)
      have F7 := Lib.hid (show Frm w1 w7 (· = rb) from F3.out.trans' FG.out (fun q hq e => by have := OL.out q e; omega))
      have O7 := Lib.hid own7
      have R7 := Lib.hid (show RSub (n + ((k + 1 : Nat) : Int)) w7 (fun b => b < w.heap.size ∧ P b) rb R by
        rw [show n + ((k + 1 : Nat) : Int) = n + k + 1 by omega]
        exact R3.out.moveP (FG.out.block rb R3.out.lt (fun e => by have := OL.out rb e; have := HRL.out; have := S1.out; omega)) (fun q hq hp => ⟨FG.out.block q hq (fun e => by have := OL.out q e; have := hp.1; have := S1.out; omega), hp⟩) FG.out.size)
      clear own7 gr7 at7 hlt7
      go_wp2
      go_roundw
      case rel => exact ⟨k + 1, _, _, rfl, by omega, by go_num, O7, K7, R7, F7⟩
      case measure => simp [intOf]; omega
    · obtain rfl : k = N := by omega
      have hge : ¬ (k : Int) < (k : Int) := by omega
      have TR := Lib.hid (kids_row9 HO.out HK.out (tosF_len n k))
      have CP2 := Lib.hid (CP.out wr Ar cr FW.out TR.out)
      clear CP
      go_wp2_with fail
      refine CP2.out.mono ?_; rintro e w3 ⟨A3, c3, rfl, r3, b3⟩
      have T3 := Lib.hid (show TIn w3 any0 U0 (tv U0 A3 c3) from ⟨A3, c3, rfl, r3.weak (fun _ _ _ => trivial)⟩)
      have R3 := Lib.hid (HR.out.later b3)
      have CA2 := Lib.hid (CA.out w3 (tv U0 A3 c3) (n + k) R3.out T3.out)
      have Y3 := Lib.hid ((b3.block (w.heap.size + 1) (by have := SR.out; omega)).trans YR.out)
      have S3 := Lib.hid (show w.heap.size + 2 ≤ w3.heap.size by have := SR.out; have := b3.size; omega)
      have F3 := Lib.hid (FW.out.trans (Frm.of_below b3 (Nat.le_refl _) _))
      unfold tv at CA2
      clear r3 b3 CP2 CA x0 x1 x2 x3 x4
      unfold tv
      go_wp2_with fail
      refine CA2.out.mono ?_; rintro e w4 ⟨A4, c4, rfl, r4, b4⟩
      have Y4 := Lib.hid ((b4.block (w.heap.size + 1) (by have := S3.out; omega)).trans Y3.out)
      have R4 := Lib.hid (R3.out.later b4)
      have T4 := Lib.hid r4
      have F4 := Lib.hid (F3.out.trans (Frm.of_below b4 (Nat.le_refl _) _))
      have S4 := Lib.hid (show w.heap.size + 2 ≤ w4.heap.size by have := S3.out; have := b4.size; omega)
      clear r4 b4 CA2
      unfold tv
      obtain ⟨f0, f1, f2, f3⟩ := froz4 Y4.out
      obtain ⟨z0, z1, z2, z3⟩ := cells4 Y4.out
      obtain ⟨t0, t1, t2, t3⟩ := cells4 (cells_all (.int .i64 U.k) (.string U.nm) (.int .i64 U.vr) (.slice A4 U.args.length c4) Y4.out)
      have FR := Lib.hid (frm4 w4 (w.heap.size + 1) (.int .i64 U.k) (.string U.nm) (.int .i64 U.vr) (.slice A4 U.args.length c4))
      go_wp2
      (try simp only [Exit.inBlock, Exit.then])
      refine bodyPost_ret (open_res rfl t0 t1 t2 t3) rfl ?_
      rw [EQ.out]
      exact ⟨A4, c4, rfl, T4.out.move (P' := fun q => P0 q ∨ w.heap.size ≤ q) (fun q hq (hp : w3.heap.size ≤ q) => ⟨FR.out.block q hq (by have := S3.out; show ¬ q = w.heap.size + 1; omega), .inr (by have := S3.out; omega)⟩) FR.out.size, R4.out.moveP (FR.out.block rb R4.out.lt (by have := HRL.out; show ¬ rb = w.heap.size + 1; omega)) (fun q hq hp => ⟨FR.out.block q hq (by have := hp.1; show ¬ q = w.heap.size + 1; omega), hp.2⟩) FR.out.size, F4.out.trans' FR.out (fun q hq e => by have e2 : q = w.heap.size + 1 := e; omega)⟩
end Go.Proofs.YtifopogkbjhkjaaGreatDoor
