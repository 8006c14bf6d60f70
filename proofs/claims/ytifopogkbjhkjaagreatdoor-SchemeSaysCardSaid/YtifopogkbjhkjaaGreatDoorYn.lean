import Derived.Test.YtifopogkbjhkjaaGreatDoorYm
import Derived.Test.YtifopogkbjhkjaaGreatDoorSm
namespace Go.Proofs.YtifopogkbjhkjaaGreatDoor
open DR
open Go.ChangeShapes Go.WideShapes Go.ChangeAt Go.RowKit Go.WideMaps
set_option linter.unusedVariables false
set_option linter.unusedSimpArgs false
theorem frm8 (w : World) (R S : Nat) (a b c d a' b' c' d' : Value) : Frm w ((((((((w.setCell ⟨R, 0, none⟩ a).setCell ⟨R, 1, none⟩ b).setCell ⟨R, 2, none⟩ c).setCell ⟨R, 3, none⟩ d).setCell ⟨S, 0, none⟩ a').setCell ⟨S, 1, none⟩ b').setCell ⟨S, 2, none⟩ c').setCell ⟨S, 3, none⟩ d') (fun q => q = R ∨ q = S) :=
  ((frm4 w R a b c d).mono (fun _ _ h => .inl h)).trans ((frm4 _ S a' b' c' d').mono (fun _ _ h => .inr h))
theorem cells_8 {w : World} {R S : Nat} (hne : R ≠ S) {y0 y1 y2 y3 z0 z1 z2 z3 : Value} {t : TypeId} (a b c d a' b' c' d' : Value) (h : w.heap[R]? = some (.cells #[y0, y1, y2, y3] t (0, 0))) (h' : w.heap[S]? = some (.cells #[z0, z1, z2, z3] t (0, 0))) :
    ((((((((w.setCell ⟨R, 0, none⟩ a).setCell ⟨R, 1, none⟩ b).setCell ⟨R, 2, none⟩ c).setCell ⟨R, 3, none⟩ d).setCell ⟨S, 0, none⟩ a').setCell ⟨S, 1, none⟩ b').setCell ⟨S, 2, none⟩ c').setCell ⟨S, 3, none⟩ d').heap[R]? = some (.cells #[a, b, c, d] t (0, 0)) ∧ ((((((((w.setCell ⟨R, 0, none⟩ a).setCell ⟨R, 1, none⟩ b).setCell ⟨R, 2, none⟩ c).setCell ⟨R, 3, none⟩ d).setCell ⟨S, 0, none⟩ a').setCell ⟨S, 1, none⟩ b').setCell ⟨S, 2, none⟩ c').setCell ⟨S, 3, none⟩ d').heap[S]? = some (.cells #[a', b', c', d'] t (0, 0)) := by
  refine ⟨?_, ?_⟩
  · rw [(frm4 _ S a' b' c' d').block R (by have := (Array.getElem?_eq_some_iff.1 h).1; simpa [World.setCell] using this) (by show ¬ R = S; exact hne)]
    exact cells_all a b c d h
  · exact cells_all a' b' c' d' (((frm4 w R a b c d).block S (Array.getElem?_eq_some_iff.1 h').1 (by show ¬ S = R; exact fun e => hne e.symm)).trans h')
/-- the nodes that count says of a type whose variable has been followed. -/
theorem count_lim {St : List TT} {rk : Int → Nat} (hst : StOk St rk) {sb : Nat} {n : Int} {V : TT} {A : Option Addr} {c : Nat} {w : World} (hsh : shp V = true) (hV : TRow w any0 A (resF St V).args) (hs : SubR w sb n St) :
    Calls Tryz.prog 48 #[.pointer (some ⟨sb, 0, none⟩), tv (resF St V) A c, .int .i64 500] w fun e w' => e = .returned (.int .i64 (min (fsz St V : Int) 501)) ∧ Below w.heap.size w w' := by
  have hs2 := res_shp hst (resF_res hst V) hsh
  have h := count_ok hst (n := n) (sb := sb) 501 (resF St V) (tv (resF St V) A c) 500 w (by omega) (by omega) (by omega) hs2 ⟨A, c, rfl, hV⟩ hs
  rw [cnt_fsz hst _ hs2 501 500 (by omega) (by omega), fsz_res hst hsh] at h
  exact h
/-- the loop over the arguments. -/
def UnJ (K Pr : Nat → Prop) (B ub sb : Nat) (n : Int) (f : US → TT → TT → Int × US) (u : US) (la lb : List TT) (wS : World) (i : Value) (wr : World) : Prop := ∃ (k : Nat) (u' : US) (rv sv : Value) (xs : List Value), k ≤ la.length ∧ i = .int .i64 k ∧ Hid (uniL f la lb u = uniL f (la.drop k) (lb.drop k) u') ∧ Hid (UExt u u') ∧ Hid (UM wr K Pr B ub sb n u' rv sv xs) ∧ Hid (Frm wS wr (Tn Pr B))
theorem uniL_drop {f : US → TT → TT → Int × US} {la lb : List TT} {k : Nat} {u : US} (ha : k < la.length) (hb : k < lb.length) : uniL f (la.drop k) (lb.drop k) u = if (f u la[k] lb[k]).1 = 0 then uniL f (la.drop (k + 1)) (lb.drop (k + 1)) (f u la[k] lb[k]).2 else f u la[k] lb[k] := by
  rw [List.drop_eq_getElem_cons ha, List.drop_eq_getElem_cons hb, uniL]
theorem uniL_end {f : US → TT → TT → Int × US} {la lb : List TT} {u : US} : uniL f (la.drop la.length) lb u = (0, u) := by
  rw [List.drop_length]; unfold uniL; rfl
open Classical in
set_option maxRecDepth 100000 in
set_option maxHeartbeats 16000000 in
theorem unify_any {B ub sb : Nat} {n : Int} : ∀ (d : Nat) (K Pr : Nat → Prop) (u : US) (a b : TT) (va vb rv sv : Value) (xs : List Value) (w : World), muU u a < d → UInv u → shp a = true → shp b = true → UM w K Pr B ub sb n u rv sv xs → B ≤ w.heap.size → TIn w K a va → TIn w K b vb →
    Calls Tryz.prog 26 #[.pointer (some ⟨ub, 0, none⟩), va, vb] w (BdPost K Pr B ub sb n w (uniF d u a b)) := by
  intro d
  induction d with
  | zero => intro K Pr u a b va vb rv sv xs w h; omega
  | succ d ih =>
  intro K Pr u a b va vb rv sv xs w hmu hinv hsa hsb hum hB ⟨Aa, ca, hva, hAa⟩ ⟨Ab, cb, hvb, hAb⟩
  subst hva hvb
  obtain ⟨rk, hst⟩ := hinv.ok
  have hsA := res_shp hst (resF_res hst a) hsa
  have hsB := res_shp hst (resF_res hst b) hsb
  have RA := Lib.hid (fun W (hW : Below w.heap.size w W) => resolve_okW hst (c := ca) hsa (hAa.later hW) (hum.later hW).sub)
  have RB := Lib.hid (fun W (hW : Below w.heap.size w W) => resolve_okW hst (c := cb) hsb (hAb.later hW) (hum.later hW).sub)
  have CA := Lib.hid (fun W (hW : Below w.heap.size w W) A c (hr : TRow W K A (resF u.st a).args) => count_lim hst (c := c) hsa (hr.weak (fun _ _ _ => trivial)) (hum.later hW).sub.read)
  have CB := Lib.hid (fun W (hW : Below w.heap.size w W) A c (hr : TRow W K A (resF u.st b).args) => count_lim hst (c := c) hsb (hr.weak (fun _ _ _ => trivial)) (hum.later hW).sub.read)
  have MU := Lib.hid (fun (h5 : ¬ 500 < fsz u.st a) u' x (hx : x ∈ (resF u.st a).args) (he : UExt u u') => Nat.lt_of_lt_of_le (mu_arg hinv.ok hsa h5 hx he.ubn) (Nat.le_of_lt_succ hmu))
  have NA := Lib.hid (res_stop (resF_res hst a))
  have NB := Lib.hid (res_stop (resF_res hst b))
  have hvA := shp_k hsA
  have hvB := shp_k hsB
  have HSL := Lib.hid hst.len
  have HCN := Lib.hid (show u.set.length ≤ 2000 by have := hinv.cnt; omega)
  obtain ⟨Q, hQ⟩ : ∃ Q, Q = uniF (d + 1) u a b := ⟨_, rfl⟩
  rw [← hQ]
  rw [uniF] at hQ
  obtain ⟨TA, hTA⟩ : ∃ z, z = resF u.st a := ⟨_, rfl⟩
  obtain ⟨TB, hTB⟩ : ∃ z, z = resF u.st b := ⟨_, rfl⟩
  obtain ⟨fA, hfA⟩ : ∃ z, z = fsz u.st a := ⟨_, rfl⟩
  obtain ⟨fB, hfB⟩ : ∃ z, z = fsz u.st b := ⟨_, rfl⟩
  rw [← hTA] at RA CA MU NA hvA hsA hQ
  rw [← hTB] at RB CB NB hvB hsB hQ
  rw [← hfA] at CA MU hQ
  rw [← hfB] at CB hQ
  have HQ := Lib.hid hQ
  clear hQ
  have HST := Lib.hid hst
  have HINV := Lib.hid hinv
  have HUM := Lib.hid hum
  have HBB := Lib.hid hB
  have HSA := Lib.hid hsA
  have HSB := Lib.hid hsB
  have HI := Lib.hid ih
  unfold tv at RA RB CA CB ⊢
  obtain ⟨wB, hwB⟩ : ∃ z, z = (w.alloc (.cells #[.int .i64 a.k, .string a.nm, .int .i64 a.vr, .slice Aa a.args.length ca] 24)).alloc (.cells #[.int .i64 b.k, .string b.nm, .int .i64 b.vr, .slice Ab b.args.length cb] 24) := ⟨_, rfl⟩
  have BX := two_box (w := w) (.cells #[.int .i64 a.k, .string a.nm, .int .i64 a.vr, .slice Aa a.args.length ca] 24) (.cells #[.int .i64 b.k, .string b.nm, .int .i64 b.vr, .slice Ab b.args.length cb] 24)
  have BB := Lib.hid (show Below w.heap.size w wB by rw [hwB]; exact bt (below_alloc w _) (below_alloc _ _))
  have HZ := Lib.hid (show wB.heap.size = w.heap.size + 2 by rw [hwB]; simp)
  rw [← hwB] at BX
  have HX := Lib.hid BX.1
  have HY := Lib.hid BX.2
  have KU := Lib.hid (sub_cell ((BB.out.block ub hum.ult).trans hum.ubc)).1
  have HUL := Lib.hid hum.ult
  have HWB := Lib.hid hwB
  clear BX hwB hTA hTB hfA hfB hst hinv hum hB hsA hsB ih hmu hAa hAb hsa hsb
  go_enter Tryz.func26, Tryz.ntmps26
  go_wp2_with fail
  try rw [← HWB.out]
  refine wp_region_D [12, 13] (fun w' => Below wB.heap.size wB w') (by kernel_rfl) (bdr wB) (fun hHeld => ?_)
  refine WDs 0 ⟨some 9, .move (.tmp 0), 84, _, #[], none⟩ ?va0 ?hya0 hHeld ?_
  case hya0 => (intro wz hSw; (try dsimp only at hSw); go_simp; try with_reducible rfl)
  (try simp only [putz])
  refine WDs 1 ⟨some 10, .nilCheck (.tmp 9), 0, _, #[⟨0, .data⟩], none⟩ ?va1 ?hya1 hHeld ?_
  case hya1 => (intro wz hSw; (try dsimp only at hSw); go_simp; try with_reducible rfl)
  (try simp only [putz])
  refine WDs 2 ⟨some 11, .fieldAddr 67 (.tmp 10) 0, 0, _, #[⟨1, .data⟩], none⟩ ?va2 ?hya2 hHeld ?_
  case hya2 => (intro wz hSw; (try dsimp only at hSw); go_simp; try with_reducible rfl)
  (try simp only [putz])
  refine WDs 3 ⟨some 12, .load 31 (.tmp 11), 31, _, #[⟨2, .data⟩], none⟩ ?va3 ?hya3 hHeld ?_
  case hya3 => (intro wz hSw; (try dsimp only at hSw); have q0 := (hSw.cell (p := ⟨ub, 0, none⟩) (by have := HZ.out; have := HUL.out; show ub < _; omega)).trans KU.out; go_simp; try with_reducible rfl)
  (try simp only [putz])
  refine WDs 4 ⟨some 13, .load 24 (.tmp 4), 24, _, #[], none⟩ ?va4 ?hya4 hHeld ?_
  case hya4 => (intro wz hSw; (try dsimp only at hSw); obtain ⟨z0, z1, z2, z3⟩ := cells4 ((hSw.block w.heap.size (by have := HZ.out; omega)).trans HX.out); go_simp; try with_reducible rfl)
  (try simp only [putz])
  refine WDs 6 ⟨some 15, .move (.tmp 0), 84, _, #[], none⟩ ?va6 ?hya6 hHeld ?_
  case hya6 => (intro wz hSw; (try dsimp only at hSw); go_simp; try with_reducible rfl)
  (try simp only [putz])
  refine WDs 7 ⟨some 16, .nilCheck (.tmp 15), 0, _, #[⟨6, .data⟩], none⟩ ?va7 ?hya7 hHeld ?_
  case hya7 => (intro wz hSw; (try dsimp only at hSw); go_simp; try with_reducible rfl)
  (try simp only [putz])
  refine WDs 8 ⟨some 17, .fieldAddr 67 (.tmp 16) 0, 0, _, #[⟨7, .data⟩], none⟩ ?va8 ?hya8 hHeld ?_
  case hya8 => (intro wz hSw; (try dsimp only at hSw); go_simp; try with_reducible rfl)
  (try simp only [putz])
  refine WDs 9 ⟨some 18, .load 31 (.tmp 17), 31, _, #[⟨8, .data⟩], none⟩ ?va9 ?hya9 hHeld ?_
  case hya9 => (intro wz hSw; (try dsimp only at hSw); have q0 := (hSw.cell (p := ⟨ub, 0, none⟩) (by have := HZ.out; have := HUL.out; show ub < _; omega)).trans KU.out; go_simp; try with_reducible rfl)
  (try simp only [putz])
  refine WDs 10 ⟨some 19, .load 24 (.tmp 5), 24, _, #[], none⟩ ?va10 ?hya10 hHeld ?_
  case hya10 => (intro wz hSw; (try dsimp only at hSw); obtain ⟨z0, z1, z2, z3⟩ := cells4 ((hSw.block (w.heap.size + 1) (by have := HZ.out; omega)).trans HY.out); go_simp; try with_reducible rfl)
  (try simp only [putz])
  refine WD_ready (rs := [5]) (by kernel_rfl) (by simp) ?_
  refine AllD.cons (o := _) rfl (fun K hK => ?_) AllD.nil
  rw [if_pos (by rfl)]
  go_simp
  refine (RA.out _ (bt BB.out hHeld)).mono ?_; rintro e w1 ⟨A1, c1, rfl, hr1, hb1⟩
  try go_wp2_with fail
  refine hK.out _ _ (bt hHeld hb1) (fun hHeld => ?_)
  clear hK K
  (try simp only [putz])
  have B1 := Lib.hid hHeld
  have R1 := Lib.hid hr1
  clear hr1 hb1
  refine WD_ready (rs := [11]) (by kernel_rfl) (by simp) ?_
  refine AllD.cons (o := _) rfl (fun K hK => ?_) AllD.nil
  rw [if_pos (by rfl)]
  go_simp
  refine (RB.out _ (bt BB.out hHeld)).mono ?_; rintro e w2 ⟨A2, c2, rfl, hr2, hb2⟩
  try go_wp2_with fail
  refine hK.out _ _ (bt hHeld hb2) (fun hHeld => ?_)
  clear hK K
  (try simp only [putz])
  have B2 := Lib.hid hHeld
  have R1b := Lib.hid (R1.out.later hb2)
  have R2b := Lib.hid hr2
  have X2 := Lib.hid ((hHeld.block w.heap.size (by have := HZ.out; omega)).trans HX.out)
  have Y2 := Lib.hid ((hHeld.block (w.heap.size + 1) (by have := HZ.out; omega)).trans HY.out)
  clear hHeld hb2 hr2 R1 B1
  obtain ⟨p0, p1, p2, p3⟩ := cells4 X2.out
  obtain ⟨q0, q1, q2, q3⟩ := cells4 Y2.out
  obtain ⟨g0, g1, g2, g3⟩ := froz4 X2.out
  obtain ⟨h0, h1, h2, h3⟩ := froz4 Y2.out
  refine WD_ready (rs := [12]) (by kernel_rfl) (by simp) ?_
  refine AllD.last (o := _) rfl (by kernel_rfl) (fun K hK => ?_) AllD.nil
  rw [if_pos (by rfl)]
  go_simp
  refine hK.out _ _ ?_
  clear hK K
  (try simp only [putz])
  refine WD_ready (rs := [13]) (by kernel_rfl) (by simp) ?_
  refine AllD.last (o := _) rfl (by kernel_rfl) (fun K hK => ?_) AllD.nil
  rw [if_pos (by rfl)]
  go_simp
  refine hK.out _ _ ?_
  clear hK K
  (try simp only [putz])
  refine WD_done (by kernel_rfl) ?_ _
  obtain ⟨wS, hwS⟩ : ∃ z, z = ((((((((w2.setCell ⟨w.heap.size, 0, none⟩ (.int .i64 TA.k)).setCell ⟨w.heap.size, 1, none⟩ (.string TA.nm)).setCell ⟨w.heap.size, 2, none⟩ (.int .i64 TA.vr)).setCell ⟨w.heap.size, 3, none⟩ (.slice A1 TA.args.length c1)).setCell ⟨w.heap.size + 1, 0, none⟩ (.int .i64 TB.k)).setCell ⟨w.heap.size + 1, 1, none⟩ (.string TB.nm)).setCell ⟨w.heap.size + 1, 2, none⟩ (.int .i64 TB.vr)).setCell ⟨w.heap.size + 1, 3, none⟩ (.slice A2 TB.args.length c2)) := ⟨_, rfl⟩
  rw [← hwS]
  have FS := Lib.hid (show Frm w2 wS (fun q => q = w.heap.size ∨ q = w.heap.size + 1) by rw [hwS]; exact frm8 w2 w.heap.size (w.heap.size + 1) _ _ _ _ _ _ _ _)
  have XYS := cells_8 (show w.heap.size ≠ w.heap.size + 1 by omega) (.int .i64 TA.k) (.string TA.nm) (.int .i64 TA.vr) (.slice A1 TA.args.length c1) (.int .i64 TB.k) (.string TB.nm) (.int .i64 TB.vr) (.slice A2 TB.args.length c2) X2.out Y2.out
  rw [← hwS] at XYS
  have XS := Lib.hid XYS.1
  have YS := Lib.hid XYS.2
  have BS := Lib.hid (show Below w.heap.size w wS from (bt BB.out B2.out).trans (FS.out.below (fun q hq => by rcases hq with e | e <;> omega) (by have := B2.out.size; have := HZ.out; omega)))
  have R1 := Lib.hid (R1b.out.move (w' := wS) (P' := K) (fun q hq hk => ⟨FS.out.block q hq (fun e => by have := HUM.out.sub.kb q (HUM.out.sub.kp q hk); rcases e with e | e <;> omega), hk⟩) FS.out.size)
  have R2 := Lib.hid (R2b.out.move (w' := wS) (P' := K) (fun q hq hk => ⟨FS.out.block q hq (fun e => by have := HUM.out.sub.kb q (HUM.out.sub.kp q hk); rcases e with e | e <;> omega), hk⟩) FS.out.size)
  have HSZ := Lib.hid (show w.heap.size + 2 ≤ wS.heap.size by have := FS.out.size; have := B2.out.size; have := HZ.out; omega)
  have KS := Lib.hid (sub_cell ((BS.out.block ub HUL.out).trans HUM.out.ubc)).1
  clear hwS XYS p0 p1 p2 p3 q0 q1 q2 q3 g0 g1 g2 g3 h0 h1 h2 h3 X2 Y2 R1b R2b B2 FS KU HX HY RA RB
  by_cases h5 : 500 < fA
  · have H5 := Lib.hid h5
    have EQ := Lib.hid (show Q = (2, u) by rw [HQ.out, if_pos (.inl h5)])
    rw [show min (fA : Int) 501 = 501 by omega] at CA
    clear h5 CB
    go_wp2_with fail
    refine wp_region_D [] (fun w' => Below wS.heap.size wS w') (by kernel_rfl) (bdr wS) (fun hHeld => ?_)
    refine WDs 0 ⟨some 21, .move (.tmp 0), 84, _, #[], none⟩ ?vb0 ?hyb0 hHeld ?_
    case hyb0 => (intro wz hSw; (try dsimp only at hSw); go_simp; try with_reducible rfl)
    (try simp only [putz])
    refine WDs 1 ⟨some 22, .nilCheck (.tmp 21), 0, _, #[⟨0, .data⟩], none⟩ ?vb1 ?hyb1 hHeld ?_
    case hyb1 => (intro wz hSw; (try dsimp only at hSw); go_simp; try with_reducible rfl)
    (try simp only [putz])
    refine WDs 2 ⟨some 23, .fieldAddr 67 (.tmp 22) 0, 0, _, #[⟨1, .data⟩], none⟩ ?vb2 ?hyb2 hHeld ?_
    case hyb2 => (intro wz hSw; (try dsimp only at hSw); go_simp; try with_reducible rfl)
    (try simp only [putz])
    refine WDs 3 ⟨some 24, .load 31 (.tmp 23), 31, _, #[⟨2, .data⟩], none⟩ ?vb3 ?hyb3 hHeld ?_
    case hyb3 => (intro wz hSw; (try dsimp only at hSw); have q0 := (hSw.cell (p := ⟨ub, 0, none⟩) (by have := HSZ.out; have := HUL.out; show ub < _; omega)).trans KS.out; go_simp; try with_reducible rfl)
    (try simp only [putz])
    refine WDs 4 ⟨some 25, .load 24 (.tmp 4), 24, _, #[], none⟩ ?vb4 ?hyb4 hHeld ?_
    case hyb4 => (intro wz hSw; (try dsimp only at hSw); obtain ⟨z0, z1, z2, z3⟩ := cells4 ((hSw.block w.heap.size (by have := HSZ.out; omega)).trans XS.out); go_simp; try with_reducible rfl)
    (try simp only [putz])
    refine WD_ready (rs := [5]) (by kernel_rfl) (by simp) ?_
    refine AllD.cons (o := _) rfl (fun K hK => ?_) AllD.nil
    rw [if_pos (by rfl)]
    go_simp
    refine (CA.out _ (bt BS.out hHeld) A1 c1 (R1.out.later hHeld)).mono ?_; rintro e w3 ⟨rfl, hb3⟩
    try go_wp2_with fail
    refine hK.out _ _ (bt hHeld hb3) (fun hHeld => ?_)
    clear hK K
    (try simp only [putz])
    clear hb3
    refine WDs 6 ⟨some 27, .binOp .gtr 3 (.tmp 26) (.const (.int .i64 500)) 3, 4, _, #[⟨5, .data⟩], none⟩ ?vb6 ?hyb6 hHeld ?_
    case hyb6 => (intro wz hSw; (try dsimp only at hSw); go_simp; try with_reducible rfl)
    (try simp only [putz])
    refine WDs 7 ⟨some 28, .move (.tmp 27), 4, _, #[⟨6, .data⟩, ⟨5, .chain⟩], none⟩ ?vb7 ?hyb7 hHeld ?_
    case hyb7 => (intro wz hSw; (try dsimp only at hSw); go_simp; try with_reducible rfl)
    (try simp only [putz])
    refine WDk 8 ⟨some 29, .move (.tmp 0), 84, _, #[⟨7, .guard⟩], some (7, false)⟩ hHeld ?_
    (try simp only [putz])
    refine WDk 9 ⟨some 30, .nilCheck (.tmp 29), 0, _, #[⟨8, .data⟩, ⟨7, .guard⟩], some (7, false)⟩ hHeld ?_
    (try simp only [putz])
    refine WDk 10 ⟨some 31, .fieldAddr 67 (.tmp 30) 0, 0, _, #[⟨9, .data⟩, ⟨7, .guard⟩], some (7, false)⟩ hHeld ?_
    (try simp only [putz])
    refine WDk 11 ⟨some 32, .load 31 (.tmp 31), 31, _, #[⟨10, .data⟩, ⟨7, .guard⟩], some (7, false)⟩ hHeld ?_
    (try simp only [putz])
    refine WDk 12 ⟨some 33, .load 24 (.tmp 5), 24, _, #[⟨7, .guard⟩], some (7, false)⟩ hHeld ?_
    (try simp only [putz])
    refine WD_ready (rs := [13]) (by kernel_rfl) (by simp) ?_
    refine AllD.cons (o := ⟨some 34, .call { callee := .value (.func 48), args := #[.tmp 32, .tmp 33, .const (.int .i64 500)], argTypes := #[31, 24, 3] }, 3, _, #[⟨11, .data⟩, ⟨12, .data⟩, ⟨7, .chain⟩, ⟨7, .guard⟩], some (7, false)⟩) rfl (fun K hK => ?_) AllD.nil
    rw [if_neg (fun h => nomatch h)]
    refine hK.out _ _ hHeld (fun hHeld => ?_)
    clear hK K
    (try simp only [putz])
    refine WDk 14 ⟨some 35, .binOp .gtr 3 (.tmp 34) (.const (.int .i64 500)) 3, 4, _, #[⟨13, .data⟩, ⟨7, .guard⟩], some (7, false)⟩ hHeld ?_
    (try simp only [putz])
    refine WDs 15 ⟨some 36, .pick (.tmp 28) (.const (.bool true)) (.tmp 35), 4, _, #[⟨7, .data⟩, ⟨14, .data⟩], none⟩ ?vb15 ?hyb15 hHeld ?_
    case hyb15 => (intro wz hSw; (try dsimp only at hSw); go_simp; try with_reducible rfl)
    (try simp only [putz])
    have B4 := Lib.hid hHeld
    clear hHeld
    refine WD_done (by kernel_rfl) ?_ _
    go_wp2
    go_ret
    rw [EQ.out]
    exact ⟨rfl, ⟨_, _, _, HUM.out.later (bt BS.out B4.out)⟩, Frm.of_below (bt BS.out B4.out) (Nat.le_refl _) _⟩
  obtain ⟨mA, hmA⟩ : ∃ z, z = min (fA : Int) 501 := ⟨_, rfl⟩
  have dA : decide (500 < mA) = false := decide_eq_false (by omega)
  rw [← hmA] at CA
  have H5 := Lib.hid h5
  clear hmA h5
  by_cases h6 : 500 < fB
  · have EQ := Lib.hid (show Q = (2, u) by rw [HQ.out, if_pos (.inr h6)])
    rw [show min (fB : Int) 501 = 501 by omega] at CB
    clear h6
    go_wp2_with fail
    refine wp_region_D [] (fun w' => Below wS.heap.size wS w') (by kernel_rfl) (bdr wS) (fun hHeld => ?_)
    refine WDs 0 ⟨some 21, .move (.tmp 0), 84, _, #[], none⟩ ?vc0 ?hyc0 hHeld ?_
    case hyc0 => (intro wz hSw; (try dsimp only at hSw); go_simp; try with_reducible rfl)
    (try simp only [putz])
    refine WDs 1 ⟨some 22, .nilCheck (.tmp 21), 0, _, #[⟨0, .data⟩], none⟩ ?vc1 ?hyc1 hHeld ?_
    case hyc1 => (intro wz hSw; (try dsimp only at hSw); go_simp; try with_reducible rfl)
    (try simp only [putz])
    refine WDs 2 ⟨some 23, .fieldAddr 67 (.tmp 22) 0, 0, _, #[⟨1, .data⟩], none⟩ ?vc2 ?hyc2 hHeld ?_
    case hyc2 => (intro wz hSw; (try dsimp only at hSw); go_simp; try with_reducible rfl)
    (try simp only [putz])
    refine WDs 3 ⟨some 24, .load 31 (.tmp 23), 31, _, #[⟨2, .data⟩], none⟩ ?vc3 ?hyc3 hHeld ?_
    case hyc3 => (intro wz hSw; (try dsimp only at hSw); have q0 := (hSw.cell (p := ⟨ub, 0, none⟩) (by have := HSZ.out; have := HUL.out; show ub < _; omega)).trans KS.out; go_simp; try with_reducible rfl)
    (try simp only [putz])
    refine WDs 4 ⟨some 25, .load 24 (.tmp 4), 24, _, #[], none⟩ ?vc4 ?hyc4 hHeld ?_
    case hyc4 => (intro wz hSw; (try dsimp only at hSw); obtain ⟨z0, z1, z2, z3⟩ := cells4 ((hSw.block w.heap.size (by have := HSZ.out; omega)).trans XS.out); go_simp; try with_reducible rfl)
    (try simp only [putz])
    refine WD_ready (rs := [5]) (by kernel_rfl) (by simp) ?_
    refine AllD.cons (o := _) rfl (fun K hK => ?_) AllD.nil
    rw [if_pos (by rfl)]
    go_simp
    refine (CA.out _ (bt BS.out hHeld) A1 c1 (R1.out.later hHeld)).mono ?_; rintro e w3 ⟨rfl, hb3⟩
    try go_wp2_with fail
    refine hK.out _ _ (bt hHeld hb3) (fun hHeld => ?_)
    clear hK K
    (try simp only [putz])
    clear hb3
    refine WDs 6 ⟨some 27, .binOp .gtr 3 (.tmp 26) (.const (.int .i64 500)) 3, 4, _, #[⟨5, .data⟩], none⟩ ?vc6 ?hyc6 hHeld ?_
    case hyc6 => (intro wz hSw; (try dsimp only at hSw); go_simp; try with_reducible rfl)
    (try simp only [putz])
    refine WDs 7 ⟨some 28, .move (.tmp 27), 4, _, #[⟨6, .data⟩, ⟨5, .chain⟩], none⟩ ?vc7 ?hyc7 hHeld ?_
    case hyc7 => (intro wz hSw; (try dsimp only at hSw); go_simp; try with_reducible rfl)
    (try simp only [putz])
    refine WDs 8 ⟨some 29, .move (.tmp 0), 84, _, #[⟨7, .guard⟩], some (7, false)⟩ ?vc8 ?hyc8 hHeld ?_
    case hyc8 => (intro wz hSw; (try dsimp only at hSw); go_simp; try with_reducible rfl)
    (try simp only [putz])
    refine WDs 9 ⟨some 30, .nilCheck (.tmp 29), 0, _, #[⟨8, .data⟩, ⟨7, .guard⟩], some (7, false)⟩ ?vc9 ?hyc9 hHeld ?_
    case hyc9 => (intro wz hSw; (try dsimp only at hSw); go_simp; try with_reducible rfl)
    (try simp only [putz])
    refine WDs 10 ⟨some 31, .fieldAddr 67 (.tmp 30) 0, 0, _, #[⟨9, .data⟩, ⟨7, .guard⟩], some (7, false)⟩ ?vc10 ?hyc10 hHeld ?_
    case hyc10 => (intro wz hSw; (try dsimp only at hSw); go_simp; try with_reducible rfl)
    (try simp only [putz])
    refine WDs 11 ⟨some 32, .load 31 (.tmp 31), 31, _, #[⟨10, .data⟩, ⟨7, .guard⟩], some (7, false)⟩ ?vc11 ?hyc11 hHeld ?_
    case hyc11 => (intro wz hSw; (try dsimp only at hSw); have q0 := (hSw.cell (p := ⟨ub, 0, none⟩) (by have := HSZ.out; have := HUL.out; show ub < _; omega)).trans KS.out; go_simp; try with_reducible rfl)
    (try simp only [putz])
    refine WDs 12 ⟨some 33, .load 24 (.tmp 5), 24, _, #[⟨7, .guard⟩], some (7, false)⟩ ?vc12 ?hyc12 hHeld ?_
    case hyc12 => (intro wz hSw; (try dsimp only at hSw); obtain ⟨z0, z1, z2, z3⟩ := cells4 ((hSw.block (w.heap.size + 1) (by have := HSZ.out; omega)).trans YS.out); go_simp; try with_reducible rfl)
    (try simp only [putz])
    refine WD_ready (rs := [13]) (by kernel_rfl) (by simp) ?_
    refine AllD.cons (o := _) rfl (fun K hK => ?_) AllD.nil
    rw [if_pos (by rfl)]
    go_simp
    refine (CB.out _ (bt BS.out hHeld) A2 c2 (R2.out.later hHeld)).mono ?_; rintro e w4 ⟨rfl, hb4⟩
    try go_wp2_with fail
    refine hK.out _ _ (bt hHeld hb4) (fun hHeld => ?_)
    clear hK K
    (try simp only [putz])
    clear hb4
    refine WDs 14 ⟨some 35, .binOp .gtr 3 (.tmp 34) (.const (.int .i64 500)) 3, 4, _, #[⟨13, .data⟩, ⟨7, .guard⟩], some (7, false)⟩ ?vc14 ?hyc14 hHeld ?_
    case hyc14 => (intro wz hSw; (try dsimp only at hSw); go_simp; try with_reducible rfl)
    (try simp only [putz])
    refine WDs 15 ⟨some 36, .pick (.tmp 28) (.const (.bool true)) (.tmp 35), 4, _, #[⟨7, .data⟩, ⟨14, .data⟩], none⟩ ?vc15 ?hyc15 hHeld ?_
    case hyc15 => (intro wz hSw; (try dsimp only at hSw); go_simp; try with_reducible rfl)
    (try simp only [putz])
    have B4 := Lib.hid hHeld
    clear hHeld
    refine WD_done (by kernel_rfl) ?_ _
    go_wp2
    go_ret
    rw [EQ.out]
    exact ⟨rfl, ⟨_, _, _, HUM.out.later (bt BS.out B4.out)⟩, Frm.of_below (bt BS.out B4.out) (Nat.le_refl _) _⟩
  obtain ⟨mB, hmB⟩ : ∃ z, z = min (fB : Int) 501 := ⟨_, rfl⟩
  have dB : decide (500 < mB) = false := decide_eq_false (by omega)
  rw [← hmB] at CB
  have HQ2 := Lib.hid (HQ.out.trans (if_neg (fun e => e.elim H5.out h6)))
  clear hmB h6 HQ
  go_wp2_with fail
  refine wp_region_D [] (fun w' => Below wS.heap.size wS w') (by kernel_rfl) (bdr wS) (fun hHeld => ?_)
  refine WDs 0 ⟨some 21, .move (.tmp 0), 84, _, #[], none⟩ ?vd0 ?hyd0 hHeld ?_
  case hyd0 => (intro wz hSw; (try dsimp only at hSw); go_simp; try with_reducible rfl)
  (try simp only [putz])
  refine WDs 1 ⟨some 22, .nilCheck (.tmp 21), 0, _, #[⟨0, .data⟩], none⟩ ?vd1 ?hyd1 hHeld ?_
  case hyd1 => (intro wz hSw; (try dsimp only at hSw); go_simp; try with_reducible rfl)
  (try simp only [putz])
  refine WDs 2 ⟨some 23, .fieldAddr 67 (.tmp 22) 0, 0, _, #[⟨1, .data⟩], none⟩ ?vd2 ?hyd2 hHeld ?_
  case hyd2 => (intro wz hSw; (try dsimp only at hSw); go_simp; try with_reducible rfl)
  (try simp only [putz])
  refine WDs 3 ⟨some 24, .load 31 (.tmp 23), 31, _, #[⟨2, .data⟩], none⟩ ?vd3 ?hyd3 hHeld ?_
  case hyd3 => (intro wz hSw; (try dsimp only at hSw); have q0 := (hSw.cell (p := ⟨ub, 0, none⟩) (by have := HSZ.out; have := HUL.out; show ub < _; omega)).trans KS.out; go_simp; try with_reducible rfl)
  (try simp only [putz])
  refine WDs 4 ⟨some 25, .load 24 (.tmp 4), 24, _, #[], none⟩ ?vd4 ?hyd4 hHeld ?_
  case hyd4 => (intro wz hSw; (try dsimp only at hSw); obtain ⟨z0, z1, z2, z3⟩ := cells4 ((hSw.block w.heap.size (by have := HSZ.out; omega)).trans XS.out); go_simp; try with_reducible rfl)
  (try simp only [putz])
  refine WD_ready (rs := [5]) (by kernel_rfl) (by simp) ?_
  refine AllD.cons (o := _) rfl (fun K hK => ?_) AllD.nil
  rw [if_pos (by rfl)]
  go_simp
  refine (CA.out _ (bt BS.out hHeld) A1 c1 (R1.out.later hHeld)).mono ?_; rintro e w3 ⟨rfl, hb3⟩
  try go_wp2_with fail
  refine hK.out _ _ (bt hHeld hb3) (fun hHeld => ?_)
  clear hK K
  (try simp only [putz])
  clear hb3
  refine WDs 6 ⟨some 27, .binOp .gtr 3 (.tmp 26) (.const (.int .i64 500)) 3, 4, _, #[⟨5, .data⟩], none⟩ ?vd6 ?hyd6 hHeld ?_
  case hyd6 => (intro wz hSw; (try dsimp only at hSw); go_simp; try with_reducible rfl)
  (try simp only [putz])
  refine WDs 7 ⟨some 28, .move (.tmp 27), 4, _, #[⟨6, .data⟩, ⟨5, .chain⟩], none⟩ ?vd7 ?hyd7 hHeld ?_
  case hyd7 => (intro wz hSw; (try dsimp only at hSw); go_simp; try with_reducible rfl)
  (try simp only [putz])
  refine WDs 8 ⟨some 29, .move (.tmp 0), 84, _, #[⟨7, .guard⟩], some (7, false)⟩ ?vd8 ?hyd8 hHeld ?_
  case hyd8 => (intro wz hSw; (try dsimp only at hSw); go_simp; try with_reducible rfl)
  (try simp only [putz])
  refine WDs 9 ⟨some 30, .nilCheck (.tmp 29), 0, _, #[⟨8, .data⟩, ⟨7, .guard⟩], some (7, false)⟩ ?vd9 ?hyd9 hHeld ?_
  case hyd9 => (intro wz hSw; (try dsimp only at hSw); go_simp; try with_reducible rfl)
  (try simp only [putz])
  refine WDs 10 ⟨some 31, .fieldAddr 67 (.tmp 30) 0, 0, _, #[⟨9, .data⟩, ⟨7, .guard⟩], some (7, false)⟩ ?vd10 ?hyd10 hHeld ?_
  case hyd10 => (intro wz hSw; (try dsimp only at hSw); go_simp; try with_reducible rfl)
  (try simp only [putz])
  refine WDs 11 ⟨some 32, .load 31 (.tmp 31), 31, _, #[⟨10, .data⟩, ⟨7, .guard⟩], some (7, false)⟩ ?vd11 ?hyd11 hHeld ?_
  case hyd11 => (intro wz hSw; (try dsimp only at hSw); have q0 := (hSw.cell (p := ⟨ub, 0, none⟩) (by have := HSZ.out; have := HUL.out; show ub < _; omega)).trans KS.out; go_simp; try with_reducible rfl)
  (try simp only [putz])
  refine WDs 12 ⟨some 33, .load 24 (.tmp 5), 24, _, #[⟨7, .guard⟩], some (7, false)⟩ ?vd12 ?hyd12 hHeld ?_
  case hyd12 => (intro wz hSw; (try dsimp only at hSw); obtain ⟨z0, z1, z2, z3⟩ := cells4 ((hSw.block (w.heap.size + 1) (by have := HSZ.out; omega)).trans YS.out); go_simp; try with_reducible rfl)
  (try simp only [putz])
  refine WD_ready (rs := [13]) (by kernel_rfl) (by simp) ?_
  refine AllD.cons (o := _) rfl (fun K hK => ?_) AllD.nil
  rw [if_pos (by rfl)]
  go_simp
  refine (CB.out _ (bt BS.out hHeld) A2 c2 (R2.out.later hHeld)).mono ?_; rintro e w4 ⟨rfl, hb4⟩
  try go_wp2_with fail
  refine hK.out _ _ (bt hHeld hb4) (fun hHeld => ?_)
  clear hK K
  (try simp only [putz])
  clear hb4
  refine WDs 14 ⟨some 35, .binOp .gtr 3 (.tmp 34) (.const (.int .i64 500)) 3, 4, _, #[⟨13, .data⟩, ⟨7, .guard⟩], some (7, false)⟩ ?vd14 ?hyd14 hHeld ?_
  case hyd14 => (intro wz hSw; (try dsimp only at hSw); go_simp; try with_reducible rfl)
  (try simp only [putz])
  refine WDs 15 ⟨some 36, .pick (.tmp 28) (.const (.bool true)) (.tmp 35), 4, _, #[⟨7, .data⟩, ⟨14, .data⟩], none⟩ ?vd15 ?hyd15 hHeld ?_
  case hyd15 => (intro wz hSw; (try dsimp only at hSw); go_simp; try with_reducible rfl)
  (try simp only [putz])
  have B4 := Lib.hid hHeld
  clear hHeld
  refine WD_done (by kernel_rfl) ?_ _
  have BW := Lib.hid (bt BS.out B4.out)
  have X4 := Lib.hid ((B4.out.block w.heap.size (by have := HSZ.out; omega)).trans XS.out)
  have Y4 := Lib.hid ((B4.out.block (w.heap.size + 1) (by have := HSZ.out; omega)).trans YS.out)
  have R14 := Lib.hid (R1.out.later B4.out)
  have R24 := Lib.hid (R2.out.later B4.out)
  have SZ4 := Lib.hid (show w.heap.size + 2 ≤ w4.heap.size by have := B4.out.size; have := HSZ.out; omega)
  obtain ⟨x0, x1, x2, x3⟩ := cells4 X4.out
  obtain ⟨y0, y1, y2, y3⟩ := cells4 Y4.out
  clear R1 R2 XS YS KS CA CB dA dB
  by_cases a7 : TA.k = 7
  · have qa : (TA.k == 7) = true := by rw [a7]; rfl
    by_cases b7 : TB.k = 7
    · have qb : (TB.k == 7) = true := by rw [b7]; rfl
      by_cases hgt : TB.vr < TA.vr
      · have EQ := Lib.hid (show Q = (0, standU u TA.vr TB) by rw [HQ2.out, if_pos a7, if_pos b7, if_pos hgt])
        have dg := decide_eq_true hgt
        have ST := Lib.hid (stand_any (HUM.out.later BW.out) (Nat.le_trans HBB.out BW.out.size) hvA.2.1 hvA.2.2 HSL.out HCN.out ⟨A2, c2, rfl, R24.out⟩)
        unfold tv at ST
        clear a7 b7 hgt
        as_aux_lemma =>
        go_wp2_with fail
        refine ST.out.mono ?_; rintro e w5 ⟨rfl, hu5, f5⟩
        have U5 := Lib.hid hu5
        have F5 := Lib.hid ((Frm.of_below BW.out (Nat.le_refl _) (Tn Pr B)).trans f5)
        clear hu5 f5 ST
        go_wp2
        go_ret
        rw [EQ.out]
        exact ⟨rfl, U5.out, F5.out⟩
      have dg := decide_eq_false hgt
      by_cases hlt : TA.vr < TB.vr
      · have EQ := Lib.hid (show Q = (0, standU u TB.vr TA) by rw [HQ2.out, if_pos a7, if_pos b7, if_neg hgt, if_pos hlt])
        have dl := decide_eq_true hlt
        have ST := Lib.hid (stand_any (HUM.out.later BW.out) (Nat.le_trans HBB.out BW.out.size) hvB.2.1 hvB.2.2 HSL.out HCN.out ⟨A1, c1, rfl, R14.out⟩)
        unfold tv at ST
        clear a7 b7 hgt hlt
        as_aux_lemma =>
        go_wp2_with fail
        refine ST.out.mono ?_; rintro e w5 ⟨rfl, hu5, f5⟩
        have U5 := Lib.hid hu5
        have F5 := Lib.hid ((Frm.of_below BW.out (Nat.le_refl _) (Tn Pr B)).trans f5)
        clear hu5 f5 ST
        go_wp2
        go_ret
        rw [EQ.out]
        exact ⟨rfl, U5.out, F5.out⟩
      · have EQ := Lib.hid (show Q = (0, u) by rw [HQ2.out, if_pos a7, if_pos b7, if_neg hgt, if_neg hlt])
        have dl := decide_eq_false hlt
        clear a7 b7 hgt hlt
        go_wp2
        go_ret
        rw [EQ.out]
        exact ⟨rfl, ⟨_, _, _, HUM.out.later BW.out⟩, Frm.of_below BW.out (Nat.le_refl _) _⟩
    · have qb : (TB.k == 7) = false := beq_eq_false_iff_ne.2 b7
      have EQ := Lib.hid (show Q = (if Occ u.st TA.vr TB then (5, u) else (0, standU u TA.vr TB)) by rw [HQ2.out, if_pos a7, if_neg b7])
      have BD := Lib.hid (bind_any HST.out (HUM.out.later BW.out) (Nat.le_trans HBB.out BW.out.size) hvA.2.1 hvA.2.2 HCN.out HSB.out ⟨A2, c2, rfl, R24.out⟩)
      unfold tv at BD
      rw [← EQ.out] at BD
      clear a7 b7
      as_aux_lemma =>
      go_wp2_with fail
      refine BD.out.mono ?_; rintro e w5 ⟨rfl, hu5, f5⟩
      have U5 := Lib.hid hu5
      have F5 := Lib.hid ((Frm.of_below BW.out (Nat.le_refl _) (Tn Pr B)).trans f5)
      clear hu5 f5 BD
      go_wp2
      go_ret
      exact ⟨rfl, U5.out, F5.out⟩
  have qa : (TA.k == 7) = false := beq_eq_false_iff_ne.2 a7
  by_cases b7 : TB.k = 7
  · have qb : (TB.k == 7) = true := by rw [b7]; rfl
    have EQ := Lib.hid (show Q = (if Occ u.st TB.vr TA then (5, u) else (0, standU u TB.vr TA)) by rw [HQ2.out, if_neg a7, if_pos b7])
    have BD := Lib.hid (bind_any HST.out (HUM.out.later BW.out) (Nat.le_trans HBB.out BW.out.size) hvB.2.1 hvB.2.2 HCN.out HSA.out ⟨A1, c1, rfl, R14.out⟩)
    unfold tv at BD
    rw [← EQ.out] at BD
    clear a7 b7
    as_aux_lemma =>
    go_wp2_with fail
    refine BD.out.mono ?_; rintro e w5 ⟨rfl, hu5, f5⟩
    have U5 := Lib.hid hu5
    have F5 := Lib.hid ((Frm.of_below BW.out (Nat.le_refl _) (Tn Pr B)).trans f5)
    clear hu5 f5 BD
    go_wp2
    go_ret
    exact ⟨rfl, U5.out, F5.out⟩
  have qb : (TB.k == 7) = false := beq_eq_false_iff_ne.2 b7
  have HQ3 := Lib.hid (HQ2.out.trans ((if_neg a7).trans (if_neg b7)))
  clear a7 b7 HQ2
  by_cases hk : TA.k = TB.k
  · by_cases hn : TA.nm = TB.nm
    · have qn : (TA.nm.toList == TB.nm.toList) = true := by rw [hn]; exact beq_self_eq_true _
      have HLE := Lib.hid (show TA.args.length = TB.args.length by
        have h1 := HSA.out; have h2 := HSB.out
        rw [shp_eq, Bool.and_eq_true] at h1 h2
        have h3 := (head_var h1.1).2.2.2.2
        have h4 := (head_var h2.1).2.2.2.2
        rw [← hk] at h4
        omega)
      have EQ0 := Lib.hid (show Q = uniL (uniF d) TA.args TB.args u by rw [HQ3.out, if_neg (fun e => e.elim (fun h => h hk) (fun h => h hn))])
      have SHA := Lib.hid (shp_head HSA.out).2.2
      have SHB := Lib.hid (shp_head HSB.out).2.2
      have hl2 := (shp_head HSA.out).2.1
      rw [hk] at qa x0
      clear hk hn HQ3
      obtain ⟨la, hla⟩ : ∃ l, l = TA.args := ⟨_, rfl⟩
      obtain ⟨lb, hlb⟩ : ∃ l, l = TB.args := ⟨_, rfl⟩
      have MU2 := Lib.hid (MU.out H5.out)
      rw [← hla] at R14 HLE EQ0 SHA hl2 x3 MU2 X4
      rw [← hlb] at R24 HLE EQ0 SHB y3 Y4
      obtain ⟨PX, hPX⟩ : ∃ P : Nat → Prop, P = fun q => Pr q ∨ q = w.heap.size ∨ q = w.heap.size + 1 := ⟨_, rfl⟩
      have HPX := Lib.hid hPX
      have UX := Lib.hid (show UM w4 K PX B ub sb n u rv sv xs by
        have h := HUM.out
        refine (h.later BW.out).more (fun q hq => by rw [hPX]; exact .inl hq) (fun q hq => ?_) ⟨fun e => ?_, fun e => ?_, fun q hq e => ?_, fun q hq e => ?_⟩
        · rw [hPX] at hq
          have := SZ4.out
          rcases hq with hq | hq
          · have := h.sub.kb q hq; omega
          · omega
        · rw [hPX] at e
          rcases e with e | e
          · exact h.sub.nsb e
          · have := h.sub.slt; omega
        · rw [hPX] at e
          rcases e with e | e
          · exact h.nub e
          · have := h.ult; omega
        · rw [hPX] at e
          rcases e with e | e
          · exact h.sub.nrv q hq e
          · have := (h.sub.row.lt q hq).2; omega
        · rw [hPX] at e
          rcases e with e | e
          · exact h.nsv q hq e
          · have := (h.srow.lt q hq).2; omega)
      have HKX := Lib.hid (show ∀ q, K q → PX q from UX.out.sub.kp)
      have HTN := Lib.hid (show ∀ q, Tn PX B q → Tn Pr B q from fun q hq => ⟨hq.1, fun e => hq.2 (by rw [hPX]; exact .inl e)⟩)
      have HNX := Lib.hid (show ¬ Tn PX B w.heap.size ∧ ¬ Tn PX B (w.heap.size + 1) from ⟨fun e => e.2 (by rw [hPX]; exact .inr (.inl rfl)), fun e => e.2 (by rw [hPX]; exact .inr (.inr rfl))⟩)
      have LESS := Lib.hid (fun (W : World) (u2 : US) (rv sv : Value) (xs : List Value) (h : UM W K PX B ub sb n u2 rv sv xs) => (h.less (Pr := Pr) (fun q hq => by rw [hPX]; exact .inl hq) HUM.out.sub.kp))
      have HB4 := Lib.hid (Nat.le_trans HBB.out BW.out.size)
      clear hla hlb hPX
      as_aux_lemma =>
      go_wp2
      go_loopw [99] (fun i wr => UnJ K PX B ub sb n (uniF d) u la lb w4 i wr) (fun i _ => la.length - (intOf i).toNat)
      case atStart => exact ⟨0, u, rv, sv, xs, by omega, by first | rfl | trivial, Lib.hid (by rw [List.drop_zero, List.drop_zero]), Lib.hid (.refl HINV.out), UX, Lib.hid (Frm.refl _ _)⟩
      case round =>
        obtain ⟨k, u', rv', sv', xs', hk, rfl, HQL, HE, HM, HF⟩ := hrel
        have XB := Lib.hid ((HF.out.block w.heap.size (by have := SZ4.out; omega) HNX.out.1).trans X4.out)
        have YB := Lib.hid ((HF.out.block (w.heap.size + 1) (by have := SZ4.out; omega) HNX.out.2).trans Y4.out)
        have SZR := Lib.hid (show w.heap.size + 2 ≤ wr.heap.size by have := SZ4.out; have := HF.out.size; omega)
        by_cases hlt : k < la.length
        · have hlti : (k : Int) < (la.length : Int) := by omega
          have hltb : k < lb.length := by rw [← HLE.out]; exact hlt
          have hltbi : (k : Int) < (lb.length : Int) := by omega
          obtain ⟨b1, o1, rfl, hb1, hr1⟩ := (R14.out.tn HKX.out HF.out).at (by omega)
          obtain ⟨b2, o2, rfl, hb2, hr2⟩ := (R24.out.tn HKX.out HF.out).at (by omega)
          obtain ⟨A', c', e0, e1, e2, e3, hin1⟩ := hr1 wr (Below.refl _ _) k hlt
          obtain ⟨A'', c'', d0, d1, d2, d3, hin2⟩ := hr2 wr (Below.refl _ _) k hltb
          obtain ⟨⟨ei, uq⟩, hq⟩ : ∃ q, q = uniF d u' la[k] lb[k] := ⟨_, rfl⟩
          have HX5 := Lib.hid (show UExt u uq by
            have h := uniF_ext d u' la[k] lb[k] HE.out.inv (SHA.out _ (List.getElem_mem hlt)) (SHB.out _ (List.getElem_mem hltb))
            rw [← hq] at h
            exact HE.out.trans h)
          have HSTEP := Lib.hid (show Q = if ei = 0 then uniL (uniF d) (la.drop (k + 1)) (lb.drop (k + 1)) uq else (ei, uq) by
            rw [EQ0.out, HQL.out, uniL_drop hlt hltb, ← hq])
          have CALL : Hid (∀ W, Below wr.heap.size wr W → Calls Tryz.prog 26 #[.pointer (some ⟨ub, 0, none⟩), tv la[k] A' c', tv lb[k] A'' c''] W fun e w' => e = .returned (.int .i64 ei) ∧ (∃ rv sv xs, UM w' K PX B ub sb n uq rv sv xs) ∧ Frm W w' (Tn PX B)) := Lib.hid (fun W hW => by
            have h := HI.out K PX u' la[k] lb[k] _ _ rv' sv' xs' W (MU2.out u' la[k] (List.getElem_mem hlt) HE.out) HE.out.inv (SHA.out _ (List.getElem_mem hlt)) (SHB.out _ (List.getElem_mem hltb)) (HM.out.later hW) (by have := HB4.out; have := HF.out.size; have := hW.size; omega) (hin1.later hW) (hin2.later hW)
            rw [← hq] at h
            exact h)
          obtain ⟨E1, hE1⟩ : ∃ E, E = la[k] := ⟨_, rfl⟩
          obtain ⟨E2, hE2⟩ : ∃ E, E = lb[k] := ⟨_, rfl⟩
          rw [← hE1] at e0 e1 e2 e3 CALL
          rw [← hE2] at d0 d1 d2 d3 CALL
          have HLB := Lib.hid (And.intro hb1 hb2)
          unfold tv at CALL
          clear hr1 hr2 hin1 hin2 hb1 hb2 hq hE1 hE2 HI MU2 SHA SHB MU
          go_wp2_with fail
          refine wp_region_D [11] (fun w' => Below wr.heap.size wr w') (by kernel_rfl) (bdr wr) (fun hHeld => ?_)
          refine WDs 0 ⟨some 102, .move (.tmp 0), 84, _, #[], none⟩ ?ve0 ?hye0 hHeld ?_
          case hye0 => (intro wz hSw; (try dsimp only at hSw); go_simp; try with_reducible rfl)
          (try simp only [putz])
          refine WDs 1 ⟨some 103, .fieldAddr 24 (.tmp 4) 3, 0, _, #[], none⟩ ?ve1 ?hye1 hHeld ?_
          case hye1 => (intro wz hSw; (try dsimp only at hSw); go_simp; try with_reducible rfl)
          (try simp only [putz])
          refine WDs 2 ⟨some 104, .load 22 (.tmp 103), 22, _, #[⟨1, .data⟩], none⟩ ?ve2 ?hye2 hHeld ?_
          case hye2 => (intro wz hSw; (try dsimp only at hSw); have q3 := (cells4 ((hSw.block w.heap.size (by have := SZR.out; omega)).trans XB.out)).2.2.2; go_simp; try with_reducible rfl)
          (try simp only [putz])
          refine WDs 3 ⟨some 105, .move (.tmp 7), 3, _, #[], none⟩ ?ve3 ?hye3 hHeld ?_
          case hye3 => (intro wz hSw; (try dsimp only at hSw); go_simp; try with_reducible rfl)
          (try simp only [putz])
          refine WDs 4 ⟨some 106, .indexAddr 22 (.tmp 104) (.tmp 105), 0, _, #[⟨2, .data⟩, ⟨3, .data⟩], none⟩ ?ve4 ?hye4 hHeld ?_
          case hye4 => (intro wz hSw; (try dsimp only at hSw); go_simp; try with_reducible rfl)
          (try simp only [putz])
          refine WDs 5 ⟨some 107, .load 24 (.tmp 106), 24, _, #[⟨4, .data⟩], none⟩ ?ve5 ?hye5 hHeld ?_
          case hye5 => (intro wz hSw; (try dsimp only at hSw); have q0 := (hSw.cell (p := ⟨b1, _, none⟩) HLB.out.1).trans e0; have q1 := (hSw.cell (p := ⟨b1, _, none⟩) HLB.out.1).trans e1; have q2 := (hSw.cell (p := ⟨b1, _, none⟩) HLB.out.1).trans e2; have q3 := (hSw.cell (p := ⟨b1, _, none⟩) HLB.out.1).trans e3; go_simp; try with_reducible rfl)
          (try simp only [putz])
          refine WDs 6 ⟨some 108, .fieldAddr 24 (.tmp 5) 3, 0, _, #[], none⟩ ?ve6 ?hye6 hHeld ?_
          case hye6 => (intro wz hSw; (try dsimp only at hSw); go_simp; try with_reducible rfl)
          (try simp only [putz])
          refine WDs 7 ⟨some 109, .load 22 (.tmp 108), 22, _, #[⟨6, .data⟩], none⟩ ?ve7 ?hye7 hHeld ?_
          case hye7 => (intro wz hSw; (try dsimp only at hSw); have q3 := (cells4 ((hSw.block (w.heap.size + 1) (by have := SZR.out; omega)).trans YB.out)).2.2.2; go_simp; try with_reducible rfl)
          (try simp only [putz])
          refine WDs 8 ⟨some 110, .move (.tmp 7), 3, _, #[], none⟩ ?ve8 ?hye8 hHeld ?_
          case hye8 => (intro wz hSw; (try dsimp only at hSw); go_simp; try with_reducible rfl)
          (try simp only [putz])
          refine WDs 9 ⟨some 111, .indexAddr 22 (.tmp 109) (.tmp 110), 0, _, #[⟨7, .data⟩, ⟨8, .data⟩], none⟩ ?ve9 ?hye9 hHeld ?_
          case hye9 => (intro wz hSw; (try dsimp only at hSw); go_simp; try with_reducible rfl)
          (try simp only [putz])
          refine WDs 10 ⟨some 112, .load 24 (.tmp 111), 24, _, #[⟨9, .data⟩], none⟩ ?ve10 ?hye10 hHeld ?_
          case hye10 => (intro wz hSw; (try dsimp only at hSw); have q0 := (hSw.cell (p := ⟨b2, _, none⟩) HLB.out.2).trans d0; have q1 := (hSw.cell (p := ⟨b2, _, none⟩) HLB.out.2).trans d1; have q2 := (hSw.cell (p := ⟨b2, _, none⟩) HLB.out.2).trans d2; have q3 := (hSw.cell (p := ⟨b2, _, none⟩) HLB.out.2).trans d3; go_simp; try with_reducible rfl)
          (try simp only [putz])
          refine WD_ready (rs := [11]) (by kernel_rfl) (by simp) ?_
          refine AllD.last (o := _) rfl (by kernel_rfl) (fun K hK => ?_) AllD.nil
          rw [if_pos (by rfl)]
          go_simp
          have hw5 := hHeld
          refine (CALL.out _ hHeld).mono ?_; rintro e w5 ⟨rfl, hu5, f5⟩
          try go_wp2_with fail
          refine hK.out _ _ ?_
          clear hK K
          (try simp only [putz])
          have U5 := Lib.hid hu5
          have F5 := Lib.hid ((HF.out.trans (Frm.of_below hw5 (Nat.le_refl _) (Tn PX B))).trans f5)
          clear hu5 f5 hw5 CALL
          refine WD_takeAny (i := 12) (oi := ⟨some 8, .assign (.tmp 113), 42, _, #[⟨11, .data⟩, ⟨11, .chain⟩, ⟨0, .phase⟩, ⟨1, .phase⟩, ⟨2, .phase⟩, ⟨3, .phase⟩, ⟨4, .phase⟩, ⟨5, .phase⟩, ⟨6, .phase⟩, ⟨7, .phase⟩, ⟨8, .phase⟩, ⟨9, .phase⟩, ⟨10, .phase⟩, ⟨11, .phase⟩], none⟩) (v := ?ve12) rfl (by kernel_rfl) (by kernel_rfl) (by kernel_rfl) (by kernel_rfl) (fun _ _ _ h => h) (Or.inl ⟨by rfl, ?hye12⟩) ?_
          case hye12 => (intro wz _; go_simp; try with_reducible rfl)
          (try simp only [putz])
          refine WD_done (by kernel_rfl) ?_ _
          by_cases hz : ei = 0
          · have HS2 := Lib.hid (HSTEP.out.trans (if_pos hz))
            subst hz
            clear HSTEP e0 e1 e2 e3 d0 d1 d2 d3
            obtain ⟨rv5, sv5, xs5, hu5⟩ := U5.out
            have HU5 := Lib.hid hu5
            clear hu5
            go_wp2
            go_roundw
            case rel =>
              exact ⟨k + 1, uq, rv5, sv5, xs5, by omega, by go_num, Lib.hid (by rw [← EQ0.out]; exact HS2.out), HX5, HU5, F5⟩
            case measure => simp [intOf]; omega
          · have HS2 := Lib.hid (HSTEP.out.trans (if_neg hz))
            have qz : (ei == 0) = false := beq_eq_false_iff_ne.2 hz
            have qz2 : (ei != 0) = true := by simp [bne, qz]
            clear HSTEP e0 e1 e2 e3 d0 d1 d2 d3 hz
            go_wp2
            go_ret
            rw [HS2.out]
            obtain ⟨rv5, sv5, xs5, hu5⟩ := U5.out
            exact ⟨rfl, ⟨_, _, _, LESS.out _ _ _ _ _ hu5⟩, (Frm.of_below BW.out (Nat.le_refl _) _).trans (F5.out.mono (fun q _ hq => HTN.out q hq))⟩
        · obtain rfl : k = la.length := by omega
          have hge : ¬ (la.length : Int) < (la.length : Int) := by omega
          have EQ := Lib.hid (show Q = (0, u') by rw [EQ0.out, HQL.out, uniL_end])
          go_wp2
          go_ret
          rw [EQ.out]
          exact ⟨rfl, ⟨_, _, _, LESS.out _ _ _ _ _ HM.out⟩, (Frm.of_below BW.out (Nat.le_refl _) _).trans (HF.out.mono (fun q _ hq => HTN.out q hq))⟩
    · have qk : (TA.k == TB.k) = true := by rw [hk]; exact beq_self_eq_true _
      have qn : (TA.nm.toList == TB.nm.toList) = false := beq_eq_false_iff_ne.2 (fun e => hn (toList_inj e))
      have EQ := Lib.hid (show Q = (5, u) by rw [HQ3.out, if_pos (.inr hn)])
      rw [hk] at qa x0
      clear hk hn
      as_aux_lemma =>
      go_wp2
      go_ret
      rw [EQ.out]
      exact ⟨rfl, ⟨_, _, _, HUM.out.later BW.out⟩, Frm.of_below BW.out (Nat.le_refl _) _⟩
  · have qk : (TA.k == TB.k) = false := beq_eq_false_iff_ne.2 hk
    have qk2 : (TA.k != TB.k) = true := by simp [bne, qk]
    have EQ := Lib.hid (show Q = (5, u) by rw [HQ3.out, if_pos (.inl hk)])
    clear hk
    go_wp2
    go_ret
    rw [EQ.out]
    exact ⟨rfl, ⟨_, _, _, HUM.out.later BW.out⟩, Frm.of_below BW.out (Nat.le_refl _) _⟩
end Go.Proofs.YtifopogkbjhkjaaGreatDoor
