import Derived.Test.YtifopogkbjhkjaaGreatDoorYn
import Derived.Test.YtifopogkbjhkjaaGreatDoorZb
namespace Go.Proofs.YtifopogkbjhkjaaGreatDoor
open DR
open Go.ChangeShapes Go.WideShapes Go.ChangeAt Go.RowKit Go.WideMaps
set_option linter.unusedVariables false
set_option linter.unusedSimpArgs false
variable {nx : Int}
theorem setK_len (xs : List Value) (x : Nat) (t : TT) (A : Option Addr) (c : Nat) : (setK xs x t A c).length = xs.length := by simp [setK]
theorem setK_app (xs : List Value) (z : Value) (x : Nat) (t : TT) (A : Option Addr) (c : Nat) (h : x * 4 + 3 < xs.length) : setK (xs ++ [z]) x t A c = setK xs x t A c ++ [z] := by
  unfold setK
  rw [List.set_append_left (x * 4) _ (by omega), List.set_append_left (x * 4 + 1) _ (by simp; omega), List.set_append_left (x * 4 + 2) _ (by simp; omega), List.set_append_left (x * 4 + 3) _ (by simp; omega)]
theorem bindS_full {St : List TT} (h : St.length = 2000) {x : Nat} (hx : x < 2000) (t : TT) : bindS St x t = St.set x t := by
  unfold bindS
  rw [show x + 1 - St.length = 0 by omega, List.replicate_zero, List.append_nil]
theorem RSub.frz {w : World} {P : Nat → Prop} {rb : Nat} {R : List TT} (h : RSub nx w P rb R) (i : Nat) : w.frozen? ⟨rb, i, none⟩ = false := by
  obtain ⟨xs, h1, _⟩ := h
  simp [World.frozen?, h1]
/-- s.to[x] = t. -/
theorem standR {P : Nat → Prop} {w : World} {rb : Nat} (hP : ∀ b, P b → b ≠ rb) {St : List TT} (h : RSub nx w P rb St) {x : Nat} (hx : x < 2000) {t : TT} {A : Option Addr} {c : Nat} (hr : TRow w P A t.args) :
    RSub nx ((((w.setCell ⟨rb, x * 4, none⟩ (.int .i64 t.k)).setCell ⟨rb, x * 4 + 1, none⟩ (.string t.nm)).setCell ⟨rb, x * 4 + 2, none⟩ (.int .i64 t.vr)).setCell ⟨rb, x * 4 + 3, none⟩ (.slice A t.args.length c)) P rb (bindS St x t) ∧
    Frm w ((((w.setCell ⟨rb, x * 4, none⟩ (.int .i64 t.k)).setCell ⟨rb, x * 4 + 1, none⟩ (.string t.nm)).setCell ⟨rb, x * 4 + 2, none⟩ (.int .i64 t.vr)).setCell ⟨rb, x * 4 + 3, none⟩ (.slice A t.args.length c)) (· = rb) := by
  obtain ⟨xs, h1, h2, h3⟩ := h
  have f : Frm w ((((w.setCell ⟨rb, x * 4, none⟩ (.int .i64 t.k)).setCell ⟨rb, x * 4 + 1, none⟩ (.string t.nm)).setCell ⟨rb, x * 4 + 2, none⟩ (.int .i64 t.vr)).setCell ⟨rb, x * 4 + 3, none⟩ (.slice A t.args.length c)) (· = rb) :=
    have hs : ∀ (W : World) (i : Nat) (v : Value), Frm W (W.setCell ⟨rb, i, none⟩ v) (· = rb) := fun W i v => frm_set (R := (· = rb)) i v rfl
    (((hs _ _ _).trans (hs _ _ _)).trans (hs _ _ _)).trans (hs _ _ _)
  have hl := kids_len h2
  have hk := KidsT.put (A := A) (c := c) hr (l := St) (x := x) (by omega) h2
  refine ⟨⟨setK xs x t A c, ?_, ?_, ?_⟩, f⟩
  · rw [← setK_app _ _ _ _ _ _ (by omega)]
    simp [World.setCell, Array.getElem?_modify, h1, setK]
  · rw [bindS_full h3 hx]
    exact hk.move (fun b hb hp => ⟨f.block b hb (hP b hp), hp⟩) f.size
  · rw [bindS_len]; omega
def OnPost (nx : Int) (P : Nat → Prop) (rb : Nat) (w : World) (q : Int × US) (e : Ending) (w' : World) : Prop := e = .returned (.int .i64 q.1) ∧ RSub nx w' P rb q.2.st ∧ Frm w w' (· = rb)
/-- the size of what a type is that was followed already. -/
theorem rsz_res {P : Nat → Prop} {St : List TT} {rk : Int → Nat} (hst : StOk St rk) {rb : Nat} {V : TT} {A : Option Addr} {c : Nat} {w : World} (hsh : shp V = true) (hV : TRow w P A (resF St V).args) (hs : RSub nx w P rb St) :
    Calls Tryz.prog 55 #[.pointer (some ⟨rb, 0, none⟩), tv (resF St V) A c] w fun e w' => e = .returned (.int .i64 (min (fsz St V : Int) 501)) ∧ Below w.heap.size w w' := by
  have h := rsz_ok hst (rb := rb) (P := P) (resF St V) (res_shp hst (resF_res hst V) hsh) (tv (resF St V) A c) w ⟨A, c, rfl, hV.weak (fun _ _ _ => trivial)⟩ hs
  rw [fsz_res hst hsh] at h
  exact h
theorem rwit_res {P : Nat → Prop} {St : List TT} {rk : Int → Nat} (hst : StOk St rk) {rb : Nat} {V : TT} {A : Option Addr} {c : Nat} {v : Int} {w : World} (hsh : shp V = true) (hV : TRow w P A V.args) (hs : RSub nx w P rb St) [Decidable (Occ St v V)] :
    Calls Tryz.prog 56 #[.pointer (some ⟨rb, 0, none⟩), .int .i64 v, tv V A c] w fun e w' => e = .returned (.bool (decide (Occ St v V))) ∧ Below w.heap.size w w' := by
  refine (within_ok hst (rb := rb) (P := P) (v := v) V hsh (tv V A c) w ⟨A, c, rfl, hV.weak (fun _ _ _ => trivial)⟩ hs).mono ?_
  rintro e w' ⟨rfl, hb⟩
  exact ⟨by congr, hb⟩
def OnJ (nx : Int) (P : Nat → Prop) (rb : Nat) (f : US → TT → TT → Int × US) (u : US) (la lb : List TT) (wS : World) (i : Value) (wr : World) : Prop := ∃ (k : Nat) (u' : US), k ≤ la.length ∧ i = .int .i64 k ∧ Hid (uniL f la lb u = uniL f (la.drop k) (lb.drop k) u') ∧ Hid (UExt u u') ∧ Hid (RSub nx wr P rb u'.st) ∧ Hid (Frm wS wr (· = rb))
open Classical in
set_option maxRecDepth 100000 in
set_option maxHeartbeats 16000000 in
theorem one_any {P : Nat → Prop} {rb : Nat} (hP : ∀ b, P b → b ≠ rb) : ∀ (d : Nat) (u : US) (a b : TT) (va vb : Value) (w : World), muU u a < d → UInv u → shp a = true → shp b = true → RSub nx w P rb u.st → TIn w P a va → TIn w P b vb →
    Calls Tryz.prog 30 #[.pointer (some ⟨rb, 0, none⟩), va, vb] w (OnPost nx P rb w (uniF d u a b)) := by
  have HP := Lib.hid hP
  clear hP
  intro d
  induction d with
  | zero => intro u a b va vb w h; omega
  | succ d ih =>
  intro u a b va vb w hmu hinv hsa hsb hum ⟨Aa, ca, hva, hAa⟩ ⟨Ab, cb, hvb, hAb⟩
  subst hva hvb
  obtain ⟨rk, hst⟩ := hinv.ok
  have hsA := res_shp hst (resF_res hst a) hsa
  have hsB := res_shp hst (resF_res hst b) hsb
  have RA := Lib.hid (fun W (hW : Below w.heap.size w W) => head_ok hst (P := (fun b => b < w.heap.size ∧ P b)) (c := ca) hsa ((hAa.weak (fun b hb hp => ⟨hb, hp⟩)).later hW) ((hum.moveP rfl (P' := (fun b => b < w.heap.size ∧ P b)) (fun b hb hp => ⟨rfl, hb, hp⟩) (Nat.le_refl _)).later hW))
  have RB := Lib.hid (fun W (hW : Below w.heap.size w W) => head_ok hst (P := (fun b => b < w.heap.size ∧ P b)) (c := cb) hsb ((hAb.weak (fun b hb hp => ⟨hb, hp⟩)).later hW) ((hum.moveP rfl (P' := (fun b => b < w.heap.size ∧ P b)) (fun b hb hp => ⟨rfl, hb, hp⟩) (Nat.le_refl _)).later hW))
  have CA := Lib.hid (fun W (hW : Below w.heap.size w W) A c (hr : TRow W P A (resF u.st a).args) => rsz_res hst (c := c) hsa hr (hum.later hW))
  have CB := Lib.hid (fun W (hW : Below w.heap.size w W) A c (hr : TRow W P A (resF u.st b).args) => rsz_res hst (c := c) hsb hr (hum.later hW))
  have WA := Lib.hid (fun W (hW : Below w.heap.size w W) A c v (hr : TRow W P A (resF u.st a).args) => rwit_res hst (v := v) (c := c) hsA hr (hum.later hW))
  have WB := Lib.hid (fun W (hW : Below w.heap.size w W) A c v (hr : TRow W P A (resF u.st b).args) => rwit_res hst (v := v) (c := c) hsB hr (hum.later hW))
  have MU := Lib.hid (fun (h5 : ¬ 500 < fsz u.st a) u' x (hx : x ∈ (resF u.st a).args) (he : UExt u u') => Nat.lt_of_lt_of_le (mu_arg hinv.ok hsa h5 hx he.ubn) (Nat.le_of_lt_succ hmu))
  have hvA := shp_k hsA
  have hvB := shp_k hsB
  obtain ⟨Q, hQ⟩ : ∃ Q, Q = uniF (d + 1) u a b := ⟨_, rfl⟩
  rw [← hQ]
  rw [uniF] at hQ
  obtain ⟨TA, hTA⟩ : ∃ z, z = resF u.st a := ⟨_, rfl⟩
  obtain ⟨TB, hTB⟩ : ∃ z, z = resF u.st b := ⟨_, rfl⟩
  obtain ⟨fA, hfA⟩ : ∃ z, z = fsz u.st a := ⟨_, rfl⟩
  obtain ⟨fB, hfB⟩ : ∃ z, z = fsz u.st b := ⟨_, rfl⟩
  rw [← hTA] at RA CA WA MU hvA hsA hQ
  rw [← hTB] at RB CB WB hvB hsB hQ
  rw [← hfA] at CA MU hQ
  rw [← hfB] at CB hQ
  have HQ := Lib.hid hQ
  clear hQ
  have HINV := Lib.hid hinv
  have HUM := Lib.hid hum
  have HSA := Lib.hid hsA
  have HSB := Lib.hid hsB
  have HI := Lib.hid ih
  unfold tv at RA RB CA CB WA WB ⊢
  obtain ⟨wB, hwB⟩ : ∃ z, z = (w.alloc (.cells #[.int .i64 a.k, .string a.nm, .int .i64 a.vr, .slice Aa a.args.length ca] 36)).alloc (.cells #[.int .i64 b.k, .string b.nm, .int .i64 b.vr, .slice Ab b.args.length cb] 36) := ⟨_, rfl⟩
  have BX := two_box (w := w) (.cells #[.int .i64 a.k, .string a.nm, .int .i64 a.vr, .slice Aa a.args.length ca] 36) (.cells #[.int .i64 b.k, .string b.nm, .int .i64 b.vr, .slice Ab b.args.length cb] 36)
  have BB := Lib.hid (show Below w.heap.size w wB by rw [hwB]; exact bt (below_alloc w _) (below_alloc _ _))
  have HZ := Lib.hid (show wB.heap.size = w.heap.size + 2 by rw [hwB]; simp)
  rw [← hwB] at BX
  have HX := Lib.hid BX.1
  have HY := Lib.hid BX.2
  have HWB := Lib.hid hwB
  clear BX hwB hTA hTB hfA hfB hst hinv hum hsA hsB ih hmu hAa hAb hsa hsb
  go_enter Tryz.func30, Tryz.ntmps30
  go_wp2_with fail
  try rw [← HWB.out]
  refine wp_region_D [6, 7] (fun w' => Below wB.heap.size wB w') (by kernel_rfl) (bdr wB) (fun hHeld => ?_)
  refine WDs 0 ⟨some 9, .move (.tmp 0), 33, _, #[], none⟩ ?va0 ?hya0 hHeld ?_
  case hya0 => (intro wz hSw; (try dsimp only at hSw); go_simp; try with_reducible rfl)
  (try simp only [putz])
  refine WDs 1 ⟨some 10, .load 36 (.tmp 4), 36, _, #[], none⟩ ?va1 ?hya1 hHeld ?_
  case hya1 => (intro wz hSw; (try dsimp only at hSw); obtain ⟨z0, z1, z2, z3⟩ := cells4 ((hSw.block w.heap.size (by have := HZ.out; omega)).trans HX.out); go_simp; try with_reducible rfl)
  (try simp only [putz])
  refine WDs 3 ⟨some 12, .move (.tmp 0), 33, _, #[], none⟩ ?va3 ?hya3 hHeld ?_
  case hya3 => (intro wz hSw; (try dsimp only at hSw); go_simp; try with_reducible rfl)
  (try simp only [putz])
  refine WDs 4 ⟨some 13, .load 36 (.tmp 5), 36, _, #[], none⟩ ?va4 ?hya4 hHeld ?_
  case hya4 => (intro wz hSw; (try dsimp only at hSw); obtain ⟨z0, z1, z2, z3⟩ := cells4 ((hSw.block (w.heap.size + 1) (by have := HZ.out; omega)).trans HY.out); go_simp; try with_reducible rfl)
  (try simp only [putz])
  refine WD_ready (rs := [2]) (by kernel_rfl) (by simp) ?_
  refine AllD.cons (o := _) rfl (fun K hK => ?_) AllD.nil
  rw [if_pos (by rfl)]
  go_simp
  refine (RA.out _ (bt BB.out hHeld)).mono ?_; rintro e w1 ⟨A1, c1, rfl, hr1, hb1⟩
  try go_wp2_with fail
  refine hK.out _ _ (bt hHeld hb1) (fun hHeld => ?_)
  clear hK K
  (try simp only [putz])
  have B1 := Lib.hid hHeld
  have R1 := Lib.hid (hr1.later hb1)
  clear hr1 hb1
  refine WD_ready (rs := [5]) (by kernel_rfl) (by simp) ?_
  refine AllD.cons (o := _) rfl (fun K hK => ?_) AllD.nil
  rw [if_pos (by rfl)]
  go_simp
  refine (RB.out _ (bt BB.out hHeld)).mono ?_; rintro e w2 ⟨A2, c2, rfl, hr2, hb2⟩
  try go_wp2_with fail
  refine hK.out _ _ (bt hHeld hb2) (fun hHeld => ?_)
  clear hK K
  (try simp only [putz])
  have B2 := Lib.hid hHeld
  have R1b := Lib.hid (R1.out.later hb2)
  have R2b := Lib.hid (hr2.later hb2)
  have X2 := Lib.hid ((hHeld.block w.heap.size (by have := HZ.out; omega)).trans HX.out)
  have Y2 := Lib.hid ((hHeld.block (w.heap.size + 1) (by have := HZ.out; omega)).trans HY.out)
  clear hHeld hb2 hr2 R1 B1
  obtain ⟨p0, p1, p2, p3⟩ := cells4 X2.out
  obtain ⟨q0, q1, q2, q3⟩ := cells4 Y2.out
  obtain ⟨g0, g1, g2, g3⟩ := froz4 X2.out
  obtain ⟨h0, h1, h2, h3⟩ := froz4 Y2.out
  refine WD_ready (rs := [6]) (by kernel_rfl) (by simp) ?_
  refine AllD.last (o := _) rfl (by kernel_rfl) (fun K hK => ?_) AllD.nil
  rw [if_pos (by rfl)]
  go_simp
  refine hK.out _ _ ?_
  clear hK K
  (try simp only [putz])
  refine WD_ready (rs := [7]) (by kernel_rfl) (by simp) ?_
  refine AllD.last (o := _) rfl (by kernel_rfl) (fun K hK => ?_) AllD.nil
  rw [if_pos (by rfl)]
  go_simp
  refine hK.out _ _ ?_
  clear hK K
  (try simp only [putz])
  refine WD_done (by kernel_rfl) ?_ _
  obtain ⟨wS, hwS⟩ : ∃ z, z = ((((((((w2.setCell ⟨w.heap.size, 0, none⟩ (.int .i64 TA.k)).setCell ⟨w.heap.size, 1, none⟩ (.string TA.nm)).setCell ⟨w.heap.size, 2, none⟩ (.int .i64 TA.vr)).setCell ⟨w.heap.size, 3, none⟩ (.slice A1 TA.args.length c1)).setCell ⟨w.heap.size + 1, 0, none⟩ (.int .i64 TB.k)).setCell ⟨w.heap.size + 1, 1, none⟩ (.string TB.nm)).setCell ⟨w.heap.size + 1, 2, none⟩ (.int .i64 TB.vr)).setCell ⟨w.heap.size + 1, 3, none⟩ (.slice A2 TB.args.length c2)) := ⟨_, rfl⟩
  rw [← hwS]
  have FS := Lib.hid (show Frm w2 wS (fun q => q = w.heap.size ∨ q = w.heap.size + 1) by rw [hwS]; exact frm8 w2 w.heap.size (w.heap.size + 1) _ _ _ _ _ _ _ _)
  have XYS := cells_8 (show w.heap.size ≠ w.heap.size + 1 by omega) (.int .i64 TA.k) (.string TA.nm) (.int .i64 TA.vr) (.slice A1 TA.args.length c1) (.int .i64 TB.k) (.string TB.nm) (.int .i64 TB.vr) (.slice A2 TB.args.length c2) X2.out Y2.out
  rw [← hwS] at XYS
  have XS := Lib.hid XYS.1
  have YS := Lib.hid XYS.2
  have BS := Lib.hid (show Below w.heap.size w wS from (bt BB.out B2.out).trans (FS.out.below (fun q hq => by rcases hq with e | e <;> omega) (by have := B2.out.size; have := HZ.out; omega)))
  have R1 := Lib.hid (R1b.out.move (w' := wS) (P' := (fun b => b < w.heap.size ∧ P b)) (fun q hq hk => ⟨FS.out.block q hq (fun e => by have := hk.1; rcases e with e | e <;> omega), hk⟩) FS.out.size)
  have R2 := Lib.hid (R2b.out.move (w' := wS) (P' := (fun b => b < w.heap.size ∧ P b)) (fun q hq hk => ⟨FS.out.block q hq (fun e => by have := hk.1; rcases e with e | e <;> omega), hk⟩) FS.out.size)
  have HSZ := Lib.hid (show w.heap.size + 2 ≤ wS.heap.size by have := FS.out.size; have := B2.out.size; have := HZ.out; omega)
  have HRL := Lib.hid HUM.out.lt
  have WK := Lib.hid (show ∀ (W : World) (A : Option Addr) (l : List TT), TRow W (fun b => b < w.heap.size ∧ P b) A l → TRow W P A l from fun W A l h => h.weak (fun b _ h => h.2))
  clear hwS XYS p0 p1 p2 p3 q0 q1 q2 q3 g0 g1 g2 g3 h0 h1 h2 h3 X2 Y2 R1b R2b B2 FS HX HY RA RB
  by_cases h5 : 500 < fA
  · have EQ := Lib.hid (show Q = (2, u) by rw [HQ.out, if_pos (.inl h5)])
    rw [show min (fA : Int) 501 = 501 by omega] at CA
    obtain ⟨x0, x1, x2, x3⟩ := cells4 XS.out
    clear h5 CB
    as_aux_lemma =>
    go_wp2_with fail
    refine (CA.out _ BS.out A1 c1 (WK.out _ _ _ R1.out)).mono ?_; rintro e w3 ⟨rfl, hb3⟩
    have B4 := Lib.hid (bt BS.out hb3)
    clear hb3
    go_wp2
    go_ret
    rw [EQ.out]
    exact ⟨rfl, HUM.out.later B4.out, Frm.of_below B4.out (Nat.le_refl _) _⟩
  obtain ⟨mA, hmA⟩ : ∃ z, z = min (fA : Int) 501 := ⟨_, rfl⟩
  have dA : decide (500 < mA) = false := decide_eq_false (by omega)
  rw [← hmA] at CA
  have H5 := Lib.hid h5
  clear hmA h5
  by_cases h6 : 500 < fB
  · have EQ := Lib.hid (show Q = (2, u) by rw [HQ.out, if_pos (.inr h6)])
    rw [show min (fB : Int) 501 = 501 by omega] at CB
    obtain ⟨x0, x1, x2, x3⟩ := cells4 XS.out
    clear h6
    as_aux_lemma =>
    go_wp2_with fail
    refine (CA.out _ BS.out A1 c1 (WK.out _ _ _ R1.out)).mono ?_; rintro e w3 ⟨rfl, hb3⟩
    have B3 := Lib.hid hb3
    obtain ⟨y0, y1, y2, y3⟩ := cells4 ((hb3.block (w.heap.size + 1) (by have := HSZ.out; omega)).trans YS.out)
    clear hb3 x0 x1 x2 x3
    go_wp2_with fail
    refine (CB.out _ (bt BS.out B3.out) A2 c2 (WK.out _ _ _ (R2.out.later B3.out))).mono ?_; rintro e w4 ⟨rfl, hb4⟩
    have B4 := Lib.hid (bt BS.out (bt B3.out hb4))
    clear hb4
    go_wp2
    go_ret
    rw [EQ.out]
    exact ⟨rfl, HUM.out.later B4.out, Frm.of_below B4.out (Nat.le_refl _) _⟩
  obtain ⟨mB, hmB⟩ : ∃ z, z = min (fB : Int) 501 := ⟨_, rfl⟩
  have dB : decide (500 < mB) = false := decide_eq_false (by omega)
  rw [← hmB] at CB
  have HQ2 := Lib.hid (HQ.out.trans (if_neg (fun e => e.elim H5.out h6)))
  clear hmB h6 HQ
  obtain ⟨x0, x1, x2, x3⟩ := cells4 XS.out
  go_wp2_with fail
  refine (CA.out _ BS.out A1 c1 (WK.out _ _ _ R1.out)).mono ?_; rintro e w3 ⟨rfl, hb3⟩
  have B3 := Lib.hid hb3
  obtain ⟨y0, y1, y2, y3⟩ := cells4 ((hb3.block (w.heap.size + 1) (by have := HSZ.out; omega)).trans YS.out)
  clear hb3 x0 x1 x2 x3
  go_wp2_with fail
  refine (CB.out _ (bt BS.out B3.out) A2 c2 (WK.out _ _ _ (R2.out.later B3.out))).mono ?_; rintro e w4 ⟨rfl, hb4⟩
  have B4 := Lib.hid (bt B3.out hb4)
  clear hb4 y0 y1 y2 y3 B3
  have BW := Lib.hid (bt BS.out B4.out)
  have X4 := Lib.hid ((B4.out.block w.heap.size (by have := HSZ.out; omega)).trans XS.out)
  have Y4 := Lib.hid ((B4.out.block (w.heap.size + 1) (by have := HSZ.out; omega)).trans YS.out)
  have R14 := Lib.hid (R1.out.later B4.out)
  have R24 := Lib.hid (R2.out.later B4.out)
  have SZ4 := Lib.hid (show w.heap.size + 2 ≤ w4.heap.size by have := B4.out.size; have := HSZ.out; omega)
  have U4 := Lib.hid (HUM.out.later BW.out)
  obtain ⟨x0, x1, x2, x3⟩ := cells4 X4.out
  obtain ⟨y0, y1, y2, y3⟩ := cells4 Y4.out
  clear R1 R2 XS YS CA CB dA BS B4
  by_cases a7 : TA.k = 7
  · have qa : (TA.k == 7) = true := by rw [a7]; rfl
    by_cases b7 : TB.k = 7
    · have qb : (TB.k == 7) = true := by rw [b7]; rfl
      by_cases hgt : TB.vr < TA.vr
      · have EQ := Lib.hid (show Q = (0, standU u TA.vr TB) by rw [HQ2.out, if_pos a7, if_pos b7, if_pos hgt])
        obtain ⟨x, hx⟩ : ∃ x : Nat, TA.vr = x := ⟨TA.vr.toNat, by omega⟩
        have hx2 : x < 2000 := by omega
        have hx2i : (x : Int) < 2000 := by omega
        have dg : decide (TB.vr < (x : Int)) = true := decide_eq_true (by omega)
        have HXV := Lib.hid hx
        rw [hx] at X4 x2
        clear a7 b7 hgt hx
        as_aux_lemma =>
        go_wp2_with fail
        have STD := Lib.hid (fun W' (e : W' = ((((w4.setCell ⟨rb, x * 4, none⟩ (.int .i64 TB.k)).setCell ⟨rb, x * 4 + 1, none⟩ (.string TB.nm)).setCell ⟨rb, x * 4 + 2, none⟩ (.int .i64 TB.vr)).setCell ⟨rb, x * 4 + 3, none⟩ (.slice A2 TB.args.length c2))) => (show (RSub nx W' P rb Q.2.st ∧ Frm w W' (· = rb)) ∧ RSub nx W'.drew P rb Q.2.st ∧ Frm w W'.drew (· = rb) by
          have h := standR HP.out U4.out (x := x) hx2 (t := TB) (A := A2) (c := c2) (WK.out _ _ _ R24.out)
          rw [← e] at h
          have hq : Q.2.st = bindS u.st x TB := by rw [EQ.out]; show bindS u.st TA.vr.toNat TB = _; rw [HXV.out, Int.toNat_natCast]
          rw [hq]
          have hf := (Frm.of_below BW.out (Nat.le_refl _) (· = rb)).trans h.2
          exact ⟨⟨h.1, hf⟩, h.1.moveP rfl (fun b _ hp => ⟨rfl, hp⟩) (Nat.le_refl _), ⟨hf.os, hf.tape, hf.output, hf.size, hf.block⟩⟩))
        have EQ1 := Lib.hid (show Q.1 = 0 by rw [EQ.out])
        have fz0 := U4.out.frz (x * 4)
        have fz1 := U4.out.frz (x * 4 + 1)
        have fz2 := U4.out.frz (x * 4 + 2)
        have fz3 := U4.out.frz (x * 4 + 3)
        obtain ⟨Az, cz, ez0, ez1, ez2, ez3, -⟩ := U4.out.at hx2
        refine wp_region_D [7] (fun w' => w'.heap[w.heap.size]? = some (.cells #[.int .i64 TA.k, .string TA.nm, .int .i64 (x : Int), .slice A1 TA.args.length c1] 36 (0, 0)) ∧ w'.heap[w.heap.size + 1]? = some (.cells #[.int .i64 TB.k, .string TB.nm, .int .i64 TB.vr, .slice A2 TB.args.length c2] 36 (0, 0))) (by kernel_rfl) (⟨X4.out, Y4.out⟩) (fun hHeld => ?_)
        refine WDs 0 ⟨some 40, .move (.tmp 0), 33, _, #[], none⟩ ?vb0 ?hyb0 hHeld ?_
        case hyb0 => (intro wz hSw; (try dsimp only at hSw); obtain ⟨z0, z1, z2, z3⟩ := cells4 hSw.1; obtain ⟨u0, u1, u2, u3⟩ := cells4 hSw.2; go_simp; try with_reducible rfl)
        (try simp only [putz])
        refine WDs 1 ⟨some 41, .fieldAddr 36 (.tmp 4) 2, 0, _, #[], none⟩ ?vb1 ?hyb1 hHeld ?_
        case hyb1 => (intro wz hSw; (try dsimp only at hSw); obtain ⟨z0, z1, z2, z3⟩ := cells4 hSw.1; obtain ⟨u0, u1, u2, u3⟩ := cells4 hSw.2; go_simp; try with_reducible rfl)
        (try simp only [putz])
        refine WDs 2 ⟨some 42, .load 3 (.tmp 41), 3, _, #[⟨1, .data⟩], none⟩ ?vb2 ?hyb2 hHeld ?_
        case hyb2 => (intro wz hSw; (try dsimp only at hSw); obtain ⟨z0, z1, z2, z3⟩ := cells4 hSw.1; obtain ⟨u0, u1, u2, u3⟩ := cells4 hSw.2; go_simp; try with_reducible rfl)
        (try simp only [putz])
        refine WDs 3 ⟨some 43, .load 36 (.tmp 5), 36, _, #[], none⟩ ?vb3 ?hyb3 hHeld ?_
        case hyb3 => (intro wz hSw; (try dsimp only at hSw); obtain ⟨z0, z1, z2, z3⟩ := cells4 hSw.1; obtain ⟨u0, u1, u2, u3⟩ := cells4 hSw.2; go_simp; try with_reducible rfl)
        (try simp only [putz])
        refine WDs 4 ⟨some 44, .nilCheck (.tmp 40), 0, _, #[⟨0, .data⟩], none⟩ ?vb4 ?hyb4 hHeld ?_
        case hyb4 => (intro wz hSw; (try dsimp only at hSw); obtain ⟨z0, z1, z2, z3⟩ := cells4 hSw.1; obtain ⟨u0, u1, u2, u3⟩ := cells4 hSw.2; go_simp; try with_reducible rfl)
        (try simp only [putz])
        refine WDs 5 ⟨some 45, .fieldAddr 39 (.tmp 44) 0, 0, _, #[⟨4, .data⟩], none⟩ ?vb5 ?hyb5 hHeld ?_
        case hyb5 => (intro wz hSw; (try dsimp only at hSw); obtain ⟨z0, z1, z2, z3⟩ := cells4 hSw.1; obtain ⟨u0, u1, u2, u3⟩ := cells4 hSw.2; go_simp; try with_reducible rfl)
        (try simp only [putz])
        refine WDs 6 ⟨some 46, .indexAddr 37 (.tmp 45) (.tmp 42), 0, _, #[⟨5, .data⟩, ⟨2, .data⟩, ⟨0, .phase⟩, ⟨1, .phase⟩, ⟨2, .phase⟩, ⟨3, .phase⟩], none⟩ ?vb6 ?hyb6 hHeld ?_
        case hyb6 => (intro wz hSw; (try dsimp only at hSw); obtain ⟨z0, z1, z2, z3⟩ := cells4 hSw.1; obtain ⟨u0, u1, u2, u3⟩ := cells4 hSw.2; go_simp; try with_reducible rfl)
        (try simp only [putz])
        refine WD_ready (rs := [7]) (by kernel_rfl) (by simp) ?_
        refine AllD.last (o := _) rfl (by kernel_rfl) (fun K hK => ?_) AllD.nil
        rw [if_pos (by rfl)]
        go_simp
        refine hK.out _ _ ?_
        clear hK K
        (try simp only [putz])
        refine WD_done (by kernel_rfl) ?_ _
        go_wp2
        go_ret
        first
          | exact ⟨by rw [EQ1.out]; rfl, (STD.out _ rfl).2.1, (STD.out _ rfl).2.2⟩
          | exact ⟨by rw [EQ1.out]; rfl, (STD.out _ rfl).1.1, (STD.out _ rfl).1.2⟩
      have dg := decide_eq_false hgt
      by_cases hlt : TA.vr < TB.vr
      · have EQ := Lib.hid (show Q = (0, standU u TB.vr TA) by rw [HQ2.out, if_pos a7, if_pos b7, if_neg hgt, if_pos hlt])
        obtain ⟨x, hx⟩ : ∃ x : Nat, TB.vr = x := ⟨TB.vr.toNat, by omega⟩
        have hx2 : x < 2000 := by omega
        have hx2i : (x : Int) < 2000 := by omega
        have dl : decide (TA.vr < (x : Int)) = true := decide_eq_true (by omega)
        have HXV := Lib.hid hx
        rw [hx] at Y4 y2 dg
        clear a7 b7 hgt hx hlt
        as_aux_lemma =>
        go_wp2_with fail
        have STD := Lib.hid (fun W' (e : W' = ((((w4.setCell ⟨rb, x * 4, none⟩ (.int .i64 TA.k)).setCell ⟨rb, x * 4 + 1, none⟩ (.string TA.nm)).setCell ⟨rb, x * 4 + 2, none⟩ (.int .i64 TA.vr)).setCell ⟨rb, x * 4 + 3, none⟩ (.slice A1 TA.args.length c1))) => (show (RSub nx W' P rb Q.2.st ∧ Frm w W' (· = rb)) ∧ RSub nx W'.drew P rb Q.2.st ∧ Frm w W'.drew (· = rb) by
          have h := standR HP.out U4.out (x := x) hx2 (t := TA) (A := A1) (c := c1) (WK.out _ _ _ R14.out)
          rw [← e] at h
          have hq : Q.2.st = bindS u.st x TA := by rw [EQ.out]; show bindS u.st TB.vr.toNat TA = _; rw [HXV.out, Int.toNat_natCast]
          rw [hq]
          have hf := (Frm.of_below BW.out (Nat.le_refl _) (· = rb)).trans h.2
          exact ⟨⟨h.1, hf⟩, h.1.moveP rfl (fun b _ hp => ⟨rfl, hp⟩) (Nat.le_refl _), ⟨hf.os, hf.tape, hf.output, hf.size, hf.block⟩⟩))
        have EQ1 := Lib.hid (show Q.1 = 0 by rw [EQ.out])
        have fz0 := U4.out.frz (x * 4)
        have fz1 := U4.out.frz (x * 4 + 1)
        have fz2 := U4.out.frz (x * 4 + 2)
        have fz3 := U4.out.frz (x * 4 + 3)
        obtain ⟨Az, cz, ez0, ez1, ez2, ez3, -⟩ := U4.out.at hx2
        refine wp_region_D [7] (fun w' => w'.heap[w.heap.size]? = some (.cells #[.int .i64 TA.k, .string TA.nm, .int .i64 TA.vr, .slice A1 TA.args.length c1] 36 (0, 0)) ∧ w'.heap[w.heap.size + 1]? = some (.cells #[.int .i64 TB.k, .string TB.nm, .int .i64 (x : Int), .slice A2 TB.args.length c2] 36 (0, 0))) (by kernel_rfl) (⟨X4.out, Y4.out⟩) (fun hHeld => ?_)
        refine WDs 0 ⟨some 53, .move (.tmp 0), 33, _, #[], none⟩ ?vc0 ?hyc0 hHeld ?_
        case hyc0 => (intro wz hSw; (try dsimp only at hSw); obtain ⟨z0, z1, z2, z3⟩ := cells4 hSw.1; obtain ⟨u0, u1, u2, u3⟩ := cells4 hSw.2; go_simp; try with_reducible rfl)
        (try simp only [putz])
        refine WDs 1 ⟨some 54, .fieldAddr 36 (.tmp 5) 2, 0, _, #[], none⟩ ?vc1 ?hyc1 hHeld ?_
        case hyc1 => (intro wz hSw; (try dsimp only at hSw); obtain ⟨z0, z1, z2, z3⟩ := cells4 hSw.1; obtain ⟨u0, u1, u2, u3⟩ := cells4 hSw.2; go_simp; try with_reducible rfl)
        (try simp only [putz])
        refine WDs 2 ⟨some 55, .load 3 (.tmp 54), 3, _, #[⟨1, .data⟩], none⟩ ?vc2 ?hyc2 hHeld ?_
        case hyc2 => (intro wz hSw; (try dsimp only at hSw); obtain ⟨z0, z1, z2, z3⟩ := cells4 hSw.1; obtain ⟨u0, u1, u2, u3⟩ := cells4 hSw.2; go_simp; try with_reducible rfl)
        (try simp only [putz])
        refine WDs 3 ⟨some 56, .load 36 (.tmp 4), 36, _, #[], none⟩ ?vc3 ?hyc3 hHeld ?_
        case hyc3 => (intro wz hSw; (try dsimp only at hSw); obtain ⟨z0, z1, z2, z3⟩ := cells4 hSw.1; obtain ⟨u0, u1, u2, u3⟩ := cells4 hSw.2; go_simp; try with_reducible rfl)
        (try simp only [putz])
        refine WDs 4 ⟨some 57, .nilCheck (.tmp 53), 0, _, #[⟨0, .data⟩], none⟩ ?vc4 ?hyc4 hHeld ?_
        case hyc4 => (intro wz hSw; (try dsimp only at hSw); obtain ⟨z0, z1, z2, z3⟩ := cells4 hSw.1; obtain ⟨u0, u1, u2, u3⟩ := cells4 hSw.2; go_simp; try with_reducible rfl)
        (try simp only [putz])
        refine WDs 5 ⟨some 58, .fieldAddr 39 (.tmp 57) 0, 0, _, #[⟨4, .data⟩], none⟩ ?vc5 ?hyc5 hHeld ?_
        case hyc5 => (intro wz hSw; (try dsimp only at hSw); obtain ⟨z0, z1, z2, z3⟩ := cells4 hSw.1; obtain ⟨u0, u1, u2, u3⟩ := cells4 hSw.2; go_simp; try with_reducible rfl)
        (try simp only [putz])
        refine WDs 6 ⟨some 59, .indexAddr 37 (.tmp 58) (.tmp 55), 0, _, #[⟨5, .data⟩, ⟨2, .data⟩, ⟨0, .phase⟩, ⟨1, .phase⟩, ⟨2, .phase⟩, ⟨3, .phase⟩], none⟩ ?vc6 ?hyc6 hHeld ?_
        case hyc6 => (intro wz hSw; (try dsimp only at hSw); obtain ⟨z0, z1, z2, z3⟩ := cells4 hSw.1; obtain ⟨u0, u1, u2, u3⟩ := cells4 hSw.2; go_simp; try with_reducible rfl)
        (try simp only [putz])
        refine WD_ready (rs := [7]) (by kernel_rfl) (by simp) ?_
        refine AllD.last (o := _) rfl (by kernel_rfl) (fun K hK => ?_) AllD.nil
        rw [if_pos (by rfl)]
        go_simp
        refine hK.out _ _ ?_
        clear hK K
        (try simp only [putz])
        refine WD_done (by kernel_rfl) ?_ _
        go_wp2
        go_ret
        first
          | exact ⟨by rw [EQ1.out]; rfl, (STD.out _ rfl).2.1, (STD.out _ rfl).2.2⟩
          | exact ⟨by rw [EQ1.out]; rfl, (STD.out _ rfl).1.1, (STD.out _ rfl).1.2⟩
      · have EQ := Lib.hid (show Q = (0, u) by rw [HQ2.out, if_pos a7, if_pos b7, if_neg hgt, if_neg hlt])
        have dl := decide_eq_false hlt
        clear a7 b7 hgt hlt
        go_wp2
        go_ret
        rw [EQ.out]
        exact ⟨rfl, U4.out, Frm.of_below BW.out (Nat.le_refl _) _⟩
    · have qb : (TB.k == 7) = false := beq_eq_false_iff_ne.2 b7
      have EQ0 := Lib.hid (show Q = (if Occ u.st TA.vr TB then (5, u) else (0, standU u TA.vr TB)) by rw [HQ2.out, if_pos a7, if_neg b7])
      have SZZ := SZ4
      clear a7 b7
      by_cases ho : Occ u.st TA.vr TB
      · have EQ := Lib.hid (show Q = (5, u) by rw [EQ0.out, if_pos ho])
        have CL := Lib.hid (WB.out w4 BW.out A2 c2 TA.vr (WK.out _ _ _ R24.out))
        rw [decide_eq_true ho] at CL
        clear ho
        as_aux_lemma =>
        go_wp2_with fail
        refine CL.out.mono ?_; rintro e w5 ⟨rfl, hb5⟩
        have B5 := Lib.hid hb5
        clear hb5 CL
        go_wp2
        go_ret
        rw [EQ.out]
        exact ⟨rfl, U4.out.later B5.out, Frm.of_below (bt BW.out B5.out) (Nat.le_refl _) _⟩
      · have EQ := Lib.hid (show Q = (0, standU u TA.vr TB) by rw [EQ0.out, if_neg ho])
        have CL := Lib.hid (WB.out w4 BW.out A2 c2 TA.vr (WK.out _ _ _ R24.out))
        rw [decide_eq_false ho] at CL
        clear ho
        obtain ⟨x, hx⟩ : ∃ x : Nat, TA.vr = x := ⟨TA.vr.toNat, by omega⟩
        have hx2 : x < 2000 := by omega
        have hx2i : (x : Int) < 2000 := by omega
        have HXV := Lib.hid hx
        rw [hx] at CL X4 x2
        clear hx
        as_aux_lemma =>
        go_wp2_with fail
        refine CL.out.mono ?_; rintro e w5 ⟨rfl, hb5⟩
        have B5 := Lib.hid hb5
        have X5 := Lib.hid ((hb5.block w.heap.size (by have := SZZ.out; omega)).trans X4.out)
        have Y5 := Lib.hid ((hb5.block (w.heap.size + 1) (by have := SZZ.out; omega)).trans Y4.out)
        have U5 := Lib.hid (U4.out.later hb5)
        have R5 := Lib.hid (R24.out.later hb5)
        have BW5 := Lib.hid (bt BW.out hb5)
        clear hb5 CL x0 x1 x2 x3 y0 y1 y2 y3
        obtain ⟨x0, x1, x2, x3⟩ := cells4 X5.out
        obtain ⟨y0, y1, y2, y3⟩ := cells4 Y5.out
        go_wp2_with fail
        have STD := Lib.hid (fun W' (e : W' = ((((w5.setCell ⟨rb, x * 4, none⟩ (.int .i64 TB.k)).setCell ⟨rb, x * 4 + 1, none⟩ (.string TB.nm)).setCell ⟨rb, x * 4 + 2, none⟩ (.int .i64 TB.vr)).setCell ⟨rb, x * 4 + 3, none⟩ (.slice A2 TB.args.length c2))) => (show (RSub nx W' P rb Q.2.st ∧ Frm w W' (· = rb)) ∧ RSub nx W'.drew P rb Q.2.st ∧ Frm w W'.drew (· = rb) by
          have h := standR HP.out U5.out (x := x) hx2 (t := TB) (A := A2) (c := c2) (WK.out _ _ _ R5.out)
          rw [← e] at h
          have hq : Q.2.st = bindS u.st x TB := by rw [EQ.out]; show bindS u.st TA.vr.toNat TB = _; rw [HXV.out, Int.toNat_natCast]
          rw [hq]
          have hf := (Frm.of_below BW5.out (Nat.le_refl _) (· = rb)).trans h.2
          exact ⟨⟨h.1, hf⟩, h.1.moveP rfl (fun b _ hp => ⟨rfl, hp⟩) (Nat.le_refl _), ⟨hf.os, hf.tape, hf.output, hf.size, hf.block⟩⟩))
        have EQ1 := Lib.hid (show Q.1 = 0 by rw [EQ.out])
        have fz0 := U5.out.frz (x * 4)
        have fz1 := U5.out.frz (x * 4 + 1)
        have fz2 := U5.out.frz (x * 4 + 2)
        have fz3 := U5.out.frz (x * 4 + 3)
        obtain ⟨Az, cz, ez0, ez1, ez2, ez3, -⟩ := U5.out.at hx2
        refine wp_region_D [7] (fun w' => w'.heap[w.heap.size]? = some (.cells #[.int .i64 TA.k, .string TA.nm, .int .i64 (x : Int), .slice A1 TA.args.length c1] 36 (0, 0)) ∧ w'.heap[w.heap.size + 1]? = some (.cells #[.int .i64 TB.k, .string TB.nm, .int .i64 TB.vr, .slice A2 TB.args.length c2] 36 (0, 0))) (by kernel_rfl) (⟨X5.out, Y5.out⟩) (fun hHeld => ?_)
        refine WDs 0 ⟨some 79, .move (.tmp 0), 33, _, #[], none⟩ ?vd0 ?hyd0 hHeld ?_
        case hyd0 => (intro wz hSw; (try dsimp only at hSw); obtain ⟨z0, z1, z2, z3⟩ := cells4 hSw.1; obtain ⟨u0, u1, u2, u3⟩ := cells4 hSw.2; go_simp; try with_reducible rfl)
        (try simp only [putz])
        refine WDs 1 ⟨some 80, .fieldAddr 36 (.tmp 4) 2, 0, _, #[], none⟩ ?vd1 ?hyd1 hHeld ?_
        case hyd1 => (intro wz hSw; (try dsimp only at hSw); obtain ⟨z0, z1, z2, z3⟩ := cells4 hSw.1; obtain ⟨u0, u1, u2, u3⟩ := cells4 hSw.2; go_simp; try with_reducible rfl)
        (try simp only [putz])
        refine WDs 2 ⟨some 81, .load 3 (.tmp 80), 3, _, #[⟨1, .data⟩], none⟩ ?vd2 ?hyd2 hHeld ?_
        case hyd2 => (intro wz hSw; (try dsimp only at hSw); obtain ⟨z0, z1, z2, z3⟩ := cells4 hSw.1; obtain ⟨u0, u1, u2, u3⟩ := cells4 hSw.2; go_simp; try with_reducible rfl)
        (try simp only [putz])
        refine WDs 3 ⟨some 82, .load 36 (.tmp 5), 36, _, #[], none⟩ ?vd3 ?hyd3 hHeld ?_
        case hyd3 => (intro wz hSw; (try dsimp only at hSw); obtain ⟨z0, z1, z2, z3⟩ := cells4 hSw.1; obtain ⟨u0, u1, u2, u3⟩ := cells4 hSw.2; go_simp; try with_reducible rfl)
        (try simp only [putz])
        refine WDs 4 ⟨some 83, .nilCheck (.tmp 79), 0, _, #[⟨0, .data⟩], none⟩ ?vd4 ?hyd4 hHeld ?_
        case hyd4 => (intro wz hSw; (try dsimp only at hSw); obtain ⟨z0, z1, z2, z3⟩ := cells4 hSw.1; obtain ⟨u0, u1, u2, u3⟩ := cells4 hSw.2; go_simp; try with_reducible rfl)
        (try simp only [putz])
        refine WDs 5 ⟨some 84, .fieldAddr 39 (.tmp 83) 0, 0, _, #[⟨4, .data⟩], none⟩ ?vd5 ?hyd5 hHeld ?_
        case hyd5 => (intro wz hSw; (try dsimp only at hSw); obtain ⟨z0, z1, z2, z3⟩ := cells4 hSw.1; obtain ⟨u0, u1, u2, u3⟩ := cells4 hSw.2; go_simp; try with_reducible rfl)
        (try simp only [putz])
        refine WDs 6 ⟨some 85, .indexAddr 37 (.tmp 84) (.tmp 81), 0, _, #[⟨5, .data⟩, ⟨2, .data⟩, ⟨0, .phase⟩, ⟨1, .phase⟩, ⟨2, .phase⟩, ⟨3, .phase⟩], none⟩ ?vd6 ?hyd6 hHeld ?_
        case hyd6 => (intro wz hSw; (try dsimp only at hSw); obtain ⟨z0, z1, z2, z3⟩ := cells4 hSw.1; obtain ⟨u0, u1, u2, u3⟩ := cells4 hSw.2; go_simp; try with_reducible rfl)
        (try simp only [putz])
        refine WD_ready (rs := [7]) (by kernel_rfl) (by simp) ?_
        refine AllD.last (o := _) rfl (by kernel_rfl) (fun K hK => ?_) AllD.nil
        rw [if_pos (by rfl)]
        go_simp
        refine hK.out _ _ ?_
        clear hK K
        (try simp only [putz])
        refine WD_done (by kernel_rfl) ?_ _
        go_wp2
        go_ret
        first
          | exact ⟨by rw [EQ1.out]; rfl, (STD.out _ rfl).2.1, (STD.out _ rfl).2.2⟩
          | exact ⟨by rw [EQ1.out]; rfl, (STD.out _ rfl).1.1, (STD.out _ rfl).1.2⟩
  have qa : (TA.k == 7) = false := beq_eq_false_iff_ne.2 a7
  by_cases b7 : TB.k = 7
  · have qb : (TB.k == 7) = true := by rw [b7]; rfl
    have EQ0 := Lib.hid (show Q = (if Occ u.st TB.vr TA then (5, u) else (0, standU u TB.vr TA)) by rw [HQ2.out, if_neg a7, if_pos b7])
    clear a7 b7
    obtain ⟨x, hx⟩ : ∃ x : Nat, TB.vr = x := ⟨TB.vr.toNat, by omega⟩
    have hx2 : x < 2000 := by omega
    have hx2i : (x : Int) < 2000 := by omega
    have HXV := Lib.hid hx
    rw [hx] at Y4 y2
    clear hx
    obtain ⟨g0, g1, g2, g3⟩ := froz4 X4.out
    obtain ⟨h0, h1, h2, h3⟩ := froz4 Y4.out
    go_wp2_with fail
    obtain ⟨wC, hwC⟩ : ∃ z, z = ((((((((w4.setCell ⟨w.heap.size, 0, none⟩ (.int .i64 TB.k)).setCell ⟨w.heap.size, 1, none⟩ (.string TB.nm)).setCell ⟨w.heap.size, 2, none⟩ (.int .i64 (x : Int))).setCell ⟨w.heap.size, 3, none⟩ (.slice A2 TB.args.length c2)).setCell ⟨w.heap.size + 1, 0, none⟩ (.int .i64 TA.k)).setCell ⟨w.heap.size + 1, 1, none⟩ (.string TA.nm)).setCell ⟨w.heap.size + 1, 2, none⟩ (.int .i64 TA.vr)).setCell ⟨w.heap.size + 1, 3, none⟩ (.slice A1 TA.args.length c1)) := ⟨_, rfl⟩
    have FC := Lib.hid (show Frm w4 wC (fun q => q = w.heap.size ∨ q = w.heap.size + 1) by rw [hwC]; exact frm8 w4 w.heap.size (w.heap.size + 1) _ _ _ _ _ _ _ _)
    have XYC := cells_8 (show w.heap.size ≠ w.heap.size + 1 by omega) (.int .i64 TB.k) (.string TB.nm) (.int .i64 (x : Int)) (.slice A2 TB.args.length c2) (.int .i64 TA.k) (.string TA.nm) (.int .i64 TA.vr) (.slice A1 TA.args.length c1) X4.out Y4.out
    rw [← hwC] at XYC
    have XC := Lib.hid XYC.1
    have YC := Lib.hid XYC.2
    rw [← hwC]
    clear hwC XYC g0 g1 g2 g3 h0 h1 h2 h3 x0 x1 x2 x3 y0 y1 y2 y3
    have BC := Lib.hid (show Below w.heap.size w wC from BW.out.trans (FC.out.below (fun q hq => by rcases hq with e | e <;> omega) (by have := SZ4.out; omega)))
    have RC := Lib.hid (R14.out.move (w' := wC) (P' := (fun b => b < w.heap.size ∧ P b)) (fun q hq hk => ⟨FC.out.block q hq (fun e => by have := hk.1; rcases e with e | e <;> omega), hk⟩) FC.out.size)
    have UC := Lib.hid (HUM.out.later BC.out)
    have SZZ := Lib.hid (show w.heap.size + 2 ≤ wC.heap.size by have := FC.out.size; have := SZ4.out; omega)
    clear FC
    have CL := Lib.hid (WA.out wC BC.out A1 c1 TB.vr (WK.out _ _ _ RC.out))
    rw [HXV.out] at CL
    by_cases ho : Occ u.st (x : Int) TA
    · have EQ := Lib.hid (show Q = (5, u) by rw [EQ0.out, if_pos (by rw [HXV.out]; exact ho)])
      rw [decide_eq_true ho] at CL
      clear ho
      as_aux_lemma =>
      refine CL.out.mono ?_; rintro e w5 ⟨rfl, hb5⟩
      have B5 := Lib.hid hb5
      clear hb5 CL
      go_wp2
      go_ret
      rw [EQ.out]
      exact ⟨rfl, UC.out.later B5.out, Frm.of_below (bt BC.out B5.out) (Nat.le_refl _) _⟩
    · have EQ := Lib.hid (show Q = (0, standU u TB.vr TA) by rw [EQ0.out, if_neg (by rw [HXV.out]; exact ho)])
      rw [decide_eq_false ho] at CL
      clear ho
      as_aux_lemma =>
      refine CL.out.mono ?_; rintro e w5 ⟨rfl, hb5⟩
      have B5 := Lib.hid hb5
      have X5 := Lib.hid ((hb5.block w.heap.size (by have := SZZ.out; omega)).trans XC.out)
      have Y5 := Lib.hid ((hb5.block (w.heap.size + 1) (by have := SZZ.out; omega)).trans YC.out)
      have U5 := Lib.hid (UC.out.later hb5)
      have R5 := Lib.hid (RC.out.later hb5)
      have BW5 := Lib.hid (bt BC.out hb5)
      clear hb5 CL
      obtain ⟨x0, x1, x2, x3⟩ := cells4 X5.out
      obtain ⟨y0, y1, y2, y3⟩ := cells4 Y5.out
      go_wp2_with fail
      have STD := Lib.hid (fun W' (e : W' = ((((w5.setCell ⟨rb, x * 4, none⟩ (.int .i64 TA.k)).setCell ⟨rb, x * 4 + 1, none⟩ (.string TA.nm)).setCell ⟨rb, x * 4 + 2, none⟩ (.int .i64 TA.vr)).setCell ⟨rb, x * 4 + 3, none⟩ (.slice A1 TA.args.length c1))) => (show (RSub nx W' P rb Q.2.st ∧ Frm w W' (· = rb)) ∧ RSub nx W'.drew P rb Q.2.st ∧ Frm w W'.drew (· = rb) by
        have h := standR HP.out U5.out (x := x) hx2 (t := TA) (A := A1) (c := c1) (WK.out _ _ _ R5.out)
        rw [← e] at h
        have hq : Q.2.st = bindS u.st x TA := by rw [EQ.out]; show bindS u.st TB.vr.toNat TA = _; rw [HXV.out, Int.toNat_natCast]
        rw [hq]
        have hf := (Frm.of_below BW5.out (Nat.le_refl _) (· = rb)).trans h.2
        exact ⟨⟨h.1, hf⟩, h.1.moveP rfl (fun b _ hp => ⟨rfl, hp⟩) (Nat.le_refl _), ⟨hf.os, hf.tape, hf.output, hf.size, hf.block⟩⟩))
      have EQ1 := Lib.hid (show Q.1 = 0 by rw [EQ.out])
      have fz0 := U5.out.frz (x * 4)
      have fz1 := U5.out.frz (x * 4 + 1)
      have fz2 := U5.out.frz (x * 4 + 2)
      have fz3 := U5.out.frz (x * 4 + 3)
      obtain ⟨Az, cz, ez0, ez1, ez2, ez3, -⟩ := U5.out.at hx2
      refine wp_region_D [7] (fun w' => w'.heap[w.heap.size]? = some (.cells #[.int .i64 TB.k, .string TB.nm, .int .i64 (x : Int), .slice A2 TB.args.length c2] 36 (0, 0)) ∧ w'.heap[w.heap.size + 1]? = some (.cells #[.int .i64 TA.k, .string TA.nm, .int .i64 TA.vr, .slice A1 TA.args.length c1] 36 (0, 0))) (by kernel_rfl) (⟨X5.out, Y5.out⟩) (fun hHeld => ?_)
      refine WDs 0 ⟨some 79, .move (.tmp 0), 33, _, #[], none⟩ ?ve0 ?hye0 hHeld ?_
      case hye0 => (intro wz hSw; (try dsimp only at hSw); obtain ⟨z0, z1, z2, z3⟩ := cells4 hSw.1; obtain ⟨u0, u1, u2, u3⟩ := cells4 hSw.2; go_simp; try with_reducible rfl)
      (try simp only [putz])
      refine WDs 1 ⟨some 80, .fieldAddr 36 (.tmp 4) 2, 0, _, #[], none⟩ ?ve1 ?hye1 hHeld ?_
      case hye1 => (intro wz hSw; (try dsimp only at hSw); obtain ⟨z0, z1, z2, z3⟩ := cells4 hSw.1; obtain ⟨u0, u1, u2, u3⟩ := cells4 hSw.2; go_simp; try with_reducible rfl)
      (try simp only [putz])
      refine WDs 2 ⟨some 81, .load 3 (.tmp 80), 3, _, #[⟨1, .data⟩], none⟩ ?ve2 ?hye2 hHeld ?_
      case hye2 => (intro wz hSw; (try dsimp only at hSw); obtain ⟨z0, z1, z2, z3⟩ := cells4 hSw.1; obtain ⟨u0, u1, u2, u3⟩ := cells4 hSw.2; go_simp; try with_reducible rfl)
      (try simp only [putz])
      refine WDs 3 ⟨some 82, .load 36 (.tmp 5), 36, _, #[], none⟩ ?ve3 ?hye3 hHeld ?_
      case hye3 => (intro wz hSw; (try dsimp only at hSw); obtain ⟨z0, z1, z2, z3⟩ := cells4 hSw.1; obtain ⟨u0, u1, u2, u3⟩ := cells4 hSw.2; go_simp; try with_reducible rfl)
      (try simp only [putz])
      refine WDs 4 ⟨some 83, .nilCheck (.tmp 79), 0, _, #[⟨0, .data⟩], none⟩ ?ve4 ?hye4 hHeld ?_
      case hye4 => (intro wz hSw; (try dsimp only at hSw); obtain ⟨z0, z1, z2, z3⟩ := cells4 hSw.1; obtain ⟨u0, u1, u2, u3⟩ := cells4 hSw.2; go_simp; try with_reducible rfl)
      (try simp only [putz])
      refine WDs 5 ⟨some 84, .fieldAddr 39 (.tmp 83) 0, 0, _, #[⟨4, .data⟩], none⟩ ?ve5 ?hye5 hHeld ?_
      case hye5 => (intro wz hSw; (try dsimp only at hSw); obtain ⟨z0, z1, z2, z3⟩ := cells4 hSw.1; obtain ⟨u0, u1, u2, u3⟩ := cells4 hSw.2; go_simp; try with_reducible rfl)
      (try simp only [putz])
      refine WDs 6 ⟨some 85, .indexAddr 37 (.tmp 84) (.tmp 81), 0, _, #[⟨5, .data⟩, ⟨2, .data⟩, ⟨0, .phase⟩, ⟨1, .phase⟩, ⟨2, .phase⟩, ⟨3, .phase⟩], none⟩ ?ve6 ?hye6 hHeld ?_
      case hye6 => (intro wz hSw; (try dsimp only at hSw); obtain ⟨z0, z1, z2, z3⟩ := cells4 hSw.1; obtain ⟨u0, u1, u2, u3⟩ := cells4 hSw.2; go_simp; try with_reducible rfl)
      (try simp only [putz])
      refine WD_ready (rs := [7]) (by kernel_rfl) (by simp) ?_
      refine AllD.last (o := _) rfl (by kernel_rfl) (fun K hK => ?_) AllD.nil
      rw [if_pos (by rfl)]
      go_simp
      refine hK.out _ _ ?_
      clear hK K
      (try simp only [putz])
      refine WD_done (by kernel_rfl) ?_ _
      go_wp2
      go_ret
      first
        | exact ⟨by rw [EQ1.out]; rfl, (STD.out _ rfl).2.1, (STD.out _ rfl).2.2⟩
        | exact ⟨by rw [EQ1.out]; rfl, (STD.out _ rfl).1.1, (STD.out _ rfl).1.2⟩
  have qb : (TB.k == 7) = false := beq_eq_false_iff_ne.2 b7
  have HQ3 := Lib.hid (HQ2.out.trans ((if_neg a7).trans (if_neg b7)))
  clear a7 b7 HQ2
  by_cases hk : TA.k = TB.k
  · by_cases hn : TA.nm = TB.nm
    · have qn : (TA.nm.toList == TB.nm.toList) = true := by rw [hn]; exact beq_self_eq_true _
      have HLE := Lib.hid (show TA.args.length = TB.args.length by
        have h1 := HSA.out; have h2 := HSB.out
        rw [shp_eq, Bool.and_eq_true] at h1 h2
        have h3 := (head_var h1.1).2.2.2.2
        have h4 := (head_var h2.1).2.2.2.2
        rw [← hk] at h4
        omega)
      have EQ0 := Lib.hid (show Q = uniL (uniF d) TA.args TB.args u by rw [HQ3.out, if_neg (fun e => e.elim (fun h => h hk) (fun h => h hn))])
      have SHA := Lib.hid (shp_head HSA.out).2.2
      have SHB := Lib.hid (shp_head HSB.out).2.2
      have hl2 := (shp_head HSA.out).2.1
      rw [hk] at qa x0
      clear hk hn HQ3
      obtain ⟨la, hla⟩ : ∃ l, l = TA.args := ⟨_, rfl⟩
      obtain ⟨lb, hlb⟩ : ∃ l, l = TB.args := ⟨_, rfl⟩
      have MU2 := Lib.hid (MU.out H5.out)
      rw [← hla] at R14 HLE EQ0 SHA hl2 x3 MU2 X4
      rw [← hlb] at R24 HLE EQ0 SHB y3 Y4
      have ql : ((la.length : Int) == (lb.length : Int)) = true := by rw [HLE.out]; exact beq_self_eq_true _
      have ql2 : ((la.length : Int) != (lb.length : Int)) = false := by rw [HLE.out]; simp
      clear hla hlb
      as_aux_lemma =>
      go_wp2
      go_loopw [7] (fun i wr => OnJ nx P rb (uniF d) u la lb w4 i wr) (fun i _ => la.length - (intOf i).toNat)
      case atStart => exact ⟨0, u, by omega, by first | rfl | trivial, Lib.hid (by rw [List.drop_zero, List.drop_zero]), Lib.hid (.refl HINV.out), U4, Lib.hid (Frm.refl _ _)⟩
      case round =>
        obtain ⟨k, u', hk, rfl, HQL, HE, HM, HF⟩ := hrel
        have hrl := HRL.out
        have hs4 := SZ4.out
        have XB := Lib.hid ((HF.out.block w.heap.size (by omega) (by show ¬ w.heap.size = rb; omega)).trans X4.out)
        have YB := Lib.hid ((HF.out.block (w.heap.size + 1) (by omega) (by show ¬ w.heap.size + 1 = rb; omega)).trans Y4.out)
        have SZR := Lib.hid (show w.heap.size + 2 ≤ wr.heap.size by have := HF.out.size; omega)
        have FW := Lib.hid ((Frm.of_below BW.out (Nat.le_refl _) (· = rb)).trans HF.out)
        clear hrl hs4 x0 x1 x2 x3 y0 y1 y2 y3
        obtain ⟨x0, x1, x2, x3⟩ := cells4 XB.out
        obtain ⟨y0, y1, y2, y3⟩ := cells4 YB.out
        by_cases hlt : k < la.length
        · have hlti : (k : Int) < (la.length : Int) := by omega
          have hltb : k < lb.length := by rw [← HLE.out]; exact hlt
          have hltbi : (k : Int) < (lb.length : Int) := by omega
          obtain ⟨b1, o1, rfl, hb1, hr1⟩ := (R14.out.move (P' := P) (fun b hb hp => ⟨HF.out.block b hb (HP.out b hp.2), hp.2⟩) HF.out.size).at (by omega)
          obtain ⟨b2, o2, rfl, hb2, hr2⟩ := (R24.out.move (P' := P) (fun b hb hp => ⟨HF.out.block b hb (HP.out b hp.2), hp.2⟩) HF.out.size).at (by omega)
          obtain ⟨A', c', e0, e1, e2, e3, hin1⟩ := hr1 wr (Below.refl _ _) k hlt
          obtain ⟨A'', c'', d0, d1, d2, d3, hin2⟩ := hr2 wr (Below.refl _ _) k hltb
          obtain ⟨⟨ei, uq⟩, hq⟩ : ∃ q, q = uniF d u' la[k] lb[k] := ⟨_, rfl⟩
          have HX5 := Lib.hid (show UExt u uq by
            have h := uniF_ext d u' la[k] lb[k] HE.out.inv (SHA.out _ (List.getElem_mem hlt)) (SHB.out _ (List.getElem_mem hltb))
            rw [← hq] at h
            exact HE.out.trans h)
          have HSTEP := Lib.hid (show Q = if ei = 0 then uniL (uniF d) (la.drop (k + 1)) (lb.drop (k + 1)) uq else (ei, uq) by
            rw [EQ0.out, HQL.out, uniL_drop hlt hltb, ← hq])
          have CALL : Hid (∀ W, Below wr.heap.size wr W → Calls Tryz.prog 30 #[.pointer (some ⟨rb, 0, none⟩), tv la[k] A' c', tv lb[k] A'' c''] W fun e w' => e = .returned (.int .i64 ei) ∧ RSub nx w' P rb uq.st ∧ Frm W w' (· = rb)) := Lib.hid (fun W hW => by
            have h := HI.out u' la[k] lb[k] _ _ W (MU2.out u' la[k] (List.getElem_mem hlt) HE.out) HE.out.inv (SHA.out _ (List.getElem_mem hlt)) (SHB.out _ (List.getElem_mem hltb)) (HM.out.later hW) (hin1.later hW) (hin2.later hW)
            rw [← hq] at h
            exact h)
          obtain ⟨E1, hE1⟩ : ∃ E, E = la[k] := ⟨_, rfl⟩
          obtain ⟨E2, hE2⟩ : ∃ E, E = lb[k] := ⟨_, rfl⟩
          rw [← hE1] at e0 e1 e2 e3 CALL
          rw [← hE2] at d0 d1 d2 d3 CALL
          have HLB := Lib.hid (And.intro hb1 hb2)
          unfold tv at CALL
          clear hr1 hr2 hin1 hin2 hb1 hb2 hq hE1 hE2 HI MU2 SHA SHB MU
          go_wp2_with fail
          clear x0 x1 x2 x3 y0 y1 y2 y3
          refine wp_region_D [11] (fun w' => Below wr.heap.size wr w') (by kernel_rfl) (bdr wr) (fun hHeld => ?_)
          refine WDs 0 ⟨some 114, .move (.tmp 0), 33, _, #[], none⟩ ?vf0 ?hyf0 hHeld ?_
          case hyf0 => (intro wz hSw; (try dsimp only at hSw); go_simp; try with_reducible rfl)
          (try simp only [putz])
          refine WDs 1 ⟨some 115, .fieldAddr 36 (.tmp 4) 3, 0, _, #[], none⟩ ?vf1 ?hyf1 hHeld ?_
          case hyf1 => (intro wz hSw; (try dsimp only at hSw); go_simp; try with_reducible rfl)
          (try simp only [putz])
          refine WDs 2 ⟨some 116, .load 34 (.tmp 115), 34, _, #[⟨1, .data⟩], none⟩ ?vf2 ?hyf2 hHeld ?_
          case hyf2 => (intro wz hSw; (try dsimp only at hSw); have q3 := (cells4 ((hSw.block w.heap.size (by have := SZR.out; omega)).trans XB.out)).2.2.2; go_simp; try with_reducible rfl)
          (try simp only [putz])
          refine WDs 3 ⟨some 117, .move (.tmp 7), 3, _, #[], none⟩ ?vf3 ?hyf3 hHeld ?_
          case hyf3 => (intro wz hSw; (try dsimp only at hSw); go_simp; try with_reducible rfl)
          (try simp only [putz])
          refine WDs 4 ⟨some 118, .indexAddr 34 (.tmp 116) (.tmp 117), 0, _, #[⟨2, .data⟩, ⟨3, .data⟩], none⟩ ?vf4 ?hyf4 hHeld ?_
          case hyf4 => (intro wz hSw; (try dsimp only at hSw); go_simp; try with_reducible rfl)
          (try simp only [putz])
          refine WDs 5 ⟨some 119, .load 36 (.tmp 118), 36, _, #[⟨4, .data⟩], none⟩ ?vf5 ?hyf5 hHeld ?_
          case hyf5 => (intro wz hSw; (try dsimp only at hSw); have q0 := (hSw.cell (p := ⟨b1, _, none⟩) HLB.out.1).trans e0; have q1 := (hSw.cell (p := ⟨b1, _, none⟩) HLB.out.1).trans e1; have q2 := (hSw.cell (p := ⟨b1, _, none⟩) HLB.out.1).trans e2; have q3 := (hSw.cell (p := ⟨b1, _, none⟩) HLB.out.1).trans e3; go_simp; try with_reducible rfl)
          (try simp only [putz])
          refine WDs 6 ⟨some 120, .fieldAddr 36 (.tmp 5) 3, 0, _, #[], none⟩ ?vf6 ?hyf6 hHeld ?_
          case hyf6 => (intro wz hSw; (try dsimp only at hSw); go_simp; try with_reducible rfl)
          (try simp only [putz])
          refine WDs 7 ⟨some 121, .load 34 (.tmp 120), 34, _, #[⟨6, .data⟩], none⟩ ?vf7 ?hyf7 hHeld ?_
          case hyf7 => (intro wz hSw; (try dsimp only at hSw); have q3 := (cells4 ((hSw.block (w.heap.size + 1) (by have := SZR.out; omega)).trans YB.out)).2.2.2; go_simp; try with_reducible rfl)
          (try simp only [putz])
          refine WDs 8 ⟨some 122, .move (.tmp 7), 3, _, #[], none⟩ ?vf8 ?hyf8 hHeld ?_
          case hyf8 => (intro wz hSw; (try dsimp only at hSw); go_simp; try with_reducible rfl)
          (try simp only [putz])
          refine WDs 9 ⟨some 123, .indexAddr 34 (.tmp 121) (.tmp 122), 0, _, #[⟨7, .data⟩, ⟨8, .data⟩], none⟩ ?vf9 ?hyf9 hHeld ?_
          case hyf9 => (intro wz hSw; (try dsimp only at hSw); go_simp; try with_reducible rfl)
          (try simp only [putz])
          refine WDs 10 ⟨some 124, .load 36 (.tmp 123), 36, _, #[⟨9, .data⟩], none⟩ ?vf10 ?hyf10 hHeld ?_
          case hyf10 => (intro wz hSw; (try dsimp only at hSw); have q0 := (hSw.cell (p := ⟨b2, _, none⟩) HLB.out.2).trans d0; have q1 := (hSw.cell (p := ⟨b2, _, none⟩) HLB.out.2).trans d1; have q2 := (hSw.cell (p := ⟨b2, _, none⟩) HLB.out.2).trans d2; have q3 := (hSw.cell (p := ⟨b2, _, none⟩) HLB.out.2).trans d3; go_simp; try with_reducible rfl)
          (try simp only [putz])
          refine WD_ready (rs := [11]) (by kernel_rfl) (by simp) ?_
          refine AllD.last (o := _) rfl (by kernel_rfl) (fun K hK => ?_) AllD.nil
          rw [if_pos (by rfl)]
          go_simp
          have hw5 := hHeld
          refine (CALL.out _ hHeld).mono ?_; rintro e w5 ⟨rfl, hu5, f5⟩
          try go_wp2_with fail
          refine hK.out _ _ ?_
          clear hK K
          (try simp only [putz])
          have U5 := Lib.hid hu5
          have F5 := Lib.hid ((HF.out.trans (Frm.of_below hw5 (Nat.le_refl _) (· = rb))).trans f5)
          clear hu5 f5 hw5 CALL
          refine WD_takeAny (i := 12) (oi := ⟨some 8, .assign (.tmp 125), 42, _, #[⟨11, .data⟩, ⟨11, .chain⟩, ⟨0, .phase⟩, ⟨1, .phase⟩, ⟨2, .phase⟩, ⟨3, .phase⟩, ⟨4, .phase⟩, ⟨5, .phase⟩, ⟨6, .phase⟩, ⟨7, .phase⟩, ⟨8, .phase⟩, ⟨9, .phase⟩, ⟨10, .phase⟩, ⟨11, .phase⟩], none⟩) (v := ?vf12) rfl (by kernel_rfl) (by kernel_rfl) (by kernel_rfl) (by kernel_rfl) (fun _ _ _ h => h) (Or.inl ⟨by rfl, ?hyf12⟩) ?_
          case hyf12 => (intro wz _; go_simp; try with_reducible rfl)
          (try simp only [putz])
          refine WD_done (by kernel_rfl) ?_ _
          by_cases hz : ei = 0
          · have HS2 := Lib.hid (HSTEP.out.trans (if_pos hz))
            subst hz
            clear HSTEP e0 e1 e2 e3 d0 d1 d2 d3
            go_wp2
            go_roundw
            case rel =>
              exact ⟨k + 1, uq, by omega, by go_num, Lib.hid (by rw [← EQ0.out]; exact HS2.out), HX5, U5, F5⟩
            case measure => simp [intOf]; omega
          · have HS2 := Lib.hid (HSTEP.out.trans (if_neg hz))
            have qz : (ei == 0) = false := beq_eq_false_iff_ne.2 hz
            have qz2 : (ei != 0) = true := by simp [bne, qz]
            clear HSTEP e0 e1 e2 e3 d0 d1 d2 d3 hz
            go_wp2
            go_ret
            rw [HS2.out]
            exact ⟨rfl, U5.out, (Frm.of_below BW.out (Nat.le_refl _) _).trans F5.out⟩
        · obtain rfl : k = la.length := by omega
          have hge : ¬ (la.length : Int) < (la.length : Int) := by omega
          have EQ := Lib.hid (show Q = (0, u') by rw [EQ0.out, HQL.out, uniL_end])
          go_wp2
          go_ret
          rw [EQ.out]
          exact ⟨rfl, HM.out, FW.out⟩
    · have qk : (TA.k == TB.k) = true := by rw [hk]; exact beq_self_eq_true _
      have qn : (TA.nm.toList == TB.nm.toList) = false := beq_eq_false_iff_ne.2 (fun e => hn (toList_inj e))
      have EQ := Lib.hid (show Q = (5, u) by rw [HQ3.out, if_pos (.inr hn)])
      rw [hk] at qa x0
      clear hk hn
      as_aux_lemma =>
      go_wp2
      go_ret
      rw [EQ.out]
      exact ⟨rfl, U4.out, Frm.of_below BW.out (Nat.le_refl _) _⟩
  · have qk : (TA.k == TB.k) = false := beq_eq_false_iff_ne.2 hk
    have qk2 : (TA.k != TB.k) = true := by simp [bne, qk]
    have EQ := Lib.hid (show Q = (5, u) by rw [HQ3.out, if_pos (.inl hk)])
    clear hk
    as_aux_lemma =>
    go_wp2
    go_ret
    rw [EQ.out]
    exact ⟨rfl, U4.out, Frm.of_below BW.out (Nat.le_refl _) _⟩
end Go.Proofs.YtifopogkbjhkjaaGreatDoor
