import Derived.Test.YtifopogkbjhkjaaGreatDoorWj
namespace Go.Proofs.YtifopogkbjhkjaaGreatDoor
open DR
open Go.ChangeShapes Go.WideShapes Go.ChangeAt Go.RowKit Go.WideMaps
set_option linter.unusedVariables false
set_option linter.unusedSimpArgs false
/-! ### the reference's answers are the program's (pure) -/
theorem asc_step {V : TT} {all : List Int} (h : sgoodT V all = true) {i : Nat} (hi : i + 1 < all.length) : all[i]'(by omega) < all[i + 1] := by
  unfold sgoodT at h
  rw [Bool.and_eq_true] at h
  have hb := of_decide_eq_true h.2 (i + 1) hi
  have hn : ¬ all[i + 1] ≤ all[i + 1 - 1] := fun e => hb (bad_le hi (by omega) e)
  have e : all[i + 1 - 1]'(by omega) = all[i]'(by omega) := by congr 1
  rw [e] at hn
  omega
theorem asc_all {V : TT} {all : List Int} (h : sgoodT V all = true) : ∀ (d i : Nat) (hi : i + d + 1 < all.length), all[i]'(by omega) < all[i + d + 1]
  | 0, i, hi => asc_step h hi
  | d + 1, i, hi => by
    have h1 := asc_all h d i (by omega)
    have h2 := asc_step h (i := i + d + 1) (by omega)
    exact Int.lt_trans h1 h2
theorem asc_new {V : TT} {all : List Int} (h : sgoodT V all = true) {k : Nat} (hk : k < all.length) : all[k] ∉ all.take k := by
  intro hm
  obtain ⟨i, hi, e⟩ := List.mem_iff_getElem.1 hm
  rw [List.length_take] at hi
  rw [List.getElem_take] at e
  have hik : i < k := by omega
  obtain ⟨d, rfl⟩ : ∃ d, k = i + d + 1 := ⟨k - i - 1, by omega⟩
  have := asc_all h d i hk
  omega
theorem fN_gF {V : TT} {all : List Int} (h : sgoodT V all = true) (n : Int) : ∀ k, k ≤ all.length → ∀ x, fN all n k x = if x ∈ all.take k then some (n + (posI all x : Nat)) else none
  | 0, _, x => by simp [fN]
  | k + 1, hk, x => by
    have hlt : k < all.length := by omega
    have ih := fN_gF h n k (by omega) x
    have e : all.getD k 0 = all[k] := by rw [List.getD_eq_getElem?_getD, List.getElem?_eq_getElem hlt]; rfl
    rw [fN, e, List.take_succ_eq_append_getElem hlt]
    show (if x = all[k] then some (n + k) else fN all n k x) = _
    by_cases hx : x = all[k]
    · rw [if_pos hx, if_pos (List.mem_append.2 (.inr (List.mem_singleton.2 hx))), hx, posI_at hlt (asc_new h hlt)]
    · rw [if_neg hx, ih]
      by_cases hm : x ∈ all.take k
      · rw [if_pos hm, if_pos (List.mem_append.2 (.inl hm))]
      · rw [if_neg hm, if_neg (fun e => (List.mem_append.1 e).elim hm (fun e => hx (List.mem_singleton.1 e)))]
theorem gF_fN {V : TT} {all : List Int} (h : sgoodT V all = true) (n : Int) : gF all n = fN all n all.length := by
  funext x
  rw [fN_gF h n all.length (Nat.le_refl _) x, List.take_length]; rfl
/-- Open answers alike. -/
theorem open_same {St R : List TT} (hst : SInv St) (he : ∀ x, stA R x = stA St x) {n : Int} {all : List Int} {V : TT} (h0 : 0 ≤ n) (h1 : n + all.length ≤ 1999) : ropenF R n all V = openF St n all V := by
  unfold ropenF openF
  by_cases hs : sgoodT V all = true
  · rw [if_pos hs, if_pos hs, gF_fN hs]
    have hg : goodT (renT (fN all n all.length) V) = true := good_ren (fun x y hy => by have := fN_range hy; omega) (good_all hs).1
    unfold apG
    rw [if_pos hg, app_congr he]
  · rw [if_neg hs, if_neg hs]
theorem own_var {R : List TT} {rk : Int → Nat} (hr : StOk R rk) {x : Int} (h0 : 0 ≤ x) (h1 : x ≤ 1999) : apvF R (varT x) = varT x ↔ (resF R (varT x)).k = 7 ∧ (resF R (varT x)).vr = x := by
  obtain ⟨m, rfl⟩ : ∃ m : Nat, x = m := ⟨x.toNat, by omega⟩
  have hs : shp (varT (m : Int)) = true := shp_v (by omega)
  have hR := res_shp hr (resF_res hr (varT (m : Int))) hs
  constructor
  · intro e
    rw [app_eq hr hs] at e
    have e1 := congrArg TT.k e
    have e2 := congrArg TT.vr e
    exact ⟨e1, e2⟩
  · rintro ⟨h7, hv⟩
    rw [app_var hr hs h7]
    exact shp_eq7 hR hs h7 rfl hv
theorem heldV_mem {R : List TT} {rk : Int → Nat} (hr : StOk R rk) {all l : List Int} {x : Int} (h0 : 0 ≤ x) (h1 : x ≤ 1999) (y : Int) : y ∈ heldV R all l x ↔ y ∈ l ∨ y ∈ frP R all x := by
  have ho := own_var hr h0 h1
  unfold heldV frP
  by_cases h : x ∈ all ∧ (resF R (varT x)).k = 7 ∧ (resF R (varT x)).vr = x
  · rw [if_pos h, if_pos ⟨ho.2 h.2, h.1⟩]; simp
  · rw [if_neg h, if_neg (fun e => h ⟨e.2, ho.1 e.1⟩), varsT_mem]; rfl
theorem heldS_mem {R : List TT} {rk : Int → Nat} (hr : StOk R rk) {all : List Int} : ∀ (vs l : List Int), (∀ x ∈ vs, 0 ≤ x ∧ x ≤ 1999) → ∀ y, y ∈ heldS R all vs l ↔ y ∈ l ∨ y ∈ frK R all vs
  | [], l, _, y => by simp [heldS, frK]
  | x :: vs, l, hv, y => by
    have hx := hv x (by simp)
    have ih := heldS_mem (all := all) hr vs (heldV R all l x) (fun z hz => hv z (by simp [hz])) y
    unfold heldS at ih ⊢
    rw [List.foldl_cons, ih, heldV_mem hr hx.1 hx.2]
    unfold frK
    rw [List.flatMap_cons, List.mem_append, or_assoc]
theorem heldE_mem {R : List TT} {rk : Int → Nat} (hr : StOk R rk) : ∀ (E : List (List Int × TT)) (l : List Int), (∀ e ∈ E, shp e.2 = true) → ∀ y, y ∈ E.foldl (fun l e => heldS R e.1 (varsOf e.2) l) l ↔ y ∈ l ∨ y ∈ takenS R E
  | [], l, _, y => by simp [takenS]
  | e :: E, l, hv, y => by
    have ih := heldE_mem hr E (heldS R e.1 (varsOf e.2) l) (fun z hz => hv z (by simp [hz])) y
    rw [List.foldl_cons, ih, heldS_mem hr (varsOf e.2) l (vars_in e.2 [] (hv e (by simp)) (fun _ h => by cases h))]
    unfold takenS
    rw [List.flatMap_cons, List.mem_append, or_assoc]
theorem takenS_congr {St R : List TT} (he : ∀ x, stA R x = stA St x) : takenS R = takenS St := by
  funext E
  unfold takenS
  have h : frP R = frP St := by funext all x; unfold frP; rw [app_congr he]
  have h2 : frK R = frK St := by funext all vs; unfold frK; rw [h]
  rw [h2]
theorem held_same {St R : List TT} (hst : SInv R) (he : ∀ x, stA R x = stA St x) {E : List (List Int × TT)} (hE : ∀ e ∈ E, shp e.2 = true) (y : Int) : y ∈ heldE R E ↔ y ∈ takenS St E := by
  obtain ⟨rk, hr⟩ := hst.ok
  unfold heldE
  rw [heldE_mem hr E [] hE y, takenS_congr he]; simp
end Go.Proofs.YtifopogkbjhkjaaGreatDoor
namespace Go.Proofs.YtifopogkbjhkjaaGreatDoor
open DR
open Go.ChangeShapes Go.WideShapes Go.ChangeAt Go.RowKit Go.WideMaps
set_option linter.unusedVariables false
set_option linter.unusedSimpArgs false
theorem froz5 {w : World} {R : Nat} {cs : Array Value} {t : TypeId} (h : w.heap[R]? = some (.cells cs t (0, 0))) (i : Nat) : w.frozen? ⟨R, i, none⟩ = false := by
  simp [World.frozen?, h]
theorem cells_all5 {w : World} {R : Nat} {y0 y1 y2 y3 y4 : Value} {t : TypeId} (a b c d e : Value) (h : w.heap[R]? = some (.cells #[y0, y1, y2, y3, y4] t (0, 0))) : (set5 w R a b c d e).heap[R]? = some (.cells #[a, b, c, d, e] t (0, 0)) := by
  simp [World.setCell, Array.getElem?_modify, h]
set_option maxRecDepth 100000 in
set_option maxHeartbeats 4000000 in
/-- own: a scheme as the document's own. -/
theorem rown {V : TT} {m : Nat} {Al A : Option Addr} {ca c : Nat} {w : World} (hbg : bigT 7 V = false) (h : TRow w any0 A V.args) :
    Calls Tryz.prog 12 #[scv Al m ca V A c] w fun e w' => ∃ A' c', e = .returned (scv Al m ca V A' c') ∧ TRow w' (w.heap.size ≤ ·) A' V.args ∧ Below w.heap.size w w' := by
  have CT := Lib.hid (fun W (hW : Below w.heap.size w W) => ty1_any 7 V (tv V A c) W hbg ⟨A, c, rfl, h.later hW⟩)
  unfold tv at CT
  unfold scv
  obtain ⟨wB, hwB⟩ : ∃ z, z = (w.alloc (.cells #[.slice Al m ca, .int .i64 V.k, .string V.nm, .int .i64 V.vr, .slice A V.args.length c] SchT)).alloc (.cells #[.slice none 0 0, .int .i64 0, .string ⟨#[]⟩, .int .i64 0, .slice none 0 0] RScT) := ⟨_, rfl⟩
  have BX := two_box (w := w) (.cells #[.slice Al m ca, .int .i64 V.k, .string V.nm, .int .i64 V.vr, .slice A V.args.length c] SchT) (.cells #[.slice none 0 0, .int .i64 0, .string ⟨#[]⟩, .int .i64 0, .slice none 0 0] RScT)
  rw [← hwB] at BX
  have HB := Lib.hid (show Below w.heap.size w wB by rw [hwB]; exact bt (below_alloc w _) (below_alloc _ _))
  have HZ := Lib.hid (show wB.heap.size = w.heap.size + 2 by rw [hwB]; simp)
  have HX := Lib.hid BX.1
  have HY := Lib.hid BX.2
  have HWB := Lib.hid hwB
  clear hwB BX h hbg
  go_enter Tryz.func12, Tryz.ntmps12
  go_wp2_with fail
  try rw [← HWB.out]
  try go_wp2_with fail
  refine wp_region_D [6] (fun w' => Below wB.heap.size wB w') (by kernel_rfl) (bdr wB) (fun hHeld => ?_)
  refine WDs 0 ⟨some 3, .fieldAddr 28 (.tmp 1) 0, 0, _, #[], none⟩ ?va0 ?hya0 hHeld ?_
  case hya0 => (intro wz hSw; (try dsimp only at hSw); go_simp; try with_reducible rfl)
  (try simp only [putz])
  refine WDs 1 ⟨some 4, .load 26 (.tmp 3), 26, _, #[⟨0, .data⟩], none⟩ ?va1 ?hya1 hHeld ?_
  case hya1 => (intro wz hSw; (try dsimp only at hSw); obtain ⟨z0, z1, z2, z3, z4⟩ := five5 ((hSw.block w.heap.size (by have := HZ.out; omega)).trans HX.out); go_simp; try with_reducible rfl)
  (try simp only [putz])
  refine WDs 2 ⟨some 5, .fieldAddr 28 (.tmp 1) 1, 0, _, #[], none⟩ ?va2 ?hya2 hHeld ?_
  case hya2 => (intro wz hSw; (try dsimp only at hSw); go_simp; try with_reducible rfl)
  (try simp only [putz])
  refine WDs 3 ⟨some 6, .load 24 (.tmp 5), 24, _, #[⟨2, .data⟩], none⟩ ?va3 ?hya3 hHeld ?_
  case hya3 => (intro wz hSw; (try dsimp only at hSw); obtain ⟨z0, z1, z2, z3, z4⟩ := five5 ((hSw.block w.heap.size (by have := HZ.out; omega)).trans HX.out); go_simp; try with_reducible rfl)
  (try simp only [putz])
  refine WD_ready (rs := [4]) (by kernel_rfl) (by simp) ?_
  refine AllD.cons (o := _) rfl (fun K hK => ?_) AllD.nil
  rw [if_pos (by rfl)]
  go_simp
  refine (CT.out _ (bt HB.out hHeld)).mono ?_; rintro e w2 ⟨A2, c2, rfl, r2, b2⟩
  try unfold tv
  try go_wp2_with fail
  refine hK.out _ _ (bt hHeld b2) (fun hHeld => ?_)
  clear hK K
  (try simp only [putz])
  refine WDs 5 ⟨some 8, .build 48 #[(0, .tmp 4), (1, .tmp 7)], 48, _, #[⟨1, .data⟩, ⟨4, .data⟩], none⟩ ?va5 ?hya5 hHeld ?_
  case hya5 => (intro wz hSw; (try dsimp only at hSw); go_simp; try with_reducible rfl)
  (try simp only [putz])
  have B2 := Lib.hid hHeld
  have Y2 := Lib.hid ((hHeld.block (w.heap.size + 1) (by have := HZ.out; omega)).trans HY.out)
  have R2 := Lib.hid (r2.weak (P' := fun q => wB.heap.size ≤ q) (fun q _ (hq : _ ≤ q) => Nat.le_trans (by first | exact Nat.le_refl _ | exact hHeld.size | (have := hHeld.size; omega)) hq))
  obtain ⟨y0, y1, y2, y3, y4⟩ := five5 Y2.out
  have k0 := froz5 Y2.out 0
  have k1 := froz5 Y2.out 1
  have k2 := froz5 Y2.out 2
  have k3 := froz5 Y2.out 3
  have k4 := froz5 Y2.out 4
  clear hHeld r2 b2
  refine WD_ready (rs := [6]) (by kernel_rfl) (by simp) ?_
  refine AllD.last (o := _) rfl (by kernel_rfl) (fun K hK => ?_) AllD.nil
  rw [if_pos (by rfl)]
  go_simp
  refine hK.out _ _ ?_
  clear hK K
  (try simp only [putz])
  refine WD_done (by kernel_rfl) ?_ _
  obtain ⟨t0, t1, t2, t3, t4⟩ := five5 (cells_all5 (.slice Al m ca) (.int .i64 V.k) (.string V.nm) (.int .i64 V.vr) (.slice A2 V.args.length c2) Y2.out)
  have FR := Lib.hid (set5_frm w2 (w.heap.size + 1) (.slice Al m ca) (.int .i64 V.k) (.string V.nm) (.int .i64 V.vr) (.slice A2 V.args.length c2))
  have SZ := Lib.hid (show w.heap.size + 2 ≤ w2.heap.size by have := B2.out.size; have := HZ.out; omega)
  have FIN := Lib.hid (show ∀ W, W = set5 w2 (w.heap.size + 1) (.slice Al m ca) (.int .i64 V.k) (.string V.nm) (.int .i64 V.vr) (.slice A2 V.args.length c2) → (TRow W.drew (w.heap.size ≤ ·) A2 V.args ∧ Below w.heap.size w W.drew) ∧ TRow W (w.heap.size ≤ ·) A2 V.args ∧ Below w.heap.size w W by
    intro W hW
    have q1 : TRow W (w.heap.size ≤ ·) A2 V.args := by
      rw [hW]
      exact R2.out.move (P' := (w.heap.size ≤ ·)) (fun b hb (hp : wB.heap.size ≤ b) => ⟨FR.out.block b hb (by have := HZ.out; show ¬ b = w.heap.size + 1; omega), by have := HZ.out; show w.heap.size ≤ b; omega⟩) FR.out.size
    have q2 : Below w.heap.size w W := by
      rw [hW]
      exact (bt HB.out B2.out).trans (FR.out.below (fun q hq => by have : q = w.heap.size + 1 := hq; omega) (by have := SZ.out; omega))
    exact ⟨⟨TRow.move (w := W) (w' := W.drew) (P' := (w.heap.size ≤ ·)) (fun b hb hp => ⟨rfl, hp⟩) (Nat.le_refl _) q1, q2.drew⟩, q1, q2⟩)
  go_wp2
  (try simp only [Exit.inBlock, Exit.then])
  refine bodyPost_ret (by simp [results, Tryz.results12, go_sem, t0, t1, t2, t3, t4]; try rfl) rfl ?_
  first
    | exact ⟨A2, c2, rfl, (FIN.out _ rfl).1.1, (FIN.out _ rfl).1.2⟩
    | exact ⟨A2, c2, rfl, (FIN.out _ rfl).2.1, (FIN.out _ rfl).2.2⟩
    | exact ⟨A2, ⟨c2, rfl⟩, (FIN.out _ rfl).1.1, (FIN.out _ rfl).1.2⟩
    | exact ⟨A2, ⟨c2, rfl⟩, (FIN.out _ rfl).2.1, (FIN.out _ rfl).2.2⟩
end Go.Proofs.YtifopogkbjhkjaaGreatDoor
namespace Go.Proofs.YtifopogkbjhkjaaGreatDoor
open DR
open Go.ChangeShapes Go.WideShapes Go.ChangeAt Go.RowKit Go.WideMaps
set_option linter.unusedVariables false
set_option linter.unusedSimpArgs false
/-! ### a sorted row by insertion (pure) -/
def insS : List Int → Int → List Int
  | [], x => [x]
  | a :: l, x => if a < x then a :: insS l x else x :: a :: l
theorem insS_perm (x : Int) : ∀ l : List Int, (insS l x).Perm (x :: l)
  | [] => List.Perm.refl _
  | a :: l => by
    rw [insS]
    split
    · exact ((insS_perm x l).cons a).trans (List.Perm.swap x a l)
    · exact List.Perm.refl _
theorem insS_asc {x : Int} : ∀ {l : List Int}, l.Pairwise (· < ·) → x ∉ l → (insS l x).Pairwise (· < ·)
  | [], _, _ => by simp [insS]
  | a :: l, h, hx => by
    rw [List.pairwise_cons] at h
    rw [List.mem_cons, not_or] at hx
    rw [insS]
    split
    · rename_i hlt
      refine List.pairwise_cons.2 ⟨fun b hb => ?_, insS_asc h.2 hx.2⟩
      rcases List.mem_cons.1 ((insS_perm x l).mem_iff.1 hb) with e | e
      · omega
      · exact h.1 b e
    · rename_i hge
      refine List.pairwise_cons.2 ⟨fun b hb => ?_, List.pairwise_cons.2 h⟩
      rcases List.mem_cons.1 hb with e | e
      · omega
      · have := h.1 b e; omega
def rAllF (held : List Int) (a : List Int) (x : Int) : List Int := if x ∈ held then a else insS a x
theorem rAll_gen {held : List Int} : ∀ (vs a : List Int), a.Pairwise (· < ·) → (∀ x ∈ a, x ∉ vs) → vs.Nodup → (vs.foldl (rAllF held) a).Pairwise (· < ·) ∧ (vs.foldl (rAllF held) a).Perm (a ++ vs.filter fun x => decide (x ∉ held))
  | [], a, h, _, _ => ⟨h, by simp⟩
  | x :: vs, a, h, hd, hn => by
    rw [List.nodup_cons] at hn
    rw [List.foldl_cons]
    by_cases hx : x ∈ held
    · have e : rAllF held a x = a := by unfold rAllF; rw [if_pos hx]
      rw [e, List.filter_cons_of_neg (by simp [hx])]
      exact rAll_gen vs a h (fun y hy hv => hd y hy (List.mem_cons_of_mem _ hv)) hn.2
    · have e : rAllF held a x = insS a x := by unfold rAllF; rw [if_neg hx]
      have hxa : x ∉ a := fun hm => hd x hm (by simp)
      rw [e, List.filter_cons_of_pos (by simp [hx])]
      have hi := rAll_gen (held := held) vs (insS a x) (insS_asc h hxa) (fun y hy hv => by
        rcases List.mem_cons.1 ((insS_perm x a).mem_iff.1 hy) with e | e
        · exact hn.1 (e ▸ hv)
        · exact hd y e (List.mem_cons_of_mem _ hv)) hn.2
      exact ⟨hi.1, hi.2.trans (((insS_perm x a).append_right _).trans (List.perm_middle.symm))⟩
/-- the reference's All is the program's. -/
theorem all_same {V : TT} {held tk : List Int} (hm : ∀ y, y ∈ held ↔ y ∈ tk) : (varsOf V).foldl (rAllF held) [] = freeS V tk := by
  have hn : (varsOf V).Nodup := varsT_nodup V [] List.nodup_nil
  obtain ⟨h1, h2⟩ := rAll_gen (held := held) (varsOf V) [] List.Pairwise.nil (fun _ h => by cases h) hn
  have e : (varsOf V).filter (fun x => decide (x ∉ held)) = (varsOf V).filter (fun x => decide (x ∉ tk)) := by
    congr 1; funext x; simp [hm x]
  rw [e, List.nil_append] at h2
  refine List.Perm.eq_of_pairwise (le := (· < ·)) (fun a b _ _ h h' => by omega) h1 (freeS_lt V tk) (h2.trans (freeS_perm V tk).symm)
end Go.Proofs.YtifopogkbjhkjaaGreatDoor
