import Derived.Test.YtifopogkbjhkjaaDoorRb
namespace Go.Proofs.YtifopogkbjhkjaaDoor
open DR
open Go.ChangeShapes Go.WideShapes Go.ChangeAt Go.RowKit Go.WideMaps
set_option linter.unusedVariables false
set_option linter.unusedSimpArgs false
/-- a row of schemes. -/
def SRow (w : World) (A : Option Addr) (E : List (List Int × TT)) : Prop := E.length = 0 ∨ ∃ b o, A = some ⟨b, o, none⟩ ∧ b < w.heap.size ∧ ∀ i (h : i < E.length), ∃ Al ca A' c', w.cell? ⟨b, o + i * 5, none⟩ = some (.slice Al E[i].1.length ca) ∧ w.cell? ⟨b, o + i * 5 + 1, none⟩ = some (.int .i64 E[i].2.k) ∧ w.cell? ⟨b, o + i * 5 + 2, none⟩ = some (.string E[i].2.nm) ∧ w.cell? ⟨b, o + i * 5 + 3, none⟩ = some (.int .i64 E[i].2.vr) ∧ w.cell? ⟨b, o + i * 5 + 4, none⟩ = some (.slice A' E[i].2.args.length c') ∧ IRow w Al E[i].1 ∧ TRow w any0 A' E[i].2.args
theorem SRow.later {w w' : World} {A : Option Addr} {E : List (List Int × TT)} (h : SRow w A E) (hb : Below w.heap.size w w') : SRow w' A E := by
  rcases h with h | ⟨b, o, h1, h2, h3⟩
  · exact .inl h
  · refine .inr ⟨b, o, h1, Nat.lt_of_lt_of_le h2 hb.size, fun i hi => ?_⟩
    obtain ⟨Al, ca, A', c', q0, q1, q2, q3, q4, q5, q6⟩ := h3 i hi
    exact ⟨Al, ca, A', c', (hb.cell (p := ⟨b, _, none⟩) h2).trans q0, (hb.cell (p := ⟨b, _, none⟩) h2).trans q1, (hb.cell (p := ⟨b, _, none⟩) h2).trans q2, (hb.cell (p := ⟨b, _, none⟩) h2).trans q3, (hb.cell (p := ⟨b, _, none⟩) h2).trans q4, q5.later hb, q6.later hb⟩
/-- what stands in an env. -/
def takenE : List (List Int × TT) → List Int
  | [] => []
  | x :: l => varsOf x.2 ++ takenE l
theorem takenE_take {E : List (List Int × TT)} {k : Nat} (h : k < E.length) : ∀ x, x ∈ takenE (E.take (k + 1)) ↔ x ∈ takenE (E.take k) ∨ x ∈ varsOf E[k].2 := by
  induction E generalizing k with
  | nil => simp at h
  | cons a l ih =>
    intro x
    cases k with
    | zero => simp [takenE]
    | succ k =>
      simp only [List.take_succ_cons, takenE, List.mem_append, List.getElem_cons_succ]
      rw [ih (by simpa using h) x, or_assoc]
theorem takenE_mem {E : List (List Int × TT)} {x : Int} : x ∈ takenE E ↔ ∃ e ∈ E, x ∈ varsOf e.2 := by
  induction E with
  | nil => simp [takenE]
  | cons a l ih => simp [takenE, ih]
theorem sgood_nil (V : TT) : sgoodT V [] = goodT V := by
  unfold sgoodT; simp
def ClEnv (w : World) (T : TT) (all : List Int) (e : Ending) (w' : World) : Prop := ∃ Al ca A c, e = .returned (scv Al all.length ca T A c) ∧ IRow w' Al all ∧ (∀ b o f, Al = some ⟨b, o, f⟩ → w.heap.size ≤ b) ∧ TRow w' (w.heap.size ≤ ·) A T.args ∧ Below w.heap.size w w'
theorem set5_frm (w : World) (R : Nat) (a b c d e : Value) : Frm w (set5 w R a b c d e) (· = R) :=
  (frm_set (R := (· = R)) 0 a rfl).trans ((frm_set (R := (· = R)) 1 b rfl).trans ((frm_set (R := (· = R)) 2 c rfl).trans ((frm_set (R := (· = R)) 3 d rfl).trans (frm_set (R := (· = R)) 4 e rfl))))
theorem filter_take {p : Int → Bool} {l : List Int} {k : Nat} (h : k < l.length) : (l.take (k + 1)).filter p = (l.take k).filter p ++ (if p l[k] then [l[k]] else []) := by
  rw [List.take_succ_eq_append_getElem h, List.filter_append]
  congr 1
  simp only [List.filter_cons, List.filter_nil]
def flt (tk vs : List Int) (k : Nat) : List Int := (vs.take k).filter fun x => decide (x ∉ tk)
theorem flt_no {tk vs : List Int} {k : Nat} (h : k < vs.length) (hin : vs[k] ∈ tk) : flt tk vs (k + 1) = flt tk vs k := by
  unfold flt; rw [filter_take h, if_neg (by simp [hin]), List.append_nil]
theorem flt_yes {tk vs : List Int} {k : Nat} (h : k < vs.length) (hin : vs[k] ∉ tk) : ivs (flt tk vs (k + 1)) = ivs (flt tk vs k) ++ [.int .i64 vs[k]] := by
  unfold flt; rw [filter_take h, if_pos (by simp [hin]), ivs_app]; rfl
set_option maxRecDepth 100000 in
set_option maxHeartbeats 16000000 in
/-- Close, in an env of schemes in which nothing may be anything. -/
theorem close_env {V : TT} {v : Value} {sb ce : Nat} {Ae : Option Addr} {E : List (List Int × TT)} {n : Int} {w : World} (he : SRow w Ae E) (hE : ∀ x ∈ E, bigT 7 x.2 = false ∧ goodT x.2 = true ∧ x.1 = []) (hl6 : E.length ≤ 6) (hbg : bigT 7 V = false) (hg : goodT V = true) (hs : SubE w sb n) (h : TIn w any0 V v) :
    Calls Tryd.prog 14 #[.pointer (some ⟨sb, 0, none⟩), v, .slice Ae E.length ce] w (ClEnv w V (freeS V (takenE E))) := by
  obtain ⟨i0, hi0, hz0, hz1, hz2⟩ := info_parts infoI
  have hsh : shp V = true := by have q := hg; unfold goodT at q; rw [Bool.and_eq_true] at q; exact q.2
  have HRG := Lib.hid (vars_in V [] hsh (fun _ h => by cases h))
  have hvf : (varsOf V).length ≤ 99 := by have := vars_few 6 V [] hbg hsh; unfold varsOf; simp at this; omega
  have hin := h
  obtain ⟨A, c, rfl, -⟩ := h
  have CG := Lib.hid (fun W (hW : Below w.heap.size w W) => good_any (Nat.le_refl 7) hbg (hin.later hW))
  have CA := Lib.hid (fun W (hW : Below w.heap.size w W) => apply_any (Nat.le_refl 7) hbg hg (hs.below hW) (hin.later hW))
  have CV := Lib.hid (fun W A' c' (h : TRow W any0 A' V.args) => vars_any (Nat.le_refl 7) hbg hsh (⟨A', c', rfl, h⟩ : TIn W any0 V (tv V A' c')))
  have CG1 := Lib.hid (fun k (hk : k < E.length) (W : World) (Al : Option Addr) (ca : Nat) (A' : Option Addr) (c' : Nat) (hr : TRow W any0 A' E[k].2.args) => by
    have h3 := hE _ (List.getElem_mem hk)
    have := sgood_any (all := []) (Al := Al) (ca := ca) (c := c') (Nat.le_refl 7) h3.1 (by simp) (.inl rfl) hr
    rw [sgood_nil, h3.2.1] at this
    exact this)
  have CF := Lib.hid (fun k (hk : k < E.length) (W : World) (Al : Option Addr) (ca : Nat) (A' : Option Addr) (c' : Nat) (hW : Below w.heap.size w W) (hr : TRow W any0 A' E[k].2.args) => by
    have h3 := hE _ (List.getElem_mem hk)
    have hsh3 : shp E[k].2 = true := by have q := h3.2.1; unfold goodT at q; rw [Bool.and_eq_true] at q; exact q.2
    exact free_gen (Al := Al) (ca := ca) (c := c') h3.1 hsh3 (hs.below hW) hr)
  have CN := Lib.hid (fun k (hk : k < E.length) => by
    have h3 := hE _ (List.getElem_mem hk)
    have hsh3 : shp E[k].2 = true := by have q := h3.2.1; unfold goodT at q; rw [Bool.and_eq_true] at q; exact q.2
    have h4 := vars_few 6 E[k].2 [] h3.1 hsh3
    exact (⟨by unfold varsOf; simp at h4; omega, vars_in E[k].2 [] hsh3 (fun _ h => by cases h), congrArg List.length h3.2.2⟩ : (varsOf E[k].2).length ≤ 99 ∧ (∀ x ∈ varsOf E[k].2, 0 ≤ x ∧ x ≤ 1999) ∧ E[k].1.length = 0))
  unfold scv at CG1 CF
  rw [hg] at CG
  have HE := Lib.hid he
  obtain ⟨NE, hNE⟩ : ∃ N, N = E.length := ⟨_, rfl⟩
  rw [← hNE] at hl6 ⊢
  have HNE := Lib.hid hNE
  obtain ⟨all, hall⟩ : ∃ a, a = freeS V (takenE E) := ⟨_, rfl⟩
  rw [← hall]
  have HALL := Lib.hid hall
  have hmm := @run_makeMap Tryd.prog
  obtain ⟨vs, hvs⟩ : ∃ vs, vs = varsOf V := ⟨_, rfl⟩
  have HRG : Hid (∀ x ∈ vs, 0 ≤ x ∧ x ≤ 1999) := Lib.hid (by rw [hvs]; exact HRG.out)
  have HALL : Hid (all = ((vs.filter fun x => decide (x ∉ takenE E)).mergeSort fun x y => decide (x ≤ y))) := Lib.hid (by rw [hvs]; exact HALL.out)
  rw [← hvs] at hvf CV
  unfold tv at CG CA CV ⊢
  obtain ⟨wB, hwB⟩ : ∃ z, z = (w.alloc (.cells #[.int .i64 V.k, .string V.nm, .int .i64 V.vr, .slice A V.args.length c] 24)).alloc (.cells #[.slice none 0 0, .int .i64 0, .string ⟨#[]⟩, .int .i64 0, .slice none 0 0] SchT) := ⟨_, rfl⟩
  have BX := two_box (w := w) (.cells #[.int .i64 V.k, .string V.nm, .int .i64 V.vr, .slice A V.args.length c] 24) (.cells #[.slice none 0 0, .int .i64 0, .string ⟨#[]⟩, .int .i64 0, .slice none 0 0] SchT)
  rw [← hwB] at BX
  have HB := Lib.hid (show Below w.heap.size w wB by rw [hwB]; exact bt (below_alloc w _) (below_alloc _ _))
  have HZ := Lib.hid (show wB.heap.size = w.heap.size + 2 by rw [hwB]; simp)
  have HX := Lib.hid BX
  obtain ⟨x0, x1, x2, x3⟩ := cell4 BX.1
  have HWB := Lib.hid hwB
  have HVS := Lib.hid hvs
  clear hbg hsh hg hs hin hwB BX hvs he hE hNE hall
  go_enter Tryd.func14, Tryd.ntmps14
  go_wp2_with fail
  rw [← HWB.out]
  try go_wp2_with fail
  refine (CG.out _ HB.out).mono ?_; rintro e w1 ⟨rfl, b1⟩
  obtain ⟨w2, hw2⟩ : ∃ z, z = w1.alloc (.map #[] 0) := ⟨_, rfl⟩
  have b2 : Below wB.heap.size wB w2 := by rw [hw2]; exact bt b1 (below_alloc w1 _)
  have HM := Lib.hid (show MN w2 w1.heap.size 0 (fun _ => none) by rw [hw2]; exact mn_made w1)
  have B2 := Lib.hid (bt HB.out b2)
  have T2 := Lib.hid ((b2.block w.heap.size (by have := HZ.out; omega)).trans HX.out.1)
  have R2 := Lib.hid ((b2.block (w.heap.size + 1) (by have := HZ.out; omega)).trans HX.out.2)
  have QM := Lib.hid (show w.heap.size + 2 ≤ w1.heap.size by have := b1.size; have := HZ.out; omega)
  obtain ⟨M, hM⟩ : ∃ M, M = w1.heap.size := ⟨_, rfl⟩
  have HW2 := Lib.hid hw2
  clear b1 b2 hw2 x0 x1 x2 x3 CG
  go_wp2
  rw [← HW2.out]
  rw [← hM] at HM QM ⊢
  clear hM HW2 hmm
  have Q2 := Lib.hid (show w.heap.size + 2 ≤ w2.heap.size ∧ M < w2.heap.size by have := QM.out; have := HM.out.lt; omega)
  obtain ⟨tk, htk⟩ : ∃ tk, tk = takenE E := ⟨_, rfl⟩
  have HTK := Lib.hid htk
  rw [← htk] at HALL
  clear htk
  go_loopw [23] (fun i wr => ∃ (k nn : Nat) (f : Int → Option Int), k ≤ NE ∧ i = .int .i64 k ∧ nn ≤ 100 * k ∧ Hid (MN wr M nn f) ∧ Hid (∀ x, (f x).isSome = true ↔ x ∈ takenE (E.take k)) ∧ Hid (∀ x y, f x = some y → 1 ≤ y ∧ y ≤ ((100 * k : Nat) : Int)) ∧ Hid (Frm w2 wr (· = M))) (fun i _ => NE - (intOf i).toNat)
  case atStart => exact ⟨0, 0, _, by omega, by first | rfl | trivial, by omega, HM, Lib.hid (fun x => by simp [takenE]), Lib.hid (fun _ _ h => by cases h), Lib.hid (Frm.refl _ _)⟩
  case round =>
    obtain ⟨k0, nn0, f0, hk0, rfl, hnn0, MP0, PA0, PB0, FM0⟩ := hrel
    have BW0 := Lib.hid (B2.out.trans (FM0.out.below (fun q hq => by have := QM.out; have : q = M := hq; omega) (by have := Q2.out; omega)))
    by_cases hlt0 : k0 < NE
    · have hlti0 : (k0 : Int) < (NE : Int) := by omega
      have hlt0' : k0 < E.length := by rw [← HNE.out]; exact hlt0
      obtain ⟨b0, o0, rfl, hb0, hr0⟩ := (HE.out.later BW0.out).resolve_left (by rw [← HNE.out]; omega)
      obtain ⟨Al0, ca0, A0, c0, z0, z1, z2, z3, z4, -, tr0⟩ := hr0 k0 hlt0'
      obtain ⟨hn99, hn1, hn2⟩ := CN.out k0 hlt0'
      rw [hn2] at z0
      have CG2 := Lib.hid (fun W (hW : Below wr.heap.size wr W) => CG1.out k0 hlt0' W Al0 ca0 A0 c0 (tr0.later hW))
      have CF2 := Lib.hid (fun W (hW : Below wr.heap.size wr W) => CF.out k0 hlt0' W Al0 ca0 A0 c0 (bt BW0.out hW) (tr0.later hW))
      have HTE := Lib.hid (takenE_take hlt0')
      obtain ⟨X, hX⟩ : ∃ X, X = E[k0].2 := ⟨_, rfl⟩
      rw [← hX] at z1 z2 z3 z4 CG2 CF2 hn99 hn1 HTE
      obtain ⟨us, hus⟩ : ∃ us, us = varsOf X := ⟨_, rfl⟩
      rw [← hus] at CF2 hn99 hn1 HTE
      have HRG0 := Lib.hid hn1
      have hx9 := heap_alloc_new wr (.cells #[.slice Al0 0 ca0, .int .i64 X.k, .string X.nm, .int .i64 X.vr, .slice A0 X.args.length c0] SchT)
      obtain ⟨wE, hwE⟩ : ∃ z, z = wr.alloc (.cells #[.slice Al0 0 ca0, .int .i64 X.k, .string X.nm, .int .i64 X.vr, .slice A0 X.args.length c0] SchT) := ⟨_, rfl⟩
      rw [← hwE] at hx9
      have BE := Lib.hid (show Below wr.heap.size wr wE by rw [hwE]; exact below_alloc _ _)
      have HE9 := Lib.hid hx9
      have HWE := Lib.hid hwE
      clear hx9 hwE hr0 hb0 hn1 hn2 hX hus tr0
      go_wp2_with fail
      rw [← HWE.out]
      try go_wp2_with fail
      refine (CG2.out _ BE.out).mono ?_; rintro e w4 ⟨rfl, b4⟩
      have B4 := Lib.hid (bt BE.out b4)
      have h4 := (b4.block _ (Array.getElem?_eq_some_iff.1 HE9.out).1).trans HE9.out
      obtain ⟨⟨y0, y1, y2, y3, y4⟩, -⟩ := five_cells h4
      clear b4 h4 z0 z1 z2 z3 z4
      go_wp2_with fail
      refine (CF2.out _ B4.out).mono ?_; rintro e w6 ⟨Af, cf, rfl, if6, b6⟩
      have B6 := Lib.hid (bt B4.out b6)
      have IF6 := Lib.hid if6
      clear b6 if6 y0 y1 y2 y3 y4 CG2 CF2
      have F6 := Lib.hid (Frm.of_below B6.out (Nat.le_refl _) (· = M))
      have M6 := Lib.hid (MP0.out.below B6.out)
      obtain ⟨N, hN⟩ : ∃ N, N = us.length := ⟨_, rfl⟩
      rw [← hN] at hn99 ⊢
      have HN := Lib.hid hN
      clear hN
      go_wp2
      go_loopw [36] (fun i wr => ∃ (k nn : Nat) (f : Int → Option Int), k ≤ N ∧ i = .int .i64 k ∧ nn ≤ 100 * k0 + k ∧ Hid (MN wr M nn f) ∧ Hid (∀ x, (f x).isSome = true ↔ x ∈ takenE (E.take k0) ∨ x ∈ us.take k) ∧ Hid (∀ x y, f x = some y → 1 ≤ y ∧ y ≤ ((100 * k0 + k : Nat) : Int)) ∧ Hid (Frm w6 wr (· = M))) (fun i _ => N - (intOf i).toNat)
      case atStart => exact ⟨0, nn0, f0, by omega, by first | rfl | trivial, by omega, M6, Lib.hid (fun x => by rw [PA0.out x]; simp), Lib.hid (fun x y h => by have := PB0.out x y h; omega), Lib.hid (Frm.refl _ _)⟩
      case round =>
        obtain ⟨k, nn, f, hk, rfl, hnn, MP, PA, PB, FM⟩ := hrel
        by_cases hlt : k < N
        · have hlti : (k : Int) < (N : Int) := by omega
          have hlt' : k < us.length := by rw [← HN.out]; exact hlt
          have hrange := HRG0.out _ (List.getElem_mem hlt')
          have HT := Lib.hid (show us.take (k + 1) = us.take k ++ [us[k]] from List.take_succ_eq_append_getElem hlt')
          obtain ⟨b, o, rfl, hb, hr⟩ : ∃ b o, Af = some ⟨b, o, none⟩ ∧ b < w6.heap.size ∧ ∀ j (h : j < us.length), w6.cell? ⟨b, o + j, none⟩ = some (.int .i64 us[j]) := IF6.out.resolve_left (by rw [← HN.out]; omega)
          have hbM : b ≠ M := fun e => by
            have h1 := hr k hlt'
            obtain ⟨D, hown, _⟩ := M6.out
            have h2 := M6.out.no_row (cur := #[]) (t := 0) (fr := (0, 0))
            subst e
            unfold World.cell? at h1
            split at h1
            · rename_i cur t fr heq
              exact M6.out.no_row heq
            · cases h1
          have x0 : wr.cell? ⟨b, o + k, none⟩ = some (.int .i64 us[k]) := (World.cell?_of_block (FM.out.block b hb hbM)).trans (hr k hlt')
          obtain ⟨x, hx⟩ : ∃ x, x = us[k] := ⟨_, rfl⟩
          rw [← hx] at x0 hrange HT
          obtain ⟨D, hown, hD, hhas, hat⟩ := MP.out
          have hkey := Maps.keyOf_int_mk (P := Tryd.prog) Tryd.underlying3 (wf_int (show -9223372036854775808 ≤ x by omega) (by omega))
          have CLB : Hid (∀ cc : Int, D.atKey (.int .i64 x) (.lit (.int .i64 0)) = .lit (.int .i64 cc) → 0 ≤ cc ∧ cc ≤ ((100 * k0 + k : Nat) : Int)) := Lib.hid (fun cc hcc => by
            cases hf : f x with
            | none =>
              have hh : Maps.has D (.int .i64 x) = false := by rw [hhas x, hf]; rfl
              rw [Maps.atKey_of_not_has hh] at hcc
              injection hcc with hcc; injection hcc with _ hcc
              omega
            | some y =>
              have := mn_found (hat x y hf) hcc
              have := PB.out x y hf
              omega)
          clear hr hb hbM hx
          go_upto_region 12 with (fail)
          refine wp_region_lit ?_
          (refine wpList_step (fun K hK => ?_); rw [if_pos (by rfl)]; go_simp; refine hK _ _ ?_; clear hK K; (try simp only [Act.put, List.setIfInBounds_toArray, List.set_cons_zero, List.set_cons_succ]))
          (refine wpList_step (fun K hK => ?_); rw [if_pos (by rfl)]; go_simp; refine hK _ _ ?_; clear hK K; (try simp only [Act.put, List.setIfInBounds_toArray, List.set_cons_zero, List.set_cons_succ]))
          refine wpList_lookup_own_int _ rfl (.tmp 40) (.tmp 41) 52 rfl TI TI .i64 law3 Tryd.underlying52 Tryd.underlying3 (zero3 _) M nn D rfl hown _ _ rfl hkey ?_
          intro cL hatc hwc
          (try simp only [Act.put, List.setIfInBounds_toArray, List.set_cons_zero, List.set_cons_succ])
          obtain ⟨cl0, cl1⟩ := CLB.out cL hatc
          have wc : IntKind.i64.wrap (cL + 1) = cL + 1 := IntWalk.i64_in _ (by omega)
          (refine wpList_step (fun K hK => ?_); rw [if_pos (by rfl)]; go_simp; refine hK _ _ ?_; clear hK K; (try simp only [Act.put, List.setIfInBounds_toArray, List.set_cons_zero, List.set_cons_succ]))
          refine wpList_step (fun K hK => ?_)
          rw [if_pos (by rfl)]
          refine wp_map_put (.tmp 40) (.tmp 41) (.tmp 43) 52 rfl TI TI law3 Tryd.underlying52 _ M nn D rfl hown (by unfold maxLen; omega) _ _ _ rfl rfl hkey _ [] (plain_i64 (cL + 1) (by omega) (by omega)) ?_
          intro w7 hown7 gr7
          have MP7 := Lib.hid (mn_step hD hhas hat hown7)
          have PA7 : Hid (∀ z, (putF f x (cL + 1) z).isSome = true ↔ z ∈ takenE (E.take k0) ∨ z ∈ us.take (k + 1)) := Lib.hid (fun z => by
            unfold putF
            rw [HT.out, List.mem_append, List.mem_singleton]
            by_cases e : z = x
            · rw [if_pos e]; simp [e]
            · rw [if_neg e, PA.out z]; simp [e])
          have PB7 : Hid (∀ z y, putF f x (cL + 1) z = some y → 1 ≤ y ∧ y ≤ ((100 * k0 + (k + 1) : Nat) : Int)) := Lib.hid (fun z y h => by
            unfold putF at h
            split at h
            · injection h with h; omega
            · have := PB.out z y h; omega)
          have FM7 : Hid (Frm w6 w7 (· = M)) := Lib.hid (FM.out.trans (Frm.of_grown gr7 (fun q hq => by injection hq with hq; exact hq.symm)))
          refine hK _ _ ?_
          clear hK K hown7 gr7 hown hD hhas hat CLB MP PA PB FM hatc hwc hkey
          (try simp only [Act.put, List.setIfInBounds_toArray, List.set_cons_zero, List.set_cons_succ])
          go_wp2
          go_roundw
          case rel => exact ⟨k + 1, nn + 1, _, by omega, by go_num, by omega, MP7, PA7, PB7, FM7⟩
          case measure => simp [intOf]; omega
        · obtain rfl : k = N := by omega
          have hge : ¬ (k : Int) < (k : Int) := by omega
          have PAF : Hid (∀ x, (f x).isSome = true ↔ x ∈ takenE (E.take (k0 + 1))) := Lib.hid (fun x => by rw [PA.out x, HTE.out x, HN.out, List.take_length])
          have PBF : Hid (∀ x y, f x = some y → 1 ≤ y ∧ y ≤ ((100 * (k0 + 1) : Nat) : Int)) := Lib.hid (fun x y h => by have := PB.out x y h; omega)
          go_wp2
          go_roundw
          case rel => exact ⟨k0 + 1, nn, f, by omega, by go_num, by omega, MP, PAF, PBF, Lib.hid ((FM0.out.trans F6.out).trans FM.out)⟩
          case measure => simp [intOf]; omega
    · obtain rfl : k0 = NE := by omega
      have hge0 : ¬ (k0 : Int) < (k0 : Int) := by omega
      have PF : Hid (∀ x, (f0 x).isSome = true ↔ x ∈ tk) := Lib.hid (fun x => by rw [PA0.out x, HNE.out, List.take_length, HTK.out])
      have P1 : Hid (∀ x y, f0 x = some y → 1 ≤ y) := Lib.hid (fun x y h => (PB0.out x y h).1)
      have HMW := MP0
      obtain ⟨nn, hnn⟩ : ∃ q, q = nn0 := ⟨_, rfl⟩
      rw [← hnn] at HMW
      obtain ⟨f, hff⟩ : ∃ q, q = f0 := ⟨_, rfl⟩
      rw [← hff] at HMW PF P1
      have TW2 := Lib.hid ((FM0.out.block w.heap.size (by have := Q2.out; omega) (by show ¬ w.heap.size = M; have := QM.out; omega)).trans T2.out)
      have RW2 := Lib.hid ((FM0.out.block (w.heap.size + 1) (by have := Q2.out; omega) (by show ¬ w.heap.size + 1 = M; have := QM.out; omega)).trans R2.out)
      have BW2 := BW0
      clear hnn hff MP0 PA0 PB0 CG1 CF CN HNE
      obtain ⟨z0, z1, z2, z3⟩ := cell4 TW2.out
      go_wp2_with fail
      refine (CA.out _ BW2.out).mono ?_; rintro e w3 ⟨A3, c3, rfl, r3, b3⟩
      obtain ⟨w4, hw4⟩ : ∃ z, z = w3.alloc (.cells #[.slice none 0 0, .int .i64 V.k, .string V.nm, .int .i64 V.vr, .slice A3 V.args.length c3] SchT) := ⟨_, rfl⟩
      have hB4 : Below w3.heap.size w3 w4 := by rw [hw4]; exact below_alloc _ _
      have B4 := Lib.hid (bt b3 hB4)
      have HC4 := Lib.hid (show w4.heap[w3.heap.size]? = some (.cells #[.slice none 0 0, .int .i64 V.k, .string V.nm, .int .i64 V.vr, .slice A3 V.args.length c3] SchT (0, 0)) by rw [hw4]; exact heap_alloc_new w3 _)
      have R4 := Lib.hid (r3.later hB4)
      have R4' := Lib.hid (r3.move (P' := fun b => wr.heap.size ≤ b ∧ b < w3.heap.size) (fun b hb hp => ⟨rfl, hp, hb⟩) (Nat.le_refl _))
      have Q34 := Lib.hid (show wr.heap.size ≤ w3.heap.size ∧ w3.heap.size < w4.heap.size from ⟨b3.size, by rw [hw4]; simp⟩)
      have HW4 := Lib.hid hw4
      have HVV := Lib.hid (CV.out w4 A3 c3 (R4.out.weak (fun _ _ _ => trivial)))
      clear b3 r3 hw4 hB4 CA CV z0 z1 z2 z3
      obtain ⟨bc, hbc⟩ : ∃ b, b = w3.heap.size := ⟨_, rfl⟩
      unfold tv
      go_wp2_with fail
      rw [← HW4.out, ← hbc]
      rw [← hbc] at HC4 Q34 R4'
      refine HVV.out.mono ?_; rintro e w5 ⟨A5, c5, rfl, o5, b5⟩
      have O5 := Lib.hid o5.out
      have HC5 := Lib.hid ((b5.out.block bc Q34.out.2).trans HC4.out)
      have Q5 := Lib.hid (show wr.heap.size ≤ bc ∧ bc < w4.heap.size ∧ w4.heap.size ≤ w5.heap.size from ⟨Q34.out.1, Q34.out.2, b5.out.size⟩)
      have BB5 := Lib.hid (show Below wr.heap.size wr w5 from bt B4.out b5.out)
      have QW := Lib.hid (show w.heap.size + 2 ≤ wr.heap.size by have := QM.out; have := HMW.out.lt; omega)
      have M5 := Lib.hid (HMW.out.below BB5.out)
      have T5 := Lib.hid (show TRow w5 (fun b => wr.heap.size ≤ b ∧ b < bc) A3 V.args from R4'.out.move (fun b hb hp => ⟨((show Below w3.heap.size w3 w5 from (by rw [HW4.out] at b5; exact bt (below_alloc _ _) b5.out)).block b hb), hp⟩) (by have := Q5.out; rw [hbc] at this; omega))
      have QB := Lib.hid (show w.heap.size + 2 ≤ bc ∧ M < bc ∧ bc < w5.heap.size by have := QW.out; have := Q5.out; have := HMW.out.lt; omega)
      have T5 := Lib.hid (T5.out.weak (P' := fun b => w.heap.size + 2 ≤ b ∧ b < bc) (fun b _ hp => ⟨Nat.le_trans QW.out hp.1, hp.2⟩))
      have R5 := Lib.hid ((BB5.out.block (w.heap.size + 1) (by have := QW.out; omega)).trans RW2.out)
      have BW5 := Lib.hid (bt BW2.out BB5.out)
      obtain ⟨N, hN⟩ : ∃ N, N = vs.length := ⟨_, rfl⟩
      rw [← hN] at hvf O5 ⊢
      have HN := Lib.hid hN
      clear o5 b5 HVV hN hbc
      obtain ⟨⟨z0, z1, z2, z3, z4⟩, -⟩ := five_cells HC5.out
      go_wp2
      clear z0 z1 z2 z3 z4
      go_loopw [54] (fun i wr => ∃ (k m : Nat) (Al : Option Addr) (ca : Nat), k ≤ N ∧ m ≤ k ∧ i = .int .i64 k ∧ Hid (wr.heap[bc]? = some (.cells #[.slice Al m ca, .int .i64 V.k, .string V.nm, .int .i64 V.vr, .slice A3 V.args.length c3] SchT (0, 0))) ∧ Hid (wr.ownsRow w5.heap.size TI 1 (.slice Al m ca) m (ivs (flt tk vs k))) ∧ Hid (Frm w5 wr (· = bc))) (fun i _ => N - (intOf i).toNat)
      case atStart => exact ⟨0, 0, none, 0, by omega, by omega, by first | rfl | trivial, HC5, Lib.hid (World.ownsRow_nil _ _ _ _), Lib.hid (Frm.refl _ _)⟩
      case round =>
        obtain ⟨k, m, Al, ca, hk, hmk, rfl, HC, HO, FM⟩ := hrel
        have hBo := FM.out.size
        have hnb : ∀ q, (Value.slice Al m ca).ownBlock = some q → q ≠ bc := fun q hq e => by
          have := (HO.out.lt q hq).1
          have := QB.out
          omega
        by_cases hlt : k < N
        · have hlti : (k : Int) < (N : Int) := by omega
          have hlt' : k < vs.length := by rw [← HN.out]; exact hlt
          have OV := own_frm O5.out FM.out (fun q hq e => by have := (O5.out.lt q hq).1; have := Q5.out; have : q = bc := e; omega)
          obtain ⟨b, o, rfl, hb, hr⟩ : ∃ b o, A5 = some ⟨b, o, none⟩ ∧ b < wr.heap.size ∧ ∀ j (h : j < vs.length), wr.cell? ⟨b, o + j, none⟩ = some (.int .i64 vs[j]) := (own_irow OV HN.out).resolve_left (by rw [← HN.out]; omega)
          have x0 := hr k hlt'
          have hrange := HRG.out _ (List.getElem_mem hlt')
          by_cases hin : vs[k] ∈ tk
          · have HT := Lib.hid (flt_no hlt' hin)
            obtain ⟨x, hx⟩ : ∃ x, x = vs[k] := ⟨_, rfl⟩
            rw [← hx] at x0 hrange hin
            obtain ⟨y, hfy⟩ := Option.isSome_iff_exists.1 ((PF.out x).2 hin)
            have hy1 := P1.out x y hfy
            have MW : MN wr M nn f := M5.out.frm FM.out (by show ¬ M = bc; have := QB.out; omega)
            obtain ⟨D, hown, hD, hhas, hat⟩ := MW
            have hkey := Maps.keyOf_int_mk (P := Tryd.prog) Tryd.underlying3 (wf_int (show -9223372036854775808 ≤ x by omega) (by omega))
            have CLY := Lib.hid (fun (cc : Int) (hcc : D.atKey (.int .i64 x) (.lit (.int .i64 0)) = .lit (.int .i64 cc)) => mn_found (hat x y hfy) hcc)
            have qy : (y == 0) = false := beq_eq_false_iff_ne.2 (by omega)
            have HOF : Hid (wr.ownsRow w5.heap.size TI 1 (.slice Al m ca) m (ivs (flt tk vs (k + 1)))) := Lib.hid (by rw [HT.out]; exact HO.out)
            clear hr hb hx hD hhas hat hfy hnb OV HO
            go_wp2_with (first
              | (at_lookup; refine wpList_lookup_own_int _ rfl _ _ 52 rfl TI TI .i64 law3 Tryd.underlying52 Tryd.underlying3 (zero3 _) M nn D rfl hown _ _ rfl hkey ?_; intro cL hatc hwc; obtain rfl := CLY.out cL hatc; clear hatc hwc CLY)
              | fail)
            go_roundw
            case rel => exact ⟨k + 1, m, _, _, by omega, by omega, by go_num, HC, HOF, FM⟩
            case measure => simp [intOf]; omega
          · have HT := Lib.hid (flt_yes hlt' hin)
            obtain ⟨x, hx⟩ : ∃ x, x = vs[k] := ⟨_, rfl⟩
            rw [← hx] at x0 hrange HT hin
            have MW : MN wr M nn f := M5.out.frm FM.out (by show ¬ M = bc; have := QB.out; omega)
            obtain ⟨D, hown, hD, hhas, hat⟩ := MW
            have hkey := Maps.keyOf_int_mk (P := Tryd.prog) Tryd.underlying3 (wf_int (show -9223372036854775808 ≤ x by omega) (by omega))
            have hh : Maps.has D (.int .i64 x) = false := by rw [hhas x]; cases hq : f x with | none => rfl | some y => exact absurd ((PF.out x).1 (by rw [hq]; rfl)) hin
            have CL0 : Hid (∀ cc : Int, D.atKey (.int .i64 x) (.lit (.int .i64 0)) = .lit (.int .i64 cc) → cc = 0) := Lib.hid (fun cc hcc => by
              rw [Maps.atKey_of_not_has hh] at hcc
              injection hcc with hcc; injection hcc with _ hcc; exact hcc.symm)
            have z0 := (five_cells HC.out).1.1
            have HNB := Lib.hid hnb
            have hcl : (wr.alloc (.cells #[.int .i64 x] TI)).heap[bc]? = some (.cells #[.slice Al m ca, .int .i64 V.k, .string V.nm, .int .i64 V.vr, .slice A3 V.args.length c3] SchT (0, 0)) := by
              rw [Below.heap_alloc wr _ _ (Array.getElem?_eq_some_iff.1 HC.out).1]; exact HC.out
            have HCL := Lib.hid hcl
            have z1 := (five_cells hcl).1.1
            clear hr hb hx hD hhas hat hcl hnb OV
            go_wp2_with (first
              | (at_lookup; refine wpList_lookup_own_int _ rfl _ _ 52 rfl TI TI .i64 law3 Tryd.underlying52 Tryd.underlying3 (zero3 _) M nn D rfl hown _ _ rfl hkey ?_; intro cL hatc hwc; obtain rfl := CL0.out cL hatc; clear hatc hwc CL0)
              | (at_builtin; refine wpList_append_lies _ rfl (.tmp 63) (.tmp 65) 32 rfl w5.heap.size TI i0 (.int .i64 0) 1 8 Tryd.underlying32 hi0 hz0 hz1 hz2 rfl (by decide) (.slice Al m ca) m (ivs (flt tk vs k)) rfl (HO.out.alloc _) ⟨wr.heap.size, 0, none⟩ 1 1 [.int .i64 x] rfl rfl (World.news_of_block (cs := #[.int .i64 x]) (t := TI) (fr := (0, 0)) (heap_alloc_new _ _)) (by simp [Value.oneCell']) (by omega) (by unfold maxLen; omega) (by omega) (by simp; omega) (wr.heap.size + 1) (by simp) ?_; intro g cap w7 own7 gr7 at7 hlt7; have h7 : w7.heap[bc]? = some (.cells #[.slice Al m ca, .int .i64 V.k, .string V.nm, .int .i64 V.vr, .slice A3 V.args.length c3] SchT (0, 0)) := ((gr7.block bc (by simp; have := (Array.getElem?_eq_some_iff.1 HC.out).1; omega) (fun e => HNB.out bc e.symm rfl)).trans HCL.out); have z7 := (five_cells h7).1.1; have f7 := (five_cells h7).2.1)
              | fail)
            have hgne : (Value.slice (some ⟨g, 0, none⟩) (m + 1) cap).ownBlock ≠ some bc := fun e => by
              obtain ⟨cur, hc⟩ := own_type own7 e
              rw [h7] at hc; injection hc with hc; injection hc with _ hc; cases hc
            have fs : Frm w7 (w7.setCell ⟨bc, 0, none⟩ (.slice (some ⟨g, 0, none⟩) (m + 1) cap)) (· = bc) := frm_set 0 _ rfl
            have HC8 : Hid ((w7.setCell ⟨bc, 0, none⟩ (.slice (some ⟨g, 0, none⟩) (m + 1) cap)).heap[bc]? = some (.cells #[.slice (some ⟨g, 0, none⟩) (m + 1) cap, .int .i64 V.k, .string V.nm, .int .i64 V.vr, .slice A3 V.args.length c3] SchT (0, 0))) := Lib.hid (by simp [World.setCell, Array.getElem?_modify, h7])
            have HO8 : Hid ((w7.setCell ⟨bc, 0, none⟩ (.slice (some ⟨g, 0, none⟩) (m + 1) cap)).ownsRow w5.heap.size TI 1 (.slice (some ⟨g, 0, none⟩) (m + 1) cap) (m + 1) (ivs (flt tk vs (k + 1)))) := Lib.hid (by rw [HT.out]; exact own_frm own7 fs (fun q hq e => hgne (e ▸ hq)))
            have FM8 : Hid (Frm w5 (w7.setCell ⟨bc, 0, none⟩ (.slice (some ⟨g, 0, none⟩) (m + 1) cap)) (· = bc)) := Lib.hid (((FM.out.trans (Frm.of_below (below_alloc wr _) (Nat.le_refl _) _)).trans' (Frm.of_grown (R := fun q => (Value.slice Al m ca).ownBlock = some q) gr7 (fun q h => h)) (fun q hq h => by have := (HO.out.lt q h).1; omega)).trans fs)
            go_roundw
            case rel => exact ⟨k + 1, m + 1, _, _, by omega, by omega, by go_num, HC8, HO8, FM8⟩
            case measure => simp [intOf]; omega
        · obtain rfl : k = N := by omega
          have HOw := Lib.hid (show all = ((flt tk vs k).mergeSort fun x y => decide (x ≤ y)) by rw [HALL.out, HN.out]; unfold flt; rw [List.take_length])
          have HML := Lib.hid (show m = (flt tk vs k).length by have := HO.out.1; rw [ivs_len] at this; omega)
          have hge : ¬ (k : Int) < (k : Int) := by omega
          have z0 := (five_cells HC.out).1.1
          have SO := Lib.hid (sort_gen (w := wr) (by rw [← HML.out]; omega) HO.out)
          have HNB := Lib.hid hnb
          have LT := Lib.hid (fun q hq => (HO.out.lt q hq).1)
          clear hnb
          go_wp2_with fail
          refine SO.out.mono ?_; rintro e w9 ⟨rfl, gr9, own9⟩
          rw [← HOw.out] at own9
          have h9 : w9.heap[bc]? = some (.cells #[.slice Al m ca, .int .i64 V.k, .string V.nm, .int .i64 V.vr, .slice A3 V.args.length c3] SchT (0, 0)) := (gr9.block bc (Array.getElem?_eq_some_iff.1 HC.out).1 (fun e => HNB.out bc e.symm rfl)).trans HC.out
          have hr9 : w9.heap[w.heap.size + 1]? = some (.cells #[.slice none 0 0, .int .i64 0, .string ⟨#[]⟩, .int .i64 0, .slice none 0 0] SchT (0, 0)) := by
            have q1 := QB.out
            rw [gr9.block _ (by omega) (fun e => by have := LT.out _ e.symm; omega), FM.out.block _ (by omega) (by show ¬ w.heap.size + 1 = bc; omega)]
            exact R5.out
          have B9 : Below w.heap.size w w9 := (BW5.out.trans (FM.out.below (fun q hq => by have := QB.out; have : q = bc := hq; omega) (by have := QB.out; omega))).grown gr9 (by have := QB.out; omega) (fun q hq => by have := LT.out q hq; have := QB.out; omega)
          have T9 : TRow w9 (fun b => w.heap.size + 2 ≤ b ∧ b < bc) A3 V.args := T5.out.move (fun b hb hp => ⟨(gr9.block b (by omega) (fun e => by have := LT.out _ e.symm; omega)).trans (FM.out.block b hb (by show ¬ b = bc; omega)), hp⟩) (Nat.le_trans hBo gr9.size)
          obtain ⟨⟨a0, a1, a2, a3, a4⟩, -⟩ := five_cells h9
          obtain ⟨⟨y0, y1, y2, y3, y4⟩, k0, k1, k2, k3, k4⟩ := five_cells hr9
          obtain ⟨t0, t1, t2, t3, t4⟩ := set5_cells (.slice Al m ca) (.int .i64 V.k) (.string V.nm) (.int .i64 V.vr) (.slice A3 V.args.length c3) hr9
          have M1 := Lib.hid (set5_below (.slice Al m ca) (.int .i64 V.k) (.string V.nm) (.int .i64 V.vr) (.slice A3 V.args.length c3) B9 (Nat.le_succ w.heap.size))
          have M2 := Lib.hid (T9.move (w' := set5 w9 (w.heap.size + 1) (.slice Al m ca) (.int .i64 V.k) (.string V.nm) (.int .i64 V.vr) (.slice A3 V.args.length c3)) (P' := (w.heap.size ≤ ·)) (fun b _ hp => ⟨set5_keep w9 (w.heap.size + 1) _ _ _ _ _ b (by omega), by omega⟩) (by rw [set5_size]; exact Nat.le_refl _))
          have M3 := Lib.hid (own_irow (own_frm own9 (set5_frm w9 (w.heap.size + 1) (.slice Al m ca) (.int .i64 V.k) (.string V.nm) (.int .i64 V.vr) (.slice A3 V.args.length c3)) (fun q hq e => by have h1 := LT.out q hq; have h2 := QB.out; have h3 : q = w.heap.size + 1 := e; omega)) (by have := own9.1; rw [ivs_len] at this; omega))
          have M4 := Lib.hid (show ∀ b o f, Al = some ⟨b, o, f⟩ → w.heap.size ≤ b from fun b o f e => by subst e; have h1 := LT.out b rfl; have h2 := QB.out; omega)
          have HLL := Lib.hid (show all.length = m by have := own9.1; rw [ivs_len] at this; omega)
          clear gr9 own9 h9 hr9 B9 T9 SO z0
          go_wp2
          (try simp only [Exit.inBlock, Exit.then])
          refine bodyPost_ret (by simp [results, Tryd.results14, go_sem, t0, t1, t2, t3, t4]; try rfl) rfl ?_
          exact ⟨Al, ca, A3, c3, by rw [HLL.out]; rfl, M3.out, M4.out, M2.out, M1.out⟩
end Go.Proofs.YtifopogkbjhkjaaDoor
