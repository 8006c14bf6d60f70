import Derived.Test.YtifopogkbjhkjaaGreatDoorYr
namespace Go.Proofs.YtifopogkbjhkjaaGreatDoor
open Go.ChangeShapes Go.WideShapes Go.ChangeAt Go.RowKit Go.WideMaps
set_option linter.unusedVariables false
set_option linter.unusedSimpArgs false
theorem cnt_top (V : TT) : ∀ m : Int, 0 ≤ m → 1 ≤ cnt V m ∧ cnt V m ≤ m + 1 := by
  refine TT.rec (motive_1 := fun V => ∀ m : Int, 0 ≤ m → 1 ≤ cnt V m ∧ cnt V m ≤ m + 1) (motive_2 := fun l => ∀ n m : Int, 0 ≤ m → n ≤ m + 1 → n ≤ cntTL l n m ∧ cntTL l n m ≤ m + 1) ?_ ?_ ?_ V
  · intro k nm vr args ih m h0
    rw [cnt]
    exact ih 1 m h0 (by omega)
  · intro n m h0 h; rw [cntTL]; omega
  · intro a l ia il n m h0 h
    rw [cntTL]
    split
    · omega
    · have h1 := ia (m - n) (by omega)
      have h2 := il (n + cnt a (m - n)) m h0 (by omega)
      omega
def CoB (w : World) (args : List TT) (most : Int) (n i : Value) (wr : World) : Prop := ∃ (k : Nat) (q : Int), k ≤ args.length ∧ i = .int .i64 k ∧ n = .int .i64 q ∧ 1 ≤ q ∧ q ≤ 1001 ∧ Hid (q ≤ most + 1 ∧ cntTL args 1 most = cntTL (args.drop k) q most) ∧ Hid (Below w.heap.size w wr)
set_option maxRecDepth 100000 in
set_option maxHeartbeats 4000000 in
theorem count_big : ∀ (d : Nat) (V : TT) (v : Value) (most : Int) (w : World), bigT d V = false → 0 ≤ most → most ≤ 1000 → TIn w any0 V v → Calls Tryz.prog 67 #[v, .int .i64 most] w fun e w' => e = .returned (.int .i64 (cnt V most)) ∧ Below w.heap.size w w' := by
  intro d
  induction d with
  | zero => intro V v most w h; cases h
  | succ d ih =>
    intro V v most w hbg hm0 hm1 ⟨A, c, hv, hA⟩
    obtain ⟨hl4, -, b3⟩ := bigT_parts hbg
    subst hv
    rw [cnt_eq]
    have HI : Hid (∀ (V : TT) (v : Value) (most : Int) (w : World), bigT d V = false → 0 ≤ most → most ≤ 1000 → TIn w any0 V v → Calls Tryz.prog 67 #[v, .int .i64 most] w fun e w' => e = .returned (.int .i64 (cnt V most)) ∧ Below w.heap.size w w') := Lib.hid (fun V v most w => ih V v most w)
    have HB := Lib.hid b3
    have HA := Lib.hid hA
    unfold tv
    obtain ⟨args, ha⟩ : ∃ l, l = V.args := ⟨_, rfl⟩
    rw [← ha] at HA HB hl4 ⊢
    clear ih hA b3 hbg ha
    have ST : Hid (Below w.heap.size w (w.alloc (.cells #[.int .i64 V.k, .string V.nm, .int .i64 V.vr, .slice A args.length c] 24))) := Lib.hid (below_alloc _ _)
    go_enter Tryz.func67, Tryz.ntmps67
    go_wp2
    go_loopw [5, 11] (fun n i wr => CoB w args most n i wr) (fun _ i _ => args.length - (intOf i).toNat)
    case atStart => exact ⟨0, 1, by omega, rfl, rfl, by omega, by omega, Lib.hid ⟨by omega, rfl⟩, ST⟩
    case round =>
      obtain ⟨k, q, hk, rfl, rfl, hq1, hq2, HQ, HW⟩ := hrel
      by_cases hlt : k < args.length
      · have hlti : (k : Int) < (args.length : Int) := by omega
        obtain ⟨b, o, rfl, hb, hr⟩ := HA.out.at (by omega)
        obtain ⟨A', c', x0, x1, x2, x3, hin⟩ := hr wr HW.out k hlt
        have HDROP : Hid (args.drop k = args[k] :: args.drop (k + 1)) := Lib.hid (List.drop_eq_getElem_cons hlt)
        by_cases hbr : most < q
        · have dq := decide_eq_true hbr
          have RES : Hid (cntTL args 1 most = q) := Lib.hid (by rw [HQ.out.2, HDROP.out, cntTL, if_pos hbr])
          have HW2 := Lib.hid (bt HW.out (below_alloc wr (.cells #[.int .i64 args[k].k, .string args[k].nm, .int .i64 args[k].vr, .slice A' args[k].args.length c'] 24)))
          clear hr hin hb HI
          go_wp2
          go_ret
          exact ⟨by rw [RES.out]; rfl, HW2.out⟩
        · have dq := decide_eq_false hbr
          have hcl := cnt_top args[k] (most - q) (by omega)
          have hq9 := HQ.out.1
          have CALL : Hid (∀ W, Below wr.heap.size wr W → Calls Tryz.prog 67 #[.agg #[.int .i64 args[k].k, .string args[k].nm, .int .i64 args[k].vr, .slice A' args[k].args.length c'], .int .i64 (most - q)] W fun e w' => e = .returned (.int .i64 (cnt args[k] (most - q))) ∧ Below W.heap.size W w') := Lib.hid (fun W hW => HI.out args[k] _ (most - q) W (HB.out _ (List.getElem_mem hlt)) (by omega) (by omega) (hin.later hW))
          obtain ⟨C, hC⟩ : ∃ z, z = cnt args[k] (most - q) := ⟨_, rfl⟩
          rw [← hC] at CALL hcl
          have NX : Hid (q + C ≤ most + 1 ∧ cntTL args 1 most = cntTL (args.drop (k + 1)) (q + C) most) := Lib.hid ⟨by omega, by rw [HQ.out.2, HDROP.out, cntTL, if_neg hbr, ← hC]⟩
          have hs1 : 1 ≤ q + C := by omega
          have hs2 : q + C ≤ 1001 := by omega
          have hm9 : 0 ≤ most - q := by omega
          clear hr hin hb HI hq9 HQ hC
          go_wp2_with fail
          refine (CALL.out _ (below_alloc wr _)).mono ?_; rintro e w1 ⟨rfl, hb1⟩
          have HW1 := Lib.hid (bt HW.out (bt (below_alloc wr (.cells #[.int .i64 args[k].k, .string args[k].nm, .int .i64 args[k].vr, .slice A' args[k].args.length c'] 24)) hb1))
          clear hb1 CALL x0 x1 x2 x3
          go_wp2
          go_roundw
          case rel => exact ⟨k + 1, q + C, by omega, by go_num, rfl, hs1, hs2, NX, HW1⟩
          case measure => simp [intOf]; omega
      · have RES : Hid (cntTL args 1 most = q) := Lib.hid (by rw [HQ.out.2, List.drop_of_length_le (by omega), cntTL])
        have hge : ¬ (k : Int) < (args.length : Int) := by omega
        go_wp2
        go_ret
        exact ⟨by rw [RES.out]; rfl, HW.out⟩
set_option maxRecDepth 100000 in
set_option maxHeartbeats 1000000 in
theorem size_big {d : Nat} {V : TT} {v : Value} {w : World} (hbg : bigT d V = false) (h : TIn w any0 V v) : Calls Tryz.prog 44 #[v] w fun e w' => e = .returned (.int .i64 (sizeT V)) ∧ Below w.heap.size w w' := by
  have CN := Lib.hid (fun W (hW : Below w.heap.size w W) => count_big d V v 500 W hbg (by omega) (by omega) (h.later hW))
  have hle := cnt_top V 500 (by omega)
  obtain ⟨A, c, rfl, -⟩ := h
  unfold sizeT
  obtain ⟨C, hC⟩ : ∃ z, z = cnt V 500 := ⟨_, rfl⟩
  rw [← hC] at CN hle ⊢
  unfold tv at CN ⊢
  clear hC hbg
  have h5 : C ≤ 501 := by omega
  rw [Int.min_eq_left h5]
  clear hle
  have hmin : min C 501 = C := Int.min_eq_left h5
  go_enter Tryz.func44, Tryz.ntmps44
  go_wp2_with fail
  refine (CN.out _ (below_alloc w _)).mono ?_; rintro e w1 ⟨rfl, hb1⟩
  have HB := Lib.hid (bt (below_alloc w (.cells #[.int .i64 V.k, .string V.nm, .int .i64 V.vr, .slice A V.args.length c] 24)) hb1)
  clear hb1 CN
  go_wp2
  go_ret
  exact ⟨rfl, HB.out⟩
set_option maxRecDepth 100000 in
set_option maxHeartbeats 2000000 in
theorem good_big {d : Nat} {V : TT} {v : Value} {w : World} (hbg : bigT d V = false) (h : TIn w any0 V v) : Calls Tryz.prog 21 #[v] w fun e w' => e = .returned (.bool (goodT V)) ∧ Below w.heap.size w w' := by
  have SZ := Lib.hid (fun W (hW : Below w.heap.size w W) => size_big hbg (h.later hW))
  have SH := Lib.hid (fun W (hW : Below w.heap.size w W) => shaped_any d V v W hbg (h.later hW))
  obtain ⟨A, c, rfl, -⟩ := h
  unfold goodT
  obtain ⟨Z, hZ⟩ : ∃ z, z = sizeT V := ⟨_, rfl⟩
  obtain ⟨S, hS⟩ : ∃ z, z = shp V := ⟨_, rfl⟩
  rw [← hZ] at SZ ⊢
  rw [← hS] at SH ⊢
  unfold tv at SZ SH ⊢
  have HB0 := Lib.hid (below_alloc w (.cells #[.int .i64 V.k, .string V.nm, .int .i64 V.vr, .slice A V.args.length c] 24))
  have HBX := Lib.hid (box4 w V A c V.args.length 24)
  clear hZ hS hbg
  by_cases h5 : Z ≤ 500
  · have d5 := decide_eq_true h5
    rw [d5]
    clear h5
    go_enter Tryz.func21, Tryz.ntmps21
    go_wp2_with fail
    refine (SZ.out _ HB0.out).mono ?_; rintro e w1 ⟨rfl, hb1⟩
    have B1 := Lib.hid (bt HB0.out hb1)
    have zc := cell4 ((hb1.block w.heap.size (by simp)).trans HBX.out)
    have z0 := zc.1; have z1 := zc.2.1; have z2 := zc.2.2.1; have z3 := zc.2.2.2
    clear zc hb1 SZ
    go_wp2_with fail
    refine (SH.out _ B1.out).mono ?_; rintro e w2 ⟨rfl, hb2⟩
    have B2 := Lib.hid (bt B1.out hb2)
    clear hb2 SH
    go_wp2
    go_ret
    exact ⟨by first | rfl | (cases S <;> rfl), B2.out⟩
  · have d5 := decide_eq_false h5
    rw [d5]
    clear h5
    go_enter Tryz.func21, Tryz.ntmps21
    go_wp2_with fail
    refine (SZ.out _ HB0.out).mono ?_; rintro e w1 ⟨rfl, hb1⟩
    have B1 := Lib.hid (bt HB0.out hb1)
    clear hb1 SZ
    go_wp2
    go_ret
    exact ⟨by first | rfl | (cases S <;> rfl), B1.out⟩
set_option maxRecDepth 100000 in
set_option maxHeartbeats 1000000 in
theorem Same_big {d : Nat} {V U : TT} {v u : Value} {w : World} (hd : d ≤ 1000) (hbg : bigT d V = false) (hbg2 : bigT d U = false) (h : TIn w any0 V v) (h2 : TIn w any0 U u) : Calls Tryz.prog 58 #[v, u] w fun e w' => (∃ b, e = .returned (.bool b) ∧ SmP b V U) ∧ Below w.heap.size w w' := by
  have SM := Lib.hid (fun W (hW : Below w.heap.size w W) => same_gen d V U v u 0 W hbg hbg2 (by omega) (by omega) (h.later hW) (h2.later hW))
  obtain ⟨A, c, rfl, -⟩ := h
  obtain ⟨A2, c2, rfl, -⟩ := h2
  unfold tv at SM ⊢
  have HB := Lib.hid (bt (below_alloc w (.cells #[.int .i64 V.k, .string V.nm, .int .i64 V.vr, .slice A V.args.length c] 24)) (below_alloc _ (.cells #[.int .i64 U.k, .string U.nm, .int .i64 U.vr, .slice A2 U.args.length c2] 24)))
  clear hbg hbg2
  go_enter Tryz.func58, Tryz.ntmps58
  go_wp2_with fail
  refine (SM.out _ HB.out).mono ?_; rintro e w1 ⟨⟨bb, rfl, hsm⟩, hb1⟩
  have HSM := Lib.hid hsm
  have B1 := Lib.hid (bt HB.out hb1)
  clear hb1 SM hsm
  go_wp2
  go_ret
  exact ⟨⟨bb, rfl, HSM.out⟩, B1.out⟩
end Go.Proofs.YtifopogkbjhkjaaGreatDoor
namespace Go.Proofs.YtifopogkbjhkjaaGreatDoor
open DR
open Go.ChangeShapes Go.WideShapes Go.ChangeAt Go.RowKit Go.WideMaps
set_option linter.unusedVariables false
set_option linter.unusedSimpArgs false
/-- what stands stays. -/
def SExt (St St' : List TT) : Prop := ∀ x, (stA St x).k ≠ 0 → stA St' x = stA St x
theorem UExt.s {u u' : US} (h : UExt u u') : SExt u.st u'.st := fun x hx => by
  obtain ⟨s, h1, h2, h3⟩ := h.ext
  exact h3 x (fun hs => hx (h2 x hs).1)
theorem res_ext {St St' : List TT} (hE : SExt St St') {t T T' : TT} (h : Res St t T) (h' : Res St' T T') : Res St' t T' := by
  induction h with
  | stop _ => exact h'
  | step hb _ ih => exact .step ⟨hb.1, by rw [hE _ hb.2]; exact hb.2⟩ (by rw [hE _ hb.2]; exact ih h')
theorem resF_ext {St St' : List TT} {rk rk' : Int → Nat} (hst : StOk St rk) (hst' : StOk St' rk') (hE : SExt St St') (t : TT) : resF St' t = resF St' (resF St t) :=
  res_fun (resF_res hst' t) (res_ext hE (resF_res hst t) (resF_res hst' _))
theorem app_ext {St St' : List TT} {rk rk' : Int → Nat} (hst : StOk St rk) (hst' : StOk St' rk') (hE : SExt St St') {t : TT} (ht : shp t = true) : apvF St' t = apvF St' (resF St t) := by
  rw [app_eq hst' ht, app_eq hst' (res_shp hst (resF_res hst t) ht), ← resF_ext hst hst' hE]
theorem head_args (T : TT) (l : List TT) (h : l.length = T.args.length) : headOk (.mk T.k T.nm T.vr l) = headOk T := by
  cases T with
  | mk k nm vr args =>
    have h : l.length = args.length := h
    have e : ∀ r : List TT, headOk (.mk k nm vr r) = (decide (1 ≤ k) && decide (k ≤ 7) && decide ((r.length : Int) = arT k) && ((!emptyB nm) == (k == 4)) && decide (0 ≤ vr) && decide (vr ≤ 1999) && (vr == 0 || k == 7)) := fun _ => rfl
    show headOk (.mk k nm vr l) = headOk (.mk k nm vr args)
    rw [e, e, h]
theorem app_shp {St : List TT} {rk : Int → Nat} (hst : StOk St rk) : ∀ t, shp t = true → shp (apvF St t) = true := by
  refine res_ind hst ?_
  intro t ht ih
  have hT := res_shp hst (resF_res hst t) ht
  rw [app_eq hst ht, shp_eq, head_args _ _ (by rw [List.length_map])]
  rw [shp_eq, Bool.and_eq_true] at hT
  rw [Bool.and_eq_true]
  refine ⟨hT.1, (shpL_all _).2 fun a ha => ?_⟩
  obtain ⟨b, hb, rfl⟩ := List.mem_map.1 ha
  exact ih b hb
theorem app_var {St : List TT} {rk : Int → Nat} (hst : StOk St rk) {t : TT} (ht : shp t = true) (h7 : (resF St t).k = 7) : apvF St t = resF St t := by
  have hT := res_shp hst (resF_res hst t) ht
  have ha := (shp_var hT h7).1
  rw [app_eq hst ht, ha, List.map_nil, ← ha, ← TT.eta]
/-- to replace more behind less is to replace more. -/
theorem app_app {St St' : List TT} {rk rk' : Int → Nat} (hst : StOk St rk) (hst' : StOk St' rk') (hE : SExt St St') : ∀ t, shp t = true → apvF St' (apvF St t) = apvF St' t := by
  refine res_ind hst ?_
  intro t ht ih
  have hT := res_shp hst (resF_res hst t) ht
  rw [app_ext hst hst' hE ht]
  by_cases h7 : (resF St t).k = 7
  · rw [app_var hst ht h7]
  · have hX := app_shp hst t ht
    have hXe := app_eq hst ht
    have nX : ¬ bnd St' (apvF St t) := fun h => h7 (by have := h.1; rw [hXe] at this; exact this)
    have nT : ¬ bnd St' (resF St t) := fun h => h7 h.1
    rw [app_eq hst' hX, app_eq hst' hT, resF_stop hst' nX, resF_stop hst' nT, hXe]
    simp only [TT.k, TT.nm, TT.vr, TT.args, List.map_map]
    cases h : resF St t with
    | mk k nm vr args =>
      simp only [TT.mk.injEq, true_and]
      rw [h] at ih
      exact List.map_congr_left (fun a ha => ih a ha)
theorem shp_eq7 {A B : TT} (hA : shp A = true) (hB : shp B = true) (a7 : A.k = 7) (b7 : B.k = 7) (hv : A.vr = B.vr) : A = B := by
  obtain ⟨h1, h2⟩ := shp_var hA a7
  obtain ⟨h3, h4⟩ := shp_var hB b7
  rw [A.eta, B.eta, a7, b7, hv, h1, h2, h3, h4]
theorem shp_vr {A : TT} (hA : shp A = true) (a7 : A.k ≠ 7) : A.vr = 0 := by
  rw [shp_eq, Bool.and_eq_true] at hA
  have h := hA.1
  unfold headOk at h
  simp only [Bool.and_eq_true, Bool.or_eq_true, beq_iff_eq] at h
  rcases h.2 with h | h
  · exact h
  · exact absurd h a7
/-- types that were made one stand for the same. -/
theorem uni_same : ∀ (d : Nat) (u : US) (a b : TT), UInv u → shp a = true → shp b = true → (uniF d u a b).1 = 0 → apvF (uniF d u a b).2.st a = apvF (uniF d u a b).2.st b := by
  intro d
  induction d with
  | zero => intro u a b _ _ _ h; rw [uniF] at h; cases h
  | succ d ih =>
    intro u a b h ha hb he
    have hx := uniF_ext (d + 1) u a b h ha hb
    obtain ⟨rk, hst⟩ := h.ok
    obtain ⟨rk', hst'⟩ := hx.inv.ok
    have hE := hx.s
    have sA := res_shp hst (resF_res hst a) ha
    have sB := res_shp hst (resF_res hst b) hb
    have nA := res_stop (resF_res hst a)
    have nB := res_stop (resF_res hst b)
    have kA := shp_k sA
    have kB := shp_k sB
    rw [app_ext hst hst' hE ha, app_ext hst hst' hE hb]
    have STD : ∀ {A B : TT}, A.k = 7 → 0 ≤ A.vr → B.k ≠ 0 → shp A = true → shp B = true → (uniF (d + 1) u a b).2 = standU u A.vr B → apvF (uniF (d + 1) u a b).2.st A = apvF (uniF (d + 1) u a b).2.st B := by
      intro A B a7 hv hk hA hB hq
      have e1 : stA (uniF (d + 1) u a b).2.st A.vr = B := by
        rw [hq]
        show stA (bindS u.st A.vr.toNat B) A.vr = B
        obtain ⟨m, hm⟩ : ∃ m : Nat, A.vr = m := ⟨A.vr.toNat, by omega⟩
        rw [hm, Int.toNat_natCast, stA_bind]
      have hb : bnd (uniF (d + 1) u a b).2.st A := ⟨a7, by rw [e1]; exact hk⟩
      rw [app_eq hst' hA, app_eq hst' hB, resF_bnd hst' hb, e1]
    revert he STD
    rw [uniF]
    split
    · intro he; cases he
    split
    · rename_i a7
      split
      · rename_i b7
        split
        · intro _ STD; exact STD a7 kA.2.1 kB.1 sA sB rfl
        · split
          · intro _ STD; exact (STD b7 kB.2.1 kA.1 sB sA rfl).symm
          · intro _ _
            rw [shp_eq7 sA sB a7 b7 (by omega)]
      · split
        · intro he; cases he
        · intro _ STD; exact STD a7 kA.2.1 kB.1 sA sB rfl
    · rename_i a7
      split
      · rename_i b7
        split
        · intro he; cases he
        · intro _ STD; exact (STD b7 kB.2.1 kA.1 sB sA rfl).symm
      · rename_i b7
        split
        · intro he; cases he
        · rename_i hkn
          intro he _
          have hkn : (resF u.st a).k = (resF u.st b).k ∧ (resF u.st a).nm = (resF u.st b).nm := ⟨Classical.byContradiction fun e => hkn (.inl e), Classical.byContradiction fun e => hkn (.inr e)⟩
          have HL : ∀ (l r : List TT) (u : US), UInv u → (∀ x ∈ l, shp x = true) → (∀ x ∈ r, shp x = true) → l.length = r.length → (uniL (uniF d) l r u).1 = 0 → UExt u (uniL (uniF d) l r u).2 ∧ l.map (apvF (uniL (uniF d) l r u).2.st) = r.map (apvF (uniL (uniF d) l r u).2.st) := by
            intro l
            induction l with
            | nil =>
              intro r u hu _ _ hlen _
              have : r = [] := List.eq_nil_of_length_eq_zero (by rw [← hlen]; rfl)
              subst this
              exact ⟨.refl hu, rfl⟩
            | cons x l il =>
              intro r u hu hl hr hlen
              cases r with
              | nil => cases hlen
              | cons y r =>
                have h1 := uniF_ext d u x y hu (hl x (by simp)) (hr y (by simp))
                rw [uniL]
                split
                · rename_i hz
                  intro he2
                  obtain ⟨h2, h3⟩ := il r _ h1.inv (fun z hz => hl z (List.mem_cons_of_mem _ hz)) (fun z hz => hr z (List.mem_cons_of_mem _ hz)) (by simpa using hlen) he2
                  refine ⟨h1.trans h2, ?_⟩
                  obtain ⟨r1, o1⟩ := h1.inv.ok
                  obtain ⟨r2, o2⟩ := h2.inv.ok
                  have e := ih u x y hu (hl x (by simp)) (hr y (by simp)) hz
                  rw [List.map_cons, List.map_cons, h3, ← app_app o1 o2 h2.s x (hl x (by simp)), ← app_app o1 o2 h2.s y (hr y (by simp)), e]
                · intro he2; rename_i hz; exact absurd he2 hz
          have hlen : (resF u.st a).args.length = (resF u.st b).args.length := by
            have h1 := sA; have h2 := sB
            rw [shp_eq, Bool.and_eq_true] at h1 h2
            have h3 := (head_var h1.1).2.2.2.2
            have h4 := (head_var h2.1).2.2.2.2
            rw [← hkn.1] at h4
            omega
          obtain ⟨h1, h2⟩ := HL _ _ u h (shp_head sA).2.2 (shp_head sB).2.2 hlen he
          obtain ⟨r1, o1⟩ := h1.inv.ok
          rw [app_eq o1 sA, app_eq o1 sB, resF_stop o1 (fun h => a7 h.1), resF_stop o1 (fun h => b7 h.1), h2, hkn.1, hkn.2, shp_vr sA a7, shp_vr sB b7]
/-! ### substitutions that are alike -/
theorem res_congr {St St' : List TT} (h : ∀ x, stA St' x = stA St x) {t T : TT} (hr : Res St t T) : Res St' t T := by
  induction hr with
  | stop hb => exact .stop (fun hb' => hb ⟨hb'.1, by rw [← h]; exact hb'.2⟩)
  | step hb _ ih => exact .step ⟨hb.1, by rw [h]; exact hb.2⟩ (by rw [h]; exact ih)
theorem resF_congr {St St' : List TT} (h : ∀ x, stA St' x = stA St x) : resF St' = resF St := by
  have e : ∀ t, (fun T => Res St' t T) = (fun T => Res St t T) := fun t => funext fun T => propext ⟨res_congr (fun x => (h x).symm), res_congr h⟩
  funext t
  unfold resF
  have e3 : ∀ (p q : TT → Prop) (hpq : p = q), (open Classical in if h : ∃ T, p T then Classical.choose h else t) = (open Classical in if h : ∃ T, q T then Classical.choose h else t) := by
    intro p q hpq; subst hpq; rfl
  have := e3 _ _ (e t)
  exact this
theorem app_congr {St St' : List TT} (h : ∀ x, stA St' x = stA St x) : apvF St' = apvF St := by
  funext t; unfold apvF; rw [resF_congr h]
theorem fsz_congr {St St' : List TT} (h : ∀ x, stA St' x = stA St x) : fsz St' = fsz St := by
  funext t; unfold fsz; rw [resF_congr h]
/-! ### sizes -/
theorem nodesL_map (f : TT → TT) : ∀ l : List TT, nodesL (l.map f) = sumL (fun a => nodes (f a)) l
  | [] => rfl
  | a :: r => by rw [List.map_cons, nodesL, sumL, nodesL_map f r]
theorem nodes_app {St : List TT} {rk : Int → Nat} (hst : StOk St rk) : ∀ t, shp t = true → nodes (apvF St t) = fsz St t := by
  refine res_ind hst ?_
  intro t ht ih
  rw [app_eq hst ht, fsz_eq hst ht, nodes, nodesL_map, sumL_congr ih]
/-- names of at most 60 bytes, at most four arguments. -/
def NB (V : TT) : Prop := ∃ d, bigT d V = false
theorem nb_parts {V : TT} (h : NB V) : V.args.length ≤ 4 ∧ V.nm.size ≤ 60 ∧ ∀ a ∈ V.args, NB a := by
  obtain ⟨d, h⟩ := h
  cases d with
  | zero => cases h
  | succ d =>
    obtain ⟨h1, h2, h3⟩ := bigT_parts h
    exact ⟨h1, h2, fun a ha => ⟨d, h3 a ha⟩⟩
theorem big_mk {d : Nat} {k vr : Int} {nm : ByteArray} {l : List TT} (h1 : l.length ≤ 4) (h2 : nm.size ≤ 60) (h3 : ∀ a ∈ l, bigT d a = false) : bigT (d + 1) (.mk k nm vr l) = false := by
  have e : bigT (d + 1) (TT.mk k nm vr l) = (decide (4 < l.length) || decide (60 < nm.size) || l.any (bigT d)) := rfl
  rw [e, decide_eq_false (by omega), decide_eq_false (by omega)]
  simp only [Bool.or_self, Bool.false_or]
  rw [List.any_eq_false]
  intro a ha
  rw [h3 a ha]; simp
theorem big_nodes : ∀ (d : Nat) (V : TT), bigT d V = false → bigT (nodes V) V = false
  | 0, V, h => by cases h
  | d + 1, V, h => by
    obtain ⟨h1, h2, h3⟩ := bigT_parts h
    have hn := nodes_eq V
    obtain ⟨m, hm⟩ : ∃ m, nodes V = m + 1 := ⟨nodes V - 1, by omega⟩
    rw [hm]
    rw [V.eta]
    refine big_mk h1 h2 (fun a ha => big_mono ?_ a (big_nodes d a (h3 a ha)))
    have := nodes_arg ha
    omega
theorem nb_big {V : TT} (h : NB V) {n : Nat} (hn : nodes V ≤ n) : bigT n V = false := by
  obtain ⟨d, h⟩ := h
  exact big_mono hn V (big_nodes d V h)
theorem nb_mk {k vr : Int} {nm : ByteArray} {l : List TT} (h1 : l.length ≤ 4) (h2 : nm.size ≤ 60) (h3 : ∀ a ∈ l, NB a) : NB (.mk k nm vr l) := by
  obtain ⟨D, hD⟩ := all_deep (p := fun a d => bigT d a = false) l (fun a ha => by obtain ⟨d, hd⟩ := h3 a ha; exact ⟨d, fun d' h => big_mono h a hd⟩)
  exact ⟨D + 1, big_mk h1 h2 (fun a ha => hD a ha D (Nat.le_refl _))⟩
/-- all that is held is so. -/
def NBS (St : List TT) : Prop := ∀ x, (stA St x).k ≠ 0 → NB (stA St x)
theorem nb_res {St : List TT} (hs : NBS St) {t T : TT} (h : Res St t T) (ht : NB t) : NB T := by
  induction h with
  | stop _ => exact ht
  | step hb _ ih => exact ih (hs _ hb.2)
/-- what holds of all that is held, of both types, and of a type's arguments, still holds. -/
theorem res_her {Q : TT → Prop} {St : List TT} (hs : ∀ x, (stA St x).k ≠ 0 → Q (stA St x)) {t T : TT} (h : Res St t T) (ht : Q t) : Q T := by
  induction h with
  | stop _ => exact ht
  | step hb _ ih => exact ih (hs _ hb.2)
theorem her_stand {Q : TT → Prop} {u : US} (hs : ∀ x, (stA u.st x).k ≠ 0 → Q (stA u.st x)) {v : Int} (hv : 0 ≤ v) {t : TT} (ht : Q t) : ∀ x, (stA (standU u v t).st x).k ≠ 0 → Q (stA (standU u v t).st x) := fun x hx => by
  obtain ⟨m, rfl⟩ : ∃ m : Nat, v = m := ⟨v.toNat, by omega⟩
  have e : (standU u (m : Int) t).st = bindS u.st m t := by unfold standU; rw [Int.toNat_natCast]
  rw [e] at hx ⊢
  by_cases h : x = m
  · subst h; rw [stA_bind]; exact ht
  · rw [stA_bind_ne _ _ h] at hx ⊢; exact hs x hx
theorem uni_her {Q : TT → Prop} (hQ : ∀ V, Q V → ∀ a ∈ V.args, Q a) : ∀ (d : Nat) (u : US) (a b : TT), UInv u → shp a = true → shp b = true → (∀ x, (stA u.st x).k ≠ 0 → Q (stA u.st x)) → Q a → Q b → ∀ x, (stA (uniF d u a b).2.st x).k ≠ 0 → Q (stA (uniF d u a b).2.st x) := by
  intro d
  induction d with
  | zero => intro u a b _ _ _ h _ _; exact h
  | succ d ih =>
    intro u a b h ha hb hs na nb
    obtain ⟨rk, hst⟩ := h.ok
    have sA := res_shp hst (resF_res hst a) ha
    have sB := res_shp hst (resF_res hst b) hb
    have kA := shp_k sA
    have kB := shp_k sB
    have nA := res_her hs (resF_res hst a) na
    have nB := res_her hs (resF_res hst b) nb
    have HL : ∀ (l r : List TT) (u : US), UInv u → (∀ x ∈ l, shp x = true ∧ Q x) → (∀ x ∈ r, shp x = true ∧ Q x) → (∀ x, (stA u.st x).k ≠ 0 → Q (stA u.st x)) → ∀ x, (stA (uniL (uniF d) l r u).2.st x).k ≠ 0 → Q (stA (uniL (uniF d) l r u).2.st x) := by
      intro l
      induction l with
      | nil => intro r u _ _ _ hu; exact hu
      | cons x l il =>
        intro r u hi hl hr hu
        cases r with
        | nil => exact hu
        | cons y r =>
          have h1 := ih u x y hi (hl x (by simp)).1 (hr y (by simp)).1 hu (hl x (by simp)).2 (hr y (by simp)).2
          have h2 := uniF_ext d u x y hi (hl x (by simp)).1 (hr y (by simp)).1
          rw [uniL]
          split
          · exact il r _ h2.inv (fun z hz => hl z (List.mem_cons_of_mem _ hz)) (fun z hz => hr z (List.mem_cons_of_mem _ hz)) h1
          · exact h1
    rw [uniF]
    split
    · exact hs
    split
    · split
      · split
        · exact her_stand hs kA.2.1 nB
        · split
          · exact her_stand hs kB.2.1 nA
          · exact hs
      · split
        · exact hs
        · exact her_stand hs kA.2.1 nB
    · split
      · split
        · exact hs
        · exact her_stand hs kB.2.1 nA
      · split
        · exact hs
        · exact HL _ _ u h (fun x hx => ⟨(shp_head sA).2.2 x hx, hQ _ nA x hx⟩) (fun x hx => ⟨(shp_head sB).2.2 x hx, hQ _ nB x hx⟩) hs
theorem uni_nb (d : Nat) (u : US) (a b : TT) (h : UInv u) (ha : shp a = true) (hb : shp b = true) (hs : NBS u.st) (na : NB a) (nb : NB b) : NBS (uniF d u a b).2.st :=
  uni_her (Q := NB) (fun V h a ha => (nb_parts h).2.2 a ha) d u a b h ha hb hs na nb
theorem nb_app {St : List TT} {rk : Int → Nat} (hst : StOk St rk) (hs : NBS St) : ∀ t, shp t = true → NB t → NB (apvF St t) := by
  refine res_ind hst ?_
  suffices H : ∀ t, shp t = true → (∀ a ∈ (resF St t).args, NB a → NB (apvF St a)) → NB t → NB (apvF St t) from H
  intro t ht ih nt
  have nT := nb_parts (nb_res hs (resF_res hst t) nt)
  rw [app_eq hst ht]
  refine nb_mk (by rw [List.length_map]; exact nT.1) nT.2.1 (fun a ha => ?_)
  obtain ⟨b, hb, rfl⟩ := List.mem_map.1 ha
  exact ih b hb (nT.2.2 b hb)
/-- a substitution between calls, whole. -/
structure SInv2 (St : List TT) : Prop where
  inv : SInv St
  nb : NBS St
  sz : ∀ x : Nat, x < 2000 → fsz St (varT (x : Int)) ≤ 500
theorem SInv2.same {St St' : List TT} (h : SInv2 St) (hl : St'.length ≤ 2000) (he : ∀ x, stA St' x = stA St x) : SInv2 St' :=
  ⟨h.inv.same hl he, fun x hx => by rw [he] at hx ⊢; exact h.nb x hx, fun x hx => by rw [fsz_congr he]; exact h.sz x hx⟩
theorem uniG_inv2 {St : List TT} (h : SInv2 St) {a b : TT} (na : NB a) (nb : NB b) : SInv2 (uniG St a b).2 := by
  unfold uniG
  split
  · rename_i hg
    have ha := good_shp hg.1
    have hb := good_shp hg.2
    have hu := undo_same h.inv ha hb
    have hx := uniQ_ext h.inv ha hb
    split
    · split
      · exact h.same hu.2 hu.1
      · rename_i hG
        refine ⟨⟨hx.1.ok, hx.1.zok⟩, uni_nb _ ⟨St, []⟩ a b h.inv.u ha hb h.nb na nb, fun x hx2 => ?_⟩
        obtain ⟨rk, hr⟩ := hx.1.ok
        show fsz (uniQ St a b).2.st (varT (x : Int)) ≤ 500
        by_cases hs : (uniQ St a b).2.set = []
        · rw [fsz_congr (fun y => hx.2.2 y (by rw [hs]; simp))]
          exact h.sz x hx2
        · by_cases hl : x < (uniQ St a b).2.st.length
          · have h1 : ¬ 500 < msz (uniQ St a b).2.st (varT (x : Int)) := fun e => hG ⟨hs, x, hl, e⟩
            unfold msz at h1
            omega
          · have hv : shp (varT (x : Int)) = true := shp_v hx2
            have : ¬ bnd (uniQ St a b).2.st (varT (x : Int)) := fun e => e.2 (stA_out hl)
            rw [fsz_eq hr hv, resF_stop hr this]
            show 1 + sumL _ [] ≤ 500
            simp [sumL]
    · exact h.same hu.2 hu.1
  · exact h
theorem sinv2_nil : SInv2 [] := by
  refine ⟨sinv_nil, fun x hx => ?_, fun x hx => ?_⟩
  · rw [show stA [] x = zeroT by rw [stA_get]; split <;> simp] at hx; exact absurd rfl hx
  · obtain ⟨rk, hr⟩ := sinv_nil.ok
    have hv : shp (varT (x : Int)) = true := shp_v hx
    rw [fsz_eq hr hv, resF_nil]
    show 1 + sumL _ [] ≤ 500
    simp [sumL]
theorem shp_isvar {V : TT} (h : shp V = true) (h7 : V.k = 7) : ∃ x : Nat, x < 2000 ∧ V = varT (x : Int) := by
  obtain ⟨h1, h2⟩ := shp_var h h7
  have hk := shp_k h
  refine ⟨V.vr.toNat, by omega, ?_⟩
  cases V with
  | mk k nm vr args =>
    have h7 : k = 7 := h7
    have h1 : args = [] := h1
    have h2 : nm = ⟨#[]⟩ := h2
    have hv : 0 ≤ vr := hk.2.1
    subst h7 h1 h2
    show TT.mk 7 ⟨#[]⟩ vr [] = TT.mk 7 ⟨#[]⟩ ((vr.toNat : Nat) : Int) []
    rw [Int.toNat_of_nonneg hv]
/-- what is replaced is no deeper than 500 more. -/
theorem big_app {St : List TT} (h : SInv2 St) : ∀ (d : Nat) (V : TT), bigT d V = false → shp V = true → bigT (d + 500) (apvF St V) = false := by
  obtain ⟨rk, hr⟩ := h.inv.ok
  intro d
  induction d with
  | zero => intro V hb; cases hb
  | succ d ih =>
    intro V hb hs
    by_cases h7 : V.k = 7
    · have hn := nb_app hr h.nb V hs ⟨_, hb⟩
      refine nb_big hn ?_
      rw [nodes_app hr V hs]
      obtain ⟨x, hx, rfl⟩ := shp_isvar hs h7
      have := h.sz x hx
      omega
    · obtain ⟨h1, h2, h3⟩ := bigT_parts hb
      rw [app_eq hr hs, resF_stop hr (fun e => h7 e.1), show d + 1 + 500 = (d + 500) + 1 by omega]
      refine big_mk (by rw [List.length_map]; exact h1) h2 (fun a ha => ?_)
      obtain ⟨b, hbm, rfl⟩ := List.mem_map.1 ha
      exact ih b (h3 b hbm) ((shp_head hs).2.2 b hbm)
end Go.Proofs.YtifopogkbjhkjaaGreatDoor
