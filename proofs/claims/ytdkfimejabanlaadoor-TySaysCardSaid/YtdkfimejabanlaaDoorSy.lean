import Derived.Test.YtdkfimejabanlaaDoorRj
namespace Go.Proofs.YtdkfimejabanlaaDoor
open DR
open Go.ChangeShapes Go.WideShapes Go.ChangeAt Go.RowKit Go.WideMaps
set_option linter.unusedVariables false
set_option linter.unusedSimpArgs false
set_option maxRecDepth 100000 in
set_option maxHeartbeats 16000000 in
theorem says_walk {V U : TT} {v u : Value} {w : World} (hAw : ∀ W, Calls Tryd.prog 10 #[] W fun e W' => e = .returned (.bool true) ∧ Below W.heap.size W W') (h : TIn w any0 V v) (h2 : TIn w any0 U u) :
    Calls Tryd.prog 4 #[v, u] w fun e w' => e = .returned (.bool true) ∧ Below w.heap.size w w' := by
  have HAW := Lib.hid (fun W (_ : Below w.heap.size w W) => hAw W)
  have hin := h; have hin2 := h2
  have HIN := Lib.hid h; have HIN2 := Lib.hid h2
  obtain ⟨A, c, rfl, hA⟩ := h
  obtain ⟨A2, c2, rfl, hA2⟩ := h2
  have CS := Lib.hid (fun W (hW : Below w.heap.size w W) => small_any 7 V _ 64 W most64 (hin.later hW))
  have CS2 := Lib.hid (fun W (hW : Below w.heap.size w W) => small_any 7 U _ 64 W most64 (hin2.later hW))
  obtain ⟨wB, hwB⟩ : ∃ z, z = (w.alloc (.cells #[.int .i64 V.k, .string V.nm, .int .i64 V.vr, .slice A V.args.length c] 27)).alloc (.cells #[.int .i64 U.k, .string U.nm, .int .i64 U.vr, .slice A2 U.args.length c2] 27) := ⟨_, rfl⟩
  have BX := two_box (w := w) (.cells #[.int .i64 V.k, .string V.nm, .int .i64 V.vr, .slice A V.args.length c] 27) (.cells #[.int .i64 U.k, .string U.nm, .int .i64 U.vr, .slice A2 U.args.length c2] 27)
  rw [← hwB] at BX
  have HB := Lib.hid (show Below w.heap.size w wB by rw [hwB]; exact bt (below_alloc w _) (below_alloc _ _))
  have HZ := Lib.hid (show wB.heap.size = w.heap.size + 2 by rw [hwB]; simp)
  have HX := Lib.hid BX
  have HWB := Lib.hid hwB
  have B0 := Lib.hid (Below.refl wB.heap.size wB)
  have KT := Lib.hid (fun W (hW : Below wB.heap.size wB W) => cells4 ((hW.block w.heap.size (by rw [HZ.out]; omega)).trans HX.out.1))
  have KU := Lib.hid (fun W (hW : Below wB.heap.size wB W) => cells4 ((hW.block (w.heap.size + 1) (by rw [HZ.out]; omega)).trans HX.out.2))
  clear BX hwB
  unfold tv at CS CS2 HIN HIN2 ⊢
  cases hbg : bigT 7 V with
  | true =>
    rw [hbg] at CS
    clear hbg
    obtain ⟨x0, x1, x2, x3⟩ := KT.out _ B0.out
    obtain ⟨y0, y1, y2, y3⟩ := KU.out _ B0.out
    clear hin hin2 hA hA2 hAw
    go_enter Tryd.func4, Tryd.ntmps4
    go_wp2_with fail
    rw [← HWB.out]
    try go_wp2_with fail
    refine (HAW.out _ (bt HB.out B0.out)).mono ?_; rintro e w1 ⟨rfl, b1⟩
    have B1 := Lib.hid (bt B0.out b1)
    clear x0 x1 x2 x3 y0 y1 y2 y3
    obtain ⟨x0, x1, x2, x3⟩ := KT.out _ B1.out
    obtain ⟨y0, y1, y2, y3⟩ := KU.out _ B1.out
    clear b1
    go_wp2_with fail
    refine (CS.out _ (bt HB.out B1.out)).mono ?_; rintro e w2 ⟨rfl, b2⟩
    have B2 := Lib.hid (bt B1.out b2)
    clear x0 x1 x2 x3 y0 y1 y2 y3
    obtain ⟨x0, x1, x2, x3⟩ := KT.out _ B2.out
    obtain ⟨y0, y1, y2, y3⟩ := KU.out _ B2.out
    clear b2
    go_wp2
    go_ret
    exact ⟨rfl, bt HB.out B2.out⟩
  | false =>
  rw [hbg] at CS
  cases hbg2 : bigT 7 U with
  | true =>
    rw [hbg2] at CS2
    clear hbg hbg2
    obtain ⟨x0, x1, x2, x3⟩ := KT.out _ B0.out
    obtain ⟨y0, y1, y2, y3⟩ := KU.out _ B0.out
    clear hin hin2 hA hA2 hAw
    go_enter Tryd.func4, Tryd.ntmps4
    go_wp2_with fail
    rw [← HWB.out]
    try go_wp2_with fail
    refine (HAW.out _ (bt HB.out B0.out)).mono ?_; rintro e w1 ⟨rfl, b1⟩
    have B1 := Lib.hid (bt B0.out b1)
    clear x0 x1 x2 x3 y0 y1 y2 y3
    obtain ⟨x0, x1, x2, x3⟩ := KT.out _ B1.out
    obtain ⟨y0, y1, y2, y3⟩ := KU.out _ B1.out
    clear b1
    go_wp2_with fail
    refine (CS.out _ (bt HB.out B1.out)).mono ?_; rintro e w2 ⟨rfl, b2⟩
    have B2 := Lib.hid (bt B1.out b2)
    clear x0 x1 x2 x3 y0 y1 y2 y3
    obtain ⟨x0, x1, x2, x3⟩ := KT.out _ B2.out
    obtain ⟨y0, y1, y2, y3⟩ := KU.out _ B2.out
    clear b2
    go_wp2_with fail
    refine (CS2.out _ (bt HB.out B2.out)).mono ?_; rintro e w3 ⟨rfl, b3⟩
    have B3 := Lib.hid (bt B2.out b3)
    clear x0 x1 x2 x3 y0 y1 y2 y3
    obtain ⟨x0, x1, x2, x3⟩ := KT.out _ B3.out
    obtain ⟨y0, y1, y2, y3⟩ := KU.out _ B3.out
    clear b3
    go_wp2
    go_ret
    exact ⟨rfl, bt HB.out B3.out⟩
  | false =>
  rw [hbg2] at CS2
  have HBG := Lib.hid hbg; have HBG2 := Lib.hid hbg2
  have HLT0 := Lib.hid (Below.refl wB.heap.size wB)
  clear hbg hbg2
  obtain ⟨x0, x1, x2, x3⟩ := KT.out _ B0.out
  obtain ⟨y0, y1, y2, y3⟩ := KU.out _ B0.out
  clear hin hin2 hA hA2 hAw
  go_enter Tryd.func4, Tryd.ntmps4
  go_wp2_with fail
  rw [← HWB.out]
  try go_wp2_with fail
  refine (HAW.out _ (bt HB.out B0.out)).mono ?_; rintro e w1 ⟨rfl, b1⟩
  have B1 := Lib.hid (bt B0.out b1)
  clear x0 x1 x2 x3 y0 y1 y2 y3
  obtain ⟨x0, x1, x2, x3⟩ := KT.out _ B1.out
  obtain ⟨y0, y1, y2, y3⟩ := KU.out _ B1.out
  clear b1
  go_wp2_with fail
  refine (CS.out _ (bt HB.out B1.out)).mono ?_; rintro e w2 ⟨rfl, b2⟩
  have B2 := Lib.hid (bt B1.out b2)
  clear x0 x1 x2 x3 y0 y1 y2 y3
  obtain ⟨x0, x1, x2, x3⟩ := KT.out _ B2.out
  obtain ⟨y0, y1, y2, y3⟩ := KU.out _ B2.out
  clear b2
  go_wp2_with fail
  refine (CS2.out _ (bt HB.out B2.out)).mono ?_; rintro e w3 ⟨rfl, b3⟩
  have B3 := Lib.hid (bt B2.out b3)
  clear x0 x1 x2 x3 y0 y1 y2 y3
  obtain ⟨x0, x1, x2, x3⟩ := KT.out _ B3.out
  obtain ⟨y0, y1, y2, y3⟩ := KU.out _ B3.out
  clear b3
  obtain ⟨wC, hwC⟩ : ∃ z, z = w3 := ⟨_, rfl⟩
  have BC := Lib.hid (show Below wB.heap.size wB wC by rw [hwC]; exact B3.out)
  have HBC := Lib.hid (bt HB.out BC.out)
  have C1 := Lib.hid (fun W (hW : Below wC.heap.size wC W) => ty1_any 7 V _ W HBG.out (HIN.out.later (bt HBC.out hW)))
  have C2 := Lib.hid (fun W (hW : Below wC.heap.size wC W) => ty1_any 7 U _ W HBG2.out (HIN2.out.later (bt HBC.out hW)))
  clear x0 x1 x2 x3 y0 y1 y2 y3
  rw [← hwC]
  clear B3 hwC CS CS2 HAW
  go_wp2_with fail
  rename_i K hK
  refine Code.wp_mono (Q := Exit.then (fun a' w' => ∃ X Y B1 e1 B2 e2 t17 t18 t19 t20, a' = ⟨#[.agg #[.int .i64 V.k, .string V.nm, .int .i64 V.vr, .slice A V.args.length c], .agg #[.int .i64 U.k, .string U.nm, .int .i64 U.vr, .slice A2 U.args.length c2], .pointer (some ⟨w.heap.size, 0, none⟩), .pointer (some ⟨w.heap.size + 1, 0, none⟩), .bool false, .pointer (some ⟨X, 0, none⟩), .pointer (some ⟨Y, 0, none⟩), .bool true, .bool false, .agg #[.int .i64 V.k, .string V.nm, .int .i64 V.vr, .slice A V.args.length c], .bool true, .bool false, .bool false, .agg #[.int .i64 U.k, .string U.nm, .int .i64 U.vr, .slice A2 U.args.length c2], .bool true, .bool false, .bool false, t17, t18, t19, t20, undef, undef, undef, undef, undef, undef, undef, undef, undef, undef, undef, undef, undef, undef, undef, undef, undef, undef, undef, undef, undef, undef, undef, undef, undef, undef, undef, undef, undef, undef, undef, undef, undef, undef, undef, undef, undef, undef, undef, undef], []⟩ ∧ TyJ wC w' V U X Y B1 e1 B2 e2) (fun _ _ _ => False)) ?rest ?_
  case rest =>
    intro e a' wJ hq
    cases e
    case normal =>
      obtain ⟨X, Y, B1, e1, B2, e2, t17, t18, t19, t20, rfl, HJ⟩ := hq
      show K _ _
      refine hK _ _ ?_
      clear hK K
      have HJH := Lib.hid HJ
      have BJ := Lib.hid (bt BC.out HJ.bel)
      have HBJ := Lib.hid (bt HB.out BJ.out)
      have KT7 := Lib.hid (fun W (hW : Below wJ.heap.size wJ W) => KT.out W (bt BJ.out hW))
      have KU7 := Lib.hid (fun W (hW : Below wJ.heap.size wJ W) => KU.out W (bt BJ.out hW))
      have KX := Lib.hid (fun W (hW : Below wJ.heap.size wJ W) => cells4 ((hW.block X (Array.getElem?_eq_some_iff.1 HJ.x).1).trans HJ.x))
      have KY := Lib.hid (fun W (hW : Below wJ.heap.size wJ W) => cells4 ((hW.block Y (Array.getElem?_eq_some_iff.1 HJ.y).1).trans HJ.y))
      have TX := Lib.hid (fun W (hW : Below wJ.heap.size wJ W) => (⟨B1, e1, rfl, HJ.rx.later hW⟩ : TIn W any0 V (.agg #[.int .i64 V.k, .string V.nm, .int .i64 V.vr, .slice B1 V.args.length e1])))
      have TY := Lib.hid (fun W (hW : Below wJ.heap.size wJ W) => (⟨B2, e2, rfl, HJ.ry.later hW⟩ : TIn W any0 U (.agg #[.int .i64 U.k, .string U.nm, .int .i64 U.vr, .slice B2 U.args.length e2])))
      have GT0 := Lib.hid (fun W (hW : Below wJ.heap.size wJ W) => good_any (Nat.le_refl 7) HBG.out (HIN.out.later (bt HBJ.out hW)))
      have GX0 := Lib.hid (fun W (hW : Below wJ.heap.size wJ W) => rgood_any HBG.out (TX.out W hW))
      have SM0 := Lib.hid (fun W (hW : Below wJ.heap.size wJ W) => Same_gen (show 7 ≤ 500 by omega) HBG.out HBG2.out (HIN.out.later (bt HBJ.out hW)) (HIN2.out.later (bt HBJ.out hW)))
      have RM0 := Lib.hid (fun W (hW : Below wJ.heap.size wJ W) => rsame_gen 7 V U _ _ W HBG.out HBG2.out (TX.out W hW) (TY.out W hW))
      have ZT := Lib.hid (fun W (hW : Below wJ.heap.size wJ W) => size_any (Nat.le_refl 7) HBG.out (HIN.out.later (bt HBJ.out hW)))
      have ZX := Lib.hid (fun W (hW : Below wJ.heap.size wJ W) => rsize_any 7 V _ W HBG.out (TX.out W hW))
      rw [size_nodes] at ZT
      obtain ⟨Z, hZ⟩ : ∃ z : Int, z = min (nodes V : Int) 501 := ⟨_, rfl⟩
      rw [← hZ] at ZT ZX
      clear hZ C1 C2
      obtain ⟨bb, SM, RM⟩ : ∃ bb : Bool, Hid (∀ W, Below wJ.heap.size wJ W → Calls Tryd.prog 16 #[.agg #[.int .i64 V.k, .string V.nm, .int .i64 V.vr, .slice A V.args.length c], .agg #[.int .i64 U.k, .string U.nm, .int .i64 U.vr, .slice A2 U.args.length c2]] W fun e w' => e = .returned (.bool bb) ∧ Below W.heap.size W w') ∧ Hid (∀ W, Below wJ.heap.size wJ W → Calls Tryd.prog 26 #[.agg #[.int .i64 V.k, .string V.nm, .int .i64 V.vr, .slice B1 V.args.length e1], .agg #[.int .i64 U.k, .string U.nm, .int .i64 U.vr, .slice B2 U.args.length e2]] W fun e w' => e = .returned (.bool bb) ∧ Below W.heap.size W w') := by
        by_cases hVU : V = U
        · exact ⟨true, Lib.hid (fun W hW => (SM0.out W hW).mono (fun (e : Ending) (w1 : World) ⟨⟨b, e1, hs⟩, hb⟩ => (⟨by rw [e1, hs.2 hVU], hb⟩ : e = Ending.returned (Value.bool true) ∧ Below W.heap.size W w1))), Lib.hid (fun W hW => (RM0.out W hW).mono (fun (e : Ending) (w1 : World) ⟨⟨b, e1, hs⟩, hb⟩ => (⟨by rw [e1, hs.2 hVU], hb⟩ : e = Ending.returned (Value.bool true) ∧ Below W.heap.size W w1)))⟩
        · exact ⟨false, Lib.hid (fun W hW => (SM0.out W hW).mono (fun (e : Ending) (w1 : World) ⟨⟨b, e1, hs⟩, hb⟩ => (⟨by rw [e1]; cases b with | false => rfl | true => exact absurd (hs.1 rfl) hVU, hb⟩ : e = Ending.returned (Value.bool false) ∧ Below W.heap.size W w1))), Lib.hid (fun W hW => (RM0.out W hW).mono (fun (e : Ending) (w1 : World) ⟨⟨b, e1, hs⟩, hb⟩ => (⟨by rw [e1]; cases b with | false => rfl | true => exact absurd (hs.1 rfl) hVU, hb⟩ : e = Ending.returned (Value.bool false) ∧ Below W.heap.size W w1)))⟩
      clear SM0 RM0
      cases hg : goodT V with
      | false =>
        have GT := Lib.hid (fun W (hW : Below wJ.heap.size wJ W) => hg ▸ GT0.out W hW)
        have GX := Lib.hid (fun W (hW : Below wJ.heap.size wJ W) => hg ▸ GX0.out W hW)
        clear hg GT0 GX0 HJ
        go_wp2_with fail
        refine wp_region_D [36] (fun w' => Below wJ.heap.size wJ w') (by kernel_rfl) (bdr wJ) (fun hHeld => ?_)
        refine WD_take (i := 0) (oi := { dst := some 21, op := Go.Op.load 27 (Go.Operand.tmp 2), type := 27, pos := _, after := #[], guard := none }) (v := ?vb0) rfl (by kernel_rfl) (by kernel_rfl) (by kernel_rfl) (by kernel_rfl) (fun _ _ _ h => h) (Or.inl ⟨by rfl, ?hyb0⟩) hHeld ?_
        case hyb0 => (intro wz hSw; (try dsimp only at hSw); have zc := KT7.out _ hSw; have z0 := zc.1; have z1 := zc.2.1; have z2 := zc.2.2.1; have z3 := zc.2.2.2; clear zc; go_simp; try with_reducible rfl)
        (try simp only [Act.put, List.setIfInBounds_toArray, List.set_cons_zero, List.set_cons_succ])
        refine WD_take (i := 2) (oi := { dst := some 23, op := Go.Op.load 44 (Go.Operand.tmp 5), type := 44, pos := _, after := #[], guard := none }) (v := ?vb2) rfl (by kernel_rfl) (by kernel_rfl) (by kernel_rfl) (by kernel_rfl) (fun _ _ _ h => h) (Or.inl ⟨by rfl, ?hyb2⟩) hHeld ?_
        case hyb2 => (intro wz hSw; (try dsimp only at hSw); have zc := KX.out _ hSw; have z0 := zc.1; have z1 := zc.2.1; have z2 := zc.2.2.1; have z3 := zc.2.2.2; clear zc; go_simp; try with_reducible rfl)
        (try simp only [Act.put, List.setIfInBounds_toArray, List.set_cons_zero, List.set_cons_succ])
        refine WD_ready (rs := [1]) (by kernel_rfl) (by simp) ?_
        refine AllD.cons (o := _) rfl (fun K hK => ?_) AllD.nil
        rw [if_pos (by rfl)]
        go_simp
        refine (GT.out _ hHeld).mono ?_; rintro e w_1 ⟨rfl, b_1⟩
        try go_wp2_with fail
        refine hK.out _ _ (bt hHeld b_1) (fun hHeld => ?_)
        clear hK K
        (try simp only [Act.put, List.setIfInBounds_toArray, List.set_cons_zero, List.set_cons_succ])
        clear b_1
        refine WD_ready (rs := [3]) (by kernel_rfl) (by simp) ?_
        refine AllD.cons (o := _) rfl (fun K hK => ?_) AllD.nil
        rw [if_pos (by rfl)]
        go_simp
        refine (GX.out _ hHeld).mono ?_; rintro e w_2 ⟨rfl, b_2⟩
        try go_wp2_with fail
        refine hK.out _ _ (bt hHeld b_2) (fun hHeld => ?_)
        clear hK K
        (try simp only [Act.put, List.setIfInBounds_toArray, List.set_cons_zero, List.set_cons_succ])
        clear b_2
        refine WD_take (i := 4) (oi := { dst := some 25, op := Go.Op.binOp Go.BinOp.eql 4 (Go.Operand.tmp 22) (Go.Operand.tmp 24) 4, type := 4, pos := _, after := #[{ on := 1, ground := Go.Ground.data }, { on := 3, ground := Go.Ground.data }], guard := none }) (v := ?vb4) rfl (by kernel_rfl) (by kernel_rfl) (by kernel_rfl) (by kernel_rfl) (fun _ _ _ h => h) (Or.inl ⟨by rfl, ?hyb4⟩) hHeld ?_
        case hyb4 => (intro wz hSw; (try dsimp only at hSw); go_simp; try with_reducible rfl)
        (try simp only [Act.put, List.setIfInBounds_toArray, List.set_cons_zero, List.set_cons_succ])
        refine WD_take (i := 5) (oi := { dst := some 26, op := Go.Op.move (Go.Operand.tmp 25), type := 4, pos := _, after := #[{ on := 4, ground := Go.Ground.data }, { on := 3, ground := Go.Ground.chain }], guard := none }) (v := ?vb5) rfl (by kernel_rfl) (by kernel_rfl) (by kernel_rfl) (by kernel_rfl) (fun _ _ _ h => h) (Or.inl ⟨by rfl, ?hyb5⟩) hHeld ?_
        case hyb5 => (intro wz hSw; (try dsimp only at hSw); go_simp; try with_reducible rfl)
        (try simp only [Act.put, List.setIfInBounds_toArray, List.set_cons_zero, List.set_cons_succ])
        refine WD_take (i := 6) (oi := { dst := some 27, op := Go.Op.load 27 (Go.Operand.tmp 2), type := 27, pos := _, after := #[{ on := 5, ground := Go.Ground.guard }], guard := some (5, true) }) (v := ?vb6) rfl (by kernel_rfl) (by kernel_rfl) (by kernel_rfl) (by kernel_rfl) (fun _ _ _ h => h) (Or.inl ⟨by rfl, ?hyb6⟩) hHeld ?_
        case hyb6 => (intro wz hSw; (try dsimp only at hSw); have zc := KT7.out _ hSw; have z0 := zc.1; have z1 := zc.2.1; have z2 := zc.2.2.1; have z3 := zc.2.2.2; clear zc; go_simp; try with_reducible rfl)
        (try simp only [Act.put, List.setIfInBounds_toArray, List.set_cons_zero, List.set_cons_succ])
        refine WD_take (i := 7) (oi := { dst := some 28, op := Go.Op.load 27 (Go.Operand.tmp 3), type := 27, pos := _, after := #[{ on := 5, ground := Go.Ground.guard }], guard := some (5, true) }) (v := ?vb7) rfl (by kernel_rfl) (by kernel_rfl) (by kernel_rfl) (by kernel_rfl) (fun _ _ _ h => h) (Or.inl ⟨by rfl, ?hyb7⟩) hHeld ?_
        case hyb7 => (intro wz hSw; (try dsimp only at hSw); have zc := KU7.out _ hSw; have z0 := zc.1; have z1 := zc.2.1; have z2 := zc.2.2.1; have z3 := zc.2.2.2; clear zc; go_simp; try with_reducible rfl)
        (try simp only [Act.put, List.setIfInBounds_toArray, List.set_cons_zero, List.set_cons_succ])
        refine WD_take (i := 9) (oi := { dst := some 30, op := Go.Op.load 44 (Go.Operand.tmp 5), type := 44, pos := _, after := #[{ on := 5, ground := Go.Ground.guard }], guard := some (5, true) }) (v := ?vb9) rfl (by kernel_rfl) (by kernel_rfl) (by kernel_rfl) (by kernel_rfl) (fun _ _ _ h => h) (Or.inl ⟨by rfl, ?hyb9⟩) hHeld ?_
        case hyb9 => (intro wz hSw; (try dsimp only at hSw); have zc := KX.out _ hSw; have z0 := zc.1; have z1 := zc.2.1; have z2 := zc.2.2.1; have z3 := zc.2.2.2; clear zc; go_simp; try with_reducible rfl)
        (try simp only [Act.put, List.setIfInBounds_toArray, List.set_cons_zero, List.set_cons_succ])
        refine WD_take (i := 10) (oi := { dst := some 31, op := Go.Op.load 44 (Go.Operand.tmp 6), type := 44, pos := _, after := #[{ on := 5, ground := Go.Ground.guard }], guard := some (5, true) }) (v := ?vb10) rfl (by kernel_rfl) (by kernel_rfl) (by kernel_rfl) (by kernel_rfl) (fun _ _ _ h => h) (Or.inl ⟨by rfl, ?hyb10⟩) hHeld ?_
        case hyb10 => (intro wz hSw; (try dsimp only at hSw); have zc := KY.out _ hSw; have z0 := zc.1; have z1 := zc.2.1; have z2 := zc.2.2.1; have z3 := zc.2.2.2; clear zc; go_simp; try with_reducible rfl)
        (try simp only [Act.put, List.setIfInBounds_toArray, List.set_cons_zero, List.set_cons_succ])
        refine WD_ready (rs := [8]) (by kernel_rfl) (by simp) ?_
        refine AllD.cons (o := _) rfl (fun K hK => ?_) AllD.nil
        rw [if_pos (by rfl)]
        go_simp
        refine (SM.out _ hHeld).mono ?_; rintro e w_3 ⟨rfl, b_3⟩
        try go_wp2_with fail
        refine hK.out _ _ (bt hHeld b_3) (fun hHeld => ?_)
        clear hK K
        (try simp only [Act.put, List.setIfInBounds_toArray, List.set_cons_zero, List.set_cons_succ])
        clear b_3
        refine WD_ready (rs := [11]) (by kernel_rfl) (by simp) ?_
        refine AllD.cons (o := _) rfl (fun K hK => ?_) AllD.nil
        rw [if_pos (by rfl)]
        go_simp
        refine (RM.out _ hHeld).mono ?_; rintro e w_4 ⟨rfl, b_4⟩
        try go_wp2_with fail
        refine hK.out _ _ (bt hHeld b_4) (fun hHeld => ?_)
        clear hK K
        (try simp only [Act.put, List.setIfInBounds_toArray, List.set_cons_zero, List.set_cons_succ])
        clear b_4
        refine WD_take (i := 12) (oi := { dst := some 33, op := Go.Op.binOp Go.BinOp.eql 4 (Go.Operand.tmp 29) (Go.Operand.tmp 32) 4, type := 4, pos := _, after := #[{ on := 8, ground := Go.Ground.data }, { on := 11, ground := Go.Ground.data }, { on := 5, ground := Go.Ground.guard }], guard := some (5, true) }) (v := ?vb12) rfl (by kernel_rfl) (by kernel_rfl) (by kernel_rfl) (by kernel_rfl) (fun _ _ _ h => h) (Or.inl ⟨by rfl, ?hyb12⟩) hHeld ?_
        case hyb12 => (intro wz hSw; (try dsimp only at hSw); go_simp; try with_reducible rfl)
        (try simp only [Act.put, List.setIfInBounds_toArray, List.set_cons_zero, List.set_cons_succ])
        refine WD_take (i := 13) (oi := { dst := some 34, op := Go.Op.pick (Go.Operand.tmp 26) (Go.Operand.tmp 33) (Go.Operand.const (Go.Value.bool false)), type := 4, pos := _, after := #[{ on := 5, ground := Go.Ground.data }, { on := 12, ground := Go.Ground.data }], guard := none }) (v := ?vb13) rfl (by kernel_rfl) (by kernel_rfl) (by kernel_rfl) (by kernel_rfl) (fun _ _ _ h => h) (Or.inl ⟨by rfl, ?hyb13⟩) hHeld ?_
        case hyb13 => (intro wz hSw; (try dsimp only at hSw); go_simp; try with_reducible rfl)
        (try simp only [Act.put, List.setIfInBounds_toArray, List.set_cons_zero, List.set_cons_succ])
        refine WD_take (i := 14) (oi := { dst := some 35, op := Go.Op.move (Go.Operand.tmp 34), type := 4, pos := _, after := #[{ on := 13, ground := Go.Ground.data }, { on := 11, ground := Go.Ground.chain }], guard := none }) (v := ?vb14) rfl (by kernel_rfl) (by kernel_rfl) (by kernel_rfl) (by kernel_rfl) (fun _ _ _ h => h) (Or.inl ⟨by rfl, ?hyb14⟩) hHeld ?_
        case hyb14 => (intro wz hSw; (try dsimp only at hSw); go_simp; try with_reducible rfl)
        (try simp only [Act.put, List.setIfInBounds_toArray, List.set_cons_zero, List.set_cons_succ])
        refine WD_take (i := 15) (oi := { dst := some 36, op := Go.Op.load 27 (Go.Operand.tmp 2), type := 27, pos := _, after := #[{ on := 14, ground := Go.Ground.guard }], guard := some (14, true) }) (v := ?vb15) rfl (by kernel_rfl) (by kernel_rfl) (by kernel_rfl) (by kernel_rfl) (fun _ _ _ h => h) (Or.inl ⟨by rfl, ?hyb15⟩) hHeld ?_
        case hyb15 => (intro wz hSw; (try dsimp only at hSw); have zc := KT7.out _ hSw; have z0 := zc.1; have z1 := zc.2.1; have z2 := zc.2.2.1; have z3 := zc.2.2.2; clear zc; go_simp; try with_reducible rfl)
        (try simp only [Act.put, List.setIfInBounds_toArray, List.set_cons_zero, List.set_cons_succ])
        refine WD_take (i := 17) (oi := { dst := some 38, op := Go.Op.load 44 (Go.Operand.tmp 5), type := 44, pos := _, after := #[{ on := 14, ground := Go.Ground.guard }], guard := some (14, true) }) (v := ?vb17) rfl (by kernel_rfl) (by kernel_rfl) (by kernel_rfl) (by kernel_rfl) (fun _ _ _ h => h) (Or.inl ⟨by rfl, ?hyb17⟩) hHeld ?_
        case hyb17 => (intro wz hSw; (try dsimp only at hSw); have zc := KX.out _ hSw; have z0 := zc.1; have z1 := zc.2.1; have z2 := zc.2.2.1; have z3 := zc.2.2.2; clear zc; go_simp; try with_reducible rfl)
        (try simp only [Act.put, List.setIfInBounds_toArray, List.set_cons_zero, List.set_cons_succ])
        refine WD_ready (rs := [16]) (by kernel_rfl) (by simp) ?_
        refine AllD.cons (o := _) rfl (fun K hK => ?_) AllD.nil
        rw [if_pos (by rfl)]
        go_simp
        refine (ZT.out _ hHeld).mono ?_; rintro e w_5 ⟨rfl, b_5⟩
        try go_wp2_with fail
        refine hK.out _ _ (bt hHeld b_5) (fun hHeld => ?_)
        clear hK K
        (try simp only [Act.put, List.setIfInBounds_toArray, List.set_cons_zero, List.set_cons_succ])
        clear b_5
        refine WD_ready (rs := [18]) (by kernel_rfl) (by simp) ?_
        refine AllD.cons (o := _) rfl (fun K hK => ?_) AllD.nil
        rw [if_pos (by rfl)]
        go_simp
        refine (ZX.out _ hHeld).mono ?_; rintro e w_6 ⟨rfl, b_6⟩
        try go_wp2_with fail
        refine hK.out _ _ (bt hHeld b_6) (fun hHeld => ?_)
        clear hK K
        (try simp only [Act.put, List.setIfInBounds_toArray, List.set_cons_zero, List.set_cons_succ])
        clear b_6
        refine WD_take (i := 19) (oi := { dst := some 40, op := Go.Op.binOp Go.BinOp.eql 3 (Go.Operand.tmp 37) (Go.Operand.tmp 39) 3, type := 4, pos := _, after := #[{ on := 16, ground := Go.Ground.data }, { on := 18, ground := Go.Ground.data }, { on := 14, ground := Go.Ground.guard }], guard := some (14, true) }) (v := ?vb19) rfl (by kernel_rfl) (by kernel_rfl) (by kernel_rfl) (by kernel_rfl) (fun _ _ _ h => h) (Or.inl ⟨by rfl, ?hyb19⟩) hHeld ?_
        case hyb19 => (intro wz hSw; (try dsimp only at hSw); go_simp; try with_reducible rfl)
        (try simp only [Act.put, List.setIfInBounds_toArray, List.set_cons_zero, List.set_cons_succ])
        refine WD_take (i := 20) (oi := { dst := some 41, op := Go.Op.pick (Go.Operand.tmp 35) (Go.Operand.tmp 40) (Go.Operand.const (Go.Value.bool false)), type := 4, pos := _, after := #[{ on := 14, ground := Go.Ground.data }, { on := 19, ground := Go.Ground.data }], guard := none }) (v := ?vb20) rfl (by kernel_rfl) (by kernel_rfl) (by kernel_rfl) (by kernel_rfl) (fun _ _ _ h => h) (Or.inl ⟨by rfl, ?hyb20⟩) hHeld ?_
        case hyb20 => (intro wz hSw; (try dsimp only at hSw); go_simp; try with_reducible rfl)
        (try simp only [Act.put, List.setIfInBounds_toArray, List.set_cons_zero, List.set_cons_succ])
        refine WD_take (i := 21) (oi := { dst := some 42, op := Go.Op.move (Go.Operand.tmp 41), type := 4, pos := _, after := #[{ on := 20, ground := Go.Ground.data }, { on := 18, ground := Go.Ground.chain }], guard := none }) (v := ?vb21) rfl (by kernel_rfl) (by kernel_rfl) (by kernel_rfl) (by kernel_rfl) (fun _ _ _ h => h) (Or.inl ⟨by rfl, ?hyb21⟩) hHeld ?_
        case hyb21 => (intro wz hSw; (try dsimp only at hSw); go_simp; try with_reducible rfl)
        (try simp only [Act.put, List.setIfInBounds_toArray, List.set_cons_zero, List.set_cons_succ])
        refine WD_take (i := 22) (oi := { dst := some 43, op := Go.Op.load 27 (Go.Operand.tmp 2), type := 27, pos := _, after := #[{ on := 21, ground := Go.Ground.guard }], guard := some (21, true) }) (v := ?vb22) rfl (by kernel_rfl) (by kernel_rfl) (by kernel_rfl) (by kernel_rfl) (fun _ _ _ h => h) (Or.inl ⟨by rfl, ?hyb22⟩) hHeld ?_
        case hyb22 => (intro wz hSw; (try dsimp only at hSw); have zc := KT7.out _ hSw; have z0 := zc.1; have z1 := zc.2.1; have z2 := zc.2.2.1; have z3 := zc.2.2.2; clear zc; go_simp; try with_reducible rfl)
        (try simp only [Act.put, List.setIfInBounds_toArray, List.set_cons_zero, List.set_cons_succ])
        refine WD_ready (rs := [23]) (by kernel_rfl) (by simp) ?_
        refine AllD.cons (o := _) rfl (fun K hK => ?_) AllD.nil
        rw [if_pos (by rfl)]
        go_simp
        refine (GT.out _ hHeld).mono ?_; rintro e w_7 ⟨rfl, b_7⟩
        try go_wp2_with fail
        refine hK.out _ _ (bt hHeld b_7) (fun hHeld => ?_)
        clear hK K
        (try simp only [Act.put, List.setIfInBounds_toArray, List.set_cons_zero, List.set_cons_succ])
        clear b_7
        refine WD_take (i := 24) (oi := { dst := some 45, op := Go.Op.unOp Go.UnOp.not 4 (Go.Operand.tmp 44), type := 4, pos := _, after := #[{ on := 23, ground := Go.Ground.data }, { on := 21, ground := Go.Ground.guard }], guard := some (21, true) }) (v := ?vb24) rfl (by kernel_rfl) (by kernel_rfl) (by kernel_rfl) (by kernel_rfl) (fun _ _ _ h => h) (Or.inl ⟨by rfl, ?hyb24⟩) hHeld ?_
        case hyb24 => (intro wz hSw; (try dsimp only at hSw); go_simp; try with_reducible rfl)
        (try simp only [Act.put, List.setIfInBounds_toArray, List.set_cons_zero, List.set_cons_succ])
        refine WD_take (i := 25) (oi := { dst := some 46, op := Go.Op.move (Go.Operand.tmp 45), type := 4, pos := _, after := #[{ on := 24, ground := Go.Ground.data }, { on := 23, ground := Go.Ground.chain }, { on := 21, ground := Go.Ground.guard }], guard := some (21, true) }) (v := ?vb25) rfl (by kernel_rfl) (by kernel_rfl) (by kernel_rfl) (by kernel_rfl) (fun _ _ _ h => h) (Or.inl ⟨by rfl, ?hyb25⟩) hHeld ?_
        case hyb25 => (intro wz hSw; (try dsimp only at hSw); go_simp; try with_reducible rfl)
        (try simp only [Act.put, List.setIfInBounds_toArray, List.set_cons_zero, List.set_cons_succ])
        refine WD_take (i := 26) (oi := { dst := some 47, op := Go.Op.load 27 (Go.Operand.tmp 2), type := 27, pos := _, after := #[{ on := 25, ground := Go.Ground.guard }], guard := some (25, false) }) (v := undef) rfl (by kernel_rfl) (by kernel_rfl) (by kernel_rfl) (by kernel_rfl) (fun _ _ _ h => h) (Or.inr ⟨by rfl, rfl⟩) hHeld ?_
        (try simp only [Act.put, List.setIfInBounds_toArray, List.set_cons_zero, List.set_cons_succ])
        refine WD_take (i := 28) (oi := { dst := some 49, op := Go.Op.load 44 (Go.Operand.tmp 5), type := 44, pos := _, after := #[{ on := 25, ground := Go.Ground.guard }], guard := some (25, false) }) (v := undef) rfl (by kernel_rfl) (by kernel_rfl) (by kernel_rfl) (by kernel_rfl) (fun _ _ _ h => h) (Or.inr ⟨by rfl, rfl⟩) hHeld ?_
        (try simp only [Act.put, List.setIfInBounds_toArray, List.set_cons_zero, List.set_cons_succ])
        refine WD_ready (rs := [27]) (by kernel_rfl) (by simp) ?_
        refine AllD.cons (o := { dst := some 48, op := Go.Op.call { callee := Go.Callee.value (Go.Operand.func 18), args := #[Go.Operand.tmp 47], argTypes := #[27] }, type := 9, pos := _, after := #[{ on := 26, ground := Go.Ground.data }, { on := 25, ground := Go.Ground.chain }, { on := 25, ground := Go.Ground.guard }], guard := some (25, false) }) rfl (fun K hK => ?_) AllD.nil
        rw [if_neg (fun h => nomatch h)]
        refine hK.out _ _ hHeld (fun hHeld => ?_)
        clear hK K
        (try simp only [Act.put, List.setIfInBounds_toArray, List.set_cons_zero, List.set_cons_succ])
        refine WD_ready (rs := [29]) (by kernel_rfl) (by simp) ?_
        refine AllD.cons (o := { dst := some 50, op := Go.Op.call { callee := Go.Callee.value (Go.Operand.func 28), args := #[Go.Operand.tmp 49], argTypes := #[44] }, type := 9, pos := _, after := #[{ on := 28, ground := Go.Ground.data }, { on := 27, ground := Go.Ground.chain }, { on := 25, ground := Go.Ground.guard }], guard := some (25, false) }) rfl (fun K hK => ?_) AllD.nil
        rw [if_neg (fun h => nomatch h)]
        refine hK.out _ _ hHeld (fun hHeld => ?_)
        clear hK K
        (try simp only [Act.put, List.setIfInBounds_toArray, List.set_cons_zero, List.set_cons_succ])
        refine WD_take (i := 30) (oi := { dst := some 51, op := Go.Op.binOp Go.BinOp.eql 9 (Go.Operand.tmp 48) (Go.Operand.tmp 50) 9, type := 4, pos := _, after := #[{ on := 27, ground := Go.Ground.data }, { on := 29, ground := Go.Ground.data }, { on := 25, ground := Go.Ground.guard }], guard := some (25, false) }) (v := undef) rfl (by kernel_rfl) (by kernel_rfl) (by kernel_rfl) (by kernel_rfl) (fun _ _ _ h => h) (Or.inr ⟨by rfl, rfl⟩) hHeld ?_
        (try simp only [Act.put, List.setIfInBounds_toArray, List.set_cons_zero, List.set_cons_succ])
        refine WD_take (i := 31) (oi := { dst := some 52, op := Go.Op.move (Go.Operand.tmp 51), type := 4, pos := _, after := #[{ on := 30, ground := Go.Ground.data }, { on := 29, ground := Go.Ground.chain }, { on := 25, ground := Go.Ground.guard }], guard := some (25, false) }) (v := undef) rfl (by kernel_rfl) (by kernel_rfl) (by kernel_rfl) (by kernel_rfl) (fun _ _ _ h => h) (Or.inr ⟨by rfl, rfl⟩) hHeld ?_
        (try simp only [Act.put, List.setIfInBounds_toArray, List.set_cons_zero, List.set_cons_succ])
        refine WD_take (i := 32) (oi := { dst := some 53, op := Go.Op.load 27 (Go.Operand.tmp 2), type := 27, pos := _, after := #[{ on := 31, ground := Go.Ground.guard }], guard := some (31, true) }) (v := undef) rfl (by kernel_rfl) (by kernel_rfl) (by kernel_rfl) (by kernel_rfl) (fun _ _ _ h => h) (Or.inr ⟨by rfl, rfl⟩) hHeld ?_
        (try simp only [Act.put, List.setIfInBounds_toArray, List.set_cons_zero, List.set_cons_succ])
        refine WD_take (i := 34) (oi := { dst := some 55, op := Go.Op.load 44 (Go.Operand.tmp 5), type := 44, pos := _, after := #[{ on := 31, ground := Go.Ground.guard }], guard := some (31, true) }) (v := undef) rfl (by kernel_rfl) (by kernel_rfl) (by kernel_rfl) (by kernel_rfl) (fun _ _ _ h => h) (Or.inr ⟨by rfl, rfl⟩) hHeld ?_
        (try simp only [Act.put, List.setIfInBounds_toArray, List.set_cons_zero, List.set_cons_succ])
        refine WD_ready (rs := [33]) (by kernel_rfl) (by simp) ?_
        refine AllD.cons (o := { dst := some 54, op := Go.Op.call { callee := Go.Callee.value (Go.Operand.func 21), args := #[Go.Operand.tmp 53], argTypes := #[27] }, type := 38, pos := _, after := #[{ on := 32, ground := Go.Ground.data }, { on := 31, ground := Go.Ground.chain }, { on := 31, ground := Go.Ground.guard }], guard := some (31, true) }) rfl (fun K hK => ?_) AllD.nil
        rw [if_neg (fun h => nomatch h)]
        refine hK.out _ _ hHeld (fun hHeld => ?_)
        clear hK K
        (try simp only [Act.put, List.setIfInBounds_toArray, List.set_cons_zero, List.set_cons_succ])
        refine WD_ready (rs := [35]) (by kernel_rfl) (by simp) ?_
        refine AllD.cons (o := { dst := some 56, op := Go.Op.call { callee := Go.Callee.value (Go.Operand.func 29), args := #[Go.Operand.tmp 55], argTypes := #[44] }, type := 38, pos := _, after := #[{ on := 34, ground := Go.Ground.data }, { on := 33, ground := Go.Ground.chain }, { on := 31, ground := Go.Ground.guard }], guard := some (31, true) }) rfl (fun K hK => ?_) AllD.nil
        rw [if_neg (fun h => nomatch h)]
        refine hK.out _ _ hHeld (fun hHeld => ?_)
        clear hK K
        (try simp only [Act.put, List.setIfInBounds_toArray, List.set_cons_zero, List.set_cons_succ])
        have H36 := Lib.hid hHeld
        refine WD_ready (rs := [36]) (by kernel_rfl) (by simp) ?_
        refine AllD.last (o := { dst := some 57, op := Go.Op.call { callee := Go.Callee.value (Go.Operand.func 20), args := #[Go.Operand.tmp 54, Go.Operand.tmp 56], argTypes := #[38, 38] }, type := 4, pos := _, after := #[{ on := 33, ground := Go.Ground.data }, { on := 35, ground := Go.Ground.data }, { on := 35, ground := Go.Ground.chain }, { on := 31, ground := Go.Ground.guard }], guard := some (31, true) }) rfl (by kernel_rfl) (fun K hK => ?_) AllD.nil
        rw [if_neg (fun h => nomatch h)]
        refine hK.out _ _ ?_
        clear hK K
        (try simp only [Act.put, List.setIfInBounds_toArray, List.set_cons_zero, List.set_cons_succ])
        refine WD_takeAny (i := 37) (oi := { dst := some 58, op := Go.Op.pick (Go.Operand.tmp 52) (Go.Operand.tmp 57) (Go.Operand.const (Go.Value.bool false)), type := 4, pos := _, after := #[{ on := 31, ground := Go.Ground.data }, { on := 36, ground := Go.Ground.data }, { on := 25, ground := Go.Ground.guard }], guard := some (25, false) }) (v := undef) rfl (by kernel_rfl) (by kernel_rfl) (by kernel_rfl) (by kernel_rfl) (fun _ _ _ h => h) (Or.inr ⟨by rfl, rfl⟩) ?_
        (try simp only [Act.put, List.setIfInBounds_toArray, List.set_cons_zero, List.set_cons_succ])
        refine WD_takeAny (i := 38) (oi := { dst := some 59, op := Go.Op.pick (Go.Operand.tmp 46) (Go.Operand.const (Go.Value.bool true)) (Go.Operand.tmp 58), type := 4, pos := _, after := #[{ on := 25, ground := Go.Ground.data }, { on := 37, ground := Go.Ground.data }, { on := 21, ground := Go.Ground.guard }], guard := some (21, true) }) (v := ?vb38) rfl (by kernel_rfl) (by kernel_rfl) (by kernel_rfl) (by kernel_rfl) (fun _ _ _ h => h) (Or.inl ⟨by rfl, ?hyb38⟩) ?_
        case hyb38 => (intro wz _; go_simp; try with_reducible rfl)
        (try simp only [Act.put, List.setIfInBounds_toArray, List.set_cons_zero, List.set_cons_succ])
        refine WD_takeAny (i := 39) (oi := { dst := some 60, op := Go.Op.pick (Go.Operand.tmp 42) (Go.Operand.tmp 59) (Go.Operand.const (Go.Value.bool false)), type := 4, pos := _, after := #[{ on := 21, ground := Go.Ground.data }, { on := 38, ground := Go.Ground.data }], guard := none }) (v := ?vb39) rfl (by kernel_rfl) (by kernel_rfl) (by kernel_rfl) (by kernel_rfl) (fun _ _ _ h => h) (Or.inl ⟨by rfl, ?hyb39⟩) ?_
        case hyb39 => (intro wz _; go_simp; try with_reducible rfl)
        (try simp only [Act.put, List.setIfInBounds_toArray, List.set_cons_zero, List.set_cons_succ])
        refine WD_takeAny (i := 40) (oi := { dst := some 4, op := Go.Op.assign (Go.Operand.tmp 60), type := 4, pos := _, after := #[{ on := 39, ground := Go.Ground.data }, { on := 36, ground := Go.Ground.chain }, { on := 0, ground := Go.Ground.phase }, { on := 1, ground := Go.Ground.phase }, { on := 2, ground := Go.Ground.phase }, { on := 3, ground := Go.Ground.phase }, { on := 4, ground := Go.Ground.phase }, { on := 5, ground := Go.Ground.phase }, { on := 6, ground := Go.Ground.phase }, { on := 7, ground := Go.Ground.phase }, { on := 8, ground := Go.Ground.phase }, { on := 9, ground := Go.Ground.phase }, { on := 10, ground := Go.Ground.phase }, { on := 11, ground := Go.Ground.phase }, { on := 12, ground := Go.Ground.phase }, { on := 13, ground := Go.Ground.phase }, { on := 14, ground := Go.Ground.phase }, { on := 15, ground := Go.Ground.phase }, { on := 16, ground := Go.Ground.phase }, { on := 17, ground := Go.Ground.phase }, { on := 18, ground := Go.Ground.phase }, { on := 19, ground := Go.Ground.phase }, { on := 20, ground := Go.Ground.phase }, { on := 21, ground := Go.Ground.phase }, { on := 22, ground := Go.Ground.phase }, { on := 23, ground := Go.Ground.phase }, { on := 24, ground := Go.Ground.phase }, { on := 25, ground := Go.Ground.phase }, { on := 26, ground := Go.Ground.phase }, { on := 27, ground := Go.Ground.phase }, { on := 28, ground := Go.Ground.phase }, { on := 29, ground := Go.Ground.phase }, { on := 30, ground := Go.Ground.phase }, { on := 31, ground := Go.Ground.phase }, { on := 32, ground := Go.Ground.phase }, { on := 33, ground := Go.Ground.phase }, { on := 34, ground := Go.Ground.phase }, { on := 35, ground := Go.Ground.phase }, { on := 36, ground := Go.Ground.phase }, { on := 37, ground := Go.Ground.phase }, { on := 38, ground := Go.Ground.phase }, { on := 39, ground := Go.Ground.phase }], guard := none }) (v := ?vb40) rfl (by kernel_rfl) (by kernel_rfl) (by kernel_rfl) (by kernel_rfl) (fun _ _ _ h => h) (Or.inl ⟨by rfl, ?hyb40⟩) ?_
        case hyb40 => (intro wz _; go_simp; try with_reducible rfl)
        (try simp only [Act.put, List.setIfInBounds_toArray, List.set_cons_zero, List.set_cons_succ])
        refine WD_done (by kernel_rfl) ?_ _
        have HE := H36.out
        have FIN := Lib.hid (bt HBJ.out HE)
        clear HE
        go_wp2
        go_ret
        exact ⟨rfl, FIN.out⟩
      | true =>
        have GT := Lib.hid (fun W (hW : Below wJ.heap.size wJ W) => hg ▸ GT0.out W hW)
        have GX := Lib.hid (fun W (hW : Below wJ.heap.size wJ W) => hg ▸ GX0.out W hW)
        have hsh : shp V = true := by have q := hg; unfold goodT at q; rw [Bool.and_eq_true] at q; exact q.2
        have ST := Lib.hid (fun W (hW : Below wJ.heap.size wJ W) => show_any HBG.out hsh (HIN.out.later (bt HBJ.out hW)))
        have SX := Lib.hid (fun W (hW : Below wJ.heap.size wJ W) => rShow_any HBG.out hsh (TX.out W hW))
        have VT := Lib.hid (fun W (hW : Below wJ.heap.size wJ W) => vars_any (Nat.le_refl 7) HBG.out hsh (HIN.out.later (bt HBJ.out hW)))
        have VX := Lib.hid (fun W (hW : Below wJ.heap.size wJ W) => rVars_any HBG.out hsh (TX.out W hW))
        obtain ⟨TS, hTS⟩ : ∃ t, t = showT V := ⟨_, rfl⟩
        rw [← hTS] at ST SX
        obtain ⟨VL, hVL⟩ : ∃ t, t = varsOf V := ⟨_, rfl⟩
        have HVL := Lib.hid (show VL.length ≤ 2000000 by have := vars_few 6 V [] HBG.out hsh; rw [hVL]; unfold varsOf; simp at this; omega)
        rw [← hVL] at VT VX
        clear hg GT0 GX0 HJ hsh hTS hVL
        go_wp2_with fail
        refine wp_region_D [36] (fun w' => Below wJ.heap.size wJ w') (by kernel_rfl) (bdr wJ) (fun hHeld => ?_)
        refine WD_take (i := 0) (oi := { dst := some 21, op := Go.Op.load 27 (Go.Operand.tmp 2), type := 27, pos := _, after := #[], guard := none }) (v := ?vc0) rfl (by kernel_rfl) (by kernel_rfl) (by kernel_rfl) (by kernel_rfl) (fun _ _ _ h => h) (Or.inl ⟨by rfl, ?hyc0⟩) hHeld ?_
        case hyc0 => (intro wz hSw; (try dsimp only at hSw); have zc := KT7.out _ hSw; have z0 := zc.1; have z1 := zc.2.1; have z2 := zc.2.2.1; have z3 := zc.2.2.2; clear zc; go_simp; try with_reducible rfl)
        (try simp only [Act.put, List.setIfInBounds_toArray, List.set_cons_zero, List.set_cons_succ])
        refine WD_take (i := 2) (oi := { dst := some 23, op := Go.Op.load 44 (Go.Operand.tmp 5), type := 44, pos := _, after := #[], guard := none }) (v := ?vc2) rfl (by kernel_rfl) (by kernel_rfl) (by kernel_rfl) (by kernel_rfl) (fun _ _ _ h => h) (Or.inl ⟨by rfl, ?hyc2⟩) hHeld ?_
        case hyc2 => (intro wz hSw; (try dsimp only at hSw); have zc := KX.out _ hSw; have z0 := zc.1; have z1 := zc.2.1; have z2 := zc.2.2.1; have z3 := zc.2.2.2; clear zc; go_simp; try with_reducible rfl)
        (try simp only [Act.put, List.setIfInBounds_toArray, List.set_cons_zero, List.set_cons_succ])
        refine WD_ready (rs := [1]) (by kernel_rfl) (by simp) ?_
        refine AllD.cons (o := _) rfl (fun K hK => ?_) AllD.nil
        rw [if_pos (by rfl)]
        go_simp
        refine (GT.out _ hHeld).mono ?_; rintro e w_8 ⟨rfl, b_8⟩
        try go_wp2_with fail
        refine hK.out _ _ (bt hHeld b_8) (fun hHeld => ?_)
        clear hK K
        (try simp only [Act.put, List.setIfInBounds_toArray, List.set_cons_zero, List.set_cons_succ])
        clear b_8
        refine WD_ready (rs := [3]) (by kernel_rfl) (by simp) ?_
        refine AllD.cons (o := _) rfl (fun K hK => ?_) AllD.nil
        rw [if_pos (by rfl)]
        go_simp
        refine (GX.out _ hHeld).mono ?_; rintro e w_9 ⟨rfl, b_9⟩
        try go_wp2_with fail
        refine hK.out _ _ (bt hHeld b_9) (fun hHeld => ?_)
        clear hK K
        (try simp only [Act.put, List.setIfInBounds_toArray, List.set_cons_zero, List.set_cons_succ])
        clear b_9
        refine WD_take (i := 4) (oi := { dst := some 25, op := Go.Op.binOp Go.BinOp.eql 4 (Go.Operand.tmp 22) (Go.Operand.tmp 24) 4, type := 4, pos := _, after := #[{ on := 1, ground := Go.Ground.data }, { on := 3, ground := Go.Ground.data }], guard := none }) (v := ?vc4) rfl (by kernel_rfl) (by kernel_rfl) (by kernel_rfl) (by kernel_rfl) (fun _ _ _ h => h) (Or.inl ⟨by rfl, ?hyc4⟩) hHeld ?_
        case hyc4 => (intro wz hSw; (try dsimp only at hSw); go_simp; try with_reducible rfl)
        (try simp only [Act.put, List.setIfInBounds_toArray, List.set_cons_zero, List.set_cons_succ])
        refine WD_take (i := 5) (oi := { dst := some 26, op := Go.Op.move (Go.Operand.tmp 25), type := 4, pos := _, after := #[{ on := 4, ground := Go.Ground.data }, { on := 3, ground := Go.Ground.chain }], guard := none }) (v := ?vc5) rfl (by kernel_rfl) (by kernel_rfl) (by kernel_rfl) (by kernel_rfl) (fun _ _ _ h => h) (Or.inl ⟨by rfl, ?hyc5⟩) hHeld ?_
        case hyc5 => (intro wz hSw; (try dsimp only at hSw); go_simp; try with_reducible rfl)
        (try simp only [Act.put, List.setIfInBounds_toArray, List.set_cons_zero, List.set_cons_succ])
        refine WD_take (i := 6) (oi := { dst := some 27, op := Go.Op.load 27 (Go.Operand.tmp 2), type := 27, pos := _, after := #[{ on := 5, ground := Go.Ground.guard }], guard := some (5, true) }) (v := ?vc6) rfl (by kernel_rfl) (by kernel_rfl) (by kernel_rfl) (by kernel_rfl) (fun _ _ _ h => h) (Or.inl ⟨by rfl, ?hyc6⟩) hHeld ?_
        case hyc6 => (intro wz hSw; (try dsimp only at hSw); have zc := KT7.out _ hSw; have z0 := zc.1; have z1 := zc.2.1; have z2 := zc.2.2.1; have z3 := zc.2.2.2; clear zc; go_simp; try with_reducible rfl)
        (try simp only [Act.put, List.setIfInBounds_toArray, List.set_cons_zero, List.set_cons_succ])
        refine WD_take (i := 7) (oi := { dst := some 28, op := Go.Op.load 27 (Go.Operand.tmp 3), type := 27, pos := _, after := #[{ on := 5, ground := Go.Ground.guard }], guard := some (5, true) }) (v := ?vc7) rfl (by kernel_rfl) (by kernel_rfl) (by kernel_rfl) (by kernel_rfl) (fun _ _ _ h => h) (Or.inl ⟨by rfl, ?hyc7⟩) hHeld ?_
        case hyc7 => (intro wz hSw; (try dsimp only at hSw); have zc := KU7.out _ hSw; have z0 := zc.1; have z1 := zc.2.1; have z2 := zc.2.2.1; have z3 := zc.2.2.2; clear zc; go_simp; try with_reducible rfl)
        (try simp only [Act.put, List.setIfInBounds_toArray, List.set_cons_zero, List.set_cons_succ])
        refine WD_take (i := 9) (oi := { dst := some 30, op := Go.Op.load 44 (Go.Operand.tmp 5), type := 44, pos := _, after := #[{ on := 5, ground := Go.Ground.guard }], guard := some (5, true) }) (v := ?vc9) rfl (by kernel_rfl) (by kernel_rfl) (by kernel_rfl) (by kernel_rfl) (fun _ _ _ h => h) (Or.inl ⟨by rfl, ?hyc9⟩) hHeld ?_
        case hyc9 => (intro wz hSw; (try dsimp only at hSw); have zc := KX.out _ hSw; have z0 := zc.1; have z1 := zc.2.1; have z2 := zc.2.2.1; have z3 := zc.2.2.2; clear zc; go_simp; try with_reducible rfl)
        (try simp only [Act.put, List.setIfInBounds_toArray, List.set_cons_zero, List.set_cons_succ])
        refine WD_take (i := 10) (oi := { dst := some 31, op := Go.Op.load 44 (Go.Operand.tmp 6), type := 44, pos := _, after := #[{ on := 5, ground := Go.Ground.guard }], guard := some (5, true) }) (v := ?vc10) rfl (by kernel_rfl) (by kernel_rfl) (by kernel_rfl) (by kernel_rfl) (fun _ _ _ h => h) (Or.inl ⟨by rfl, ?hyc10⟩) hHeld ?_
        case hyc10 => (intro wz hSw; (try dsimp only at hSw); have zc := KY.out _ hSw; have z0 := zc.1; have z1 := zc.2.1; have z2 := zc.2.2.1; have z3 := zc.2.2.2; clear zc; go_simp; try with_reducible rfl)
        (try simp only [Act.put, List.setIfInBounds_toArray, List.set_cons_zero, List.set_cons_succ])
        refine WD_ready (rs := [8]) (by kernel_rfl) (by simp) ?_
        refine AllD.cons (o := _) rfl (fun K hK => ?_) AllD.nil
        rw [if_pos (by rfl)]
        go_simp
        refine (SM.out _ hHeld).mono ?_; rintro e w_10 ⟨rfl, b_10⟩
        try go_wp2_with fail
        refine hK.out _ _ (bt hHeld b_10) (fun hHeld => ?_)
        clear hK K
        (try simp only [Act.put, List.setIfInBounds_toArray, List.set_cons_zero, List.set_cons_succ])
        clear b_10
        refine WD_ready (rs := [11]) (by kernel_rfl) (by simp) ?_
        refine AllD.cons (o := _) rfl (fun K hK => ?_) AllD.nil
        rw [if_pos (by rfl)]
        go_simp
        refine (RM.out _ hHeld).mono ?_; rintro e w_11 ⟨rfl, b_11⟩
        try go_wp2_with fail
        refine hK.out _ _ (bt hHeld b_11) (fun hHeld => ?_)
        clear hK K
        (try simp only [Act.put, List.setIfInBounds_toArray, List.set_cons_zero, List.set_cons_succ])
        clear b_11
        refine WD_take (i := 12) (oi := { dst := some 33, op := Go.Op.binOp Go.BinOp.eql 4 (Go.Operand.tmp 29) (Go.Operand.tmp 32) 4, type := 4, pos := _, after := #[{ on := 8, ground := Go.Ground.data }, { on := 11, ground := Go.Ground.data }, { on := 5, ground := Go.Ground.guard }], guard := some (5, true) }) (v := ?vc12) rfl (by kernel_rfl) (by kernel_rfl) (by kernel_rfl) (by kernel_rfl) (fun _ _ _ h => h) (Or.inl ⟨by rfl, ?hyc12⟩) hHeld ?_
        case hyc12 => (intro wz hSw; (try dsimp only at hSw); go_simp; try with_reducible rfl)
        (try simp only [Act.put, List.setIfInBounds_toArray, List.set_cons_zero, List.set_cons_succ])
        refine WD_take (i := 13) (oi := { dst := some 34, op := Go.Op.pick (Go.Operand.tmp 26) (Go.Operand.tmp 33) (Go.Operand.const (Go.Value.bool false)), type := 4, pos := _, after := #[{ on := 5, ground := Go.Ground.data }, { on := 12, ground := Go.Ground.data }], guard := none }) (v := ?vc13) rfl (by kernel_rfl) (by kernel_rfl) (by kernel_rfl) (by kernel_rfl) (fun _ _ _ h => h) (Or.inl ⟨by rfl, ?hyc13⟩) hHeld ?_
        case hyc13 => (intro wz hSw; (try dsimp only at hSw); go_simp; try with_reducible rfl)
        (try simp only [Act.put, List.setIfInBounds_toArray, List.set_cons_zero, List.set_cons_succ])
        refine WD_take (i := 14) (oi := { dst := some 35, op := Go.Op.move (Go.Operand.tmp 34), type := 4, pos := _, after := #[{ on := 13, ground := Go.Ground.data }, { on := 11, ground := Go.Ground.chain }], guard := none }) (v := ?vc14) rfl (by kernel_rfl) (by kernel_rfl) (by kernel_rfl) (by kernel_rfl) (fun _ _ _ h => h) (Or.inl ⟨by rfl, ?hyc14⟩) hHeld ?_
        case hyc14 => (intro wz hSw; (try dsimp only at hSw); go_simp; try with_reducible rfl)
        (try simp only [Act.put, List.setIfInBounds_toArray, List.set_cons_zero, List.set_cons_succ])
        refine WD_take (i := 15) (oi := { dst := some 36, op := Go.Op.load 27 (Go.Operand.tmp 2), type := 27, pos := _, after := #[{ on := 14, ground := Go.Ground.guard }], guard := some (14, true) }) (v := ?vc15) rfl (by kernel_rfl) (by kernel_rfl) (by kernel_rfl) (by kernel_rfl) (fun _ _ _ h => h) (Or.inl ⟨by rfl, ?hyc15⟩) hHeld ?_
        case hyc15 => (intro wz hSw; (try dsimp only at hSw); have zc := KT7.out _ hSw; have z0 := zc.1; have z1 := zc.2.1; have z2 := zc.2.2.1; have z3 := zc.2.2.2; clear zc; go_simp; try with_reducible rfl)
        (try simp only [Act.put, List.setIfInBounds_toArray, List.set_cons_zero, List.set_cons_succ])
        refine WD_take (i := 17) (oi := { dst := some 38, op := Go.Op.load 44 (Go.Operand.tmp 5), type := 44, pos := _, after := #[{ on := 14, ground := Go.Ground.guard }], guard := some (14, true) }) (v := ?vc17) rfl (by kernel_rfl) (by kernel_rfl) (by kernel_rfl) (by kernel_rfl) (fun _ _ _ h => h) (Or.inl ⟨by rfl, ?hyc17⟩) hHeld ?_
        case hyc17 => (intro wz hSw; (try dsimp only at hSw); have zc := KX.out _ hSw; have z0 := zc.1; have z1 := zc.2.1; have z2 := zc.2.2.1; have z3 := zc.2.2.2; clear zc; go_simp; try with_reducible rfl)
        (try simp only [Act.put, List.setIfInBounds_toArray, List.set_cons_zero, List.set_cons_succ])
        refine WD_ready (rs := [16]) (by kernel_rfl) (by simp) ?_
        refine AllD.cons (o := _) rfl (fun K hK => ?_) AllD.nil
        rw [if_pos (by rfl)]
        go_simp
        refine (ZT.out _ hHeld).mono ?_; rintro e w_12 ⟨rfl, b_12⟩
        try go_wp2_with fail
        refine hK.out _ _ (bt hHeld b_12) (fun hHeld => ?_)
        clear hK K
        (try simp only [Act.put, List.setIfInBounds_toArray, List.set_cons_zero, List.set_cons_succ])
        clear b_12
        refine WD_ready (rs := [18]) (by kernel_rfl) (by simp) ?_
        refine AllD.cons (o := _) rfl (fun K hK => ?_) AllD.nil
        rw [if_pos (by rfl)]
        go_simp
        refine (ZX.out _ hHeld).mono ?_; rintro e w_13 ⟨rfl, b_13⟩
        try go_wp2_with fail
        refine hK.out _ _ (bt hHeld b_13) (fun hHeld => ?_)
        clear hK K
        (try simp only [Act.put, List.setIfInBounds_toArray, List.set_cons_zero, List.set_cons_succ])
        clear b_13
        refine WD_take (i := 19) (oi := { dst := some 40, op := Go.Op.binOp Go.BinOp.eql 3 (Go.Operand.tmp 37) (Go.Operand.tmp 39) 3, type := 4, pos := _, after := #[{ on := 16, ground := Go.Ground.data }, { on := 18, ground := Go.Ground.data }, { on := 14, ground := Go.Ground.guard }], guard := some (14, true) }) (v := ?vc19) rfl (by kernel_rfl) (by kernel_rfl) (by kernel_rfl) (by kernel_rfl) (fun _ _ _ h => h) (Or.inl ⟨by rfl, ?hyc19⟩) hHeld ?_
        case hyc19 => (intro wz hSw; (try dsimp only at hSw); go_simp; try with_reducible rfl)
        (try simp only [Act.put, List.setIfInBounds_toArray, List.set_cons_zero, List.set_cons_succ])
        refine WD_take (i := 20) (oi := { dst := some 41, op := Go.Op.pick (Go.Operand.tmp 35) (Go.Operand.tmp 40) (Go.Operand.const (Go.Value.bool false)), type := 4, pos := _, after := #[{ on := 14, ground := Go.Ground.data }, { on := 19, ground := Go.Ground.data }], guard := none }) (v := ?vc20) rfl (by kernel_rfl) (by kernel_rfl) (by kernel_rfl) (by kernel_rfl) (fun _ _ _ h => h) (Or.inl ⟨by rfl, ?hyc20⟩) hHeld ?_
        case hyc20 => (intro wz hSw; (try dsimp only at hSw); go_simp; try with_reducible rfl)
        (try simp only [Act.put, List.setIfInBounds_toArray, List.set_cons_zero, List.set_cons_succ])
        refine WD_take (i := 21) (oi := { dst := some 42, op := Go.Op.move (Go.Operand.tmp 41), type := 4, pos := _, after := #[{ on := 20, ground := Go.Ground.data }, { on := 18, ground := Go.Ground.chain }], guard := none }) (v := ?vc21) rfl (by kernel_rfl) (by kernel_rfl) (by kernel_rfl) (by kernel_rfl) (fun _ _ _ h => h) (Or.inl ⟨by rfl, ?hyc21⟩) hHeld ?_
        case hyc21 => (intro wz hSw; (try dsimp only at hSw); go_simp; try with_reducible rfl)
        (try simp only [Act.put, List.setIfInBounds_toArray, List.set_cons_zero, List.set_cons_succ])
        refine WD_take (i := 22) (oi := { dst := some 43, op := Go.Op.load 27 (Go.Operand.tmp 2), type := 27, pos := _, after := #[{ on := 21, ground := Go.Ground.guard }], guard := some (21, true) }) (v := ?vc22) rfl (by kernel_rfl) (by kernel_rfl) (by kernel_rfl) (by kernel_rfl) (fun _ _ _ h => h) (Or.inl ⟨by rfl, ?hyc22⟩) hHeld ?_
        case hyc22 => (intro wz hSw; (try dsimp only at hSw); have zc := KT7.out _ hSw; have z0 := zc.1; have z1 := zc.2.1; have z2 := zc.2.2.1; have z3 := zc.2.2.2; clear zc; go_simp; try with_reducible rfl)
        (try simp only [Act.put, List.setIfInBounds_toArray, List.set_cons_zero, List.set_cons_succ])
        refine WD_ready (rs := [23]) (by kernel_rfl) (by simp) ?_
        refine AllD.cons (o := _) rfl (fun K hK => ?_) AllD.nil
        rw [if_pos (by rfl)]
        go_simp
        refine (GT.out _ hHeld).mono ?_; rintro e w_14 ⟨rfl, b_14⟩
        try go_wp2_with fail
        refine hK.out _ _ (bt hHeld b_14) (fun hHeld => ?_)
        clear hK K
        (try simp only [Act.put, List.setIfInBounds_toArray, List.set_cons_zero, List.set_cons_succ])
        clear b_14
        refine WD_take (i := 24) (oi := { dst := some 45, op := Go.Op.unOp Go.UnOp.not 4 (Go.Operand.tmp 44), type := 4, pos := _, after := #[{ on := 23, ground := Go.Ground.data }, { on := 21, ground := Go.Ground.guard }], guard := some (21, true) }) (v := ?vc24) rfl (by kernel_rfl) (by kernel_rfl) (by kernel_rfl) (by kernel_rfl) (fun _ _ _ h => h) (Or.inl ⟨by rfl, ?hyc24⟩) hHeld ?_
        case hyc24 => (intro wz hSw; (try dsimp only at hSw); go_simp; try with_reducible rfl)
        (try simp only [Act.put, List.setIfInBounds_toArray, List.set_cons_zero, List.set_cons_succ])
        refine WD_take (i := 25) (oi := { dst := some 46, op := Go.Op.move (Go.Operand.tmp 45), type := 4, pos := _, after := #[{ on := 24, ground := Go.Ground.data }, { on := 23, ground := Go.Ground.chain }, { on := 21, ground := Go.Ground.guard }], guard := some (21, true) }) (v := ?vc25) rfl (by kernel_rfl) (by kernel_rfl) (by kernel_rfl) (by kernel_rfl) (fun _ _ _ h => h) (Or.inl ⟨by rfl, ?hyc25⟩) hHeld ?_
        case hyc25 => (intro wz hSw; (try dsimp only at hSw); go_simp; try with_reducible rfl)
        (try simp only [Act.put, List.setIfInBounds_toArray, List.set_cons_zero, List.set_cons_succ])
        refine WD_take (i := 26) (oi := { dst := some 47, op := Go.Op.load 27 (Go.Operand.tmp 2), type := 27, pos := _, after := #[{ on := 25, ground := Go.Ground.guard }], guard := some (25, false) }) (v := ?vc26) rfl (by kernel_rfl) (by kernel_rfl) (by kernel_rfl) (by kernel_rfl) (fun _ _ _ h => h) (Or.inl ⟨by rfl, ?hyc26⟩) hHeld ?_
        case hyc26 => (intro wz hSw; (try dsimp only at hSw); have zc := KT7.out _ hSw; have z0 := zc.1; have z1 := zc.2.1; have z2 := zc.2.2.1; have z3 := zc.2.2.2; clear zc; go_simp; try with_reducible rfl)
        (try simp only [Act.put, List.setIfInBounds_toArray, List.set_cons_zero, List.set_cons_succ])
        refine WD_take (i := 28) (oi := { dst := some 49, op := Go.Op.load 44 (Go.Operand.tmp 5), type := 44, pos := _, after := #[{ on := 25, ground := Go.Ground.guard }], guard := some (25, false) }) (v := ?vc28) rfl (by kernel_rfl) (by kernel_rfl) (by kernel_rfl) (by kernel_rfl) (fun _ _ _ h => h) (Or.inl ⟨by rfl, ?hyc28⟩) hHeld ?_
        case hyc28 => (intro wz hSw; (try dsimp only at hSw); have zc := KX.out _ hSw; have z0 := zc.1; have z1 := zc.2.1; have z2 := zc.2.2.1; have z3 := zc.2.2.2; clear zc; go_simp; try with_reducible rfl)
        (try simp only [Act.put, List.setIfInBounds_toArray, List.set_cons_zero, List.set_cons_succ])
        refine WD_ready (rs := [27]) (by kernel_rfl) (by simp) ?_
        refine AllD.cons (o := _) rfl (fun K hK => ?_) AllD.nil
        rw [if_pos (by rfl)]
        go_simp
        refine (ST.out _ hHeld).mono ?_; rintro e w_15 ⟨rfl, b_15⟩
        try go_wp2_with fail
        refine hK.out _ _ (bt hHeld b_15) (fun hHeld => ?_)
        clear hK K
        (try simp only [Act.put, List.setIfInBounds_toArray, List.set_cons_zero, List.set_cons_succ])
        clear b_15
        refine WD_ready (rs := [29]) (by kernel_rfl) (by simp) ?_
        refine AllD.cons (o := _) rfl (fun K hK => ?_) AllD.nil
        rw [if_pos (by rfl)]
        go_simp
        refine (SX.out _ hHeld).mono ?_; rintro e w_16 ⟨rfl, b_16⟩
        try go_wp2_with fail
        refine hK.out _ _ (bt hHeld b_16) (fun hHeld => ?_)
        clear hK K
        (try simp only [Act.put, List.setIfInBounds_toArray, List.set_cons_zero, List.set_cons_succ])
        clear b_16
        refine WD_take (i := 30) (oi := { dst := some 51, op := Go.Op.binOp Go.BinOp.eql 9 (Go.Operand.tmp 48) (Go.Operand.tmp 50) 9, type := 4, pos := _, after := #[{ on := 27, ground := Go.Ground.data }, { on := 29, ground := Go.Ground.data }, { on := 25, ground := Go.Ground.guard }], guard := some (25, false) }) (v := ?vc30) rfl (by kernel_rfl) (by kernel_rfl) (by kernel_rfl) (by kernel_rfl) (fun _ _ _ h => h) (Or.inl ⟨by rfl, ?hyc30⟩) hHeld ?_
        case hyc30 => (intro wz hSw; (try dsimp only at hSw); go_simp; try with_reducible rfl)
        (try simp only [Act.put, List.setIfInBounds_toArray, List.set_cons_zero, List.set_cons_succ])
        refine WD_take (i := 31) (oi := { dst := some 52, op := Go.Op.move (Go.Operand.tmp 51), type := 4, pos := _, after := #[{ on := 30, ground := Go.Ground.data }, { on := 29, ground := Go.Ground.chain }, { on := 25, ground := Go.Ground.guard }], guard := some (25, false) }) (v := ?vc31) rfl (by kernel_rfl) (by kernel_rfl) (by kernel_rfl) (by kernel_rfl) (fun _ _ _ h => h) (Or.inl ⟨by rfl, ?hyc31⟩) hHeld ?_
        case hyc31 => (intro wz hSw; (try dsimp only at hSw); go_simp; try with_reducible rfl)
        (try simp only [Act.put, List.setIfInBounds_toArray, List.set_cons_zero, List.set_cons_succ])
        refine WD_take (i := 32) (oi := { dst := some 53, op := Go.Op.load 27 (Go.Operand.tmp 2), type := 27, pos := _, after := #[{ on := 31, ground := Go.Ground.guard }], guard := some (31, true) }) (v := ?vc32) rfl (by kernel_rfl) (by kernel_rfl) (by kernel_rfl) (by kernel_rfl) (fun _ _ _ h => h) (Or.inl ⟨by rfl, ?hyc32⟩) hHeld ?_
        case hyc32 => (intro wz hSw; (try dsimp only at hSw); have zc := KT7.out _ hSw; have z0 := zc.1; have z1 := zc.2.1; have z2 := zc.2.2.1; have z3 := zc.2.2.2; clear zc; go_simp; try with_reducible rfl)
        (try simp only [Act.put, List.setIfInBounds_toArray, List.set_cons_zero, List.set_cons_succ])
        refine WD_take (i := 34) (oi := { dst := some 55, op := Go.Op.load 44 (Go.Operand.tmp 5), type := 44, pos := _, after := #[{ on := 31, ground := Go.Ground.guard }], guard := some (31, true) }) (v := ?vc34) rfl (by kernel_rfl) (by kernel_rfl) (by kernel_rfl) (by kernel_rfl) (fun _ _ _ h => h) (Or.inl ⟨by rfl, ?hyc34⟩) hHeld ?_
        case hyc34 => (intro wz hSw; (try dsimp only at hSw); have zc := KX.out _ hSw; have z0 := zc.1; have z1 := zc.2.1; have z2 := zc.2.2.1; have z3 := zc.2.2.2; clear zc; go_simp; try with_reducible rfl)
        (try simp only [Act.put, List.setIfInBounds_toArray, List.set_cons_zero, List.set_cons_succ])
        refine WD_ready (rs := [33]) (by kernel_rfl) (by simp) ?_
        refine AllD.cons (o := _) rfl (fun K hK => ?_) AllD.nil
        rw [if_pos (by rfl)]
        go_simp
        refine (VT.out _ hHeld).mono ?_; rintro e w33 ⟨A33, c33, rfl, o33, b33⟩
        try go_wp2_with fail
        refine hK.out _ _ (bt hHeld b33.out) (fun hHeld => ?_)
        clear hK K
        (try simp only [Act.put, List.setIfInBounds_toArray, List.set_cons_zero, List.set_cons_succ])
        have R33 := Lib.hid (own_irow o33.out rfl)
        clear b33 o33
        have G33 := Lib.hid hHeld
        refine WD_ready (rs := [35]) (by kernel_rfl) (by simp) ?_
        refine AllD.cons (o := _) rfl (fun K hK => ?_) AllD.nil
        rw [if_pos (by rfl)]
        go_simp
        refine (VX.out _ G33.out).mono ?_; rintro e w35 ⟨A35, c35, rfl, ir35, nl35, b35⟩
        try go_wp2_with fail
        refine hK.out _ _ (bt hHeld b35) (fun hHeld => ?_)
        clear hK K
        (try simp only [Act.put, List.setIfInBounds_toArray, List.set_cons_zero, List.set_cons_succ])
        have R35 := Lib.hid (R33.out.later b35)
        have Q35 := Lib.hid ir35
        clear b35 ir35 nl35
        have H36 := Lib.hid hHeld
        clear hHeld
        refine WD_ready (rs := [36]) (by kernel_rfl) (by simp) ?_
        refine AllD.last (o := _) rfl (by kernel_rfl) (fun K hK => ?_) AllD.nil
        rw [if_pos (by rfl)]
        go_simp
        refine (ints_same HVL.out R35.out Q35.out).mono ?_; rintro e w36 ⟨rfl, b36⟩
        try go_wp2_with fail
        refine hK.out _ _ ?_
        clear hK K
        (try simp only [Act.put, List.setIfInBounds_toArray, List.set_cons_zero, List.set_cons_succ])
        refine WD_takeAny (i := 37) (oi := { dst := some 58, op := Go.Op.pick (Go.Operand.tmp 52) (Go.Operand.tmp 57) (Go.Operand.const (Go.Value.bool false)), type := 4, pos := _, after := #[{ on := 31, ground := Go.Ground.data }, { on := 36, ground := Go.Ground.data }, { on := 25, ground := Go.Ground.guard }], guard := some (25, false) }) (v := ?vc37) rfl (by kernel_rfl) (by kernel_rfl) (by kernel_rfl) (by kernel_rfl) (fun _ _ _ h => h) (Or.inl ⟨by rfl, ?hyc37⟩) ?_
        case hyc37 => (intro wz _; go_simp; try with_reducible rfl)
        (try simp only [Act.put, List.setIfInBounds_toArray, List.set_cons_zero, List.set_cons_succ])
        refine WD_takeAny (i := 38) (oi := { dst := some 59, op := Go.Op.pick (Go.Operand.tmp 46) (Go.Operand.const (Go.Value.bool true)) (Go.Operand.tmp 58), type := 4, pos := _, after := #[{ on := 25, ground := Go.Ground.data }, { on := 37, ground := Go.Ground.data }, { on := 21, ground := Go.Ground.guard }], guard := some (21, true) }) (v := ?vc38) rfl (by kernel_rfl) (by kernel_rfl) (by kernel_rfl) (by kernel_rfl) (fun _ _ _ h => h) (Or.inl ⟨by rfl, ?hyc38⟩) ?_
        case hyc38 => (intro wz _; go_simp; try with_reducible rfl)
        (try simp only [Act.put, List.setIfInBounds_toArray, List.set_cons_zero, List.set_cons_succ])
        refine WD_takeAny (i := 39) (oi := { dst := some 60, op := Go.Op.pick (Go.Operand.tmp 42) (Go.Operand.tmp 59) (Go.Operand.const (Go.Value.bool false)), type := 4, pos := _, after := #[{ on := 21, ground := Go.Ground.data }, { on := 38, ground := Go.Ground.data }], guard := none }) (v := ?vc39) rfl (by kernel_rfl) (by kernel_rfl) (by kernel_rfl) (by kernel_rfl) (fun _ _ _ h => h) (Or.inl ⟨by rfl, ?hyc39⟩) ?_
        case hyc39 => (intro wz _; go_simp; try with_reducible rfl)
        (try simp only [Act.put, List.setIfInBounds_toArray, List.set_cons_zero, List.set_cons_succ])
        refine WD_takeAny (i := 40) (oi := { dst := some 4, op := Go.Op.assign (Go.Operand.tmp 60), type := 4, pos := _, after := #[{ on := 39, ground := Go.Ground.data }, { on := 36, ground := Go.Ground.chain }, { on := 0, ground := Go.Ground.phase }, { on := 1, ground := Go.Ground.phase }, { on := 2, ground := Go.Ground.phase }, { on := 3, ground := Go.Ground.phase }, { on := 4, ground := Go.Ground.phase }, { on := 5, ground := Go.Ground.phase }, { on := 6, ground := Go.Ground.phase }, { on := 7, ground := Go.Ground.phase }, { on := 8, ground := Go.Ground.phase }, { on := 9, ground := Go.Ground.phase }, { on := 10, ground := Go.Ground.phase }, { on := 11, ground := Go.Ground.phase }, { on := 12, ground := Go.Ground.phase }, { on := 13, ground := Go.Ground.phase }, { on := 14, ground := Go.Ground.phase }, { on := 15, ground := Go.Ground.phase }, { on := 16, ground := Go.Ground.phase }, { on := 17, ground := Go.Ground.phase }, { on := 18, ground := Go.Ground.phase }, { on := 19, ground := Go.Ground.phase }, { on := 20, ground := Go.Ground.phase }, { on := 21, ground := Go.Ground.phase }, { on := 22, ground := Go.Ground.phase }, { on := 23, ground := Go.Ground.phase }, { on := 24, ground := Go.Ground.phase }, { on := 25, ground := Go.Ground.phase }, { on := 26, ground := Go.Ground.phase }, { on := 27, ground := Go.Ground.phase }, { on := 28, ground := Go.Ground.phase }, { on := 29, ground := Go.Ground.phase }, { on := 30, ground := Go.Ground.phase }, { on := 31, ground := Go.Ground.phase }, { on := 32, ground := Go.Ground.phase }, { on := 33, ground := Go.Ground.phase }, { on := 34, ground := Go.Ground.phase }, { on := 35, ground := Go.Ground.phase }, { on := 36, ground := Go.Ground.phase }, { on := 37, ground := Go.Ground.phase }, { on := 38, ground := Go.Ground.phase }, { on := 39, ground := Go.Ground.phase }], guard := none }) (v := ?vc40) rfl (by kernel_rfl) (by kernel_rfl) (by kernel_rfl) (by kernel_rfl) (fun _ _ _ h => h) (Or.inl ⟨by rfl, ?hyc40⟩) ?_
        case hyc40 => (intro wz _; go_simp; try with_reducible rfl)
        (try simp only [Act.put, List.setIfInBounds_toArray, List.set_cons_zero, List.set_cons_succ])
        refine WD_done (by kernel_rfl) ?_ _
        have HE := bt H36.out b36
        have FIN := Lib.hid (bt HBJ.out HE)
        clear HE
        go_wp2
        go_ret
        exact ⟨rfl, FIN.out⟩
    all_goals exact hq.elim
  clear hK K
  as_aux_lemma =>
  refine wp_region_D [7] (fun w' => Below wC.heap.size wC w') (by kernel_rfl) (bdr wC) (fun hHeld => ?_)
  refine WD_take (i := 0) (oi := { dst := some 17, op := Go.Op.load 27 (Go.Operand.tmp 2), type := 27, pos := _, after := #[], guard := none }) (v := ?va0) rfl (by kernel_rfl) (by kernel_rfl) (by kernel_rfl) (by kernel_rfl) (fun _ _ _ h => h) (Or.inl ⟨by rfl, ?hya0⟩) hHeld ?_
  case hya0 => (intro wz hSw; (try dsimp only at hSw); have zc := KT.out _ (bt BC.out hSw); have z0 := zc.1; have z1 := zc.2.1; have z2 := zc.2.2.1; have z3 := zc.2.2.2; clear zc; go_simp; try with_reducible rfl)
  (try simp only [Act.put, List.setIfInBounds_toArray, List.set_cons_zero, List.set_cons_succ])
  refine WD_take (i := 2) (oi := { dst := some 19, op := Go.Op.load 27 (Go.Operand.tmp 3), type := 27, pos := _, after := #[], guard := none }) (v := ?va2) rfl (by kernel_rfl) (by kernel_rfl) (by kernel_rfl) (by kernel_rfl) (fun _ _ _ h => h) (Or.inl ⟨by rfl, ?hya2⟩) hHeld ?_
  case hya2 => (intro wz hSw; (try dsimp only at hSw); have zc := KU.out _ (bt BC.out hSw); have z0 := zc.1; have z1 := zc.2.1; have z2 := zc.2.2.1; have z3 := zc.2.2.2; clear zc; go_simp; try with_reducible rfl)
  (try simp only [Act.put, List.setIfInBounds_toArray, List.set_cons_zero, List.set_cons_succ])
  obtain ⟨w_0, hw_0⟩ : ∃ z, z = wC.drew := ⟨_, rfl⟩
  rw [← hw_0] at hHeld ⊢
  have B_0 := Lib.hid hHeld
  have ZL_0 : Hid (∀ x ∈ ([] : List Nat), x < w_0.heap.size) := Lib.hid (fun x hx => by cases hx)
  clear hw_0 hHeld
  refine WD_ready (rs := [1, 4, 5]) (by kernel_rfl) (by simp) ?_
  refine AllD.cons (o := _) rfl (fun K hK => ?_) (AllD.cons (o := _) rfl (fun K hK => ?_) (AllD.cons (o := _) rfl (fun K hK => ?_) AllD.nil))
  · rw [if_pos (by rfl)]
    go_simp
    refine (C1.out _ B_0.out).mono ?_; rintro e w_17 ⟨B1, e1, rfl, r_17, l_17⟩
    unfold tv
    try go_wp2_with fail
    refine hK.out _ _ (bt B_0.out l_17) (fun hHeld => ?_)
    clear hK K
    (try simp only [Act.put, List.setIfInBounds_toArray, List.set_cons_zero, List.set_cons_succ])
    clear hHeld
    have LB_17 := Lib.hid l_17
    have D_17 := Lib.hid (Frm.of_below l_17 (Nat.le_refl _) (fun _ => False))
    have B_17 := Lib.hid (bt B_0.out LB_17.out)
    have ZL_17 : Hid (∀ x ∈ ([] : List Nat), x < w_17.heap.size) := Lib.hid (fun x hx => Nat.lt_of_lt_of_le (ZL_0.out x hx) D_17.out.size)
    have T1_17 := Lib.hid (r_17.weak (P' := fun b => b ∉ ([] : List Nat)) (fun b _ hp => notin_ge ZL_0.out hp))
    clear r_17 l_17
    refine WD_ready (rs := [3, 4, 5]) (by kernel_rfl) (by simp) ?_
    refine AllD.cons (o := _) rfl (fun K hK => ?_) (AllD.cons (o := _) rfl (fun K hK => ?_) (AllD.cons (o := _) rfl (fun K hK => ?_) AllD.nil))
    · rw [if_pos (by rfl)]
      go_simp
      refine (C2.out _ B_17.out).mono ?_; rintro e w_18 ⟨B2, e2, rfl, r_18, l_18⟩
      unfold tv
      try go_wp2_with fail
      refine hK.out _ _ (bt B_17.out l_18) (fun hHeld => ?_)
      clear hK K
      (try simp only [Act.put, List.setIfInBounds_toArray, List.set_cons_zero, List.set_cons_succ])
      clear hHeld
      have LB_18 := Lib.hid l_18
      have D_18 := Lib.hid (Frm.of_below l_18 (Nat.le_refl _) (fun _ => False))
      have T1_18 := Lib.hid (T1_17.out.move (w' := w_18) (P' := fun b => b ∉ ([] : List Nat)) (fun b hb hp => ⟨D_18.out.block b hb (fun e => e), hp⟩) D_18.out.size)
      have B_18 := Lib.hid (bt B_17.out LB_18.out)
      have ZL_18 : Hid (∀ x ∈ ([] : List Nat), x < w_18.heap.size) := Lib.hid (fun x hx => Nat.lt_of_lt_of_le (ZL_17.out x hx) D_18.out.size)
      have T2_18 := Lib.hid (r_18.weak (P' := fun b => b ∉ ([] : List Nat)) (fun b _ hp => notin_ge ZL_17.out hp))
      clear r_18 l_18
      refine WD_ready (rs := [4, 5]) (by kernel_rfl) (by simp) ?_
      refine AllD.cons (o := _) rfl (fun K hK => ?_) (AllD.cons (o := _) rfl (fun K hK => ?_) AllD.nil)
      · rw [if_pos (by rfl)]
        go_simp
        refine hK.out _ _ (bt B_18.out (below_alloc w_18 _)) (fun hHeld => ?_)
        clear hK K
        (try simp only [Act.put, List.setIfInBounds_toArray, List.set_cons_zero, List.set_cons_succ])
        obtain ⟨w_19, hw_19⟩ : ∃ z, z = w_18.alloc (.cells #[.int .i64 0, .string ⟨#[]⟩, .int .i64 0, .slice none 0 0] 44) := ⟨_, rfl⟩
        try rw [← hw_19]
        clear hHeld
        have LB_19 : Hid (Below w_18.heap.size w_18 w_19) := Lib.hid (by rw [hw_19]; exact below_alloc w_18 _)
        have D_19 := Lib.hid (Frm.of_below LB_19.out (Nat.le_refl _) (fun _ => False))
        have N_19 : Hid (w_19.heap[w_18.heap.size]? = some (.cells #[.int .i64 0, .string ⟨#[]⟩, .int .i64 0, .slice none 0 0] 44 (0, 0))) := Lib.hid (by rw [hw_19]; exact heap_alloc_new w_18 _)
        obtain ⟨X, hZ_19⟩ : ∃ Z, Z = w_18.heap.size := ⟨_, rfl⟩
        rw [← hZ_19] at N_19 ⊢
        have T1_19 := Lib.hid (T1_18.out.move (w' := w_19) (P' := fun b => b ∉ ([X] : List Nat)) (fun b hb hp => ⟨D_19.out.block b hb (fun e => e), by rw [List.mem_cons, not_or]; exact ⟨by have h0 := hb; rw [← hZ_19] at h0; exact Nat.ne_of_lt h0, hp⟩⟩) D_19.out.size)
        have T2_19 := Lib.hid (T2_18.out.move (w' := w_19) (P' := fun b => b ∉ ([X] : List Nat)) (fun b hb hp => ⟨D_19.out.block b hb (fun e => e), by rw [List.mem_cons, not_or]; exact ⟨by have h0 := hb; rw [← hZ_19] at h0; exact Nat.ne_of_lt h0, hp⟩⟩) D_19.out.size)
        have B_19 := Lib.hid (bt B_18.out LB_19.out)
        have ZL_19 : Hid (∀ x ∈ ([X] : List Nat), x < w_19.heap.size) := Lib.hid (fun x hx => by rcases List.mem_cons.1 hx with h | h; (rw [h]; exact (Array.getElem?_eq_some_iff.1 N_19.out).1); exact Nat.lt_of_lt_of_le (ZL_18.out x h) D_19.out.size)
        have ZX_19 : Hid (wC.heap.size ≤ X) := Lib.hid (by rw [hZ_19]; exact B_18.out.size)
        clear hw_19 hZ_19
        refine WD_ready (rs := [5]) (by kernel_rfl) (by simp) ?_
        refine AllD.cons (o := _) rfl (fun K hK => ?_) AllD.nil
        rw [if_pos (by rfl)]
        go_simp
        refine hK.out _ _ (bt B_19.out (below_alloc w_19 _)) (fun hHeld => ?_)
        clear hK K
        (try simp only [Act.put, List.setIfInBounds_toArray, List.set_cons_zero, List.set_cons_succ])
        obtain ⟨w_20, hw_20⟩ : ∃ z, z = w_19.alloc (.cells #[.int .i64 0, .string ⟨#[]⟩, .int .i64 0, .slice none 0 0] 44) := ⟨_, rfl⟩
        try rw [← hw_20]
        clear hHeld
        have LB_20 : Hid (Below w_19.heap.size w_19 w_20) := Lib.hid (by rw [hw_20]; exact below_alloc w_19 _)
        have D_20 := Lib.hid (Frm.of_below LB_20.out (Nat.le_refl _) (fun _ => False))
        have N_20 : Hid (w_20.heap[w_19.heap.size]? = some (.cells #[.int .i64 0, .string ⟨#[]⟩, .int .i64 0, .slice none 0 0] 44 (0, 0))) := Lib.hid (by rw [hw_20]; exact heap_alloc_new w_19 _)
        obtain ⟨Y, hZ_20⟩ : ∃ Z, Z = w_19.heap.size := ⟨_, rfl⟩
        rw [← hZ_20] at N_20 ⊢
        have T1_20 := Lib.hid (T1_19.out.move (w' := w_20) (P' := fun b => b ∉ ([Y, X] : List Nat)) (fun b hb hp => ⟨D_20.out.block b hb (fun e => e), by rw [List.mem_cons, not_or]; exact ⟨by have h0 := hb; rw [← hZ_20] at h0; exact Nat.ne_of_lt h0, hp⟩⟩) D_20.out.size)
        have T2_20 := Lib.hid (T2_19.out.move (w' := w_20) (P' := fun b => b ∉ ([Y, X] : List Nat)) (fun b hb hp => ⟨D_20.out.block b hb (fun e => e), by rw [List.mem_cons, not_or]; exact ⟨by have h0 := hb; rw [← hZ_20] at h0; exact Nat.ne_of_lt h0, hp⟩⟩) D_20.out.size)
        have X0_20 := Lib.hid ((D_20.out.block X (Array.getElem?_eq_some_iff.1 N_19.out).1 (fun e => e)).trans N_19.out)
        have B_20 := Lib.hid (bt B_19.out LB_20.out)
        have ZL_20 : Hid (∀ x ∈ ([Y, X] : List Nat), x < w_20.heap.size) := Lib.hid (fun x hx => by rcases List.mem_cons.1 hx with h | h; (rw [h]; exact (Array.getElem?_eq_some_iff.1 N_20.out).1); exact Nat.lt_of_lt_of_le (ZL_19.out x h) D_20.out.size)
        have ZY_20 : Hid (wC.heap.size ≤ Y) := Lib.hid (by rw [hZ_20]; exact B_19.out.size)
        have XY_20 : Hid (X ≠ Y) := Lib.hid (by have h1 := (Array.getElem?_eq_some_iff.1 N_19.out).1; rw [← hZ_20] at h1; omega)
        clear hw_20 hZ_20
        refine WD_ready (rs := [6]) (by kernel_rfl) (by simp) ?_
        refine AllD.cons (o := _) rfl (fun K hK => ?_) AllD.nil
        obtain ⟨y0, y1, y2, y3⟩ := cells4 X0_20.out
        obtain ⟨k0, k1, k2, k3⟩ := froz4 X0_20.out
        rw [if_pos (by rfl)]
        go_simp
        refine hK.out _ _ (B_20.out.trans ((frm4 w_20 X (.int .i64 V.k) (.string V.nm) (.int .i64 V.vr) (.slice B1 V.args.length e1)).below (fun k hk => by have e2 : k = X := hk; have := ZX_19.out; omega) B_20.out.size)) (fun hHeld => ?_)
        clear hK K
        (try simp only [Act.put, List.setIfInBounds_toArray, List.set_cons_zero, List.set_cons_succ])
        clear hHeld
        obtain ⟨w_21, hw_21⟩ : ∃ z, z = ((((w_20.setCell ⟨X, 0, none⟩ (.int .i64 V.k)).setCell ⟨X, 1, none⟩ (.string V.nm)).setCell ⟨X, 2, none⟩ (.int .i64 V.vr)).setCell ⟨X, 3, none⟩ (.slice B1 V.args.length e1)) := ⟨_, rfl⟩
        try rw [← hw_21]
        have D_21 : Hid (Frm w_20 w_21 (· = X)) := Lib.hid (by rw [hw_21]; exact (frm4 w_20 X (.int .i64 V.k) (.string V.nm) (.int .i64 V.vr) (.slice B1 V.args.length e1)))
        have XF_21 : Hid (w_21.heap[X]? = some (.cells #[.int .i64 V.k, .string V.nm, .int .i64 V.vr, .slice B1 V.args.length e1] 44 (0, 0))) := Lib.hid (by rw [hw_21]; exact cells_all _ _ _ _ X0_20.out)
        have T1_21 := Lib.hid (T1_20.out.move (w' := w_21) (P' := fun b => b ∉ ([Y, X] : List Nat)) (fun b hb hp => ⟨D_21.out.block b hb (fun e => hp (by rw [show b = X from e]; simp)), hp⟩) D_21.out.size)
        have T2_21 := Lib.hid (T2_20.out.move (w' := w_21) (P' := fun b => b ∉ ([Y, X] : List Nat)) (fun b hb hp => ⟨D_21.out.block b hb (fun e => hp (by rw [show b = X from e]; simp)), hp⟩) D_21.out.size)
        have Y0_21 := Lib.hid ((D_21.out.block Y (Array.getElem?_eq_some_iff.1 N_20.out).1 (fun e => XY_20.out e.symm)).trans N_20.out)
        have B_21 := Lib.hid (B_20.out.trans (D_21.out.below (fun k hk => by have e2 : k = X := hk; have := ZX_19.out; omega) B_20.out.size))
        have ZL_21 : Hid (∀ x ∈ ([Y, X] : List Nat), x < w_21.heap.size) := Lib.hid (fun x hx => Nat.lt_of_lt_of_le (ZL_20.out x hx) D_21.out.size)
        clear hw_21 y0 y1 y2 y3 k0 k1 k2 k3
        refine WD_ready (rs := [7]) (by kernel_rfl) (by simp) ?_
        refine AllD.last (o := _) rfl (by kernel_rfl) (fun K hK => ?_) AllD.nil
        obtain ⟨y0, y1, y2, y3⟩ := cells4 Y0_21.out
        obtain ⟨k0, k1, k2, k3⟩ := froz4 Y0_21.out
        rw [if_pos (by rfl)]
        go_simp
        refine hK.out _ _ ?_
        clear hK K
        (try simp only [Act.put, List.setIfInBounds_toArray, List.set_cons_zero, List.set_cons_succ])
        obtain ⟨w_22, hw_22⟩ : ∃ z, z = ((((w_21.setCell ⟨Y, 0, none⟩ (.int .i64 U.k)).setCell ⟨Y, 1, none⟩ (.string U.nm)).setCell ⟨Y, 2, none⟩ (.int .i64 U.vr)).setCell ⟨Y, 3, none⟩ (.slice B2 U.args.length e2)) := ⟨_, rfl⟩
        try rw [← hw_22]
        have D_22 : Hid (Frm w_21 w_22 (· = Y)) := Lib.hid (by rw [hw_22]; exact (frm4 w_21 Y (.int .i64 U.k) (.string U.nm) (.int .i64 U.vr) (.slice B2 U.args.length e2)))
        have YF_22 : Hid (w_22.heap[Y]? = some (.cells #[.int .i64 U.k, .string U.nm, .int .i64 U.vr, .slice B2 U.args.length e2] 44 (0, 0))) := Lib.hid (by rw [hw_22]; exact cells_all _ _ _ _ Y0_21.out)
        have T1_22 := Lib.hid (T1_21.out.move (w' := w_22) (P' := fun b => b ∉ ([Y, X] : List Nat)) (fun b hb hp => ⟨D_22.out.block b hb (fun e => hp (by rw [show b = Y from e]; simp)), hp⟩) D_22.out.size)
        have T2_22 := Lib.hid (T2_21.out.move (w' := w_22) (P' := fun b => b ∉ ([Y, X] : List Nat)) (fun b hb hp => ⟨D_22.out.block b hb (fun e => hp (by rw [show b = Y from e]; simp)), hp⟩) D_22.out.size)
        have XF_22 := Lib.hid ((D_22.out.block X (Array.getElem?_eq_some_iff.1 XF_21.out).1 (fun e => XY_20.out e)).trans XF_21.out)
        have B_22 := Lib.hid (B_21.out.trans (D_22.out.below (fun k hk => by have e2 : k = Y := hk; have := ZY_20.out; omega) B_21.out.size))
        have ZL_22 : Hid (∀ x ∈ ([Y, X] : List Nat), x < w_22.heap.size) := Lib.hid (fun x hx => Nat.lt_of_lt_of_le (ZL_21.out x hx) D_22.out.size)
        clear hw_22 y0 y1 y2 y3 k0 k1 k2 k3
        refine WD_done (by kernel_rfl) ?_ _
        exact ⟨X, Y, B1, e1, B2, e2, _, _, _, _, by rfl, ⟨XF_22.out, YF_22.out, T1_22.out.weak (fun _ _ _ => trivial), T2_22.out.weak (fun _ _ _ => trivial), B_22.out⟩⟩
      · rw [if_pos (by rfl)]
        go_simp
        refine hK.out _ _ (bt B_18.out (below_alloc w_18 _)) (fun hHeld => ?_)
        clear hK K
        (try simp only [Act.put, List.setIfInBounds_toArray, List.set_cons_zero, List.set_cons_succ])
        obtain ⟨w_23, hw_23⟩ : ∃ z, z = w_18.alloc (.cells #[.int .i64 0, .string ⟨#[]⟩, .int .i64 0, .slice none 0 0] 44) := ⟨_, rfl⟩
        try rw [← hw_23]
        clear hHeld
        have LB_23 : Hid (Below w_18.heap.size w_18 w_23) := Lib.hid (by rw [hw_23]; exact below_alloc w_18 _)
        have D_23 := Lib.hid (Frm.of_below LB_23.out (Nat.le_refl _) (fun _ => False))
        have N_23 : Hid (w_23.heap[w_18.heap.size]? = some (.cells #[.int .i64 0, .string ⟨#[]⟩, .int .i64 0, .slice none 0 0] 44 (0, 0))) := Lib.hid (by rw [hw_23]; exact heap_alloc_new w_18 _)
        obtain ⟨Y, hZ_23⟩ : ∃ Z, Z = w_18.heap.size := ⟨_, rfl⟩
        rw [← hZ_23] at N_23 ⊢
        have T1_23 := Lib.hid (T1_18.out.move (w' := w_23) (P' := fun b => b ∉ ([Y] : List Nat)) (fun b hb hp => ⟨D_23.out.block b hb (fun e => e), by rw [List.mem_cons, not_or]; exact ⟨by have h0 := hb; rw [← hZ_23] at h0; exact Nat.ne_of_lt h0, hp⟩⟩) D_23.out.size)
        have T2_23 := Lib.hid (T2_18.out.move (w' := w_23) (P' := fun b => b ∉ ([Y] : List Nat)) (fun b hb hp => ⟨D_23.out.block b hb (fun e => e), by rw [List.mem_cons, not_or]; exact ⟨by have h0 := hb; rw [← hZ_23] at h0; exact Nat.ne_of_lt h0, hp⟩⟩) D_23.out.size)
        have B_23 := Lib.hid (bt B_18.out LB_23.out)
        have ZL_23 : Hid (∀ x ∈ ([Y] : List Nat), x < w_23.heap.size) := Lib.hid (fun x hx => by rcases List.mem_cons.1 hx with h | h; (rw [h]; exact (Array.getElem?_eq_some_iff.1 N_23.out).1); exact Nat.lt_of_lt_of_le (ZL_18.out x h) D_23.out.size)
        have ZY_23 : Hid (wC.heap.size ≤ Y) := Lib.hid (by rw [hZ_23]; exact B_18.out.size)
        clear hw_23 hZ_23
        refine WD_ready (rs := [4]) (by kernel_rfl) (by simp) ?_
        refine AllD.cons (o := _) rfl (fun K hK => ?_) AllD.nil
        rw [if_pos (by rfl)]
        go_simp
        refine hK.out _ _ (bt B_23.out (below_alloc w_23 _)) (fun hHeld => ?_)
        clear hK K
        (try simp only [Act.put, List.setIfInBounds_toArray, List.set_cons_zero, List.set_cons_succ])
        obtain ⟨w_24, hw_24⟩ : ∃ z, z = w_23.alloc (.cells #[.int .i64 0, .string ⟨#[]⟩, .int .i64 0, .slice none 0 0] 44) := ⟨_, rfl⟩
        try rw [← hw_24]
        clear hHeld
        have LB_24 : Hid (Below w_23.heap.size w_23 w_24) := Lib.hid (by rw [hw_24]; exact below_alloc w_23 _)
        have D_24 := Lib.hid (Frm.of_below LB_24.out (Nat.le_refl _) (fun _ => False))
        have N_24 : Hid (w_24.heap[w_23.heap.size]? = some (.cells #[.int .i64 0, .string ⟨#[]⟩, .int .i64 0, .slice none 0 0] 44 (0, 0))) := Lib.hid (by rw [hw_24]; exact heap_alloc_new w_23 _)
        obtain ⟨X, hZ_24⟩ : ∃ Z, Z = w_23.heap.size := ⟨_, rfl⟩
        rw [← hZ_24] at N_24 ⊢
        have T1_24 := Lib.hid (T1_23.out.move (w' := w_24) (P' := fun b => b ∉ ([X, Y] : List Nat)) (fun b hb hp => ⟨D_24.out.block b hb (fun e => e), by rw [List.mem_cons, not_or]; exact ⟨by have h0 := hb; rw [← hZ_24] at h0; exact Nat.ne_of_lt h0, hp⟩⟩) D_24.out.size)
        have T2_24 := Lib.hid (T2_23.out.move (w' := w_24) (P' := fun b => b ∉ ([X, Y] : List Nat)) (fun b hb hp => ⟨D_24.out.block b hb (fun e => e), by rw [List.mem_cons, not_or]; exact ⟨by have h0 := hb; rw [← hZ_24] at h0; exact Nat.ne_of_lt h0, hp⟩⟩) D_24.out.size)
        have Y0_24 := Lib.hid ((D_24.out.block Y (Array.getElem?_eq_some_iff.1 N_23.out).1 (fun e => e)).trans N_23.out)
        have B_24 := Lib.hid (bt B_23.out LB_24.out)
        have ZL_24 : Hid (∀ x ∈ ([X, Y] : List Nat), x < w_24.heap.size) := Lib.hid (fun x hx => by rcases List.mem_cons.1 hx with h | h; (rw [h]; exact (Array.getElem?_eq_some_iff.1 N_24.out).1); exact Nat.lt_of_lt_of_le (ZL_23.out x h) D_24.out.size)
        have ZX_24 : Hid (wC.heap.size ≤ X) := Lib.hid (by rw [hZ_24]; exact B_23.out.size)
        have XY_24 : Hid (X ≠ Y) := Lib.hid (by have h1 := (Array.getElem?_eq_some_iff.1 N_23.out).1; rw [← hZ_24] at h1; omega)
        clear hw_24 hZ_24
        refine WD_ready (rs := [6]) (by kernel_rfl) (by simp) ?_
        refine AllD.cons (o := _) rfl (fun K hK => ?_) AllD.nil
        obtain ⟨y0, y1, y2, y3⟩ := cells4 N_24.out
        obtain ⟨k0, k1, k2, k3⟩ := froz4 N_24.out
        rw [if_pos (by rfl)]
        go_simp
        refine hK.out _ _ (B_24.out.trans ((frm4 w_24 X (.int .i64 V.k) (.string V.nm) (.int .i64 V.vr) (.slice B1 V.args.length e1)).below (fun k hk => by have e2 : k = X := hk; have := ZX_24.out; omega) B_24.out.size)) (fun hHeld => ?_)
        clear hK K
        (try simp only [Act.put, List.setIfInBounds_toArray, List.set_cons_zero, List.set_cons_succ])
        clear hHeld
        obtain ⟨w_25, hw_25⟩ : ∃ z, z = ((((w_24.setCell ⟨X, 0, none⟩ (.int .i64 V.k)).setCell ⟨X, 1, none⟩ (.string V.nm)).setCell ⟨X, 2, none⟩ (.int .i64 V.vr)).setCell ⟨X, 3, none⟩ (.slice B1 V.args.length e1)) := ⟨_, rfl⟩
        try rw [← hw_25]
        have D_25 : Hid (Frm w_24 w_25 (· = X)) := Lib.hid (by rw [hw_25]; exact (frm4 w_24 X (.int .i64 V.k) (.string V.nm) (.int .i64 V.vr) (.slice B1 V.args.length e1)))
        have XF_25 : Hid (w_25.heap[X]? = some (.cells #[.int .i64 V.k, .string V.nm, .int .i64 V.vr, .slice B1 V.args.length e1] 44 (0, 0))) := Lib.hid (by rw [hw_25]; exact cells_all _ _ _ _ N_24.out)
        have T1_25 := Lib.hid (T1_24.out.move (w' := w_25) (P' := fun b => b ∉ ([X, Y] : List Nat)) (fun b hb hp => ⟨D_25.out.block b hb (fun e => hp (by rw [show b = X from e]; simp)), hp⟩) D_25.out.size)
        have T2_25 := Lib.hid (T2_24.out.move (w' := w_25) (P' := fun b => b ∉ ([X, Y] : List Nat)) (fun b hb hp => ⟨D_25.out.block b hb (fun e => hp (by rw [show b = X from e]; simp)), hp⟩) D_25.out.size)
        have Y0_25 := Lib.hid ((D_25.out.block Y (Array.getElem?_eq_some_iff.1 Y0_24.out).1 (fun e => XY_24.out e.symm)).trans Y0_24.out)
        have B_25 := Lib.hid (B_24.out.trans (D_25.out.below (fun k hk => by have e2 : k = X := hk; have := ZX_24.out; omega) B_24.out.size))
        have ZL_25 : Hid (∀ x ∈ ([X, Y] : List Nat), x < w_25.heap.size) := Lib.hid (fun x hx => Nat.lt_of_lt_of_le (ZL_24.out x hx) D_25.out.size)
        clear hw_25 y0 y1 y2 y3 k0 k1 k2 k3
        refine WD_ready (rs := [7]) (by kernel_rfl) (by simp) ?_
        refine AllD.last (o := _) rfl (by kernel_rfl) (fun K hK => ?_) AllD.nil
        obtain ⟨y0, y1, y2, y3⟩ := cells4 Y0_25.out
        obtain ⟨k0, k1, k2, k3⟩ := froz4 Y0_25.out
        rw [if_pos (by rfl)]
        go_simp
        refine hK.out _ _ ?_
        clear hK K
        (try simp only [Act.put, List.setIfInBounds_toArray, List.set_cons_zero, List.set_cons_succ])
        obtain ⟨w_26, hw_26⟩ : ∃ z, z = ((((w_25.setCell ⟨Y, 0, none⟩ (.int .i64 U.k)).setCell ⟨Y, 1, none⟩ (.string U.nm)).setCell ⟨Y, 2, none⟩ (.int .i64 U.vr)).setCell ⟨Y, 3, none⟩ (.slice B2 U.args.length e2)) := ⟨_, rfl⟩
        try rw [← hw_26]
        have D_26 : Hid (Frm w_25 w_26 (· = Y)) := Lib.hid (by rw [hw_26]; exact (frm4 w_25 Y (.int .i64 U.k) (.string U.nm) (.int .i64 U.vr) (.slice B2 U.args.length e2)))
        have YF_26 : Hid (w_26.heap[Y]? = some (.cells #[.int .i64 U.k, .string U.nm, .int .i64 U.vr, .slice B2 U.args.length e2] 44 (0, 0))) := Lib.hid (by rw [hw_26]; exact cells_all _ _ _ _ Y0_25.out)
        have T1_26 := Lib.hid (T1_25.out.move (w' := w_26) (P' := fun b => b ∉ ([X, Y] : List Nat)) (fun b hb hp => ⟨D_26.out.block b hb (fun e => hp (by rw [show b = Y from e]; simp)), hp⟩) D_26.out.size)
        have T2_26 := Lib.hid (T2_25.out.move (w' := w_26) (P' := fun b => b ∉ ([X, Y] : List Nat)) (fun b hb hp => ⟨D_26.out.block b hb (fun e => hp (by rw [show b = Y from e]; simp)), hp⟩) D_26.out.size)
        have XF_26 := Lib.hid ((D_26.out.block X (Array.getElem?_eq_some_iff.1 XF_25.out).1 (fun e => XY_24.out e)).trans XF_25.out)
        have B_26 := Lib.hid (B_25.out.trans (D_26.out.below (fun k hk => by have e2 : k = Y := hk; have := ZY_23.out; omega) B_25.out.size))
        have ZL_26 : Hid (∀ x ∈ ([X, Y] : List Nat), x < w_26.heap.size) := Lib.hid (fun x hx => Nat.lt_of_lt_of_le (ZL_25.out x hx) D_26.out.size)
        clear hw_26 y0 y1 y2 y3 k0 k1 k2 k3
        refine WD_done (by kernel_rfl) ?_ _
        exact ⟨X, Y, B1, e1, B2, e2, _, _, _, _, by rfl, ⟨XF_26.out, YF_26.out, T1_26.out.weak (fun _ _ _ => trivial), T2_26.out.weak (fun _ _ _ => trivial), B_26.out⟩⟩
    · rw [if_pos (by rfl)]
      go_simp
      refine hK.out _ _ (bt B_17.out (below_alloc w_17 _)) (fun hHeld => ?_)
      clear hK K
      (try simp only [Act.put, List.setIfInBounds_toArray, List.set_cons_zero, List.set_cons_succ])
      obtain ⟨w_27, hw_27⟩ : ∃ z, z = w_17.alloc (.cells #[.int .i64 0, .string ⟨#[]⟩, .int .i64 0, .slice none 0 0] 44) := ⟨_, rfl⟩
      try rw [← hw_27]
      clear hHeld
      have LB_27 : Hid (Below w_17.heap.size w_17 w_27) := Lib.hid (by rw [hw_27]; exact below_alloc w_17 _)
      have D_27 := Lib.hid (Frm.of_below LB_27.out (Nat.le_refl _) (fun _ => False))
      have N_27 : Hid (w_27.heap[w_17.heap.size]? = some (.cells #[.int .i64 0, .string ⟨#[]⟩, .int .i64 0, .slice none 0 0] 44 (0, 0))) := Lib.hid (by rw [hw_27]; exact heap_alloc_new w_17 _)
      obtain ⟨X, hZ_27⟩ : ∃ Z, Z = w_17.heap.size := ⟨_, rfl⟩
      rw [← hZ_27] at N_27 ⊢
      have T1_27 := Lib.hid (T1_17.out.move (w' := w_27) (P' := fun b => b ∉ ([X] : List Nat)) (fun b hb hp => ⟨D_27.out.block b hb (fun e => e), by rw [List.mem_cons, not_or]; exact ⟨by have h0 := hb; rw [← hZ_27] at h0; exact Nat.ne_of_lt h0, hp⟩⟩) D_27.out.size)
      have B_27 := Lib.hid (bt B_17.out LB_27.out)
      have ZL_27 : Hid (∀ x ∈ ([X] : List Nat), x < w_27.heap.size) := Lib.hid (fun x hx => by rcases List.mem_cons.1 hx with h | h; (rw [h]; exact (Array.getElem?_eq_some_iff.1 N_27.out).1); exact Nat.lt_of_lt_of_le (ZL_17.out x h) D_27.out.size)
      have ZX_27 : Hid (wC.heap.size ≤ X) := Lib.hid (by rw [hZ_27]; exact B_17.out.size)
      clear hw_27 hZ_27
      refine WD_ready (rs := [3, 5]) (by kernel_rfl) (by simp) ?_
      refine AllD.cons (o := _) rfl (fun K hK => ?_) (AllD.cons (o := _) rfl (fun K hK => ?_) AllD.nil)
      · rw [if_pos (by rfl)]
        go_simp
        refine (C2.out _ B_27.out).mono ?_; rintro e w_28 ⟨B2, e2, rfl, r_28, l_28⟩
        unfold tv
        try go_wp2_with fail
        refine hK.out _ _ (bt B_27.out l_28) (fun hHeld => ?_)
        clear hK K
        (try simp only [Act.put, List.setIfInBounds_toArray, List.set_cons_zero, List.set_cons_succ])
        clear hHeld
        have LB_28 := Lib.hid l_28
        have D_28 := Lib.hid (Frm.of_below l_28 (Nat.le_refl _) (fun _ => False))
        have T1_28 := Lib.hid (T1_27.out.move (w' := w_28) (P' := fun b => b ∉ ([X] : List Nat)) (fun b hb hp => ⟨D_28.out.block b hb (fun e => e), hp⟩) D_28.out.size)
        have X0_28 := Lib.hid ((D_28.out.block X (Array.getElem?_eq_some_iff.1 N_27.out).1 (fun e => e)).trans N_27.out)
        have B_28 := Lib.hid (bt B_27.out LB_28.out)
        have ZL_28 : Hid (∀ x ∈ ([X] : List Nat), x < w_28.heap.size) := Lib.hid (fun x hx => Nat.lt_of_lt_of_le (ZL_27.out x hx) D_28.out.size)
        have T2_28 := Lib.hid (r_28.weak (P' := fun b => b ∉ ([X] : List Nat)) (fun b _ hp => notin_ge ZL_27.out hp))
        clear r_28 l_28
        refine WD_ready (rs := [5]) (by kernel_rfl) (by simp) ?_
        refine AllD.cons (o := _) rfl (fun K hK => ?_) AllD.nil
        rw [if_pos (by rfl)]
        go_simp
        refine hK.out _ _ (bt B_28.out (below_alloc w_28 _)) (fun hHeld => ?_)
        clear hK K
        (try simp only [Act.put, List.setIfInBounds_toArray, List.set_cons_zero, List.set_cons_succ])
        obtain ⟨w_29, hw_29⟩ : ∃ z, z = w_28.alloc (.cells #[.int .i64 0, .string ⟨#[]⟩, .int .i64 0, .slice none 0 0] 44) := ⟨_, rfl⟩
        try rw [← hw_29]
        clear hHeld
        have LB_29 : Hid (Below w_28.heap.size w_28 w_29) := Lib.hid (by rw [hw_29]; exact below_alloc w_28 _)
        have D_29 := Lib.hid (Frm.of_below LB_29.out (Nat.le_refl _) (fun _ => False))
        have N_29 : Hid (w_29.heap[w_28.heap.size]? = some (.cells #[.int .i64 0, .string ⟨#[]⟩, .int .i64 0, .slice none 0 0] 44 (0, 0))) := Lib.hid (by rw [hw_29]; exact heap_alloc_new w_28 _)
        obtain ⟨Y, hZ_29⟩ : ∃ Z, Z = w_28.heap.size := ⟨_, rfl⟩
        rw [← hZ_29] at N_29 ⊢
        have T1_29 := Lib.hid (T1_28.out.move (w' := w_29) (P' := fun b => b ∉ ([Y, X] : List Nat)) (fun b hb hp => ⟨D_29.out.block b hb (fun e => e), by rw [List.mem_cons, not_or]; exact ⟨by have h0 := hb; rw [← hZ_29] at h0; exact Nat.ne_of_lt h0, hp⟩⟩) D_29.out.size)
        have T2_29 := Lib.hid (T2_28.out.move (w' := w_29) (P' := fun b => b ∉ ([Y, X] : List Nat)) (fun b hb hp => ⟨D_29.out.block b hb (fun e => e), by rw [List.mem_cons, not_or]; exact ⟨by have h0 := hb; rw [← hZ_29] at h0; exact Nat.ne_of_lt h0, hp⟩⟩) D_29.out.size)
        have X0_29 := Lib.hid ((D_29.out.block X (Array.getElem?_eq_some_iff.1 X0_28.out).1 (fun e => e)).trans X0_28.out)
        have B_29 := Lib.hid (bt B_28.out LB_29.out)
        have ZL_29 : Hid (∀ x ∈ ([Y, X] : List Nat), x < w_29.heap.size) := Lib.hid (fun x hx => by rcases List.mem_cons.1 hx with h | h; (rw [h]; exact (Array.getElem?_eq_some_iff.1 N_29.out).1); exact Nat.lt_of_lt_of_le (ZL_28.out x h) D_29.out.size)
        have ZY_29 : Hid (wC.heap.size ≤ Y) := Lib.hid (by rw [hZ_29]; exact B_28.out.size)
        have XY_29 : Hid (X ≠ Y) := Lib.hid (by have h1 := (Array.getElem?_eq_some_iff.1 X0_28.out).1; rw [← hZ_29] at h1; omega)
        clear hw_29 hZ_29
        refine WD_ready (rs := [6]) (by kernel_rfl) (by simp) ?_
        refine AllD.cons (o := _) rfl (fun K hK => ?_) AllD.nil
        obtain ⟨y0, y1, y2, y3⟩ := cells4 X0_29.out
        obtain ⟨k0, k1, k2, k3⟩ := froz4 X0_29.out
        rw [if_pos (by rfl)]
        go_simp
        refine hK.out _ _ (B_29.out.trans ((frm4 w_29 X (.int .i64 V.k) (.string V.nm) (.int .i64 V.vr) (.slice B1 V.args.length e1)).below (fun k hk => by have e2 : k = X := hk; have := ZX_27.out; omega) B_29.out.size)) (fun hHeld => ?_)
        clear hK K
        (try simp only [Act.put, List.setIfInBounds_toArray, List.set_cons_zero, List.set_cons_succ])
        clear hHeld
        obtain ⟨w_30, hw_30⟩ : ∃ z, z = ((((w_29.setCell ⟨X, 0, none⟩ (.int .i64 V.k)).setCell ⟨X, 1, none⟩ (.string V.nm)).setCell ⟨X, 2, none⟩ (.int .i64 V.vr)).setCell ⟨X, 3, none⟩ (.slice B1 V.args.length e1)) := ⟨_, rfl⟩
        try rw [← hw_30]
        have D_30 : Hid (Frm w_29 w_30 (· = X)) := Lib.hid (by rw [hw_30]; exact (frm4 w_29 X (.int .i64 V.k) (.string V.nm) (.int .i64 V.vr) (.slice B1 V.args.length e1)))
        have XF_30 : Hid (w_30.heap[X]? = some (.cells #[.int .i64 V.k, .string V.nm, .int .i64 V.vr, .slice B1 V.args.length e1] 44 (0, 0))) := Lib.hid (by rw [hw_30]; exact cells_all _ _ _ _ X0_29.out)
        have T1_30 := Lib.hid (T1_29.out.move (w' := w_30) (P' := fun b => b ∉ ([Y, X] : List Nat)) (fun b hb hp => ⟨D_30.out.block b hb (fun e => hp (by rw [show b = X from e]; simp)), hp⟩) D_30.out.size)
        have T2_30 := Lib.hid (T2_29.out.move (w' := w_30) (P' := fun b => b ∉ ([Y, X] : List Nat)) (fun b hb hp => ⟨D_30.out.block b hb (fun e => hp (by rw [show b = X from e]; simp)), hp⟩) D_30.out.size)
        have Y0_30 := Lib.hid ((D_30.out.block Y (Array.getElem?_eq_some_iff.1 N_29.out).1 (fun e => XY_29.out e.symm)).trans N_29.out)
        have B_30 := Lib.hid (B_29.out.trans (D_30.out.below (fun k hk => by have e2 : k = X := hk; have := ZX_27.out; omega) B_29.out.size))
        have ZL_30 : Hid (∀ x ∈ ([Y, X] : List Nat), x < w_30.heap.size) := Lib.hid (fun x hx => Nat.lt_of_lt_of_le (ZL_29.out x hx) D_30.out.size)
        clear hw_30 y0 y1 y2 y3 k0 k1 k2 k3
        refine WD_ready (rs := [7]) (by kernel_rfl) (by simp) ?_
        refine AllD.last (o := _) rfl (by kernel_rfl) (fun K hK => ?_) AllD.nil
        obtain ⟨y0, y1, y2, y3⟩ := cells4 Y0_30.out
        obtain ⟨k0, k1, k2, k3⟩ := froz4 Y0_30.out
        rw [if_pos (by rfl)]
        go_simp
        refine hK.out _ _ ?_
        clear hK K
        (try simp only [Act.put, List.setIfInBounds_toArray, List.set_cons_zero, List.set_cons_succ])
        obtain ⟨w_31, hw_31⟩ : ∃ z, z = ((((w_30.setCell ⟨Y, 0, none⟩ (.int .i64 U.k)).setCell ⟨Y, 1, none⟩ (.string U.nm)).setCell ⟨Y, 2, none⟩ (.int .i64 U.vr)).setCell ⟨Y, 3, none⟩ (.slice B2 U.args.length e2)) := ⟨_, rfl⟩
        try rw [← hw_31]
        have D_31 : Hid (Frm w_30 w_31 (· = Y)) := Lib.hid (by rw [hw_31]; exact (frm4 w_30 Y (.int .i64 U.k) (.string U.nm) (.int .i64 U.vr) (.slice B2 U.args.length e2)))
        have YF_31 : Hid (w_31.heap[Y]? = some (.cells #[.int .i64 U.k, .string U.nm, .int .i64 U.vr, .slice B2 U.args.length e2] 44 (0, 0))) := Lib.hid (by rw [hw_31]; exact cells_all _ _ _ _ Y0_30.out)
        have T1_31 := Lib.hid (T1_30.out.move (w' := w_31) (P' := fun b => b ∉ ([Y, X] : List Nat)) (fun b hb hp => ⟨D_31.out.block b hb (fun e => hp (by rw [show b = Y from e]; simp)), hp⟩) D_31.out.size)
        have T2_31 := Lib.hid (T2_30.out.move (w' := w_31) (P' := fun b => b ∉ ([Y, X] : List Nat)) (fun b hb hp => ⟨D_31.out.block b hb (fun e => hp (by rw [show b = Y from e]; simp)), hp⟩) D_31.out.size)
        have XF_31 := Lib.hid ((D_31.out.block X (Array.getElem?_eq_some_iff.1 XF_30.out).1 (fun e => XY_29.out e)).trans XF_30.out)
        have B_31 := Lib.hid (B_30.out.trans (D_31.out.below (fun k hk => by have e2 : k = Y := hk; have := ZY_29.out; omega) B_30.out.size))
        have ZL_31 : Hid (∀ x ∈ ([Y, X] : List Nat), x < w_31.heap.size) := Lib.hid (fun x hx => Nat.lt_of_lt_of_le (ZL_30.out x hx) D_31.out.size)
        clear hw_31 y0 y1 y2 y3 k0 k1 k2 k3
        refine WD_done (by kernel_rfl) ?_ _
        exact ⟨X, Y, B1, e1, B2, e2, _, _, _, _, by rfl, ⟨XF_31.out, YF_31.out, T1_31.out.weak (fun _ _ _ => trivial), T2_31.out.weak (fun _ _ _ => trivial), B_31.out⟩⟩
      · rw [if_pos (by rfl)]
        go_simp
        refine hK.out _ _ (bt B_27.out (below_alloc w_27 _)) (fun hHeld => ?_)
        clear hK K
        (try simp only [Act.put, List.setIfInBounds_toArray, List.set_cons_zero, List.set_cons_succ])
        obtain ⟨w_32, hw_32⟩ : ∃ z, z = w_27.alloc (.cells #[.int .i64 0, .string ⟨#[]⟩, .int .i64 0, .slice none 0 0] 44) := ⟨_, rfl⟩
        try rw [← hw_32]
        clear hHeld
        have LB_32 : Hid (Below w_27.heap.size w_27 w_32) := Lib.hid (by rw [hw_32]; exact below_alloc w_27 _)
        have D_32 := Lib.hid (Frm.of_below LB_32.out (Nat.le_refl _) (fun _ => False))
        have N_32 : Hid (w_32.heap[w_27.heap.size]? = some (.cells #[.int .i64 0, .string ⟨#[]⟩, .int .i64 0, .slice none 0 0] 44 (0, 0))) := Lib.hid (by rw [hw_32]; exact heap_alloc_new w_27 _)
        obtain ⟨Y, hZ_32⟩ : ∃ Z, Z = w_27.heap.size := ⟨_, rfl⟩
        rw [← hZ_32] at N_32 ⊢
        have T1_32 := Lib.hid (T1_27.out.move (w' := w_32) (P' := fun b => b ∉ ([Y, X] : List Nat)) (fun b hb hp => ⟨D_32.out.block b hb (fun e => e), by rw [List.mem_cons, not_or]; exact ⟨by have h0 := hb; rw [← hZ_32] at h0; exact Nat.ne_of_lt h0, hp⟩⟩) D_32.out.size)
        have X0_32 := Lib.hid ((D_32.out.block X (Array.getElem?_eq_some_iff.1 N_27.out).1 (fun e => e)).trans N_27.out)
        have B_32 := Lib.hid (bt B_27.out LB_32.out)
        have ZL_32 : Hid (∀ x ∈ ([Y, X] : List Nat), x < w_32.heap.size) := Lib.hid (fun x hx => by rcases List.mem_cons.1 hx with h | h; (rw [h]; exact (Array.getElem?_eq_some_iff.1 N_32.out).1); exact Nat.lt_of_lt_of_le (ZL_27.out x h) D_32.out.size)
        have ZY_32 : Hid (wC.heap.size ≤ Y) := Lib.hid (by rw [hZ_32]; exact B_27.out.size)
        have XY_32 : Hid (X ≠ Y) := Lib.hid (by have h1 := (Array.getElem?_eq_some_iff.1 N_27.out).1; rw [← hZ_32] at h1; omega)
        clear hw_32 hZ_32
        refine WD_ready (rs := [3]) (by kernel_rfl) (by simp) ?_
        refine AllD.cons (o := _) rfl (fun K hK => ?_) AllD.nil
        rw [if_pos (by rfl)]
        go_simp
        refine (C2.out _ B_32.out).mono ?_; rintro e w_33 ⟨B2, e2, rfl, r_33, l_33⟩
        unfold tv
        try go_wp2_with fail
        refine hK.out _ _ (bt B_32.out l_33) (fun hHeld => ?_)
        clear hK K
        (try simp only [Act.put, List.setIfInBounds_toArray, List.set_cons_zero, List.set_cons_succ])
        clear hHeld
        have LB_33 := Lib.hid l_33
        have D_33 := Lib.hid (Frm.of_below l_33 (Nat.le_refl _) (fun _ => False))
        have T1_33 := Lib.hid (T1_32.out.move (w' := w_33) (P' := fun b => b ∉ ([Y, X] : List Nat)) (fun b hb hp => ⟨D_33.out.block b hb (fun e => e), hp⟩) D_33.out.size)
        have X0_33 := Lib.hid ((D_33.out.block X (Array.getElem?_eq_some_iff.1 X0_32.out).1 (fun e => e)).trans X0_32.out)
        have Y0_33 := Lib.hid ((D_33.out.block Y (Array.getElem?_eq_some_iff.1 N_32.out).1 (fun e => e)).trans N_32.out)
        have B_33 := Lib.hid (bt B_32.out LB_33.out)
        have ZL_33 : Hid (∀ x ∈ ([Y, X] : List Nat), x < w_33.heap.size) := Lib.hid (fun x hx => Nat.lt_of_lt_of_le (ZL_32.out x hx) D_33.out.size)
        have T2_33 := Lib.hid (r_33.weak (P' := fun b => b ∉ ([Y, X] : List Nat)) (fun b _ hp => notin_ge ZL_32.out hp))
        clear r_33 l_33
        refine WD_ready (rs := [6]) (by kernel_rfl) (by simp) ?_
        refine AllD.cons (o := _) rfl (fun K hK => ?_) AllD.nil
        obtain ⟨y0, y1, y2, y3⟩ := cells4 X0_33.out
        obtain ⟨k0, k1, k2, k3⟩ := froz4 X0_33.out
        rw [if_pos (by rfl)]
        go_simp
        refine hK.out _ _ (B_33.out.trans ((frm4 w_33 X (.int .i64 V.k) (.string V.nm) (.int .i64 V.vr) (.slice B1 V.args.length e1)).below (fun k hk => by have e2 : k = X := hk; have := ZX_27.out; omega) B_33.out.size)) (fun hHeld => ?_)
        clear hK K
        (try simp only [Act.put, List.setIfInBounds_toArray, List.set_cons_zero, List.set_cons_succ])
        clear hHeld
        obtain ⟨w_34, hw_34⟩ : ∃ z, z = ((((w_33.setCell ⟨X, 0, none⟩ (.int .i64 V.k)).setCell ⟨X, 1, none⟩ (.string V.nm)).setCell ⟨X, 2, none⟩ (.int .i64 V.vr)).setCell ⟨X, 3, none⟩ (.slice B1 V.args.length e1)) := ⟨_, rfl⟩
        try rw [← hw_34]
        have D_34 : Hid (Frm w_33 w_34 (· = X)) := Lib.hid (by rw [hw_34]; exact (frm4 w_33 X (.int .i64 V.k) (.string V.nm) (.int .i64 V.vr) (.slice B1 V.args.length e1)))
        have XF_34 : Hid (w_34.heap[X]? = some (.cells #[.int .i64 V.k, .string V.nm, .int .i64 V.vr, .slice B1 V.args.length e1] 44 (0, 0))) := Lib.hid (by rw [hw_34]; exact cells_all _ _ _ _ X0_33.out)
        have T1_34 := Lib.hid (T1_33.out.move (w' := w_34) (P' := fun b => b ∉ ([Y, X] : List Nat)) (fun b hb hp => ⟨D_34.out.block b hb (fun e => hp (by rw [show b = X from e]; simp)), hp⟩) D_34.out.size)
        have T2_34 := Lib.hid (T2_33.out.move (w' := w_34) (P' := fun b => b ∉ ([Y, X] : List Nat)) (fun b hb hp => ⟨D_34.out.block b hb (fun e => hp (by rw [show b = X from e]; simp)), hp⟩) D_34.out.size)
        have Y0_34 := Lib.hid ((D_34.out.block Y (Array.getElem?_eq_some_iff.1 Y0_33.out).1 (fun e => XY_32.out e.symm)).trans Y0_33.out)
        have B_34 := Lib.hid (B_33.out.trans (D_34.out.below (fun k hk => by have e2 : k = X := hk; have := ZX_27.out; omega) B_33.out.size))
        have ZL_34 : Hid (∀ x ∈ ([Y, X] : List Nat), x < w_34.heap.size) := Lib.hid (fun x hx => Nat.lt_of_lt_of_le (ZL_33.out x hx) D_34.out.size)
        clear hw_34 y0 y1 y2 y3 k0 k1 k2 k3
        refine WD_ready (rs := [7]) (by kernel_rfl) (by simp) ?_
        refine AllD.last (o := _) rfl (by kernel_rfl) (fun K hK => ?_) AllD.nil
        obtain ⟨y0, y1, y2, y3⟩ := cells4 Y0_34.out
        obtain ⟨k0, k1, k2, k3⟩ := froz4 Y0_34.out
        rw [if_pos (by rfl)]
        go_simp
        refine hK.out _ _ ?_
        clear hK K
        (try simp only [Act.put, List.setIfInBounds_toArray, List.set_cons_zero, List.set_cons_succ])
        obtain ⟨w_35, hw_35⟩ : ∃ z, z = ((((w_34.setCell ⟨Y, 0, none⟩ (.int .i64 U.k)).setCell ⟨Y, 1, none⟩ (.string U.nm)).setCell ⟨Y, 2, none⟩ (.int .i64 U.vr)).setCell ⟨Y, 3, none⟩ (.slice B2 U.args.length e2)) := ⟨_, rfl⟩
        try rw [← hw_35]
        have D_35 : Hid (Frm w_34 w_35 (· = Y)) := Lib.hid (by rw [hw_35]; exact (frm4 w_34 Y (.int .i64 U.k) (.string U.nm) (.int .i64 U.vr) (.slice B2 U.args.length e2)))
        have YF_35 : Hid (w_35.heap[Y]? = some (.cells #[.int .i64 U.k, .string U.nm, .int .i64 U.vr, .slice B2 U.args.length e2] 44 (0, 0))) := Lib.hid (by rw [hw_35]; exact cells_all _ _ _ _ Y0_34.out)
        have T1_35 := Lib.hid (T1_34.out.move (w' := w_35) (P' := fun b => b ∉ ([Y, X] : List Nat)) (fun b hb hp => ⟨D_35.out.block b hb (fun e => hp (by rw [show b = Y from e]; simp)), hp⟩) D_35.out.size)
        have T2_35 := Lib.hid (T2_34.out.move (w' := w_35) (P' := fun b => b ∉ ([Y, X] : List Nat)) (fun b hb hp => ⟨D_35.out.block b hb (fun e => hp (by rw [show b = Y from e]; simp)), hp⟩) D_35.out.size)
        have XF_35 := Lib.hid ((D_35.out.block X (Array.getElem?_eq_some_iff.1 XF_34.out).1 (fun e => XY_32.out e)).trans XF_34.out)
        have B_35 := Lib.hid (B_34.out.trans (D_35.out.below (fun k hk => by have e2 : k = Y := hk; have := ZY_32.out; omega) B_34.out.size))
        have ZL_35 : Hid (∀ x ∈ ([Y, X] : List Nat), x < w_35.heap.size) := Lib.hid (fun x hx => Nat.lt_of_lt_of_le (ZL_34.out x hx) D_35.out.size)
        clear hw_35 y0 y1 y2 y3 k0 k1 k2 k3
        refine WD_done (by kernel_rfl) ?_ _
        exact ⟨X, Y, B1, e1, B2, e2, _, _, _, _, by rfl, ⟨XF_35.out, YF_35.out, T1_35.out.weak (fun _ _ _ => trivial), T2_35.out.weak (fun _ _ _ => trivial), B_35.out⟩⟩
    · rw [if_pos (by rfl)]
      go_simp
      refine hK.out _ _ (bt B_17.out (below_alloc w_17 _)) (fun hHeld => ?_)
      clear hK K
      (try simp only [Act.put, List.setIfInBounds_toArray, List.set_cons_zero, List.set_cons_succ])
      obtain ⟨w_36, hw_36⟩ : ∃ z, z = w_17.alloc (.cells #[.int .i64 0, .string ⟨#[]⟩, .int .i64 0, .slice none 0 0] 44) := ⟨_, rfl⟩
      try rw [← hw_36]
      clear hHeld
      have LB_36 : Hid (Below w_17.heap.size w_17 w_36) := Lib.hid (by rw [hw_36]; exact below_alloc w_17 _)
      have D_36 := Lib.hid (Frm.of_below LB_36.out (Nat.le_refl _) (fun _ => False))
      have N_36 : Hid (w_36.heap[w_17.heap.size]? = some (.cells #[.int .i64 0, .string ⟨#[]⟩, .int .i64 0, .slice none 0 0] 44 (0, 0))) := Lib.hid (by rw [hw_36]; exact heap_alloc_new w_17 _)
      obtain ⟨Y, hZ_36⟩ : ∃ Z, Z = w_17.heap.size := ⟨_, rfl⟩
      rw [← hZ_36] at N_36 ⊢
      have T1_36 := Lib.hid (T1_17.out.move (w' := w_36) (P' := fun b => b ∉ ([Y] : List Nat)) (fun b hb hp => ⟨D_36.out.block b hb (fun e => e), by rw [List.mem_cons, not_or]; exact ⟨by have h0 := hb; rw [← hZ_36] at h0; exact Nat.ne_of_lt h0, hp⟩⟩) D_36.out.size)
      have B_36 := Lib.hid (bt B_17.out LB_36.out)
      have ZL_36 : Hid (∀ x ∈ ([Y] : List Nat), x < w_36.heap.size) := Lib.hid (fun x hx => by rcases List.mem_cons.1 hx with h | h; (rw [h]; exact (Array.getElem?_eq_some_iff.1 N_36.out).1); exact Nat.lt_of_lt_of_le (ZL_17.out x h) D_36.out.size)
      have ZY_36 : Hid (wC.heap.size ≤ Y) := Lib.hid (by rw [hZ_36]; exact B_17.out.size)
      clear hw_36 hZ_36
      refine WD_ready (rs := [3, 4]) (by kernel_rfl) (by simp) ?_
      refine AllD.cons (o := _) rfl (fun K hK => ?_) (AllD.cons (o := _) rfl (fun K hK => ?_) AllD.nil)
      · rw [if_pos (by rfl)]
        go_simp
        refine (C2.out _ B_36.out).mono ?_; rintro e w_37 ⟨B2, e2, rfl, r_37, l_37⟩
        unfold tv
        try go_wp2_with fail
        refine hK.out _ _ (bt B_36.out l_37) (fun hHeld => ?_)
        clear hK K
        (try simp only [Act.put, List.setIfInBounds_toArray, List.set_cons_zero, List.set_cons_succ])
        clear hHeld
        have LB_37 := Lib.hid l_37
        have D_37 := Lib.hid (Frm.of_below l_37 (Nat.le_refl _) (fun _ => False))
        have T1_37 := Lib.hid (T1_36.out.move (w' := w_37) (P' := fun b => b ∉ ([Y] : List Nat)) (fun b hb hp => ⟨D_37.out.block b hb (fun e => e), hp⟩) D_37.out.size)
        have Y0_37 := Lib.hid ((D_37.out.block Y (Array.getElem?_eq_some_iff.1 N_36.out).1 (fun e => e)).trans N_36.out)
        have B_37 := Lib.hid (bt B_36.out LB_37.out)
        have ZL_37 : Hid (∀ x ∈ ([Y] : List Nat), x < w_37.heap.size) := Lib.hid (fun x hx => Nat.lt_of_lt_of_le (ZL_36.out x hx) D_37.out.size)
        have T2_37 := Lib.hid (r_37.weak (P' := fun b => b ∉ ([Y] : List Nat)) (fun b _ hp => notin_ge ZL_36.out hp))
        clear r_37 l_37
        refine WD_ready (rs := [4]) (by kernel_rfl) (by simp) ?_
        refine AllD.cons (o := _) rfl (fun K hK => ?_) AllD.nil
        rw [if_pos (by rfl)]
        go_simp
        refine hK.out _ _ (bt B_37.out (below_alloc w_37 _)) (fun hHeld => ?_)
        clear hK K
        (try simp only [Act.put, List.setIfInBounds_toArray, List.set_cons_zero, List.set_cons_succ])
        obtain ⟨w_38, hw_38⟩ : ∃ z, z = w_37.alloc (.cells #[.int .i64 0, .string ⟨#[]⟩, .int .i64 0, .slice none 0 0] 44) := ⟨_, rfl⟩
        try rw [← hw_38]
        clear hHeld
        have LB_38 : Hid (Below w_37.heap.size w_37 w_38) := Lib.hid (by rw [hw_38]; exact below_alloc w_37 _)
        have D_38 := Lib.hid (Frm.of_below LB_38.out (Nat.le_refl _) (fun _ => False))
        have N_38 : Hid (w_38.heap[w_37.heap.size]? = some (.cells #[.int .i64 0, .string ⟨#[]⟩, .int .i64 0, .slice none 0 0] 44 (0, 0))) := Lib.hid (by rw [hw_38]; exact heap_alloc_new w_37 _)
        obtain ⟨X, hZ_38⟩ : ∃ Z, Z = w_37.heap.size := ⟨_, rfl⟩
        rw [← hZ_38] at N_38 ⊢
        have T1_38 := Lib.hid (T1_37.out.move (w' := w_38) (P' := fun b => b ∉ ([X, Y] : List Nat)) (fun b hb hp => ⟨D_38.out.block b hb (fun e => e), by rw [List.mem_cons, not_or]; exact ⟨by have h0 := hb; rw [← hZ_38] at h0; exact Nat.ne_of_lt h0, hp⟩⟩) D_38.out.size)
        have T2_38 := Lib.hid (T2_37.out.move (w' := w_38) (P' := fun b => b ∉ ([X, Y] : List Nat)) (fun b hb hp => ⟨D_38.out.block b hb (fun e => e), by rw [List.mem_cons, not_or]; exact ⟨by have h0 := hb; rw [← hZ_38] at h0; exact Nat.ne_of_lt h0, hp⟩⟩) D_38.out.size)
        have Y0_38 := Lib.hid ((D_38.out.block Y (Array.getElem?_eq_some_iff.1 Y0_37.out).1 (fun e => e)).trans Y0_37.out)
        have B_38 := Lib.hid (bt B_37.out LB_38.out)
        have ZL_38 : Hid (∀ x ∈ ([X, Y] : List Nat), x < w_38.heap.size) := Lib.hid (fun x hx => by rcases List.mem_cons.1 hx with h | h; (rw [h]; exact (Array.getElem?_eq_some_iff.1 N_38.out).1); exact Nat.lt_of_lt_of_le (ZL_37.out x h) D_38.out.size)
        have ZX_38 : Hid (wC.heap.size ≤ X) := Lib.hid (by rw [hZ_38]; exact B_37.out.size)
        have XY_38 : Hid (X ≠ Y) := Lib.hid (by have h1 := (Array.getElem?_eq_some_iff.1 Y0_37.out).1; rw [← hZ_38] at h1; omega)
        clear hw_38 hZ_38
        refine WD_ready (rs := [6]) (by kernel_rfl) (by simp) ?_
        refine AllD.cons (o := _) rfl (fun K hK => ?_) AllD.nil
        obtain ⟨y0, y1, y2, y3⟩ := cells4 N_38.out
        obtain ⟨k0, k1, k2, k3⟩ := froz4 N_38.out
        rw [if_pos (by rfl)]
        go_simp
        refine hK.out _ _ (B_38.out.trans ((frm4 w_38 X (.int .i64 V.k) (.string V.nm) (.int .i64 V.vr) (.slice B1 V.args.length e1)).below (fun k hk => by have e2 : k = X := hk; have := ZX_38.out; omega) B_38.out.size)) (fun hHeld => ?_)
        clear hK K
        (try simp only [Act.put, List.setIfInBounds_toArray, List.set_cons_zero, List.set_cons_succ])
        clear hHeld
        obtain ⟨w_39, hw_39⟩ : ∃ z, z = ((((w_38.setCell ⟨X, 0, none⟩ (.int .i64 V.k)).setCell ⟨X, 1, none⟩ (.string V.nm)).setCell ⟨X, 2, none⟩ (.int .i64 V.vr)).setCell ⟨X, 3, none⟩ (.slice B1 V.args.length e1)) := ⟨_, rfl⟩
        try rw [← hw_39]
        have D_39 : Hid (Frm w_38 w_39 (· = X)) := Lib.hid (by rw [hw_39]; exact (frm4 w_38 X (.int .i64 V.k) (.string V.nm) (.int .i64 V.vr) (.slice B1 V.args.length e1)))
        have XF_39 : Hid (w_39.heap[X]? = some (.cells #[.int .i64 V.k, .string V.nm, .int .i64 V.vr, .slice B1 V.args.length e1] 44 (0, 0))) := Lib.hid (by rw [hw_39]; exact cells_all _ _ _ _ N_38.out)
        have T1_39 := Lib.hid (T1_38.out.move (w' := w_39) (P' := fun b => b ∉ ([X, Y] : List Nat)) (fun b hb hp => ⟨D_39.out.block b hb (fun e => hp (by rw [show b = X from e]; simp)), hp⟩) D_39.out.size)
        have T2_39 := Lib.hid (T2_38.out.move (w' := w_39) (P' := fun b => b ∉ ([X, Y] : List Nat)) (fun b hb hp => ⟨D_39.out.block b hb (fun e => hp (by rw [show b = X from e]; simp)), hp⟩) D_39.out.size)
        have Y0_39 := Lib.hid ((D_39.out.block Y (Array.getElem?_eq_some_iff.1 Y0_38.out).1 (fun e => XY_38.out e.symm)).trans Y0_38.out)
        have B_39 := Lib.hid (B_38.out.trans (D_39.out.below (fun k hk => by have e2 : k = X := hk; have := ZX_38.out; omega) B_38.out.size))
        have ZL_39 : Hid (∀ x ∈ ([X, Y] : List Nat), x < w_39.heap.size) := Lib.hid (fun x hx => Nat.lt_of_lt_of_le (ZL_38.out x hx) D_39.out.size)
        clear hw_39 y0 y1 y2 y3 k0 k1 k2 k3
        refine WD_ready (rs := [7]) (by kernel_rfl) (by simp) ?_
        refine AllD.last (o := _) rfl (by kernel_rfl) (fun K hK => ?_) AllD.nil
        obtain ⟨y0, y1, y2, y3⟩ := cells4 Y0_39.out
        obtain ⟨k0, k1, k2, k3⟩ := froz4 Y0_39.out
        rw [if_pos (by rfl)]
        go_simp
        refine hK.out _ _ ?_
        clear hK K
        (try simp only [Act.put, List.setIfInBounds_toArray, List.set_cons_zero, List.set_cons_succ])
        obtain ⟨w_40, hw_40⟩ : ∃ z, z = ((((w_39.setCell ⟨Y, 0, none⟩ (.int .i64 U.k)).setCell ⟨Y, 1, none⟩ (.string U.nm)).setCell ⟨Y, 2, none⟩ (.int .i64 U.vr)).setCell ⟨Y, 3, none⟩ (.slice B2 U.args.length e2)) := ⟨_, rfl⟩
        try rw [← hw_40]
        have D_40 : Hid (Frm w_39 w_40 (· = Y)) := Lib.hid (by rw [hw_40]; exact (frm4 w_39 Y (.int .i64 U.k) (.string U.nm) (.int .i64 U.vr) (.slice B2 U.args.length e2)))
        have YF_40 : Hid (w_40.heap[Y]? = some (.cells #[.int .i64 U.k, .string U.nm, .int .i64 U.vr, .slice B2 U.args.length e2] 44 (0, 0))) := Lib.hid (by rw [hw_40]; exact cells_all _ _ _ _ Y0_39.out)
        have T1_40 := Lib.hid (T1_39.out.move (w' := w_40) (P' := fun b => b ∉ ([X, Y] : List Nat)) (fun b hb hp => ⟨D_40.out.block b hb (fun e => hp (by rw [show b = Y from e]; simp)), hp⟩) D_40.out.size)
        have T2_40 := Lib.hid (T2_39.out.move (w' := w_40) (P' := fun b => b ∉ ([X, Y] : List Nat)) (fun b hb hp => ⟨D_40.out.block b hb (fun e => hp (by rw [show b = Y from e]; simp)), hp⟩) D_40.out.size)
        have XF_40 := Lib.hid ((D_40.out.block X (Array.getElem?_eq_some_iff.1 XF_39.out).1 (fun e => XY_38.out e)).trans XF_39.out)
        have B_40 := Lib.hid (B_39.out.trans (D_40.out.below (fun k hk => by have e2 : k = Y := hk; have := ZY_36.out; omega) B_39.out.size))
        have ZL_40 : Hid (∀ x ∈ ([X, Y] : List Nat), x < w_40.heap.size) := Lib.hid (fun x hx => Nat.lt_of_lt_of_le (ZL_39.out x hx) D_40.out.size)
        clear hw_40 y0 y1 y2 y3 k0 k1 k2 k3
        refine WD_done (by kernel_rfl) ?_ _
        exact ⟨X, Y, B1, e1, B2, e2, _, _, _, _, by rfl, ⟨XF_40.out, YF_40.out, T1_40.out.weak (fun _ _ _ => trivial), T2_40.out.weak (fun _ _ _ => trivial), B_40.out⟩⟩
      · rw [if_pos (by rfl)]
        go_simp
        refine hK.out _ _ (bt B_36.out (below_alloc w_36 _)) (fun hHeld => ?_)
        clear hK K
        (try simp only [Act.put, List.setIfInBounds_toArray, List.set_cons_zero, List.set_cons_succ])
        obtain ⟨w_41, hw_41⟩ : ∃ z, z = w_36.alloc (.cells #[.int .i64 0, .string ⟨#[]⟩, .int .i64 0, .slice none 0 0] 44) := ⟨_, rfl⟩
        try rw [← hw_41]
        clear hHeld
        have LB_41 : Hid (Below w_36.heap.size w_36 w_41) := Lib.hid (by rw [hw_41]; exact below_alloc w_36 _)
        have D_41 := Lib.hid (Frm.of_below LB_41.out (Nat.le_refl _) (fun _ => False))
        have N_41 : Hid (w_41.heap[w_36.heap.size]? = some (.cells #[.int .i64 0, .string ⟨#[]⟩, .int .i64 0, .slice none 0 0] 44 (0, 0))) := Lib.hid (by rw [hw_41]; exact heap_alloc_new w_36 _)
        obtain ⟨X, hZ_41⟩ : ∃ Z, Z = w_36.heap.size := ⟨_, rfl⟩
        rw [← hZ_41] at N_41 ⊢
        have T1_41 := Lib.hid (T1_36.out.move (w' := w_41) (P' := fun b => b ∉ ([X, Y] : List Nat)) (fun b hb hp => ⟨D_41.out.block b hb (fun e => e), by rw [List.mem_cons, not_or]; exact ⟨by have h0 := hb; rw [← hZ_41] at h0; exact Nat.ne_of_lt h0, hp⟩⟩) D_41.out.size)
        have Y0_41 := Lib.hid ((D_41.out.block Y (Array.getElem?_eq_some_iff.1 N_36.out).1 (fun e => e)).trans N_36.out)
        have B_41 := Lib.hid (bt B_36.out LB_41.out)
        have ZL_41 : Hid (∀ x ∈ ([X, Y] : List Nat), x < w_41.heap.size) := Lib.hid (fun x hx => by rcases List.mem_cons.1 hx with h | h; (rw [h]; exact (Array.getElem?_eq_some_iff.1 N_41.out).1); exact Nat.lt_of_lt_of_le (ZL_36.out x h) D_41.out.size)
        have ZX_41 : Hid (wC.heap.size ≤ X) := Lib.hid (by rw [hZ_41]; exact B_36.out.size)
        have XY_41 : Hid (X ≠ Y) := Lib.hid (by have h1 := (Array.getElem?_eq_some_iff.1 N_36.out).1; rw [← hZ_41] at h1; omega)
        clear hw_41 hZ_41
        refine WD_ready (rs := [3]) (by kernel_rfl) (by simp) ?_
        refine AllD.cons (o := _) rfl (fun K hK => ?_) AllD.nil
        rw [if_pos (by rfl)]
        go_simp
        refine (C2.out _ B_41.out).mono ?_; rintro e w_42 ⟨B2, e2, rfl, r_42, l_42⟩
        unfold tv
        try go_wp2_with fail
        refine hK.out _ _ (bt B_41.out l_42) (fun hHeld => ?_)
        clear hK K
        (try simp only [Act.put, List.setIfInBounds_toArray, List.set_cons_zero, List.set_cons_succ])
        clear hHeld
        have LB_42 := Lib.hid l_42
        have D_42 := Lib.hid (Frm.of_below l_42 (Nat.le_refl _) (fun _ => False))
        have T1_42 := Lib.hid (T1_41.out.move (w' := w_42) (P' := fun b => b ∉ ([X, Y] : List Nat)) (fun b hb hp => ⟨D_42.out.block b hb (fun e => e), hp⟩) D_42.out.size)
        have X0_42 := Lib.hid ((D_42.out.block X (Array.getElem?_eq_some_iff.1 N_41.out).1 (fun e => e)).trans N_41.out)
        have Y0_42 := Lib.hid ((D_42.out.block Y (Array.getElem?_eq_some_iff.1 Y0_41.out).1 (fun e => e)).trans Y0_41.out)
        have B_42 := Lib.hid (bt B_41.out LB_42.out)
        have ZL_42 : Hid (∀ x ∈ ([X, Y] : List Nat), x < w_42.heap.size) := Lib.hid (fun x hx => Nat.lt_of_lt_of_le (ZL_41.out x hx) D_42.out.size)
        have T2_42 := Lib.hid (r_42.weak (P' := fun b => b ∉ ([X, Y] : List Nat)) (fun b _ hp => notin_ge ZL_41.out hp))
        clear r_42 l_42
        refine WD_ready (rs := [6]) (by kernel_rfl) (by simp) ?_
        refine AllD.cons (o := _) rfl (fun K hK => ?_) AllD.nil
        obtain ⟨y0, y1, y2, y3⟩ := cells4 X0_42.out
        obtain ⟨k0, k1, k2, k3⟩ := froz4 X0_42.out
        rw [if_pos (by rfl)]
        go_simp
        refine hK.out _ _ (B_42.out.trans ((frm4 w_42 X (.int .i64 V.k) (.string V.nm) (.int .i64 V.vr) (.slice B1 V.args.length e1)).below (fun k hk => by have e2 : k = X := hk; have := ZX_41.out; omega) B_42.out.size)) (fun hHeld => ?_)
        clear hK K
        (try simp only [Act.put, List.setIfInBounds_toArray, List.set_cons_zero, List.set_cons_succ])
        clear hHeld
        obtain ⟨w_43, hw_43⟩ : ∃ z, z = ((((w_42.setCell ⟨X, 0, none⟩ (.int .i64 V.k)).setCell ⟨X, 1, none⟩ (.string V.nm)).setCell ⟨X, 2, none⟩ (.int .i64 V.vr)).setCell ⟨X, 3, none⟩ (.slice B1 V.args.length e1)) := ⟨_, rfl⟩
        try rw [← hw_43]
        have D_43 : Hid (Frm w_42 w_43 (· = X)) := Lib.hid (by rw [hw_43]; exact (frm4 w_42 X (.int .i64 V.k) (.string V.nm) (.int .i64 V.vr) (.slice B1 V.args.length e1)))
        have XF_43 : Hid (w_43.heap[X]? = some (.cells #[.int .i64 V.k, .string V.nm, .int .i64 V.vr, .slice B1 V.args.length e1] 44 (0, 0))) := Lib.hid (by rw [hw_43]; exact cells_all _ _ _ _ X0_42.out)
        have T1_43 := Lib.hid (T1_42.out.move (w' := w_43) (P' := fun b => b ∉ ([X, Y] : List Nat)) (fun b hb hp => ⟨D_43.out.block b hb (fun e => hp (by rw [show b = X from e]; simp)), hp⟩) D_43.out.size)
        have T2_43 := Lib.hid (T2_42.out.move (w' := w_43) (P' := fun b => b ∉ ([X, Y] : List Nat)) (fun b hb hp => ⟨D_43.out.block b hb (fun e => hp (by rw [show b = X from e]; simp)), hp⟩) D_43.out.size)
        have Y0_43 := Lib.hid ((D_43.out.block Y (Array.getElem?_eq_some_iff.1 Y0_42.out).1 (fun e => XY_41.out e.symm)).trans Y0_42.out)
        have B_43 := Lib.hid (B_42.out.trans (D_43.out.below (fun k hk => by have e2 : k = X := hk; have := ZX_41.out; omega) B_42.out.size))
        have ZL_43 : Hid (∀ x ∈ ([X, Y] : List Nat), x < w_43.heap.size) := Lib.hid (fun x hx => Nat.lt_of_lt_of_le (ZL_42.out x hx) D_43.out.size)
        clear hw_43 y0 y1 y2 y3 k0 k1 k2 k3
        refine WD_ready (rs := [7]) (by kernel_rfl) (by simp) ?_
        refine AllD.last (o := _) rfl (by kernel_rfl) (fun K hK => ?_) AllD.nil
        obtain ⟨y0, y1, y2, y3⟩ := cells4 Y0_43.out
        obtain ⟨k0, k1, k2, k3⟩ := froz4 Y0_43.out
        rw [if_pos (by rfl)]
        go_simp
        refine hK.out _ _ ?_
        clear hK K
        (try simp only [Act.put, List.setIfInBounds_toArray, List.set_cons_zero, List.set_cons_succ])
        obtain ⟨w_44, hw_44⟩ : ∃ z, z = ((((w_43.setCell ⟨Y, 0, none⟩ (.int .i64 U.k)).setCell ⟨Y, 1, none⟩ (.string U.nm)).setCell ⟨Y, 2, none⟩ (.int .i64 U.vr)).setCell ⟨Y, 3, none⟩ (.slice B2 U.args.length e2)) := ⟨_, rfl⟩
        try rw [← hw_44]
        have D_44 : Hid (Frm w_43 w_44 (· = Y)) := Lib.hid (by rw [hw_44]; exact (frm4 w_43 Y (.int .i64 U.k) (.string U.nm) (.int .i64 U.vr) (.slice B2 U.args.length e2)))
        have YF_44 : Hid (w_44.heap[Y]? = some (.cells #[.int .i64 U.k, .string U.nm, .int .i64 U.vr, .slice B2 U.args.length e2] 44 (0, 0))) := Lib.hid (by rw [hw_44]; exact cells_all _ _ _ _ Y0_43.out)
        have T1_44 := Lib.hid (T1_43.out.move (w' := w_44) (P' := fun b => b ∉ ([X, Y] : List Nat)) (fun b hb hp => ⟨D_44.out.block b hb (fun e => hp (by rw [show b = Y from e]; simp)), hp⟩) D_44.out.size)
        have T2_44 := Lib.hid (T2_43.out.move (w' := w_44) (P' := fun b => b ∉ ([X, Y] : List Nat)) (fun b hb hp => ⟨D_44.out.block b hb (fun e => hp (by rw [show b = Y from e]; simp)), hp⟩) D_44.out.size)
        have XF_44 := Lib.hid ((D_44.out.block X (Array.getElem?_eq_some_iff.1 XF_43.out).1 (fun e => XY_41.out e)).trans XF_43.out)
        have B_44 := Lib.hid (B_43.out.trans (D_44.out.below (fun k hk => by have e2 : k = Y := hk; have := ZY_36.out; omega) B_43.out.size))
        have ZL_44 : Hid (∀ x ∈ ([X, Y] : List Nat), x < w_44.heap.size) := Lib.hid (fun x hx => Nat.lt_of_lt_of_le (ZL_43.out x hx) D_44.out.size)
        clear hw_44 y0 y1 y2 y3 k0 k1 k2 k3
        refine WD_done (by kernel_rfl) ?_ _
        exact ⟨X, Y, B1, e1, B2, e2, _, _, _, _, by rfl, ⟨XF_44.out, YF_44.out, T1_44.out.weak (fun _ _ _ => trivial), T2_44.out.weak (fun _ _ _ => trivial), B_44.out⟩⟩
  · rw [if_pos (by rfl)]
    go_simp
    refine hK.out _ _ (bt B_0.out (below_alloc w_0 _)) (fun hHeld => ?_)
    clear hK K
    (try simp only [Act.put, List.setIfInBounds_toArray, List.set_cons_zero, List.set_cons_succ])
    obtain ⟨w_45, hw_45⟩ : ∃ z, z = w_0.alloc (.cells #[.int .i64 0, .string ⟨#[]⟩, .int .i64 0, .slice none 0 0] 44) := ⟨_, rfl⟩
    try rw [← hw_45]
    clear hHeld
    have LB_45 : Hid (Below w_0.heap.size w_0 w_45) := Lib.hid (by rw [hw_45]; exact below_alloc w_0 _)
    have D_45 := Lib.hid (Frm.of_below LB_45.out (Nat.le_refl _) (fun _ => False))
    have N_45 : Hid (w_45.heap[w_0.heap.size]? = some (.cells #[.int .i64 0, .string ⟨#[]⟩, .int .i64 0, .slice none 0 0] 44 (0, 0))) := Lib.hid (by rw [hw_45]; exact heap_alloc_new w_0 _)
    obtain ⟨X, hZ_45⟩ : ∃ Z, Z = w_0.heap.size := ⟨_, rfl⟩
    rw [← hZ_45] at N_45 ⊢
    have B_45 := Lib.hid (bt B_0.out LB_45.out)
    have ZL_45 : Hid (∀ x ∈ ([X] : List Nat), x < w_45.heap.size) := Lib.hid (fun x hx => by rcases List.mem_cons.1 hx with h | h; (rw [h]; exact (Array.getElem?_eq_some_iff.1 N_45.out).1); exact Nat.lt_of_lt_of_le (ZL_0.out x h) D_45.out.size)
    have ZX_45 : Hid (wC.heap.size ≤ X) := Lib.hid (by rw [hZ_45]; exact B_0.out.size)
    clear hw_45 hZ_45
    refine WD_ready (rs := [1, 5]) (by kernel_rfl) (by simp) ?_
    refine AllD.cons (o := _) rfl (fun K hK => ?_) (AllD.cons (o := _) rfl (fun K hK => ?_) AllD.nil)
    · rw [if_pos (by rfl)]
      go_simp
      refine (C1.out _ B_45.out).mono ?_; rintro e w_46 ⟨B1, e1, rfl, r_46, l_46⟩
      unfold tv
      try go_wp2_with fail
      refine hK.out _ _ (bt B_45.out l_46) (fun hHeld => ?_)
      clear hK K
      (try simp only [Act.put, List.setIfInBounds_toArray, List.set_cons_zero, List.set_cons_succ])
      clear hHeld
      have LB_46 := Lib.hid l_46
      have D_46 := Lib.hid (Frm.of_below l_46 (Nat.le_refl _) (fun _ => False))
      have X0_46 := Lib.hid ((D_46.out.block X (Array.getElem?_eq_some_iff.1 N_45.out).1 (fun e => e)).trans N_45.out)
      have B_46 := Lib.hid (bt B_45.out LB_46.out)
      have ZL_46 : Hid (∀ x ∈ ([X] : List Nat), x < w_46.heap.size) := Lib.hid (fun x hx => Nat.lt_of_lt_of_le (ZL_45.out x hx) D_46.out.size)
      have T1_46 := Lib.hid (r_46.weak (P' := fun b => b ∉ ([X] : List Nat)) (fun b _ hp => notin_ge ZL_45.out hp))
      clear r_46 l_46
      refine WD_ready (rs := [3, 5]) (by kernel_rfl) (by simp) ?_
      refine AllD.cons (o := _) rfl (fun K hK => ?_) (AllD.cons (o := _) rfl (fun K hK => ?_) AllD.nil)
      · rw [if_pos (by rfl)]
        go_simp
        refine (C2.out _ B_46.out).mono ?_; rintro e w_47 ⟨B2, e2, rfl, r_47, l_47⟩
        unfold tv
        try go_wp2_with fail
        refine hK.out _ _ (bt B_46.out l_47) (fun hHeld => ?_)
        clear hK K
        (try simp only [Act.put, List.setIfInBounds_toArray, List.set_cons_zero, List.set_cons_succ])
        clear hHeld
        have LB_47 := Lib.hid l_47
        have D_47 := Lib.hid (Frm.of_below l_47 (Nat.le_refl _) (fun _ => False))
        have T1_47 := Lib.hid (T1_46.out.move (w' := w_47) (P' := fun b => b ∉ ([X] : List Nat)) (fun b hb hp => ⟨D_47.out.block b hb (fun e => e), hp⟩) D_47.out.size)
        have X0_47 := Lib.hid ((D_47.out.block X (Array.getElem?_eq_some_iff.1 X0_46.out).1 (fun e => e)).trans X0_46.out)
        have B_47 := Lib.hid (bt B_46.out LB_47.out)
        have ZL_47 : Hid (∀ x ∈ ([X] : List Nat), x < w_47.heap.size) := Lib.hid (fun x hx => Nat.lt_of_lt_of_le (ZL_46.out x hx) D_47.out.size)
        have T2_47 := Lib.hid (r_47.weak (P' := fun b => b ∉ ([X] : List Nat)) (fun b _ hp => notin_ge ZL_46.out hp))
        clear r_47 l_47
        refine WD_ready (rs := [5]) (by kernel_rfl) (by simp) ?_
        refine AllD.cons (o := _) rfl (fun K hK => ?_) AllD.nil
        rw [if_pos (by rfl)]
        go_simp
        refine hK.out _ _ (bt B_47.out (below_alloc w_47 _)) (fun hHeld => ?_)
        clear hK K
        (try simp only [Act.put, List.setIfInBounds_toArray, List.set_cons_zero, List.set_cons_succ])
        obtain ⟨w_48, hw_48⟩ : ∃ z, z = w_47.alloc (.cells #[.int .i64 0, .string ⟨#[]⟩, .int .i64 0, .slice none 0 0] 44) := ⟨_, rfl⟩
        try rw [← hw_48]
        clear hHeld
        have LB_48 : Hid (Below w_47.heap.size w_47 w_48) := Lib.hid (by rw [hw_48]; exact below_alloc w_47 _)
        have D_48 := Lib.hid (Frm.of_below LB_48.out (Nat.le_refl _) (fun _ => False))
        have N_48 : Hid (w_48.heap[w_47.heap.size]? = some (.cells #[.int .i64 0, .string ⟨#[]⟩, .int .i64 0, .slice none 0 0] 44 (0, 0))) := Lib.hid (by rw [hw_48]; exact heap_alloc_new w_47 _)
        obtain ⟨Y, hZ_48⟩ : ∃ Z, Z = w_47.heap.size := ⟨_, rfl⟩
        rw [← hZ_48] at N_48 ⊢
        have T1_48 := Lib.hid (T1_47.out.move (w' := w_48) (P' := fun b => b ∉ ([Y, X] : List Nat)) (fun b hb hp => ⟨D_48.out.block b hb (fun e => e), by rw [List.mem_cons, not_or]; exact ⟨by have h0 := hb; rw [← hZ_48] at h0; exact Nat.ne_of_lt h0, hp⟩⟩) D_48.out.size)
        have T2_48 := Lib.hid (T2_47.out.move (w' := w_48) (P' := fun b => b ∉ ([Y, X] : List Nat)) (fun b hb hp => ⟨D_48.out.block b hb (fun e => e), by rw [List.mem_cons, not_or]; exact ⟨by have h0 := hb; rw [← hZ_48] at h0; exact Nat.ne_of_lt h0, hp⟩⟩) D_48.out.size)
        have X0_48 := Lib.hid ((D_48.out.block X (Array.getElem?_eq_some_iff.1 X0_47.out).1 (fun e => e)).trans X0_47.out)
        have B_48 := Lib.hid (bt B_47.out LB_48.out)
        have ZL_48 : Hid (∀ x ∈ ([Y, X] : List Nat), x < w_48.heap.size) := Lib.hid (fun x hx => by rcases List.mem_cons.1 hx with h | h; (rw [h]; exact (Array.getElem?_eq_some_iff.1 N_48.out).1); exact Nat.lt_of_lt_of_le (ZL_47.out x h) D_48.out.size)
        have ZY_48 : Hid (wC.heap.size ≤ Y) := Lib.hid (by rw [hZ_48]; exact B_47.out.size)
        have XY_48 : Hid (X ≠ Y) := Lib.hid (by have h1 := (Array.getElem?_eq_some_iff.1 X0_47.out).1; rw [← hZ_48] at h1; omega)
        clear hw_48 hZ_48
        refine WD_ready (rs := [6]) (by kernel_rfl) (by simp) ?_
        refine AllD.cons (o := _) rfl (fun K hK => ?_) AllD.nil
        obtain ⟨y0, y1, y2, y3⟩ := cells4 X0_48.out
        obtain ⟨k0, k1, k2, k3⟩ := froz4 X0_48.out
        rw [if_pos (by rfl)]
        go_simp
        refine hK.out _ _ (B_48.out.trans ((frm4 w_48 X (.int .i64 V.k) (.string V.nm) (.int .i64 V.vr) (.slice B1 V.args.length e1)).below (fun k hk => by have e2 : k = X := hk; have := ZX_45.out; omega) B_48.out.size)) (fun hHeld => ?_)
        clear hK K
        (try simp only [Act.put, List.setIfInBounds_toArray, List.set_cons_zero, List.set_cons_succ])
        clear hHeld
        obtain ⟨w_49, hw_49⟩ : ∃ z, z = ((((w_48.setCell ⟨X, 0, none⟩ (.int .i64 V.k)).setCell ⟨X, 1, none⟩ (.string V.nm)).setCell ⟨X, 2, none⟩ (.int .i64 V.vr)).setCell ⟨X, 3, none⟩ (.slice B1 V.args.length e1)) := ⟨_, rfl⟩
        try rw [← hw_49]
        have D_49 : Hid (Frm w_48 w_49 (· = X)) := Lib.hid (by rw [hw_49]; exact (frm4 w_48 X (.int .i64 V.k) (.string V.nm) (.int .i64 V.vr) (.slice B1 V.args.length e1)))
        have XF_49 : Hid (w_49.heap[X]? = some (.cells #[.int .i64 V.k, .string V.nm, .int .i64 V.vr, .slice B1 V.args.length e1] 44 (0, 0))) := Lib.hid (by rw [hw_49]; exact cells_all _ _ _ _ X0_48.out)
        have T1_49 := Lib.hid (T1_48.out.move (w' := w_49) (P' := fun b => b ∉ ([Y, X] : List Nat)) (fun b hb hp => ⟨D_49.out.block b hb (fun e => hp (by rw [show b = X from e]; simp)), hp⟩) D_49.out.size)
        have T2_49 := Lib.hid (T2_48.out.move (w' := w_49) (P' := fun b => b ∉ ([Y, X] : List Nat)) (fun b hb hp => ⟨D_49.out.block b hb (fun e => hp (by rw [show b = X from e]; simp)), hp⟩) D_49.out.size)
        have Y0_49 := Lib.hid ((D_49.out.block Y (Array.getElem?_eq_some_iff.1 N_48.out).1 (fun e => XY_48.out e.symm)).trans N_48.out)
        have B_49 := Lib.hid (B_48.out.trans (D_49.out.below (fun k hk => by have e2 : k = X := hk; have := ZX_45.out; omega) B_48.out.size))
        have ZL_49 : Hid (∀ x ∈ ([Y, X] : List Nat), x < w_49.heap.size) := Lib.hid (fun x hx => Nat.lt_of_lt_of_le (ZL_48.out x hx) D_49.out.size)
        clear hw_49 y0 y1 y2 y3 k0 k1 k2 k3
        refine WD_ready (rs := [7]) (by kernel_rfl) (by simp) ?_
        refine AllD.last (o := _) rfl (by kernel_rfl) (fun K hK => ?_) AllD.nil
        obtain ⟨y0, y1, y2, y3⟩ := cells4 Y0_49.out
        obtain ⟨k0, k1, k2, k3⟩ := froz4 Y0_49.out
        rw [if_pos (by rfl)]
        go_simp
        refine hK.out _ _ ?_
        clear hK K
        (try simp only [Act.put, List.setIfInBounds_toArray, List.set_cons_zero, List.set_cons_succ])
        obtain ⟨w_50, hw_50⟩ : ∃ z, z = ((((w_49.setCell ⟨Y, 0, none⟩ (.int .i64 U.k)).setCell ⟨Y, 1, none⟩ (.string U.nm)).setCell ⟨Y, 2, none⟩ (.int .i64 U.vr)).setCell ⟨Y, 3, none⟩ (.slice B2 U.args.length e2)) := ⟨_, rfl⟩
        try rw [← hw_50]
        have D_50 : Hid (Frm w_49 w_50 (· = Y)) := Lib.hid (by rw [hw_50]; exact (frm4 w_49 Y (.int .i64 U.k) (.string U.nm) (.int .i64 U.vr) (.slice B2 U.args.length e2)))
        have YF_50 : Hid (w_50.heap[Y]? = some (.cells #[.int .i64 U.k, .string U.nm, .int .i64 U.vr, .slice B2 U.args.length e2] 44 (0, 0))) := Lib.hid (by rw [hw_50]; exact cells_all _ _ _ _ Y0_49.out)
        have T1_50 := Lib.hid (T1_49.out.move (w' := w_50) (P' := fun b => b ∉ ([Y, X] : List Nat)) (fun b hb hp => ⟨D_50.out.block b hb (fun e => hp (by rw [show b = Y from e]; simp)), hp⟩) D_50.out.size)
        have T2_50 := Lib.hid (T2_49.out.move (w' := w_50) (P' := fun b => b ∉ ([Y, X] : List Nat)) (fun b hb hp => ⟨D_50.out.block b hb (fun e => hp (by rw [show b = Y from e]; simp)), hp⟩) D_50.out.size)
        have XF_50 := Lib.hid ((D_50.out.block X (Array.getElem?_eq_some_iff.1 XF_49.out).1 (fun e => XY_48.out e)).trans XF_49.out)
        have B_50 := Lib.hid (B_49.out.trans (D_50.out.below (fun k hk => by have e2 : k = Y := hk; have := ZY_48.out; omega) B_49.out.size))
        have ZL_50 : Hid (∀ x ∈ ([Y, X] : List Nat), x < w_50.heap.size) := Lib.hid (fun x hx => Nat.lt_of_lt_of_le (ZL_49.out x hx) D_50.out.size)
        clear hw_50 y0 y1 y2 y3 k0 k1 k2 k3
        refine WD_done (by kernel_rfl) ?_ _
        exact ⟨X, Y, B1, e1, B2, e2, _, _, _, _, by rfl, ⟨XF_50.out, YF_50.out, T1_50.out.weak (fun _ _ _ => trivial), T2_50.out.weak (fun _ _ _ => trivial), B_50.out⟩⟩
      · rw [if_pos (by rfl)]
        go_simp
        refine hK.out _ _ (bt B_46.out (below_alloc w_46 _)) (fun hHeld => ?_)
        clear hK K
        (try simp only [Act.put, List.setIfInBounds_toArray, List.set_cons_zero, List.set_cons_succ])
        obtain ⟨w_51, hw_51⟩ : ∃ z, z = w_46.alloc (.cells #[.int .i64 0, .string ⟨#[]⟩, .int .i64 0, .slice none 0 0] 44) := ⟨_, rfl⟩
        try rw [← hw_51]
        clear hHeld
        have LB_51 : Hid (Below w_46.heap.size w_46 w_51) := Lib.hid (by rw [hw_51]; exact below_alloc w_46 _)
        have D_51 := Lib.hid (Frm.of_below LB_51.out (Nat.le_refl _) (fun _ => False))
        have N_51 : Hid (w_51.heap[w_46.heap.size]? = some (.cells #[.int .i64 0, .string ⟨#[]⟩, .int .i64 0, .slice none 0 0] 44 (0, 0))) := Lib.hid (by rw [hw_51]; exact heap_alloc_new w_46 _)
        obtain ⟨Y, hZ_51⟩ : ∃ Z, Z = w_46.heap.size := ⟨_, rfl⟩
        rw [← hZ_51] at N_51 ⊢
        have T1_51 := Lib.hid (T1_46.out.move (w' := w_51) (P' := fun b => b ∉ ([Y, X] : List Nat)) (fun b hb hp => ⟨D_51.out.block b hb (fun e => e), by rw [List.mem_cons, not_or]; exact ⟨by have h0 := hb; rw [← hZ_51] at h0; exact Nat.ne_of_lt h0, hp⟩⟩) D_51.out.size)
        have X0_51 := Lib.hid ((D_51.out.block X (Array.getElem?_eq_some_iff.1 X0_46.out).1 (fun e => e)).trans X0_46.out)
        have B_51 := Lib.hid (bt B_46.out LB_51.out)
        have ZL_51 : Hid (∀ x ∈ ([Y, X] : List Nat), x < w_51.heap.size) := Lib.hid (fun x hx => by rcases List.mem_cons.1 hx with h | h; (rw [h]; exact (Array.getElem?_eq_some_iff.1 N_51.out).1); exact Nat.lt_of_lt_of_le (ZL_46.out x h) D_51.out.size)
        have ZY_51 : Hid (wC.heap.size ≤ Y) := Lib.hid (by rw [hZ_51]; exact B_46.out.size)
        have XY_51 : Hid (X ≠ Y) := Lib.hid (by have h1 := (Array.getElem?_eq_some_iff.1 X0_46.out).1; rw [← hZ_51] at h1; omega)
        clear hw_51 hZ_51
        refine WD_ready (rs := [3]) (by kernel_rfl) (by simp) ?_
        refine AllD.cons (o := _) rfl (fun K hK => ?_) AllD.nil
        rw [if_pos (by rfl)]
        go_simp
        refine (C2.out _ B_51.out).mono ?_; rintro e w_52 ⟨B2, e2, rfl, r_52, l_52⟩
        unfold tv
        try go_wp2_with fail
        refine hK.out _ _ (bt B_51.out l_52) (fun hHeld => ?_)
        clear hK K
        (try simp only [Act.put, List.setIfInBounds_toArray, List.set_cons_zero, List.set_cons_succ])
        clear hHeld
        have LB_52 := Lib.hid l_52
        have D_52 := Lib.hid (Frm.of_below l_52 (Nat.le_refl _) (fun _ => False))
        have T1_52 := Lib.hid (T1_51.out.move (w' := w_52) (P' := fun b => b ∉ ([Y, X] : List Nat)) (fun b hb hp => ⟨D_52.out.block b hb (fun e => e), hp⟩) D_52.out.size)
        have X0_52 := Lib.hid ((D_52.out.block X (Array.getElem?_eq_some_iff.1 X0_51.out).1 (fun e => e)).trans X0_51.out)
        have Y0_52 := Lib.hid ((D_52.out.block Y (Array.getElem?_eq_some_iff.1 N_51.out).1 (fun e => e)).trans N_51.out)
        have B_52 := Lib.hid (bt B_51.out LB_52.out)
        have ZL_52 : Hid (∀ x ∈ ([Y, X] : List Nat), x < w_52.heap.size) := Lib.hid (fun x hx => Nat.lt_of_lt_of_le (ZL_51.out x hx) D_52.out.size)
        have T2_52 := Lib.hid (r_52.weak (P' := fun b => b ∉ ([Y, X] : List Nat)) (fun b _ hp => notin_ge ZL_51.out hp))
        clear r_52 l_52
        refine WD_ready (rs := [6]) (by kernel_rfl) (by simp) ?_
        refine AllD.cons (o := _) rfl (fun K hK => ?_) AllD.nil
        obtain ⟨y0, y1, y2, y3⟩ := cells4 X0_52.out
        obtain ⟨k0, k1, k2, k3⟩ := froz4 X0_52.out
        rw [if_pos (by rfl)]
        go_simp
        refine hK.out _ _ (B_52.out.trans ((frm4 w_52 X (.int .i64 V.k) (.string V.nm) (.int .i64 V.vr) (.slice B1 V.args.length e1)).below (fun k hk => by have e2 : k = X := hk; have := ZX_45.out; omega) B_52.out.size)) (fun hHeld => ?_)
        clear hK K
        (try simp only [Act.put, List.setIfInBounds_toArray, List.set_cons_zero, List.set_cons_succ])
        clear hHeld
        obtain ⟨w_53, hw_53⟩ : ∃ z, z = ((((w_52.setCell ⟨X, 0, none⟩ (.int .i64 V.k)).setCell ⟨X, 1, none⟩ (.string V.nm)).setCell ⟨X, 2, none⟩ (.int .i64 V.vr)).setCell ⟨X, 3, none⟩ (.slice B1 V.args.length e1)) := ⟨_, rfl⟩
        try rw [← hw_53]
        have D_53 : Hid (Frm w_52 w_53 (· = X)) := Lib.hid (by rw [hw_53]; exact (frm4 w_52 X (.int .i64 V.k) (.string V.nm) (.int .i64 V.vr) (.slice B1 V.args.length e1)))
        have XF_53 : Hid (w_53.heap[X]? = some (.cells #[.int .i64 V.k, .string V.nm, .int .i64 V.vr, .slice B1 V.args.length e1] 44 (0, 0))) := Lib.hid (by rw [hw_53]; exact cells_all _ _ _ _ X0_52.out)
        have T1_53 := Lib.hid (T1_52.out.move (w' := w_53) (P' := fun b => b ∉ ([Y, X] : List Nat)) (fun b hb hp => ⟨D_53.out.block b hb (fun e => hp (by rw [show b = X from e]; simp)), hp⟩) D_53.out.size)
        have T2_53 := Lib.hid (T2_52.out.move (w' := w_53) (P' := fun b => b ∉ ([Y, X] : List Nat)) (fun b hb hp => ⟨D_53.out.block b hb (fun e => hp (by rw [show b = X from e]; simp)), hp⟩) D_53.out.size)
        have Y0_53 := Lib.hid ((D_53.out.block Y (Array.getElem?_eq_some_iff.1 Y0_52.out).1 (fun e => XY_51.out e.symm)).trans Y0_52.out)
        have B_53 := Lib.hid (B_52.out.trans (D_53.out.below (fun k hk => by have e2 : k = X := hk; have := ZX_45.out; omega) B_52.out.size))
        have ZL_53 : Hid (∀ x ∈ ([Y, X] : List Nat), x < w_53.heap.size) := Lib.hid (fun x hx => Nat.lt_of_lt_of_le (ZL_52.out x hx) D_53.out.size)
        clear hw_53 y0 y1 y2 y3 k0 k1 k2 k3
        refine WD_ready (rs := [7]) (by kernel_rfl) (by simp) ?_
        refine AllD.last (o := _) rfl (by kernel_rfl) (fun K hK => ?_) AllD.nil
        obtain ⟨y0, y1, y2, y3⟩ := cells4 Y0_53.out
        obtain ⟨k0, k1, k2, k3⟩ := froz4 Y0_53.out
        rw [if_pos (by rfl)]
        go_simp
        refine hK.out _ _ ?_
        clear hK K
        (try simp only [Act.put, List.setIfInBounds_toArray, List.set_cons_zero, List.set_cons_succ])
        obtain ⟨w_54, hw_54⟩ : ∃ z, z = ((((w_53.setCell ⟨Y, 0, none⟩ (.int .i64 U.k)).setCell ⟨Y, 1, none⟩ (.string U.nm)).setCell ⟨Y, 2, none⟩ (.int .i64 U.vr)).setCell ⟨Y, 3, none⟩ (.slice B2 U.args.length e2)) := ⟨_, rfl⟩
        try rw [← hw_54]
        have D_54 : Hid (Frm w_53 w_54 (· = Y)) := Lib.hid (by rw [hw_54]; exact (frm4 w_53 Y (.int .i64 U.k) (.string U.nm) (.int .i64 U.vr) (.slice B2 U.args.length e2)))
        have YF_54 : Hid (w_54.heap[Y]? = some (.cells #[.int .i64 U.k, .string U.nm, .int .i64 U.vr, .slice B2 U.args.length e2] 44 (0, 0))) := Lib.hid (by rw [hw_54]; exact cells_all _ _ _ _ Y0_53.out)
        have T1_54 := Lib.hid (T1_53.out.move (w' := w_54) (P' := fun b => b ∉ ([Y, X] : List Nat)) (fun b hb hp => ⟨D_54.out.block b hb (fun e => hp (by rw [show b = Y from e]; simp)), hp⟩) D_54.out.size)
        have T2_54 := Lib.hid (T2_53.out.move (w' := w_54) (P' := fun b => b ∉ ([Y, X] : List Nat)) (fun b hb hp => ⟨D_54.out.block b hb (fun e => hp (by rw [show b = Y from e]; simp)), hp⟩) D_54.out.size)
        have XF_54 := Lib.hid ((D_54.out.block X (Array.getElem?_eq_some_iff.1 XF_53.out).1 (fun e => XY_51.out e)).trans XF_53.out)
        have B_54 := Lib.hid (B_53.out.trans (D_54.out.below (fun k hk => by have e2 : k = Y := hk; have := ZY_51.out; omega) B_53.out.size))
        have ZL_54 : Hid (∀ x ∈ ([Y, X] : List Nat), x < w_54.heap.size) := Lib.hid (fun x hx => Nat.lt_of_lt_of_le (ZL_53.out x hx) D_54.out.size)
        clear hw_54 y0 y1 y2 y3 k0 k1 k2 k3
        refine WD_done (by kernel_rfl) ?_ _
        exact ⟨X, Y, B1, e1, B2, e2, _, _, _, _, by rfl, ⟨XF_54.out, YF_54.out, T1_54.out.weak (fun _ _ _ => trivial), T2_54.out.weak (fun _ _ _ => trivial), B_54.out⟩⟩
    · rw [if_pos (by rfl)]
      go_simp
      refine hK.out _ _ (bt B_45.out (below_alloc w_45 _)) (fun hHeld => ?_)
      clear hK K
      (try simp only [Act.put, List.setIfInBounds_toArray, List.set_cons_zero, List.set_cons_succ])
      obtain ⟨w_55, hw_55⟩ : ∃ z, z = w_45.alloc (.cells #[.int .i64 0, .string ⟨#[]⟩, .int .i64 0, .slice none 0 0] 44) := ⟨_, rfl⟩
      try rw [← hw_55]
      clear hHeld
      have LB_55 : Hid (Below w_45.heap.size w_45 w_55) := Lib.hid (by rw [hw_55]; exact below_alloc w_45 _)
      have D_55 := Lib.hid (Frm.of_below LB_55.out (Nat.le_refl _) (fun _ => False))
      have N_55 : Hid (w_55.heap[w_45.heap.size]? = some (.cells #[.int .i64 0, .string ⟨#[]⟩, .int .i64 0, .slice none 0 0] 44 (0, 0))) := Lib.hid (by rw [hw_55]; exact heap_alloc_new w_45 _)
      obtain ⟨Y, hZ_55⟩ : ∃ Z, Z = w_45.heap.size := ⟨_, rfl⟩
      rw [← hZ_55] at N_55 ⊢
      have X0_55 := Lib.hid ((D_55.out.block X (Array.getElem?_eq_some_iff.1 N_45.out).1 (fun e => e)).trans N_45.out)
      have B_55 := Lib.hid (bt B_45.out LB_55.out)
      have ZL_55 : Hid (∀ x ∈ ([Y, X] : List Nat), x < w_55.heap.size) := Lib.hid (fun x hx => by rcases List.mem_cons.1 hx with h | h; (rw [h]; exact (Array.getElem?_eq_some_iff.1 N_55.out).1); exact Nat.lt_of_lt_of_le (ZL_45.out x h) D_55.out.size)
      have ZY_55 : Hid (wC.heap.size ≤ Y) := Lib.hid (by rw [hZ_55]; exact B_45.out.size)
      have XY_55 : Hid (X ≠ Y) := Lib.hid (by have h1 := (Array.getElem?_eq_some_iff.1 N_45.out).1; rw [← hZ_55] at h1; omega)
      clear hw_55 hZ_55
      refine WD_ready (rs := [1]) (by kernel_rfl) (by simp) ?_
      refine AllD.cons (o := _) rfl (fun K hK => ?_) AllD.nil
      rw [if_pos (by rfl)]
      go_simp
      refine (C1.out _ B_55.out).mono ?_; rintro e w_56 ⟨B1, e1, rfl, r_56, l_56⟩
      unfold tv
      try go_wp2_with fail
      refine hK.out _ _ (bt B_55.out l_56) (fun hHeld => ?_)
      clear hK K
      (try simp only [Act.put, List.setIfInBounds_toArray, List.set_cons_zero, List.set_cons_succ])
      clear hHeld
      have LB_56 := Lib.hid l_56
      have D_56 := Lib.hid (Frm.of_below l_56 (Nat.le_refl _) (fun _ => False))
      have X0_56 := Lib.hid ((D_56.out.block X (Array.getElem?_eq_some_iff.1 X0_55.out).1 (fun e => e)).trans X0_55.out)
      have Y0_56 := Lib.hid ((D_56.out.block Y (Array.getElem?_eq_some_iff.1 N_55.out).1 (fun e => e)).trans N_55.out)
      have B_56 := Lib.hid (bt B_55.out LB_56.out)
      have ZL_56 : Hid (∀ x ∈ ([Y, X] : List Nat), x < w_56.heap.size) := Lib.hid (fun x hx => Nat.lt_of_lt_of_le (ZL_55.out x hx) D_56.out.size)
      have T1_56 := Lib.hid (r_56.weak (P' := fun b => b ∉ ([Y, X] : List Nat)) (fun b _ hp => notin_ge ZL_55.out hp))
      clear r_56 l_56
      refine WD_ready (rs := [3]) (by kernel_rfl) (by simp) ?_
      refine AllD.cons (o := _) rfl (fun K hK => ?_) AllD.nil
      rw [if_pos (by rfl)]
      go_simp
      refine (C2.out _ B_56.out).mono ?_; rintro e w_57 ⟨B2, e2, rfl, r_57, l_57⟩
      unfold tv
      try go_wp2_with fail
      refine hK.out _ _ (bt B_56.out l_57) (fun hHeld => ?_)
      clear hK K
      (try simp only [Act.put, List.setIfInBounds_toArray, List.set_cons_zero, List.set_cons_succ])
      clear hHeld
      have LB_57 := Lib.hid l_57
      have D_57 := Lib.hid (Frm.of_below l_57 (Nat.le_refl _) (fun _ => False))
      have T1_57 := Lib.hid (T1_56.out.move (w' := w_57) (P' := fun b => b ∉ ([Y, X] : List Nat)) (fun b hb hp => ⟨D_57.out.block b hb (fun e => e), hp⟩) D_57.out.size)
      have X0_57 := Lib.hid ((D_57.out.block X (Array.getElem?_eq_some_iff.1 X0_56.out).1 (fun e => e)).trans X0_56.out)
      have Y0_57 := Lib.hid ((D_57.out.block Y (Array.getElem?_eq_some_iff.1 Y0_56.out).1 (fun e => e)).trans Y0_56.out)
      have B_57 := Lib.hid (bt B_56.out LB_57.out)
      have ZL_57 : Hid (∀ x ∈ ([Y, X] : List Nat), x < w_57.heap.size) := Lib.hid (fun x hx => Nat.lt_of_lt_of_le (ZL_56.out x hx) D_57.out.size)
      have T2_57 := Lib.hid (r_57.weak (P' := fun b => b ∉ ([Y, X] : List Nat)) (fun b _ hp => notin_ge ZL_56.out hp))
      clear r_57 l_57
      refine WD_ready (rs := [6]) (by kernel_rfl) (by simp) ?_
      refine AllD.cons (o := _) rfl (fun K hK => ?_) AllD.nil
      obtain ⟨y0, y1, y2, y3⟩ := cells4 X0_57.out
      obtain ⟨k0, k1, k2, k3⟩ := froz4 X0_57.out
      rw [if_pos (by rfl)]
      go_simp
      refine hK.out _ _ (B_57.out.trans ((frm4 w_57 X (.int .i64 V.k) (.string V.nm) (.int .i64 V.vr) (.slice B1 V.args.length e1)).below (fun k hk => by have e2 : k = X := hk; have := ZX_45.out; omega) B_57.out.size)) (fun hHeld => ?_)
      clear hK K
      (try simp only [Act.put, List.setIfInBounds_toArray, List.set_cons_zero, List.set_cons_succ])
      clear hHeld
      obtain ⟨w_58, hw_58⟩ : ∃ z, z = ((((w_57.setCell ⟨X, 0, none⟩ (.int .i64 V.k)).setCell ⟨X, 1, none⟩ (.string V.nm)).setCell ⟨X, 2, none⟩ (.int .i64 V.vr)).setCell ⟨X, 3, none⟩ (.slice B1 V.args.length e1)) := ⟨_, rfl⟩
      try rw [← hw_58]
      have D_58 : Hid (Frm w_57 w_58 (· = X)) := Lib.hid (by rw [hw_58]; exact (frm4 w_57 X (.int .i64 V.k) (.string V.nm) (.int .i64 V.vr) (.slice B1 V.args.length e1)))
      have XF_58 : Hid (w_58.heap[X]? = some (.cells #[.int .i64 V.k, .string V.nm, .int .i64 V.vr, .slice B1 V.args.length e1] 44 (0, 0))) := Lib.hid (by rw [hw_58]; exact cells_all _ _ _ _ X0_57.out)
      have T1_58 := Lib.hid (T1_57.out.move (w' := w_58) (P' := fun b => b ∉ ([Y, X] : List Nat)) (fun b hb hp => ⟨D_58.out.block b hb (fun e => hp (by rw [show b = X from e]; simp)), hp⟩) D_58.out.size)
      have T2_58 := Lib.hid (T2_57.out.move (w' := w_58) (P' := fun b => b ∉ ([Y, X] : List Nat)) (fun b hb hp => ⟨D_58.out.block b hb (fun e => hp (by rw [show b = X from e]; simp)), hp⟩) D_58.out.size)
      have Y0_58 := Lib.hid ((D_58.out.block Y (Array.getElem?_eq_some_iff.1 Y0_57.out).1 (fun e => XY_55.out e.symm)).trans Y0_57.out)
      have B_58 := Lib.hid (B_57.out.trans (D_58.out.below (fun k hk => by have e2 : k = X := hk; have := ZX_45.out; omega) B_57.out.size))
      have ZL_58 : Hid (∀ x ∈ ([Y, X] : List Nat), x < w_58.heap.size) := Lib.hid (fun x hx => Nat.lt_of_lt_of_le (ZL_57.out x hx) D_58.out.size)
      clear hw_58 y0 y1 y2 y3 k0 k1 k2 k3
      refine WD_ready (rs := [7]) (by kernel_rfl) (by simp) ?_
      refine AllD.last (o := _) rfl (by kernel_rfl) (fun K hK => ?_) AllD.nil
      obtain ⟨y0, y1, y2, y3⟩ := cells4 Y0_58.out
      obtain ⟨k0, k1, k2, k3⟩ := froz4 Y0_58.out
      rw [if_pos (by rfl)]
      go_simp
      refine hK.out _ _ ?_
      clear hK K
      (try simp only [Act.put, List.setIfInBounds_toArray, List.set_cons_zero, List.set_cons_succ])
      obtain ⟨w_59, hw_59⟩ : ∃ z, z = ((((w_58.setCell ⟨Y, 0, none⟩ (.int .i64 U.k)).setCell ⟨Y, 1, none⟩ (.string U.nm)).setCell ⟨Y, 2, none⟩ (.int .i64 U.vr)).setCell ⟨Y, 3, none⟩ (.slice B2 U.args.length e2)) := ⟨_, rfl⟩
      try rw [← hw_59]
      have D_59 : Hid (Frm w_58 w_59 (· = Y)) := Lib.hid (by rw [hw_59]; exact (frm4 w_58 Y (.int .i64 U.k) (.string U.nm) (.int .i64 U.vr) (.slice B2 U.args.length e2)))
      have YF_59 : Hid (w_59.heap[Y]? = some (.cells #[.int .i64 U.k, .string U.nm, .int .i64 U.vr, .slice B2 U.args.length e2] 44 (0, 0))) := Lib.hid (by rw [hw_59]; exact cells_all _ _ _ _ Y0_58.out)
      have T1_59 := Lib.hid (T1_58.out.move (w' := w_59) (P' := fun b => b ∉ ([Y, X] : List Nat)) (fun b hb hp => ⟨D_59.out.block b hb (fun e => hp (by rw [show b = Y from e]; simp)), hp⟩) D_59.out.size)
      have T2_59 := Lib.hid (T2_58.out.move (w' := w_59) (P' := fun b => b ∉ ([Y, X] : List Nat)) (fun b hb hp => ⟨D_59.out.block b hb (fun e => hp (by rw [show b = Y from e]; simp)), hp⟩) D_59.out.size)
      have XF_59 := Lib.hid ((D_59.out.block X (Array.getElem?_eq_some_iff.1 XF_58.out).1 (fun e => XY_55.out e)).trans XF_58.out)
      have B_59 := Lib.hid (B_58.out.trans (D_59.out.below (fun k hk => by have e2 : k = Y := hk; have := ZY_55.out; omega) B_58.out.size))
      have ZL_59 : Hid (∀ x ∈ ([Y, X] : List Nat), x < w_59.heap.size) := Lib.hid (fun x hx => Nat.lt_of_lt_of_le (ZL_58.out x hx) D_59.out.size)
      clear hw_59 y0 y1 y2 y3 k0 k1 k2 k3
      refine WD_done (by kernel_rfl) ?_ _
      exact ⟨X, Y, B1, e1, B2, e2, _, _, _, _, by rfl, ⟨XF_59.out, YF_59.out, T1_59.out.weak (fun _ _ _ => trivial), T2_59.out.weak (fun _ _ _ => trivial), B_59.out⟩⟩
  · rw [if_pos (by rfl)]
    go_simp
    refine hK.out _ _ (bt B_0.out (below_alloc w_0 _)) (fun hHeld => ?_)
    clear hK K
    (try simp only [Act.put, List.setIfInBounds_toArray, List.set_cons_zero, List.set_cons_succ])
    obtain ⟨w_60, hw_60⟩ : ∃ z, z = w_0.alloc (.cells #[.int .i64 0, .string ⟨#[]⟩, .int .i64 0, .slice none 0 0] 44) := ⟨_, rfl⟩
    try rw [← hw_60]
    clear hHeld
    have LB_60 : Hid (Below w_0.heap.size w_0 w_60) := Lib.hid (by rw [hw_60]; exact below_alloc w_0 _)
    have D_60 := Lib.hid (Frm.of_below LB_60.out (Nat.le_refl _) (fun _ => False))
    have N_60 : Hid (w_60.heap[w_0.heap.size]? = some (.cells #[.int .i64 0, .string ⟨#[]⟩, .int .i64 0, .slice none 0 0] 44 (0, 0))) := Lib.hid (by rw [hw_60]; exact heap_alloc_new w_0 _)
    obtain ⟨Y, hZ_60⟩ : ∃ Z, Z = w_0.heap.size := ⟨_, rfl⟩
    rw [← hZ_60] at N_60 ⊢
    have B_60 := Lib.hid (bt B_0.out LB_60.out)
    have ZL_60 : Hid (∀ x ∈ ([Y] : List Nat), x < w_60.heap.size) := Lib.hid (fun x hx => by rcases List.mem_cons.1 hx with h | h; (rw [h]; exact (Array.getElem?_eq_some_iff.1 N_60.out).1); exact Nat.lt_of_lt_of_le (ZL_0.out x h) D_60.out.size)
    have ZY_60 : Hid (wC.heap.size ≤ Y) := Lib.hid (by rw [hZ_60]; exact B_0.out.size)
    clear hw_60 hZ_60
    refine WD_ready (rs := [1, 4]) (by kernel_rfl) (by simp) ?_
    refine AllD.cons (o := _) rfl (fun K hK => ?_) (AllD.cons (o := _) rfl (fun K hK => ?_) AllD.nil)
    · rw [if_pos (by rfl)]
      go_simp
      refine (C1.out _ B_60.out).mono ?_; rintro e w_61 ⟨B1, e1, rfl, r_61, l_61⟩
      unfold tv
      try go_wp2_with fail
      refine hK.out _ _ (bt B_60.out l_61) (fun hHeld => ?_)
      clear hK K
      (try simp only [Act.put, List.setIfInBounds_toArray, List.set_cons_zero, List.set_cons_succ])
      clear hHeld
      have LB_61 := Lib.hid l_61
      have D_61 := Lib.hid (Frm.of_below l_61 (Nat.le_refl _) (fun _ => False))
      have Y0_61 := Lib.hid ((D_61.out.block Y (Array.getElem?_eq_some_iff.1 N_60.out).1 (fun e => e)).trans N_60.out)
      have B_61 := Lib.hid (bt B_60.out LB_61.out)
      have ZL_61 : Hid (∀ x ∈ ([Y] : List Nat), x < w_61.heap.size) := Lib.hid (fun x hx => Nat.lt_of_lt_of_le (ZL_60.out x hx) D_61.out.size)
      have T1_61 := Lib.hid (r_61.weak (P' := fun b => b ∉ ([Y] : List Nat)) (fun b _ hp => notin_ge ZL_60.out hp))
      clear r_61 l_61
      refine WD_ready (rs := [3, 4]) (by kernel_rfl) (by simp) ?_
      refine AllD.cons (o := _) rfl (fun K hK => ?_) (AllD.cons (o := _) rfl (fun K hK => ?_) AllD.nil)
      · rw [if_pos (by rfl)]
        go_simp
        refine (C2.out _ B_61.out).mono ?_; rintro e w_62 ⟨B2, e2, rfl, r_62, l_62⟩
        unfold tv
        try go_wp2_with fail
        refine hK.out _ _ (bt B_61.out l_62) (fun hHeld => ?_)
        clear hK K
        (try simp only [Act.put, List.setIfInBounds_toArray, List.set_cons_zero, List.set_cons_succ])
        clear hHeld
        have LB_62 := Lib.hid l_62
        have D_62 := Lib.hid (Frm.of_below l_62 (Nat.le_refl _) (fun _ => False))
        have T1_62 := Lib.hid (T1_61.out.move (w' := w_62) (P' := fun b => b ∉ ([Y] : List Nat)) (fun b hb hp => ⟨D_62.out.block b hb (fun e => e), hp⟩) D_62.out.size)
        have Y0_62 := Lib.hid ((D_62.out.block Y (Array.getElem?_eq_some_iff.1 Y0_61.out).1 (fun e => e)).trans Y0_61.out)
        have B_62 := Lib.hid (bt B_61.out LB_62.out)
        have ZL_62 : Hid (∀ x ∈ ([Y] : List Nat), x < w_62.heap.size) := Lib.hid (fun x hx => Nat.lt_of_lt_of_le (ZL_61.out x hx) D_62.out.size)
        have T2_62 := Lib.hid (r_62.weak (P' := fun b => b ∉ ([Y] : List Nat)) (fun b _ hp => notin_ge ZL_61.out hp))
        clear r_62 l_62
        refine WD_ready (rs := [4]) (by kernel_rfl) (by simp) ?_
        refine AllD.cons (o := _) rfl (fun K hK => ?_) AllD.nil
        rw [if_pos (by rfl)]
        go_simp
        refine hK.out _ _ (bt B_62.out (below_alloc w_62 _)) (fun hHeld => ?_)
        clear hK K
        (try simp only [Act.put, List.setIfInBounds_toArray, List.set_cons_zero, List.set_cons_succ])
        obtain ⟨w_63, hw_63⟩ : ∃ z, z = w_62.alloc (.cells #[.int .i64 0, .string ⟨#[]⟩, .int .i64 0, .slice none 0 0] 44) := ⟨_, rfl⟩
        try rw [← hw_63]
        clear hHeld
        have LB_63 : Hid (Below w_62.heap.size w_62 w_63) := Lib.hid (by rw [hw_63]; exact below_alloc w_62 _)
        have D_63 := Lib.hid (Frm.of_below LB_63.out (Nat.le_refl _) (fun _ => False))
        have N_63 : Hid (w_63.heap[w_62.heap.size]? = some (.cells #[.int .i64 0, .string ⟨#[]⟩, .int .i64 0, .slice none 0 0] 44 (0, 0))) := Lib.hid (by rw [hw_63]; exact heap_alloc_new w_62 _)
        obtain ⟨X, hZ_63⟩ : ∃ Z, Z = w_62.heap.size := ⟨_, rfl⟩
        rw [← hZ_63] at N_63 ⊢
        have T1_63 := Lib.hid (T1_62.out.move (w' := w_63) (P' := fun b => b ∉ ([X, Y] : List Nat)) (fun b hb hp => ⟨D_63.out.block b hb (fun e => e), by rw [List.mem_cons, not_or]; exact ⟨by have h0 := hb; rw [← hZ_63] at h0; exact Nat.ne_of_lt h0, hp⟩⟩) D_63.out.size)
        have T2_63 := Lib.hid (T2_62.out.move (w' := w_63) (P' := fun b => b ∉ ([X, Y] : List Nat)) (fun b hb hp => ⟨D_63.out.block b hb (fun e => e), by rw [List.mem_cons, not_or]; exact ⟨by have h0 := hb; rw [← hZ_63] at h0; exact Nat.ne_of_lt h0, hp⟩⟩) D_63.out.size)
        have Y0_63 := Lib.hid ((D_63.out.block Y (Array.getElem?_eq_some_iff.1 Y0_62.out).1 (fun e => e)).trans Y0_62.out)
        have B_63 := Lib.hid (bt B_62.out LB_63.out)
        have ZL_63 : Hid (∀ x ∈ ([X, Y] : List Nat), x < w_63.heap.size) := Lib.hid (fun x hx => by rcases List.mem_cons.1 hx with h | h; (rw [h]; exact (Array.getElem?_eq_some_iff.1 N_63.out).1); exact Nat.lt_of_lt_of_le (ZL_62.out x h) D_63.out.size)
        have ZX_63 : Hid (wC.heap.size ≤ X) := Lib.hid (by rw [hZ_63]; exact B_62.out.size)
        have XY_63 : Hid (X ≠ Y) := Lib.hid (by have h1 := (Array.getElem?_eq_some_iff.1 Y0_62.out).1; rw [← hZ_63] at h1; omega)
        clear hw_63 hZ_63
        refine WD_ready (rs := [6]) (by kernel_rfl) (by simp) ?_
        refine AllD.cons (o := _) rfl (fun K hK => ?_) AllD.nil
        obtain ⟨y0, y1, y2, y3⟩ := cells4 N_63.out
        obtain ⟨k0, k1, k2, k3⟩ := froz4 N_63.out
        rw [if_pos (by rfl)]
        go_simp
        refine hK.out _ _ (B_63.out.trans ((frm4 w_63 X (.int .i64 V.k) (.string V.nm) (.int .i64 V.vr) (.slice B1 V.args.length e1)).below (fun k hk => by have e2 : k = X := hk; have := ZX_63.out; omega) B_63.out.size)) (fun hHeld => ?_)
        clear hK K
        (try simp only [Act.put, List.setIfInBounds_toArray, List.set_cons_zero, List.set_cons_succ])
        clear hHeld
        obtain ⟨w_64, hw_64⟩ : ∃ z, z = ((((w_63.setCell ⟨X, 0, none⟩ (.int .i64 V.k)).setCell ⟨X, 1, none⟩ (.string V.nm)).setCell ⟨X, 2, none⟩ (.int .i64 V.vr)).setCell ⟨X, 3, none⟩ (.slice B1 V.args.length e1)) := ⟨_, rfl⟩
        try rw [← hw_64]
        have D_64 : Hid (Frm w_63 w_64 (· = X)) := Lib.hid (by rw [hw_64]; exact (frm4 w_63 X (.int .i64 V.k) (.string V.nm) (.int .i64 V.vr) (.slice B1 V.args.length e1)))
        have XF_64 : Hid (w_64.heap[X]? = some (.cells #[.int .i64 V.k, .string V.nm, .int .i64 V.vr, .slice B1 V.args.length e1] 44 (0, 0))) := Lib.hid (by rw [hw_64]; exact cells_all _ _ _ _ N_63.out)
        have T1_64 := Lib.hid (T1_63.out.move (w' := w_64) (P' := fun b => b ∉ ([X, Y] : List Nat)) (fun b hb hp => ⟨D_64.out.block b hb (fun e => hp (by rw [show b = X from e]; simp)), hp⟩) D_64.out.size)
        have T2_64 := Lib.hid (T2_63.out.move (w' := w_64) (P' := fun b => b ∉ ([X, Y] : List Nat)) (fun b hb hp => ⟨D_64.out.block b hb (fun e => hp (by rw [show b = X from e]; simp)), hp⟩) D_64.out.size)
        have Y0_64 := Lib.hid ((D_64.out.block Y (Array.getElem?_eq_some_iff.1 Y0_63.out).1 (fun e => XY_63.out e.symm)).trans Y0_63.out)
        have B_64 := Lib.hid (B_63.out.trans (D_64.out.below (fun k hk => by have e2 : k = X := hk; have := ZX_63.out; omega) B_63.out.size))
        have ZL_64 : Hid (∀ x ∈ ([X, Y] : List Nat), x < w_64.heap.size) := Lib.hid (fun x hx => Nat.lt_of_lt_of_le (ZL_63.out x hx) D_64.out.size)
        clear hw_64 y0 y1 y2 y3 k0 k1 k2 k3
        refine WD_ready (rs := [7]) (by kernel_rfl) (by simp) ?_
        refine AllD.last (o := _) rfl (by kernel_rfl) (fun K hK => ?_) AllD.nil
        obtain ⟨y0, y1, y2, y3⟩ := cells4 Y0_64.out
        obtain ⟨k0, k1, k2, k3⟩ := froz4 Y0_64.out
        rw [if_pos (by rfl)]
        go_simp
        refine hK.out _ _ ?_
        clear hK K
        (try simp only [Act.put, List.setIfInBounds_toArray, List.set_cons_zero, List.set_cons_succ])
        obtain ⟨w_65, hw_65⟩ : ∃ z, z = ((((w_64.setCell ⟨Y, 0, none⟩ (.int .i64 U.k)).setCell ⟨Y, 1, none⟩ (.string U.nm)).setCell ⟨Y, 2, none⟩ (.int .i64 U.vr)).setCell ⟨Y, 3, none⟩ (.slice B2 U.args.length e2)) := ⟨_, rfl⟩
        try rw [← hw_65]
        have D_65 : Hid (Frm w_64 w_65 (· = Y)) := Lib.hid (by rw [hw_65]; exact (frm4 w_64 Y (.int .i64 U.k) (.string U.nm) (.int .i64 U.vr) (.slice B2 U.args.length e2)))
        have YF_65 : Hid (w_65.heap[Y]? = some (.cells #[.int .i64 U.k, .string U.nm, .int .i64 U.vr, .slice B2 U.args.length e2] 44 (0, 0))) := Lib.hid (by rw [hw_65]; exact cells_all _ _ _ _ Y0_64.out)
        have T1_65 := Lib.hid (T1_64.out.move (w' := w_65) (P' := fun b => b ∉ ([X, Y] : List Nat)) (fun b hb hp => ⟨D_65.out.block b hb (fun e => hp (by rw [show b = Y from e]; simp)), hp⟩) D_65.out.size)
        have T2_65 := Lib.hid (T2_64.out.move (w' := w_65) (P' := fun b => b ∉ ([X, Y] : List Nat)) (fun b hb hp => ⟨D_65.out.block b hb (fun e => hp (by rw [show b = Y from e]; simp)), hp⟩) D_65.out.size)
        have XF_65 := Lib.hid ((D_65.out.block X (Array.getElem?_eq_some_iff.1 XF_64.out).1 (fun e => XY_63.out e)).trans XF_64.out)
        have B_65 := Lib.hid (B_64.out.trans (D_65.out.below (fun k hk => by have e2 : k = Y := hk; have := ZY_60.out; omega) B_64.out.size))
        have ZL_65 : Hid (∀ x ∈ ([X, Y] : List Nat), x < w_65.heap.size) := Lib.hid (fun x hx => Nat.lt_of_lt_of_le (ZL_64.out x hx) D_65.out.size)
        clear hw_65 y0 y1 y2 y3 k0 k1 k2 k3
        refine WD_done (by kernel_rfl) ?_ _
        exact ⟨X, Y, B1, e1, B2, e2, _, _, _, _, by rfl, ⟨XF_65.out, YF_65.out, T1_65.out.weak (fun _ _ _ => trivial), T2_65.out.weak (fun _ _ _ => trivial), B_65.out⟩⟩
      · rw [if_pos (by rfl)]
        go_simp
        refine hK.out _ _ (bt B_61.out (below_alloc w_61 _)) (fun hHeld => ?_)
        clear hK K
        (try simp only [Act.put, List.setIfInBounds_toArray, List.set_cons_zero, List.set_cons_succ])
        obtain ⟨w_66, hw_66⟩ : ∃ z, z = w_61.alloc (.cells #[.int .i64 0, .string ⟨#[]⟩, .int .i64 0, .slice none 0 0] 44) := ⟨_, rfl⟩
        try rw [← hw_66]
        clear hHeld
        have LB_66 : Hid (Below w_61.heap.size w_61 w_66) := Lib.hid (by rw [hw_66]; exact below_alloc w_61 _)
        have D_66 := Lib.hid (Frm.of_below LB_66.out (Nat.le_refl _) (fun _ => False))
        have N_66 : Hid (w_66.heap[w_61.heap.size]? = some (.cells #[.int .i64 0, .string ⟨#[]⟩, .int .i64 0, .slice none 0 0] 44 (0, 0))) := Lib.hid (by rw [hw_66]; exact heap_alloc_new w_61 _)
        obtain ⟨X, hZ_66⟩ : ∃ Z, Z = w_61.heap.size := ⟨_, rfl⟩
        rw [← hZ_66] at N_66 ⊢
        have T1_66 := Lib.hid (T1_61.out.move (w' := w_66) (P' := fun b => b ∉ ([X, Y] : List Nat)) (fun b hb hp => ⟨D_66.out.block b hb (fun e => e), by rw [List.mem_cons, not_or]; exact ⟨by have h0 := hb; rw [← hZ_66] at h0; exact Nat.ne_of_lt h0, hp⟩⟩) D_66.out.size)
        have Y0_66 := Lib.hid ((D_66.out.block Y (Array.getElem?_eq_some_iff.1 Y0_61.out).1 (fun e => e)).trans Y0_61.out)
        have B_66 := Lib.hid (bt B_61.out LB_66.out)
        have ZL_66 : Hid (∀ x ∈ ([X, Y] : List Nat), x < w_66.heap.size) := Lib.hid (fun x hx => by rcases List.mem_cons.1 hx with h | h; (rw [h]; exact (Array.getElem?_eq_some_iff.1 N_66.out).1); exact Nat.lt_of_lt_of_le (ZL_61.out x h) D_66.out.size)
        have ZX_66 : Hid (wC.heap.size ≤ X) := Lib.hid (by rw [hZ_66]; exact B_61.out.size)
        have XY_66 : Hid (X ≠ Y) := Lib.hid (by have h1 := (Array.getElem?_eq_some_iff.1 Y0_61.out).1; rw [← hZ_66] at h1; omega)
        clear hw_66 hZ_66
        refine WD_ready (rs := [3]) (by kernel_rfl) (by simp) ?_
        refine AllD.cons (o := _) rfl (fun K hK => ?_) AllD.nil
        rw [if_pos (by rfl)]
        go_simp
        refine (C2.out _ B_66.out).mono ?_; rintro e w_67 ⟨B2, e2, rfl, r_67, l_67⟩
        unfold tv
        try go_wp2_with fail
        refine hK.out _ _ (bt B_66.out l_67) (fun hHeld => ?_)
        clear hK K
        (try simp only [Act.put, List.setIfInBounds_toArray, List.set_cons_zero, List.set_cons_succ])
        clear hHeld
        have LB_67 := Lib.hid l_67
        have D_67 := Lib.hid (Frm.of_below l_67 (Nat.le_refl _) (fun _ => False))
        have T1_67 := Lib.hid (T1_66.out.move (w' := w_67) (P' := fun b => b ∉ ([X, Y] : List Nat)) (fun b hb hp => ⟨D_67.out.block b hb (fun e => e), hp⟩) D_67.out.size)
        have X0_67 := Lib.hid ((D_67.out.block X (Array.getElem?_eq_some_iff.1 N_66.out).1 (fun e => e)).trans N_66.out)
        have Y0_67 := Lib.hid ((D_67.out.block Y (Array.getElem?_eq_some_iff.1 Y0_66.out).1 (fun e => e)).trans Y0_66.out)
        have B_67 := Lib.hid (bt B_66.out LB_67.out)
        have ZL_67 : Hid (∀ x ∈ ([X, Y] : List Nat), x < w_67.heap.size) := Lib.hid (fun x hx => Nat.lt_of_lt_of_le (ZL_66.out x hx) D_67.out.size)
        have T2_67 := Lib.hid (r_67.weak (P' := fun b => b ∉ ([X, Y] : List Nat)) (fun b _ hp => notin_ge ZL_66.out hp))
        clear r_67 l_67
        refine WD_ready (rs := [6]) (by kernel_rfl) (by simp) ?_
        refine AllD.cons (o := _) rfl (fun K hK => ?_) AllD.nil
        obtain ⟨y0, y1, y2, y3⟩ := cells4 X0_67.out
        obtain ⟨k0, k1, k2, k3⟩ := froz4 X0_67.out
        rw [if_pos (by rfl)]
        go_simp
        refine hK.out _ _ (B_67.out.trans ((frm4 w_67 X (.int .i64 V.k) (.string V.nm) (.int .i64 V.vr) (.slice B1 V.args.length e1)).below (fun k hk => by have e2 : k = X := hk; have := ZX_66.out; omega) B_67.out.size)) (fun hHeld => ?_)
        clear hK K
        (try simp only [Act.put, List.setIfInBounds_toArray, List.set_cons_zero, List.set_cons_succ])
        clear hHeld
        obtain ⟨w_68, hw_68⟩ : ∃ z, z = ((((w_67.setCell ⟨X, 0, none⟩ (.int .i64 V.k)).setCell ⟨X, 1, none⟩ (.string V.nm)).setCell ⟨X, 2, none⟩ (.int .i64 V.vr)).setCell ⟨X, 3, none⟩ (.slice B1 V.args.length e1)) := ⟨_, rfl⟩
        try rw [← hw_68]
        have D_68 : Hid (Frm w_67 w_68 (· = X)) := Lib.hid (by rw [hw_68]; exact (frm4 w_67 X (.int .i64 V.k) (.string V.nm) (.int .i64 V.vr) (.slice B1 V.args.length e1)))
        have XF_68 : Hid (w_68.heap[X]? = some (.cells #[.int .i64 V.k, .string V.nm, .int .i64 V.vr, .slice B1 V.args.length e1] 44 (0, 0))) := Lib.hid (by rw [hw_68]; exact cells_all _ _ _ _ X0_67.out)
        have T1_68 := Lib.hid (T1_67.out.move (w' := w_68) (P' := fun b => b ∉ ([X, Y] : List Nat)) (fun b hb hp => ⟨D_68.out.block b hb (fun e => hp (by rw [show b = X from e]; simp)), hp⟩) D_68.out.size)
        have T2_68 := Lib.hid (T2_67.out.move (w' := w_68) (P' := fun b => b ∉ ([X, Y] : List Nat)) (fun b hb hp => ⟨D_68.out.block b hb (fun e => hp (by rw [show b = X from e]; simp)), hp⟩) D_68.out.size)
        have Y0_68 := Lib.hid ((D_68.out.block Y (Array.getElem?_eq_some_iff.1 Y0_67.out).1 (fun e => XY_66.out e.symm)).trans Y0_67.out)
        have B_68 := Lib.hid (B_67.out.trans (D_68.out.below (fun k hk => by have e2 : k = X := hk; have := ZX_66.out; omega) B_67.out.size))
        have ZL_68 : Hid (∀ x ∈ ([X, Y] : List Nat), x < w_68.heap.size) := Lib.hid (fun x hx => Nat.lt_of_lt_of_le (ZL_67.out x hx) D_68.out.size)
        clear hw_68 y0 y1 y2 y3 k0 k1 k2 k3
        refine WD_ready (rs := [7]) (by kernel_rfl) (by simp) ?_
        refine AllD.last (o := _) rfl (by kernel_rfl) (fun K hK => ?_) AllD.nil
        obtain ⟨y0, y1, y2, y3⟩ := cells4 Y0_68.out
        obtain ⟨k0, k1, k2, k3⟩ := froz4 Y0_68.out
        rw [if_pos (by rfl)]
        go_simp
        refine hK.out _ _ ?_
        clear hK K
        (try simp only [Act.put, List.setIfInBounds_toArray, List.set_cons_zero, List.set_cons_succ])
        obtain ⟨w_69, hw_69⟩ : ∃ z, z = ((((w_68.setCell ⟨Y, 0, none⟩ (.int .i64 U.k)).setCell ⟨Y, 1, none⟩ (.string U.nm)).setCell ⟨Y, 2, none⟩ (.int .i64 U.vr)).setCell ⟨Y, 3, none⟩ (.slice B2 U.args.length e2)) := ⟨_, rfl⟩
        try rw [← hw_69]
        have D_69 : Hid (Frm w_68 w_69 (· = Y)) := Lib.hid (by rw [hw_69]; exact (frm4 w_68 Y (.int .i64 U.k) (.string U.nm) (.int .i64 U.vr) (.slice B2 U.args.length e2)))
        have YF_69 : Hid (w_69.heap[Y]? = some (.cells #[.int .i64 U.k, .string U.nm, .int .i64 U.vr, .slice B2 U.args.length e2] 44 (0, 0))) := Lib.hid (by rw [hw_69]; exact cells_all _ _ _ _ Y0_68.out)
        have T1_69 := Lib.hid (T1_68.out.move (w' := w_69) (P' := fun b => b ∉ ([X, Y] : List Nat)) (fun b hb hp => ⟨D_69.out.block b hb (fun e => hp (by rw [show b = Y from e]; simp)), hp⟩) D_69.out.size)
        have T2_69 := Lib.hid (T2_68.out.move (w' := w_69) (P' := fun b => b ∉ ([X, Y] : List Nat)) (fun b hb hp => ⟨D_69.out.block b hb (fun e => hp (by rw [show b = Y from e]; simp)), hp⟩) D_69.out.size)
        have XF_69 := Lib.hid ((D_69.out.block X (Array.getElem?_eq_some_iff.1 XF_68.out).1 (fun e => XY_66.out e)).trans XF_68.out)
        have B_69 := Lib.hid (B_68.out.trans (D_69.out.below (fun k hk => by have e2 : k = Y := hk; have := ZY_60.out; omega) B_68.out.size))
        have ZL_69 : Hid (∀ x ∈ ([X, Y] : List Nat), x < w_69.heap.size) := Lib.hid (fun x hx => Nat.lt_of_lt_of_le (ZL_68.out x hx) D_69.out.size)
        clear hw_69 y0 y1 y2 y3 k0 k1 k2 k3
        refine WD_done (by kernel_rfl) ?_ _
        exact ⟨X, Y, B1, e1, B2, e2, _, _, _, _, by rfl, ⟨XF_69.out, YF_69.out, T1_69.out.weak (fun _ _ _ => trivial), T2_69.out.weak (fun _ _ _ => trivial), B_69.out⟩⟩
    · rw [if_pos (by rfl)]
      go_simp
      refine hK.out _ _ (bt B_60.out (below_alloc w_60 _)) (fun hHeld => ?_)
      clear hK K
      (try simp only [Act.put, List.setIfInBounds_toArray, List.set_cons_zero, List.set_cons_succ])
      obtain ⟨w_70, hw_70⟩ : ∃ z, z = w_60.alloc (.cells #[.int .i64 0, .string ⟨#[]⟩, .int .i64 0, .slice none 0 0] 44) := ⟨_, rfl⟩
      try rw [← hw_70]
      clear hHeld
      have LB_70 : Hid (Below w_60.heap.size w_60 w_70) := Lib.hid (by rw [hw_70]; exact below_alloc w_60 _)
      have D_70 := Lib.hid (Frm.of_below LB_70.out (Nat.le_refl _) (fun _ => False))
      have N_70 : Hid (w_70.heap[w_60.heap.size]? = some (.cells #[.int .i64 0, .string ⟨#[]⟩, .int .i64 0, .slice none 0 0] 44 (0, 0))) := Lib.hid (by rw [hw_70]; exact heap_alloc_new w_60 _)
      obtain ⟨X, hZ_70⟩ : ∃ Z, Z = w_60.heap.size := ⟨_, rfl⟩
      rw [← hZ_70] at N_70 ⊢
      have Y0_70 := Lib.hid ((D_70.out.block Y (Array.getElem?_eq_some_iff.1 N_60.out).1 (fun e => e)).trans N_60.out)
      have B_70 := Lib.hid (bt B_60.out LB_70.out)
      have ZL_70 : Hid (∀ x ∈ ([X, Y] : List Nat), x < w_70.heap.size) := Lib.hid (fun x hx => by rcases List.mem_cons.1 hx with h | h; (rw [h]; exact (Array.getElem?_eq_some_iff.1 N_70.out).1); exact Nat.lt_of_lt_of_le (ZL_60.out x h) D_70.out.size)
      have ZX_70 : Hid (wC.heap.size ≤ X) := Lib.hid (by rw [hZ_70]; exact B_60.out.size)
      have XY_70 : Hid (X ≠ Y) := Lib.hid (by have h1 := (Array.getElem?_eq_some_iff.1 N_60.out).1; rw [← hZ_70] at h1; omega)
      clear hw_70 hZ_70
      refine WD_ready (rs := [1]) (by kernel_rfl) (by simp) ?_
      refine AllD.cons (o := _) rfl (fun K hK => ?_) AllD.nil
      rw [if_pos (by rfl)]
      go_simp
      refine (C1.out _ B_70.out).mono ?_; rintro e w_71 ⟨B1, e1, rfl, r_71, l_71⟩
      unfold tv
      try go_wp2_with fail
      refine hK.out _ _ (bt B_70.out l_71) (fun hHeld => ?_)
      clear hK K
      (try simp only [Act.put, List.setIfInBounds_toArray, List.set_cons_zero, List.set_cons_succ])
      clear hHeld
      have LB_71 := Lib.hid l_71
      have D_71 := Lib.hid (Frm.of_below l_71 (Nat.le_refl _) (fun _ => False))
      have X0_71 := Lib.hid ((D_71.out.block X (Array.getElem?_eq_some_iff.1 N_70.out).1 (fun e => e)).trans N_70.out)
      have Y0_71 := Lib.hid ((D_71.out.block Y (Array.getElem?_eq_some_iff.1 Y0_70.out).1 (fun e => e)).trans Y0_70.out)
      have B_71 := Lib.hid (bt B_70.out LB_71.out)
      have ZL_71 : Hid (∀ x ∈ ([X, Y] : List Nat), x < w_71.heap.size) := Lib.hid (fun x hx => Nat.lt_of_lt_of_le (ZL_70.out x hx) D_71.out.size)
      have T1_71 := Lib.hid (r_71.weak (P' := fun b => b ∉ ([X, Y] : List Nat)) (fun b _ hp => notin_ge ZL_70.out hp))
      clear r_71 l_71
      refine WD_ready (rs := [3]) (by kernel_rfl) (by simp) ?_
      refine AllD.cons (o := _) rfl (fun K hK => ?_) AllD.nil
      rw [if_pos (by rfl)]
      go_simp
      refine (C2.out _ B_71.out).mono ?_; rintro e w_72 ⟨B2, e2, rfl, r_72, l_72⟩
      unfold tv
      try go_wp2_with fail
      refine hK.out _ _ (bt B_71.out l_72) (fun hHeld => ?_)
      clear hK K
      (try simp only [Act.put, List.setIfInBounds_toArray, List.set_cons_zero, List.set_cons_succ])
      clear hHeld
      have LB_72 := Lib.hid l_72
      have D_72 := Lib.hid (Frm.of_below l_72 (Nat.le_refl _) (fun _ => False))
      have T1_72 := Lib.hid (T1_71.out.move (w' := w_72) (P' := fun b => b ∉ ([X, Y] : List Nat)) (fun b hb hp => ⟨D_72.out.block b hb (fun e => e), hp⟩) D_72.out.size)
      have X0_72 := Lib.hid ((D_72.out.block X (Array.getElem?_eq_some_iff.1 X0_71.out).1 (fun e => e)).trans X0_71.out)
      have Y0_72 := Lib.hid ((D_72.out.block Y (Array.getElem?_eq_some_iff.1 Y0_71.out).1 (fun e => e)).trans Y0_71.out)
      have B_72 := Lib.hid (bt B_71.out LB_72.out)
      have ZL_72 : Hid (∀ x ∈ ([X, Y] : List Nat), x < w_72.heap.size) := Lib.hid (fun x hx => Nat.lt_of_lt_of_le (ZL_71.out x hx) D_72.out.size)
      have T2_72 := Lib.hid (r_72.weak (P' := fun b => b ∉ ([X, Y] : List Nat)) (fun b _ hp => notin_ge ZL_71.out hp))
      clear r_72 l_72
      refine WD_ready (rs := [6]) (by kernel_rfl) (by simp) ?_
      refine AllD.cons (o := _) rfl (fun K hK => ?_) AllD.nil
      obtain ⟨y0, y1, y2, y3⟩ := cells4 X0_72.out
      obtain ⟨k0, k1, k2, k3⟩ := froz4 X0_72.out
      rw [if_pos (by rfl)]
      go_simp
      refine hK.out _ _ (B_72.out.trans ((frm4 w_72 X (.int .i64 V.k) (.string V.nm) (.int .i64 V.vr) (.slice B1 V.args.length e1)).below (fun k hk => by have e2 : k = X := hk; have := ZX_70.out; omega) B_72.out.size)) (fun hHeld => ?_)
      clear hK K
      (try simp only [Act.put, List.setIfInBounds_toArray, List.set_cons_zero, List.set_cons_succ])
      clear hHeld
      obtain ⟨w_73, hw_73⟩ : ∃ z, z = ((((w_72.setCell ⟨X, 0, none⟩ (.int .i64 V.k)).setCell ⟨X, 1, none⟩ (.string V.nm)).setCell ⟨X, 2, none⟩ (.int .i64 V.vr)).setCell ⟨X, 3, none⟩ (.slice B1 V.args.length e1)) := ⟨_, rfl⟩
      try rw [← hw_73]
      have D_73 : Hid (Frm w_72 w_73 (· = X)) := Lib.hid (by rw [hw_73]; exact (frm4 w_72 X (.int .i64 V.k) (.string V.nm) (.int .i64 V.vr) (.slice B1 V.args.length e1)))
      have XF_73 : Hid (w_73.heap[X]? = some (.cells #[.int .i64 V.k, .string V.nm, .int .i64 V.vr, .slice B1 V.args.length e1] 44 (0, 0))) := Lib.hid (by rw [hw_73]; exact cells_all _ _ _ _ X0_72.out)
      have T1_73 := Lib.hid (T1_72.out.move (w' := w_73) (P' := fun b => b ∉ ([X, Y] : List Nat)) (fun b hb hp => ⟨D_73.out.block b hb (fun e => hp (by rw [show b = X from e]; simp)), hp⟩) D_73.out.size)
      have T2_73 := Lib.hid (T2_72.out.move (w' := w_73) (P' := fun b => b ∉ ([X, Y] : List Nat)) (fun b hb hp => ⟨D_73.out.block b hb (fun e => hp (by rw [show b = X from e]; simp)), hp⟩) D_73.out.size)
      have Y0_73 := Lib.hid ((D_73.out.block Y (Array.getElem?_eq_some_iff.1 Y0_72.out).1 (fun e => XY_70.out e.symm)).trans Y0_72.out)
      have B_73 := Lib.hid (B_72.out.trans (D_73.out.below (fun k hk => by have e2 : k = X := hk; have := ZX_70.out; omega) B_72.out.size))
      have ZL_73 : Hid (∀ x ∈ ([X, Y] : List Nat), x < w_73.heap.size) := Lib.hid (fun x hx => Nat.lt_of_lt_of_le (ZL_72.out x hx) D_73.out.size)
      clear hw_73 y0 y1 y2 y3 k0 k1 k2 k3
      refine WD_ready (rs := [7]) (by kernel_rfl) (by simp) ?_
      refine AllD.last (o := _) rfl (by kernel_rfl) (fun K hK => ?_) AllD.nil
      obtain ⟨y0, y1, y2, y3⟩ := cells4 Y0_73.out
      obtain ⟨k0, k1, k2, k3⟩ := froz4 Y0_73.out
      rw [if_pos (by rfl)]
      go_simp
      refine hK.out _ _ ?_
      clear hK K
      (try simp only [Act.put, List.setIfInBounds_toArray, List.set_cons_zero, List.set_cons_succ])
      obtain ⟨w_74, hw_74⟩ : ∃ z, z = ((((w_73.setCell ⟨Y, 0, none⟩ (.int .i64 U.k)).setCell ⟨Y, 1, none⟩ (.string U.nm)).setCell ⟨Y, 2, none⟩ (.int .i64 U.vr)).setCell ⟨Y, 3, none⟩ (.slice B2 U.args.length e2)) := ⟨_, rfl⟩
      try rw [← hw_74]
      have D_74 : Hid (Frm w_73 w_74 (· = Y)) := Lib.hid (by rw [hw_74]; exact (frm4 w_73 Y (.int .i64 U.k) (.string U.nm) (.int .i64 U.vr) (.slice B2 U.args.length e2)))
      have YF_74 : Hid (w_74.heap[Y]? = some (.cells #[.int .i64 U.k, .string U.nm, .int .i64 U.vr, .slice B2 U.args.length e2] 44 (0, 0))) := Lib.hid (by rw [hw_74]; exact cells_all _ _ _ _ Y0_73.out)
      have T1_74 := Lib.hid (T1_73.out.move (w' := w_74) (P' := fun b => b ∉ ([X, Y] : List Nat)) (fun b hb hp => ⟨D_74.out.block b hb (fun e => hp (by rw [show b = Y from e]; simp)), hp⟩) D_74.out.size)
      have T2_74 := Lib.hid (T2_73.out.move (w' := w_74) (P' := fun b => b ∉ ([X, Y] : List Nat)) (fun b hb hp => ⟨D_74.out.block b hb (fun e => hp (by rw [show b = Y from e]; simp)), hp⟩) D_74.out.size)
      have XF_74 := Lib.hid ((D_74.out.block X (Array.getElem?_eq_some_iff.1 XF_73.out).1 (fun e => XY_70.out e)).trans XF_73.out)
      have B_74 := Lib.hid (B_73.out.trans (D_74.out.below (fun k hk => by have e2 : k = Y := hk; have := ZY_60.out; omega) B_73.out.size))
      have ZL_74 : Hid (∀ x ∈ ([X, Y] : List Nat), x < w_74.heap.size) := Lib.hid (fun x hx => Nat.lt_of_lt_of_le (ZL_73.out x hx) D_74.out.size)
      clear hw_74 y0 y1 y2 y3 k0 k1 k2 k3
      refine WD_done (by kernel_rfl) ?_ _
      exact ⟨X, Y, B1, e1, B2, e2, _, _, _, _, by rfl, ⟨XF_74.out, YF_74.out, T1_74.out.weak (fun _ _ _ => trivial), T2_74.out.weak (fun _ _ _ => trivial), B_74.out⟩⟩
end Go.Proofs.YtdkfimejabanlaaDoor
