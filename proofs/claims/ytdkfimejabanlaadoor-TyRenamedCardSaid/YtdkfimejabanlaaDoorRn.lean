import Derived.Test.YtdkfimejabanlaaDoorOd
import Derived.Test.YtdkfimejabanlaaDoorSf
namespace Go.Proofs.YtdkfimejabanlaaDoor
open DR
open Go.ChangeShapes Go.WideShapes Go.ChangeAt Go.RowKit Go.WideMaps
set_option linter.unusedVariables false
set_option linter.unusedSimpArgs false
theorem ren_by {by9 : Int} {V : TT} (h : shp V = true) : showT (renT (fun x => some (x + by9)) V) = showT V :=
  (ren_show (P := fun _ => True) (g := fun x => x + by9) ⟨fun x _ => rfl, fun x y _ _ e => by have e : x + by9 = y + by9 := e; omega⟩ h (fun _ _ => trivial)).1
mutual
theorem big_ren5 (f : Int → Option Int) : ∀ (d : Nat) (V : TT), bigT d V = false → bigT d (renT f V) = false
  | 0, V, h => by cases h
  | d + 1, V, h => by
    obtain ⟨h1, h2, h3⟩ := bigT_parts h
    by_cases hc : V.k = 7 ∧ (f V.vr).isSome = true
    · obtain ⟨y, hy⟩ := Option.isSome_iff_exists.1 hc.2
      rw [renT_var hc.1 hy]; rfl
    · rw [renT_not hc]
      have e : bigT (d + 1) (TT.mk V.k V.nm V.vr (V.args.map (renT f))) = (decide (4 < (V.args.map (renT f)).length) || decide (60 < V.nm.size) || (V.args.map (renT f)).any (bigT d)) := rfl
      rw [e, List.length_map, decide_eq_false (by omega : ¬ 4 < V.args.length), decide_eq_false (by omega : ¬ 60 < V.nm.size)]
      simp only [Bool.or_self, Bool.false_or]
      rw [List.any_eq_false]
      intro a ha
      obtain ⟨b, hb, rfl⟩ := List.mem_map.1 ha
      rw [big_ren5 f d b (h3 b hb)]
      simp
end
set_option maxRecDepth 100000 in
set_option maxHeartbeats 16000000 in
theorem renamed_walk {V U : TT} {v u : Value} {by9 : Int} {w : World} (hAw : ∀ W, Calls Tryd.prog 10 #[] W fun e W' => e = .returned (.bool true) ∧ Below W.heap.size W W') (h : TIn w any0 V v) (h2 : TIn w any0 U u) :
    Calls Tryd.prog 7 #[v, u, .int .i64 by9] w fun e w' => e = .returned (.bool true) ∧ Below w.heap.size w w' := by
  have HAW := Lib.hid (fun W (_ : Below w.heap.size w W) => hAw W)
  have hin := h; have hin2 := h2
  have HIN := Lib.hid h; have HIN2 := Lib.hid h2
  obtain ⟨A, c, rfl, hA⟩ := h
  obtain ⟨A2, c2, rfl, hA2⟩ := h2
  have CS := Lib.hid (fun W (hW : Below w.heap.size w W) => small_any 7 V _ 64 W most64 (hin.later hW))
  have CS2 := Lib.hid (fun W (hW : Below w.heap.size w W) => small_any 7 U _ 64 W most64 (hin2.later hW))
  obtain ⟨wB, hwB⟩ : ∃ z, z = (w.alloc (.cells #[.int .i64 V.k, .string V.nm, .int .i64 V.vr, .slice A V.args.length c] 27)).alloc (.cells #[.int .i64 U.k, .string U.nm, .int .i64 U.vr, .slice A2 U.args.length c2] 27) := ⟨_, rfl⟩
  have BX := two_box (w := w) (.cells #[.int .i64 V.k, .string V.nm, .int .i64 V.vr, .slice A V.args.length c] 27) (.cells #[.int .i64 U.k, .string U.nm, .int .i64 U.vr, .slice A2 U.args.length c2] 27)
  rw [← hwB] at BX
  have HB := Lib.hid (show Below w.heap.size w wB by rw [hwB]; exact bt (below_alloc w _) (below_alloc _ _))
  have HZ := Lib.hid (show wB.heap.size = w.heap.size + 2 by rw [hwB]; simp)
  have HX := Lib.hid BX
  have HWB := Lib.hid hwB
  have B0 := Lib.hid (Below.refl wB.heap.size wB)
  have KT := Lib.hid (fun W (hW : Below wB.heap.size wB W) => cells4 ((hW.block w.heap.size (by rw [HZ.out]; omega)).trans HX.out.1))
  have KU := Lib.hid (fun W (hW : Below wB.heap.size wB W) => cells4 ((hW.block (w.heap.size + 1) (by rw [HZ.out]; omega)).trans HX.out.2))
  clear BX hwB
  unfold tv at CS CS2 HIN HIN2 ⊢
  cases hbg : bigT 7 V with
  | true =>
    rw [hbg] at CS
    clear hbg
    obtain ⟨x0, x1, x2, x3⟩ := KT.out _ B0.out
    obtain ⟨y0, y1, y2, y3⟩ := KU.out _ B0.out
    clear hin hin2 hA hA2 hAw
    go_enter Tryd.func7, Tryd.ntmps7
    go_wp2_with fail
    rw [← HWB.out]
    try go_wp2_with fail
    refine (HAW.out _ (bt HB.out B0.out)).mono ?_; rintro e w1 ⟨rfl, b1⟩
    have B1 := Lib.hid (bt B0.out b1)
    clear x0 x1 x2 x3 y0 y1 y2 y3
    obtain ⟨x0, x1, x2, x3⟩ := KT.out _ B1.out
    obtain ⟨y0, y1, y2, y3⟩ := KU.out _ B1.out
    clear b1
    go_wp2_with fail
    refine (CS.out _ (bt HB.out B1.out)).mono ?_; rintro e w2 ⟨rfl, b2⟩
    have B2 := Lib.hid (bt B1.out b2)
    clear x0 x1 x2 x3 y0 y1 y2 y3
    obtain ⟨x0, x1, x2, x3⟩ := KT.out _ B2.out
    obtain ⟨y0, y1, y2, y3⟩ := KU.out _ B2.out
    clear b2
    go_wp2
    go_ret
    exact ⟨rfl, bt HB.out B2.out⟩
  | false =>
  rw [hbg] at CS
  cases hbg2 : bigT 7 U with
  | true =>
    rw [hbg2] at CS2
    clear hbg hbg2
    obtain ⟨x0, x1, x2, x3⟩ := KT.out _ B0.out
    obtain ⟨y0, y1, y2, y3⟩ := KU.out _ B0.out
    clear hin hin2 hA hA2 hAw
    go_enter Tryd.func7, Tryd.ntmps7
    go_wp2_with fail
    rw [← HWB.out]
    try go_wp2_with fail
    refine (HAW.out _ (bt HB.out B0.out)).mono ?_; rintro e w1 ⟨rfl, b1⟩
    have B1 := Lib.hid (bt B0.out b1)
    clear x0 x1 x2 x3 y0 y1 y2 y3
    obtain ⟨x0, x1, x2, x3⟩ := KT.out _ B1.out
    obtain ⟨y0, y1, y2, y3⟩ := KU.out _ B1.out
    clear b1
    go_wp2_with fail
    refine (CS.out _ (bt HB.out B1.out)).mono ?_; rintro e w2 ⟨rfl, b2⟩
    have B2 := Lib.hid (bt B1.out b2)
    clear x0 x1 x2 x3 y0 y1 y2 y3
    obtain ⟨x0, x1, x2, x3⟩ := KT.out _ B2.out
    obtain ⟨y0, y1, y2, y3⟩ := KU.out _ B2.out
    clear b2
    go_wp2_with fail
    refine (CS2.out _ (bt HB.out B2.out)).mono ?_; rintro e w3 ⟨rfl, b3⟩
    have B3 := Lib.hid (bt B2.out b3)
    clear x0 x1 x2 x3 y0 y1 y2 y3
    obtain ⟨x0, x1, x2, x3⟩ := KT.out _ B3.out
    obtain ⟨y0, y1, y2, y3⟩ := KU.out _ B3.out
    clear b3
    go_wp2
    go_ret
    exact ⟨rfl, bt HB.out B3.out⟩
  | false =>
  rw [hbg2] at CS2
  have CG := Lib.hid (fun W (hW : Below w.heap.size w W) => good_any (Nat.le_refl 7) hbg (hin.later hW))
  have CG2 := Lib.hid (fun W (hW : Below w.heap.size w W) => good_any (Nat.le_refl 7) hbg2 (hin2.later hW))
  unfold tv at CG CG2
  cases hg : goodT V with
  | false =>
    rw [hg] at CG
    clear hbg hbg2 hg
    obtain ⟨x0, x1, x2, x3⟩ := KT.out _ B0.out
    obtain ⟨y0, y1, y2, y3⟩ := KU.out _ B0.out
    clear hin hin2 hA hA2 hAw
    go_enter Tryd.func7, Tryd.ntmps7
    go_wp2_with fail
    rw [← HWB.out]
    try go_wp2_with fail
    refine (HAW.out _ (bt HB.out B0.out)).mono ?_; rintro e w1 ⟨rfl, b1⟩
    have B1 := Lib.hid (bt B0.out b1)
    clear x0 x1 x2 x3 y0 y1 y2 y3
    obtain ⟨x0, x1, x2, x3⟩ := KT.out _ B1.out
    obtain ⟨y0, y1, y2, y3⟩ := KU.out _ B1.out
    clear b1
    go_wp2_with fail
    refine (CS.out _ (bt HB.out B1.out)).mono ?_; rintro e w2 ⟨rfl, b2⟩
    have B2 := Lib.hid (bt B1.out b2)
    clear x0 x1 x2 x3 y0 y1 y2 y3
    obtain ⟨x0, x1, x2, x3⟩ := KT.out _ B2.out
    obtain ⟨y0, y1, y2, y3⟩ := KU.out _ B2.out
    clear b2
    go_wp2_with fail
    refine (CS2.out _ (bt HB.out B2.out)).mono ?_; rintro e w3 ⟨rfl, b3⟩
    have B3 := Lib.hid (bt B2.out b3)
    clear x0 x1 x2 x3 y0 y1 y2 y3
    obtain ⟨x0, x1, x2, x3⟩ := KT.out _ B3.out
    obtain ⟨y0, y1, y2, y3⟩ := KU.out _ B3.out
    clear b3
    go_wp2_with fail
    refine (CG.out _ (bt HB.out B3.out)).mono ?_; rintro e w4 ⟨rfl, b4⟩
    have B4 := Lib.hid (bt B3.out b4)
    clear x0 x1 x2 x3 y0 y1 y2 y3
    obtain ⟨x0, x1, x2, x3⟩ := KT.out _ B4.out
    obtain ⟨y0, y1, y2, y3⟩ := KU.out _ B4.out
    clear b4
    go_wp2
    go_ret
    exact ⟨rfl, bt HB.out B4.out⟩
  | true =>
  rw [hg] at CG
  cases hg2 : goodT U with
  | false =>
    rw [hg2] at CG2
    clear hbg hbg2 hg hg2
    obtain ⟨x0, x1, x2, x3⟩ := KT.out _ B0.out
    obtain ⟨y0, y1, y2, y3⟩ := KU.out _ B0.out
    clear hin hin2 hA hA2 hAw
    go_enter Tryd.func7, Tryd.ntmps7
    go_wp2_with fail
    rw [← HWB.out]
    try go_wp2_with fail
    refine (HAW.out _ (bt HB.out B0.out)).mono ?_; rintro e w1 ⟨rfl, b1⟩
    have B1 := Lib.hid (bt B0.out b1)
    clear x0 x1 x2 x3 y0 y1 y2 y3
    obtain ⟨x0, x1, x2, x3⟩ := KT.out _ B1.out
    obtain ⟨y0, y1, y2, y3⟩ := KU.out _ B1.out
    clear b1
    go_wp2_with fail
    refine (CS.out _ (bt HB.out B1.out)).mono ?_; rintro e w2 ⟨rfl, b2⟩
    have B2 := Lib.hid (bt B1.out b2)
    clear x0 x1 x2 x3 y0 y1 y2 y3
    obtain ⟨x0, x1, x2, x3⟩ := KT.out _ B2.out
    obtain ⟨y0, y1, y2, y3⟩ := KU.out _ B2.out
    clear b2
    go_wp2_with fail
    refine (CS2.out _ (bt HB.out B2.out)).mono ?_; rintro e w3 ⟨rfl, b3⟩
    have B3 := Lib.hid (bt B2.out b3)
    clear x0 x1 x2 x3 y0 y1 y2 y3
    obtain ⟨x0, x1, x2, x3⟩ := KT.out _ B3.out
    obtain ⟨y0, y1, y2, y3⟩ := KU.out _ B3.out
    clear b3
    go_wp2_with fail
    refine (CG.out _ (bt HB.out B3.out)).mono ?_; rintro e w4 ⟨rfl, b4⟩
    have B4 := Lib.hid (bt B3.out b4)
    clear x0 x1 x2 x3 y0 y1 y2 y3
    obtain ⟨x0, x1, x2, x3⟩ := KT.out _ B4.out
    obtain ⟨y0, y1, y2, y3⟩ := KU.out _ B4.out
    clear b4
    go_wp2_with fail
    refine (CG2.out _ (bt HB.out B4.out)).mono ?_; rintro e w5 ⟨rfl, b5⟩
    have B5 := Lib.hid (bt B4.out b5)
    clear x0 x1 x2 x3 y0 y1 y2 y3
    obtain ⟨x0, x1, x2, x3⟩ := KT.out _ B5.out
    obtain ⟨y0, y1, y2, y3⟩ := KU.out _ B5.out
    clear b5
    go_wp2
    go_ret
    exact ⟨rfl, bt HB.out B5.out⟩
  | true =>
  rw [hg2] at CG2
  by_cases h0 : by9 < 0
  · have d0 : decide (by9 < 0) = true := decide_eq_true h0
    clear hbg hbg2 hg hg2
    obtain ⟨x0, x1, x2, x3⟩ := KT.out _ B0.out
    obtain ⟨y0, y1, y2, y3⟩ := KU.out _ B0.out
    clear hin hin2 hA hA2 hAw
    go_enter Tryd.func7, Tryd.ntmps7
    go_wp2_with fail
    rw [← HWB.out]
    try go_wp2_with fail
    refine (HAW.out _ (bt HB.out B0.out)).mono ?_; rintro e w1 ⟨rfl, b1⟩
    have B1 := Lib.hid (bt B0.out b1)
    clear x0 x1 x2 x3 y0 y1 y2 y3
    obtain ⟨x0, x1, x2, x3⟩ := KT.out _ B1.out
    obtain ⟨y0, y1, y2, y3⟩ := KU.out _ B1.out
    clear b1
    go_wp2_with fail
    refine (CS.out _ (bt HB.out B1.out)).mono ?_; rintro e w2 ⟨rfl, b2⟩
    have B2 := Lib.hid (bt B1.out b2)
    clear x0 x1 x2 x3 y0 y1 y2 y3
    obtain ⟨x0, x1, x2, x3⟩ := KT.out _ B2.out
    obtain ⟨y0, y1, y2, y3⟩ := KU.out _ B2.out
    clear b2
    go_wp2_with fail
    refine (CS2.out _ (bt HB.out B2.out)).mono ?_; rintro e w3 ⟨rfl, b3⟩
    have B3 := Lib.hid (bt B2.out b3)
    clear x0 x1 x2 x3 y0 y1 y2 y3
    obtain ⟨x0, x1, x2, x3⟩ := KT.out _ B3.out
    obtain ⟨y0, y1, y2, y3⟩ := KU.out _ B3.out
    clear b3
    go_wp2_with fail
    refine (CG.out _ (bt HB.out B3.out)).mono ?_; rintro e w4 ⟨rfl, b4⟩
    have B4 := Lib.hid (bt B3.out b4)
    clear x0 x1 x2 x3 y0 y1 y2 y3
    obtain ⟨x0, x1, x2, x3⟩ := KT.out _ B4.out
    obtain ⟨y0, y1, y2, y3⟩ := KU.out _ B4.out
    clear b4
    go_wp2_with fail
    refine (CG2.out _ (bt HB.out B4.out)).mono ?_; rintro e w5 ⟨rfl, b5⟩
    have B5 := Lib.hid (bt B4.out b5)
    clear x0 x1 x2 x3 y0 y1 y2 y3
    obtain ⟨x0, x1, x2, x3⟩ := KT.out _ B5.out
    obtain ⟨y0, y1, y2, y3⟩ := KU.out _ B5.out
    clear b5
    go_wp2
    go_ret
    exact ⟨rfl, bt HB.out B5.out⟩
  have d0 : decide (by9 < 0) = false := decide_eq_false h0
  by_cases h5 : 500 < by9
  · have d5 : decide (500 < by9) = true := decide_eq_true h5
    clear hbg hbg2 hg hg2
    obtain ⟨x0, x1, x2, x3⟩ := KT.out _ B0.out
    obtain ⟨y0, y1, y2, y3⟩ := KU.out _ B0.out
    clear hin hin2 hA hA2 hAw
    go_enter Tryd.func7, Tryd.ntmps7
    go_wp2_with fail
    rw [← HWB.out]
    try go_wp2_with fail
    refine (HAW.out _ (bt HB.out B0.out)).mono ?_; rintro e w1 ⟨rfl, b1⟩
    have B1 := Lib.hid (bt B0.out b1)
    clear x0 x1 x2 x3 y0 y1 y2 y3
    obtain ⟨x0, x1, x2, x3⟩ := KT.out _ B1.out
    obtain ⟨y0, y1, y2, y3⟩ := KU.out _ B1.out
    clear b1
    go_wp2_with fail
    refine (CS.out _ (bt HB.out B1.out)).mono ?_; rintro e w2 ⟨rfl, b2⟩
    have B2 := Lib.hid (bt B1.out b2)
    clear x0 x1 x2 x3 y0 y1 y2 y3
    obtain ⟨x0, x1, x2, x3⟩ := KT.out _ B2.out
    obtain ⟨y0, y1, y2, y3⟩ := KU.out _ B2.out
    clear b2
    go_wp2_with fail
    refine (CS2.out _ (bt HB.out B2.out)).mono ?_; rintro e w3 ⟨rfl, b3⟩
    have B3 := Lib.hid (bt B2.out b3)
    clear x0 x1 x2 x3 y0 y1 y2 y3
    obtain ⟨x0, x1, x2, x3⟩ := KT.out _ B3.out
    obtain ⟨y0, y1, y2, y3⟩ := KU.out _ B3.out
    clear b3
    go_wp2_with fail
    refine (CG.out _ (bt HB.out B3.out)).mono ?_; rintro e w4 ⟨rfl, b4⟩
    have B4 := Lib.hid (bt B3.out b4)
    clear x0 x1 x2 x3 y0 y1 y2 y3
    obtain ⟨x0, x1, x2, x3⟩ := KT.out _ B4.out
    obtain ⟨y0, y1, y2, y3⟩ := KU.out _ B4.out
    clear b4
    go_wp2_with fail
    refine (CG2.out _ (bt HB.out B4.out)).mono ?_; rintro e w5 ⟨rfl, b5⟩
    have B5 := Lib.hid (bt B4.out b5)
    clear x0 x1 x2 x3 y0 y1 y2 y3
    obtain ⟨x0, x1, x2, x3⟩ := KT.out _ B5.out
    obtain ⟨y0, y1, y2, y3⟩ := KU.out _ B5.out
    clear b5
    go_wp2
    go_ret
    exact ⟨rfl, bt HB.out B5.out⟩
  have d5 : decide (500 < by9) = false := decide_eq_false h5
  have HBG := Lib.hid hbg; have HBG2 := Lib.hid hbg2; have HG := Lib.hid hg; have HG2 := Lib.hid hg2
  have HSH := Lib.hid (show shp V = true by have q := hg; unfold goodT at q; rw [Bool.and_eq_true] at q; exact q.2)
  have HSH2 := Lib.hid (show shp U = true by have q := hg2; unfold goodT at q; rw [Bool.and_eq_true] at q; exact q.2)
  have CM := Lib.hid (fun W (hW : Below w.heap.size w W) => moved_any by9 (by omega) (by omega) 7 V _ W hbg HSH.out (hin.later hW))
  obtain ⟨X, hX⟩ : ∃ X, X = renT (fun x => some (x + by9)) V := ⟨_, rfl⟩
  rw [← hX] at CM
  have HX1 := Lib.hid (show bigT 7 X = false by rw [hX]; exact big_ren5 _ 7 V hbg)
  have HXS := Lib.hid (show showT X = showT V by rw [hX]; exact ren_by HSH.out)
  unfold tv at CM
  clear hbg hbg2 hg hg2 hX
  obtain ⟨x0, x1, x2, x3⟩ := KT.out _ B0.out
  obtain ⟨y0, y1, y2, y3⟩ := KU.out _ B0.out
  clear hin hin2 hA hA2 hAw
  go_enter Tryd.func7, Tryd.ntmps7
  go_wp2_with fail
  rw [← HWB.out]
  try go_wp2_with fail
  refine (HAW.out _ (bt HB.out B0.out)).mono ?_; rintro e w1 ⟨rfl, b1⟩
  have B1 := Lib.hid (bt B0.out b1)
  clear x0 x1 x2 x3 y0 y1 y2 y3
  obtain ⟨x0, x1, x2, x3⟩ := KT.out _ B1.out
  obtain ⟨y0, y1, y2, y3⟩ := KU.out _ B1.out
  clear b1
  go_wp2_with fail
  refine (CS.out _ (bt HB.out B1.out)).mono ?_; rintro e w2 ⟨rfl, b2⟩
  have B2 := Lib.hid (bt B1.out b2)
  clear x0 x1 x2 x3 y0 y1 y2 y3
  obtain ⟨x0, x1, x2, x3⟩ := KT.out _ B2.out
  obtain ⟨y0, y1, y2, y3⟩ := KU.out _ B2.out
  clear b2
  go_wp2_with fail
  refine (CS2.out _ (bt HB.out B2.out)).mono ?_; rintro e w3 ⟨rfl, b3⟩
  have B3 := Lib.hid (bt B2.out b3)
  clear x0 x1 x2 x3 y0 y1 y2 y3
  obtain ⟨x0, x1, x2, x3⟩ := KT.out _ B3.out
  obtain ⟨y0, y1, y2, y3⟩ := KU.out _ B3.out
  clear b3
  go_wp2_with fail
  refine (CG.out _ (bt HB.out B3.out)).mono ?_; rintro e w4 ⟨rfl, b4⟩
  have B4 := Lib.hid (bt B3.out b4)
  clear x0 x1 x2 x3 y0 y1 y2 y3
  obtain ⟨x0, x1, x2, x3⟩ := KT.out _ B4.out
  obtain ⟨y0, y1, y2, y3⟩ := KU.out _ B4.out
  clear b4
  go_wp2_with fail
  refine (CG2.out _ (bt HB.out B4.out)).mono ?_; rintro e w5 ⟨rfl, b5⟩
  have B5 := Lib.hid (bt B4.out b5)
  clear x0 x1 x2 x3 y0 y1 y2 y3
  obtain ⟨x0, x1, x2, x3⟩ := KT.out _ B5.out
  obtain ⟨y0, y1, y2, y3⟩ := KU.out _ B5.out
  clear b5
  go_wp2_with fail
  refine (CM.out _ (bt HB.out B5.out)).mono ?_; rintro e w6 ⟨A6, c6, rfl, r6, b6⟩
  obtain ⟨w7, hw7⟩ : ∃ z, z = w6.alloc (.cells #[.int .i64 X.k, .string X.nm, .int .i64 X.vr, .slice A6 X.args.length c6] 27) := ⟨_, rfl⟩
  have b7 : Below w6.heap.size w6 w7 := by rw [hw7]; exact below_alloc _ _
  have B7 := Lib.hid (bt B5.out (bt b6 b7))
  have HXB := Lib.hid (show w7.heap[w6.heap.size]? = some (.cells #[.int .i64 X.k, .string X.nm, .int .i64 X.vr, .slice A6 X.args.length c6] 27 (0, 0)) by rw [hw7]; exact heap_alloc_new _ _)
  have RX := Lib.hid ((r6.weak (P' := any0) (fun _ _ _ => trivial)).later b7)
  have HW7 := Lib.hid hw7
  obtain ⟨xb, hxb⟩ : ∃ z, z = w6.heap.size := ⟨_, rfl⟩
  rw [← hxb] at HXB
  have HXX := Lib.hid hxb
  clear b6 b7 r6 hw7 hxb x0 x1 x2 x3 y0 y1 y2 y3 CM CS CS2 CG CG2 HAW
  unfold tv
  go_wp2_with fail
  rw [← HW7.out, ← HXX.out]
  have KX := Lib.hid (fun W (hW : Below w7.heap.size w7 W) => cells4 ((hW.block xb (Array.getElem?_eq_some_iff.1 HXB.out).1).trans HXB.out))
  have KT7 := Lib.hid (fun W (hW : Below w7.heap.size w7 W) => KT.out W (bt B7.out hW))
  have KU7 := Lib.hid (fun W (hW : Below w7.heap.size w7 W) => KU.out W (bt B7.out hW))
  have SX := Lib.hid (fun W (hW : Below w7.heap.size w7 W) (hsh : shp X = true) => show_any HX1.out hsh (⟨A6, c6, rfl, RX.out.later hW⟩ : TIn W any0 X (.agg #[.int .i64 X.k, .string X.nm, .int .i64 X.vr, .slice A6 X.args.length c6])))
  have GX := Lib.hid (fun W (hW : Below w7.heap.size w7 W) => good_any (Nat.le_refl 7) HX1.out (⟨A6, c6, rfl, RX.out.later hW⟩ : TIn W any0 X (.agg #[.int .i64 X.k, .string X.nm, .int .i64 X.vr, .slice A6 X.args.length c6])))
  have ST := Lib.hid (fun W (hW : Below w7.heap.size w7 W) => show_any HBG.out HSH.out (HIN.out.later (bt HB.out (bt B7.out hW))))
  have SU := Lib.hid (fun W (hW : Below w7.heap.size w7 W) => show_any HBG2.out HSH2.out (HIN2.out.later (bt HB.out (bt B7.out hW))))
  have VT := Lib.hid (fun W (hW : Below w7.heap.size w7 W) => vars_any (Nat.le_refl 7) HBG.out HSH.out (HIN.out.later (bt HB.out (bt B7.out hW))))
  have VU := Lib.hid (fun W (hW : Below w7.heap.size w7 W) => vars_any (Nat.le_refl 7) HBG2.out HSH2.out (HIN2.out.later (bt HB.out (bt B7.out hW))))
  have SM := Lib.hid (fun W (hW : Below w7.heap.size w7 W) => Same_gen (show 7 ≤ 500 by omega) HBG.out HBG2.out (HIN.out.later (bt HB.out (bt B7.out hW))) (HIN2.out.later (bt HB.out (bt B7.out hW))))
  have OT := Lib.hid (fun W (hW : Below w7.heap.size w7 W) => odd_any 7 V _ W HBG.out (HIN.out.later (bt HB.out (bt B7.out hW))))
  have OU := Lib.hid (fun W (hW : Below w7.heap.size w7 W) => odd_any 7 U _ W HBG2.out (HIN2.out.later (bt HB.out (bt B7.out hW))))
  have INJ := Lib.hid (show (varsOf V).length = 0 → (varsOf U).length = 0 → showT V = showT U → V ≠ U → oddT V = false → oddT U = true from fun n1 n2 e hne o1 => by
    cases o2 : oddT U with
    | true => rfl
    | false => exact absurd (show_inj HSH.out HSH2.out (List.length_eq_zero_iff.1 n1) (List.length_eq_zero_iff.1 n2) o1 o2 e) hne)
  obtain ⟨TV, hTV⟩ : ∃ t, t = showT V := ⟨_, rfl⟩
  obtain ⟨TU, hTU⟩ : ∃ t, t = showT U := ⟨_, rfl⟩
  rw [← hTV] at ST INJ HXS
  rw [← hTU] at SU INJ
  have HSE := Lib.hid (show V = U → TV = TU from fun e => by rw [hTV, hTU, e])
  rw [HXS.out] at SX
  obtain ⟨NV, hNV⟩ : ∃ t, t = (varsOf V).length := ⟨_, rfl⟩
  obtain ⟨NU, hNU⟩ : ∃ t, t = (varsOf U).length := ⟨_, rfl⟩
  rw [← hNV] at VT INJ
  rw [← hNU] at VU INJ
  clear hTV hTU hNV hNU
  cases hgx : goodT X with
  | false =>
    rw [hgx] at GX
    clear hgx
    refine wp_region_D [6] (fun w' => Below w7.heap.size w7 w') (by kernel_rfl) (bdr w7) (fun hHeld => ?_)
    refine WD_take (i := 0) (oi := { dst := some 39, op := Go.Op.load 27 (Go.Operand.tmp 7), type := 27, pos := _, after := #[], guard := none }) (v := ?va0) rfl (by kernel_rfl) (by kernel_rfl) (by kernel_rfl) (by kernel_rfl) (fun _ _ _ h => h) (Or.inl ⟨by rfl, ?hya0⟩) hHeld ?_
    case hya0 => (intro wz hSw; (try dsimp only at hSw); have zc := KX.out _ hSw; have z0 := zc.1; have z1 := zc.2.1; have z2 := zc.2.2.1; have z3 := zc.2.2.2; clear zc; go_simp; try with_reducible rfl)
    (try simp only [Act.put, List.setIfInBounds_toArray, List.set_cons_zero, List.set_cons_succ])
    refine WD_ready (rs := [1]) (by kernel_rfl) (by simp) ?_
    refine AllD.cons (o := _) rfl (fun K hK => ?_) AllD.nil
    rw [if_pos (by rfl)]
    go_simp
    refine (GX.out _ hHeld).mono ?_; rintro e w_1 ⟨rfl, b_1⟩
    try go_wp2_with fail
    refine hK.out _ _ (bt hHeld b_1) (fun hHeld => ?_)
    clear hK K
    (try simp only [Act.put, List.setIfInBounds_toArray, List.set_cons_zero, List.set_cons_succ])
    clear b_1
    refine WD_take (i := 2) (oi := { dst := some 41, op := Go.Op.move (Go.Operand.tmp 40), type := 4, pos := _, after := #[{ on := 1, ground := Go.Ground.data }, { on := 1, ground := Go.Ground.chain }], guard := none }) (v := ?va2) rfl (by kernel_rfl) (by kernel_rfl) (by kernel_rfl) (by kernel_rfl) (fun _ _ _ h => h) (Or.inl ⟨by rfl, ?hya2⟩) hHeld ?_
    case hya2 => (intro wz hSw; (try dsimp only at hSw); go_simp; try with_reducible rfl)
    (try simp only [Act.put, List.setIfInBounds_toArray, List.set_cons_zero, List.set_cons_succ])
    refine WD_take (i := 3) (oi := { dst := some 42, op := Go.Op.load 27 (Go.Operand.tmp 7), type := 27, pos := _, after := #[{ on := 2, ground := Go.Ground.guard }], guard := some (2, true) }) (v := undef) rfl (by kernel_rfl) (by kernel_rfl) (by kernel_rfl) (by kernel_rfl) (fun _ _ _ h => h) (Or.inr ⟨by rfl, rfl⟩) hHeld ?_
    (try simp only [Act.put, List.setIfInBounds_toArray, List.set_cons_zero, List.set_cons_succ])
    refine WD_take (i := 5) (oi := { dst := some 44, op := Go.Op.load 27 (Go.Operand.tmp 3), type := 27, pos := _, after := #[{ on := 2, ground := Go.Ground.guard }], guard := some (2, true) }) (v := undef) rfl (by kernel_rfl) (by kernel_rfl) (by kernel_rfl) (by kernel_rfl) (fun _ _ _ h => h) (Or.inr ⟨by rfl, rfl⟩) hHeld ?_
    (try simp only [Act.put, List.setIfInBounds_toArray, List.set_cons_zero, List.set_cons_succ])
    refine WD_ready (rs := [4]) (by kernel_rfl) (by simp) ?_
    refine AllD.cons (o := { dst := some 43, op := Go.Op.call { callee := Go.Callee.value (Go.Operand.func 18), args := #[Go.Operand.tmp 42], argTypes := #[27] }, type := 9, pos := _, after := #[{ on := 3, ground := Go.Ground.data }, { on := 2, ground := Go.Ground.chain }, { on := 2, ground := Go.Ground.guard }], guard := some (2, true) }) rfl (fun K hK => ?_) AllD.nil
    rw [if_neg (fun h => nomatch h)]
    refine hK.out _ _ hHeld (fun hHeld => ?_)
    clear hK K
    (try simp only [Act.put, List.setIfInBounds_toArray, List.set_cons_zero, List.set_cons_succ])
    have H6 := Lib.hid hHeld
    clear hHeld
    refine WD_ready (rs := [6]) (by kernel_rfl) (by simp) ?_
    refine AllD.last (o := { dst := some 45, op := Go.Op.call { callee := Go.Callee.value (Go.Operand.func 18), args := #[Go.Operand.tmp 44], argTypes := #[27] }, type := 9, pos := _, after := #[{ on := 5, ground := Go.Ground.data }, { on := 4, ground := Go.Ground.chain }, { on := 2, ground := Go.Ground.guard }], guard := some (2, true) }) rfl (by kernel_rfl) (fun K hK => ?_) AllD.nil
    rw [if_neg (fun h => nomatch h)]
    refine hK.out _ _ ?_
    clear hK K
    (try simp only [Act.put, List.setIfInBounds_toArray, List.set_cons_zero, List.set_cons_succ])
    refine WD_takeAny (i := 7) (oi := { dst := some 46, op := Go.Op.binOp Go.BinOp.neq 9 (Go.Operand.tmp 43) (Go.Operand.tmp 45) 9, type := 4, pos := _, after := #[{ on := 4, ground := Go.Ground.data }, { on := 6, ground := Go.Ground.data }, { on := 2, ground := Go.Ground.guard }], guard := some (2, true) }) (v := undef) rfl (by kernel_rfl) (by kernel_rfl) (by kernel_rfl) (by kernel_rfl) (fun _ _ _ h => h) (Or.inr ⟨by rfl, rfl⟩) ?_
    (try simp only [Act.put, List.setIfInBounds_toArray, List.set_cons_zero, List.set_cons_succ])
    refine WD_takeAny (i := 8) (oi := { dst := some 47, op := Go.Op.pick (Go.Operand.tmp 41) (Go.Operand.tmp 46) (Go.Operand.const (Go.Value.bool false)), type := 4, pos := _, after := #[{ on := 2, ground := Go.Ground.data }, { on := 7, ground := Go.Ground.data }], guard := none }) (v := ?va8) rfl (by kernel_rfl) (by kernel_rfl) (by kernel_rfl) (by kernel_rfl) (fun _ _ _ h => h) (Or.inl ⟨by rfl, ?hya8⟩) ?_
    case hya8 => (intro wz _; go_simp; try with_reducible rfl)
    (try simp only [Act.put, List.setIfInBounds_toArray, List.set_cons_zero, List.set_cons_succ])
    refine WD_done (by kernel_rfl) ?_ _
    have B8 := Lib.hid H6.out
    clear H6
    go_wp2_with fail
    by_cases hnv : 0 < NV
    · have dnN : decide (0 < NV) = true := decide_eq_true hnv
      clear hnv
      refine wp_region_D [27] (fun w' => Below w7.heap.size w7 w') (by kernel_rfl) (bt B8.out (bdr _)) (fun hHeld => ?_)
      refine WD_take (i := 0) (oi := { dst := some 48, op := Go.Op.load 27 (Go.Operand.tmp 3), type := 27, pos := _, after := #[], guard := none }) (v := ?vca0) rfl (by kernel_rfl) (by kernel_rfl) (by kernel_rfl) (by kernel_rfl) (fun _ _ _ h => h) (Or.inl ⟨by rfl, ?hyca0⟩) hHeld ?_
      case hyca0 => (intro wz hSw; (try dsimp only at hSw); have zc := KT7.out _ hSw; have z0 := zc.1; have z1 := zc.2.1; have z2 := zc.2.2.1; have z3 := zc.2.2.2; clear zc; go_simp; try with_reducible rfl)
      (try simp only [Act.put, List.setIfInBounds_toArray, List.set_cons_zero, List.set_cons_succ])
      refine WD_ready (rs := [1]) (by kernel_rfl) (by simp) ?_
      refine AllD.cons (o := _) rfl (fun K hK => ?_) AllD.nil
      rw [if_pos (by rfl)]
      go_simp
      refine (VT.out _ hHeld).mono ?_; rintro e w_4 ⟨A_4, c_4, rfl, o_4, b_4⟩
      try go_wp2_with fail
      refine hK.out _ _ (bt hHeld b_4.out) (fun hHeld => ?_)
      clear hK K
      (try simp only [Act.put, List.setIfInBounds_toArray, List.set_cons_zero, List.set_cons_succ])
      clear b_4 o_4
      refine WD_take (i := 2) (oi := { dst := some 50, op := Go.Op.call { callee := Go.Callee.builtin Go.Builtin.len, args := #[Go.Operand.tmp 49], argTypes := #[38] }, type := 3, pos := _, after := #[{ on := 1, ground := Go.Ground.data }], guard := none }) (v := ?vca2) rfl (by kernel_rfl) (by kernel_rfl) (by kernel_rfl) (by kernel_rfl) (fun _ _ _ h => h) (Or.inl ⟨by rfl, ?hyca2⟩) hHeld ?_
      case hyca2 => (intro wz hSw; (try dsimp only at hSw); go_simp; try with_reducible rfl)
      (try simp only [Act.put, List.setIfInBounds_toArray, List.set_cons_zero, List.set_cons_succ])
      refine WD_take (i := 3) (oi := { dst := some 51, op := Go.Op.binOp Go.BinOp.gtr 3 (Go.Operand.tmp 50) (Go.Operand.const (Go.Value.int Go.IntKind.i64 0)) 3, type := 4, pos := _, after := #[{ on := 2, ground := Go.Ground.data }], guard := none }) (v := ?vca3) rfl (by kernel_rfl) (by kernel_rfl) (by kernel_rfl) (by kernel_rfl) (fun _ _ _ h => h) (Or.inl ⟨by rfl, ?hyca3⟩) hHeld ?_
      case hyca3 => (intro wz hSw; (try dsimp only at hSw); go_simp; try with_reducible rfl)
      (try simp only [Act.put, List.setIfInBounds_toArray, List.set_cons_zero, List.set_cons_succ])
      refine WD_take (i := 4) (oi := { dst := some 52, op := Go.Op.move (Go.Operand.tmp 51), type := 4, pos := _, after := #[{ on := 3, ground := Go.Ground.data }, { on := 1, ground := Go.Ground.chain }], guard := none }) (v := ?vca4) rfl (by kernel_rfl) (by kernel_rfl) (by kernel_rfl) (by kernel_rfl) (fun _ _ _ h => h) (Or.inl ⟨by rfl, ?hyca4⟩) hHeld ?_
      case hyca4 => (intro wz hSw; (try dsimp only at hSw); go_simp; try with_reducible rfl)
      (try simp only [Act.put, List.setIfInBounds_toArray, List.set_cons_zero, List.set_cons_succ])
      refine WD_take (i := 5) (oi := { dst := some 53, op := Go.Op.load 27 (Go.Operand.tmp 4), type := 27, pos := _, after := #[{ on := 4, ground := Go.Ground.guard }], guard := some (4, false) }) (v := undef) rfl (by kernel_rfl) (by kernel_rfl) (by kernel_rfl) (by kernel_rfl) (fun _ _ _ h => h) (Or.inr ⟨by rfl, rfl⟩) hHeld ?_
      (try simp only [Act.put, List.setIfInBounds_toArray, List.set_cons_zero, List.set_cons_succ])
      refine WD_ready (rs := [6]) (by kernel_rfl) (by simp) ?_
      refine AllD.cons (o := { dst := some 54, op := Go.Op.call { callee := Go.Callee.value (Go.Operand.func 21), args := #[Go.Operand.tmp 53], argTypes := #[27] }, type := 38, pos := _, after := #[{ on := 5, ground := Go.Ground.data }, { on := 4, ground := Go.Ground.chain }, { on := 4, ground := Go.Ground.guard }], guard := some (4, false) }) rfl (fun K hK => ?_) AllD.nil
      rw [if_neg (fun h => nomatch h)]
      refine hK.out _ _ hHeld (fun hHeld => ?_)
      clear hK K
      (try simp only [Act.put, List.setIfInBounds_toArray, List.set_cons_zero, List.set_cons_succ])
      refine WD_take (i := 7) (oi := { dst := some 55, op := Go.Op.call { callee := Go.Callee.builtin Go.Builtin.len, args := #[Go.Operand.tmp 54], argTypes := #[38] }, type := 3, pos := _, after := #[{ on := 6, ground := Go.Ground.data }, { on := 4, ground := Go.Ground.guard }], guard := some (4, false) }) (v := undef) rfl (by kernel_rfl) (by kernel_rfl) (by kernel_rfl) (by kernel_rfl) (fun _ _ _ h => h) (Or.inr ⟨by rfl, rfl⟩) hHeld ?_
      (try simp only [Act.put, List.setIfInBounds_toArray, List.set_cons_zero, List.set_cons_succ])
      refine WD_take (i := 8) (oi := { dst := some 56, op := Go.Op.binOp Go.BinOp.gtr 3 (Go.Operand.tmp 55) (Go.Operand.const (Go.Value.int Go.IntKind.i64 0)) 3, type := 4, pos := _, after := #[{ on := 7, ground := Go.Ground.data }, { on := 4, ground := Go.Ground.guard }], guard := some (4, false) }) (v := undef) rfl (by kernel_rfl) (by kernel_rfl) (by kernel_rfl) (by kernel_rfl) (fun _ _ _ h => h) (Or.inr ⟨by rfl, rfl⟩) hHeld ?_
      (try simp only [Act.put, List.setIfInBounds_toArray, List.set_cons_zero, List.set_cons_succ])
      refine WD_take (i := 9) (oi := { dst := some 57, op := Go.Op.pick (Go.Operand.tmp 52) (Go.Operand.const (Go.Value.bool true)) (Go.Operand.tmp 56), type := 4, pos := _, after := #[{ on := 4, ground := Go.Ground.data }, { on := 8, ground := Go.Ground.data }], guard := none }) (v := ?vca9) rfl (by kernel_rfl) (by kernel_rfl) (by kernel_rfl) (by kernel_rfl) (fun _ _ _ h => h) (Or.inl ⟨by rfl, ?hyca9⟩) hHeld ?_
      case hyca9 => (intro wz hSw; (try dsimp only at hSw); go_simp; try with_reducible rfl)
      (try simp only [Act.put, List.setIfInBounds_toArray, List.set_cons_zero, List.set_cons_succ])
      refine WD_take (i := 10) (oi := { dst := some 58, op := Go.Op.move (Go.Operand.tmp 57), type := 4, pos := _, after := #[{ on := 9, ground := Go.Ground.data }, { on := 6, ground := Go.Ground.chain }], guard := none }) (v := ?vca10) rfl (by kernel_rfl) (by kernel_rfl) (by kernel_rfl) (by kernel_rfl) (fun _ _ _ h => h) (Or.inl ⟨by rfl, ?hyca10⟩) hHeld ?_
      case hyca10 => (intro wz hSw; (try dsimp only at hSw); go_simp; try with_reducible rfl)
      (try simp only [Act.put, List.setIfInBounds_toArray, List.set_cons_zero, List.set_cons_succ])
      refine WD_take (i := 11) (oi := { dst := some 59, op := Go.Op.load 27 (Go.Operand.tmp 3), type := 27, pos := _, after := #[{ on := 10, ground := Go.Ground.guard }], guard := some (10, false) }) (v := undef) rfl (by kernel_rfl) (by kernel_rfl) (by kernel_rfl) (by kernel_rfl) (fun _ _ _ h => h) (Or.inr ⟨by rfl, rfl⟩) hHeld ?_
      (try simp only [Act.put, List.setIfInBounds_toArray, List.set_cons_zero, List.set_cons_succ])
      refine WD_take (i := 13) (oi := { dst := some 61, op := Go.Op.load 27 (Go.Operand.tmp 4), type := 27, pos := _, after := #[{ on := 10, ground := Go.Ground.guard }], guard := some (10, false) }) (v := undef) rfl (by kernel_rfl) (by kernel_rfl) (by kernel_rfl) (by kernel_rfl) (fun _ _ _ h => h) (Or.inr ⟨by rfl, rfl⟩) hHeld ?_
      (try simp only [Act.put, List.setIfInBounds_toArray, List.set_cons_zero, List.set_cons_succ])
      refine WD_take (i := 16) (oi := { dst := some 64, op := Go.Op.load 27 (Go.Operand.tmp 3), type := 27, pos := _, after := #[{ on := 10, ground := Go.Ground.guard }], guard := some (10, false) }) (v := undef) rfl (by kernel_rfl) (by kernel_rfl) (by kernel_rfl) (by kernel_rfl) (fun _ _ _ h => h) (Or.inr ⟨by rfl, rfl⟩) hHeld ?_
      (try simp only [Act.put, List.setIfInBounds_toArray, List.set_cons_zero, List.set_cons_succ])
      refine WD_take (i := 17) (oi := { dst := some 65, op := Go.Op.load 27 (Go.Operand.tmp 4), type := 27, pos := _, after := #[{ on := 10, ground := Go.Ground.guard }], guard := some (10, false) }) (v := undef) rfl (by kernel_rfl) (by kernel_rfl) (by kernel_rfl) (by kernel_rfl) (fun _ _ _ h => h) (Or.inr ⟨by rfl, rfl⟩) hHeld ?_
      (try simp only [Act.put, List.setIfInBounds_toArray, List.set_cons_zero, List.set_cons_succ])
      refine WD_ready (rs := [12]) (by kernel_rfl) (by simp) ?_
      refine AllD.cons (o := { dst := some 60, op := Go.Op.call { callee := Go.Callee.value (Go.Operand.func 18), args := #[Go.Operand.tmp 59], argTypes := #[27] }, type := 9, pos := _, after := #[{ on := 11, ground := Go.Ground.data }, { on := 10, ground := Go.Ground.chain }, { on := 10, ground := Go.Ground.guard }], guard := some (10, false) }) rfl (fun K hK => ?_) AllD.nil
      rw [if_neg (fun h => nomatch h)]
      refine hK.out _ _ hHeld (fun hHeld => ?_)
      clear hK K
      (try simp only [Act.put, List.setIfInBounds_toArray, List.set_cons_zero, List.set_cons_succ])
      refine WD_ready (rs := [14]) (by kernel_rfl) (by simp) ?_
      refine AllD.cons (o := { dst := some 62, op := Go.Op.call { callee := Go.Callee.value (Go.Operand.func 18), args := #[Go.Operand.tmp 61], argTypes := #[27] }, type := 9, pos := _, after := #[{ on := 13, ground := Go.Ground.data }, { on := 12, ground := Go.Ground.chain }, { on := 10, ground := Go.Ground.guard }], guard := some (10, false) }) rfl (fun K hK => ?_) AllD.nil
      rw [if_neg (fun h => nomatch h)]
      refine hK.out _ _ hHeld (fun hHeld => ?_)
      clear hK K
      (try simp only [Act.put, List.setIfInBounds_toArray, List.set_cons_zero, List.set_cons_succ])
      refine WD_take (i := 15) (oi := { dst := some 63, op := Go.Op.binOp Go.BinOp.eql 9 (Go.Operand.tmp 60) (Go.Operand.tmp 62) 9, type := 4, pos := _, after := #[{ on := 12, ground := Go.Ground.data }, { on := 14, ground := Go.Ground.data }, { on := 10, ground := Go.Ground.guard }], guard := some (10, false) }) (v := undef) rfl (by kernel_rfl) (by kernel_rfl) (by kernel_rfl) (by kernel_rfl) (fun _ _ _ h => h) (Or.inr ⟨by rfl, rfl⟩) hHeld ?_
      (try simp only [Act.put, List.setIfInBounds_toArray, List.set_cons_zero, List.set_cons_succ])
      refine WD_ready (rs := [18]) (by kernel_rfl) (by simp) ?_
      refine AllD.cons (o := { dst := some 66, op := Go.Op.call { callee := Go.Callee.value (Go.Operand.func 16), args := #[Go.Operand.tmp 64, Go.Operand.tmp 65], argTypes := #[27, 27] }, type := 4, pos := _, after := #[{ on := 16, ground := Go.Ground.data }, { on := 17, ground := Go.Ground.data }, { on := 14, ground := Go.Ground.chain }, { on := 10, ground := Go.Ground.guard }], guard := some (10, false) }) rfl (fun K hK => ?_) AllD.nil
      rw [if_neg (fun h => nomatch h)]
      refine hK.out _ _ hHeld (fun hHeld => ?_)
      clear hK K
      (try simp only [Act.put, List.setIfInBounds_toArray, List.set_cons_zero, List.set_cons_succ])
      refine WD_take (i := 19) (oi := { dst := some 67, op := Go.Op.binOp Go.BinOp.eql 4 (Go.Operand.tmp 63) (Go.Operand.tmp 66) 4, type := 4, pos := _, after := #[{ on := 15, ground := Go.Ground.data }, { on := 18, ground := Go.Ground.data }, { on := 10, ground := Go.Ground.guard }], guard := some (10, false) }) (v := undef) rfl (by kernel_rfl) (by kernel_rfl) (by kernel_rfl) (by kernel_rfl) (fun _ _ _ h => h) (Or.inr ⟨by rfl, rfl⟩) hHeld ?_
      (try simp only [Act.put, List.setIfInBounds_toArray, List.set_cons_zero, List.set_cons_succ])
      refine WD_take (i := 20) (oi := { dst := some 68, op := Go.Op.pick (Go.Operand.tmp 58) (Go.Operand.const (Go.Value.bool true)) (Go.Operand.tmp 67), type := 4, pos := _, after := #[{ on := 10, ground := Go.Ground.data }, { on := 19, ground := Go.Ground.data }], guard := none }) (v := ?vca20) rfl (by kernel_rfl) (by kernel_rfl) (by kernel_rfl) (by kernel_rfl) (fun _ _ _ h => h) (Or.inl ⟨by rfl, ?hyca20⟩) hHeld ?_
      case hyca20 => (intro wz hSw; (try dsimp only at hSw); go_simp; try with_reducible rfl)
      (try simp only [Act.put, List.setIfInBounds_toArray, List.set_cons_zero, List.set_cons_succ])
      refine WD_take (i := 21) (oi := { dst := some 69, op := Go.Op.move (Go.Operand.tmp 68), type := 4, pos := _, after := #[{ on := 20, ground := Go.Ground.data }, { on := 18, ground := Go.Ground.chain }], guard := none }) (v := ?vca21) rfl (by kernel_rfl) (by kernel_rfl) (by kernel_rfl) (by kernel_rfl) (fun _ _ _ h => h) (Or.inl ⟨by rfl, ?hyca21⟩) hHeld ?_
      case hyca21 => (intro wz hSw; (try dsimp only at hSw); go_simp; try with_reducible rfl)
      (try simp only [Act.put, List.setIfInBounds_toArray, List.set_cons_zero, List.set_cons_succ])
      refine WD_take (i := 22) (oi := { dst := some 70, op := Go.Op.load 27 (Go.Operand.tmp 3), type := 27, pos := _, after := #[{ on := 21, ground := Go.Ground.guard }], guard := some (21, false) }) (v := undef) rfl (by kernel_rfl) (by kernel_rfl) (by kernel_rfl) (by kernel_rfl) (fun _ _ _ h => h) (Or.inr ⟨by rfl, rfl⟩) hHeld ?_
      (try simp only [Act.put, List.setIfInBounds_toArray, List.set_cons_zero, List.set_cons_succ])
      refine WD_ready (rs := [23]) (by kernel_rfl) (by simp) ?_
      refine AllD.cons (o := { dst := some 71, op := Go.Op.call { callee := Go.Callee.value (Go.Operand.func 33), args := #[Go.Operand.tmp 70], argTypes := #[27] }, type := 4, pos := _, after := #[{ on := 22, ground := Go.Ground.data }, { on := 21, ground := Go.Ground.chain }, { on := 21, ground := Go.Ground.guard }], guard := some (21, false) }) rfl (fun K hK => ?_) AllD.nil
      rw [if_neg (fun h => nomatch h)]
      refine hK.out _ _ hHeld (fun hHeld => ?_)
      clear hK K
      (try simp only [Act.put, List.setIfInBounds_toArray, List.set_cons_zero, List.set_cons_succ])
      refine WD_take (i := 24) (oi := { dst := some 72, op := Go.Op.pick (Go.Operand.tmp 69) (Go.Operand.const (Go.Value.bool true)) (Go.Operand.tmp 71), type := 4, pos := _, after := #[{ on := 21, ground := Go.Ground.data }, { on := 23, ground := Go.Ground.data }], guard := none }) (v := ?vca24) rfl (by kernel_rfl) (by kernel_rfl) (by kernel_rfl) (by kernel_rfl) (fun _ _ _ h => h) (Or.inl ⟨by rfl, ?hyca24⟩) hHeld ?_
      case hyca24 => (intro wz hSw; (try dsimp only at hSw); go_simp; try with_reducible rfl)
      (try simp only [Act.put, List.setIfInBounds_toArray, List.set_cons_zero, List.set_cons_succ])
      refine WD_take (i := 25) (oi := { dst := some 73, op := Go.Op.move (Go.Operand.tmp 72), type := 4, pos := _, after := #[{ on := 24, ground := Go.Ground.data }, { on := 23, ground := Go.Ground.chain }], guard := none }) (v := ?vca25) rfl (by kernel_rfl) (by kernel_rfl) (by kernel_rfl) (by kernel_rfl) (fun _ _ _ h => h) (Or.inl ⟨by rfl, ?hyca25⟩) hHeld ?_
      case hyca25 => (intro wz hSw; (try dsimp only at hSw); go_simp; try with_reducible rfl)
      (try simp only [Act.put, List.setIfInBounds_toArray, List.set_cons_zero, List.set_cons_succ])
      refine WD_take (i := 26) (oi := { dst := some 74, op := Go.Op.load 27 (Go.Operand.tmp 4), type := 27, pos := _, after := #[{ on := 25, ground := Go.Ground.guard }], guard := some (25, false) }) (v := undef) rfl (by kernel_rfl) (by kernel_rfl) (by kernel_rfl) (by kernel_rfl) (fun _ _ _ h => h) (Or.inr ⟨by rfl, rfl⟩) hHeld ?_
      (try simp only [Act.put, List.setIfInBounds_toArray, List.set_cons_zero, List.set_cons_succ])
      have H27 := Lib.hid hHeld
      refine WD_ready (rs := [27]) (by kernel_rfl) (by simp) ?_
      refine AllD.last (o := { dst := some 75, op := Go.Op.call { callee := Go.Callee.value (Go.Operand.func 33), args := #[Go.Operand.tmp 74], argTypes := #[27] }, type := 4, pos := _, after := #[{ on := 26, ground := Go.Ground.data }, { on := 25, ground := Go.Ground.chain }, { on := 25, ground := Go.Ground.guard }], guard := some (25, false) }) rfl (by kernel_rfl) (fun K hK => ?_) AllD.nil
      rw [if_neg (fun h => nomatch h)]
      refine hK.out _ _ ?_
      clear hK K
      (try simp only [Act.put, List.setIfInBounds_toArray, List.set_cons_zero, List.set_cons_succ])
      refine WD_takeAny (i := 28) (oi := { dst := some 76, op := Go.Op.pick (Go.Operand.tmp 73) (Go.Operand.const (Go.Value.bool true)) (Go.Operand.tmp 75), type := 4, pos := _, after := #[{ on := 25, ground := Go.Ground.data }, { on := 27, ground := Go.Ground.data }], guard := none }) (v := ?vca28) rfl (by kernel_rfl) (by kernel_rfl) (by kernel_rfl) (by kernel_rfl) (fun _ _ _ h => h) (Or.inl ⟨by rfl, ?hyca28⟩) ?_
      case hyca28 => (intro wz _; go_simp; try with_reducible rfl)
      (try simp only [Act.put, List.setIfInBounds_toArray, List.set_cons_zero, List.set_cons_succ])
      refine WD_takeAny (i := 29) (oi := { dst := some 6, op := Go.Op.assign (Go.Operand.tmp 76), type := 4, pos := _, after := #[{ on := 28, ground := Go.Ground.data }, { on := 27, ground := Go.Ground.chain }, { on := 0, ground := Go.Ground.phase }, { on := 1, ground := Go.Ground.phase }, { on := 2, ground := Go.Ground.phase }, { on := 3, ground := Go.Ground.phase }, { on := 4, ground := Go.Ground.phase }, { on := 5, ground := Go.Ground.phase }, { on := 6, ground := Go.Ground.phase }, { on := 7, ground := Go.Ground.phase }, { on := 8, ground := Go.Ground.phase }, { on := 9, ground := Go.Ground.phase }, { on := 10, ground := Go.Ground.phase }, { on := 11, ground := Go.Ground.phase }, { on := 12, ground := Go.Ground.phase }, { on := 13, ground := Go.Ground.phase }, { on := 14, ground := Go.Ground.phase }, { on := 15, ground := Go.Ground.phase }, { on := 16, ground := Go.Ground.phase }, { on := 17, ground := Go.Ground.phase }, { on := 18, ground := Go.Ground.phase }, { on := 19, ground := Go.Ground.phase }, { on := 20, ground := Go.Ground.phase }, { on := 21, ground := Go.Ground.phase }, { on := 22, ground := Go.Ground.phase }, { on := 23, ground := Go.Ground.phase }, { on := 24, ground := Go.Ground.phase }, { on := 25, ground := Go.Ground.phase }, { on := 26, ground := Go.Ground.phase }, { on := 27, ground := Go.Ground.phase }, { on := 28, ground := Go.Ground.phase }], guard := none }) (v := ?vca29) rfl (by kernel_rfl) (by kernel_rfl) (by kernel_rfl) (by kernel_rfl) (fun _ _ _ h => h) (Or.inl ⟨by rfl, ?hyca29⟩) ?_
      case hyca29 => (intro wz _; go_simp; try with_reducible rfl)
      (try simp only [Act.put, List.setIfInBounds_toArray, List.set_cons_zero, List.set_cons_succ])
      refine WD_done (by kernel_rfl) ?_ _
      have HE := H27.out
      have FIN := Lib.hid (bt HB.out (bt B7.out HE))
      clear HE
      go_wp2
      go_ret
      exact ⟨rfl, FIN.out⟩
    obtain rfl : NV = 0 := by omega
    by_cases hnu : 0 < NU
    · have dnN : decide (0 < NU) = true := decide_eq_true hnu
      clear hnu hnv
      refine wp_region_D [27] (fun w' => Below w7.heap.size w7 w') (by kernel_rfl) (bt B8.out (bdr _)) (fun hHeld => ?_)
      refine WD_take (i := 0) (oi := { dst := some 48, op := Go.Op.load 27 (Go.Operand.tmp 3), type := 27, pos := _, after := #[], guard := none }) (v := ?vcb0) rfl (by kernel_rfl) (by kernel_rfl) (by kernel_rfl) (by kernel_rfl) (fun _ _ _ h => h) (Or.inl ⟨by rfl, ?hycb0⟩) hHeld ?_
      case hycb0 => (intro wz hSw; (try dsimp only at hSw); have zc := KT7.out _ hSw; have z0 := zc.1; have z1 := zc.2.1; have z2 := zc.2.2.1; have z3 := zc.2.2.2; clear zc; go_simp; try with_reducible rfl)
      (try simp only [Act.put, List.setIfInBounds_toArray, List.set_cons_zero, List.set_cons_succ])
      refine WD_ready (rs := [1]) (by kernel_rfl) (by simp) ?_
      refine AllD.cons (o := _) rfl (fun K hK => ?_) AllD.nil
      rw [if_pos (by rfl)]
      go_simp
      refine (VT.out _ hHeld).mono ?_; rintro e w_5 ⟨A_5, c_5, rfl, o_5, b_5⟩
      try go_wp2_with fail
      refine hK.out _ _ (bt hHeld b_5.out) (fun hHeld => ?_)
      clear hK K
      (try simp only [Act.put, List.setIfInBounds_toArray, List.set_cons_zero, List.set_cons_succ])
      clear b_5 o_5
      refine WD_take (i := 2) (oi := { dst := some 50, op := Go.Op.call { callee := Go.Callee.builtin Go.Builtin.len, args := #[Go.Operand.tmp 49], argTypes := #[38] }, type := 3, pos := _, after := #[{ on := 1, ground := Go.Ground.data }], guard := none }) (v := ?vcb2) rfl (by kernel_rfl) (by kernel_rfl) (by kernel_rfl) (by kernel_rfl) (fun _ _ _ h => h) (Or.inl ⟨by rfl, ?hycb2⟩) hHeld ?_
      case hycb2 => (intro wz hSw; (try dsimp only at hSw); go_simp; try with_reducible rfl)
      (try simp only [Act.put, List.setIfInBounds_toArray, List.set_cons_zero, List.set_cons_succ])
      refine WD_take (i := 3) (oi := { dst := some 51, op := Go.Op.binOp Go.BinOp.gtr 3 (Go.Operand.tmp 50) (Go.Operand.const (Go.Value.int Go.IntKind.i64 0)) 3, type := 4, pos := _, after := #[{ on := 2, ground := Go.Ground.data }], guard := none }) (v := ?vcb3) rfl (by kernel_rfl) (by kernel_rfl) (by kernel_rfl) (by kernel_rfl) (fun _ _ _ h => h) (Or.inl ⟨by rfl, ?hycb3⟩) hHeld ?_
      case hycb3 => (intro wz hSw; (try dsimp only at hSw); go_simp; try with_reducible rfl)
      (try simp only [Act.put, List.setIfInBounds_toArray, List.set_cons_zero, List.set_cons_succ])
      refine WD_take (i := 4) (oi := { dst := some 52, op := Go.Op.move (Go.Operand.tmp 51), type := 4, pos := _, after := #[{ on := 3, ground := Go.Ground.data }, { on := 1, ground := Go.Ground.chain }], guard := none }) (v := ?vcb4) rfl (by kernel_rfl) (by kernel_rfl) (by kernel_rfl) (by kernel_rfl) (fun _ _ _ h => h) (Or.inl ⟨by rfl, ?hycb4⟩) hHeld ?_
      case hycb4 => (intro wz hSw; (try dsimp only at hSw); go_simp; try with_reducible rfl)
      (try simp only [Act.put, List.setIfInBounds_toArray, List.set_cons_zero, List.set_cons_succ])
      refine WD_take (i := 5) (oi := { dst := some 53, op := Go.Op.load 27 (Go.Operand.tmp 4), type := 27, pos := _, after := #[{ on := 4, ground := Go.Ground.guard }], guard := some (4, false) }) (v := ?vcb5) rfl (by kernel_rfl) (by kernel_rfl) (by kernel_rfl) (by kernel_rfl) (fun _ _ _ h => h) (Or.inl ⟨by rfl, ?hycb5⟩) hHeld ?_
      case hycb5 => (intro wz hSw; (try dsimp only at hSw); have zc := KU7.out _ hSw; have z0 := zc.1; have z1 := zc.2.1; have z2 := zc.2.2.1; have z3 := zc.2.2.2; clear zc; go_simp; try with_reducible rfl)
      (try simp only [Act.put, List.setIfInBounds_toArray, List.set_cons_zero, List.set_cons_succ])
      refine WD_ready (rs := [6]) (by kernel_rfl) (by simp) ?_
      refine AllD.cons (o := _) rfl (fun K hK => ?_) AllD.nil
      rw [if_pos (by rfl)]
      go_simp
      refine (VU.out _ hHeld).mono ?_; rintro e w_6 ⟨A_6, c_6, rfl, o_6, b_6⟩
      try go_wp2_with fail
      refine hK.out _ _ (bt hHeld b_6.out) (fun hHeld => ?_)
      clear hK K
      (try simp only [Act.put, List.setIfInBounds_toArray, List.set_cons_zero, List.set_cons_succ])
      clear b_6 o_6
      refine WD_take (i := 7) (oi := { dst := some 55, op := Go.Op.call { callee := Go.Callee.builtin Go.Builtin.len, args := #[Go.Operand.tmp 54], argTypes := #[38] }, type := 3, pos := _, after := #[{ on := 6, ground := Go.Ground.data }, { on := 4, ground := Go.Ground.guard }], guard := some (4, false) }) (v := ?vcb7) rfl (by kernel_rfl) (by kernel_rfl) (by kernel_rfl) (by kernel_rfl) (fun _ _ _ h => h) (Or.inl ⟨by rfl, ?hycb7⟩) hHeld ?_
      case hycb7 => (intro wz hSw; (try dsimp only at hSw); go_simp; try with_reducible rfl)
      (try simp only [Act.put, List.setIfInBounds_toArray, List.set_cons_zero, List.set_cons_succ])
      refine WD_take (i := 8) (oi := { dst := some 56, op := Go.Op.binOp Go.BinOp.gtr 3 (Go.Operand.tmp 55) (Go.Operand.const (Go.Value.int Go.IntKind.i64 0)) 3, type := 4, pos := _, after := #[{ on := 7, ground := Go.Ground.data }, { on := 4, ground := Go.Ground.guard }], guard := some (4, false) }) (v := ?vcb8) rfl (by kernel_rfl) (by kernel_rfl) (by kernel_rfl) (by kernel_rfl) (fun _ _ _ h => h) (Or.inl ⟨by rfl, ?hycb8⟩) hHeld ?_
      case hycb8 => (intro wz hSw; (try dsimp only at hSw); go_simp; try with_reducible rfl)
      (try simp only [Act.put, List.setIfInBounds_toArray, List.set_cons_zero, List.set_cons_succ])
      refine WD_take (i := 9) (oi := { dst := some 57, op := Go.Op.pick (Go.Operand.tmp 52) (Go.Operand.const (Go.Value.bool true)) (Go.Operand.tmp 56), type := 4, pos := _, after := #[{ on := 4, ground := Go.Ground.data }, { on := 8, ground := Go.Ground.data }], guard := none }) (v := ?vcb9) rfl (by kernel_rfl) (by kernel_rfl) (by kernel_rfl) (by kernel_rfl) (fun _ _ _ h => h) (Or.inl ⟨by rfl, ?hycb9⟩) hHeld ?_
      case hycb9 => (intro wz hSw; (try dsimp only at hSw); go_simp; try with_reducible rfl)
      (try simp only [Act.put, List.setIfInBounds_toArray, List.set_cons_zero, List.set_cons_succ])
      refine WD_take (i := 10) (oi := { dst := some 58, op := Go.Op.move (Go.Operand.tmp 57), type := 4, pos := _, after := #[{ on := 9, ground := Go.Ground.data }, { on := 6, ground := Go.Ground.chain }], guard := none }) (v := ?vcb10) rfl (by kernel_rfl) (by kernel_rfl) (by kernel_rfl) (by kernel_rfl) (fun _ _ _ h => h) (Or.inl ⟨by rfl, ?hycb10⟩) hHeld ?_
      case hycb10 => (intro wz hSw; (try dsimp only at hSw); go_simp; try with_reducible rfl)
      (try simp only [Act.put, List.setIfInBounds_toArray, List.set_cons_zero, List.set_cons_succ])
      refine WD_take (i := 11) (oi := { dst := some 59, op := Go.Op.load 27 (Go.Operand.tmp 3), type := 27, pos := _, after := #[{ on := 10, ground := Go.Ground.guard }], guard := some (10, false) }) (v := undef) rfl (by kernel_rfl) (by kernel_rfl) (by kernel_rfl) (by kernel_rfl) (fun _ _ _ h => h) (Or.inr ⟨by rfl, rfl⟩) hHeld ?_
      (try simp only [Act.put, List.setIfInBounds_toArray, List.set_cons_zero, List.set_cons_succ])
      refine WD_take (i := 13) (oi := { dst := some 61, op := Go.Op.load 27 (Go.Operand.tmp 4), type := 27, pos := _, after := #[{ on := 10, ground := Go.Ground.guard }], guard := some (10, false) }) (v := undef) rfl (by kernel_rfl) (by kernel_rfl) (by kernel_rfl) (by kernel_rfl) (fun _ _ _ h => h) (Or.inr ⟨by rfl, rfl⟩) hHeld ?_
      (try simp only [Act.put, List.setIfInBounds_toArray, List.set_cons_zero, List.set_cons_succ])
      refine WD_take (i := 16) (oi := { dst := some 64, op := Go.Op.load 27 (Go.Operand.tmp 3), type := 27, pos := _, after := #[{ on := 10, ground := Go.Ground.guard }], guard := some (10, false) }) (v := undef) rfl (by kernel_rfl) (by kernel_rfl) (by kernel_rfl) (by kernel_rfl) (fun _ _ _ h => h) (Or.inr ⟨by rfl, rfl⟩) hHeld ?_
      (try simp only [Act.put, List.setIfInBounds_toArray, List.set_cons_zero, List.set_cons_succ])
      refine WD_take (i := 17) (oi := { dst := some 65, op := Go.Op.load 27 (Go.Operand.tmp 4), type := 27, pos := _, after := #[{ on := 10, ground := Go.Ground.guard }], guard := some (10, false) }) (v := undef) rfl (by kernel_rfl) (by kernel_rfl) (by kernel_rfl) (by kernel_rfl) (fun _ _ _ h => h) (Or.inr ⟨by rfl, rfl⟩) hHeld ?_
      (try simp only [Act.put, List.setIfInBounds_toArray, List.set_cons_zero, List.set_cons_succ])
      refine WD_ready (rs := [12]) (by kernel_rfl) (by simp) ?_
      refine AllD.cons (o := { dst := some 60, op := Go.Op.call { callee := Go.Callee.value (Go.Operand.func 18), args := #[Go.Operand.tmp 59], argTypes := #[27] }, type := 9, pos := _, after := #[{ on := 11, ground := Go.Ground.data }, { on := 10, ground := Go.Ground.chain }, { on := 10, ground := Go.Ground.guard }], guard := some (10, false) }) rfl (fun K hK => ?_) AllD.nil
      rw [if_neg (fun h => nomatch h)]
      refine hK.out _ _ hHeld (fun hHeld => ?_)
      clear hK K
      (try simp only [Act.put, List.setIfInBounds_toArray, List.set_cons_zero, List.set_cons_succ])
      refine WD_ready (rs := [14]) (by kernel_rfl) (by simp) ?_
      refine AllD.cons (o := { dst := some 62, op := Go.Op.call { callee := Go.Callee.value (Go.Operand.func 18), args := #[Go.Operand.tmp 61], argTypes := #[27] }, type := 9, pos := _, after := #[{ on := 13, ground := Go.Ground.data }, { on := 12, ground := Go.Ground.chain }, { on := 10, ground := Go.Ground.guard }], guard := some (10, false) }) rfl (fun K hK => ?_) AllD.nil
      rw [if_neg (fun h => nomatch h)]
      refine hK.out _ _ hHeld (fun hHeld => ?_)
      clear hK K
      (try simp only [Act.put, List.setIfInBounds_toArray, List.set_cons_zero, List.set_cons_succ])
      refine WD_take (i := 15) (oi := { dst := some 63, op := Go.Op.binOp Go.BinOp.eql 9 (Go.Operand.tmp 60) (Go.Operand.tmp 62) 9, type := 4, pos := _, after := #[{ on := 12, ground := Go.Ground.data }, { on := 14, ground := Go.Ground.data }, { on := 10, ground := Go.Ground.guard }], guard := some (10, false) }) (v := undef) rfl (by kernel_rfl) (by kernel_rfl) (by kernel_rfl) (by kernel_rfl) (fun _ _ _ h => h) (Or.inr ⟨by rfl, rfl⟩) hHeld ?_
      (try simp only [Act.put, List.setIfInBounds_toArray, List.set_cons_zero, List.set_cons_succ])
      refine WD_ready (rs := [18]) (by kernel_rfl) (by simp) ?_
      refine AllD.cons (o := { dst := some 66, op := Go.Op.call { callee := Go.Callee.value (Go.Operand.func 16), args := #[Go.Operand.tmp 64, Go.Operand.tmp 65], argTypes := #[27, 27] }, type := 4, pos := _, after := #[{ on := 16, ground := Go.Ground.data }, { on := 17, ground := Go.Ground.data }, { on := 14, ground := Go.Ground.chain }, { on := 10, ground := Go.Ground.guard }], guard := some (10, false) }) rfl (fun K hK => ?_) AllD.nil
      rw [if_neg (fun h => nomatch h)]
      refine hK.out _ _ hHeld (fun hHeld => ?_)
      clear hK K
      (try simp only [Act.put, List.setIfInBounds_toArray, List.set_cons_zero, List.set_cons_succ])
      refine WD_take (i := 19) (oi := { dst := some 67, op := Go.Op.binOp Go.BinOp.eql 4 (Go.Operand.tmp 63) (Go.Operand.tmp 66) 4, type := 4, pos := _, after := #[{ on := 15, ground := Go.Ground.data }, { on := 18, ground := Go.Ground.data }, { on := 10, ground := Go.Ground.guard }], guard := some (10, false) }) (v := undef) rfl (by kernel_rfl) (by kernel_rfl) (by kernel_rfl) (by kernel_rfl) (fun _ _ _ h => h) (Or.inr ⟨by rfl, rfl⟩) hHeld ?_
      (try simp only [Act.put, List.setIfInBounds_toArray, List.set_cons_zero, List.set_cons_succ])
      refine WD_take (i := 20) (oi := { dst := some 68, op := Go.Op.pick (Go.Operand.tmp 58) (Go.Operand.const (Go.Value.bool true)) (Go.Operand.tmp 67), type := 4, pos := _, after := #[{ on := 10, ground := Go.Ground.data }, { on := 19, ground := Go.Ground.data }], guard := none }) (v := ?vcb20) rfl (by kernel_rfl) (by kernel_rfl) (by kernel_rfl) (by kernel_rfl) (fun _ _ _ h => h) (Or.inl ⟨by rfl, ?hycb20⟩) hHeld ?_
      case hycb20 => (intro wz hSw; (try dsimp only at hSw); go_simp; try with_reducible rfl)
      (try simp only [Act.put, List.setIfInBounds_toArray, List.set_cons_zero, List.set_cons_succ])
      refine WD_take (i := 21) (oi := { dst := some 69, op := Go.Op.move (Go.Operand.tmp 68), type := 4, pos := _, after := #[{ on := 20, ground := Go.Ground.data }, { on := 18, ground := Go.Ground.chain }], guard := none }) (v := ?vcb21) rfl (by kernel_rfl) (by kernel_rfl) (by kernel_rfl) (by kernel_rfl) (fun _ _ _ h => h) (Or.inl ⟨by rfl, ?hycb21⟩) hHeld ?_
      case hycb21 => (intro wz hSw; (try dsimp only at hSw); go_simp; try with_reducible rfl)
      (try simp only [Act.put, List.setIfInBounds_toArray, List.set_cons_zero, List.set_cons_succ])
      refine WD_take (i := 22) (oi := { dst := some 70, op := Go.Op.load 27 (Go.Operand.tmp 3), type := 27, pos := _, after := #[{ on := 21, ground := Go.Ground.guard }], guard := some (21, false) }) (v := undef) rfl (by kernel_rfl) (by kernel_rfl) (by kernel_rfl) (by kernel_rfl) (fun _ _ _ h => h) (Or.inr ⟨by rfl, rfl⟩) hHeld ?_
      (try simp only [Act.put, List.setIfInBounds_toArray, List.set_cons_zero, List.set_cons_succ])
      refine WD_ready (rs := [23]) (by kernel_rfl) (by simp) ?_
      refine AllD.cons (o := { dst := some 71, op := Go.Op.call { callee := Go.Callee.value (Go.Operand.func 33), args := #[Go.Operand.tmp 70], argTypes := #[27] }, type := 4, pos := _, after := #[{ on := 22, ground := Go.Ground.data }, { on := 21, ground := Go.Ground.chain }, { on := 21, ground := Go.Ground.guard }], guard := some (21, false) }) rfl (fun K hK => ?_) AllD.nil
      rw [if_neg (fun h => nomatch h)]
      refine hK.out _ _ hHeld (fun hHeld => ?_)
      clear hK K
      (try simp only [Act.put, List.setIfInBounds_toArray, List.set_cons_zero, List.set_cons_succ])
      refine WD_take (i := 24) (oi := { dst := some 72, op := Go.Op.pick (Go.Operand.tmp 69) (Go.Operand.const (Go.Value.bool true)) (Go.Operand.tmp 71), type := 4, pos := _, after := #[{ on := 21, ground := Go.Ground.data }, { on := 23, ground := Go.Ground.data }], guard := none }) (v := ?vcb24) rfl (by kernel_rfl) (by kernel_rfl) (by kernel_rfl) (by kernel_rfl) (fun _ _ _ h => h) (Or.inl ⟨by rfl, ?hycb24⟩) hHeld ?_
      case hycb24 => (intro wz hSw; (try dsimp only at hSw); go_simp; try with_reducible rfl)
      (try simp only [Act.put, List.setIfInBounds_toArray, List.set_cons_zero, List.set_cons_succ])
      refine WD_take (i := 25) (oi := { dst := some 73, op := Go.Op.move (Go.Operand.tmp 72), type := 4, pos := _, after := #[{ on := 24, ground := Go.Ground.data }, { on := 23, ground := Go.Ground.chain }], guard := none }) (v := ?vcb25) rfl (by kernel_rfl) (by kernel_rfl) (by kernel_rfl) (by kernel_rfl) (fun _ _ _ h => h) (Or.inl ⟨by rfl, ?hycb25⟩) hHeld ?_
      case hycb25 => (intro wz hSw; (try dsimp only at hSw); go_simp; try with_reducible rfl)
      (try simp only [Act.put, List.setIfInBounds_toArray, List.set_cons_zero, List.set_cons_succ])
      refine WD_take (i := 26) (oi := { dst := some 74, op := Go.Op.load 27 (Go.Operand.tmp 4), type := 27, pos := _, after := #[{ on := 25, ground := Go.Ground.guard }], guard := some (25, false) }) (v := undef) rfl (by kernel_rfl) (by kernel_rfl) (by kernel_rfl) (by kernel_rfl) (fun _ _ _ h => h) (Or.inr ⟨by rfl, rfl⟩) hHeld ?_
      (try simp only [Act.put, List.setIfInBounds_toArray, List.set_cons_zero, List.set_cons_succ])
      have H27 := Lib.hid hHeld
      refine WD_ready (rs := [27]) (by kernel_rfl) (by simp) ?_
      refine AllD.last (o := { dst := some 75, op := Go.Op.call { callee := Go.Callee.value (Go.Operand.func 33), args := #[Go.Operand.tmp 74], argTypes := #[27] }, type := 4, pos := _, after := #[{ on := 26, ground := Go.Ground.data }, { on := 25, ground := Go.Ground.chain }, { on := 25, ground := Go.Ground.guard }], guard := some (25, false) }) rfl (by kernel_rfl) (fun K hK => ?_) AllD.nil
      rw [if_neg (fun h => nomatch h)]
      refine hK.out _ _ ?_
      clear hK K
      (try simp only [Act.put, List.setIfInBounds_toArray, List.set_cons_zero, List.set_cons_succ])
      refine WD_takeAny (i := 28) (oi := { dst := some 76, op := Go.Op.pick (Go.Operand.tmp 73) (Go.Operand.const (Go.Value.bool true)) (Go.Operand.tmp 75), type := 4, pos := _, after := #[{ on := 25, ground := Go.Ground.data }, { on := 27, ground := Go.Ground.data }], guard := none }) (v := ?vcb28) rfl (by kernel_rfl) (by kernel_rfl) (by kernel_rfl) (by kernel_rfl) (fun _ _ _ h => h) (Or.inl ⟨by rfl, ?hycb28⟩) ?_
      case hycb28 => (intro wz _; go_simp; try with_reducible rfl)
      (try simp only [Act.put, List.setIfInBounds_toArray, List.set_cons_zero, List.set_cons_succ])
      refine WD_takeAny (i := 29) (oi := { dst := some 6, op := Go.Op.assign (Go.Operand.tmp 76), type := 4, pos := _, after := #[{ on := 28, ground := Go.Ground.data }, { on := 27, ground := Go.Ground.chain }, { on := 0, ground := Go.Ground.phase }, { on := 1, ground := Go.Ground.phase }, { on := 2, ground := Go.Ground.phase }, { on := 3, ground := Go.Ground.phase }, { on := 4, ground := Go.Ground.phase }, { on := 5, ground := Go.Ground.phase }, { on := 6, ground := Go.Ground.phase }, { on := 7, ground := Go.Ground.phase }, { on := 8, ground := Go.Ground.phase }, { on := 9, ground := Go.Ground.phase }, { on := 10, ground := Go.Ground.phase }, { on := 11, ground := Go.Ground.phase }, { on := 12, ground := Go.Ground.phase }, { on := 13, ground := Go.Ground.phase }, { on := 14, ground := Go.Ground.phase }, { on := 15, ground := Go.Ground.phase }, { on := 16, ground := Go.Ground.phase }, { on := 17, ground := Go.Ground.phase }, { on := 18, ground := Go.Ground.phase }, { on := 19, ground := Go.Ground.phase }, { on := 20, ground := Go.Ground.phase }, { on := 21, ground := Go.Ground.phase }, { on := 22, ground := Go.Ground.phase }, { on := 23, ground := Go.Ground.phase }, { on := 24, ground := Go.Ground.phase }, { on := 25, ground := Go.Ground.phase }, { on := 26, ground := Go.Ground.phase }, { on := 27, ground := Go.Ground.phase }, { on := 28, ground := Go.Ground.phase }], guard := none }) (v := ?vcb29) rfl (by kernel_rfl) (by kernel_rfl) (by kernel_rfl) (by kernel_rfl) (fun _ _ _ h => h) (Or.inl ⟨by rfl, ?hycb29⟩) ?_
      case hycb29 => (intro wz _; go_simp; try with_reducible rfl)
      (try simp only [Act.put, List.setIfInBounds_toArray, List.set_cons_zero, List.set_cons_succ])
      refine WD_done (by kernel_rfl) ?_ _
      have HE := H27.out
      have FIN := Lib.hid (bt HB.out (bt B7.out HE))
      clear HE
      go_wp2
      go_ret
      exact ⟨rfl, FIN.out⟩
    obtain rfl : NU = 0 := by omega
    clear hnv hnu
    by_cases hVU : V = U
    · have SMt := Lib.hid (fun W (hW : Below w7.heap.size w7 W) => (SM.out W hW).mono (fun (e : Ending) (w1 : World) ⟨⟨b, e1, hs⟩, hb⟩ => (⟨by rw [e1, hs.2 hVU], hb⟩ : e = Ending.returned (Value.bool true) ∧ Below W.heap.size W w1)))
      obtain rfl : TV = TU := HSE.out hVU
      clear hVU
      refine wp_region_D [27] (fun w' => Below w7.heap.size w7 w') (by kernel_rfl) (bt B8.out (bdr _)) (fun hHeld => ?_)
      refine WD_take (i := 0) (oi := { dst := some 48, op := Go.Op.load 27 (Go.Operand.tmp 3), type := 27, pos := _, after := #[], guard := none }) (v := ?vcc0) rfl (by kernel_rfl) (by kernel_rfl) (by kernel_rfl) (by kernel_rfl) (fun _ _ _ h => h) (Or.inl ⟨by rfl, ?hycc0⟩) hHeld ?_
      case hycc0 => (intro wz hSw; (try dsimp only at hSw); have zc := KT7.out _ hSw; have z0 := zc.1; have z1 := zc.2.1; have z2 := zc.2.2.1; have z3 := zc.2.2.2; clear zc; go_simp; try with_reducible rfl)
      (try simp only [Act.put, List.setIfInBounds_toArray, List.set_cons_zero, List.set_cons_succ])
      refine WD_ready (rs := [1]) (by kernel_rfl) (by simp) ?_
      refine AllD.cons (o := _) rfl (fun K hK => ?_) AllD.nil
      rw [if_pos (by rfl)]
      go_simp
      refine (VT.out _ hHeld).mono ?_; rintro e w_14 ⟨A_14, c_14, rfl, o_14, b_14⟩
      try go_wp2_with fail
      refine hK.out _ _ (bt hHeld b_14.out) (fun hHeld => ?_)
      clear hK K
      (try simp only [Act.put, List.setIfInBounds_toArray, List.set_cons_zero, List.set_cons_succ])
      clear b_14 o_14
      refine WD_take (i := 2) (oi := { dst := some 50, op := Go.Op.call { callee := Go.Callee.builtin Go.Builtin.len, args := #[Go.Operand.tmp 49], argTypes := #[38] }, type := 3, pos := _, after := #[{ on := 1, ground := Go.Ground.data }], guard := none }) (v := ?vcc2) rfl (by kernel_rfl) (by kernel_rfl) (by kernel_rfl) (by kernel_rfl) (fun _ _ _ h => h) (Or.inl ⟨by rfl, ?hycc2⟩) hHeld ?_
      case hycc2 => (intro wz hSw; (try dsimp only at hSw); go_simp; try with_reducible rfl)
      (try simp only [Act.put, List.setIfInBounds_toArray, List.set_cons_zero, List.set_cons_succ])
      refine WD_take (i := 3) (oi := { dst := some 51, op := Go.Op.binOp Go.BinOp.gtr 3 (Go.Operand.tmp 50) (Go.Operand.const (Go.Value.int Go.IntKind.i64 0)) 3, type := 4, pos := _, after := #[{ on := 2, ground := Go.Ground.data }], guard := none }) (v := ?vcc3) rfl (by kernel_rfl) (by kernel_rfl) (by kernel_rfl) (by kernel_rfl) (fun _ _ _ h => h) (Or.inl ⟨by rfl, ?hycc3⟩) hHeld ?_
      case hycc3 => (intro wz hSw; (try dsimp only at hSw); go_simp; try with_reducible rfl)
      (try simp only [Act.put, List.setIfInBounds_toArray, List.set_cons_zero, List.set_cons_succ])
      refine WD_take (i := 4) (oi := { dst := some 52, op := Go.Op.move (Go.Operand.tmp 51), type := 4, pos := _, after := #[{ on := 3, ground := Go.Ground.data }, { on := 1, ground := Go.Ground.chain }], guard := none }) (v := ?vcc4) rfl (by kernel_rfl) (by kernel_rfl) (by kernel_rfl) (by kernel_rfl) (fun _ _ _ h => h) (Or.inl ⟨by rfl, ?hycc4⟩) hHeld ?_
      case hycc4 => (intro wz hSw; (try dsimp only at hSw); go_simp; try with_reducible rfl)
      (try simp only [Act.put, List.setIfInBounds_toArray, List.set_cons_zero, List.set_cons_succ])
      refine WD_take (i := 5) (oi := { dst := some 53, op := Go.Op.load 27 (Go.Operand.tmp 4), type := 27, pos := _, after := #[{ on := 4, ground := Go.Ground.guard }], guard := some (4, false) }) (v := ?vcc5) rfl (by kernel_rfl) (by kernel_rfl) (by kernel_rfl) (by kernel_rfl) (fun _ _ _ h => h) (Or.inl ⟨by rfl, ?hycc5⟩) hHeld ?_
      case hycc5 => (intro wz hSw; (try dsimp only at hSw); have zc := KU7.out _ hSw; have z0 := zc.1; have z1 := zc.2.1; have z2 := zc.2.2.1; have z3 := zc.2.2.2; clear zc; go_simp; try with_reducible rfl)
      (try simp only [Act.put, List.setIfInBounds_toArray, List.set_cons_zero, List.set_cons_succ])
      refine WD_ready (rs := [6]) (by kernel_rfl) (by simp) ?_
      refine AllD.cons (o := _) rfl (fun K hK => ?_) AllD.nil
      rw [if_pos (by rfl)]
      go_simp
      refine (VU.out _ hHeld).mono ?_; rintro e w_15 ⟨A_15, c_15, rfl, o_15, b_15⟩
      try go_wp2_with fail
      refine hK.out _ _ (bt hHeld b_15.out) (fun hHeld => ?_)
      clear hK K
      (try simp only [Act.put, List.setIfInBounds_toArray, List.set_cons_zero, List.set_cons_succ])
      clear b_15 o_15
      refine WD_take (i := 7) (oi := { dst := some 55, op := Go.Op.call { callee := Go.Callee.builtin Go.Builtin.len, args := #[Go.Operand.tmp 54], argTypes := #[38] }, type := 3, pos := _, after := #[{ on := 6, ground := Go.Ground.data }, { on := 4, ground := Go.Ground.guard }], guard := some (4, false) }) (v := ?vcc7) rfl (by kernel_rfl) (by kernel_rfl) (by kernel_rfl) (by kernel_rfl) (fun _ _ _ h => h) (Or.inl ⟨by rfl, ?hycc7⟩) hHeld ?_
      case hycc7 => (intro wz hSw; (try dsimp only at hSw); go_simp; try with_reducible rfl)
      (try simp only [Act.put, List.setIfInBounds_toArray, List.set_cons_zero, List.set_cons_succ])
      refine WD_take (i := 8) (oi := { dst := some 56, op := Go.Op.binOp Go.BinOp.gtr 3 (Go.Operand.tmp 55) (Go.Operand.const (Go.Value.int Go.IntKind.i64 0)) 3, type := 4, pos := _, after := #[{ on := 7, ground := Go.Ground.data }, { on := 4, ground := Go.Ground.guard }], guard := some (4, false) }) (v := ?vcc8) rfl (by kernel_rfl) (by kernel_rfl) (by kernel_rfl) (by kernel_rfl) (fun _ _ _ h => h) (Or.inl ⟨by rfl, ?hycc8⟩) hHeld ?_
      case hycc8 => (intro wz hSw; (try dsimp only at hSw); go_simp; try with_reducible rfl)
      (try simp only [Act.put, List.setIfInBounds_toArray, List.set_cons_zero, List.set_cons_succ])
      refine WD_take (i := 9) (oi := { dst := some 57, op := Go.Op.pick (Go.Operand.tmp 52) (Go.Operand.const (Go.Value.bool true)) (Go.Operand.tmp 56), type := 4, pos := _, after := #[{ on := 4, ground := Go.Ground.data }, { on := 8, ground := Go.Ground.data }], guard := none }) (v := ?vcc9) rfl (by kernel_rfl) (by kernel_rfl) (by kernel_rfl) (by kernel_rfl) (fun _ _ _ h => h) (Or.inl ⟨by rfl, ?hycc9⟩) hHeld ?_
      case hycc9 => (intro wz hSw; (try dsimp only at hSw); go_simp; try with_reducible rfl)
      (try simp only [Act.put, List.setIfInBounds_toArray, List.set_cons_zero, List.set_cons_succ])
      refine WD_take (i := 10) (oi := { dst := some 58, op := Go.Op.move (Go.Operand.tmp 57), type := 4, pos := _, after := #[{ on := 9, ground := Go.Ground.data }, { on := 6, ground := Go.Ground.chain }], guard := none }) (v := ?vcc10) rfl (by kernel_rfl) (by kernel_rfl) (by kernel_rfl) (by kernel_rfl) (fun _ _ _ h => h) (Or.inl ⟨by rfl, ?hycc10⟩) hHeld ?_
      case hycc10 => (intro wz hSw; (try dsimp only at hSw); go_simp; try with_reducible rfl)
      (try simp only [Act.put, List.setIfInBounds_toArray, List.set_cons_zero, List.set_cons_succ])
      refine WD_take (i := 11) (oi := { dst := some 59, op := Go.Op.load 27 (Go.Operand.tmp 3), type := 27, pos := _, after := #[{ on := 10, ground := Go.Ground.guard }], guard := some (10, false) }) (v := ?vcc11) rfl (by kernel_rfl) (by kernel_rfl) (by kernel_rfl) (by kernel_rfl) (fun _ _ _ h => h) (Or.inl ⟨by rfl, ?hycc11⟩) hHeld ?_
      case hycc11 => (intro wz hSw; (try dsimp only at hSw); have zc := KT7.out _ hSw; have z0 := zc.1; have z1 := zc.2.1; have z2 := zc.2.2.1; have z3 := zc.2.2.2; clear zc; go_simp; try with_reducible rfl)
      (try simp only [Act.put, List.setIfInBounds_toArray, List.set_cons_zero, List.set_cons_succ])
      refine WD_take (i := 13) (oi := { dst := some 61, op := Go.Op.load 27 (Go.Operand.tmp 4), type := 27, pos := _, after := #[{ on := 10, ground := Go.Ground.guard }], guard := some (10, false) }) (v := ?vcc13) rfl (by kernel_rfl) (by kernel_rfl) (by kernel_rfl) (by kernel_rfl) (fun _ _ _ h => h) (Or.inl ⟨by rfl, ?hycc13⟩) hHeld ?_
      case hycc13 => (intro wz hSw; (try dsimp only at hSw); have zc := KU7.out _ hSw; have z0 := zc.1; have z1 := zc.2.1; have z2 := zc.2.2.1; have z3 := zc.2.2.2; clear zc; go_simp; try with_reducible rfl)
      (try simp only [Act.put, List.setIfInBounds_toArray, List.set_cons_zero, List.set_cons_succ])
      refine WD_take (i := 16) (oi := { dst := some 64, op := Go.Op.load 27 (Go.Operand.tmp 3), type := 27, pos := _, after := #[{ on := 10, ground := Go.Ground.guard }], guard := some (10, false) }) (v := ?vcc16) rfl (by kernel_rfl) (by kernel_rfl) (by kernel_rfl) (by kernel_rfl) (fun _ _ _ h => h) (Or.inl ⟨by rfl, ?hycc16⟩) hHeld ?_
      case hycc16 => (intro wz hSw; (try dsimp only at hSw); have zc := KT7.out _ hSw; have z0 := zc.1; have z1 := zc.2.1; have z2 := zc.2.2.1; have z3 := zc.2.2.2; clear zc; go_simp; try with_reducible rfl)
      (try simp only [Act.put, List.setIfInBounds_toArray, List.set_cons_zero, List.set_cons_succ])
      refine WD_take (i := 17) (oi := { dst := some 65, op := Go.Op.load 27 (Go.Operand.tmp 4), type := 27, pos := _, after := #[{ on := 10, ground := Go.Ground.guard }], guard := some (10, false) }) (v := ?vcc17) rfl (by kernel_rfl) (by kernel_rfl) (by kernel_rfl) (by kernel_rfl) (fun _ _ _ h => h) (Or.inl ⟨by rfl, ?hycc17⟩) hHeld ?_
      case hycc17 => (intro wz hSw; (try dsimp only at hSw); have zc := KU7.out _ hSw; have z0 := zc.1; have z1 := zc.2.1; have z2 := zc.2.2.1; have z3 := zc.2.2.2; clear zc; go_simp; try with_reducible rfl)
      (try simp only [Act.put, List.setIfInBounds_toArray, List.set_cons_zero, List.set_cons_succ])
      refine WD_ready (rs := [12]) (by kernel_rfl) (by simp) ?_
      refine AllD.cons (o := _) rfl (fun K hK => ?_) AllD.nil
      rw [if_pos (by rfl)]
      go_simp
      refine (ST.out _ hHeld).mono ?_; rintro e w_16 ⟨rfl, b_16⟩
      try go_wp2_with fail
      refine hK.out _ _ (bt hHeld b_16) (fun hHeld => ?_)
      clear hK K
      (try simp only [Act.put, List.setIfInBounds_toArray, List.set_cons_zero, List.set_cons_succ])
      clear b_16
      refine WD_ready (rs := [14]) (by kernel_rfl) (by simp) ?_
      refine AllD.cons (o := _) rfl (fun K hK => ?_) AllD.nil
      rw [if_pos (by rfl)]
      go_simp
      refine (SU.out _ hHeld).mono ?_; rintro e w_17 ⟨rfl, b_17⟩
      try go_wp2_with fail
      refine hK.out _ _ (bt hHeld b_17) (fun hHeld => ?_)
      clear hK K
      (try simp only [Act.put, List.setIfInBounds_toArray, List.set_cons_zero, List.set_cons_succ])
      clear b_17
      refine WD_take (i := 15) (oi := { dst := some 63, op := Go.Op.binOp Go.BinOp.eql 9 (Go.Operand.tmp 60) (Go.Operand.tmp 62) 9, type := 4, pos := _, after := #[{ on := 12, ground := Go.Ground.data }, { on := 14, ground := Go.Ground.data }, { on := 10, ground := Go.Ground.guard }], guard := some (10, false) }) (v := ?vcc15) rfl (by kernel_rfl) (by kernel_rfl) (by kernel_rfl) (by kernel_rfl) (fun _ _ _ h => h) (Or.inl ⟨by rfl, ?hycc15⟩) hHeld ?_
      case hycc15 => (intro wz hSw; (try dsimp only at hSw); go_simp; try with_reducible rfl)
      (try simp only [Act.put, List.setIfInBounds_toArray, List.set_cons_zero, List.set_cons_succ])
      refine WD_ready (rs := [18]) (by kernel_rfl) (by simp) ?_
      refine AllD.cons (o := _) rfl (fun K hK => ?_) AllD.nil
      rw [if_pos (by rfl)]
      go_simp
      refine (SMt.out _ hHeld).mono ?_; rintro e w_18 ⟨rfl, b_18⟩
      try go_wp2_with fail
      refine hK.out _ _ (bt hHeld b_18) (fun hHeld => ?_)
      clear hK K
      (try simp only [Act.put, List.setIfInBounds_toArray, List.set_cons_zero, List.set_cons_succ])
      clear b_18
      refine WD_take (i := 19) (oi := { dst := some 67, op := Go.Op.binOp Go.BinOp.eql 4 (Go.Operand.tmp 63) (Go.Operand.tmp 66) 4, type := 4, pos := _, after := #[{ on := 15, ground := Go.Ground.data }, { on := 18, ground := Go.Ground.data }, { on := 10, ground := Go.Ground.guard }], guard := some (10, false) }) (v := ?vcc19) rfl (by kernel_rfl) (by kernel_rfl) (by kernel_rfl) (by kernel_rfl) (fun _ _ _ h => h) (Or.inl ⟨by rfl, ?hycc19⟩) hHeld ?_
      case hycc19 => (intro wz hSw; (try dsimp only at hSw); go_simp; try with_reducible rfl)
      (try simp only [Act.put, List.setIfInBounds_toArray, List.set_cons_zero, List.set_cons_succ])
      refine WD_take (i := 20) (oi := { dst := some 68, op := Go.Op.pick (Go.Operand.tmp 58) (Go.Operand.const (Go.Value.bool true)) (Go.Operand.tmp 67), type := 4, pos := _, after := #[{ on := 10, ground := Go.Ground.data }, { on := 19, ground := Go.Ground.data }], guard := none }) (v := ?vcc20) rfl (by kernel_rfl) (by kernel_rfl) (by kernel_rfl) (by kernel_rfl) (fun _ _ _ h => h) (Or.inl ⟨by rfl, ?hycc20⟩) hHeld ?_
      case hycc20 => (intro wz hSw; (try dsimp only at hSw); go_simp; try with_reducible rfl)
      (try simp only [Act.put, List.setIfInBounds_toArray, List.set_cons_zero, List.set_cons_succ])
      refine WD_take (i := 21) (oi := { dst := some 69, op := Go.Op.move (Go.Operand.tmp 68), type := 4, pos := _, after := #[{ on := 20, ground := Go.Ground.data }, { on := 18, ground := Go.Ground.chain }], guard := none }) (v := ?vcc21) rfl (by kernel_rfl) (by kernel_rfl) (by kernel_rfl) (by kernel_rfl) (fun _ _ _ h => h) (Or.inl ⟨by rfl, ?hycc21⟩) hHeld ?_
      case hycc21 => (intro wz hSw; (try dsimp only at hSw); go_simp; try with_reducible rfl)
      (try simp only [Act.put, List.setIfInBounds_toArray, List.set_cons_zero, List.set_cons_succ])
      refine WD_take (i := 22) (oi := { dst := some 70, op := Go.Op.load 27 (Go.Operand.tmp 3), type := 27, pos := _, after := #[{ on := 21, ground := Go.Ground.guard }], guard := some (21, false) }) (v := undef) rfl (by kernel_rfl) (by kernel_rfl) (by kernel_rfl) (by kernel_rfl) (fun _ _ _ h => h) (Or.inr ⟨by rfl, rfl⟩) hHeld ?_
      (try simp only [Act.put, List.setIfInBounds_toArray, List.set_cons_zero, List.set_cons_succ])
      refine WD_ready (rs := [23]) (by kernel_rfl) (by simp) ?_
      refine AllD.cons (o := { dst := some 71, op := Go.Op.call { callee := Go.Callee.value (Go.Operand.func 33), args := #[Go.Operand.tmp 70], argTypes := #[27] }, type := 4, pos := _, after := #[{ on := 22, ground := Go.Ground.data }, { on := 21, ground := Go.Ground.chain }, { on := 21, ground := Go.Ground.guard }], guard := some (21, false) }) rfl (fun K hK => ?_) AllD.nil
      rw [if_neg (fun h => nomatch h)]
      refine hK.out _ _ hHeld (fun hHeld => ?_)
      clear hK K
      (try simp only [Act.put, List.setIfInBounds_toArray, List.set_cons_zero, List.set_cons_succ])
      refine WD_take (i := 24) (oi := { dst := some 72, op := Go.Op.pick (Go.Operand.tmp 69) (Go.Operand.const (Go.Value.bool true)) (Go.Operand.tmp 71), type := 4, pos := _, after := #[{ on := 21, ground := Go.Ground.data }, { on := 23, ground := Go.Ground.data }], guard := none }) (v := ?vcc24) rfl (by kernel_rfl) (by kernel_rfl) (by kernel_rfl) (by kernel_rfl) (fun _ _ _ h => h) (Or.inl ⟨by rfl, ?hycc24⟩) hHeld ?_
      case hycc24 => (intro wz hSw; (try dsimp only at hSw); go_simp; try with_reducible rfl)
      (try simp only [Act.put, List.setIfInBounds_toArray, List.set_cons_zero, List.set_cons_succ])
      refine WD_take (i := 25) (oi := { dst := some 73, op := Go.Op.move (Go.Operand.tmp 72), type := 4, pos := _, after := #[{ on := 24, ground := Go.Ground.data }, { on := 23, ground := Go.Ground.chain }], guard := none }) (v := ?vcc25) rfl (by kernel_rfl) (by kernel_rfl) (by kernel_rfl) (by kernel_rfl) (fun _ _ _ h => h) (Or.inl ⟨by rfl, ?hycc25⟩) hHeld ?_
      case hycc25 => (intro wz hSw; (try dsimp only at hSw); go_simp; try with_reducible rfl)
      (try simp only [Act.put, List.setIfInBounds_toArray, List.set_cons_zero, List.set_cons_succ])
      refine WD_take (i := 26) (oi := { dst := some 74, op := Go.Op.load 27 (Go.Operand.tmp 4), type := 27, pos := _, after := #[{ on := 25, ground := Go.Ground.guard }], guard := some (25, false) }) (v := undef) rfl (by kernel_rfl) (by kernel_rfl) (by kernel_rfl) (by kernel_rfl) (fun _ _ _ h => h) (Or.inr ⟨by rfl, rfl⟩) hHeld ?_
      (try simp only [Act.put, List.setIfInBounds_toArray, List.set_cons_zero, List.set_cons_succ])
      have H27 := Lib.hid hHeld
      refine WD_ready (rs := [27]) (by kernel_rfl) (by simp) ?_
      refine AllD.last (o := { dst := some 75, op := Go.Op.call { callee := Go.Callee.value (Go.Operand.func 33), args := #[Go.Operand.tmp 74], argTypes := #[27] }, type := 4, pos := _, after := #[{ on := 26, ground := Go.Ground.data }, { on := 25, ground := Go.Ground.chain }, { on := 25, ground := Go.Ground.guard }], guard := some (25, false) }) rfl (by kernel_rfl) (fun K hK => ?_) AllD.nil
      rw [if_neg (fun h => nomatch h)]
      refine hK.out _ _ ?_
      clear hK K
      (try simp only [Act.put, List.setIfInBounds_toArray, List.set_cons_zero, List.set_cons_succ])
      refine WD_takeAny (i := 28) (oi := { dst := some 76, op := Go.Op.pick (Go.Operand.tmp 73) (Go.Operand.const (Go.Value.bool true)) (Go.Operand.tmp 75), type := 4, pos := _, after := #[{ on := 25, ground := Go.Ground.data }, { on := 27, ground := Go.Ground.data }], guard := none }) (v := ?vcc28) rfl (by kernel_rfl) (by kernel_rfl) (by kernel_rfl) (by kernel_rfl) (fun _ _ _ h => h) (Or.inl ⟨by rfl, ?hycc28⟩) ?_
      case hycc28 => (intro wz _; go_simp; try with_reducible rfl)
      (try simp only [Act.put, List.setIfInBounds_toArray, List.set_cons_zero, List.set_cons_succ])
      refine WD_takeAny (i := 29) (oi := { dst := some 6, op := Go.Op.assign (Go.Operand.tmp 76), type := 4, pos := _, after := #[{ on := 28, ground := Go.Ground.data }, { on := 27, ground := Go.Ground.chain }, { on := 0, ground := Go.Ground.phase }, { on := 1, ground := Go.Ground.phase }, { on := 2, ground := Go.Ground.phase }, { on := 3, ground := Go.Ground.phase }, { on := 4, ground := Go.Ground.phase }, { on := 5, ground := Go.Ground.phase }, { on := 6, ground := Go.Ground.phase }, { on := 7, ground := Go.Ground.phase }, { on := 8, ground := Go.Ground.phase }, { on := 9, ground := Go.Ground.phase }, { on := 10, ground := Go.Ground.phase }, { on := 11, ground := Go.Ground.phase }, { on := 12, ground := Go.Ground.phase }, { on := 13, ground := Go.Ground.phase }, { on := 14, ground := Go.Ground.phase }, { on := 15, ground := Go.Ground.phase }, { on := 16, ground := Go.Ground.phase }, { on := 17, ground := Go.Ground.phase }, { on := 18, ground := Go.Ground.phase }, { on := 19, ground := Go.Ground.phase }, { on := 20, ground := Go.Ground.phase }, { on := 21, ground := Go.Ground.phase }, { on := 22, ground := Go.Ground.phase }, { on := 23, ground := Go.Ground.phase }, { on := 24, ground := Go.Ground.phase }, { on := 25, ground := Go.Ground.phase }, { on := 26, ground := Go.Ground.phase }, { on := 27, ground := Go.Ground.phase }, { on := 28, ground := Go.Ground.phase }], guard := none }) (v := ?vcc29) rfl (by kernel_rfl) (by kernel_rfl) (by kernel_rfl) (by kernel_rfl) (fun _ _ _ h => h) (Or.inl ⟨by rfl, ?hycc29⟩) ?_
      case hycc29 => (intro wz _; go_simp; try with_reducible rfl)
      (try simp only [Act.put, List.setIfInBounds_toArray, List.set_cons_zero, List.set_cons_succ])
      refine WD_done (by kernel_rfl) ?_ _
      have HE := H27.out
      have FIN := Lib.hid (bt HB.out (bt B7.out HE))
      clear HE
      go_wp2
      go_ret
      exact ⟨rfl, FIN.out⟩
    have SMf := Lib.hid (fun W (hW : Below w7.heap.size w7 W) => (SM.out W hW).mono (fun (e : Ending) (w1 : World) ⟨⟨b, e1, hs⟩, hb⟩ => (⟨by rw [e1]; cases b with | false => rfl | true => exact absurd (hs.1 rfl) hVU, hb⟩ : e = Ending.returned (Value.bool false) ∧ Below W.heap.size W w1)))
    by_cases hse : TV = TU
    · cases hot : oddT V with
      | true =>
        have OTx := Lib.hid (fun W (hW : Below w7.heap.size w7 W) => hot ▸ OT.out W hW)
        subst hse
        clear hVU hot
        refine wp_region_D [27] (fun w' => Below w7.heap.size w7 w') (by kernel_rfl) (bt B8.out (bdr _)) (fun hHeld => ?_)
        refine WD_take (i := 0) (oi := { dst := some 48, op := Go.Op.load 27 (Go.Operand.tmp 3), type := 27, pos := _, after := #[], guard := none }) (v := ?vcd0) rfl (by kernel_rfl) (by kernel_rfl) (by kernel_rfl) (by kernel_rfl) (fun _ _ _ h => h) (Or.inl ⟨by rfl, ?hycd0⟩) hHeld ?_
        case hycd0 => (intro wz hSw; (try dsimp only at hSw); have zc := KT7.out _ hSw; have z0 := zc.1; have z1 := zc.2.1; have z2 := zc.2.2.1; have z3 := zc.2.2.2; clear zc; go_simp; try with_reducible rfl)
        (try simp only [Act.put, List.setIfInBounds_toArray, List.set_cons_zero, List.set_cons_succ])
        refine WD_ready (rs := [1]) (by kernel_rfl) (by simp) ?_
        refine AllD.cons (o := _) rfl (fun K hK => ?_) AllD.nil
        rw [if_pos (by rfl)]
        go_simp
        refine (VT.out _ hHeld).mono ?_; rintro e w_19 ⟨A_19, c_19, rfl, o_19, b_19⟩
        try go_wp2_with fail
        refine hK.out _ _ (bt hHeld b_19.out) (fun hHeld => ?_)
        clear hK K
        (try simp only [Act.put, List.setIfInBounds_toArray, List.set_cons_zero, List.set_cons_succ])
        clear b_19 o_19
        refine WD_take (i := 2) (oi := { dst := some 50, op := Go.Op.call { callee := Go.Callee.builtin Go.Builtin.len, args := #[Go.Operand.tmp 49], argTypes := #[38] }, type := 3, pos := _, after := #[{ on := 1, ground := Go.Ground.data }], guard := none }) (v := ?vcd2) rfl (by kernel_rfl) (by kernel_rfl) (by kernel_rfl) (by kernel_rfl) (fun _ _ _ h => h) (Or.inl ⟨by rfl, ?hycd2⟩) hHeld ?_
        case hycd2 => (intro wz hSw; (try dsimp only at hSw); go_simp; try with_reducible rfl)
        (try simp only [Act.put, List.setIfInBounds_toArray, List.set_cons_zero, List.set_cons_succ])
        refine WD_take (i := 3) (oi := { dst := some 51, op := Go.Op.binOp Go.BinOp.gtr 3 (Go.Operand.tmp 50) (Go.Operand.const (Go.Value.int Go.IntKind.i64 0)) 3, type := 4, pos := _, after := #[{ on := 2, ground := Go.Ground.data }], guard := none }) (v := ?vcd3) rfl (by kernel_rfl) (by kernel_rfl) (by kernel_rfl) (by kernel_rfl) (fun _ _ _ h => h) (Or.inl ⟨by rfl, ?hycd3⟩) hHeld ?_
        case hycd3 => (intro wz hSw; (try dsimp only at hSw); go_simp; try with_reducible rfl)
        (try simp only [Act.put, List.setIfInBounds_toArray, List.set_cons_zero, List.set_cons_succ])
        refine WD_take (i := 4) (oi := { dst := some 52, op := Go.Op.move (Go.Operand.tmp 51), type := 4, pos := _, after := #[{ on := 3, ground := Go.Ground.data }, { on := 1, ground := Go.Ground.chain }], guard := none }) (v := ?vcd4) rfl (by kernel_rfl) (by kernel_rfl) (by kernel_rfl) (by kernel_rfl) (fun _ _ _ h => h) (Or.inl ⟨by rfl, ?hycd4⟩) hHeld ?_
        case hycd4 => (intro wz hSw; (try dsimp only at hSw); go_simp; try with_reducible rfl)
        (try simp only [Act.put, List.setIfInBounds_toArray, List.set_cons_zero, List.set_cons_succ])
        refine WD_take (i := 5) (oi := { dst := some 53, op := Go.Op.load 27 (Go.Operand.tmp 4), type := 27, pos := _, after := #[{ on := 4, ground := Go.Ground.guard }], guard := some (4, false) }) (v := ?vcd5) rfl (by kernel_rfl) (by kernel_rfl) (by kernel_rfl) (by kernel_rfl) (fun _ _ _ h => h) (Or.inl ⟨by rfl, ?hycd5⟩) hHeld ?_
        case hycd5 => (intro wz hSw; (try dsimp only at hSw); have zc := KU7.out _ hSw; have z0 := zc.1; have z1 := zc.2.1; have z2 := zc.2.2.1; have z3 := zc.2.2.2; clear zc; go_simp; try with_reducible rfl)
        (try simp only [Act.put, List.setIfInBounds_toArray, List.set_cons_zero, List.set_cons_succ])
        refine WD_ready (rs := [6]) (by kernel_rfl) (by simp) ?_
        refine AllD.cons (o := _) rfl (fun K hK => ?_) AllD.nil
        rw [if_pos (by rfl)]
        go_simp
        refine (VU.out _ hHeld).mono ?_; rintro e w_20 ⟨A_20, c_20, rfl, o_20, b_20⟩
        try go_wp2_with fail
        refine hK.out _ _ (bt hHeld b_20.out) (fun hHeld => ?_)
        clear hK K
        (try simp only [Act.put, List.setIfInBounds_toArray, List.set_cons_zero, List.set_cons_succ])
        clear b_20 o_20
        refine WD_take (i := 7) (oi := { dst := some 55, op := Go.Op.call { callee := Go.Callee.builtin Go.Builtin.len, args := #[Go.Operand.tmp 54], argTypes := #[38] }, type := 3, pos := _, after := #[{ on := 6, ground := Go.Ground.data }, { on := 4, ground := Go.Ground.guard }], guard := some (4, false) }) (v := ?vcd7) rfl (by kernel_rfl) (by kernel_rfl) (by kernel_rfl) (by kernel_rfl) (fun _ _ _ h => h) (Or.inl ⟨by rfl, ?hycd7⟩) hHeld ?_
        case hycd7 => (intro wz hSw; (try dsimp only at hSw); go_simp; try with_reducible rfl)
        (try simp only [Act.put, List.setIfInBounds_toArray, List.set_cons_zero, List.set_cons_succ])
        refine WD_take (i := 8) (oi := { dst := some 56, op := Go.Op.binOp Go.BinOp.gtr 3 (Go.Operand.tmp 55) (Go.Operand.const (Go.Value.int Go.IntKind.i64 0)) 3, type := 4, pos := _, after := #[{ on := 7, ground := Go.Ground.data }, { on := 4, ground := Go.Ground.guard }], guard := some (4, false) }) (v := ?vcd8) rfl (by kernel_rfl) (by kernel_rfl) (by kernel_rfl) (by kernel_rfl) (fun _ _ _ h => h) (Or.inl ⟨by rfl, ?hycd8⟩) hHeld ?_
        case hycd8 => (intro wz hSw; (try dsimp only at hSw); go_simp; try with_reducible rfl)
        (try simp only [Act.put, List.setIfInBounds_toArray, List.set_cons_zero, List.set_cons_succ])
        refine WD_take (i := 9) (oi := { dst := some 57, op := Go.Op.pick (Go.Operand.tmp 52) (Go.Operand.const (Go.Value.bool true)) (Go.Operand.tmp 56), type := 4, pos := _, after := #[{ on := 4, ground := Go.Ground.data }, { on := 8, ground := Go.Ground.data }], guard := none }) (v := ?vcd9) rfl (by kernel_rfl) (by kernel_rfl) (by kernel_rfl) (by kernel_rfl) (fun _ _ _ h => h) (Or.inl ⟨by rfl, ?hycd9⟩) hHeld ?_
        case hycd9 => (intro wz hSw; (try dsimp only at hSw); go_simp; try with_reducible rfl)
        (try simp only [Act.put, List.setIfInBounds_toArray, List.set_cons_zero, List.set_cons_succ])
        refine WD_take (i := 10) (oi := { dst := some 58, op := Go.Op.move (Go.Operand.tmp 57), type := 4, pos := _, after := #[{ on := 9, ground := Go.Ground.data }, { on := 6, ground := Go.Ground.chain }], guard := none }) (v := ?vcd10) rfl (by kernel_rfl) (by kernel_rfl) (by kernel_rfl) (by kernel_rfl) (fun _ _ _ h => h) (Or.inl ⟨by rfl, ?hycd10⟩) hHeld ?_
        case hycd10 => (intro wz hSw; (try dsimp only at hSw); go_simp; try with_reducible rfl)
        (try simp only [Act.put, List.setIfInBounds_toArray, List.set_cons_zero, List.set_cons_succ])
        refine WD_take (i := 11) (oi := { dst := some 59, op := Go.Op.load 27 (Go.Operand.tmp 3), type := 27, pos := _, after := #[{ on := 10, ground := Go.Ground.guard }], guard := some (10, false) }) (v := ?vcd11) rfl (by kernel_rfl) (by kernel_rfl) (by kernel_rfl) (by kernel_rfl) (fun _ _ _ h => h) (Or.inl ⟨by rfl, ?hycd11⟩) hHeld ?_
        case hycd11 => (intro wz hSw; (try dsimp only at hSw); have zc := KT7.out _ hSw; have z0 := zc.1; have z1 := zc.2.1; have z2 := zc.2.2.1; have z3 := zc.2.2.2; clear zc; go_simp; try with_reducible rfl)
        (try simp only [Act.put, List.setIfInBounds_toArray, List.set_cons_zero, List.set_cons_succ])
        refine WD_take (i := 13) (oi := { dst := some 61, op := Go.Op.load 27 (Go.Operand.tmp 4), type := 27, pos := _, after := #[{ on := 10, ground := Go.Ground.guard }], guard := some (10, false) }) (v := ?vcd13) rfl (by kernel_rfl) (by kernel_rfl) (by kernel_rfl) (by kernel_rfl) (fun _ _ _ h => h) (Or.inl ⟨by rfl, ?hycd13⟩) hHeld ?_
        case hycd13 => (intro wz hSw; (try dsimp only at hSw); have zc := KU7.out _ hSw; have z0 := zc.1; have z1 := zc.2.1; have z2 := zc.2.2.1; have z3 := zc.2.2.2; clear zc; go_simp; try with_reducible rfl)
        (try simp only [Act.put, List.setIfInBounds_toArray, List.set_cons_zero, List.set_cons_succ])
        refine WD_take (i := 16) (oi := { dst := some 64, op := Go.Op.load 27 (Go.Operand.tmp 3), type := 27, pos := _, after := #[{ on := 10, ground := Go.Ground.guard }], guard := some (10, false) }) (v := ?vcd16) rfl (by kernel_rfl) (by kernel_rfl) (by kernel_rfl) (by kernel_rfl) (fun _ _ _ h => h) (Or.inl ⟨by rfl, ?hycd16⟩) hHeld ?_
        case hycd16 => (intro wz hSw; (try dsimp only at hSw); have zc := KT7.out _ hSw; have z0 := zc.1; have z1 := zc.2.1; have z2 := zc.2.2.1; have z3 := zc.2.2.2; clear zc; go_simp; try with_reducible rfl)
        (try simp only [Act.put, List.setIfInBounds_toArray, List.set_cons_zero, List.set_cons_succ])
        refine WD_take (i := 17) (oi := { dst := some 65, op := Go.Op.load 27 (Go.Operand.tmp 4), type := 27, pos := _, after := #[{ on := 10, ground := Go.Ground.guard }], guard := some (10, false) }) (v := ?vcd17) rfl (by kernel_rfl) (by kernel_rfl) (by kernel_rfl) (by kernel_rfl) (fun _ _ _ h => h) (Or.inl ⟨by rfl, ?hycd17⟩) hHeld ?_
        case hycd17 => (intro wz hSw; (try dsimp only at hSw); have zc := KU7.out _ hSw; have z0 := zc.1; have z1 := zc.2.1; have z2 := zc.2.2.1; have z3 := zc.2.2.2; clear zc; go_simp; try with_reducible rfl)
        (try simp only [Act.put, List.setIfInBounds_toArray, List.set_cons_zero, List.set_cons_succ])
        refine WD_ready (rs := [12]) (by kernel_rfl) (by simp) ?_
        refine AllD.cons (o := _) rfl (fun K hK => ?_) AllD.nil
        rw [if_pos (by rfl)]
        go_simp
        refine (ST.out _ hHeld).mono ?_; rintro e w_21 ⟨rfl, b_21⟩
        try go_wp2_with fail
        refine hK.out _ _ (bt hHeld b_21) (fun hHeld => ?_)
        clear hK K
        (try simp only [Act.put, List.setIfInBounds_toArray, List.set_cons_zero, List.set_cons_succ])
        clear b_21
        refine WD_ready (rs := [14]) (by kernel_rfl) (by simp) ?_
        refine AllD.cons (o := _) rfl (fun K hK => ?_) AllD.nil
        rw [if_pos (by rfl)]
        go_simp
        refine (SU.out _ hHeld).mono ?_; rintro e w_22 ⟨rfl, b_22⟩
        try go_wp2_with fail
        refine hK.out _ _ (bt hHeld b_22) (fun hHeld => ?_)
        clear hK K
        (try simp only [Act.put, List.setIfInBounds_toArray, List.set_cons_zero, List.set_cons_succ])
        clear b_22
        refine WD_take (i := 15) (oi := { dst := some 63, op := Go.Op.binOp Go.BinOp.eql 9 (Go.Operand.tmp 60) (Go.Operand.tmp 62) 9, type := 4, pos := _, after := #[{ on := 12, ground := Go.Ground.data }, { on := 14, ground := Go.Ground.data }, { on := 10, ground := Go.Ground.guard }], guard := some (10, false) }) (v := ?vcd15) rfl (by kernel_rfl) (by kernel_rfl) (by kernel_rfl) (by kernel_rfl) (fun _ _ _ h => h) (Or.inl ⟨by rfl, ?hycd15⟩) hHeld ?_
        case hycd15 => (intro wz hSw; (try dsimp only at hSw); go_simp; try with_reducible rfl)
        (try simp only [Act.put, List.setIfInBounds_toArray, List.set_cons_zero, List.set_cons_succ])
        refine WD_ready (rs := [18]) (by kernel_rfl) (by simp) ?_
        refine AllD.cons (o := _) rfl (fun K hK => ?_) AllD.nil
        rw [if_pos (by rfl)]
        go_simp
        refine (SMf.out _ hHeld).mono ?_; rintro e w_23 ⟨rfl, b_23⟩
        try go_wp2_with fail
        refine hK.out _ _ (bt hHeld b_23) (fun hHeld => ?_)
        clear hK K
        (try simp only [Act.put, List.setIfInBounds_toArray, List.set_cons_zero, List.set_cons_succ])
        clear b_23
        refine WD_take (i := 19) (oi := { dst := some 67, op := Go.Op.binOp Go.BinOp.eql 4 (Go.Operand.tmp 63) (Go.Operand.tmp 66) 4, type := 4, pos := _, after := #[{ on := 15, ground := Go.Ground.data }, { on := 18, ground := Go.Ground.data }, { on := 10, ground := Go.Ground.guard }], guard := some (10, false) }) (v := ?vcd19) rfl (by kernel_rfl) (by kernel_rfl) (by kernel_rfl) (by kernel_rfl) (fun _ _ _ h => h) (Or.inl ⟨by rfl, ?hycd19⟩) hHeld ?_
        case hycd19 => (intro wz hSw; (try dsimp only at hSw); go_simp; try with_reducible rfl)
        (try simp only [Act.put, List.setIfInBounds_toArray, List.set_cons_zero, List.set_cons_succ])
        refine WD_take (i := 20) (oi := { dst := some 68, op := Go.Op.pick (Go.Operand.tmp 58) (Go.Operand.const (Go.Value.bool true)) (Go.Operand.tmp 67), type := 4, pos := _, after := #[{ on := 10, ground := Go.Ground.data }, { on := 19, ground := Go.Ground.data }], guard := none }) (v := ?vcd20) rfl (by kernel_rfl) (by kernel_rfl) (by kernel_rfl) (by kernel_rfl) (fun _ _ _ h => h) (Or.inl ⟨by rfl, ?hycd20⟩) hHeld ?_
        case hycd20 => (intro wz hSw; (try dsimp only at hSw); go_simp; try with_reducible rfl)
        (try simp only [Act.put, List.setIfInBounds_toArray, List.set_cons_zero, List.set_cons_succ])
        refine WD_take (i := 21) (oi := { dst := some 69, op := Go.Op.move (Go.Operand.tmp 68), type := 4, pos := _, after := #[{ on := 20, ground := Go.Ground.data }, { on := 18, ground := Go.Ground.chain }], guard := none }) (v := ?vcd21) rfl (by kernel_rfl) (by kernel_rfl) (by kernel_rfl) (by kernel_rfl) (fun _ _ _ h => h) (Or.inl ⟨by rfl, ?hycd21⟩) hHeld ?_
        case hycd21 => (intro wz hSw; (try dsimp only at hSw); go_simp; try with_reducible rfl)
        (try simp only [Act.put, List.setIfInBounds_toArray, List.set_cons_zero, List.set_cons_succ])
        refine WD_take (i := 22) (oi := { dst := some 70, op := Go.Op.load 27 (Go.Operand.tmp 3), type := 27, pos := _, after := #[{ on := 21, ground := Go.Ground.guard }], guard := some (21, false) }) (v := ?vcd22) rfl (by kernel_rfl) (by kernel_rfl) (by kernel_rfl) (by kernel_rfl) (fun _ _ _ h => h) (Or.inl ⟨by rfl, ?hycd22⟩) hHeld ?_
        case hycd22 => (intro wz hSw; (try dsimp only at hSw); have zc := KT7.out _ hSw; have z0 := zc.1; have z1 := zc.2.1; have z2 := zc.2.2.1; have z3 := zc.2.2.2; clear zc; go_simp; try with_reducible rfl)
        (try simp only [Act.put, List.setIfInBounds_toArray, List.set_cons_zero, List.set_cons_succ])
        refine WD_ready (rs := [23]) (by kernel_rfl) (by simp) ?_
        refine AllD.cons (o := _) rfl (fun K hK => ?_) AllD.nil
        rw [if_pos (by rfl)]
        go_simp
        refine (OTx.out _ hHeld).mono ?_; rintro e w_7 ⟨rfl, b_7⟩
        try go_wp2_with fail
        refine hK.out _ _ (bt hHeld b_7) (fun hHeld => ?_)
        clear hK K
        (try simp only [Act.put, List.setIfInBounds_toArray, List.set_cons_zero, List.set_cons_succ])
        clear b_7
        refine WD_take (i := 24) (oi := { dst := some 72, op := Go.Op.pick (Go.Operand.tmp 69) (Go.Operand.const (Go.Value.bool true)) (Go.Operand.tmp 71), type := 4, pos := _, after := #[{ on := 21, ground := Go.Ground.data }, { on := 23, ground := Go.Ground.data }], guard := none }) (v := ?vcd24) rfl (by kernel_rfl) (by kernel_rfl) (by kernel_rfl) (by kernel_rfl) (fun _ _ _ h => h) (Or.inl ⟨by rfl, ?hycd24⟩) hHeld ?_
        case hycd24 => (intro wz hSw; (try dsimp only at hSw); go_simp; try with_reducible rfl)
        (try simp only [Act.put, List.setIfInBounds_toArray, List.set_cons_zero, List.set_cons_succ])
        refine WD_take (i := 25) (oi := { dst := some 73, op := Go.Op.move (Go.Operand.tmp 72), type := 4, pos := _, after := #[{ on := 24, ground := Go.Ground.data }, { on := 23, ground := Go.Ground.chain }], guard := none }) (v := ?vcd25) rfl (by kernel_rfl) (by kernel_rfl) (by kernel_rfl) (by kernel_rfl) (fun _ _ _ h => h) (Or.inl ⟨by rfl, ?hycd25⟩) hHeld ?_
        case hycd25 => (intro wz hSw; (try dsimp only at hSw); go_simp; try with_reducible rfl)
        (try simp only [Act.put, List.setIfInBounds_toArray, List.set_cons_zero, List.set_cons_succ])
        refine WD_take (i := 26) (oi := { dst := some 74, op := Go.Op.load 27 (Go.Operand.tmp 4), type := 27, pos := _, after := #[{ on := 25, ground := Go.Ground.guard }], guard := some (25, false) }) (v := undef) rfl (by kernel_rfl) (by kernel_rfl) (by kernel_rfl) (by kernel_rfl) (fun _ _ _ h => h) (Or.inr ⟨by rfl, rfl⟩) hHeld ?_
        (try simp only [Act.put, List.setIfInBounds_toArray, List.set_cons_zero, List.set_cons_succ])
        have H27 := Lib.hid hHeld
        refine WD_ready (rs := [27]) (by kernel_rfl) (by simp) ?_
        refine AllD.last (o := { dst := some 75, op := Go.Op.call { callee := Go.Callee.value (Go.Operand.func 33), args := #[Go.Operand.tmp 74], argTypes := #[27] }, type := 4, pos := _, after := #[{ on := 26, ground := Go.Ground.data }, { on := 25, ground := Go.Ground.chain }, { on := 25, ground := Go.Ground.guard }], guard := some (25, false) }) rfl (by kernel_rfl) (fun K hK => ?_) AllD.nil
        rw [if_neg (fun h => nomatch h)]
        refine hK.out _ _ ?_
        clear hK K
        (try simp only [Act.put, List.setIfInBounds_toArray, List.set_cons_zero, List.set_cons_succ])
        refine WD_takeAny (i := 28) (oi := { dst := some 76, op := Go.Op.pick (Go.Operand.tmp 73) (Go.Operand.const (Go.Value.bool true)) (Go.Operand.tmp 75), type := 4, pos := _, after := #[{ on := 25, ground := Go.Ground.data }, { on := 27, ground := Go.Ground.data }], guard := none }) (v := ?vcd28) rfl (by kernel_rfl) (by kernel_rfl) (by kernel_rfl) (by kernel_rfl) (fun _ _ _ h => h) (Or.inl ⟨by rfl, ?hycd28⟩) ?_
        case hycd28 => (intro wz _; go_simp; try with_reducible rfl)
        (try simp only [Act.put, List.setIfInBounds_toArray, List.set_cons_zero, List.set_cons_succ])
        refine WD_takeAny (i := 29) (oi := { dst := some 6, op := Go.Op.assign (Go.Operand.tmp 76), type := 4, pos := _, after := #[{ on := 28, ground := Go.Ground.data }, { on := 27, ground := Go.Ground.chain }, { on := 0, ground := Go.Ground.phase }, { on := 1, ground := Go.Ground.phase }, { on := 2, ground := Go.Ground.phase }, { on := 3, ground := Go.Ground.phase }, { on := 4, ground := Go.Ground.phase }, { on := 5, ground := Go.Ground.phase }, { on := 6, ground := Go.Ground.phase }, { on := 7, ground := Go.Ground.phase }, { on := 8, ground := Go.Ground.phase }, { on := 9, ground := Go.Ground.phase }, { on := 10, ground := Go.Ground.phase }, { on := 11, ground := Go.Ground.phase }, { on := 12, ground := Go.Ground.phase }, { on := 13, ground := Go.Ground.phase }, { on := 14, ground := Go.Ground.phase }, { on := 15, ground := Go.Ground.phase }, { on := 16, ground := Go.Ground.phase }, { on := 17, ground := Go.Ground.phase }, { on := 18, ground := Go.Ground.phase }, { on := 19, ground := Go.Ground.phase }, { on := 20, ground := Go.Ground.phase }, { on := 21, ground := Go.Ground.phase }, { on := 22, ground := Go.Ground.phase }, { on := 23, ground := Go.Ground.phase }, { on := 24, ground := Go.Ground.phase }, { on := 25, ground := Go.Ground.phase }, { on := 26, ground := Go.Ground.phase }, { on := 27, ground := Go.Ground.phase }, { on := 28, ground := Go.Ground.phase }], guard := none }) (v := ?vcd29) rfl (by kernel_rfl) (by kernel_rfl) (by kernel_rfl) (by kernel_rfl) (fun _ _ _ h => h) (Or.inl ⟨by rfl, ?hycd29⟩) ?_
        case hycd29 => (intro wz _; go_simp; try with_reducible rfl)
        (try simp only [Act.put, List.setIfInBounds_toArray, List.set_cons_zero, List.set_cons_succ])
        refine WD_done (by kernel_rfl) ?_ _
        have HE := H27.out
        have FIN := Lib.hid (bt HB.out (bt B7.out HE))
        clear HE
        go_wp2
        go_ret
        exact ⟨rfl, FIN.out⟩
      | false =>
        have OTx := Lib.hid (fun W (hW : Below w7.heap.size w7 W) => hot ▸ OT.out W hW)
        have hou := INJ.out rfl rfl hse hVU hot
        have OUx := Lib.hid (fun W (hW : Below w7.heap.size w7 W) => hou ▸ OU.out W hW)
        subst hse
        clear hVU hot hou
        refine wp_region_D [27] (fun w' => Below w7.heap.size w7 w') (by kernel_rfl) (bt B8.out (bdr _)) (fun hHeld => ?_)
        refine WD_take (i := 0) (oi := { dst := some 48, op := Go.Op.load 27 (Go.Operand.tmp 3), type := 27, pos := _, after := #[], guard := none }) (v := ?vce0) rfl (by kernel_rfl) (by kernel_rfl) (by kernel_rfl) (by kernel_rfl) (fun _ _ _ h => h) (Or.inl ⟨by rfl, ?hyce0⟩) hHeld ?_
        case hyce0 => (intro wz hSw; (try dsimp only at hSw); have zc := KT7.out _ hSw; have z0 := zc.1; have z1 := zc.2.1; have z2 := zc.2.2.1; have z3 := zc.2.2.2; clear zc; go_simp; try with_reducible rfl)
        (try simp only [Act.put, List.setIfInBounds_toArray, List.set_cons_zero, List.set_cons_succ])
        refine WD_ready (rs := [1]) (by kernel_rfl) (by simp) ?_
        refine AllD.cons (o := _) rfl (fun K hK => ?_) AllD.nil
        rw [if_pos (by rfl)]
        go_simp
        refine (VT.out _ hHeld).mono ?_; rintro e w_24 ⟨A_24, c_24, rfl, o_24, b_24⟩
        try go_wp2_with fail
        refine hK.out _ _ (bt hHeld b_24.out) (fun hHeld => ?_)
        clear hK K
        (try simp only [Act.put, List.setIfInBounds_toArray, List.set_cons_zero, List.set_cons_succ])
        clear b_24 o_24
        refine WD_take (i := 2) (oi := { dst := some 50, op := Go.Op.call { callee := Go.Callee.builtin Go.Builtin.len, args := #[Go.Operand.tmp 49], argTypes := #[38] }, type := 3, pos := _, after := #[{ on := 1, ground := Go.Ground.data }], guard := none }) (v := ?vce2) rfl (by kernel_rfl) (by kernel_rfl) (by kernel_rfl) (by kernel_rfl) (fun _ _ _ h => h) (Or.inl ⟨by rfl, ?hyce2⟩) hHeld ?_
        case hyce2 => (intro wz hSw; (try dsimp only at hSw); go_simp; try with_reducible rfl)
        (try simp only [Act.put, List.setIfInBounds_toArray, List.set_cons_zero, List.set_cons_succ])
        refine WD_take (i := 3) (oi := { dst := some 51, op := Go.Op.binOp Go.BinOp.gtr 3 (Go.Operand.tmp 50) (Go.Operand.const (Go.Value.int Go.IntKind.i64 0)) 3, type := 4, pos := _, after := #[{ on := 2, ground := Go.Ground.data }], guard := none }) (v := ?vce3) rfl (by kernel_rfl) (by kernel_rfl) (by kernel_rfl) (by kernel_rfl) (fun _ _ _ h => h) (Or.inl ⟨by rfl, ?hyce3⟩) hHeld ?_
        case hyce3 => (intro wz hSw; (try dsimp only at hSw); go_simp; try with_reducible rfl)
        (try simp only [Act.put, List.setIfInBounds_toArray, List.set_cons_zero, List.set_cons_succ])
        refine WD_take (i := 4) (oi := { dst := some 52, op := Go.Op.move (Go.Operand.tmp 51), type := 4, pos := _, after := #[{ on := 3, ground := Go.Ground.data }, { on := 1, ground := Go.Ground.chain }], guard := none }) (v := ?vce4) rfl (by kernel_rfl) (by kernel_rfl) (by kernel_rfl) (by kernel_rfl) (fun _ _ _ h => h) (Or.inl ⟨by rfl, ?hyce4⟩) hHeld ?_
        case hyce4 => (intro wz hSw; (try dsimp only at hSw); go_simp; try with_reducible rfl)
        (try simp only [Act.put, List.setIfInBounds_toArray, List.set_cons_zero, List.set_cons_succ])
        refine WD_take (i := 5) (oi := { dst := some 53, op := Go.Op.load 27 (Go.Operand.tmp 4), type := 27, pos := _, after := #[{ on := 4, ground := Go.Ground.guard }], guard := some (4, false) }) (v := ?vce5) rfl (by kernel_rfl) (by kernel_rfl) (by kernel_rfl) (by kernel_rfl) (fun _ _ _ h => h) (Or.inl ⟨by rfl, ?hyce5⟩) hHeld ?_
        case hyce5 => (intro wz hSw; (try dsimp only at hSw); have zc := KU7.out _ hSw; have z0 := zc.1; have z1 := zc.2.1; have z2 := zc.2.2.1; have z3 := zc.2.2.2; clear zc; go_simp; try with_reducible rfl)
        (try simp only [Act.put, List.setIfInBounds_toArray, List.set_cons_zero, List.set_cons_succ])
        refine WD_ready (rs := [6]) (by kernel_rfl) (by simp) ?_
        refine AllD.cons (o := _) rfl (fun K hK => ?_) AllD.nil
        rw [if_pos (by rfl)]
        go_simp
        refine (VU.out _ hHeld).mono ?_; rintro e w_25 ⟨A_25, c_25, rfl, o_25, b_25⟩
        try go_wp2_with fail
        refine hK.out _ _ (bt hHeld b_25.out) (fun hHeld => ?_)
        clear hK K
        (try simp only [Act.put, List.setIfInBounds_toArray, List.set_cons_zero, List.set_cons_succ])
        clear b_25 o_25
        refine WD_take (i := 7) (oi := { dst := some 55, op := Go.Op.call { callee := Go.Callee.builtin Go.Builtin.len, args := #[Go.Operand.tmp 54], argTypes := #[38] }, type := 3, pos := _, after := #[{ on := 6, ground := Go.Ground.data }, { on := 4, ground := Go.Ground.guard }], guard := some (4, false) }) (v := ?vce7) rfl (by kernel_rfl) (by kernel_rfl) (by kernel_rfl) (by kernel_rfl) (fun _ _ _ h => h) (Or.inl ⟨by rfl, ?hyce7⟩) hHeld ?_
        case hyce7 => (intro wz hSw; (try dsimp only at hSw); go_simp; try with_reducible rfl)
        (try simp only [Act.put, List.setIfInBounds_toArray, List.set_cons_zero, List.set_cons_succ])
        refine WD_take (i := 8) (oi := { dst := some 56, op := Go.Op.binOp Go.BinOp.gtr 3 (Go.Operand.tmp 55) (Go.Operand.const (Go.Value.int Go.IntKind.i64 0)) 3, type := 4, pos := _, after := #[{ on := 7, ground := Go.Ground.data }, { on := 4, ground := Go.Ground.guard }], guard := some (4, false) }) (v := ?vce8) rfl (by kernel_rfl) (by kernel_rfl) (by kernel_rfl) (by kernel_rfl) (fun _ _ _ h => h) (Or.inl ⟨by rfl, ?hyce8⟩) hHeld ?_
        case hyce8 => (intro wz hSw; (try dsimp only at hSw); go_simp; try with_reducible rfl)
        (try simp only [Act.put, List.setIfInBounds_toArray, List.set_cons_zero, List.set_cons_succ])
        refine WD_take (i := 9) (oi := { dst := some 57, op := Go.Op.pick (Go.Operand.tmp 52) (Go.Operand.const (Go.Value.bool true)) (Go.Operand.tmp 56), type := 4, pos := _, after := #[{ on := 4, ground := Go.Ground.data }, { on := 8, ground := Go.Ground.data }], guard := none }) (v := ?vce9) rfl (by kernel_rfl) (by kernel_rfl) (by kernel_rfl) (by kernel_rfl) (fun _ _ _ h => h) (Or.inl ⟨by rfl, ?hyce9⟩) hHeld ?_
        case hyce9 => (intro wz hSw; (try dsimp only at hSw); go_simp; try with_reducible rfl)
        (try simp only [Act.put, List.setIfInBounds_toArray, List.set_cons_zero, List.set_cons_succ])
        refine WD_take (i := 10) (oi := { dst := some 58, op := Go.Op.move (Go.Operand.tmp 57), type := 4, pos := _, after := #[{ on := 9, ground := Go.Ground.data }, { on := 6, ground := Go.Ground.chain }], guard := none }) (v := ?vce10) rfl (by kernel_rfl) (by kernel_rfl) (by kernel_rfl) (by kernel_rfl) (fun _ _ _ h => h) (Or.inl ⟨by rfl, ?hyce10⟩) hHeld ?_
        case hyce10 => (intro wz hSw; (try dsimp only at hSw); go_simp; try with_reducible rfl)
        (try simp only [Act.put, List.setIfInBounds_toArray, List.set_cons_zero, List.set_cons_succ])
        refine WD_take (i := 11) (oi := { dst := some 59, op := Go.Op.load 27 (Go.Operand.tmp 3), type := 27, pos := _, after := #[{ on := 10, ground := Go.Ground.guard }], guard := some (10, false) }) (v := ?vce11) rfl (by kernel_rfl) (by kernel_rfl) (by kernel_rfl) (by kernel_rfl) (fun _ _ _ h => h) (Or.inl ⟨by rfl, ?hyce11⟩) hHeld ?_
        case hyce11 => (intro wz hSw; (try dsimp only at hSw); have zc := KT7.out _ hSw; have z0 := zc.1; have z1 := zc.2.1; have z2 := zc.2.2.1; have z3 := zc.2.2.2; clear zc; go_simp; try with_reducible rfl)
        (try simp only [Act.put, List.setIfInBounds_toArray, List.set_cons_zero, List.set_cons_succ])
        refine WD_take (i := 13) (oi := { dst := some 61, op := Go.Op.load 27 (Go.Operand.tmp 4), type := 27, pos := _, after := #[{ on := 10, ground := Go.Ground.guard }], guard := some (10, false) }) (v := ?vce13) rfl (by kernel_rfl) (by kernel_rfl) (by kernel_rfl) (by kernel_rfl) (fun _ _ _ h => h) (Or.inl ⟨by rfl, ?hyce13⟩) hHeld ?_
        case hyce13 => (intro wz hSw; (try dsimp only at hSw); have zc := KU7.out _ hSw; have z0 := zc.1; have z1 := zc.2.1; have z2 := zc.2.2.1; have z3 := zc.2.2.2; clear zc; go_simp; try with_reducible rfl)
        (try simp only [Act.put, List.setIfInBounds_toArray, List.set_cons_zero, List.set_cons_succ])
        refine WD_take (i := 16) (oi := { dst := some 64, op := Go.Op.load 27 (Go.Operand.tmp 3), type := 27, pos := _, after := #[{ on := 10, ground := Go.Ground.guard }], guard := some (10, false) }) (v := ?vce16) rfl (by kernel_rfl) (by kernel_rfl) (by kernel_rfl) (by kernel_rfl) (fun _ _ _ h => h) (Or.inl ⟨by rfl, ?hyce16⟩) hHeld ?_
        case hyce16 => (intro wz hSw; (try dsimp only at hSw); have zc := KT7.out _ hSw; have z0 := zc.1; have z1 := zc.2.1; have z2 := zc.2.2.1; have z3 := zc.2.2.2; clear zc; go_simp; try with_reducible rfl)
        (try simp only [Act.put, List.setIfInBounds_toArray, List.set_cons_zero, List.set_cons_succ])
        refine WD_take (i := 17) (oi := { dst := some 65, op := Go.Op.load 27 (Go.Operand.tmp 4), type := 27, pos := _, after := #[{ on := 10, ground := Go.Ground.guard }], guard := some (10, false) }) (v := ?vce17) rfl (by kernel_rfl) (by kernel_rfl) (by kernel_rfl) (by kernel_rfl) (fun _ _ _ h => h) (Or.inl ⟨by rfl, ?hyce17⟩) hHeld ?_
        case hyce17 => (intro wz hSw; (try dsimp only at hSw); have zc := KU7.out _ hSw; have z0 := zc.1; have z1 := zc.2.1; have z2 := zc.2.2.1; have z3 := zc.2.2.2; clear zc; go_simp; try with_reducible rfl)
        (try simp only [Act.put, List.setIfInBounds_toArray, List.set_cons_zero, List.set_cons_succ])
        refine WD_ready (rs := [12]) (by kernel_rfl) (by simp) ?_
        refine AllD.cons (o := _) rfl (fun K hK => ?_) AllD.nil
        rw [if_pos (by rfl)]
        go_simp
        refine (ST.out _ hHeld).mono ?_; rintro e w_26 ⟨rfl, b_26⟩
        try go_wp2_with fail
        refine hK.out _ _ (bt hHeld b_26) (fun hHeld => ?_)
        clear hK K
        (try simp only [Act.put, List.setIfInBounds_toArray, List.set_cons_zero, List.set_cons_succ])
        clear b_26
        refine WD_ready (rs := [14]) (by kernel_rfl) (by simp) ?_
        refine AllD.cons (o := _) rfl (fun K hK => ?_) AllD.nil
        rw [if_pos (by rfl)]
        go_simp
        refine (SU.out _ hHeld).mono ?_; rintro e w_27 ⟨rfl, b_27⟩
        try go_wp2_with fail
        refine hK.out _ _ (bt hHeld b_27) (fun hHeld => ?_)
        clear hK K
        (try simp only [Act.put, List.setIfInBounds_toArray, List.set_cons_zero, List.set_cons_succ])
        clear b_27
        refine WD_take (i := 15) (oi := { dst := some 63, op := Go.Op.binOp Go.BinOp.eql 9 (Go.Operand.tmp 60) (Go.Operand.tmp 62) 9, type := 4, pos := _, after := #[{ on := 12, ground := Go.Ground.data }, { on := 14, ground := Go.Ground.data }, { on := 10, ground := Go.Ground.guard }], guard := some (10, false) }) (v := ?vce15) rfl (by kernel_rfl) (by kernel_rfl) (by kernel_rfl) (by kernel_rfl) (fun _ _ _ h => h) (Or.inl ⟨by rfl, ?hyce15⟩) hHeld ?_
        case hyce15 => (intro wz hSw; (try dsimp only at hSw); go_simp; try with_reducible rfl)
        (try simp only [Act.put, List.setIfInBounds_toArray, List.set_cons_zero, List.set_cons_succ])
        refine WD_ready (rs := [18]) (by kernel_rfl) (by simp) ?_
        refine AllD.cons (o := _) rfl (fun K hK => ?_) AllD.nil
        rw [if_pos (by rfl)]
        go_simp
        refine (SMf.out _ hHeld).mono ?_; rintro e w_28 ⟨rfl, b_28⟩
        try go_wp2_with fail
        refine hK.out _ _ (bt hHeld b_28) (fun hHeld => ?_)
        clear hK K
        (try simp only [Act.put, List.setIfInBounds_toArray, List.set_cons_zero, List.set_cons_succ])
        clear b_28
        refine WD_take (i := 19) (oi := { dst := some 67, op := Go.Op.binOp Go.BinOp.eql 4 (Go.Operand.tmp 63) (Go.Operand.tmp 66) 4, type := 4, pos := _, after := #[{ on := 15, ground := Go.Ground.data }, { on := 18, ground := Go.Ground.data }, { on := 10, ground := Go.Ground.guard }], guard := some (10, false) }) (v := ?vce19) rfl (by kernel_rfl) (by kernel_rfl) (by kernel_rfl) (by kernel_rfl) (fun _ _ _ h => h) (Or.inl ⟨by rfl, ?hyce19⟩) hHeld ?_
        case hyce19 => (intro wz hSw; (try dsimp only at hSw); go_simp; try with_reducible rfl)
        (try simp only [Act.put, List.setIfInBounds_toArray, List.set_cons_zero, List.set_cons_succ])
        refine WD_take (i := 20) (oi := { dst := some 68, op := Go.Op.pick (Go.Operand.tmp 58) (Go.Operand.const (Go.Value.bool true)) (Go.Operand.tmp 67), type := 4, pos := _, after := #[{ on := 10, ground := Go.Ground.data }, { on := 19, ground := Go.Ground.data }], guard := none }) (v := ?vce20) rfl (by kernel_rfl) (by kernel_rfl) (by kernel_rfl) (by kernel_rfl) (fun _ _ _ h => h) (Or.inl ⟨by rfl, ?hyce20⟩) hHeld ?_
        case hyce20 => (intro wz hSw; (try dsimp only at hSw); go_simp; try with_reducible rfl)
        (try simp only [Act.put, List.setIfInBounds_toArray, List.set_cons_zero, List.set_cons_succ])
        refine WD_take (i := 21) (oi := { dst := some 69, op := Go.Op.move (Go.Operand.tmp 68), type := 4, pos := _, after := #[{ on := 20, ground := Go.Ground.data }, { on := 18, ground := Go.Ground.chain }], guard := none }) (v := ?vce21) rfl (by kernel_rfl) (by kernel_rfl) (by kernel_rfl) (by kernel_rfl) (fun _ _ _ h => h) (Or.inl ⟨by rfl, ?hyce21⟩) hHeld ?_
        case hyce21 => (intro wz hSw; (try dsimp only at hSw); go_simp; try with_reducible rfl)
        (try simp only [Act.put, List.setIfInBounds_toArray, List.set_cons_zero, List.set_cons_succ])
        refine WD_take (i := 22) (oi := { dst := some 70, op := Go.Op.load 27 (Go.Operand.tmp 3), type := 27, pos := _, after := #[{ on := 21, ground := Go.Ground.guard }], guard := some (21, false) }) (v := ?vce22) rfl (by kernel_rfl) (by kernel_rfl) (by kernel_rfl) (by kernel_rfl) (fun _ _ _ h => h) (Or.inl ⟨by rfl, ?hyce22⟩) hHeld ?_
        case hyce22 => (intro wz hSw; (try dsimp only at hSw); have zc := KT7.out _ hSw; have z0 := zc.1; have z1 := zc.2.1; have z2 := zc.2.2.1; have z3 := zc.2.2.2; clear zc; go_simp; try with_reducible rfl)
        (try simp only [Act.put, List.setIfInBounds_toArray, List.set_cons_zero, List.set_cons_succ])
        refine WD_ready (rs := [23]) (by kernel_rfl) (by simp) ?_
        refine AllD.cons (o := _) rfl (fun K hK => ?_) AllD.nil
        rw [if_pos (by rfl)]
        go_simp
        refine (OTx.out _ hHeld).mono ?_; rintro e w_8 ⟨rfl, b_8⟩
        try go_wp2_with fail
        refine hK.out _ _ (bt hHeld b_8) (fun hHeld => ?_)
        clear hK K
        (try simp only [Act.put, List.setIfInBounds_toArray, List.set_cons_zero, List.set_cons_succ])
        clear b_8
        refine WD_take (i := 24) (oi := { dst := some 72, op := Go.Op.pick (Go.Operand.tmp 69) (Go.Operand.const (Go.Value.bool true)) (Go.Operand.tmp 71), type := 4, pos := _, after := #[{ on := 21, ground := Go.Ground.data }, { on := 23, ground := Go.Ground.data }], guard := none }) (v := ?vce24) rfl (by kernel_rfl) (by kernel_rfl) (by kernel_rfl) (by kernel_rfl) (fun _ _ _ h => h) (Or.inl ⟨by rfl, ?hyce24⟩) hHeld ?_
        case hyce24 => (intro wz hSw; (try dsimp only at hSw); go_simp; try with_reducible rfl)
        (try simp only [Act.put, List.setIfInBounds_toArray, List.set_cons_zero, List.set_cons_succ])
        refine WD_take (i := 25) (oi := { dst := some 73, op := Go.Op.move (Go.Operand.tmp 72), type := 4, pos := _, after := #[{ on := 24, ground := Go.Ground.data }, { on := 23, ground := Go.Ground.chain }], guard := none }) (v := ?vce25) rfl (by kernel_rfl) (by kernel_rfl) (by kernel_rfl) (by kernel_rfl) (fun _ _ _ h => h) (Or.inl ⟨by rfl, ?hyce25⟩) hHeld ?_
        case hyce25 => (intro wz hSw; (try dsimp only at hSw); go_simp; try with_reducible rfl)
        (try simp only [Act.put, List.setIfInBounds_toArray, List.set_cons_zero, List.set_cons_succ])
        refine WD_take (i := 26) (oi := { dst := some 74, op := Go.Op.load 27 (Go.Operand.tmp 4), type := 27, pos := _, after := #[{ on := 25, ground := Go.Ground.guard }], guard := some (25, false) }) (v := ?vce26) rfl (by kernel_rfl) (by kernel_rfl) (by kernel_rfl) (by kernel_rfl) (fun _ _ _ h => h) (Or.inl ⟨by rfl, ?hyce26⟩) hHeld ?_
        case hyce26 => (intro wz hSw; (try dsimp only at hSw); have zc := KU7.out _ hSw; have z0 := zc.1; have z1 := zc.2.1; have z2 := zc.2.2.1; have z3 := zc.2.2.2; clear zc; go_simp; try with_reducible rfl)
        (try simp only [Act.put, List.setIfInBounds_toArray, List.set_cons_zero, List.set_cons_succ])
        have H27 := Lib.hid hHeld
        clear hHeld
        refine WD_ready (rs := [27]) (by kernel_rfl) (by simp) ?_
        refine AllD.last (o := _) rfl (by kernel_rfl) (fun K hK => ?_) AllD.nil
        rw [if_pos (by rfl)]
        go_simp
        refine (OUx.out _ H27.out).mono ?_; rintro e w9 ⟨rfl, b9⟩
        try go_wp2_with fail
        refine hK.out _ _ ?_
        clear hK K
        (try simp only [Act.put, List.setIfInBounds_toArray, List.set_cons_zero, List.set_cons_succ])
        refine WD_takeAny (i := 28) (oi := { dst := some 76, op := Go.Op.pick (Go.Operand.tmp 73) (Go.Operand.const (Go.Value.bool true)) (Go.Operand.tmp 75), type := 4, pos := _, after := #[{ on := 25, ground := Go.Ground.data }, { on := 27, ground := Go.Ground.data }], guard := none }) (v := ?vce28) rfl (by kernel_rfl) (by kernel_rfl) (by kernel_rfl) (by kernel_rfl) (fun _ _ _ h => h) (Or.inl ⟨by rfl, ?hyce28⟩) ?_
        case hyce28 => (intro wz _; go_simp; try with_reducible rfl)
        (try simp only [Act.put, List.setIfInBounds_toArray, List.set_cons_zero, List.set_cons_succ])
        refine WD_takeAny (i := 29) (oi := { dst := some 6, op := Go.Op.assign (Go.Operand.tmp 76), type := 4, pos := _, after := #[{ on := 28, ground := Go.Ground.data }, { on := 27, ground := Go.Ground.chain }, { on := 0, ground := Go.Ground.phase }, { on := 1, ground := Go.Ground.phase }, { on := 2, ground := Go.Ground.phase }, { on := 3, ground := Go.Ground.phase }, { on := 4, ground := Go.Ground.phase }, { on := 5, ground := Go.Ground.phase }, { on := 6, ground := Go.Ground.phase }, { on := 7, ground := Go.Ground.phase }, { on := 8, ground := Go.Ground.phase }, { on := 9, ground := Go.Ground.phase }, { on := 10, ground := Go.Ground.phase }, { on := 11, ground := Go.Ground.phase }, { on := 12, ground := Go.Ground.phase }, { on := 13, ground := Go.Ground.phase }, { on := 14, ground := Go.Ground.phase }, { on := 15, ground := Go.Ground.phase }, { on := 16, ground := Go.Ground.phase }, { on := 17, ground := Go.Ground.phase }, { on := 18, ground := Go.Ground.phase }, { on := 19, ground := Go.Ground.phase }, { on := 20, ground := Go.Ground.phase }, { on := 21, ground := Go.Ground.phase }, { on := 22, ground := Go.Ground.phase }, { on := 23, ground := Go.Ground.phase }, { on := 24, ground := Go.Ground.phase }, { on := 25, ground := Go.Ground.phase }, { on := 26, ground := Go.Ground.phase }, { on := 27, ground := Go.Ground.phase }, { on := 28, ground := Go.Ground.phase }], guard := none }) (v := ?vce29) rfl (by kernel_rfl) (by kernel_rfl) (by kernel_rfl) (by kernel_rfl) (fun _ _ _ h => h) (Or.inl ⟨by rfl, ?hyce29⟩) ?_
        case hyce29 => (intro wz _; go_simp; try with_reducible rfl)
        (try simp only [Act.put, List.setIfInBounds_toArray, List.set_cons_zero, List.set_cons_succ])
        refine WD_done (by kernel_rfl) ?_ _
        have HE := bt H27.out b9
        have FIN := Lib.hid (bt HB.out (bt B7.out HE))
        clear HE
        go_wp2
        go_ret
        exact ⟨rfl, FIN.out⟩
    have qse : (TV.toList == TU.toList) = false := beq_eq_false_iff_ne.2 (fun e => hse (toList_inj e))
    have qse2 : ¬ TV.toList = TU.toList := fun e => hse (toList_inj e)
    clear hVU hse
    refine wp_region_D [27] (fun w' => Below w7.heap.size w7 w') (by kernel_rfl) (bt B8.out (bdr _)) (fun hHeld => ?_)
    refine WD_take (i := 0) (oi := { dst := some 48, op := Go.Op.load 27 (Go.Operand.tmp 3), type := 27, pos := _, after := #[], guard := none }) (v := ?vcf0) rfl (by kernel_rfl) (by kernel_rfl) (by kernel_rfl) (by kernel_rfl) (fun _ _ _ h => h) (Or.inl ⟨by rfl, ?hycf0⟩) hHeld ?_
    case hycf0 => (intro wz hSw; (try dsimp only at hSw); have zc := KT7.out _ hSw; have z0 := zc.1; have z1 := zc.2.1; have z2 := zc.2.2.1; have z3 := zc.2.2.2; clear zc; go_simp; try with_reducible rfl)
    (try simp only [Act.put, List.setIfInBounds_toArray, List.set_cons_zero, List.set_cons_succ])
    refine WD_ready (rs := [1]) (by kernel_rfl) (by simp) ?_
    refine AllD.cons (o := _) rfl (fun K hK => ?_) AllD.nil
    rw [if_pos (by rfl)]
    go_simp
    refine (VT.out _ hHeld).mono ?_; rintro e w_29 ⟨A_29, c_29, rfl, o_29, b_29⟩
    try go_wp2_with fail
    refine hK.out _ _ (bt hHeld b_29.out) (fun hHeld => ?_)
    clear hK K
    (try simp only [Act.put, List.setIfInBounds_toArray, List.set_cons_zero, List.set_cons_succ])
    clear b_29 o_29
    refine WD_take (i := 2) (oi := { dst := some 50, op := Go.Op.call { callee := Go.Callee.builtin Go.Builtin.len, args := #[Go.Operand.tmp 49], argTypes := #[38] }, type := 3, pos := _, after := #[{ on := 1, ground := Go.Ground.data }], guard := none }) (v := ?vcf2) rfl (by kernel_rfl) (by kernel_rfl) (by kernel_rfl) (by kernel_rfl) (fun _ _ _ h => h) (Or.inl ⟨by rfl, ?hycf2⟩) hHeld ?_
    case hycf2 => (intro wz hSw; (try dsimp only at hSw); go_simp; try with_reducible rfl)
    (try simp only [Act.put, List.setIfInBounds_toArray, List.set_cons_zero, List.set_cons_succ])
    refine WD_take (i := 3) (oi := { dst := some 51, op := Go.Op.binOp Go.BinOp.gtr 3 (Go.Operand.tmp 50) (Go.Operand.const (Go.Value.int Go.IntKind.i64 0)) 3, type := 4, pos := _, after := #[{ on := 2, ground := Go.Ground.data }], guard := none }) (v := ?vcf3) rfl (by kernel_rfl) (by kernel_rfl) (by kernel_rfl) (by kernel_rfl) (fun _ _ _ h => h) (Or.inl ⟨by rfl, ?hycf3⟩) hHeld ?_
    case hycf3 => (intro wz hSw; (try dsimp only at hSw); go_simp; try with_reducible rfl)
    (try simp only [Act.put, List.setIfInBounds_toArray, List.set_cons_zero, List.set_cons_succ])
    refine WD_take (i := 4) (oi := { dst := some 52, op := Go.Op.move (Go.Operand.tmp 51), type := 4, pos := _, after := #[{ on := 3, ground := Go.Ground.data }, { on := 1, ground := Go.Ground.chain }], guard := none }) (v := ?vcf4) rfl (by kernel_rfl) (by kernel_rfl) (by kernel_rfl) (by kernel_rfl) (fun _ _ _ h => h) (Or.inl ⟨by rfl, ?hycf4⟩) hHeld ?_
    case hycf4 => (intro wz hSw; (try dsimp only at hSw); go_simp; try with_reducible rfl)
    (try simp only [Act.put, List.setIfInBounds_toArray, List.set_cons_zero, List.set_cons_succ])
    refine WD_take (i := 5) (oi := { dst := some 53, op := Go.Op.load 27 (Go.Operand.tmp 4), type := 27, pos := _, after := #[{ on := 4, ground := Go.Ground.guard }], guard := some (4, false) }) (v := ?vcf5) rfl (by kernel_rfl) (by kernel_rfl) (by kernel_rfl) (by kernel_rfl) (fun _ _ _ h => h) (Or.inl ⟨by rfl, ?hycf5⟩) hHeld ?_
    case hycf5 => (intro wz hSw; (try dsimp only at hSw); have zc := KU7.out _ hSw; have z0 := zc.1; have z1 := zc.2.1; have z2 := zc.2.2.1; have z3 := zc.2.2.2; clear zc; go_simp; try with_reducible rfl)
    (try simp only [Act.put, List.setIfInBounds_toArray, List.set_cons_zero, List.set_cons_succ])
    refine WD_ready (rs := [6]) (by kernel_rfl) (by simp) ?_
    refine AllD.cons (o := _) rfl (fun K hK => ?_) AllD.nil
    rw [if_pos (by rfl)]
    go_simp
    refine (VU.out _ hHeld).mono ?_; rintro e w_30 ⟨A_30, c_30, rfl, o_30, b_30⟩
    try go_wp2_with fail
    refine hK.out _ _ (bt hHeld b_30.out) (fun hHeld => ?_)
    clear hK K
    (try simp only [Act.put, List.setIfInBounds_toArray, List.set_cons_zero, List.set_cons_succ])
    clear b_30 o_30
    refine WD_take (i := 7) (oi := { dst := some 55, op := Go.Op.call { callee := Go.Callee.builtin Go.Builtin.len, args := #[Go.Operand.tmp 54], argTypes := #[38] }, type := 3, pos := _, after := #[{ on := 6, ground := Go.Ground.data }, { on := 4, ground := Go.Ground.guard }], guard := some (4, false) }) (v := ?vcf7) rfl (by kernel_rfl) (by kernel_rfl) (by kernel_rfl) (by kernel_rfl) (fun _ _ _ h => h) (Or.inl ⟨by rfl, ?hycf7⟩) hHeld ?_
    case hycf7 => (intro wz hSw; (try dsimp only at hSw); go_simp; try with_reducible rfl)
    (try simp only [Act.put, List.setIfInBounds_toArray, List.set_cons_zero, List.set_cons_succ])
    refine WD_take (i := 8) (oi := { dst := some 56, op := Go.Op.binOp Go.BinOp.gtr 3 (Go.Operand.tmp 55) (Go.Operand.const (Go.Value.int Go.IntKind.i64 0)) 3, type := 4, pos := _, after := #[{ on := 7, ground := Go.Ground.data }, { on := 4, ground := Go.Ground.guard }], guard := some (4, false) }) (v := ?vcf8) rfl (by kernel_rfl) (by kernel_rfl) (by kernel_rfl) (by kernel_rfl) (fun _ _ _ h => h) (Or.inl ⟨by rfl, ?hycf8⟩) hHeld ?_
    case hycf8 => (intro wz hSw; (try dsimp only at hSw); go_simp; try with_reducible rfl)
    (try simp only [Act.put, List.setIfInBounds_toArray, List.set_cons_zero, List.set_cons_succ])
    refine WD_take (i := 9) (oi := { dst := some 57, op := Go.Op.pick (Go.Operand.tmp 52) (Go.Operand.const (Go.Value.bool true)) (Go.Operand.tmp 56), type := 4, pos := _, after := #[{ on := 4, ground := Go.Ground.data }, { on := 8, ground := Go.Ground.data }], guard := none }) (v := ?vcf9) rfl (by kernel_rfl) (by kernel_rfl) (by kernel_rfl) (by kernel_rfl) (fun _ _ _ h => h) (Or.inl ⟨by rfl, ?hycf9⟩) hHeld ?_
    case hycf9 => (intro wz hSw; (try dsimp only at hSw); go_simp; try with_reducible rfl)
    (try simp only [Act.put, List.setIfInBounds_toArray, List.set_cons_zero, List.set_cons_succ])
    refine WD_take (i := 10) (oi := { dst := some 58, op := Go.Op.move (Go.Operand.tmp 57), type := 4, pos := _, after := #[{ on := 9, ground := Go.Ground.data }, { on := 6, ground := Go.Ground.chain }], guard := none }) (v := ?vcf10) rfl (by kernel_rfl) (by kernel_rfl) (by kernel_rfl) (by kernel_rfl) (fun _ _ _ h => h) (Or.inl ⟨by rfl, ?hycf10⟩) hHeld ?_
    case hycf10 => (intro wz hSw; (try dsimp only at hSw); go_simp; try with_reducible rfl)
    (try simp only [Act.put, List.setIfInBounds_toArray, List.set_cons_zero, List.set_cons_succ])
    refine WD_take (i := 11) (oi := { dst := some 59, op := Go.Op.load 27 (Go.Operand.tmp 3), type := 27, pos := _, after := #[{ on := 10, ground := Go.Ground.guard }], guard := some (10, false) }) (v := ?vcf11) rfl (by kernel_rfl) (by kernel_rfl) (by kernel_rfl) (by kernel_rfl) (fun _ _ _ h => h) (Or.inl ⟨by rfl, ?hycf11⟩) hHeld ?_
    case hycf11 => (intro wz hSw; (try dsimp only at hSw); have zc := KT7.out _ hSw; have z0 := zc.1; have z1 := zc.2.1; have z2 := zc.2.2.1; have z3 := zc.2.2.2; clear zc; go_simp; try with_reducible rfl)
    (try simp only [Act.put, List.setIfInBounds_toArray, List.set_cons_zero, List.set_cons_succ])
    refine WD_take (i := 13) (oi := { dst := some 61, op := Go.Op.load 27 (Go.Operand.tmp 4), type := 27, pos := _, after := #[{ on := 10, ground := Go.Ground.guard }], guard := some (10, false) }) (v := ?vcf13) rfl (by kernel_rfl) (by kernel_rfl) (by kernel_rfl) (by kernel_rfl) (fun _ _ _ h => h) (Or.inl ⟨by rfl, ?hycf13⟩) hHeld ?_
    case hycf13 => (intro wz hSw; (try dsimp only at hSw); have zc := KU7.out _ hSw; have z0 := zc.1; have z1 := zc.2.1; have z2 := zc.2.2.1; have z3 := zc.2.2.2; clear zc; go_simp; try with_reducible rfl)
    (try simp only [Act.put, List.setIfInBounds_toArray, List.set_cons_zero, List.set_cons_succ])
    refine WD_take (i := 16) (oi := { dst := some 64, op := Go.Op.load 27 (Go.Operand.tmp 3), type := 27, pos := _, after := #[{ on := 10, ground := Go.Ground.guard }], guard := some (10, false) }) (v := ?vcf16) rfl (by kernel_rfl) (by kernel_rfl) (by kernel_rfl) (by kernel_rfl) (fun _ _ _ h => h) (Or.inl ⟨by rfl, ?hycf16⟩) hHeld ?_
    case hycf16 => (intro wz hSw; (try dsimp only at hSw); have zc := KT7.out _ hSw; have z0 := zc.1; have z1 := zc.2.1; have z2 := zc.2.2.1; have z3 := zc.2.2.2; clear zc; go_simp; try with_reducible rfl)
    (try simp only [Act.put, List.setIfInBounds_toArray, List.set_cons_zero, List.set_cons_succ])
    refine WD_take (i := 17) (oi := { dst := some 65, op := Go.Op.load 27 (Go.Operand.tmp 4), type := 27, pos := _, after := #[{ on := 10, ground := Go.Ground.guard }], guard := some (10, false) }) (v := ?vcf17) rfl (by kernel_rfl) (by kernel_rfl) (by kernel_rfl) (by kernel_rfl) (fun _ _ _ h => h) (Or.inl ⟨by rfl, ?hycf17⟩) hHeld ?_
    case hycf17 => (intro wz hSw; (try dsimp only at hSw); have zc := KU7.out _ hSw; have z0 := zc.1; have z1 := zc.2.1; have z2 := zc.2.2.1; have z3 := zc.2.2.2; clear zc; go_simp; try with_reducible rfl)
    (try simp only [Act.put, List.setIfInBounds_toArray, List.set_cons_zero, List.set_cons_succ])
    refine WD_ready (rs := [12]) (by kernel_rfl) (by simp) ?_
    refine AllD.cons (o := _) rfl (fun K hK => ?_) AllD.nil
    rw [if_pos (by rfl)]
    go_simp
    refine (ST.out _ hHeld).mono ?_; rintro e w_31 ⟨rfl, b_31⟩
    try go_wp2_with fail
    refine hK.out _ _ (bt hHeld b_31) (fun hHeld => ?_)
    clear hK K
    (try simp only [Act.put, List.setIfInBounds_toArray, List.set_cons_zero, List.set_cons_succ])
    clear b_31
    refine WD_ready (rs := [14]) (by kernel_rfl) (by simp) ?_
    refine AllD.cons (o := _) rfl (fun K hK => ?_) AllD.nil
    rw [if_pos (by rfl)]
    go_simp
    refine (SU.out _ hHeld).mono ?_; rintro e w_32 ⟨rfl, b_32⟩
    try go_wp2_with fail
    refine hK.out _ _ (bt hHeld b_32) (fun hHeld => ?_)
    clear hK K
    (try simp only [Act.put, List.setIfInBounds_toArray, List.set_cons_zero, List.set_cons_succ])
    clear b_32
    refine WD_take (i := 15) (oi := { dst := some 63, op := Go.Op.binOp Go.BinOp.eql 9 (Go.Operand.tmp 60) (Go.Operand.tmp 62) 9, type := 4, pos := _, after := #[{ on := 12, ground := Go.Ground.data }, { on := 14, ground := Go.Ground.data }, { on := 10, ground := Go.Ground.guard }], guard := some (10, false) }) (v := ?vcf15) rfl (by kernel_rfl) (by kernel_rfl) (by kernel_rfl) (by kernel_rfl) (fun _ _ _ h => h) (Or.inl ⟨by rfl, ?hycf15⟩) hHeld ?_
    case hycf15 => (intro wz hSw; (try dsimp only at hSw); go_simp; try with_reducible rfl)
    (try simp only [Act.put, List.setIfInBounds_toArray, List.set_cons_zero, List.set_cons_succ])
    refine WD_ready (rs := [18]) (by kernel_rfl) (by simp) ?_
    refine AllD.cons (o := _) rfl (fun K hK => ?_) AllD.nil
    rw [if_pos (by rfl)]
    go_simp
    refine (SMf.out _ hHeld).mono ?_; rintro e w_33 ⟨rfl, b_33⟩
    try go_wp2_with fail
    refine hK.out _ _ (bt hHeld b_33) (fun hHeld => ?_)
    clear hK K
    (try simp only [Act.put, List.setIfInBounds_toArray, List.set_cons_zero, List.set_cons_succ])
    clear b_33
    refine WD_take (i := 19) (oi := { dst := some 67, op := Go.Op.binOp Go.BinOp.eql 4 (Go.Operand.tmp 63) (Go.Operand.tmp 66) 4, type := 4, pos := _, after := #[{ on := 15, ground := Go.Ground.data }, { on := 18, ground := Go.Ground.data }, { on := 10, ground := Go.Ground.guard }], guard := some (10, false) }) (v := ?vcf19) rfl (by kernel_rfl) (by kernel_rfl) (by kernel_rfl) (by kernel_rfl) (fun _ _ _ h => h) (Or.inl ⟨by rfl, ?hycf19⟩) hHeld ?_
    case hycf19 => (intro wz hSw; (try dsimp only at hSw); go_simp; try with_reducible rfl)
    (try simp only [Act.put, List.setIfInBounds_toArray, List.set_cons_zero, List.set_cons_succ])
    refine WD_take (i := 20) (oi := { dst := some 68, op := Go.Op.pick (Go.Operand.tmp 58) (Go.Operand.const (Go.Value.bool true)) (Go.Operand.tmp 67), type := 4, pos := _, after := #[{ on := 10, ground := Go.Ground.data }, { on := 19, ground := Go.Ground.data }], guard := none }) (v := ?vcf20) rfl (by kernel_rfl) (by kernel_rfl) (by kernel_rfl) (by kernel_rfl) (fun _ _ _ h => h) (Or.inl ⟨by rfl, ?hycf20⟩) hHeld ?_
    case hycf20 => (intro wz hSw; (try dsimp only at hSw); go_simp; try with_reducible rfl)
    (try simp only [Act.put, List.setIfInBounds_toArray, List.set_cons_zero, List.set_cons_succ])
    refine WD_take (i := 21) (oi := { dst := some 69, op := Go.Op.move (Go.Operand.tmp 68), type := 4, pos := _, after := #[{ on := 20, ground := Go.Ground.data }, { on := 18, ground := Go.Ground.chain }], guard := none }) (v := ?vcf21) rfl (by kernel_rfl) (by kernel_rfl) (by kernel_rfl) (by kernel_rfl) (fun _ _ _ h => h) (Or.inl ⟨by rfl, ?hycf21⟩) hHeld ?_
    case hycf21 => (intro wz hSw; (try dsimp only at hSw); go_simp; try with_reducible rfl)
    (try simp only [Act.put, List.setIfInBounds_toArray, List.set_cons_zero, List.set_cons_succ])
    refine WD_take (i := 22) (oi := { dst := some 70, op := Go.Op.load 27 (Go.Operand.tmp 3), type := 27, pos := _, after := #[{ on := 21, ground := Go.Ground.guard }], guard := some (21, false) }) (v := undef) rfl (by kernel_rfl) (by kernel_rfl) (by kernel_rfl) (by kernel_rfl) (fun _ _ _ h => h) (Or.inr ⟨by rfl, rfl⟩) hHeld ?_
    (try simp only [Act.put, List.setIfInBounds_toArray, List.set_cons_zero, List.set_cons_succ])
    refine WD_ready (rs := [23]) (by kernel_rfl) (by simp) ?_
    refine AllD.cons (o := { dst := some 71, op := Go.Op.call { callee := Go.Callee.value (Go.Operand.func 33), args := #[Go.Operand.tmp 70], argTypes := #[27] }, type := 4, pos := _, after := #[{ on := 22, ground := Go.Ground.data }, { on := 21, ground := Go.Ground.chain }, { on := 21, ground := Go.Ground.guard }], guard := some (21, false) }) rfl (fun K hK => ?_) AllD.nil
    rw [if_neg (fun h => nomatch h)]
    refine hK.out _ _ hHeld (fun hHeld => ?_)
    clear hK K
    (try simp only [Act.put, List.setIfInBounds_toArray, List.set_cons_zero, List.set_cons_succ])
    refine WD_take (i := 24) (oi := { dst := some 72, op := Go.Op.pick (Go.Operand.tmp 69) (Go.Operand.const (Go.Value.bool true)) (Go.Operand.tmp 71), type := 4, pos := _, after := #[{ on := 21, ground := Go.Ground.data }, { on := 23, ground := Go.Ground.data }], guard := none }) (v := ?vcf24) rfl (by kernel_rfl) (by kernel_rfl) (by kernel_rfl) (by kernel_rfl) (fun _ _ _ h => h) (Or.inl ⟨by rfl, ?hycf24⟩) hHeld ?_
    case hycf24 => (intro wz hSw; (try dsimp only at hSw); go_simp; try with_reducible rfl)
    (try simp only [Act.put, List.setIfInBounds_toArray, List.set_cons_zero, List.set_cons_succ])
    refine WD_take (i := 25) (oi := { dst := some 73, op := Go.Op.move (Go.Operand.tmp 72), type := 4, pos := _, after := #[{ on := 24, ground := Go.Ground.data }, { on := 23, ground := Go.Ground.chain }], guard := none }) (v := ?vcf25) rfl (by kernel_rfl) (by kernel_rfl) (by kernel_rfl) (by kernel_rfl) (fun _ _ _ h => h) (Or.inl ⟨by rfl, ?hycf25⟩) hHeld ?_
    case hycf25 => (intro wz hSw; (try dsimp only at hSw); go_simp; try with_reducible rfl)
    (try simp only [Act.put, List.setIfInBounds_toArray, List.set_cons_zero, List.set_cons_succ])
    refine WD_take (i := 26) (oi := { dst := some 74, op := Go.Op.load 27 (Go.Operand.tmp 4), type := 27, pos := _, after := #[{ on := 25, ground := Go.Ground.guard }], guard := some (25, false) }) (v := undef) rfl (by kernel_rfl) (by kernel_rfl) (by kernel_rfl) (by kernel_rfl) (fun _ _ _ h => h) (Or.inr ⟨by rfl, rfl⟩) hHeld ?_
    (try simp only [Act.put, List.setIfInBounds_toArray, List.set_cons_zero, List.set_cons_succ])
    have H27 := Lib.hid hHeld
    refine WD_ready (rs := [27]) (by kernel_rfl) (by simp) ?_
    refine AllD.last (o := { dst := some 75, op := Go.Op.call { callee := Go.Callee.value (Go.Operand.func 33), args := #[Go.Operand.tmp 74], argTypes := #[27] }, type := 4, pos := _, after := #[{ on := 26, ground := Go.Ground.data }, { on := 25, ground := Go.Ground.chain }, { on := 25, ground := Go.Ground.guard }], guard := some (25, false) }) rfl (by kernel_rfl) (fun K hK => ?_) AllD.nil
    rw [if_neg (fun h => nomatch h)]
    refine hK.out _ _ ?_
    clear hK K
    (try simp only [Act.put, List.setIfInBounds_toArray, List.set_cons_zero, List.set_cons_succ])
    refine WD_takeAny (i := 28) (oi := { dst := some 76, op := Go.Op.pick (Go.Operand.tmp 73) (Go.Operand.const (Go.Value.bool true)) (Go.Operand.tmp 75), type := 4, pos := _, after := #[{ on := 25, ground := Go.Ground.data }, { on := 27, ground := Go.Ground.data }], guard := none }) (v := ?vcf28) rfl (by kernel_rfl) (by kernel_rfl) (by kernel_rfl) (by kernel_rfl) (fun _ _ _ h => h) (Or.inl ⟨by rfl, ?hycf28⟩) ?_
    case hycf28 => (intro wz _; go_simp; try with_reducible rfl)
    (try simp only [Act.put, List.setIfInBounds_toArray, List.set_cons_zero, List.set_cons_succ])
    refine WD_takeAny (i := 29) (oi := { dst := some 6, op := Go.Op.assign (Go.Operand.tmp 76), type := 4, pos := _, after := #[{ on := 28, ground := Go.Ground.data }, { on := 27, ground := Go.Ground.chain }, { on := 0, ground := Go.Ground.phase }, { on := 1, ground := Go.Ground.phase }, { on := 2, ground := Go.Ground.phase }, { on := 3, ground := Go.Ground.phase }, { on := 4, ground := Go.Ground.phase }, { on := 5, ground := Go.Ground.phase }, { on := 6, ground := Go.Ground.phase }, { on := 7, ground := Go.Ground.phase }, { on := 8, ground := Go.Ground.phase }, { on := 9, ground := Go.Ground.phase }, { on := 10, ground := Go.Ground.phase }, { on := 11, ground := Go.Ground.phase }, { on := 12, ground := Go.Ground.phase }, { on := 13, ground := Go.Ground.phase }, { on := 14, ground := Go.Ground.phase }, { on := 15, ground := Go.Ground.phase }, { on := 16, ground := Go.Ground.phase }, { on := 17, ground := Go.Ground.phase }, { on := 18, ground := Go.Ground.phase }, { on := 19, ground := Go.Ground.phase }, { on := 20, ground := Go.Ground.phase }, { on := 21, ground := Go.Ground.phase }, { on := 22, ground := Go.Ground.phase }, { on := 23, ground := Go.Ground.phase }, { on := 24, ground := Go.Ground.phase }, { on := 25, ground := Go.Ground.phase }, { on := 26, ground := Go.Ground.phase }, { on := 27, ground := Go.Ground.phase }, { on := 28, ground := Go.Ground.phase }], guard := none }) (v := ?vcf29) rfl (by kernel_rfl) (by kernel_rfl) (by kernel_rfl) (by kernel_rfl) (fun _ _ _ h => h) (Or.inl ⟨by rfl, ?hycf29⟩) ?_
    case hycf29 => (intro wz _; go_simp; try with_reducible rfl)
    (try simp only [Act.put, List.setIfInBounds_toArray, List.set_cons_zero, List.set_cons_succ])
    refine WD_done (by kernel_rfl) ?_ _
    have HE := H27.out
    have FIN := Lib.hid (bt HB.out (bt B7.out HE))
    clear HE
    go_wp2
    go_ret
    exact ⟨rfl, FIN.out⟩

  | true =>
    have hshx : shp X = true := by have q := hgx; unfold goodT at q; rw [Bool.and_eq_true] at q; exact q.2
    have SXG := Lib.hid (fun W (hW : Below w7.heap.size w7 W) => SX.out W hW hshx)
    rw [hgx] at GX
    clear hgx hshx
    refine wp_region_D [6] (fun w' => Below w7.heap.size w7 w') (by kernel_rfl) (bdr w7) (fun hHeld => ?_)
    refine WD_take (i := 0) (oi := { dst := some 39, op := Go.Op.load 27 (Go.Operand.tmp 7), type := 27, pos := _, after := #[], guard := none }) (v := ?vb0) rfl (by kernel_rfl) (by kernel_rfl) (by kernel_rfl) (by kernel_rfl) (fun _ _ _ h => h) (Or.inl ⟨by rfl, ?hyb0⟩) hHeld ?_
    case hyb0 => (intro wz hSw; (try dsimp only at hSw); have zc := KX.out _ hSw; have z0 := zc.1; have z1 := zc.2.1; have z2 := zc.2.2.1; have z3 := zc.2.2.2; clear zc; go_simp; try with_reducible rfl)
    (try simp only [Act.put, List.setIfInBounds_toArray, List.set_cons_zero, List.set_cons_succ])
    refine WD_ready (rs := [1]) (by kernel_rfl) (by simp) ?_
    refine AllD.cons (o := _) rfl (fun K hK => ?_) AllD.nil
    rw [if_pos (by rfl)]
    go_simp
    refine (GX.out _ hHeld).mono ?_; rintro e w_2 ⟨rfl, b_2⟩
    try go_wp2_with fail
    refine hK.out _ _ (bt hHeld b_2) (fun hHeld => ?_)
    clear hK K
    (try simp only [Act.put, List.setIfInBounds_toArray, List.set_cons_zero, List.set_cons_succ])
    clear b_2
    refine WD_take (i := 2) (oi := { dst := some 41, op := Go.Op.move (Go.Operand.tmp 40), type := 4, pos := _, after := #[{ on := 1, ground := Go.Ground.data }, { on := 1, ground := Go.Ground.chain }], guard := none }) (v := ?vb2) rfl (by kernel_rfl) (by kernel_rfl) (by kernel_rfl) (by kernel_rfl) (fun _ _ _ h => h) (Or.inl ⟨by rfl, ?hyb2⟩) hHeld ?_
    case hyb2 => (intro wz hSw; (try dsimp only at hSw); go_simp; try with_reducible rfl)
    (try simp only [Act.put, List.setIfInBounds_toArray, List.set_cons_zero, List.set_cons_succ])
    refine WD_take (i := 3) (oi := { dst := some 42, op := Go.Op.load 27 (Go.Operand.tmp 7), type := 27, pos := _, after := #[{ on := 2, ground := Go.Ground.guard }], guard := some (2, true) }) (v := ?vb3) rfl (by kernel_rfl) (by kernel_rfl) (by kernel_rfl) (by kernel_rfl) (fun _ _ _ h => h) (Or.inl ⟨by rfl, ?hyb3⟩) hHeld ?_
    case hyb3 => (intro wz hSw; (try dsimp only at hSw); have zc := KX.out _ hSw; have z0 := zc.1; have z1 := zc.2.1; have z2 := zc.2.2.1; have z3 := zc.2.2.2; clear zc; go_simp; try with_reducible rfl)
    (try simp only [Act.put, List.setIfInBounds_toArray, List.set_cons_zero, List.set_cons_succ])
    refine WD_take (i := 5) (oi := { dst := some 44, op := Go.Op.load 27 (Go.Operand.tmp 3), type := 27, pos := _, after := #[{ on := 2, ground := Go.Ground.guard }], guard := some (2, true) }) (v := ?vb5) rfl (by kernel_rfl) (by kernel_rfl) (by kernel_rfl) (by kernel_rfl) (fun _ _ _ h => h) (Or.inl ⟨by rfl, ?hyb5⟩) hHeld ?_
    case hyb5 => (intro wz hSw; (try dsimp only at hSw); have zc := KT7.out _ hSw; have z0 := zc.1; have z1 := zc.2.1; have z2 := zc.2.2.1; have z3 := zc.2.2.2; clear zc; go_simp; try with_reducible rfl)
    (try simp only [Act.put, List.setIfInBounds_toArray, List.set_cons_zero, List.set_cons_succ])
    refine WD_ready (rs := [4]) (by kernel_rfl) (by simp) ?_
    refine AllD.cons (o := _) rfl (fun K hK => ?_) AllD.nil
    rw [if_pos (by rfl)]
    go_simp
    refine (SXG.out _ hHeld).mono ?_; rintro e w_3 ⟨rfl, b_3⟩
    try go_wp2_with fail
    refine hK.out _ _ (bt hHeld b_3) (fun hHeld => ?_)
    clear hK K
    (try simp only [Act.put, List.setIfInBounds_toArray, List.set_cons_zero, List.set_cons_succ])
    clear b_3
    have H6 := Lib.hid hHeld
    refine WD_ready (rs := [6]) (by kernel_rfl) (by simp) ?_
    refine AllD.last (o := _) rfl (by kernel_rfl) (fun K hK => ?_) AllD.nil
    rw [if_pos (by rfl)]
    go_simp
    refine (ST.out _ H6.out).mono ?_; rintro e w8 ⟨rfl, b8⟩
    try go_wp2_with fail
    refine hK.out _ _ ?_
    clear hK K
    (try simp only [Act.put, List.setIfInBounds_toArray, List.set_cons_zero, List.set_cons_succ])
    refine WD_takeAny (i := 7) (oi := { dst := some 46, op := Go.Op.binOp Go.BinOp.neq 9 (Go.Operand.tmp 43) (Go.Operand.tmp 45) 9, type := 4, pos := _, after := #[{ on := 4, ground := Go.Ground.data }, { on := 6, ground := Go.Ground.data }, { on := 2, ground := Go.Ground.guard }], guard := some (2, true) }) (v := ?vb7) rfl (by kernel_rfl) (by kernel_rfl) (by kernel_rfl) (by kernel_rfl) (fun _ _ _ h => h) (Or.inl ⟨by rfl, ?hyb7⟩) ?_
    case hyb7 => (intro wz _; go_simp; try with_reducible rfl)
    (try simp only [Act.put, List.setIfInBounds_toArray, List.set_cons_zero, List.set_cons_succ])
    refine WD_takeAny (i := 8) (oi := { dst := some 47, op := Go.Op.pick (Go.Operand.tmp 41) (Go.Operand.tmp 46) (Go.Operand.const (Go.Value.bool false)), type := 4, pos := _, after := #[{ on := 2, ground := Go.Ground.data }, { on := 7, ground := Go.Ground.data }], guard := none }) (v := ?vb8) rfl (by kernel_rfl) (by kernel_rfl) (by kernel_rfl) (by kernel_rfl) (fun _ _ _ h => h) (Or.inl ⟨by rfl, ?hyb8⟩) ?_
    case hyb8 => (intro wz _; go_simp; try with_reducible rfl)
    (try simp only [Act.put, List.setIfInBounds_toArray, List.set_cons_zero, List.set_cons_succ])
    refine WD_done (by kernel_rfl) ?_ _
    have B8 := Lib.hid (bt H6.out b8)
    clear H6 b8
    go_wp2_with fail
    by_cases hnv : 0 < NV
    · have dnN : decide (0 < NV) = true := decide_eq_true hnv
      clear hnv
      refine wp_region_D [27] (fun w' => Below w7.heap.size w7 w') (by kernel_rfl) (bt B8.out (bdr _)) (fun hHeld => ?_)
      refine WD_take (i := 0) (oi := { dst := some 48, op := Go.Op.load 27 (Go.Operand.tmp 3), type := 27, pos := _, after := #[], guard := none }) (v := ?vda0) rfl (by kernel_rfl) (by kernel_rfl) (by kernel_rfl) (by kernel_rfl) (fun _ _ _ h => h) (Or.inl ⟨by rfl, ?hyda0⟩) hHeld ?_
      case hyda0 => (intro wz hSw; (try dsimp only at hSw); have zc := KT7.out _ hSw; have z0 := zc.1; have z1 := zc.2.1; have z2 := zc.2.2.1; have z3 := zc.2.2.2; clear zc; go_simp; try with_reducible rfl)
      (try simp only [Act.put, List.setIfInBounds_toArray, List.set_cons_zero, List.set_cons_succ])
      refine WD_ready (rs := [1]) (by kernel_rfl) (by simp) ?_
      refine AllD.cons (o := _) rfl (fun K hK => ?_) AllD.nil
      rw [if_pos (by rfl)]
      go_simp
      refine (VT.out _ hHeld).mono ?_; rintro e w_34 ⟨A_34, c_34, rfl, o_34, b_34⟩
      try go_wp2_with fail
      refine hK.out _ _ (bt hHeld b_34.out) (fun hHeld => ?_)
      clear hK K
      (try simp only [Act.put, List.setIfInBounds_toArray, List.set_cons_zero, List.set_cons_succ])
      clear b_34 o_34
      refine WD_take (i := 2) (oi := { dst := some 50, op := Go.Op.call { callee := Go.Callee.builtin Go.Builtin.len, args := #[Go.Operand.tmp 49], argTypes := #[38] }, type := 3, pos := _, after := #[{ on := 1, ground := Go.Ground.data }], guard := none }) (v := ?vda2) rfl (by kernel_rfl) (by kernel_rfl) (by kernel_rfl) (by kernel_rfl) (fun _ _ _ h => h) (Or.inl ⟨by rfl, ?hyda2⟩) hHeld ?_
      case hyda2 => (intro wz hSw; (try dsimp only at hSw); go_simp; try with_reducible rfl)
      (try simp only [Act.put, List.setIfInBounds_toArray, List.set_cons_zero, List.set_cons_succ])
      refine WD_take (i := 3) (oi := { dst := some 51, op := Go.Op.binOp Go.BinOp.gtr 3 (Go.Operand.tmp 50) (Go.Operand.const (Go.Value.int Go.IntKind.i64 0)) 3, type := 4, pos := _, after := #[{ on := 2, ground := Go.Ground.data }], guard := none }) (v := ?vda3) rfl (by kernel_rfl) (by kernel_rfl) (by kernel_rfl) (by kernel_rfl) (fun _ _ _ h => h) (Or.inl ⟨by rfl, ?hyda3⟩) hHeld ?_
      case hyda3 => (intro wz hSw; (try dsimp only at hSw); go_simp; try with_reducible rfl)
      (try simp only [Act.put, List.setIfInBounds_toArray, List.set_cons_zero, List.set_cons_succ])
      refine WD_take (i := 4) (oi := { dst := some 52, op := Go.Op.move (Go.Operand.tmp 51), type := 4, pos := _, after := #[{ on := 3, ground := Go.Ground.data }, { on := 1, ground := Go.Ground.chain }], guard := none }) (v := ?vda4) rfl (by kernel_rfl) (by kernel_rfl) (by kernel_rfl) (by kernel_rfl) (fun _ _ _ h => h) (Or.inl ⟨by rfl, ?hyda4⟩) hHeld ?_
      case hyda4 => (intro wz hSw; (try dsimp only at hSw); go_simp; try with_reducible rfl)
      (try simp only [Act.put, List.setIfInBounds_toArray, List.set_cons_zero, List.set_cons_succ])
      refine WD_take (i := 5) (oi := { dst := some 53, op := Go.Op.load 27 (Go.Operand.tmp 4), type := 27, pos := _, after := #[{ on := 4, ground := Go.Ground.guard }], guard := some (4, false) }) (v := undef) rfl (by kernel_rfl) (by kernel_rfl) (by kernel_rfl) (by kernel_rfl) (fun _ _ _ h => h) (Or.inr ⟨by rfl, rfl⟩) hHeld ?_
      (try simp only [Act.put, List.setIfInBounds_toArray, List.set_cons_zero, List.set_cons_succ])
      refine WD_ready (rs := [6]) (by kernel_rfl) (by simp) ?_
      refine AllD.cons (o := { dst := some 54, op := Go.Op.call { callee := Go.Callee.value (Go.Operand.func 21), args := #[Go.Operand.tmp 53], argTypes := #[27] }, type := 38, pos := _, after := #[{ on := 5, ground := Go.Ground.data }, { on := 4, ground := Go.Ground.chain }, { on := 4, ground := Go.Ground.guard }], guard := some (4, false) }) rfl (fun K hK => ?_) AllD.nil
      rw [if_neg (fun h => nomatch h)]
      refine hK.out _ _ hHeld (fun hHeld => ?_)
      clear hK K
      (try simp only [Act.put, List.setIfInBounds_toArray, List.set_cons_zero, List.set_cons_succ])
      refine WD_take (i := 7) (oi := { dst := some 55, op := Go.Op.call { callee := Go.Callee.builtin Go.Builtin.len, args := #[Go.Operand.tmp 54], argTypes := #[38] }, type := 3, pos := _, after := #[{ on := 6, ground := Go.Ground.data }, { on := 4, ground := Go.Ground.guard }], guard := some (4, false) }) (v := undef) rfl (by kernel_rfl) (by kernel_rfl) (by kernel_rfl) (by kernel_rfl) (fun _ _ _ h => h) (Or.inr ⟨by rfl, rfl⟩) hHeld ?_
      (try simp only [Act.put, List.setIfInBounds_toArray, List.set_cons_zero, List.set_cons_succ])
      refine WD_take (i := 8) (oi := { dst := some 56, op := Go.Op.binOp Go.BinOp.gtr 3 (Go.Operand.tmp 55) (Go.Operand.const (Go.Value.int Go.IntKind.i64 0)) 3, type := 4, pos := _, after := #[{ on := 7, ground := Go.Ground.data }, { on := 4, ground := Go.Ground.guard }], guard := some (4, false) }) (v := undef) rfl (by kernel_rfl) (by kernel_rfl) (by kernel_rfl) (by kernel_rfl) (fun _ _ _ h => h) (Or.inr ⟨by rfl, rfl⟩) hHeld ?_
      (try simp only [Act.put, List.setIfInBounds_toArray, List.set_cons_zero, List.set_cons_succ])
      refine WD_take (i := 9) (oi := { dst := some 57, op := Go.Op.pick (Go.Operand.tmp 52) (Go.Operand.const (Go.Value.bool true)) (Go.Operand.tmp 56), type := 4, pos := _, after := #[{ on := 4, ground := Go.Ground.data }, { on := 8, ground := Go.Ground.data }], guard := none }) (v := ?vda9) rfl (by kernel_rfl) (by kernel_rfl) (by kernel_rfl) (by kernel_rfl) (fun _ _ _ h => h) (Or.inl ⟨by rfl, ?hyda9⟩) hHeld ?_
      case hyda9 => (intro wz hSw; (try dsimp only at hSw); go_simp; try with_reducible rfl)
      (try simp only [Act.put, List.setIfInBounds_toArray, List.set_cons_zero, List.set_cons_succ])
      refine WD_take (i := 10) (oi := { dst := some 58, op := Go.Op.move (Go.Operand.tmp 57), type := 4, pos := _, after := #[{ on := 9, ground := Go.Ground.data }, { on := 6, ground := Go.Ground.chain }], guard := none }) (v := ?vda10) rfl (by kernel_rfl) (by kernel_rfl) (by kernel_rfl) (by kernel_rfl) (fun _ _ _ h => h) (Or.inl ⟨by rfl, ?hyda10⟩) hHeld ?_
      case hyda10 => (intro wz hSw; (try dsimp only at hSw); go_simp; try with_reducible rfl)
      (try simp only [Act.put, List.setIfInBounds_toArray, List.set_cons_zero, List.set_cons_succ])
      refine WD_take (i := 11) (oi := { dst := some 59, op := Go.Op.load 27 (Go.Operand.tmp 3), type := 27, pos := _, after := #[{ on := 10, ground := Go.Ground.guard }], guard := some (10, false) }) (v := undef) rfl (by kernel_rfl) (by kernel_rfl) (by kernel_rfl) (by kernel_rfl) (fun _ _ _ h => h) (Or.inr ⟨by rfl, rfl⟩) hHeld ?_
      (try simp only [Act.put, List.setIfInBounds_toArray, List.set_cons_zero, List.set_cons_succ])
      refine WD_take (i := 13) (oi := { dst := some 61, op := Go.Op.load 27 (Go.Operand.tmp 4), type := 27, pos := _, after := #[{ on := 10, ground := Go.Ground.guard }], guard := some (10, false) }) (v := undef) rfl (by kernel_rfl) (by kernel_rfl) (by kernel_rfl) (by kernel_rfl) (fun _ _ _ h => h) (Or.inr ⟨by rfl, rfl⟩) hHeld ?_
      (try simp only [Act.put, List.setIfInBounds_toArray, List.set_cons_zero, List.set_cons_succ])
      refine WD_take (i := 16) (oi := { dst := some 64, op := Go.Op.load 27 (Go.Operand.tmp 3), type := 27, pos := _, after := #[{ on := 10, ground := Go.Ground.guard }], guard := some (10, false) }) (v := undef) rfl (by kernel_rfl) (by kernel_rfl) (by kernel_rfl) (by kernel_rfl) (fun _ _ _ h => h) (Or.inr ⟨by rfl, rfl⟩) hHeld ?_
      (try simp only [Act.put, List.setIfInBounds_toArray, List.set_cons_zero, List.set_cons_succ])
      refine WD_take (i := 17) (oi := { dst := some 65, op := Go.Op.load 27 (Go.Operand.tmp 4), type := 27, pos := _, after := #[{ on := 10, ground := Go.Ground.guard }], guard := some (10, false) }) (v := undef) rfl (by kernel_rfl) (by kernel_rfl) (by kernel_rfl) (by kernel_rfl) (fun _ _ _ h => h) (Or.inr ⟨by rfl, rfl⟩) hHeld ?_
      (try simp only [Act.put, List.setIfInBounds_toArray, List.set_cons_zero, List.set_cons_succ])
      refine WD_ready (rs := [12]) (by kernel_rfl) (by simp) ?_
      refine AllD.cons (o := { dst := some 60, op := Go.Op.call { callee := Go.Callee.value (Go.Operand.func 18), args := #[Go.Operand.tmp 59], argTypes := #[27] }, type := 9, pos := _, after := #[{ on := 11, ground := Go.Ground.data }, { on := 10, ground := Go.Ground.chain }, { on := 10, ground := Go.Ground.guard }], guard := some (10, false) }) rfl (fun K hK => ?_) AllD.nil
      rw [if_neg (fun h => nomatch h)]
      refine hK.out _ _ hHeld (fun hHeld => ?_)
      clear hK K
      (try simp only [Act.put, List.setIfInBounds_toArray, List.set_cons_zero, List.set_cons_succ])
      refine WD_ready (rs := [14]) (by kernel_rfl) (by simp) ?_
      refine AllD.cons (o := { dst := some 62, op := Go.Op.call { callee := Go.Callee.value (Go.Operand.func 18), args := #[Go.Operand.tmp 61], argTypes := #[27] }, type := 9, pos := _, after := #[{ on := 13, ground := Go.Ground.data }, { on := 12, ground := Go.Ground.chain }, { on := 10, ground := Go.Ground.guard }], guard := some (10, false) }) rfl (fun K hK => ?_) AllD.nil
      rw [if_neg (fun h => nomatch h)]
      refine hK.out _ _ hHeld (fun hHeld => ?_)
      clear hK K
      (try simp only [Act.put, List.setIfInBounds_toArray, List.set_cons_zero, List.set_cons_succ])
      refine WD_take (i := 15) (oi := { dst := some 63, op := Go.Op.binOp Go.BinOp.eql 9 (Go.Operand.tmp 60) (Go.Operand.tmp 62) 9, type := 4, pos := _, after := #[{ on := 12, ground := Go.Ground.data }, { on := 14, ground := Go.Ground.data }, { on := 10, ground := Go.Ground.guard }], guard := some (10, false) }) (v := undef) rfl (by kernel_rfl) (by kernel_rfl) (by kernel_rfl) (by kernel_rfl) (fun _ _ _ h => h) (Or.inr ⟨by rfl, rfl⟩) hHeld ?_
      (try simp only [Act.put, List.setIfInBounds_toArray, List.set_cons_zero, List.set_cons_succ])
      refine WD_ready (rs := [18]) (by kernel_rfl) (by simp) ?_
      refine AllD.cons (o := { dst := some 66, op := Go.Op.call { callee := Go.Callee.value (Go.Operand.func 16), args := #[Go.Operand.tmp 64, Go.Operand.tmp 65], argTypes := #[27, 27] }, type := 4, pos := _, after := #[{ on := 16, ground := Go.Ground.data }, { on := 17, ground := Go.Ground.data }, { on := 14, ground := Go.Ground.chain }, { on := 10, ground := Go.Ground.guard }], guard := some (10, false) }) rfl (fun K hK => ?_) AllD.nil
      rw [if_neg (fun h => nomatch h)]
      refine hK.out _ _ hHeld (fun hHeld => ?_)
      clear hK K
      (try simp only [Act.put, List.setIfInBounds_toArray, List.set_cons_zero, List.set_cons_succ])
      refine WD_take (i := 19) (oi := { dst := some 67, op := Go.Op.binOp Go.BinOp.eql 4 (Go.Operand.tmp 63) (Go.Operand.tmp 66) 4, type := 4, pos := _, after := #[{ on := 15, ground := Go.Ground.data }, { on := 18, ground := Go.Ground.data }, { on := 10, ground := Go.Ground.guard }], guard := some (10, false) }) (v := undef) rfl (by kernel_rfl) (by kernel_rfl) (by kernel_rfl) (by kernel_rfl) (fun _ _ _ h => h) (Or.inr ⟨by rfl, rfl⟩) hHeld ?_
      (try simp only [Act.put, List.setIfInBounds_toArray, List.set_cons_zero, List.set_cons_succ])
      refine WD_take (i := 20) (oi := { dst := some 68, op := Go.Op.pick (Go.Operand.tmp 58) (Go.Operand.const (Go.Value.bool true)) (Go.Operand.tmp 67), type := 4, pos := _, after := #[{ on := 10, ground := Go.Ground.data }, { on := 19, ground := Go.Ground.data }], guard := none }) (v := ?vda20) rfl (by kernel_rfl) (by kernel_rfl) (by kernel_rfl) (by kernel_rfl) (fun _ _ _ h => h) (Or.inl ⟨by rfl, ?hyda20⟩) hHeld ?_
      case hyda20 => (intro wz hSw; (try dsimp only at hSw); go_simp; try with_reducible rfl)
      (try simp only [Act.put, List.setIfInBounds_toArray, List.set_cons_zero, List.set_cons_succ])
      refine WD_take (i := 21) (oi := { dst := some 69, op := Go.Op.move (Go.Operand.tmp 68), type := 4, pos := _, after := #[{ on := 20, ground := Go.Ground.data }, { on := 18, ground := Go.Ground.chain }], guard := none }) (v := ?vda21) rfl (by kernel_rfl) (by kernel_rfl) (by kernel_rfl) (by kernel_rfl) (fun _ _ _ h => h) (Or.inl ⟨by rfl, ?hyda21⟩) hHeld ?_
      case hyda21 => (intro wz hSw; (try dsimp only at hSw); go_simp; try with_reducible rfl)
      (try simp only [Act.put, List.setIfInBounds_toArray, List.set_cons_zero, List.set_cons_succ])
      refine WD_take (i := 22) (oi := { dst := some 70, op := Go.Op.load 27 (Go.Operand.tmp 3), type := 27, pos := _, after := #[{ on := 21, ground := Go.Ground.guard }], guard := some (21, false) }) (v := undef) rfl (by kernel_rfl) (by kernel_rfl) (by kernel_rfl) (by kernel_rfl) (fun _ _ _ h => h) (Or.inr ⟨by rfl, rfl⟩) hHeld ?_
      (try simp only [Act.put, List.setIfInBounds_toArray, List.set_cons_zero, List.set_cons_succ])
      refine WD_ready (rs := [23]) (by kernel_rfl) (by simp) ?_
      refine AllD.cons (o := { dst := some 71, op := Go.Op.call { callee := Go.Callee.value (Go.Operand.func 33), args := #[Go.Operand.tmp 70], argTypes := #[27] }, type := 4, pos := _, after := #[{ on := 22, ground := Go.Ground.data }, { on := 21, ground := Go.Ground.chain }, { on := 21, ground := Go.Ground.guard }], guard := some (21, false) }) rfl (fun K hK => ?_) AllD.nil
      rw [if_neg (fun h => nomatch h)]
      refine hK.out _ _ hHeld (fun hHeld => ?_)
      clear hK K
      (try simp only [Act.put, List.setIfInBounds_toArray, List.set_cons_zero, List.set_cons_succ])
      refine WD_take (i := 24) (oi := { dst := some 72, op := Go.Op.pick (Go.Operand.tmp 69) (Go.Operand.const (Go.Value.bool true)) (Go.Operand.tmp 71), type := 4, pos := _, after := #[{ on := 21, ground := Go.Ground.data }, { on := 23, ground := Go.Ground.data }], guard := none }) (v := ?vda24) rfl (by kernel_rfl) (by kernel_rfl) (by kernel_rfl) (by kernel_rfl) (fun _ _ _ h => h) (Or.inl ⟨by rfl, ?hyda24⟩) hHeld ?_
      case hyda24 => (intro wz hSw; (try dsimp only at hSw); go_simp; try with_reducible rfl)
      (try simp only [Act.put, List.setIfInBounds_toArray, List.set_cons_zero, List.set_cons_succ])
      refine WD_take (i := 25) (oi := { dst := some 73, op := Go.Op.move (Go.Operand.tmp 72), type := 4, pos := _, after := #[{ on := 24, ground := Go.Ground.data }, { on := 23, ground := Go.Ground.chain }], guard := none }) (v := ?vda25) rfl (by kernel_rfl) (by kernel_rfl) (by kernel_rfl) (by kernel_rfl) (fun _ _ _ h => h) (Or.inl ⟨by rfl, ?hyda25⟩) hHeld ?_
      case hyda25 => (intro wz hSw; (try dsimp only at hSw); go_simp; try with_reducible rfl)
      (try simp only [Act.put, List.setIfInBounds_toArray, List.set_cons_zero, List.set_cons_succ])
      refine WD_take (i := 26) (oi := { dst := some 74, op := Go.Op.load 27 (Go.Operand.tmp 4), type := 27, pos := _, after := #[{ on := 25, ground := Go.Ground.guard }], guard := some (25, false) }) (v := undef) rfl (by kernel_rfl) (by kernel_rfl) (by kernel_rfl) (by kernel_rfl) (fun _ _ _ h => h) (Or.inr ⟨by rfl, rfl⟩) hHeld ?_
      (try simp only [Act.put, List.setIfInBounds_toArray, List.set_cons_zero, List.set_cons_succ])
      have H27 := Lib.hid hHeld
      refine WD_ready (rs := [27]) (by kernel_rfl) (by simp) ?_
      refine AllD.last (o := { dst := some 75, op := Go.Op.call { callee := Go.Callee.value (Go.Operand.func 33), args := #[Go.Operand.tmp 74], argTypes := #[27] }, type := 4, pos := _, after := #[{ on := 26, ground := Go.Ground.data }, { on := 25, ground := Go.Ground.chain }, { on := 25, ground := Go.Ground.guard }], guard := some (25, false) }) rfl (by kernel_rfl) (fun K hK => ?_) AllD.nil
      rw [if_neg (fun h => nomatch h)]
      refine hK.out _ _ ?_
      clear hK K
      (try simp only [Act.put, List.setIfInBounds_toArray, List.set_cons_zero, List.set_cons_succ])
      refine WD_takeAny (i := 28) (oi := { dst := some 76, op := Go.Op.pick (Go.Operand.tmp 73) (Go.Operand.const (Go.Value.bool true)) (Go.Operand.tmp 75), type := 4, pos := _, after := #[{ on := 25, ground := Go.Ground.data }, { on := 27, ground := Go.Ground.data }], guard := none }) (v := ?vda28) rfl (by kernel_rfl) (by kernel_rfl) (by kernel_rfl) (by kernel_rfl) (fun _ _ _ h => h) (Or.inl ⟨by rfl, ?hyda28⟩) ?_
      case hyda28 => (intro wz _; go_simp; try with_reducible rfl)
      (try simp only [Act.put, List.setIfInBounds_toArray, List.set_cons_zero, List.set_cons_succ])
      refine WD_takeAny (i := 29) (oi := { dst := some 6, op := Go.Op.assign (Go.Operand.tmp 76), type := 4, pos := _, after := #[{ on := 28, ground := Go.Ground.data }, { on := 27, ground := Go.Ground.chain }, { on := 0, ground := Go.Ground.phase }, { on := 1, ground := Go.Ground.phase }, { on := 2, ground := Go.Ground.phase }, { on := 3, ground := Go.Ground.phase }, { on := 4, ground := Go.Ground.phase }, { on := 5, ground := Go.Ground.phase }, { on := 6, ground := Go.Ground.phase }, { on := 7, ground := Go.Ground.phase }, { on := 8, ground := Go.Ground.phase }, { on := 9, ground := Go.Ground.phase }, { on := 10, ground := Go.Ground.phase }, { on := 11, ground := Go.Ground.phase }, { on := 12, ground := Go.Ground.phase }, { on := 13, ground := Go.Ground.phase }, { on := 14, ground := Go.Ground.phase }, { on := 15, ground := Go.Ground.phase }, { on := 16, ground := Go.Ground.phase }, { on := 17, ground := Go.Ground.phase }, { on := 18, ground := Go.Ground.phase }, { on := 19, ground := Go.Ground.phase }, { on := 20, ground := Go.Ground.phase }, { on := 21, ground := Go.Ground.phase }, { on := 22, ground := Go.Ground.phase }, { on := 23, ground := Go.Ground.phase }, { on := 24, ground := Go.Ground.phase }, { on := 25, ground := Go.Ground.phase }, { on := 26, ground := Go.Ground.phase }, { on := 27, ground := Go.Ground.phase }, { on := 28, ground := Go.Ground.phase }], guard := none }) (v := ?vda29) rfl (by kernel_rfl) (by kernel_rfl) (by kernel_rfl) (by kernel_rfl) (fun _ _ _ h => h) (Or.inl ⟨by rfl, ?hyda29⟩) ?_
      case hyda29 => (intro wz _; go_simp; try with_reducible rfl)
      (try simp only [Act.put, List.setIfInBounds_toArray, List.set_cons_zero, List.set_cons_succ])
      refine WD_done (by kernel_rfl) ?_ _
      have HE := H27.out
      have FIN := Lib.hid (bt HB.out (bt B7.out HE))
      clear HE
      go_wp2
      go_ret
      exact ⟨rfl, FIN.out⟩
    obtain rfl : NV = 0 := by omega
    by_cases hnu : 0 < NU
    · have dnN : decide (0 < NU) = true := decide_eq_true hnu
      clear hnu hnv
      refine wp_region_D [27] (fun w' => Below w7.heap.size w7 w') (by kernel_rfl) (bt B8.out (bdr _)) (fun hHeld => ?_)
      refine WD_take (i := 0) (oi := { dst := some 48, op := Go.Op.load 27 (Go.Operand.tmp 3), type := 27, pos := _, after := #[], guard := none }) (v := ?vdb0) rfl (by kernel_rfl) (by kernel_rfl) (by kernel_rfl) (by kernel_rfl) (fun _ _ _ h => h) (Or.inl ⟨by rfl, ?hydb0⟩) hHeld ?_
      case hydb0 => (intro wz hSw; (try dsimp only at hSw); have zc := KT7.out _ hSw; have z0 := zc.1; have z1 := zc.2.1; have z2 := zc.2.2.1; have z3 := zc.2.2.2; clear zc; go_simp; try with_reducible rfl)
      (try simp only [Act.put, List.setIfInBounds_toArray, List.set_cons_zero, List.set_cons_succ])
      refine WD_ready (rs := [1]) (by kernel_rfl) (by simp) ?_
      refine AllD.cons (o := _) rfl (fun K hK => ?_) AllD.nil
      rw [if_pos (by rfl)]
      go_simp
      refine (VT.out _ hHeld).mono ?_; rintro e w_35 ⟨A_35, c_35, rfl, o_35, b_35⟩
      try go_wp2_with fail
      refine hK.out _ _ (bt hHeld b_35.out) (fun hHeld => ?_)
      clear hK K
      (try simp only [Act.put, List.setIfInBounds_toArray, List.set_cons_zero, List.set_cons_succ])
      clear b_35 o_35
      refine WD_take (i := 2) (oi := { dst := some 50, op := Go.Op.call { callee := Go.Callee.builtin Go.Builtin.len, args := #[Go.Operand.tmp 49], argTypes := #[38] }, type := 3, pos := _, after := #[{ on := 1, ground := Go.Ground.data }], guard := none }) (v := ?vdb2) rfl (by kernel_rfl) (by kernel_rfl) (by kernel_rfl) (by kernel_rfl) (fun _ _ _ h => h) (Or.inl ⟨by rfl, ?hydb2⟩) hHeld ?_
      case hydb2 => (intro wz hSw; (try dsimp only at hSw); go_simp; try with_reducible rfl)
      (try simp only [Act.put, List.setIfInBounds_toArray, List.set_cons_zero, List.set_cons_succ])
      refine WD_take (i := 3) (oi := { dst := some 51, op := Go.Op.binOp Go.BinOp.gtr 3 (Go.Operand.tmp 50) (Go.Operand.const (Go.Value.int Go.IntKind.i64 0)) 3, type := 4, pos := _, after := #[{ on := 2, ground := Go.Ground.data }], guard := none }) (v := ?vdb3) rfl (by kernel_rfl) (by kernel_rfl) (by kernel_rfl) (by kernel_rfl) (fun _ _ _ h => h) (Or.inl ⟨by rfl, ?hydb3⟩) hHeld ?_
      case hydb3 => (intro wz hSw; (try dsimp only at hSw); go_simp; try with_reducible rfl)
      (try simp only [Act.put, List.setIfInBounds_toArray, List.set_cons_zero, List.set_cons_succ])
      refine WD_take (i := 4) (oi := { dst := some 52, op := Go.Op.move (Go.Operand.tmp 51), type := 4, pos := _, after := #[{ on := 3, ground := Go.Ground.data }, { on := 1, ground := Go.Ground.chain }], guard := none }) (v := ?vdb4) rfl (by kernel_rfl) (by kernel_rfl) (by kernel_rfl) (by kernel_rfl) (fun _ _ _ h => h) (Or.inl ⟨by rfl, ?hydb4⟩) hHeld ?_
      case hydb4 => (intro wz hSw; (try dsimp only at hSw); go_simp; try with_reducible rfl)
      (try simp only [Act.put, List.setIfInBounds_toArray, List.set_cons_zero, List.set_cons_succ])
      refine WD_take (i := 5) (oi := { dst := some 53, op := Go.Op.load 27 (Go.Operand.tmp 4), type := 27, pos := _, after := #[{ on := 4, ground := Go.Ground.guard }], guard := some (4, false) }) (v := ?vdb5) rfl (by kernel_rfl) (by kernel_rfl) (by kernel_rfl) (by kernel_rfl) (fun _ _ _ h => h) (Or.inl ⟨by rfl, ?hydb5⟩) hHeld ?_
      case hydb5 => (intro wz hSw; (try dsimp only at hSw); have zc := KU7.out _ hSw; have z0 := zc.1; have z1 := zc.2.1; have z2 := zc.2.2.1; have z3 := zc.2.2.2; clear zc; go_simp; try with_reducible rfl)
      (try simp only [Act.put, List.setIfInBounds_toArray, List.set_cons_zero, List.set_cons_succ])
      refine WD_ready (rs := [6]) (by kernel_rfl) (by simp) ?_
      refine AllD.cons (o := _) rfl (fun K hK => ?_) AllD.nil
      rw [if_pos (by rfl)]
      go_simp
      refine (VU.out _ hHeld).mono ?_; rintro e w_36 ⟨A_36, c_36, rfl, o_36, b_36⟩
      try go_wp2_with fail
      refine hK.out _ _ (bt hHeld b_36.out) (fun hHeld => ?_)
      clear hK K
      (try simp only [Act.put, List.setIfInBounds_toArray, List.set_cons_zero, List.set_cons_succ])
      clear b_36 o_36
      refine WD_take (i := 7) (oi := { dst := some 55, op := Go.Op.call { callee := Go.Callee.builtin Go.Builtin.len, args := #[Go.Operand.tmp 54], argTypes := #[38] }, type := 3, pos := _, after := #[{ on := 6, ground := Go.Ground.data }, { on := 4, ground := Go.Ground.guard }], guard := some (4, false) }) (v := ?vdb7) rfl (by kernel_rfl) (by kernel_rfl) (by kernel_rfl) (by kernel_rfl) (fun _ _ _ h => h) (Or.inl ⟨by rfl, ?hydb7⟩) hHeld ?_
      case hydb7 => (intro wz hSw; (try dsimp only at hSw); go_simp; try with_reducible rfl)
      (try simp only [Act.put, List.setIfInBounds_toArray, List.set_cons_zero, List.set_cons_succ])
      refine WD_take (i := 8) (oi := { dst := some 56, op := Go.Op.binOp Go.BinOp.gtr 3 (Go.Operand.tmp 55) (Go.Operand.const (Go.Value.int Go.IntKind.i64 0)) 3, type := 4, pos := _, after := #[{ on := 7, ground := Go.Ground.data }, { on := 4, ground := Go.Ground.guard }], guard := some (4, false) }) (v := ?vdb8) rfl (by kernel_rfl) (by kernel_rfl) (by kernel_rfl) (by kernel_rfl) (fun _ _ _ h => h) (Or.inl ⟨by rfl, ?hydb8⟩) hHeld ?_
      case hydb8 => (intro wz hSw; (try dsimp only at hSw); go_simp; try with_reducible rfl)
      (try simp only [Act.put, List.setIfInBounds_toArray, List.set_cons_zero, List.set_cons_succ])
      refine WD_take (i := 9) (oi := { dst := some 57, op := Go.Op.pick (Go.Operand.tmp 52) (Go.Operand.const (Go.Value.bool true)) (Go.Operand.tmp 56), type := 4, pos := _, after := #[{ on := 4, ground := Go.Ground.data }, { on := 8, ground := Go.Ground.data }], guard := none }) (v := ?vdb9) rfl (by kernel_rfl) (by kernel_rfl) (by kernel_rfl) (by kernel_rfl) (fun _ _ _ h => h) (Or.inl ⟨by rfl, ?hydb9⟩) hHeld ?_
      case hydb9 => (intro wz hSw; (try dsimp only at hSw); go_simp; try with_reducible rfl)
      (try simp only [Act.put, List.setIfInBounds_toArray, List.set_cons_zero, List.set_cons_succ])
      refine WD_take (i := 10) (oi := { dst := some 58, op := Go.Op.move (Go.Operand.tmp 57), type := 4, pos := _, after := #[{ on := 9, ground := Go.Ground.data }, { on := 6, ground := Go.Ground.chain }], guard := none }) (v := ?vdb10) rfl (by kernel_rfl) (by kernel_rfl) (by kernel_rfl) (by kernel_rfl) (fun _ _ _ h => h) (Or.inl ⟨by rfl, ?hydb10⟩) hHeld ?_
      case hydb10 => (intro wz hSw; (try dsimp only at hSw); go_simp; try with_reducible rfl)
      (try simp only [Act.put, List.setIfInBounds_toArray, List.set_cons_zero, List.set_cons_succ])
      refine WD_take (i := 11) (oi := { dst := some 59, op := Go.Op.load 27 (Go.Operand.tmp 3), type := 27, pos := _, after := #[{ on := 10, ground := Go.Ground.guard }], guard := some (10, false) }) (v := undef) rfl (by kernel_rfl) (by kernel_rfl) (by kernel_rfl) (by kernel_rfl) (fun _ _ _ h => h) (Or.inr ⟨by rfl, rfl⟩) hHeld ?_
      (try simp only [Act.put, List.setIfInBounds_toArray, List.set_cons_zero, List.set_cons_succ])
      refine WD_take (i := 13) (oi := { dst := some 61, op := Go.Op.load 27 (Go.Operand.tmp 4), type := 27, pos := _, after := #[{ on := 10, ground := Go.Ground.guard }], guard := some (10, false) }) (v := undef) rfl (by kernel_rfl) (by kernel_rfl) (by kernel_rfl) (by kernel_rfl) (fun _ _ _ h => h) (Or.inr ⟨by rfl, rfl⟩) hHeld ?_
      (try simp only [Act.put, List.setIfInBounds_toArray, List.set_cons_zero, List.set_cons_succ])
      refine WD_take (i := 16) (oi := { dst := some 64, op := Go.Op.load 27 (Go.Operand.tmp 3), type := 27, pos := _, after := #[{ on := 10, ground := Go.Ground.guard }], guard := some (10, false) }) (v := undef) rfl (by kernel_rfl) (by kernel_rfl) (by kernel_rfl) (by kernel_rfl) (fun _ _ _ h => h) (Or.inr ⟨by rfl, rfl⟩) hHeld ?_
      (try simp only [Act.put, List.setIfInBounds_toArray, List.set_cons_zero, List.set_cons_succ])
      refine WD_take (i := 17) (oi := { dst := some 65, op := Go.Op.load 27 (Go.Operand.tmp 4), type := 27, pos := _, after := #[{ on := 10, ground := Go.Ground.guard }], guard := some (10, false) }) (v := undef) rfl (by kernel_rfl) (by kernel_rfl) (by kernel_rfl) (by kernel_rfl) (fun _ _ _ h => h) (Or.inr ⟨by rfl, rfl⟩) hHeld ?_
      (try simp only [Act.put, List.setIfInBounds_toArray, List.set_cons_zero, List.set_cons_succ])
      refine WD_ready (rs := [12]) (by kernel_rfl) (by simp) ?_
      refine AllD.cons (o := { dst := some 60, op := Go.Op.call { callee := Go.Callee.value (Go.Operand.func 18), args := #[Go.Operand.tmp 59], argTypes := #[27] }, type := 9, pos := _, after := #[{ on := 11, ground := Go.Ground.data }, { on := 10, ground := Go.Ground.chain }, { on := 10, ground := Go.Ground.guard }], guard := some (10, false) }) rfl (fun K hK => ?_) AllD.nil
      rw [if_neg (fun h => nomatch h)]
      refine hK.out _ _ hHeld (fun hHeld => ?_)
      clear hK K
      (try simp only [Act.put, List.setIfInBounds_toArray, List.set_cons_zero, List.set_cons_succ])
      refine WD_ready (rs := [14]) (by kernel_rfl) (by simp) ?_
      refine AllD.cons (o := { dst := some 62, op := Go.Op.call { callee := Go.Callee.value (Go.Operand.func 18), args := #[Go.Operand.tmp 61], argTypes := #[27] }, type := 9, pos := _, after := #[{ on := 13, ground := Go.Ground.data }, { on := 12, ground := Go.Ground.chain }, { on := 10, ground := Go.Ground.guard }], guard := some (10, false) }) rfl (fun K hK => ?_) AllD.nil
      rw [if_neg (fun h => nomatch h)]
      refine hK.out _ _ hHeld (fun hHeld => ?_)
      clear hK K
      (try simp only [Act.put, List.setIfInBounds_toArray, List.set_cons_zero, List.set_cons_succ])
      refine WD_take (i := 15) (oi := { dst := some 63, op := Go.Op.binOp Go.BinOp.eql 9 (Go.Operand.tmp 60) (Go.Operand.tmp 62) 9, type := 4, pos := _, after := #[{ on := 12, ground := Go.Ground.data }, { on := 14, ground := Go.Ground.data }, { on := 10, ground := Go.Ground.guard }], guard := some (10, false) }) (v := undef) rfl (by kernel_rfl) (by kernel_rfl) (by kernel_rfl) (by kernel_rfl) (fun _ _ _ h => h) (Or.inr ⟨by rfl, rfl⟩) hHeld ?_
      (try simp only [Act.put, List.setIfInBounds_toArray, List.set_cons_zero, List.set_cons_succ])
      refine WD_ready (rs := [18]) (by kernel_rfl) (by simp) ?_
      refine AllD.cons (o := { dst := some 66, op := Go.Op.call { callee := Go.Callee.value (Go.Operand.func 16), args := #[Go.Operand.tmp 64, Go.Operand.tmp 65], argTypes := #[27, 27] }, type := 4, pos := _, after := #[{ on := 16, ground := Go.Ground.data }, { on := 17, ground := Go.Ground.data }, { on := 14, ground := Go.Ground.chain }, { on := 10, ground := Go.Ground.guard }], guard := some (10, false) }) rfl (fun K hK => ?_) AllD.nil
      rw [if_neg (fun h => nomatch h)]
      refine hK.out _ _ hHeld (fun hHeld => ?_)
      clear hK K
      (try simp only [Act.put, List.setIfInBounds_toArray, List.set_cons_zero, List.set_cons_succ])
      refine WD_take (i := 19) (oi := { dst := some 67, op := Go.Op.binOp Go.BinOp.eql 4 (Go.Operand.tmp 63) (Go.Operand.tmp 66) 4, type := 4, pos := _, after := #[{ on := 15, ground := Go.Ground.data }, { on := 18, ground := Go.Ground.data }, { on := 10, ground := Go.Ground.guard }], guard := some (10, false) }) (v := undef) rfl (by kernel_rfl) (by kernel_rfl) (by kernel_rfl) (by kernel_rfl) (fun _ _ _ h => h) (Or.inr ⟨by rfl, rfl⟩) hHeld ?_
      (try simp only [Act.put, List.setIfInBounds_toArray, List.set_cons_zero, List.set_cons_succ])
      refine WD_take (i := 20) (oi := { dst := some 68, op := Go.Op.pick (Go.Operand.tmp 58) (Go.Operand.const (Go.Value.bool true)) (Go.Operand.tmp 67), type := 4, pos := _, after := #[{ on := 10, ground := Go.Ground.data }, { on := 19, ground := Go.Ground.data }], guard := none }) (v := ?vdb20) rfl (by kernel_rfl) (by kernel_rfl) (by kernel_rfl) (by kernel_rfl) (fun _ _ _ h => h) (Or.inl ⟨by rfl, ?hydb20⟩) hHeld ?_
      case hydb20 => (intro wz hSw; (try dsimp only at hSw); go_simp; try with_reducible rfl)
      (try simp only [Act.put, List.setIfInBounds_toArray, List.set_cons_zero, List.set_cons_succ])
      refine WD_take (i := 21) (oi := { dst := some 69, op := Go.Op.move (Go.Operand.tmp 68), type := 4, pos := _, after := #[{ on := 20, ground := Go.Ground.data }, { on := 18, ground := Go.Ground.chain }], guard := none }) (v := ?vdb21) rfl (by kernel_rfl) (by kernel_rfl) (by kernel_rfl) (by kernel_rfl) (fun _ _ _ h => h) (Or.inl ⟨by rfl, ?hydb21⟩) hHeld ?_
      case hydb21 => (intro wz hSw; (try dsimp only at hSw); go_simp; try with_reducible rfl)
      (try simp only [Act.put, List.setIfInBounds_toArray, List.set_cons_zero, List.set_cons_succ])
      refine WD_take (i := 22) (oi := { dst := some 70, op := Go.Op.load 27 (Go.Operand.tmp 3), type := 27, pos := _, after := #[{ on := 21, ground := Go.Ground.guard }], guard := some (21, false) }) (v := undef) rfl (by kernel_rfl) (by kernel_rfl) (by kernel_rfl) (by kernel_rfl) (fun _ _ _ h => h) (Or.inr ⟨by rfl, rfl⟩) hHeld ?_
      (try simp only [Act.put, List.setIfInBounds_toArray, List.set_cons_zero, List.set_cons_succ])
      refine WD_ready (rs := [23]) (by kernel_rfl) (by simp) ?_
      refine AllD.cons (o := { dst := some 71, op := Go.Op.call { callee := Go.Callee.value (Go.Operand.func 33), args := #[Go.Operand.tmp 70], argTypes := #[27] }, type := 4, pos := _, after := #[{ on := 22, ground := Go.Ground.data }, { on := 21, ground := Go.Ground.chain }, { on := 21, ground := Go.Ground.guard }], guard := some (21, false) }) rfl (fun K hK => ?_) AllD.nil
      rw [if_neg (fun h => nomatch h)]
      refine hK.out _ _ hHeld (fun hHeld => ?_)
      clear hK K
      (try simp only [Act.put, List.setIfInBounds_toArray, List.set_cons_zero, List.set_cons_succ])
      refine WD_take (i := 24) (oi := { dst := some 72, op := Go.Op.pick (Go.Operand.tmp 69) (Go.Operand.const (Go.Value.bool true)) (Go.Operand.tmp 71), type := 4, pos := _, after := #[{ on := 21, ground := Go.Ground.data }, { on := 23, ground := Go.Ground.data }], guard := none }) (v := ?vdb24) rfl (by kernel_rfl) (by kernel_rfl) (by kernel_rfl) (by kernel_rfl) (fun _ _ _ h => h) (Or.inl ⟨by rfl, ?hydb24⟩) hHeld ?_
      case hydb24 => (intro wz hSw; (try dsimp only at hSw); go_simp; try with_reducible rfl)
      (try simp only [Act.put, List.setIfInBounds_toArray, List.set_cons_zero, List.set_cons_succ])
      refine WD_take (i := 25) (oi := { dst := some 73, op := Go.Op.move (Go.Operand.tmp 72), type := 4, pos := _, after := #[{ on := 24, ground := Go.Ground.data }, { on := 23, ground := Go.Ground.chain }], guard := none }) (v := ?vdb25) rfl (by kernel_rfl) (by kernel_rfl) (by kernel_rfl) (by kernel_rfl) (fun _ _ _ h => h) (Or.inl ⟨by rfl, ?hydb25⟩) hHeld ?_
      case hydb25 => (intro wz hSw; (try dsimp only at hSw); go_simp; try with_reducible rfl)
      (try simp only [Act.put, List.setIfInBounds_toArray, List.set_cons_zero, List.set_cons_succ])
      refine WD_take (i := 26) (oi := { dst := some 74, op := Go.Op.load 27 (Go.Operand.tmp 4), type := 27, pos := _, after := #[{ on := 25, ground := Go.Ground.guard }], guard := some (25, false) }) (v := undef) rfl (by kernel_rfl) (by kernel_rfl) (by kernel_rfl) (by kernel_rfl) (fun _ _ _ h => h) (Or.inr ⟨by rfl, rfl⟩) hHeld ?_
      (try simp only [Act.put, List.setIfInBounds_toArray, List.set_cons_zero, List.set_cons_succ])
      have H27 := Lib.hid hHeld
      refine WD_ready (rs := [27]) (by kernel_rfl) (by simp) ?_
      refine AllD.last (o := { dst := some 75, op := Go.Op.call { callee := Go.Callee.value (Go.Operand.func 33), args := #[Go.Operand.tmp 74], argTypes := #[27] }, type := 4, pos := _, after := #[{ on := 26, ground := Go.Ground.data }, { on := 25, ground := Go.Ground.chain }, { on := 25, ground := Go.Ground.guard }], guard := some (25, false) }) rfl (by kernel_rfl) (fun K hK => ?_) AllD.nil
      rw [if_neg (fun h => nomatch h)]
      refine hK.out _ _ ?_
      clear hK K
      (try simp only [Act.put, List.setIfInBounds_toArray, List.set_cons_zero, List.set_cons_succ])
      refine WD_takeAny (i := 28) (oi := { dst := some 76, op := Go.Op.pick (Go.Operand.tmp 73) (Go.Operand.const (Go.Value.bool true)) (Go.Operand.tmp 75), type := 4, pos := _, after := #[{ on := 25, ground := Go.Ground.data }, { on := 27, ground := Go.Ground.data }], guard := none }) (v := ?vdb28) rfl (by kernel_rfl) (by kernel_rfl) (by kernel_rfl) (by kernel_rfl) (fun _ _ _ h => h) (Or.inl ⟨by rfl, ?hydb28⟩) ?_
      case hydb28 => (intro wz _; go_simp; try with_reducible rfl)
      (try simp only [Act.put, List.setIfInBounds_toArray, List.set_cons_zero, List.set_cons_succ])
      refine WD_takeAny (i := 29) (oi := { dst := some 6, op := Go.Op.assign (Go.Operand.tmp 76), type := 4, pos := _, after := #[{ on := 28, ground := Go.Ground.data }, { on := 27, ground := Go.Ground.chain }, { on := 0, ground := Go.Ground.phase }, { on := 1, ground := Go.Ground.phase }, { on := 2, ground := Go.Ground.phase }, { on := 3, ground := Go.Ground.phase }, { on := 4, ground := Go.Ground.phase }, { on := 5, ground := Go.Ground.phase }, { on := 6, ground := Go.Ground.phase }, { on := 7, ground := Go.Ground.phase }, { on := 8, ground := Go.Ground.phase }, { on := 9, ground := Go.Ground.phase }, { on := 10, ground := Go.Ground.phase }, { on := 11, ground := Go.Ground.phase }, { on := 12, ground := Go.Ground.phase }, { on := 13, ground := Go.Ground.phase }, { on := 14, ground := Go.Ground.phase }, { on := 15, ground := Go.Ground.phase }, { on := 16, ground := Go.Ground.phase }, { on := 17, ground := Go.Ground.phase }, { on := 18, ground := Go.Ground.phase }, { on := 19, ground := Go.Ground.phase }, { on := 20, ground := Go.Ground.phase }, { on := 21, ground := Go.Ground.phase }, { on := 22, ground := Go.Ground.phase }, { on := 23, ground := Go.Ground.phase }, { on := 24, ground := Go.Ground.phase }, { on := 25, ground := Go.Ground.phase }, { on := 26, ground := Go.Ground.phase }, { on := 27, ground := Go.Ground.phase }, { on := 28, ground := Go.Ground.phase }], guard := none }) (v := ?vdb29) rfl (by kernel_rfl) (by kernel_rfl) (by kernel_rfl) (by kernel_rfl) (fun _ _ _ h => h) (Or.inl ⟨by rfl, ?hydb29⟩) ?_
      case hydb29 => (intro wz _; go_simp; try with_reducible rfl)
      (try simp only [Act.put, List.setIfInBounds_toArray, List.set_cons_zero, List.set_cons_succ])
      refine WD_done (by kernel_rfl) ?_ _
      have HE := H27.out
      have FIN := Lib.hid (bt HB.out (bt B7.out HE))
      clear HE
      go_wp2
      go_ret
      exact ⟨rfl, FIN.out⟩
    obtain rfl : NU = 0 := by omega
    clear hnv hnu
    by_cases hVU : V = U
    · have SMt := Lib.hid (fun W (hW : Below w7.heap.size w7 W) => (SM.out W hW).mono (fun (e : Ending) (w1 : World) ⟨⟨b, e1, hs⟩, hb⟩ => (⟨by rw [e1, hs.2 hVU], hb⟩ : e = Ending.returned (Value.bool true) ∧ Below W.heap.size W w1)))
      obtain rfl : TV = TU := HSE.out hVU
      clear hVU
      refine wp_region_D [27] (fun w' => Below w7.heap.size w7 w') (by kernel_rfl) (bt B8.out (bdr _)) (fun hHeld => ?_)
      refine WD_take (i := 0) (oi := { dst := some 48, op := Go.Op.load 27 (Go.Operand.tmp 3), type := 27, pos := _, after := #[], guard := none }) (v := ?vdc0) rfl (by kernel_rfl) (by kernel_rfl) (by kernel_rfl) (by kernel_rfl) (fun _ _ _ h => h) (Or.inl ⟨by rfl, ?hydc0⟩) hHeld ?_
      case hydc0 => (intro wz hSw; (try dsimp only at hSw); have zc := KT7.out _ hSw; have z0 := zc.1; have z1 := zc.2.1; have z2 := zc.2.2.1; have z3 := zc.2.2.2; clear zc; go_simp; try with_reducible rfl)
      (try simp only [Act.put, List.setIfInBounds_toArray, List.set_cons_zero, List.set_cons_succ])
      refine WD_ready (rs := [1]) (by kernel_rfl) (by simp) ?_
      refine AllD.cons (o := _) rfl (fun K hK => ?_) AllD.nil
      rw [if_pos (by rfl)]
      go_simp
      refine (VT.out _ hHeld).mono ?_; rintro e w_44 ⟨A_44, c_44, rfl, o_44, b_44⟩
      try go_wp2_with fail
      refine hK.out _ _ (bt hHeld b_44.out) (fun hHeld => ?_)
      clear hK K
      (try simp only [Act.put, List.setIfInBounds_toArray, List.set_cons_zero, List.set_cons_succ])
      clear b_44 o_44
      refine WD_take (i := 2) (oi := { dst := some 50, op := Go.Op.call { callee := Go.Callee.builtin Go.Builtin.len, args := #[Go.Operand.tmp 49], argTypes := #[38] }, type := 3, pos := _, after := #[{ on := 1, ground := Go.Ground.data }], guard := none }) (v := ?vdc2) rfl (by kernel_rfl) (by kernel_rfl) (by kernel_rfl) (by kernel_rfl) (fun _ _ _ h => h) (Or.inl ⟨by rfl, ?hydc2⟩) hHeld ?_
      case hydc2 => (intro wz hSw; (try dsimp only at hSw); go_simp; try with_reducible rfl)
      (try simp only [Act.put, List.setIfInBounds_toArray, List.set_cons_zero, List.set_cons_succ])
      refine WD_take (i := 3) (oi := { dst := some 51, op := Go.Op.binOp Go.BinOp.gtr 3 (Go.Operand.tmp 50) (Go.Operand.const (Go.Value.int Go.IntKind.i64 0)) 3, type := 4, pos := _, after := #[{ on := 2, ground := Go.Ground.data }], guard := none }) (v := ?vdc3) rfl (by kernel_rfl) (by kernel_rfl) (by kernel_rfl) (by kernel_rfl) (fun _ _ _ h => h) (Or.inl ⟨by rfl, ?hydc3⟩) hHeld ?_
      case hydc3 => (intro wz hSw; (try dsimp only at hSw); go_simp; try with_reducible rfl)
      (try simp only [Act.put, List.setIfInBounds_toArray, List.set_cons_zero, List.set_cons_succ])
      refine WD_take (i := 4) (oi := { dst := some 52, op := Go.Op.move (Go.Operand.tmp 51), type := 4, pos := _, after := #[{ on := 3, ground := Go.Ground.data }, { on := 1, ground := Go.Ground.chain }], guard := none }) (v := ?vdc4) rfl (by kernel_rfl) (by kernel_rfl) (by kernel_rfl) (by kernel_rfl) (fun _ _ _ h => h) (Or.inl ⟨by rfl, ?hydc4⟩) hHeld ?_
      case hydc4 => (intro wz hSw; (try dsimp only at hSw); go_simp; try with_reducible rfl)
      (try simp only [Act.put, List.setIfInBounds_toArray, List.set_cons_zero, List.set_cons_succ])
      refine WD_take (i := 5) (oi := { dst := some 53, op := Go.Op.load 27 (Go.Operand.tmp 4), type := 27, pos := _, after := #[{ on := 4, ground := Go.Ground.guard }], guard := some (4, false) }) (v := ?vdc5) rfl (by kernel_rfl) (by kernel_rfl) (by kernel_rfl) (by kernel_rfl) (fun _ _ _ h => h) (Or.inl ⟨by rfl, ?hydc5⟩) hHeld ?_
      case hydc5 => (intro wz hSw; (try dsimp only at hSw); have zc := KU7.out _ hSw; have z0 := zc.1; have z1 := zc.2.1; have z2 := zc.2.2.1; have z3 := zc.2.2.2; clear zc; go_simp; try with_reducible rfl)
      (try simp only [Act.put, List.setIfInBounds_toArray, List.set_cons_zero, List.set_cons_succ])
      refine WD_ready (rs := [6]) (by kernel_rfl) (by simp) ?_
      refine AllD.cons (o := _) rfl (fun K hK => ?_) AllD.nil
      rw [if_pos (by rfl)]
      go_simp
      refine (VU.out _ hHeld).mono ?_; rintro e w_45 ⟨A_45, c_45, rfl, o_45, b_45⟩
      try go_wp2_with fail
      refine hK.out _ _ (bt hHeld b_45.out) (fun hHeld => ?_)
      clear hK K
      (try simp only [Act.put, List.setIfInBounds_toArray, List.set_cons_zero, List.set_cons_succ])
      clear b_45 o_45
      refine WD_take (i := 7) (oi := { dst := some 55, op := Go.Op.call { callee := Go.Callee.builtin Go.Builtin.len, args := #[Go.Operand.tmp 54], argTypes := #[38] }, type := 3, pos := _, after := #[{ on := 6, ground := Go.Ground.data }, { on := 4, ground := Go.Ground.guard }], guard := some (4, false) }) (v := ?vdc7) rfl (by kernel_rfl) (by kernel_rfl) (by kernel_rfl) (by kernel_rfl) (fun _ _ _ h => h) (Or.inl ⟨by rfl, ?hydc7⟩) hHeld ?_
      case hydc7 => (intro wz hSw; (try dsimp only at hSw); go_simp; try with_reducible rfl)
      (try simp only [Act.put, List.setIfInBounds_toArray, List.set_cons_zero, List.set_cons_succ])
      refine WD_take (i := 8) (oi := { dst := some 56, op := Go.Op.binOp Go.BinOp.gtr 3 (Go.Operand.tmp 55) (Go.Operand.const (Go.Value.int Go.IntKind.i64 0)) 3, type := 4, pos := _, after := #[{ on := 7, ground := Go.Ground.data }, { on := 4, ground := Go.Ground.guard }], guard := some (4, false) }) (v := ?vdc8) rfl (by kernel_rfl) (by kernel_rfl) (by kernel_rfl) (by kernel_rfl) (fun _ _ _ h => h) (Or.inl ⟨by rfl, ?hydc8⟩) hHeld ?_
      case hydc8 => (intro wz hSw; (try dsimp only at hSw); go_simp; try with_reducible rfl)
      (try simp only [Act.put, List.setIfInBounds_toArray, List.set_cons_zero, List.set_cons_succ])
      refine WD_take (i := 9) (oi := { dst := some 57, op := Go.Op.pick (Go.Operand.tmp 52) (Go.Operand.const (Go.Value.bool true)) (Go.Operand.tmp 56), type := 4, pos := _, after := #[{ on := 4, ground := Go.Ground.data }, { on := 8, ground := Go.Ground.data }], guard := none }) (v := ?vdc9) rfl (by kernel_rfl) (by kernel_rfl) (by kernel_rfl) (by kernel_rfl) (fun _ _ _ h => h) (Or.inl ⟨by rfl, ?hydc9⟩) hHeld ?_
      case hydc9 => (intro wz hSw; (try dsimp only at hSw); go_simp; try with_reducible rfl)
      (try simp only [Act.put, List.setIfInBounds_toArray, List.set_cons_zero, List.set_cons_succ])
      refine WD_take (i := 10) (oi := { dst := some 58, op := Go.Op.move (Go.Operand.tmp 57), type := 4, pos := _, after := #[{ on := 9, ground := Go.Ground.data }, { on := 6, ground := Go.Ground.chain }], guard := none }) (v := ?vdc10) rfl (by kernel_rfl) (by kernel_rfl) (by kernel_rfl) (by kernel_rfl) (fun _ _ _ h => h) (Or.inl ⟨by rfl, ?hydc10⟩) hHeld ?_
      case hydc10 => (intro wz hSw; (try dsimp only at hSw); go_simp; try with_reducible rfl)
      (try simp only [Act.put, List.setIfInBounds_toArray, List.set_cons_zero, List.set_cons_succ])
      refine WD_take (i := 11) (oi := { dst := some 59, op := Go.Op.load 27 (Go.Operand.tmp 3), type := 27, pos := _, after := #[{ on := 10, ground := Go.Ground.guard }], guard := some (10, false) }) (v := ?vdc11) rfl (by kernel_rfl) (by kernel_rfl) (by kernel_rfl) (by kernel_rfl) (fun _ _ _ h => h) (Or.inl ⟨by rfl, ?hydc11⟩) hHeld ?_
      case hydc11 => (intro wz hSw; (try dsimp only at hSw); have zc := KT7.out _ hSw; have z0 := zc.1; have z1 := zc.2.1; have z2 := zc.2.2.1; have z3 := zc.2.2.2; clear zc; go_simp; try with_reducible rfl)
      (try simp only [Act.put, List.setIfInBounds_toArray, List.set_cons_zero, List.set_cons_succ])
      refine WD_take (i := 13) (oi := { dst := some 61, op := Go.Op.load 27 (Go.Operand.tmp 4), type := 27, pos := _, after := #[{ on := 10, ground := Go.Ground.guard }], guard := some (10, false) }) (v := ?vdc13) rfl (by kernel_rfl) (by kernel_rfl) (by kernel_rfl) (by kernel_rfl) (fun _ _ _ h => h) (Or.inl ⟨by rfl, ?hydc13⟩) hHeld ?_
      case hydc13 => (intro wz hSw; (try dsimp only at hSw); have zc := KU7.out _ hSw; have z0 := zc.1; have z1 := zc.2.1; have z2 := zc.2.2.1; have z3 := zc.2.2.2; clear zc; go_simp; try with_reducible rfl)
      (try simp only [Act.put, List.setIfInBounds_toArray, List.set_cons_zero, List.set_cons_succ])
      refine WD_take (i := 16) (oi := { dst := some 64, op := Go.Op.load 27 (Go.Operand.tmp 3), type := 27, pos := _, after := #[{ on := 10, ground := Go.Ground.guard }], guard := some (10, false) }) (v := ?vdc16) rfl (by kernel_rfl) (by kernel_rfl) (by kernel_rfl) (by kernel_rfl) (fun _ _ _ h => h) (Or.inl ⟨by rfl, ?hydc16⟩) hHeld ?_
      case hydc16 => (intro wz hSw; (try dsimp only at hSw); have zc := KT7.out _ hSw; have z0 := zc.1; have z1 := zc.2.1; have z2 := zc.2.2.1; have z3 := zc.2.2.2; clear zc; go_simp; try with_reducible rfl)
      (try simp only [Act.put, List.setIfInBounds_toArray, List.set_cons_zero, List.set_cons_succ])
      refine WD_take (i := 17) (oi := { dst := some 65, op := Go.Op.load 27 (Go.Operand.tmp 4), type := 27, pos := _, after := #[{ on := 10, ground := Go.Ground.guard }], guard := some (10, false) }) (v := ?vdc17) rfl (by kernel_rfl) (by kernel_rfl) (by kernel_rfl) (by kernel_rfl) (fun _ _ _ h => h) (Or.inl ⟨by rfl, ?hydc17⟩) hHeld ?_
      case hydc17 => (intro wz hSw; (try dsimp only at hSw); have zc := KU7.out _ hSw; have z0 := zc.1; have z1 := zc.2.1; have z2 := zc.2.2.1; have z3 := zc.2.2.2; clear zc; go_simp; try with_reducible rfl)
      (try simp only [Act.put, List.setIfInBounds_toArray, List.set_cons_zero, List.set_cons_succ])
      refine WD_ready (rs := [12]) (by kernel_rfl) (by simp) ?_
      refine AllD.cons (o := _) rfl (fun K hK => ?_) AllD.nil
      rw [if_pos (by rfl)]
      go_simp
      refine (ST.out _ hHeld).mono ?_; rintro e w_46 ⟨rfl, b_46⟩
      try go_wp2_with fail
      refine hK.out _ _ (bt hHeld b_46) (fun hHeld => ?_)
      clear hK K
      (try simp only [Act.put, List.setIfInBounds_toArray, List.set_cons_zero, List.set_cons_succ])
      clear b_46
      refine WD_ready (rs := [14]) (by kernel_rfl) (by simp) ?_
      refine AllD.cons (o := _) rfl (fun K hK => ?_) AllD.nil
      rw [if_pos (by rfl)]
      go_simp
      refine (SU.out _ hHeld).mono ?_; rintro e w_47 ⟨rfl, b_47⟩
      try go_wp2_with fail
      refine hK.out _ _ (bt hHeld b_47) (fun hHeld => ?_)
      clear hK K
      (try simp only [Act.put, List.setIfInBounds_toArray, List.set_cons_zero, List.set_cons_succ])
      clear b_47
      refine WD_take (i := 15) (oi := { dst := some 63, op := Go.Op.binOp Go.BinOp.eql 9 (Go.Operand.tmp 60) (Go.Operand.tmp 62) 9, type := 4, pos := _, after := #[{ on := 12, ground := Go.Ground.data }, { on := 14, ground := Go.Ground.data }, { on := 10, ground := Go.Ground.guard }], guard := some (10, false) }) (v := ?vdc15) rfl (by kernel_rfl) (by kernel_rfl) (by kernel_rfl) (by kernel_rfl) (fun _ _ _ h => h) (Or.inl ⟨by rfl, ?hydc15⟩) hHeld ?_
      case hydc15 => (intro wz hSw; (try dsimp only at hSw); go_simp; try with_reducible rfl)
      (try simp only [Act.put, List.setIfInBounds_toArray, List.set_cons_zero, List.set_cons_succ])
      refine WD_ready (rs := [18]) (by kernel_rfl) (by simp) ?_
      refine AllD.cons (o := _) rfl (fun K hK => ?_) AllD.nil
      rw [if_pos (by rfl)]
      go_simp
      refine (SMt.out _ hHeld).mono ?_; rintro e w_48 ⟨rfl, b_48⟩
      try go_wp2_with fail
      refine hK.out _ _ (bt hHeld b_48) (fun hHeld => ?_)
      clear hK K
      (try simp only [Act.put, List.setIfInBounds_toArray, List.set_cons_zero, List.set_cons_succ])
      clear b_48
      refine WD_take (i := 19) (oi := { dst := some 67, op := Go.Op.binOp Go.BinOp.eql 4 (Go.Operand.tmp 63) (Go.Operand.tmp 66) 4, type := 4, pos := _, after := #[{ on := 15, ground := Go.Ground.data }, { on := 18, ground := Go.Ground.data }, { on := 10, ground := Go.Ground.guard }], guard := some (10, false) }) (v := ?vdc19) rfl (by kernel_rfl) (by kernel_rfl) (by kernel_rfl) (by kernel_rfl) (fun _ _ _ h => h) (Or.inl ⟨by rfl, ?hydc19⟩) hHeld ?_
      case hydc19 => (intro wz hSw; (try dsimp only at hSw); go_simp; try with_reducible rfl)
      (try simp only [Act.put, List.setIfInBounds_toArray, List.set_cons_zero, List.set_cons_succ])
      refine WD_take (i := 20) (oi := { dst := some 68, op := Go.Op.pick (Go.Operand.tmp 58) (Go.Operand.const (Go.Value.bool true)) (Go.Operand.tmp 67), type := 4, pos := _, after := #[{ on := 10, ground := Go.Ground.data }, { on := 19, ground := Go.Ground.data }], guard := none }) (v := ?vdc20) rfl (by kernel_rfl) (by kernel_rfl) (by kernel_rfl) (by kernel_rfl) (fun _ _ _ h => h) (Or.inl ⟨by rfl, ?hydc20⟩) hHeld ?_
      case hydc20 => (intro wz hSw; (try dsimp only at hSw); go_simp; try with_reducible rfl)
      (try simp only [Act.put, List.setIfInBounds_toArray, List.set_cons_zero, List.set_cons_succ])
      refine WD_take (i := 21) (oi := { dst := some 69, op := Go.Op.move (Go.Operand.tmp 68), type := 4, pos := _, after := #[{ on := 20, ground := Go.Ground.data }, { on := 18, ground := Go.Ground.chain }], guard := none }) (v := ?vdc21) rfl (by kernel_rfl) (by kernel_rfl) (by kernel_rfl) (by kernel_rfl) (fun _ _ _ h => h) (Or.inl ⟨by rfl, ?hydc21⟩) hHeld ?_
      case hydc21 => (intro wz hSw; (try dsimp only at hSw); go_simp; try with_reducible rfl)
      (try simp only [Act.put, List.setIfInBounds_toArray, List.set_cons_zero, List.set_cons_succ])
      refine WD_take (i := 22) (oi := { dst := some 70, op := Go.Op.load 27 (Go.Operand.tmp 3), type := 27, pos := _, after := #[{ on := 21, ground := Go.Ground.guard }], guard := some (21, false) }) (v := undef) rfl (by kernel_rfl) (by kernel_rfl) (by kernel_rfl) (by kernel_rfl) (fun _ _ _ h => h) (Or.inr ⟨by rfl, rfl⟩) hHeld ?_
      (try simp only [Act.put, List.setIfInBounds_toArray, List.set_cons_zero, List.set_cons_succ])
      refine WD_ready (rs := [23]) (by kernel_rfl) (by simp) ?_
      refine AllD.cons (o := { dst := some 71, op := Go.Op.call { callee := Go.Callee.value (Go.Operand.func 33), args := #[Go.Operand.tmp 70], argTypes := #[27] }, type := 4, pos := _, after := #[{ on := 22, ground := Go.Ground.data }, { on := 21, ground := Go.Ground.chain }, { on := 21, ground := Go.Ground.guard }], guard := some (21, false) }) rfl (fun K hK => ?_) AllD.nil
      rw [if_neg (fun h => nomatch h)]
      refine hK.out _ _ hHeld (fun hHeld => ?_)
      clear hK K
      (try simp only [Act.put, List.setIfInBounds_toArray, List.set_cons_zero, List.set_cons_succ])
      refine WD_take (i := 24) (oi := { dst := some 72, op := Go.Op.pick (Go.Operand.tmp 69) (Go.Operand.const (Go.Value.bool true)) (Go.Operand.tmp 71), type := 4, pos := _, after := #[{ on := 21, ground := Go.Ground.data }, { on := 23, ground := Go.Ground.data }], guard := none }) (v := ?vdc24) rfl (by kernel_rfl) (by kernel_rfl) (by kernel_rfl) (by kernel_rfl) (fun _ _ _ h => h) (Or.inl ⟨by rfl, ?hydc24⟩) hHeld ?_
      case hydc24 => (intro wz hSw; (try dsimp only at hSw); go_simp; try with_reducible rfl)
      (try simp only [Act.put, List.setIfInBounds_toArray, List.set_cons_zero, List.set_cons_succ])
      refine WD_take (i := 25) (oi := { dst := some 73, op := Go.Op.move (Go.Operand.tmp 72), type := 4, pos := _, after := #[{ on := 24, ground := Go.Ground.data }, { on := 23, ground := Go.Ground.chain }], guard := none }) (v := ?vdc25) rfl (by kernel_rfl) (by kernel_rfl) (by kernel_rfl) (by kernel_rfl) (fun _ _ _ h => h) (Or.inl ⟨by rfl, ?hydc25⟩) hHeld ?_
      case hydc25 => (intro wz hSw; (try dsimp only at hSw); go_simp; try with_reducible rfl)
      (try simp only [Act.put, List.setIfInBounds_toArray, List.set_cons_zero, List.set_cons_succ])
      refine WD_take (i := 26) (oi := { dst := some 74, op := Go.Op.load 27 (Go.Operand.tmp 4), type := 27, pos := _, after := #[{ on := 25, ground := Go.Ground.guard }], guard := some (25, false) }) (v := undef) rfl (by kernel_rfl) (by kernel_rfl) (by kernel_rfl) (by kernel_rfl) (fun _ _ _ h => h) (Or.inr ⟨by rfl, rfl⟩) hHeld ?_
      (try simp only [Act.put, List.setIfInBounds_toArray, List.set_cons_zero, List.set_cons_succ])
      have H27 := Lib.hid hHeld
      refine WD_ready (rs := [27]) (by kernel_rfl) (by simp) ?_
      refine AllD.last (o := { dst := some 75, op := Go.Op.call { callee := Go.Callee.value (Go.Operand.func 33), args := #[Go.Operand.tmp 74], argTypes := #[27] }, type := 4, pos := _, after := #[{ on := 26, ground := Go.Ground.data }, { on := 25, ground := Go.Ground.chain }, { on := 25, ground := Go.Ground.guard }], guard := some (25, false) }) rfl (by kernel_rfl) (fun K hK => ?_) AllD.nil
      rw [if_neg (fun h => nomatch h)]
      refine hK.out _ _ ?_
      clear hK K
      (try simp only [Act.put, List.setIfInBounds_toArray, List.set_cons_zero, List.set_cons_succ])
      refine WD_takeAny (i := 28) (oi := { dst := some 76, op := Go.Op.pick (Go.Operand.tmp 73) (Go.Operand.const (Go.Value.bool true)) (Go.Operand.tmp 75), type := 4, pos := _, after := #[{ on := 25, ground := Go.Ground.data }, { on := 27, ground := Go.Ground.data }], guard := none }) (v := ?vdc28) rfl (by kernel_rfl) (by kernel_rfl) (by kernel_rfl) (by kernel_rfl) (fun _ _ _ h => h) (Or.inl ⟨by rfl, ?hydc28⟩) ?_
      case hydc28 => (intro wz _; go_simp; try with_reducible rfl)
      (try simp only [Act.put, List.setIfInBounds_toArray, List.set_cons_zero, List.set_cons_succ])
      refine WD_takeAny (i := 29) (oi := { dst := some 6, op := Go.Op.assign (Go.Operand.tmp 76), type := 4, pos := _, after := #[{ on := 28, ground := Go.Ground.data }, { on := 27, ground := Go.Ground.chain }, { on := 0, ground := Go.Ground.phase }, { on := 1, ground := Go.Ground.phase }, { on := 2, ground := Go.Ground.phase }, { on := 3, ground := Go.Ground.phase }, { on := 4, ground := Go.Ground.phase }, { on := 5, ground := Go.Ground.phase }, { on := 6, ground := Go.Ground.phase }, { on := 7, ground := Go.Ground.phase }, { on := 8, ground := Go.Ground.phase }, { on := 9, ground := Go.Ground.phase }, { on := 10, ground := Go.Ground.phase }, { on := 11, ground := Go.Ground.phase }, { on := 12, ground := Go.Ground.phase }, { on := 13, ground := Go.Ground.phase }, { on := 14, ground := Go.Ground.phase }, { on := 15, ground := Go.Ground.phase }, { on := 16, ground := Go.Ground.phase }, { on := 17, ground := Go.Ground.phase }, { on := 18, ground := Go.Ground.phase }, { on := 19, ground := Go.Ground.phase }, { on := 20, ground := Go.Ground.phase }, { on := 21, ground := Go.Ground.phase }, { on := 22, ground := Go.Ground.phase }, { on := 23, ground := Go.Ground.phase }, { on := 24, ground := Go.Ground.phase }, { on := 25, ground := Go.Ground.phase }, { on := 26, ground := Go.Ground.phase }, { on := 27, ground := Go.Ground.phase }, { on := 28, ground := Go.Ground.phase }], guard := none }) (v := ?vdc29) rfl (by kernel_rfl) (by kernel_rfl) (by kernel_rfl) (by kernel_rfl) (fun _ _ _ h => h) (Or.inl ⟨by rfl, ?hydc29⟩) ?_
      case hydc29 => (intro wz _; go_simp; try with_reducible rfl)
      (try simp only [Act.put, List.setIfInBounds_toArray, List.set_cons_zero, List.set_cons_succ])
      refine WD_done (by kernel_rfl) ?_ _
      have HE := H27.out
      have FIN := Lib.hid (bt HB.out (bt B7.out HE))
      clear HE
      go_wp2
      go_ret
      exact ⟨rfl, FIN.out⟩
    have SMf := Lib.hid (fun W (hW : Below w7.heap.size w7 W) => (SM.out W hW).mono (fun (e : Ending) (w1 : World) ⟨⟨b, e1, hs⟩, hb⟩ => (⟨by rw [e1]; cases b with | false => rfl | true => exact absurd (hs.1 rfl) hVU, hb⟩ : e = Ending.returned (Value.bool false) ∧ Below W.heap.size W w1)))
    by_cases hse : TV = TU
    · cases hot : oddT V with
      | true =>
        have OTx := Lib.hid (fun W (hW : Below w7.heap.size w7 W) => hot ▸ OT.out W hW)
        subst hse
        clear hVU hot
        refine wp_region_D [27] (fun w' => Below w7.heap.size w7 w') (by kernel_rfl) (bt B8.out (bdr _)) (fun hHeld => ?_)
        refine WD_take (i := 0) (oi := { dst := some 48, op := Go.Op.load 27 (Go.Operand.tmp 3), type := 27, pos := _, after := #[], guard := none }) (v := ?vdd0) rfl (by kernel_rfl) (by kernel_rfl) (by kernel_rfl) (by kernel_rfl) (fun _ _ _ h => h) (Or.inl ⟨by rfl, ?hydd0⟩) hHeld ?_
        case hydd0 => (intro wz hSw; (try dsimp only at hSw); have zc := KT7.out _ hSw; have z0 := zc.1; have z1 := zc.2.1; have z2 := zc.2.2.1; have z3 := zc.2.2.2; clear zc; go_simp; try with_reducible rfl)
        (try simp only [Act.put, List.setIfInBounds_toArray, List.set_cons_zero, List.set_cons_succ])
        refine WD_ready (rs := [1]) (by kernel_rfl) (by simp) ?_
        refine AllD.cons (o := _) rfl (fun K hK => ?_) AllD.nil
        rw [if_pos (by rfl)]
        go_simp
        refine (VT.out _ hHeld).mono ?_; rintro e w_49 ⟨A_49, c_49, rfl, o_49, b_49⟩
        try go_wp2_with fail
        refine hK.out _ _ (bt hHeld b_49.out) (fun hHeld => ?_)
        clear hK K
        (try simp only [Act.put, List.setIfInBounds_toArray, List.set_cons_zero, List.set_cons_succ])
        clear b_49 o_49
        refine WD_take (i := 2) (oi := { dst := some 50, op := Go.Op.call { callee := Go.Callee.builtin Go.Builtin.len, args := #[Go.Operand.tmp 49], argTypes := #[38] }, type := 3, pos := _, after := #[{ on := 1, ground := Go.Ground.data }], guard := none }) (v := ?vdd2) rfl (by kernel_rfl) (by kernel_rfl) (by kernel_rfl) (by kernel_rfl) (fun _ _ _ h => h) (Or.inl ⟨by rfl, ?hydd2⟩) hHeld ?_
        case hydd2 => (intro wz hSw; (try dsimp only at hSw); go_simp; try with_reducible rfl)
        (try simp only [Act.put, List.setIfInBounds_toArray, List.set_cons_zero, List.set_cons_succ])
        refine WD_take (i := 3) (oi := { dst := some 51, op := Go.Op.binOp Go.BinOp.gtr 3 (Go.Operand.tmp 50) (Go.Operand.const (Go.Value.int Go.IntKind.i64 0)) 3, type := 4, pos := _, after := #[{ on := 2, ground := Go.Ground.data }], guard := none }) (v := ?vdd3) rfl (by kernel_rfl) (by kernel_rfl) (by kernel_rfl) (by kernel_rfl) (fun _ _ _ h => h) (Or.inl ⟨by rfl, ?hydd3⟩) hHeld ?_
        case hydd3 => (intro wz hSw; (try dsimp only at hSw); go_simp; try with_reducible rfl)
        (try simp only [Act.put, List.setIfInBounds_toArray, List.set_cons_zero, List.set_cons_succ])
        refine WD_take (i := 4) (oi := { dst := some 52, op := Go.Op.move (Go.Operand.tmp 51), type := 4, pos := _, after := #[{ on := 3, ground := Go.Ground.data }, { on := 1, ground := Go.Ground.chain }], guard := none }) (v := ?vdd4) rfl (by kernel_rfl) (by kernel_rfl) (by kernel_rfl) (by kernel_rfl) (fun _ _ _ h => h) (Or.inl ⟨by rfl, ?hydd4⟩) hHeld ?_
        case hydd4 => (intro wz hSw; (try dsimp only at hSw); go_simp; try with_reducible rfl)
        (try simp only [Act.put, List.setIfInBounds_toArray, List.set_cons_zero, List.set_cons_succ])
        refine WD_take (i := 5) (oi := { dst := some 53, op := Go.Op.load 27 (Go.Operand.tmp 4), type := 27, pos := _, after := #[{ on := 4, ground := Go.Ground.guard }], guard := some (4, false) }) (v := ?vdd5) rfl (by kernel_rfl) (by kernel_rfl) (by kernel_rfl) (by kernel_rfl) (fun _ _ _ h => h) (Or.inl ⟨by rfl, ?hydd5⟩) hHeld ?_
        case hydd5 => (intro wz hSw; (try dsimp only at hSw); have zc := KU7.out _ hSw; have z0 := zc.1; have z1 := zc.2.1; have z2 := zc.2.2.1; have z3 := zc.2.2.2; clear zc; go_simp; try with_reducible rfl)
        (try simp only [Act.put, List.setIfInBounds_toArray, List.set_cons_zero, List.set_cons_succ])
        refine WD_ready (rs := [6]) (by kernel_rfl) (by simp) ?_
        refine AllD.cons (o := _) rfl (fun K hK => ?_) AllD.nil
        rw [if_pos (by rfl)]
        go_simp
        refine (VU.out _ hHeld).mono ?_; rintro e w_50 ⟨A_50, c_50, rfl, o_50, b_50⟩
        try go_wp2_with fail
        refine hK.out _ _ (bt hHeld b_50.out) (fun hHeld => ?_)
        clear hK K
        (try simp only [Act.put, List.setIfInBounds_toArray, List.set_cons_zero, List.set_cons_succ])
        clear b_50 o_50
        refine WD_take (i := 7) (oi := { dst := some 55, op := Go.Op.call { callee := Go.Callee.builtin Go.Builtin.len, args := #[Go.Operand.tmp 54], argTypes := #[38] }, type := 3, pos := _, after := #[{ on := 6, ground := Go.Ground.data }, { on := 4, ground := Go.Ground.guard }], guard := some (4, false) }) (v := ?vdd7) rfl (by kernel_rfl) (by kernel_rfl) (by kernel_rfl) (by kernel_rfl) (fun _ _ _ h => h) (Or.inl ⟨by rfl, ?hydd7⟩) hHeld ?_
        case hydd7 => (intro wz hSw; (try dsimp only at hSw); go_simp; try with_reducible rfl)
        (try simp only [Act.put, List.setIfInBounds_toArray, List.set_cons_zero, List.set_cons_succ])
        refine WD_take (i := 8) (oi := { dst := some 56, op := Go.Op.binOp Go.BinOp.gtr 3 (Go.Operand.tmp 55) (Go.Operand.const (Go.Value.int Go.IntKind.i64 0)) 3, type := 4, pos := _, after := #[{ on := 7, ground := Go.Ground.data }, { on := 4, ground := Go.Ground.guard }], guard := some (4, false) }) (v := ?vdd8) rfl (by kernel_rfl) (by kernel_rfl) (by kernel_rfl) (by kernel_rfl) (fun _ _ _ h => h) (Or.inl ⟨by rfl, ?hydd8⟩) hHeld ?_
        case hydd8 => (intro wz hSw; (try dsimp only at hSw); go_simp; try with_reducible rfl)
        (try simp only [Act.put, List.setIfInBounds_toArray, List.set_cons_zero, List.set_cons_succ])
        refine WD_take (i := 9) (oi := { dst := some 57, op := Go.Op.pick (Go.Operand.tmp 52) (Go.Operand.const (Go.Value.bool true)) (Go.Operand.tmp 56), type := 4, pos := _, after := #[{ on := 4, ground := Go.Ground.data }, { on := 8, ground := Go.Ground.data }], guard := none }) (v := ?vdd9) rfl (by kernel_rfl) (by kernel_rfl) (by kernel_rfl) (by kernel_rfl) (fun _ _ _ h => h) (Or.inl ⟨by rfl, ?hydd9⟩) hHeld ?_
        case hydd9 => (intro wz hSw; (try dsimp only at hSw); go_simp; try with_reducible rfl)
        (try simp only [Act.put, List.setIfInBounds_toArray, List.set_cons_zero, List.set_cons_succ])
        refine WD_take (i := 10) (oi := { dst := some 58, op := Go.Op.move (Go.Operand.tmp 57), type := 4, pos := _, after := #[{ on := 9, ground := Go.Ground.data }, { on := 6, ground := Go.Ground.chain }], guard := none }) (v := ?vdd10) rfl (by kernel_rfl) (by kernel_rfl) (by kernel_rfl) (by kernel_rfl) (fun _ _ _ h => h) (Or.inl ⟨by rfl, ?hydd10⟩) hHeld ?_
        case hydd10 => (intro wz hSw; (try dsimp only at hSw); go_simp; try with_reducible rfl)
        (try simp only [Act.put, List.setIfInBounds_toArray, List.set_cons_zero, List.set_cons_succ])
        refine WD_take (i := 11) (oi := { dst := some 59, op := Go.Op.load 27 (Go.Operand.tmp 3), type := 27, pos := _, after := #[{ on := 10, ground := Go.Ground.guard }], guard := some (10, false) }) (v := ?vdd11) rfl (by kernel_rfl) (by kernel_rfl) (by kernel_rfl) (by kernel_rfl) (fun _ _ _ h => h) (Or.inl ⟨by rfl, ?hydd11⟩) hHeld ?_
        case hydd11 => (intro wz hSw; (try dsimp only at hSw); have zc := KT7.out _ hSw; have z0 := zc.1; have z1 := zc.2.1; have z2 := zc.2.2.1; have z3 := zc.2.2.2; clear zc; go_simp; try with_reducible rfl)
        (try simp only [Act.put, List.setIfInBounds_toArray, List.set_cons_zero, List.set_cons_succ])
        refine WD_take (i := 13) (oi := { dst := some 61, op := Go.Op.load 27 (Go.Operand.tmp 4), type := 27, pos := _, after := #[{ on := 10, ground := Go.Ground.guard }], guard := some (10, false) }) (v := ?vdd13) rfl (by kernel_rfl) (by kernel_rfl) (by kernel_rfl) (by kernel_rfl) (fun _ _ _ h => h) (Or.inl ⟨by rfl, ?hydd13⟩) hHeld ?_
        case hydd13 => (intro wz hSw; (try dsimp only at hSw); have zc := KU7.out _ hSw; have z0 := zc.1; have z1 := zc.2.1; have z2 := zc.2.2.1; have z3 := zc.2.2.2; clear zc; go_simp; try with_reducible rfl)
        (try simp only [Act.put, List.setIfInBounds_toArray, List.set_cons_zero, List.set_cons_succ])
        refine WD_take (i := 16) (oi := { dst := some 64, op := Go.Op.load 27 (Go.Operand.tmp 3), type := 27, pos := _, after := #[{ on := 10, ground := Go.Ground.guard }], guard := some (10, false) }) (v := ?vdd16) rfl (by kernel_rfl) (by kernel_rfl) (by kernel_rfl) (by kernel_rfl) (fun _ _ _ h => h) (Or.inl ⟨by rfl, ?hydd16⟩) hHeld ?_
        case hydd16 => (intro wz hSw; (try dsimp only at hSw); have zc := KT7.out _ hSw; have z0 := zc.1; have z1 := zc.2.1; have z2 := zc.2.2.1; have z3 := zc.2.2.2; clear zc; go_simp; try with_reducible rfl)
        (try simp only [Act.put, List.setIfInBounds_toArray, List.set_cons_zero, List.set_cons_succ])
        refine WD_take (i := 17) (oi := { dst := some 65, op := Go.Op.load 27 (Go.Operand.tmp 4), type := 27, pos := _, after := #[{ on := 10, ground := Go.Ground.guard }], guard := some (10, false) }) (v := ?vdd17) rfl (by kernel_rfl) (by kernel_rfl) (by kernel_rfl) (by kernel_rfl) (fun _ _ _ h => h) (Or.inl ⟨by rfl, ?hydd17⟩) hHeld ?_
        case hydd17 => (intro wz hSw; (try dsimp only at hSw); have zc := KU7.out _ hSw; have z0 := zc.1; have z1 := zc.2.1; have z2 := zc.2.2.1; have z3 := zc.2.2.2; clear zc; go_simp; try with_reducible rfl)
        (try simp only [Act.put, List.setIfInBounds_toArray, List.set_cons_zero, List.set_cons_succ])
        refine WD_ready (rs := [12]) (by kernel_rfl) (by simp) ?_
        refine AllD.cons (o := _) rfl (fun K hK => ?_) AllD.nil
        rw [if_pos (by rfl)]
        go_simp
        refine (ST.out _ hHeld).mono ?_; rintro e w_51 ⟨rfl, b_51⟩
        try go_wp2_with fail
        refine hK.out _ _ (bt hHeld b_51) (fun hHeld => ?_)
        clear hK K
        (try simp only [Act.put, List.setIfInBounds_toArray, List.set_cons_zero, List.set_cons_succ])
        clear b_51
        refine WD_ready (rs := [14]) (by kernel_rfl) (by simp) ?_
        refine AllD.cons (o := _) rfl (fun K hK => ?_) AllD.nil
        rw [if_pos (by rfl)]
        go_simp
        refine (SU.out _ hHeld).mono ?_; rintro e w_52 ⟨rfl, b_52⟩
        try go_wp2_with fail
        refine hK.out _ _ (bt hHeld b_52) (fun hHeld => ?_)
        clear hK K
        (try simp only [Act.put, List.setIfInBounds_toArray, List.set_cons_zero, List.set_cons_succ])
        clear b_52
        refine WD_take (i := 15) (oi := { dst := some 63, op := Go.Op.binOp Go.BinOp.eql 9 (Go.Operand.tmp 60) (Go.Operand.tmp 62) 9, type := 4, pos := _, after := #[{ on := 12, ground := Go.Ground.data }, { on := 14, ground := Go.Ground.data }, { on := 10, ground := Go.Ground.guard }], guard := some (10, false) }) (v := ?vdd15) rfl (by kernel_rfl) (by kernel_rfl) (by kernel_rfl) (by kernel_rfl) (fun _ _ _ h => h) (Or.inl ⟨by rfl, ?hydd15⟩) hHeld ?_
        case hydd15 => (intro wz hSw; (try dsimp only at hSw); go_simp; try with_reducible rfl)
        (try simp only [Act.put, List.setIfInBounds_toArray, List.set_cons_zero, List.set_cons_succ])
        refine WD_ready (rs := [18]) (by kernel_rfl) (by simp) ?_
        refine AllD.cons (o := _) rfl (fun K hK => ?_) AllD.nil
        rw [if_pos (by rfl)]
        go_simp
        refine (SMf.out _ hHeld).mono ?_; rintro e w_53 ⟨rfl, b_53⟩
        try go_wp2_with fail
        refine hK.out _ _ (bt hHeld b_53) (fun hHeld => ?_)
        clear hK K
        (try simp only [Act.put, List.setIfInBounds_toArray, List.set_cons_zero, List.set_cons_succ])
        clear b_53
        refine WD_take (i := 19) (oi := { dst := some 67, op := Go.Op.binOp Go.BinOp.eql 4 (Go.Operand.tmp 63) (Go.Operand.tmp 66) 4, type := 4, pos := _, after := #[{ on := 15, ground := Go.Ground.data }, { on := 18, ground := Go.Ground.data }, { on := 10, ground := Go.Ground.guard }], guard := some (10, false) }) (v := ?vdd19) rfl (by kernel_rfl) (by kernel_rfl) (by kernel_rfl) (by kernel_rfl) (fun _ _ _ h => h) (Or.inl ⟨by rfl, ?hydd19⟩) hHeld ?_
        case hydd19 => (intro wz hSw; (try dsimp only at hSw); go_simp; try with_reducible rfl)
        (try simp only [Act.put, List.setIfInBounds_toArray, List.set_cons_zero, List.set_cons_succ])
        refine WD_take (i := 20) (oi := { dst := some 68, op := Go.Op.pick (Go.Operand.tmp 58) (Go.Operand.const (Go.Value.bool true)) (Go.Operand.tmp 67), type := 4, pos := _, after := #[{ on := 10, ground := Go.Ground.data }, { on := 19, ground := Go.Ground.data }], guard := none }) (v := ?vdd20) rfl (by kernel_rfl) (by kernel_rfl) (by kernel_rfl) (by kernel_rfl) (fun _ _ _ h => h) (Or.inl ⟨by rfl, ?hydd20⟩) hHeld ?_
        case hydd20 => (intro wz hSw; (try dsimp only at hSw); go_simp; try with_reducible rfl)
        (try simp only [Act.put, List.setIfInBounds_toArray, List.set_cons_zero, List.set_cons_succ])
        refine WD_take (i := 21) (oi := { dst := some 69, op := Go.Op.move (Go.Operand.tmp 68), type := 4, pos := _, after := #[{ on := 20, ground := Go.Ground.data }, { on := 18, ground := Go.Ground.chain }], guard := none }) (v := ?vdd21) rfl (by kernel_rfl) (by kernel_rfl) (by kernel_rfl) (by kernel_rfl) (fun _ _ _ h => h) (Or.inl ⟨by rfl, ?hydd21⟩) hHeld ?_
        case hydd21 => (intro wz hSw; (try dsimp only at hSw); go_simp; try with_reducible rfl)
        (try simp only [Act.put, List.setIfInBounds_toArray, List.set_cons_zero, List.set_cons_succ])
        refine WD_take (i := 22) (oi := { dst := some 70, op := Go.Op.load 27 (Go.Operand.tmp 3), type := 27, pos := _, after := #[{ on := 21, ground := Go.Ground.guard }], guard := some (21, false) }) (v := ?vdd22) rfl (by kernel_rfl) (by kernel_rfl) (by kernel_rfl) (by kernel_rfl) (fun _ _ _ h => h) (Or.inl ⟨by rfl, ?hydd22⟩) hHeld ?_
        case hydd22 => (intro wz hSw; (try dsimp only at hSw); have zc := KT7.out _ hSw; have z0 := zc.1; have z1 := zc.2.1; have z2 := zc.2.2.1; have z3 := zc.2.2.2; clear zc; go_simp; try with_reducible rfl)
        (try simp only [Act.put, List.setIfInBounds_toArray, List.set_cons_zero, List.set_cons_succ])
        refine WD_ready (rs := [23]) (by kernel_rfl) (by simp) ?_
        refine AllD.cons (o := _) rfl (fun K hK => ?_) AllD.nil
        rw [if_pos (by rfl)]
        go_simp
        refine (OTx.out _ hHeld).mono ?_; rintro e w_37 ⟨rfl, b_37⟩
        try go_wp2_with fail
        refine hK.out _ _ (bt hHeld b_37) (fun hHeld => ?_)
        clear hK K
        (try simp only [Act.put, List.setIfInBounds_toArray, List.set_cons_zero, List.set_cons_succ])
        clear b_37
        refine WD_take (i := 24) (oi := { dst := some 72, op := Go.Op.pick (Go.Operand.tmp 69) (Go.Operand.const (Go.Value.bool true)) (Go.Operand.tmp 71), type := 4, pos := _, after := #[{ on := 21, ground := Go.Ground.data }, { on := 23, ground := Go.Ground.data }], guard := none }) (v := ?vdd24) rfl (by kernel_rfl) (by kernel_rfl) (by kernel_rfl) (by kernel_rfl) (fun _ _ _ h => h) (Or.inl ⟨by rfl, ?hydd24⟩) hHeld ?_
        case hydd24 => (intro wz hSw; (try dsimp only at hSw); go_simp; try with_reducible rfl)
        (try simp only [Act.put, List.setIfInBounds_toArray, List.set_cons_zero, List.set_cons_succ])
        refine WD_take (i := 25) (oi := { dst := some 73, op := Go.Op.move (Go.Operand.tmp 72), type := 4, pos := _, after := #[{ on := 24, ground := Go.Ground.data }, { on := 23, ground := Go.Ground.chain }], guard := none }) (v := ?vdd25) rfl (by kernel_rfl) (by kernel_rfl) (by kernel_rfl) (by kernel_rfl) (fun _ _ _ h => h) (Or.inl ⟨by rfl, ?hydd25⟩) hHeld ?_
        case hydd25 => (intro wz hSw; (try dsimp only at hSw); go_simp; try with_reducible rfl)
        (try simp only [Act.put, List.setIfInBounds_toArray, List.set_cons_zero, List.set_cons_succ])
        refine WD_take (i := 26) (oi := { dst := some 74, op := Go.Op.load 27 (Go.Operand.tmp 4), type := 27, pos := _, after := #[{ on := 25, ground := Go.Ground.guard }], guard := some (25, false) }) (v := undef) rfl (by kernel_rfl) (by kernel_rfl) (by kernel_rfl) (by kernel_rfl) (fun _ _ _ h => h) (Or.inr ⟨by rfl, rfl⟩) hHeld ?_
        (try simp only [Act.put, List.setIfInBounds_toArray, List.set_cons_zero, List.set_cons_succ])
        have H27 := Lib.hid hHeld
        refine WD_ready (rs := [27]) (by kernel_rfl) (by simp) ?_
        refine AllD.last (o := { dst := some 75, op := Go.Op.call { callee := Go.Callee.value (Go.Operand.func 33), args := #[Go.Operand.tmp 74], argTypes := #[27] }, type := 4, pos := _, after := #[{ on := 26, ground := Go.Ground.data }, { on := 25, ground := Go.Ground.chain }, { on := 25, ground := Go.Ground.guard }], guard := some (25, false) }) rfl (by kernel_rfl) (fun K hK => ?_) AllD.nil
        rw [if_neg (fun h => nomatch h)]
        refine hK.out _ _ ?_
        clear hK K
        (try simp only [Act.put, List.setIfInBounds_toArray, List.set_cons_zero, List.set_cons_succ])
        refine WD_takeAny (i := 28) (oi := { dst := some 76, op := Go.Op.pick (Go.Operand.tmp 73) (Go.Operand.const (Go.Value.bool true)) (Go.Operand.tmp 75), type := 4, pos := _, after := #[{ on := 25, ground := Go.Ground.data }, { on := 27, ground := Go.Ground.data }], guard := none }) (v := ?vdd28) rfl (by kernel_rfl) (by kernel_rfl) (by kernel_rfl) (by kernel_rfl) (fun _ _ _ h => h) (Or.inl ⟨by rfl, ?hydd28⟩) ?_
        case hydd28 => (intro wz _; go_simp; try with_reducible rfl)
        (try simp only [Act.put, List.setIfInBounds_toArray, List.set_cons_zero, List.set_cons_succ])
        refine WD_takeAny (i := 29) (oi := { dst := some 6, op := Go.Op.assign (Go.Operand.tmp 76), type := 4, pos := _, after := #[{ on := 28, ground := Go.Ground.data }, { on := 27, ground := Go.Ground.chain }, { on := 0, ground := Go.Ground.phase }, { on := 1, ground := Go.Ground.phase }, { on := 2, ground := Go.Ground.phase }, { on := 3, ground := Go.Ground.phase }, { on := 4, ground := Go.Ground.phase }, { on := 5, ground := Go.Ground.phase }, { on := 6, ground := Go.Ground.phase }, { on := 7, ground := Go.Ground.phase }, { on := 8, ground := Go.Ground.phase }, { on := 9, ground := Go.Ground.phase }, { on := 10, ground := Go.Ground.phase }, { on := 11, ground := Go.Ground.phase }, { on := 12, ground := Go.Ground.phase }, { on := 13, ground := Go.Ground.phase }, { on := 14, ground := Go.Ground.phase }, { on := 15, ground := Go.Ground.phase }, { on := 16, ground := Go.Ground.phase }, { on := 17, ground := Go.Ground.phase }, { on := 18, ground := Go.Ground.phase }, { on := 19, ground := Go.Ground.phase }, { on := 20, ground := Go.Ground.phase }, { on := 21, ground := Go.Ground.phase }, { on := 22, ground := Go.Ground.phase }, { on := 23, ground := Go.Ground.phase }, { on := 24, ground := Go.Ground.phase }, { on := 25, ground := Go.Ground.phase }, { on := 26, ground := Go.Ground.phase }, { on := 27, ground := Go.Ground.phase }, { on := 28, ground := Go.Ground.phase }], guard := none }) (v := ?vdd29) rfl (by kernel_rfl) (by kernel_rfl) (by kernel_rfl) (by kernel_rfl) (fun _ _ _ h => h) (Or.inl ⟨by rfl, ?hydd29⟩) ?_
        case hydd29 => (intro wz _; go_simp; try with_reducible rfl)
        (try simp only [Act.put, List.setIfInBounds_toArray, List.set_cons_zero, List.set_cons_succ])
        refine WD_done (by kernel_rfl) ?_ _
        have HE := H27.out
        have FIN := Lib.hid (bt HB.out (bt B7.out HE))
        clear HE
        go_wp2
        go_ret
        exact ⟨rfl, FIN.out⟩
      | false =>
        have OTx := Lib.hid (fun W (hW : Below w7.heap.size w7 W) => hot ▸ OT.out W hW)
        have hou := INJ.out rfl rfl hse hVU hot
        have OUx := Lib.hid (fun W (hW : Below w7.heap.size w7 W) => hou ▸ OU.out W hW)
        subst hse
        clear hVU hot hou
        refine wp_region_D [27] (fun w' => Below w7.heap.size w7 w') (by kernel_rfl) (bt B8.out (bdr _)) (fun hHeld => ?_)
        refine WD_take (i := 0) (oi := { dst := some 48, op := Go.Op.load 27 (Go.Operand.tmp 3), type := 27, pos := _, after := #[], guard := none }) (v := ?vde0) rfl (by kernel_rfl) (by kernel_rfl) (by kernel_rfl) (by kernel_rfl) (fun _ _ _ h => h) (Or.inl ⟨by rfl, ?hyde0⟩) hHeld ?_
        case hyde0 => (intro wz hSw; (try dsimp only at hSw); have zc := KT7.out _ hSw; have z0 := zc.1; have z1 := zc.2.1; have z2 := zc.2.2.1; have z3 := zc.2.2.2; clear zc; go_simp; try with_reducible rfl)
        (try simp only [Act.put, List.setIfInBounds_toArray, List.set_cons_zero, List.set_cons_succ])
        refine WD_ready (rs := [1]) (by kernel_rfl) (by simp) ?_
        refine AllD.cons (o := _) rfl (fun K hK => ?_) AllD.nil
        rw [if_pos (by rfl)]
        go_simp
        refine (VT.out _ hHeld).mono ?_; rintro e w_54 ⟨A_54, c_54, rfl, o_54, b_54⟩
        try go_wp2_with fail
        refine hK.out _ _ (bt hHeld b_54.out) (fun hHeld => ?_)
        clear hK K
        (try simp only [Act.put, List.setIfInBounds_toArray, List.set_cons_zero, List.set_cons_succ])
        clear b_54 o_54
        refine WD_take (i := 2) (oi := { dst := some 50, op := Go.Op.call { callee := Go.Callee.builtin Go.Builtin.len, args := #[Go.Operand.tmp 49], argTypes := #[38] }, type := 3, pos := _, after := #[{ on := 1, ground := Go.Ground.data }], guard := none }) (v := ?vde2) rfl (by kernel_rfl) (by kernel_rfl) (by kernel_rfl) (by kernel_rfl) (fun _ _ _ h => h) (Or.inl ⟨by rfl, ?hyde2⟩) hHeld ?_
        case hyde2 => (intro wz hSw; (try dsimp only at hSw); go_simp; try with_reducible rfl)
        (try simp only [Act.put, List.setIfInBounds_toArray, List.set_cons_zero, List.set_cons_succ])
        refine WD_take (i := 3) (oi := { dst := some 51, op := Go.Op.binOp Go.BinOp.gtr 3 (Go.Operand.tmp 50) (Go.Operand.const (Go.Value.int Go.IntKind.i64 0)) 3, type := 4, pos := _, after := #[{ on := 2, ground := Go.Ground.data }], guard := none }) (v := ?vde3) rfl (by kernel_rfl) (by kernel_rfl) (by kernel_rfl) (by kernel_rfl) (fun _ _ _ h => h) (Or.inl ⟨by rfl, ?hyde3⟩) hHeld ?_
        case hyde3 => (intro wz hSw; (try dsimp only at hSw); go_simp; try with_reducible rfl)
        (try simp only [Act.put, List.setIfInBounds_toArray, List.set_cons_zero, List.set_cons_succ])
        refine WD_take (i := 4) (oi := { dst := some 52, op := Go.Op.move (Go.Operand.tmp 51), type := 4, pos := _, after := #[{ on := 3, ground := Go.Ground.data }, { on := 1, ground := Go.Ground.chain }], guard := none }) (v := ?vde4) rfl (by kernel_rfl) (by kernel_rfl) (by kernel_rfl) (by kernel_rfl) (fun _ _ _ h => h) (Or.inl ⟨by rfl, ?hyde4⟩) hHeld ?_
        case hyde4 => (intro wz hSw; (try dsimp only at hSw); go_simp; try with_reducible rfl)
        (try simp only [Act.put, List.setIfInBounds_toArray, List.set_cons_zero, List.set_cons_succ])
        refine WD_take (i := 5) (oi := { dst := some 53, op := Go.Op.load 27 (Go.Operand.tmp 4), type := 27, pos := _, after := #[{ on := 4, ground := Go.Ground.guard }], guard := some (4, false) }) (v := ?vde5) rfl (by kernel_rfl) (by kernel_rfl) (by kernel_rfl) (by kernel_rfl) (fun _ _ _ h => h) (Or.inl ⟨by rfl, ?hyde5⟩) hHeld ?_
        case hyde5 => (intro wz hSw; (try dsimp only at hSw); have zc := KU7.out _ hSw; have z0 := zc.1; have z1 := zc.2.1; have z2 := zc.2.2.1; have z3 := zc.2.2.2; clear zc; go_simp; try with_reducible rfl)
        (try simp only [Act.put, List.setIfInBounds_toArray, List.set_cons_zero, List.set_cons_succ])
        refine WD_ready (rs := [6]) (by kernel_rfl) (by simp) ?_
        refine AllD.cons (o := _) rfl (fun K hK => ?_) AllD.nil
        rw [if_pos (by rfl)]
        go_simp
        refine (VU.out _ hHeld).mono ?_; rintro e w_55 ⟨A_55, c_55, rfl, o_55, b_55⟩
        try go_wp2_with fail
        refine hK.out _ _ (bt hHeld b_55.out) (fun hHeld => ?_)
        clear hK K
        (try simp only [Act.put, List.setIfInBounds_toArray, List.set_cons_zero, List.set_cons_succ])
        clear b_55 o_55
        refine WD_take (i := 7) (oi := { dst := some 55, op := Go.Op.call { callee := Go.Callee.builtin Go.Builtin.len, args := #[Go.Operand.tmp 54], argTypes := #[38] }, type := 3, pos := _, after := #[{ on := 6, ground := Go.Ground.data }, { on := 4, ground := Go.Ground.guard }], guard := some (4, false) }) (v := ?vde7) rfl (by kernel_rfl) (by kernel_rfl) (by kernel_rfl) (by kernel_rfl) (fun _ _ _ h => h) (Or.inl ⟨by rfl, ?hyde7⟩) hHeld ?_
        case hyde7 => (intro wz hSw; (try dsimp only at hSw); go_simp; try with_reducible rfl)
        (try simp only [Act.put, List.setIfInBounds_toArray, List.set_cons_zero, List.set_cons_succ])
        refine WD_take (i := 8) (oi := { dst := some 56, op := Go.Op.binOp Go.BinOp.gtr 3 (Go.Operand.tmp 55) (Go.Operand.const (Go.Value.int Go.IntKind.i64 0)) 3, type := 4, pos := _, after := #[{ on := 7, ground := Go.Ground.data }, { on := 4, ground := Go.Ground.guard }], guard := some (4, false) }) (v := ?vde8) rfl (by kernel_rfl) (by kernel_rfl) (by kernel_rfl) (by kernel_rfl) (fun _ _ _ h => h) (Or.inl ⟨by rfl, ?hyde8⟩) hHeld ?_
        case hyde8 => (intro wz hSw; (try dsimp only at hSw); go_simp; try with_reducible rfl)
        (try simp only [Act.put, List.setIfInBounds_toArray, List.set_cons_zero, List.set_cons_succ])
        refine WD_take (i := 9) (oi := { dst := some 57, op := Go.Op.pick (Go.Operand.tmp 52) (Go.Operand.const (Go.Value.bool true)) (Go.Operand.tmp 56), type := 4, pos := _, after := #[{ on := 4, ground := Go.Ground.data }, { on := 8, ground := Go.Ground.data }], guard := none }) (v := ?vde9) rfl (by kernel_rfl) (by kernel_rfl) (by kernel_rfl) (by kernel_rfl) (fun _ _ _ h => h) (Or.inl ⟨by rfl, ?hyde9⟩) hHeld ?_
        case hyde9 => (intro wz hSw; (try dsimp only at hSw); go_simp; try with_reducible rfl)
        (try simp only [Act.put, List.setIfInBounds_toArray, List.set_cons_zero, List.set_cons_succ])
        refine WD_take (i := 10) (oi := { dst := some 58, op := Go.Op.move (Go.Operand.tmp 57), type := 4, pos := _, after := #[{ on := 9, ground := Go.Ground.data }, { on := 6, ground := Go.Ground.chain }], guard := none }) (v := ?vde10) rfl (by kernel_rfl) (by kernel_rfl) (by kernel_rfl) (by kernel_rfl) (fun _ _ _ h => h) (Or.inl ⟨by rfl, ?hyde10⟩) hHeld ?_
        case hyde10 => (intro wz hSw; (try dsimp only at hSw); go_simp; try with_reducible rfl)
        (try simp only [Act.put, List.setIfInBounds_toArray, List.set_cons_zero, List.set_cons_succ])
        refine WD_take (i := 11) (oi := { dst := some 59, op := Go.Op.load 27 (Go.Operand.tmp 3), type := 27, pos := _, after := #[{ on := 10, ground := Go.Ground.guard }], guard := some (10, false) }) (v := ?vde11) rfl (by kernel_rfl) (by kernel_rfl) (by kernel_rfl) (by kernel_rfl) (fun _ _ _ h => h) (Or.inl ⟨by rfl, ?hyde11⟩) hHeld ?_
        case hyde11 => (intro wz hSw; (try dsimp only at hSw); have zc := KT7.out _ hSw; have z0 := zc.1; have z1 := zc.2.1; have z2 := zc.2.2.1; have z3 := zc.2.2.2; clear zc; go_simp; try with_reducible rfl)
        (try simp only [Act.put, List.setIfInBounds_toArray, List.set_cons_zero, List.set_cons_succ])
        refine WD_take (i := 13) (oi := { dst := some 61, op := Go.Op.load 27 (Go.Operand.tmp 4), type := 27, pos := _, after := #[{ on := 10, ground := Go.Ground.guard }], guard := some (10, false) }) (v := ?vde13) rfl (by kernel_rfl) (by kernel_rfl) (by kernel_rfl) (by kernel_rfl) (fun _ _ _ h => h) (Or.inl ⟨by rfl, ?hyde13⟩) hHeld ?_
        case hyde13 => (intro wz hSw; (try dsimp only at hSw); have zc := KU7.out _ hSw; have z0 := zc.1; have z1 := zc.2.1; have z2 := zc.2.2.1; have z3 := zc.2.2.2; clear zc; go_simp; try with_reducible rfl)
        (try simp only [Act.put, List.setIfInBounds_toArray, List.set_cons_zero, List.set_cons_succ])
        refine WD_take (i := 16) (oi := { dst := some 64, op := Go.Op.load 27 (Go.Operand.tmp 3), type := 27, pos := _, after := #[{ on := 10, ground := Go.Ground.guard }], guard := some (10, false) }) (v := ?vde16) rfl (by kernel_rfl) (by kernel_rfl) (by kernel_rfl) (by kernel_rfl) (fun _ _ _ h => h) (Or.inl ⟨by rfl, ?hyde16⟩) hHeld ?_
        case hyde16 => (intro wz hSw; (try dsimp only at hSw); have zc := KT7.out _ hSw; have z0 := zc.1; have z1 := zc.2.1; have z2 := zc.2.2.1; have z3 := zc.2.2.2; clear zc; go_simp; try with_reducible rfl)
        (try simp only [Act.put, List.setIfInBounds_toArray, List.set_cons_zero, List.set_cons_succ])
        refine WD_take (i := 17) (oi := { dst := some 65, op := Go.Op.load 27 (Go.Operand.tmp 4), type := 27, pos := _, after := #[{ on := 10, ground := Go.Ground.guard }], guard := some (10, false) }) (v := ?vde17) rfl (by kernel_rfl) (by kernel_rfl) (by kernel_rfl) (by kernel_rfl) (fun _ _ _ h => h) (Or.inl ⟨by rfl, ?hyde17⟩) hHeld ?_
        case hyde17 => (intro wz hSw; (try dsimp only at hSw); have zc := KU7.out _ hSw; have z0 := zc.1; have z1 := zc.2.1; have z2 := zc.2.2.1; have z3 := zc.2.2.2; clear zc; go_simp; try with_reducible rfl)
        (try simp only [Act.put, List.setIfInBounds_toArray, List.set_cons_zero, List.set_cons_succ])
        refine WD_ready (rs := [12]) (by kernel_rfl) (by simp) ?_
        refine AllD.cons (o := _) rfl (fun K hK => ?_) AllD.nil
        rw [if_pos (by rfl)]
        go_simp
        refine (ST.out _ hHeld).mono ?_; rintro e w_56 ⟨rfl, b_56⟩
        try go_wp2_with fail
        refine hK.out _ _ (bt hHeld b_56) (fun hHeld => ?_)
        clear hK K
        (try simp only [Act.put, List.setIfInBounds_toArray, List.set_cons_zero, List.set_cons_succ])
        clear b_56
        refine WD_ready (rs := [14]) (by kernel_rfl) (by simp) ?_
        refine AllD.cons (o := _) rfl (fun K hK => ?_) AllD.nil
        rw [if_pos (by rfl)]
        go_simp
        refine (SU.out _ hHeld).mono ?_; rintro e w_57 ⟨rfl, b_57⟩
        try go_wp2_with fail
        refine hK.out _ _ (bt hHeld b_57) (fun hHeld => ?_)
        clear hK K
        (try simp only [Act.put, List.setIfInBounds_toArray, List.set_cons_zero, List.set_cons_succ])
        clear b_57
        refine WD_take (i := 15) (oi := { dst := some 63, op := Go.Op.binOp Go.BinOp.eql 9 (Go.Operand.tmp 60) (Go.Operand.tmp 62) 9, type := 4, pos := _, after := #[{ on := 12, ground := Go.Ground.data }, { on := 14, ground := Go.Ground.data }, { on := 10, ground := Go.Ground.guard }], guard := some (10, false) }) (v := ?vde15) rfl (by kernel_rfl) (by kernel_rfl) (by kernel_rfl) (by kernel_rfl) (fun _ _ _ h => h) (Or.inl ⟨by rfl, ?hyde15⟩) hHeld ?_
        case hyde15 => (intro wz hSw; (try dsimp only at hSw); go_simp; try with_reducible rfl)
        (try simp only [Act.put, List.setIfInBounds_toArray, List.set_cons_zero, List.set_cons_succ])
        refine WD_ready (rs := [18]) (by kernel_rfl) (by simp) ?_
        refine AllD.cons (o := _) rfl (fun K hK => ?_) AllD.nil
        rw [if_pos (by rfl)]
        go_simp
        refine (SMf.out _ hHeld).mono ?_; rintro e w_58 ⟨rfl, b_58⟩
        try go_wp2_with fail
        refine hK.out _ _ (bt hHeld b_58) (fun hHeld => ?_)
        clear hK K
        (try simp only [Act.put, List.setIfInBounds_toArray, List.set_cons_zero, List.set_cons_succ])
        clear b_58
        refine WD_take (i := 19) (oi := { dst := some 67, op := Go.Op.binOp Go.BinOp.eql 4 (Go.Operand.tmp 63) (Go.Operand.tmp 66) 4, type := 4, pos := _, after := #[{ on := 15, ground := Go.Ground.data }, { on := 18, ground := Go.Ground.data }, { on := 10, ground := Go.Ground.guard }], guard := some (10, false) }) (v := ?vde19) rfl (by kernel_rfl) (by kernel_rfl) (by kernel_rfl) (by kernel_rfl) (fun _ _ _ h => h) (Or.inl ⟨by rfl, ?hyde19⟩) hHeld ?_
        case hyde19 => (intro wz hSw; (try dsimp only at hSw); go_simp; try with_reducible rfl)
        (try simp only [Act.put, List.setIfInBounds_toArray, List.set_cons_zero, List.set_cons_succ])
        refine WD_take (i := 20) (oi := { dst := some 68, op := Go.Op.pick (Go.Operand.tmp 58) (Go.Operand.const (Go.Value.bool true)) (Go.Operand.tmp 67), type := 4, pos := _, after := #[{ on := 10, ground := Go.Ground.data }, { on := 19, ground := Go.Ground.data }], guard := none }) (v := ?vde20) rfl (by kernel_rfl) (by kernel_rfl) (by kernel_rfl) (by kernel_rfl) (fun _ _ _ h => h) (Or.inl ⟨by rfl, ?hyde20⟩) hHeld ?_
        case hyde20 => (intro wz hSw; (try dsimp only at hSw); go_simp; try with_reducible rfl)
        (try simp only [Act.put, List.setIfInBounds_toArray, List.set_cons_zero, List.set_cons_succ])
        refine WD_take (i := 21) (oi := { dst := some 69, op := Go.Op.move (Go.Operand.tmp 68), type := 4, pos := _, after := #[{ on := 20, ground := Go.Ground.data }, { on := 18, ground := Go.Ground.chain }], guard := none }) (v := ?vde21) rfl (by kernel_rfl) (by kernel_rfl) (by kernel_rfl) (by kernel_rfl) (fun _ _ _ h => h) (Or.inl ⟨by rfl, ?hyde21⟩) hHeld ?_
        case hyde21 => (intro wz hSw; (try dsimp only at hSw); go_simp; try with_reducible rfl)
        (try simp only [Act.put, List.setIfInBounds_toArray, List.set_cons_zero, List.set_cons_succ])
        refine WD_take (i := 22) (oi := { dst := some 70, op := Go.Op.load 27 (Go.Operand.tmp 3), type := 27, pos := _, after := #[{ on := 21, ground := Go.Ground.guard }], guard := some (21, false) }) (v := ?vde22) rfl (by kernel_rfl) (by kernel_rfl) (by kernel_rfl) (by kernel_rfl) (fun _ _ _ h => h) (Or.inl ⟨by rfl, ?hyde22⟩) hHeld ?_
        case hyde22 => (intro wz hSw; (try dsimp only at hSw); have zc := KT7.out _ hSw; have z0 := zc.1; have z1 := zc.2.1; have z2 := zc.2.2.1; have z3 := zc.2.2.2; clear zc; go_simp; try with_reducible rfl)
        (try simp only [Act.put, List.setIfInBounds_toArray, List.set_cons_zero, List.set_cons_succ])
        refine WD_ready (rs := [23]) (by kernel_rfl) (by simp) ?_
        refine AllD.cons (o := _) rfl (fun K hK => ?_) AllD.nil
        rw [if_pos (by rfl)]
        go_simp
        refine (OTx.out _ hHeld).mono ?_; rintro e w_38 ⟨rfl, b_38⟩
        try go_wp2_with fail
        refine hK.out _ _ (bt hHeld b_38) (fun hHeld => ?_)
        clear hK K
        (try simp only [Act.put, List.setIfInBounds_toArray, List.set_cons_zero, List.set_cons_succ])
        clear b_38
        refine WD_take (i := 24) (oi := { dst := some 72, op := Go.Op.pick (Go.Operand.tmp 69) (Go.Operand.const (Go.Value.bool true)) (Go.Operand.tmp 71), type := 4, pos := _, after := #[{ on := 21, ground := Go.Ground.data }, { on := 23, ground := Go.Ground.data }], guard := none }) (v := ?vde24) rfl (by kernel_rfl) (by kernel_rfl) (by kernel_rfl) (by kernel_rfl) (fun _ _ _ h => h) (Or.inl ⟨by rfl, ?hyde24⟩) hHeld ?_
        case hyde24 => (intro wz hSw; (try dsimp only at hSw); go_simp; try with_reducible rfl)
        (try simp only [Act.put, List.setIfInBounds_toArray, List.set_cons_zero, List.set_cons_succ])
        refine WD_take (i := 25) (oi := { dst := some 73, op := Go.Op.move (Go.Operand.tmp 72), type := 4, pos := _, after := #[{ on := 24, ground := Go.Ground.data }, { on := 23, ground := Go.Ground.chain }], guard := none }) (v := ?vde25) rfl (by kernel_rfl) (by kernel_rfl) (by kernel_rfl) (by kernel_rfl) (fun _ _ _ h => h) (Or.inl ⟨by rfl, ?hyde25⟩) hHeld ?_
        case hyde25 => (intro wz hSw; (try dsimp only at hSw); go_simp; try with_reducible rfl)
        (try simp only [Act.put, List.setIfInBounds_toArray, List.set_cons_zero, List.set_cons_succ])
        refine WD_take (i := 26) (oi := { dst := some 74, op := Go.Op.load 27 (Go.Operand.tmp 4), type := 27, pos := _, after := #[{ on := 25, ground := Go.Ground.guard }], guard := some (25, false) }) (v := ?vde26) rfl (by kernel_rfl) (by kernel_rfl) (by kernel_rfl) (by kernel_rfl) (fun _ _ _ h => h) (Or.inl ⟨by rfl, ?hyde26⟩) hHeld ?_
        case hyde26 => (intro wz hSw; (try dsimp only at hSw); have zc := KU7.out _ hSw; have z0 := zc.1; have z1 := zc.2.1; have z2 := zc.2.2.1; have z3 := zc.2.2.2; clear zc; go_simp; try with_reducible rfl)
        (try simp only [Act.put, List.setIfInBounds_toArray, List.set_cons_zero, List.set_cons_succ])
        have H27 := Lib.hid hHeld
        clear hHeld
        refine WD_ready (rs := [27]) (by kernel_rfl) (by simp) ?_
        refine AllD.last (o := _) rfl (by kernel_rfl) (fun K hK => ?_) AllD.nil
        rw [if_pos (by rfl)]
        go_simp
        refine (OUx.out _ H27.out).mono ?_; rintro e w9 ⟨rfl, b9⟩
        try go_wp2_with fail
        refine hK.out _ _ ?_
        clear hK K
        (try simp only [Act.put, List.setIfInBounds_toArray, List.set_cons_zero, List.set_cons_succ])
        refine WD_takeAny (i := 28) (oi := { dst := some 76, op := Go.Op.pick (Go.Operand.tmp 73) (Go.Operand.const (Go.Value.bool true)) (Go.Operand.tmp 75), type := 4, pos := _, after := #[{ on := 25, ground := Go.Ground.data }, { on := 27, ground := Go.Ground.data }], guard := none }) (v := ?vde28) rfl (by kernel_rfl) (by kernel_rfl) (by kernel_rfl) (by kernel_rfl) (fun _ _ _ h => h) (Or.inl ⟨by rfl, ?hyde28⟩) ?_
        case hyde28 => (intro wz _; go_simp; try with_reducible rfl)
        (try simp only [Act.put, List.setIfInBounds_toArray, List.set_cons_zero, List.set_cons_succ])
        refine WD_takeAny (i := 29) (oi := { dst := some 6, op := Go.Op.assign (Go.Operand.tmp 76), type := 4, pos := _, after := #[{ on := 28, ground := Go.Ground.data }, { on := 27, ground := Go.Ground.chain }, { on := 0, ground := Go.Ground.phase }, { on := 1, ground := Go.Ground.phase }, { on := 2, ground := Go.Ground.phase }, { on := 3, ground := Go.Ground.phase }, { on := 4, ground := Go.Ground.phase }, { on := 5, ground := Go.Ground.phase }, { on := 6, ground := Go.Ground.phase }, { on := 7, ground := Go.Ground.phase }, { on := 8, ground := Go.Ground.phase }, { on := 9, ground := Go.Ground.phase }, { on := 10, ground := Go.Ground.phase }, { on := 11, ground := Go.Ground.phase }, { on := 12, ground := Go.Ground.phase }, { on := 13, ground := Go.Ground.phase }, { on := 14, ground := Go.Ground.phase }, { on := 15, ground := Go.Ground.phase }, { on := 16, ground := Go.Ground.phase }, { on := 17, ground := Go.Ground.phase }, { on := 18, ground := Go.Ground.phase }, { on := 19, ground := Go.Ground.phase }, { on := 20, ground := Go.Ground.phase }, { on := 21, ground := Go.Ground.phase }, { on := 22, ground := Go.Ground.phase }, { on := 23, ground := Go.Ground.phase }, { on := 24, ground := Go.Ground.phase }, { on := 25, ground := Go.Ground.phase }, { on := 26, ground := Go.Ground.phase }, { on := 27, ground := Go.Ground.phase }, { on := 28, ground := Go.Ground.phase }], guard := none }) (v := ?vde29) rfl (by kernel_rfl) (by kernel_rfl) (by kernel_rfl) (by kernel_rfl) (fun _ _ _ h => h) (Or.inl ⟨by rfl, ?hyde29⟩) ?_
        case hyde29 => (intro wz _; go_simp; try with_reducible rfl)
        (try simp only [Act.put, List.setIfInBounds_toArray, List.set_cons_zero, List.set_cons_succ])
        refine WD_done (by kernel_rfl) ?_ _
        have HE := bt H27.out b9
        have FIN := Lib.hid (bt HB.out (bt B7.out HE))
        clear HE
        go_wp2
        go_ret
        exact ⟨rfl, FIN.out⟩
    have qse : (TV.toList == TU.toList) = false := beq_eq_false_iff_ne.2 (fun e => hse (toList_inj e))
    have qse2 : ¬ TV.toList = TU.toList := fun e => hse (toList_inj e)
    clear hVU hse
    refine wp_region_D [27] (fun w' => Below w7.heap.size w7 w') (by kernel_rfl) (bt B8.out (bdr _)) (fun hHeld => ?_)
    refine WD_take (i := 0) (oi := { dst := some 48, op := Go.Op.load 27 (Go.Operand.tmp 3), type := 27, pos := _, after := #[], guard := none }) (v := ?vdf0) rfl (by kernel_rfl) (by kernel_rfl) (by kernel_rfl) (by kernel_rfl) (fun _ _ _ h => h) (Or.inl ⟨by rfl, ?hydf0⟩) hHeld ?_
    case hydf0 => (intro wz hSw; (try dsimp only at hSw); have zc := KT7.out _ hSw; have z0 := zc.1; have z1 := zc.2.1; have z2 := zc.2.2.1; have z3 := zc.2.2.2; clear zc; go_simp; try with_reducible rfl)
    (try simp only [Act.put, List.setIfInBounds_toArray, List.set_cons_zero, List.set_cons_succ])
    refine WD_ready (rs := [1]) (by kernel_rfl) (by simp) ?_
    refine AllD.cons (o := _) rfl (fun K hK => ?_) AllD.nil
    rw [if_pos (by rfl)]
    go_simp
    refine (VT.out _ hHeld).mono ?_; rintro e w_59 ⟨A_59, c_59, rfl, o_59, b_59⟩
    try go_wp2_with fail
    refine hK.out _ _ (bt hHeld b_59.out) (fun hHeld => ?_)
    clear hK K
    (try simp only [Act.put, List.setIfInBounds_toArray, List.set_cons_zero, List.set_cons_succ])
    clear b_59 o_59
    refine WD_take (i := 2) (oi := { dst := some 50, op := Go.Op.call { callee := Go.Callee.builtin Go.Builtin.len, args := #[Go.Operand.tmp 49], argTypes := #[38] }, type := 3, pos := _, after := #[{ on := 1, ground := Go.Ground.data }], guard := none }) (v := ?vdf2) rfl (by kernel_rfl) (by kernel_rfl) (by kernel_rfl) (by kernel_rfl) (fun _ _ _ h => h) (Or.inl ⟨by rfl, ?hydf2⟩) hHeld ?_
    case hydf2 => (intro wz hSw; (try dsimp only at hSw); go_simp; try with_reducible rfl)
    (try simp only [Act.put, List.setIfInBounds_toArray, List.set_cons_zero, List.set_cons_succ])
    refine WD_take (i := 3) (oi := { dst := some 51, op := Go.Op.binOp Go.BinOp.gtr 3 (Go.Operand.tmp 50) (Go.Operand.const (Go.Value.int Go.IntKind.i64 0)) 3, type := 4, pos := _, after := #[{ on := 2, ground := Go.Ground.data }], guard := none }) (v := ?vdf3) rfl (by kernel_rfl) (by kernel_rfl) (by kernel_rfl) (by kernel_rfl) (fun _ _ _ h => h) (Or.inl ⟨by rfl, ?hydf3⟩) hHeld ?_
    case hydf3 => (intro wz hSw; (try dsimp only at hSw); go_simp; try with_reducible rfl)
    (try simp only [Act.put, List.setIfInBounds_toArray, List.set_cons_zero, List.set_cons_succ])
    refine WD_take (i := 4) (oi := { dst := some 52, op := Go.Op.move (Go.Operand.tmp 51), type := 4, pos := _, after := #[{ on := 3, ground := Go.Ground.data }, { on := 1, ground := Go.Ground.chain }], guard := none }) (v := ?vdf4) rfl (by kernel_rfl) (by kernel_rfl) (by kernel_rfl) (by kernel_rfl) (fun _ _ _ h => h) (Or.inl ⟨by rfl, ?hydf4⟩) hHeld ?_
    case hydf4 => (intro wz hSw; (try dsimp only at hSw); go_simp; try with_reducible rfl)
    (try simp only [Act.put, List.setIfInBounds_toArray, List.set_cons_zero, List.set_cons_succ])
    refine WD_take (i := 5) (oi := { dst := some 53, op := Go.Op.load 27 (Go.Operand.tmp 4), type := 27, pos := _, after := #[{ on := 4, ground := Go.Ground.guard }], guard := some (4, false) }) (v := ?vdf5) rfl (by kernel_rfl) (by kernel_rfl) (by kernel_rfl) (by kernel_rfl) (fun _ _ _ h => h) (Or.inl ⟨by rfl, ?hydf5⟩) hHeld ?_
    case hydf5 => (intro wz hSw; (try dsimp only at hSw); have zc := KU7.out _ hSw; have z0 := zc.1; have z1 := zc.2.1; have z2 := zc.2.2.1; have z3 := zc.2.2.2; clear zc; go_simp; try with_reducible rfl)
    (try simp only [Act.put, List.setIfInBounds_toArray, List.set_cons_zero, List.set_cons_succ])
    refine WD_ready (rs := [6]) (by kernel_rfl) (by simp) ?_
    refine AllD.cons (o := _) rfl (fun K hK => ?_) AllD.nil
    rw [if_pos (by rfl)]
    go_simp
    refine (VU.out _ hHeld).mono ?_; rintro e w_60 ⟨A_60, c_60, rfl, o_60, b_60⟩
    try go_wp2_with fail
    refine hK.out _ _ (bt hHeld b_60.out) (fun hHeld => ?_)
    clear hK K
    (try simp only [Act.put, List.setIfInBounds_toArray, List.set_cons_zero, List.set_cons_succ])
    clear b_60 o_60
    refine WD_take (i := 7) (oi := { dst := some 55, op := Go.Op.call { callee := Go.Callee.builtin Go.Builtin.len, args := #[Go.Operand.tmp 54], argTypes := #[38] }, type := 3, pos := _, after := #[{ on := 6, ground := Go.Ground.data }, { on := 4, ground := Go.Ground.guard }], guard := some (4, false) }) (v := ?vdf7) rfl (by kernel_rfl) (by kernel_rfl) (by kernel_rfl) (by kernel_rfl) (fun _ _ _ h => h) (Or.inl ⟨by rfl, ?hydf7⟩) hHeld ?_
    case hydf7 => (intro wz hSw; (try dsimp only at hSw); go_simp; try with_reducible rfl)
    (try simp only [Act.put, List.setIfInBounds_toArray, List.set_cons_zero, List.set_cons_succ])
    refine WD_take (i := 8) (oi := { dst := some 56, op := Go.Op.binOp Go.BinOp.gtr 3 (Go.Operand.tmp 55) (Go.Operand.const (Go.Value.int Go.IntKind.i64 0)) 3, type := 4, pos := _, after := #[{ on := 7, ground := Go.Ground.data }, { on := 4, ground := Go.Ground.guard }], guard := some (4, false) }) (v := ?vdf8) rfl (by kernel_rfl) (by kernel_rfl) (by kernel_rfl) (by kernel_rfl) (fun _ _ _ h => h) (Or.inl ⟨by rfl, ?hydf8⟩) hHeld ?_
    case hydf8 => (intro wz hSw; (try dsimp only at hSw); go_simp; try with_reducible rfl)
    (try simp only [Act.put, List.setIfInBounds_toArray, List.set_cons_zero, List.set_cons_succ])
    refine WD_take (i := 9) (oi := { dst := some 57, op := Go.Op.pick (Go.Operand.tmp 52) (Go.Operand.const (Go.Value.bool true)) (Go.Operand.tmp 56), type := 4, pos := _, after := #[{ on := 4, ground := Go.Ground.data }, { on := 8, ground := Go.Ground.data }], guard := none }) (v := ?vdf9) rfl (by kernel_rfl) (by kernel_rfl) (by kernel_rfl) (by kernel_rfl) (fun _ _ _ h => h) (Or.inl ⟨by rfl, ?hydf9⟩) hHeld ?_
    case hydf9 => (intro wz hSw; (try dsimp only at hSw); go_simp; try with_reducible rfl)
    (try simp only [Act.put, List.setIfInBounds_toArray, List.set_cons_zero, List.set_cons_succ])
    refine WD_take (i := 10) (oi := { dst := some 58, op := Go.Op.move (Go.Operand.tmp 57), type := 4, pos := _, after := #[{ on := 9, ground := Go.Ground.data }, { on := 6, ground := Go.Ground.chain }], guard := none }) (v := ?vdf10) rfl (by kernel_rfl) (by kernel_rfl) (by kernel_rfl) (by kernel_rfl) (fun _ _ _ h => h) (Or.inl ⟨by rfl, ?hydf10⟩) hHeld ?_
    case hydf10 => (intro wz hSw; (try dsimp only at hSw); go_simp; try with_reducible rfl)
    (try simp only [Act.put, List.setIfInBounds_toArray, List.set_cons_zero, List.set_cons_succ])
    refine WD_take (i := 11) (oi := { dst := some 59, op := Go.Op.load 27 (Go.Operand.tmp 3), type := 27, pos := _, after := #[{ on := 10, ground := Go.Ground.guard }], guard := some (10, false) }) (v := ?vdf11) rfl (by kernel_rfl) (by kernel_rfl) (by kernel_rfl) (by kernel_rfl) (fun _ _ _ h => h) (Or.inl ⟨by rfl, ?hydf11⟩) hHeld ?_
    case hydf11 => (intro wz hSw; (try dsimp only at hSw); have zc := KT7.out _ hSw; have z0 := zc.1; have z1 := zc.2.1; have z2 := zc.2.2.1; have z3 := zc.2.2.2; clear zc; go_simp; try with_reducible rfl)
    (try simp only [Act.put, List.setIfInBounds_toArray, List.set_cons_zero, List.set_cons_succ])
    refine WD_take (i := 13) (oi := { dst := some 61, op := Go.Op.load 27 (Go.Operand.tmp 4), type := 27, pos := _, after := #[{ on := 10, ground := Go.Ground.guard }], guard := some (10, false) }) (v := ?vdf13) rfl (by kernel_rfl) (by kernel_rfl) (by kernel_rfl) (by kernel_rfl) (fun _ _ _ h => h) (Or.inl ⟨by rfl, ?hydf13⟩) hHeld ?_
    case hydf13 => (intro wz hSw; (try dsimp only at hSw); have zc := KU7.out _ hSw; have z0 := zc.1; have z1 := zc.2.1; have z2 := zc.2.2.1; have z3 := zc.2.2.2; clear zc; go_simp; try with_reducible rfl)
    (try simp only [Act.put, List.setIfInBounds_toArray, List.set_cons_zero, List.set_cons_succ])
    refine WD_take (i := 16) (oi := { dst := some 64, op := Go.Op.load 27 (Go.Operand.tmp 3), type := 27, pos := _, after := #[{ on := 10, ground := Go.Ground.guard }], guard := some (10, false) }) (v := ?vdf16) rfl (by kernel_rfl) (by kernel_rfl) (by kernel_rfl) (by kernel_rfl) (fun _ _ _ h => h) (Or.inl ⟨by rfl, ?hydf16⟩) hHeld ?_
    case hydf16 => (intro wz hSw; (try dsimp only at hSw); have zc := KT7.out _ hSw; have z0 := zc.1; have z1 := zc.2.1; have z2 := zc.2.2.1; have z3 := zc.2.2.2; clear zc; go_simp; try with_reducible rfl)
    (try simp only [Act.put, List.setIfInBounds_toArray, List.set_cons_zero, List.set_cons_succ])
    refine WD_take (i := 17) (oi := { dst := some 65, op := Go.Op.load 27 (Go.Operand.tmp 4), type := 27, pos := _, after := #[{ on := 10, ground := Go.Ground.guard }], guard := some (10, false) }) (v := ?vdf17) rfl (by kernel_rfl) (by kernel_rfl) (by kernel_rfl) (by kernel_rfl) (fun _ _ _ h => h) (Or.inl ⟨by rfl, ?hydf17⟩) hHeld ?_
    case hydf17 => (intro wz hSw; (try dsimp only at hSw); have zc := KU7.out _ hSw; have z0 := zc.1; have z1 := zc.2.1; have z2 := zc.2.2.1; have z3 := zc.2.2.2; clear zc; go_simp; try with_reducible rfl)
    (try simp only [Act.put, List.setIfInBounds_toArray, List.set_cons_zero, List.set_cons_succ])
    refine WD_ready (rs := [12]) (by kernel_rfl) (by simp) ?_
    refine AllD.cons (o := _) rfl (fun K hK => ?_) AllD.nil
    rw [if_pos (by rfl)]
    go_simp
    refine (ST.out _ hHeld).mono ?_; rintro e w_61 ⟨rfl, b_61⟩
    try go_wp2_with fail
    refine hK.out _ _ (bt hHeld b_61) (fun hHeld => ?_)
    clear hK K
    (try simp only [Act.put, List.setIfInBounds_toArray, List.set_cons_zero, List.set_cons_succ])
    clear b_61
    refine WD_ready (rs := [14]) (by kernel_rfl) (by simp) ?_
    refine AllD.cons (o := _) rfl (fun K hK => ?_) AllD.nil
    rw [if_pos (by rfl)]
    go_simp
    refine (SU.out _ hHeld).mono ?_; rintro e w_62 ⟨rfl, b_62⟩
    try go_wp2_with fail
    refine hK.out _ _ (bt hHeld b_62) (fun hHeld => ?_)
    clear hK K
    (try simp only [Act.put, List.setIfInBounds_toArray, List.set_cons_zero, List.set_cons_succ])
    clear b_62
    refine WD_take (i := 15) (oi := { dst := some 63, op := Go.Op.binOp Go.BinOp.eql 9 (Go.Operand.tmp 60) (Go.Operand.tmp 62) 9, type := 4, pos := _, after := #[{ on := 12, ground := Go.Ground.data }, { on := 14, ground := Go.Ground.data }, { on := 10, ground := Go.Ground.guard }], guard := some (10, false) }) (v := ?vdf15) rfl (by kernel_rfl) (by kernel_rfl) (by kernel_rfl) (by kernel_rfl) (fun _ _ _ h => h) (Or.inl ⟨by rfl, ?hydf15⟩) hHeld ?_
    case hydf15 => (intro wz hSw; (try dsimp only at hSw); go_simp; try with_reducible rfl)
    (try simp only [Act.put, List.setIfInBounds_toArray, List.set_cons_zero, List.set_cons_succ])
    refine WD_ready (rs := [18]) (by kernel_rfl) (by simp) ?_
    refine AllD.cons (o := _) rfl (fun K hK => ?_) AllD.nil
    rw [if_pos (by rfl)]
    go_simp
    refine (SMf.out _ hHeld).mono ?_; rintro e w_63 ⟨rfl, b_63⟩
    try go_wp2_with fail
    refine hK.out _ _ (bt hHeld b_63) (fun hHeld => ?_)
    clear hK K
    (try simp only [Act.put, List.setIfInBounds_toArray, List.set_cons_zero, List.set_cons_succ])
    clear b_63
    refine WD_take (i := 19) (oi := { dst := some 67, op := Go.Op.binOp Go.BinOp.eql 4 (Go.Operand.tmp 63) (Go.Operand.tmp 66) 4, type := 4, pos := _, after := #[{ on := 15, ground := Go.Ground.data }, { on := 18, ground := Go.Ground.data }, { on := 10, ground := Go.Ground.guard }], guard := some (10, false) }) (v := ?vdf19) rfl (by kernel_rfl) (by kernel_rfl) (by kernel_rfl) (by kernel_rfl) (fun _ _ _ h => h) (Or.inl ⟨by rfl, ?hydf19⟩) hHeld ?_
    case hydf19 => (intro wz hSw; (try dsimp only at hSw); go_simp; try with_reducible rfl)
    (try simp only [Act.put, List.setIfInBounds_toArray, List.set_cons_zero, List.set_cons_succ])
    refine WD_take (i := 20) (oi := { dst := some 68, op := Go.Op.pick (Go.Operand.tmp 58) (Go.Operand.const (Go.Value.bool true)) (Go.Operand.tmp 67), type := 4, pos := _, after := #[{ on := 10, ground := Go.Ground.data }, { on := 19, ground := Go.Ground.data }], guard := none }) (v := ?vdf20) rfl (by kernel_rfl) (by kernel_rfl) (by kernel_rfl) (by kernel_rfl) (fun _ _ _ h => h) (Or.inl ⟨by rfl, ?hydf20⟩) hHeld ?_
    case hydf20 => (intro wz hSw; (try dsimp only at hSw); go_simp; try with_reducible rfl)
    (try simp only [Act.put, List.setIfInBounds_toArray, List.set_cons_zero, List.set_cons_succ])
    refine WD_take (i := 21) (oi := { dst := some 69, op := Go.Op.move (Go.Operand.tmp 68), type := 4, pos := _, after := #[{ on := 20, ground := Go.Ground.data }, { on := 18, ground := Go.Ground.chain }], guard := none }) (v := ?vdf21) rfl (by kernel_rfl) (by kernel_rfl) (by kernel_rfl) (by kernel_rfl) (fun _ _ _ h => h) (Or.inl ⟨by rfl, ?hydf21⟩) hHeld ?_
    case hydf21 => (intro wz hSw; (try dsimp only at hSw); go_simp; try with_reducible rfl)
    (try simp only [Act.put, List.setIfInBounds_toArray, List.set_cons_zero, List.set_cons_succ])
    refine WD_take (i := 22) (oi := { dst := some 70, op := Go.Op.load 27 (Go.Operand.tmp 3), type := 27, pos := _, after := #[{ on := 21, ground := Go.Ground.guard }], guard := some (21, false) }) (v := undef) rfl (by kernel_rfl) (by kernel_rfl) (by kernel_rfl) (by kernel_rfl) (fun _ _ _ h => h) (Or.inr ⟨by rfl, rfl⟩) hHeld ?_
    (try simp only [Act.put, List.setIfInBounds_toArray, List.set_cons_zero, List.set_cons_succ])
    refine WD_ready (rs := [23]) (by kernel_rfl) (by simp) ?_
    refine AllD.cons (o := { dst := some 71, op := Go.Op.call { callee := Go.Callee.value (Go.Operand.func 33), args := #[Go.Operand.tmp 70], argTypes := #[27] }, type := 4, pos := _, after := #[{ on := 22, ground := Go.Ground.data }, { on := 21, ground := Go.Ground.chain }, { on := 21, ground := Go.Ground.guard }], guard := some (21, false) }) rfl (fun K hK => ?_) AllD.nil
    rw [if_neg (fun h => nomatch h)]
    refine hK.out _ _ hHeld (fun hHeld => ?_)
    clear hK K
    (try simp only [Act.put, List.setIfInBounds_toArray, List.set_cons_zero, List.set_cons_succ])
    refine WD_take (i := 24) (oi := { dst := some 72, op := Go.Op.pick (Go.Operand.tmp 69) (Go.Operand.const (Go.Value.bool true)) (Go.Operand.tmp 71), type := 4, pos := _, after := #[{ on := 21, ground := Go.Ground.data }, { on := 23, ground := Go.Ground.data }], guard := none }) (v := ?vdf24) rfl (by kernel_rfl) (by kernel_rfl) (by kernel_rfl) (by kernel_rfl) (fun _ _ _ h => h) (Or.inl ⟨by rfl, ?hydf24⟩) hHeld ?_
    case hydf24 => (intro wz hSw; (try dsimp only at hSw); go_simp; try with_reducible rfl)
    (try simp only [Act.put, List.setIfInBounds_toArray, List.set_cons_zero, List.set_cons_succ])
    refine WD_take (i := 25) (oi := { dst := some 73, op := Go.Op.move (Go.Operand.tmp 72), type := 4, pos := _, after := #[{ on := 24, ground := Go.Ground.data }, { on := 23, ground := Go.Ground.chain }], guard := none }) (v := ?vdf25) rfl (by kernel_rfl) (by kernel_rfl) (by kernel_rfl) (by kernel_rfl) (fun _ _ _ h => h) (Or.inl ⟨by rfl, ?hydf25⟩) hHeld ?_
    case hydf25 => (intro wz hSw; (try dsimp only at hSw); go_simp; try with_reducible rfl)
    (try simp only [Act.put, List.setIfInBounds_toArray, List.set_cons_zero, List.set_cons_succ])
    refine WD_take (i := 26) (oi := { dst := some 74, op := Go.Op.load 27 (Go.Operand.tmp 4), type := 27, pos := _, after := #[{ on := 25, ground := Go.Ground.guard }], guard := some (25, false) }) (v := undef) rfl (by kernel_rfl) (by kernel_rfl) (by kernel_rfl) (by kernel_rfl) (fun _ _ _ h => h) (Or.inr ⟨by rfl, rfl⟩) hHeld ?_
    (try simp only [Act.put, List.setIfInBounds_toArray, List.set_cons_zero, List.set_cons_succ])
    have H27 := Lib.hid hHeld
    refine WD_ready (rs := [27]) (by kernel_rfl) (by simp) ?_
    refine AllD.last (o := { dst := some 75, op := Go.Op.call { callee := Go.Callee.value (Go.Operand.func 33), args := #[Go.Operand.tmp 74], argTypes := #[27] }, type := 4, pos := _, after := #[{ on := 26, ground := Go.Ground.data }, { on := 25, ground := Go.Ground.chain }, { on := 25, ground := Go.Ground.guard }], guard := some (25, false) }) rfl (by kernel_rfl) (fun K hK => ?_) AllD.nil
    rw [if_neg (fun h => nomatch h)]
    refine hK.out _ _ ?_
    clear hK K
    (try simp only [Act.put, List.setIfInBounds_toArray, List.set_cons_zero, List.set_cons_succ])
    refine WD_takeAny (i := 28) (oi := { dst := some 76, op := Go.Op.pick (Go.Operand.tmp 73) (Go.Operand.const (Go.Value.bool true)) (Go.Operand.tmp 75), type := 4, pos := _, after := #[{ on := 25, ground := Go.Ground.data }, { on := 27, ground := Go.Ground.data }], guard := none }) (v := ?vdf28) rfl (by kernel_rfl) (by kernel_rfl) (by kernel_rfl) (by kernel_rfl) (fun _ _ _ h => h) (Or.inl ⟨by rfl, ?hydf28⟩) ?_
    case hydf28 => (intro wz _; go_simp; try with_reducible rfl)
    (try simp only [Act.put, List.setIfInBounds_toArray, List.set_cons_zero, List.set_cons_succ])
    refine WD_takeAny (i := 29) (oi := { dst := some 6, op := Go.Op.assign (Go.Operand.tmp 76), type := 4, pos := _, after := #[{ on := 28, ground := Go.Ground.data }, { on := 27, ground := Go.Ground.chain }, { on := 0, ground := Go.Ground.phase }, { on := 1, ground := Go.Ground.phase }, { on := 2, ground := Go.Ground.phase }, { on := 3, ground := Go.Ground.phase }, { on := 4, ground := Go.Ground.phase }, { on := 5, ground := Go.Ground.phase }, { on := 6, ground := Go.Ground.phase }, { on := 7, ground := Go.Ground.phase }, { on := 8, ground := Go.Ground.phase }, { on := 9, ground := Go.Ground.phase }, { on := 10, ground := Go.Ground.phase }, { on := 11, ground := Go.Ground.phase }, { on := 12, ground := Go.Ground.phase }, { on := 13, ground := Go.Ground.phase }, { on := 14, ground := Go.Ground.phase }, { on := 15, ground := Go.Ground.phase }, { on := 16, ground := Go.Ground.phase }, { on := 17, ground := Go.Ground.phase }, { on := 18, ground := Go.Ground.phase }, { on := 19, ground := Go.Ground.phase }, { on := 20, ground := Go.Ground.phase }, { on := 21, ground := Go.Ground.phase }, { on := 22, ground := Go.Ground.phase }, { on := 23, ground := Go.Ground.phase }, { on := 24, ground := Go.Ground.phase }, { on := 25, ground := Go.Ground.phase }, { on := 26, ground := Go.Ground.phase }, { on := 27, ground := Go.Ground.phase }, { on := 28, ground := Go.Ground.phase }], guard := none }) (v := ?vdf29) rfl (by kernel_rfl) (by kernel_rfl) (by kernel_rfl) (by kernel_rfl) (fun _ _ _ h => h) (Or.inl ⟨by rfl, ?hydf29⟩) ?_
    case hydf29 => (intro wz _; go_simp; try with_reducible rfl)
    (try simp only [Act.put, List.setIfInBounds_toArray, List.set_cons_zero, List.set_cons_succ])
    refine WD_done (by kernel_rfl) ?_ _
    have HE := H27.out
    have FIN := Lib.hid (bt HB.out (bt B7.out HE))
    clear HE
    go_wp2
    go_ret
    exact ⟨rfl, FIN.out⟩
end Go.Proofs.YtdkfimejabanlaaDoor
