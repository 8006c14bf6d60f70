import Derived.Test.YtdkfimejabanlaaDoorYw
import Derived.Test.YtdkfimejabanlaaDoorTs
namespace Go.Proofs.YtdkfimejabanlaaDoor
open DR
open Go.ChangeShapes Go.WideShapes Go.ChangeAt Go.RowKit Go.WideMaps
set_option linter.unusedVariables false
set_option linter.unusedSimpArgs false
theorem most32 : MostOk 6 32 := by simp [MostOk]
theorem news_raw (w : World) : Calls Tryd.prog 11 #[] w fun e w' => e = .returned (.pointer (some ⟨w.heap.size, 0, none⟩)) ∧ w'.heap[w.heap.size]? = some (.cells #[.int .i64 0, .slice none 0 0] SubY (0, 0)) ∧ Below w.heap.size w w' := by
  have h := heap_alloc_new w (.cells #[.int .i64 0, .slice none 0 0] SubY)
  have h2 := below_alloc w (.cells #[.int .i64 0, .slice none 0 0] SubY)
  go_enter Tryd.func11, Tryd.ntmps11
  go_wp2
  go_ret
  exact ⟨rfl, h, h2⟩
theorem SubS.raw {w : World} {Pr : Nat → Prop} {B sb : Nat} (h : w.heap[sb]? = some (.cells #[.int .i64 0, .slice none 0 0] SubY (0, 0))) (hB : B ≤ sb) (h1 : ¬ Pr sb) (h2 : ∀ b, Pr b → b < w.heap.size) : SubS w Pr B sb 0 [] :=
  ⟨fun _ => False, .slice none 0 0, [], ⟨h, World.ownsRow_nil _ _ _ _, rfl, fun e => e.elim (fun e => e) h1, fun b hb => (by cases hb), hB, fun b e => e.elim (fun e => e.elim) (h2 b), fun _ e => e.elim⟩, fun _ e => e.elim⟩
abbrev no1 : Nat → Prop := fun _ => False
set_option maxRecDepth 100000 in
set_option maxHeartbeats 16000000 in
theorem order_walk {a b : TT} {va vb : Value} {w : World} (hAw : ∀ W, Calls Tryd.prog 10 #[] W fun e W' => e = .returned (.bool true) ∧ Below W.heap.size W W') (ha : TIn w any0 a va) (hb : TIn w any0 b vb) :
    Calls Tryd.prog 8 #[va, vb] w fun e w' => e = .returned (.bool true) ∧ Below w.heap.size w w' := by
  have HAW := Lib.hid hAw
  have HIA := Lib.hid ha; have HIB := Lib.hid hb
  obtain ⟨Aa, ca, rfl, hAa⟩ := ha
  obtain ⟨Ab, cb, rfl, hAb⟩ := hb
  have CSA := Lib.hid (fun W (hW : Below w.heap.size w W) => small_any 6 a _ 32 W most32 (HIA.out.later hW))
  have CSB := Lib.hid (fun W (hW : Below w.heap.size w W) => small_any 6 b _ 32 W most32 (HIB.out.later hW))
  obtain ⟨wB, hwB⟩ : ∃ z, z = (w.alloc (.cells #[.int .i64 a.k, .string a.nm, .int .i64 a.vr, .slice Aa a.args.length ca] 27)).alloc (.cells #[.int .i64 b.k, .string b.nm, .int .i64 b.vr, .slice Ab b.args.length cb] 27) := ⟨_, rfl⟩
  have BX := two_box (w := w) (.cells #[.int .i64 a.k, .string a.nm, .int .i64 a.vr, .slice Aa a.args.length ca] 27) (.cells #[.int .i64 b.k, .string b.nm, .int .i64 b.vr, .slice Ab b.args.length cb] 27)
  rw [← hwB] at BX
  have HB := Lib.hid (show Below w.heap.size w wB by rw [hwB]; exact bt (below_alloc w _) (below_alloc _ _))
  have HZ := Lib.hid (show wB.heap.size = w.heap.size + 2 by rw [hwB]; simp)
  have HX := Lib.hid BX
  have HWB := Lib.hid hwB
  have KA := Lib.hid (fun W (hW : Below wB.heap.size wB W) => cells4 ((hW.block w.heap.size (by rw [HZ.out]; omega)).trans HX.out.1))
  have KB := Lib.hid (fun W (hW : Below wB.heap.size wB W) => cells4 ((hW.block (w.heap.size + 1) (by rw [HZ.out]; omega)).trans HX.out.2))
  unfold tv at CSA CSB HIA HIB ⊢
  clear BX hwB hAw hAa hAb
  cases h0 : bigT 6 a with
  | true =>
    rw [h0] at CSA
    as_aux_lemma =>
    go_enter Tryd.func8, Tryd.ntmps8
    go_wp2_with fail
    rw [← HWB.out]
    try go_wp2_with fail
    refine (HAW.out _).mono ?_; rintro e w1 ⟨rfl, b1⟩
    have B1 := Lib.hid b1
    clear b1
    obtain ⟨x0, x1, x2, x3⟩ := KA.out _ B1.out
    go_wp2_with fail
    refine (CSA.out _ (bt HB.out B1.out)).mono ?_; rintro e w2 ⟨rfl, b2⟩
    have B2 := Lib.hid (bt B1.out b2)
    clear b2 x0 x1 x2 x3
    go_wp2
    go_ret
    exact ⟨rfl, bt HB.out B2.out⟩
  | false =>
  rw [h0] at CSA
  cases h1 : bigT 6 b with
  | true =>
    rw [h1] at CSB
    as_aux_lemma =>
    go_enter Tryd.func8, Tryd.ntmps8
    go_wp2_with fail
    rw [← HWB.out]
    try go_wp2_with fail
    refine (HAW.out _).mono ?_; rintro e w1 ⟨rfl, b1⟩
    have B1 := Lib.hid b1
    clear b1
    obtain ⟨x0, x1, x2, x3⟩ := KA.out _ B1.out
    go_wp2_with fail
    refine (CSA.out _ (bt HB.out B1.out)).mono ?_; rintro e w2 ⟨rfl, b2⟩
    have B2 := Lib.hid (bt B1.out b2)
    clear b2 x0 x1 x2 x3
    obtain ⟨x0, x1, x2, x3⟩ := KB.out _ B2.out
    go_wp2_with fail
    refine (CSB.out _ (bt HB.out B2.out)).mono ?_; rintro e w3 ⟨rfl, b3⟩
    have B3 := Lib.hid (bt B2.out b3)
    clear b3 x0 x1 x2 x3
    go_wp2
    go_ret
    exact ⟨rfl, bt HB.out B3.out⟩
  | false =>
  rw [h1] at CSB
  have GA := Lib.hid (fun W (hW : Below w.heap.size w W) => good_any (d := 7) (Nat.le_refl 7) (big_mono (by omega) a h0) (HIA.out.later hW))
  have GB := Lib.hid (fun W (hW : Below w.heap.size w W) => good_any (d := 7) (Nat.le_refl 7) (big_mono (by omega) b h1) (HIB.out.later hW))
  cases h2 : goodT a with
  | false =>
    rw [h2] at GA
    as_aux_lemma =>
    go_enter Tryd.func8, Tryd.ntmps8
    go_wp2_with fail
    rw [← HWB.out]
    try go_wp2_with fail
    refine (HAW.out _).mono ?_; rintro e w1 ⟨rfl, b1⟩
    have B1 := Lib.hid b1
    clear b1
    obtain ⟨x0, x1, x2, x3⟩ := KA.out _ B1.out
    go_wp2_with fail
    refine (CSA.out _ (bt HB.out B1.out)).mono ?_; rintro e w2 ⟨rfl, b2⟩
    have B2 := Lib.hid (bt B1.out b2)
    clear b2 x0 x1 x2 x3
    obtain ⟨x0, x1, x2, x3⟩ := KB.out _ B2.out
    go_wp2_with fail
    refine (CSB.out _ (bt HB.out B2.out)).mono ?_; rintro e w3 ⟨rfl, b3⟩
    have B3 := Lib.hid (bt B2.out b3)
    clear b3 x0 x1 x2 x3
    obtain ⟨x0, x1, x2, x3⟩ := KA.out _ B3.out
    go_wp2_with fail
    refine (GA.out _ (bt HB.out B3.out)).mono ?_; rintro e w4 ⟨rfl, b4⟩
    have B4 := Lib.hid (bt B3.out b4)
    clear b4 x0 x1 x2 x3
    go_wp2
    go_ret
    exact ⟨rfl, bt HB.out B4.out⟩
  | true =>
  rw [h2] at GA
  cases h3 : goodT b with
  | false =>
    rw [h3] at GB
    as_aux_lemma =>
    go_enter Tryd.func8, Tryd.ntmps8
    go_wp2_with fail
    rw [← HWB.out]
    try go_wp2_with fail
    refine (HAW.out _).mono ?_; rintro e w1 ⟨rfl, b1⟩
    have B1 := Lib.hid b1
    clear b1
    obtain ⟨x0, x1, x2, x3⟩ := KA.out _ B1.out
    go_wp2_with fail
    refine (CSA.out _ (bt HB.out B1.out)).mono ?_; rintro e w2 ⟨rfl, b2⟩
    have B2 := Lib.hid (bt B1.out b2)
    clear b2 x0 x1 x2 x3
    obtain ⟨x0, x1, x2, x3⟩ := KB.out _ B2.out
    go_wp2_with fail
    refine (CSB.out _ (bt HB.out B2.out)).mono ?_; rintro e w3 ⟨rfl, b3⟩
    have B3 := Lib.hid (bt B2.out b3)
    clear b3 x0 x1 x2 x3
    obtain ⟨x0, x1, x2, x3⟩ := KA.out _ B3.out
    go_wp2_with fail
    refine (GA.out _ (bt HB.out B3.out)).mono ?_; rintro e w4 ⟨rfl, b4⟩
    have B4 := Lib.hid (bt B3.out b4)
    clear b4 x0 x1 x2 x3
    obtain ⟨x0, x1, x2, x3⟩ := KB.out _ B4.out
    go_wp2_with fail
    refine (GB.out _ (bt HB.out B4.out)).mono ?_; rintro e w5 ⟨rfl, b5⟩
    have B5 := Lib.hid (bt B4.out b5)
    clear b5 x0 x1 x2 x3
    go_wp2
    go_ret
    exact ⟨rfl, bt HB.out B5.out⟩
  | true =>
  rw [h3] at GB
  have HG := Lib.hid (show (uniG [] a b).1 = 0 → bigT 506 (apvF (uniG [] a b).2 a) = false ∧ shp (apvF (uniG [] a b).2 a) = true ∧ (varsT (apvF (uniG [] a b).2 a) []).length ≤ 99 ∧ (txt (apvF (uniG [] a b).2 a) []).size ≤ 900000 from fun he => order_show h0 h1 h2 h3 he)
  have HI := Lib.hid (uniG_inv sinv_nil a b).1
  have HAP := Lib.hid (show apG (uniG [] a b).2 a = apvF (uniG [] a b).2 a by unfold apG; rw [if_pos h2])
  have HCM := Lib.hid (uniG_comm [] b a)
  have BGA := Lib.hid (big_mono (d' := 7) (by omega) a h0)
  have BGB := Lib.hid (big_mono (d' := 7) (by omega) b h1)
  clear h0 h1 h2 h3
  go_enter Tryd.func8, Tryd.ntmps8
  go_wp2_with fail
  rw [← HWB.out]
  try go_wp2_with fail
  refine (HAW.out _).mono ?_; rintro e w1 ⟨rfl, b1⟩
  have B1 := Lib.hid b1
  clear b1
  obtain ⟨x0, x1, x2, x3⟩ := KA.out _ B1.out
  go_wp2_with fail
  refine (CSA.out _ (bt HB.out B1.out)).mono ?_; rintro e w2 ⟨rfl, b2⟩
  have B2 := Lib.hid (bt B1.out b2)
  clear b2 x0 x1 x2 x3
  obtain ⟨x0, x1, x2, x3⟩ := KB.out _ B2.out
  go_wp2_with fail
  refine (CSB.out _ (bt HB.out B2.out)).mono ?_; rintro e w3 ⟨rfl, b3⟩
  have B3 := Lib.hid (bt B2.out b3)
  clear b3 x0 x1 x2 x3
  obtain ⟨x0, x1, x2, x3⟩ := KA.out _ B3.out
  go_wp2_with fail
  refine (GA.out _ (bt HB.out B3.out)).mono ?_; rintro e w4 ⟨rfl, b4⟩
  have B4 := Lib.hid (bt B3.out b4)
  clear b4 x0 x1 x2 x3
  obtain ⟨x0, x1, x2, x3⟩ := KB.out _ B4.out
  go_wp2_with fail
  refine (GB.out _ (bt HB.out B4.out)).mono ?_; rintro e w5 ⟨rfl, b5⟩
  have B5 := Lib.hid (bt B4.out b5)
  clear b5 x0 x1 x2 x3
  go_wp2_with fail
  refine (news_raw _).mono ?_; rintro e w6 ⟨rfl, s6, b6⟩
  have S6 := Lib.hid s6
  have B6 := Lib.hid b6
  clear s6 b6
  go_wp2_with fail
  refine (news_raw _).mono ?_; rintro e w7 ⟨rfl, s7, b7⟩
  obtain ⟨s1, hs1⟩ : ∃ z, z = w5.heap.size := ⟨_, rfl⟩
  obtain ⟨s2, hs2⟩ : ∃ z, z = w6.heap.size := ⟨_, rfl⟩
  have L6 := Lib.hid (show s1 < s2 by rw [hs1, hs2]; exact (Array.getElem?_eq_some_iff.1 S6.out).1)
  have L7 := Lib.hid (show s2 < w7.heap.size by rw [hs2]; exact (Array.getElem?_eq_some_iff.1 s7).1)
  have C1 := Lib.hid (show w7.heap[s1]? = some (.cells #[.int .i64 0, .slice none 0 0] SubY (0, 0)) by rw [hs1]; exact (b7.block _ (by have := L6.out; omega)).trans S6.out)
  have C2 := Lib.hid (show w7.heap[s2]? = some (.cells #[.int .i64 0, .slice none 0 0] SubY (0, 0)) by rw [hs2]; exact s7)
  rw [← hs1, ← hs2]
  have B7 := Lib.hid (show Below wB.heap.size wB w7 from bt B5.out (bt B6.out b7))
  have HS1 := Lib.hid (show wB.heap.size ≤ s1 by rw [hs1]; exact B5.out.size)
  clear s7 b7 hs1 hs2 S6 B6
  have FB := Lib.hid (show ∀ W, Frm w7 W (fun q => s1 ≤ q) → Below wB.heap.size wB W from fun W hF => B7.out.trans (hF.below (fun q hq => by have : s1 ≤ q := hq; have := HS1.out; omega) B7.out.size))
  have FW := Lib.hid (show ∀ W, Frm w7 W (fun q => s1 ≤ q) → Below w.heap.size w W from fun W hF => bt HB.out (FB.out W hF))
  have F0 := Lib.hid (show Frm w7 w7.drew (fun q => s1 ≤ q) from ⟨rfl, rfl, rfl, Nat.le_refl _, fun _ _ _ => rfl⟩)
  have SS1 := Lib.hid (SubS.raw (Pr := fun q => q = s2) (B := s1) C1.out (Nat.le_refl _) (by have := L6.out; omega) (fun q (e : q = s2) => by have := L7.out; omega))
  have UN1 := Lib.hid (unifyS (w := w7.drew) sinv_nil (SS1.out.later (bdr w7)) (show s1 ≤ w7.drew.heap.size by have := L6.out; have := L7.out; show s1 ≤ w7.heap.size; omega) BGA.out BGB.out (HIA.out.later (FW.out _ F0.out)) (HIB.out.later (FW.out _ F0.out)))
  have UN2 := Lib.hid (fun (W : World) (hF : Frm w7 W (fun q => s1 ≤ q)) (hF2 : W.heap[s2]? = w7.heap[s2]?) => (unifyS (Pr := fun q => q ≠ s2 ∧ q < W.heap.size) (B := s1) (sb := s2) (n := 0) (w := W) sinv_nil (SubS.raw (hF2.trans C2.out) (Nat.le_of_lt L6.out) (fun e => e.1 rfl) (fun q e => e.2)) (by have := hF.size; have := L6.out; have := L7.out; omega) BGB.out BGA.out (HIB.out.later (FW.out _ hF)) (HIA.out.later (FW.out _ hF))))
  rw [HCM.out] at UN2
  obtain ⟨⟨er, St⟩, hq⟩ : ∃ q, q = uniG [] a b := ⟨_, rfl⟩
  rw [← hq] at UN1 UN2 HG HI HAP
  obtain ⟨T, hT⟩ : ∃ T, T = apvF St a := ⟨_, rfl⟩
  have HAP2 := Lib.hid (show apG St a = T by rw [hT]; exact HAP.out)
  have HG2 := Lib.hid (show er = 0 → bigT 506 T = false ∧ shp T = true ∧ (varsT T []).length ≤ 99 ∧ (txt T []).size ≤ 900000 by rw [hT]; exact HG.out)
  have HI2 := Lib.hid (show SInv St from HI.out)
  have HL72 := Lib.hid (show s2 < w7.heap.size ∧ s1 < s2 from ⟨L7.out, L6.out⟩)
  clear hq hT HG HAP HI HCM CSA CSB GA GB HAW
  go_wp2_with fail
  refine wp_region_D [7] (fun w' => Frm w7 w' (fun q => s1 ≤ q)) (by kernel_rfl) (F0.out) (fun hHeld => ?_)
  refine WDt 0 { dst := some 31, op := .move (.tmp 5), type := 23, pos := _, after := #[], guard := none } (v := ?va0) rfl (by kernel_rfl) (fun _ _ _ h => h) (Or.inl ⟨by rfl, ?hya0⟩) hHeld ?_
  case hya0 => (intro wz hSw; (try dsimp only at hSw); go_simp; try with_reducible rfl)
  (try simp only [putz])
  refine WDt 1 { dst := some 32, op := .load 27 (.tmp 2), type := 27, pos := _, after := #[], guard := none } (v := ?va1) rfl (by kernel_rfl) (fun _ _ _ h => h) (Or.inl ⟨by rfl, ?hya1⟩) hHeld ?_
  case hya1 => (intro wz hSw; (try dsimp only at hSw); obtain ⟨z0, z1, z2, z3⟩ := KA.out _ (FB.out _ hSw); go_simp; try with_reducible rfl)
  (try simp only [putz])
  refine WDt 2 { dst := some 33, op := .load 27 (.tmp 3), type := 27, pos := _, after := #[], guard := none } (v := ?va2) rfl (by kernel_rfl) (fun _ _ _ h => h) (Or.inl ⟨by rfl, ?hya2⟩) hHeld ?_
  case hya2 => (intro wz hSw; (try dsimp only at hSw); obtain ⟨z0, z1, z2, z3⟩ := KB.out _ (FB.out _ hSw); go_simp; try with_reducible rfl)
  (try simp only [putz])
  refine WDt 4 { dst := some 35, op := .move (.tmp 6), type := 23, pos := _, after := #[], guard := none } (v := ?va4) rfl (by kernel_rfl) (fun _ _ _ h => h) (Or.inl ⟨by rfl, ?hya4⟩) hHeld ?_
  case hya4 => (intro wz hSw; (try dsimp only at hSw); go_simp; try with_reducible rfl)
  (try simp only [putz])
  refine WDt 5 { dst := some 36, op := .load 27 (.tmp 3), type := 27, pos := _, after := #[], guard := none } (v := ?va5) rfl (by kernel_rfl) (fun _ _ _ h => h) (Or.inl ⟨by rfl, ?hya5⟩) hHeld ?_
  case hya5 => (intro wz hSw; (try dsimp only at hSw); obtain ⟨z0, z1, z2, z3⟩ := KB.out _ (FB.out _ hSw); go_simp; try with_reducible rfl)
  (try simp only [putz])
  refine WDt 6 { dst := some 37, op := .load 27 (.tmp 2), type := 27, pos := _, after := #[], guard := none } (v := ?va6) rfl (by kernel_rfl) (fun _ _ _ h => h) (Or.inl ⟨by rfl, ?hya6⟩) hHeld ?_
  case hya6 => (intro wz hSw; (try dsimp only at hSw); obtain ⟨z0, z1, z2, z3⟩ := KA.out _ (FB.out _ hSw); go_simp; try with_reducible rfl)
  (try simp only [putz])
  refine WD_ready (rs := [3]) (by kernel_rfl) (by simp) ?_
  refine AllD.cons (o := { dst := some 34, op := .call { callee := .value (.func 13), args := #[.tmp 31, .tmp 32, .tmp 33], argTypes := #[23, 27, 27] }, type := 29, pos := _, after := #[{ on := 0, ground := .data }, { on := 1, ground := .data }, { on := 2, ground := .data }], guard := none }) rfl (fun K hK => ?_) AllD.nil
  rw [if_pos (by rfl)]
  go_simp
  refine UN1.out.mono ?_; rintro e w8 ⟨rfl, s8, f8⟩
  try go_wp2_with fail
  refine hK.out _ _ (F0.out.trans (f8.mono (fun q _ hq => hq.1))) (fun hHeld => ?_)
  clear hK K
  (try simp only [putz])
  have S8 := Lib.hid s8
  have F8 := Lib.hid hHeld
  have C8 := Lib.hid (show w8.heap[s2]? = w7.heap[s2]? from (f8.block s2 HL72.out.1 (fun e => e.2 rfl)))
  clear s8 f8 hHeld
  refine WD_ready (rs := [7]) (by kernel_rfl) (by simp) ?_
  refine AllD.last (o := { dst := some 38, op := .call { callee := .value (.func 13), args := #[.tmp 35, .tmp 36, .tmp 37], argTypes := #[23, 27, 27] }, type := 29, pos := _, after := #[{ on := 4, ground := .data }, { on := 5, ground := .data }, { on := 6, ground := .data }, { on := 3, ground := .chain }], guard := none }) rfl (by kernel_rfl) (fun K hK => ?_) AllD.nil
  rw [if_pos (by rfl)]
  go_simp
  refine (UN2.out w8 F8.out C8.out).mono ?_; rintro e w9 ⟨rfl, t9, f9⟩
  try go_wp2_with fail
  refine hK.out _ _ ?_
  clear hK K
  (try simp only [putz])
  have T9 := Lib.hid t9
  have S9 := Lib.hid (show SubS w9 no1 s1 s1 0 St from S8.out.swap (f9.mono (fun q hq hh => Classical.byContradiction fun e => hh.2 ⟨e, hq⟩)) (fun q h => h.elim))
  have F9 := Lib.hid (F8.out.trans (f9.mono (fun q _ hq => hq.1)))
  clear t9 f9 S8 C8
  refine WD_takeAny (i := 8) (oi := { dst := some 7, op := .assign (.tmp 34), type := 29, pos := _, after := #[{ on := 3, ground := .data }, { on := 7, ground := .chain }, { on := 0, ground := .phase }, { on := 1, ground := .phase }, { on := 2, ground := .phase }, { on := 3, ground := .phase }, { on := 4, ground := .textOnly .lateStores }, { on := 5, ground := .textOnly .lateStores }, { on := 6, ground := .textOnly .lateStores }, { on := 7, ground := .textOnly .lateStoresUnsure }], guard := none }) (v := ?va8) rfl (by kernel_rfl) (by kernel_rfl) (by kernel_rfl) (by kernel_rfl) (fun _ _ _ h => h) (Or.inl ⟨by rfl, ?hya8⟩) ?_
  case hya8 => (intro wz _; go_simp; try with_reducible rfl)
  (try simp only [putz])
  refine WD_takeAny (i := 9) (oi := { dst := some 8, op := .assign (.tmp 38), type := 29, pos := _, after := #[{ on := 7, ground := .data }, { on := 8, ground := .chain }, { on := 0, ground := .phase }, { on := 1, ground := .phase }, { on := 2, ground := .phase }, { on := 3, ground := .phase }, { on := 4, ground := .phase }, { on := 5, ground := .phase }, { on := 6, ground := .phase }, { on := 7, ground := .phase }, { on := 8, ground := .phase }], guard := none }) (v := ?va9) rfl (by kernel_rfl) (by kernel_rfl) (by kernel_rfl) (by kernel_rfl) (fun _ _ _ h => h) (Or.inl ⟨by rfl, ?hya9⟩) ?_
  case hya9 => (intro wz _; go_simp; try with_reducible rfl)
  (try simp only [putz])
  refine WD_done (by kernel_rfl) ?_ _
  have BW9 := Lib.hid (FW.out _ F9.out)
  have KA9 := Lib.hid (fun W (hW : Below w9.heap.size w9 W) => KA.out W (bt (FB.out _ F9.out) hW))
  by_cases he : er = 0
  · obtain ⟨g1, g2, g3, g4⟩ := HG2.out he
    have AP1 := Lib.hid (fun W (hW : Below w9.heap.size w9 W) => applyS (Nat.le_refl 7) BGA.out HI2.out (S9.out.later hW) (HIA.out.later (bt BW9.out hW)))
    have AP2 := Lib.hid (fun W (hW : Below w9.heap.size w9 W) => applyS (Nat.le_refl 7) BGA.out HI2.out (T9.out.later hW) (HIA.out.later (bt BW9.out hW)))
    rw [HAP2.out] at AP1 AP2
    have SH := Lib.hid (fun W v (h : TIn W any0 T v) => show_big (d := 506) (by omega) g1 g2 g3 g4 h)
    obtain ⟨sT, hsT⟩ : ∃ z, z = showT T := ⟨_, rfl⟩
    rw [← hsT] at SH
    have qs : (sT.toList == sT.toList) = true := beq_self_eq_true _
    subst he
    clear g1 g2 g3 g4 hsT
    go_wp2_with fail
    refine wp_region_D [] (fun w' => Below w9.heap.size w9 w') (by kernel_rfl) (bdr w9) (fun hHeld => ?_)
    refine WDt 0 { dst := some 60, op := .move (.tmp 7), type := 29, pos := _, after := #[], guard := none } (v := ?vb0) rfl (by kernel_rfl) (fun _ _ _ h => h) (Or.inl ⟨by rfl, ?hyb0⟩) hHeld ?_
    case hyb0 => (intro wz hSw; (try dsimp only at hSw); go_simp; try with_reducible rfl)
    (try simp only [putz])
    refine WDt 1 { dst := some 61, op := .binOp .neq 29 (.tmp 60) (.const (.int .i64 0)) 29, type := 4, pos := _, after := #[{ on := 0, ground := .data }], guard := none } (v := ?vb1) rfl (by kernel_rfl) (fun _ _ _ h => h) (Or.inl ⟨by rfl, ?hyb1⟩) hHeld ?_
    case hyb1 => (intro wz hSw; (try dsimp only at hSw); go_simp; try with_reducible rfl)
    (try simp only [putz])
    refine WDt 2 { dst := some 62, op := .move (.tmp 61), type := 4, pos := _, after := #[{ on := 1, ground := .data }], guard := none } (v := ?vb2) rfl (by kernel_rfl) (fun _ _ _ h => h) (Or.inl ⟨by rfl, ?hyb2⟩) hHeld ?_
    case hyb2 => (intro wz hSw; (try dsimp only at hSw); go_simp; try with_reducible rfl)
    (try simp only [putz])
    refine WDt 3 { dst := some 63, op := .move (.tmp 5), type := 23, pos := _, after := #[{ on := 2, ground := .guard }], guard := some (2, false) } (v := ?vb3) rfl (by kernel_rfl) (fun _ _ _ h => h) (Or.inl ⟨by rfl, ?hyb3⟩) hHeld ?_
    case hyb3 => (intro wz hSw; (try dsimp only at hSw); go_simp; try with_reducible rfl)
    (try simp only [putz])
    refine WDt 4 { dst := some 64, op := .load 27 (.tmp 2), type := 27, pos := _, after := #[{ on := 2, ground := .guard }], guard := some (2, false) } (v := ?vb4) rfl (by kernel_rfl) (fun _ _ _ h => h) (Or.inl ⟨by rfl, ?hyb4⟩) hHeld ?_
    case hyb4 => (intro wz hSw; (try dsimp only at hSw); obtain ⟨z0, z1, z2, z3⟩ := KA9.out _ hSw; go_simp; try with_reducible rfl)
    (try simp only [putz])
    refine WDt 7 { dst := some 67, op := .move (.tmp 6), type := 23, pos := _, after := #[{ on := 2, ground := .guard }], guard := some (2, false) } (v := ?vb7) rfl (by kernel_rfl) (fun _ _ _ h => h) (Or.inl ⟨by rfl, ?hyb7⟩) hHeld ?_
    case hyb7 => (intro wz hSw; (try dsimp only at hSw); go_simp; try with_reducible rfl)
    (try simp only [putz])
    refine WDt 8 { dst := some 68, op := .load 27 (.tmp 2), type := 27, pos := _, after := #[{ on := 2, ground := .guard }], guard := some (2, false) } (v := ?vb8) rfl (by kernel_rfl) (fun _ _ _ h => h) (Or.inl ⟨by rfl, ?hyb8⟩) hHeld ?_
    case hyb8 => (intro wz hSw; (try dsimp only at hSw); obtain ⟨z0, z1, z2, z3⟩ := KA9.out _ hSw; go_simp; try with_reducible rfl)
    (try simp only [putz])
    refine WD_ready (rs := [5]) (by kernel_rfl) (by simp) ?_
    refine AllD.cons (o := { dst := some 65, op := .call { callee := .value (.func 15), args := #[.tmp 63, .tmp 64], argTypes := #[23, 27] }, type := 27, pos := _, after := #[{ on := 3, ground := .data }, { on := 4, ground := .data }, { on := 2, ground := .chain }, { on := 2, ground := .guard }], guard := some (2, false) }) rfl (fun K hK => ?_) AllD.nil
    rw [if_pos (by rfl)]
    go_simp
    refine (AP1.out _ hHeld).mono ?_; rintro e wa ⟨A5, c5, rfl, r5, ba⟩
    unfold tv
    try go_wp2_with fail
    refine hK.out _ _ (bt hHeld ba) (fun hHeld => ?_)
    clear hK K
    (try simp only [putz])
    have R5 := Lib.hid r5
    clear r5 ba
    refine WD_ready (rs := [6]) (by kernel_rfl) (by simp) ?_
    refine AllD.cons (o := { dst := some 66, op := .call { callee := .value (.func 18), args := #[.tmp 65], argTypes := #[27] }, type := 9, pos := _, after := #[{ on := 5, ground := .data }, { on := 5, ground := .chain }, { on := 2, ground := .guard }], guard := some (2, false) }) rfl (fun K hK => ?_) AllD.nil
    rw [if_pos (by rfl)]
    go_simp
    refine (SH.out _ _ ⟨A5, c5, rfl, R5.out⟩).mono ?_; rintro e wb ⟨rfl, bb⟩
    try go_wp2_with fail
    refine hK.out _ _ (bt hHeld bb) (fun hHeld => ?_)
    clear hK K
    (try simp only [putz])
    clear bb
    refine WD_ready (rs := [9]) (by kernel_rfl) (by simp) ?_
    refine AllD.cons (o := { dst := some 69, op := .call { callee := .value (.func 15), args := #[.tmp 67, .tmp 68], argTypes := #[23, 27] }, type := 27, pos := _, after := #[{ on := 7, ground := .data }, { on := 8, ground := .data }, { on := 6, ground := .chain }, { on := 2, ground := .guard }], guard := some (2, false) }) rfl (fun K hK => ?_) AllD.nil
    rw [if_pos (by rfl)]
    go_simp
    refine (AP2.out _ hHeld).mono ?_; rintro e wc ⟨A6, c6, rfl, r6, bc⟩
    unfold tv
    try go_wp2_with fail
    refine hK.out _ _ (bt hHeld bc) (fun hHeld => ?_)
    clear hK K
    (try simp only [putz])
    have R6 := Lib.hid r6
    clear r6 bc
    refine WD_ready (rs := [10]) (by kernel_rfl) (by simp) ?_
    refine AllD.cons (o := { dst := some 70, op := .call { callee := .value (.func 18), args := #[.tmp 69], argTypes := #[27] }, type := 9, pos := _, after := #[{ on := 9, ground := .data }, { on := 9, ground := .chain }, { on := 2, ground := .guard }], guard := some (2, false) }) rfl (fun K hK => ?_) AllD.nil
    rw [if_pos (by rfl)]
    go_simp
    refine (SH.out _ _ ⟨A6, c6, rfl, R6.out⟩).mono ?_; rintro e wd ⟨rfl, bd⟩
    try go_wp2_with fail
    refine hK.out _ _ (bt hHeld bd) (fun hHeld => ?_)
    clear hK K
    (try simp only [putz])
    clear bd
    refine WDt 11 { dst := some 71, op := .binOp .eql 9 (.tmp 66) (.tmp 70) 9, type := 4, pos := _, after := #[{ on := 6, ground := .data }, { on := 10, ground := .data }, { on := 2, ground := .guard }], guard := some (2, false) } (v := ?vb11) rfl (by kernel_rfl) (fun _ _ _ h => h) (Or.inl ⟨by rfl, ?hyb11⟩) hHeld ?_
    case hyb11 => (intro wz hSw; (try dsimp only at hSw); go_simp; try with_reducible rfl)
    (try simp only [putz])
    refine WDt 12 { dst := some 72, op := .pick (.tmp 62) (.const (.bool true)) (.tmp 71), type := 4, pos := _, after := #[{ on := 2, ground := .data }, { on := 11, ground := .data }], guard := none } (v := ?vb12) rfl (by kernel_rfl) (fun _ _ _ h => h) (Or.inl ⟨by rfl, ?hyb12⟩) hHeld ?_
    case hyb12 => (intro wz hSw; (try dsimp only at hSw); go_simp; try with_reducible rfl)
    (try simp only [putz])
    refine WDt 13 { dst := some 4, op := .assign (.tmp 72), type := 4, pos := _, after := #[{ on := 12, ground := .data }, { on := 10, ground := .chain }, { on := 0, ground := .phase }, { on := 1, ground := .phase }, { on := 2, ground := .phase }, { on := 3, ground := .phase }, { on := 4, ground := .phase }, { on := 5, ground := .phase }, { on := 6, ground := .phase }, { on := 7, ground := .phase }, { on := 8, ground := .phase }, { on := 9, ground := .phase }, { on := 10, ground := .phase }, { on := 11, ground := .phase }, { on := 12, ground := .phase }], guard := none } (v := ?vb13) rfl (by kernel_rfl) (fun _ _ _ h => h) (Or.inl ⟨by rfl, ?hyb13⟩) hHeld ?_
    case hyb13 => (intro wz hSw; (try dsimp only at hSw); go_simp; try with_reducible rfl)
    (try simp only [putz])
    have BD := Lib.hid hHeld
    clear hHeld
    refine WD_done (by kernel_rfl) ?_ _
    go_wp2
    go_ret
    exact ⟨rfl, bt BW9.out BD.out⟩
  · have q0 : (er == 0) = false := beq_eq_false_iff_ne.2 he
    have q1 : (er != 0) = true := by simp [bne, q0]
    clear he HG2
    go_wp2_with fail
    refine wp_region_D [] (fun w' => Below w9.heap.size w9 w') (by kernel_rfl) (bdr w9) (fun hHeld => ?_)
    refine WDt 0 { dst := some 60, op := .move (.tmp 7), type := 29, pos := _, after := #[], guard := none } (v := ?vc0) rfl (by kernel_rfl) (fun _ _ _ h => h) (Or.inl ⟨by rfl, ?hyc0⟩) hHeld ?_
    case hyc0 => (intro wz hSw; (try dsimp only at hSw); go_simp; try with_reducible rfl)
    (try simp only [putz])
    refine WDt 1 { dst := some 61, op := .binOp .neq 29 (.tmp 60) (.const (.int .i64 0)) 29, type := 4, pos := _, after := #[{ on := 0, ground := .data }], guard := none } (v := ?vc1) rfl (by kernel_rfl) (fun _ _ _ h => h) (Or.inl ⟨by rfl, ?hyc1⟩) hHeld ?_
    case hyc1 => (intro wz hSw; (try dsimp only at hSw); go_simp; try with_reducible rfl)
    (try simp only [putz])
    refine WDt 2 { dst := some 62, op := .move (.tmp 61), type := 4, pos := _, after := #[{ on := 1, ground := .data }], guard := none } (v := ?vc2) rfl (by kernel_rfl) (fun _ _ _ h => h) (Or.inl ⟨by rfl, ?hyc2⟩) hHeld ?_
    case hyc2 => (intro wz hSw; (try dsimp only at hSw); go_simp; try with_reducible rfl)
    (try simp only [putz])
    refine WDt 3 { dst := some 63, op := .move (.tmp 5), type := 23, pos := _, after := #[{ on := 2, ground := .guard }], guard := some (2, false) } (v := undef) rfl (by kernel_rfl) (fun _ _ _ h => h) (Or.inr ⟨by rfl, rfl⟩) hHeld ?_
    (try simp only [putz])
    refine WDt 4 { dst := some 64, op := .load 27 (.tmp 2), type := 27, pos := _, after := #[{ on := 2, ground := .guard }], guard := some (2, false) } (v := undef) rfl (by kernel_rfl) (fun _ _ _ h => h) (Or.inr ⟨by rfl, rfl⟩) hHeld ?_
    (try simp only [putz])
    refine WDt 7 { dst := some 67, op := .move (.tmp 6), type := 23, pos := _, after := #[{ on := 2, ground := .guard }], guard := some (2, false) } (v := undef) rfl (by kernel_rfl) (fun _ _ _ h => h) (Or.inr ⟨by rfl, rfl⟩) hHeld ?_
    (try simp only [putz])
    refine WDt 8 { dst := some 68, op := .load 27 (.tmp 2), type := 27, pos := _, after := #[{ on := 2, ground := .guard }], guard := some (2, false) } (v := undef) rfl (by kernel_rfl) (fun _ _ _ h => h) (Or.inr ⟨by rfl, rfl⟩) hHeld ?_
    (try simp only [putz])
    refine WD_ready (rs := [5]) (by kernel_rfl) (by simp) ?_
    refine AllD.cons (o := { dst := some 65, op := .call { callee := .value (.func 15), args := #[.tmp 63, .tmp 64], argTypes := #[23, 27] }, type := 27, pos := _, after := #[{ on := 3, ground := .data }, { on := 4, ground := .data }, { on := 2, ground := .chain }, { on := 2, ground := .guard }], guard := some (2, false) }) rfl (fun K hK => ?_) AllD.nil
    rw [if_neg (fun h => nomatch h)]
    refine hK.out _ _ hHeld (fun hHeld => ?_)
    clear hK K
    (try simp only [putz])
    refine WD_ready (rs := [6]) (by kernel_rfl) (by simp) ?_
    refine AllD.cons (o := { dst := some 66, op := .call { callee := .value (.func 18), args := #[.tmp 65], argTypes := #[27] }, type := 9, pos := _, after := #[{ on := 5, ground := .data }, { on := 5, ground := .chain }, { on := 2, ground := .guard }], guard := some (2, false) }) rfl (fun K hK => ?_) AllD.nil
    rw [if_neg (fun h => nomatch h)]
    refine hK.out _ _ hHeld (fun hHeld => ?_)
    clear hK K
    (try simp only [putz])
    refine WD_ready (rs := [9]) (by kernel_rfl) (by simp) ?_
    refine AllD.cons (o := { dst := some 69, op := .call { callee := .value (.func 15), args := #[.tmp 67, .tmp 68], argTypes := #[23, 27] }, type := 27, pos := _, after := #[{ on := 7, ground := .data }, { on := 8, ground := .data }, { on := 6, ground := .chain }, { on := 2, ground := .guard }], guard := some (2, false) }) rfl (fun K hK => ?_) AllD.nil
    rw [if_neg (fun h => nomatch h)]
    refine hK.out _ _ hHeld (fun hHeld => ?_)
    clear hK K
    (try simp only [putz])
    refine WD_ready (rs := [10]) (by kernel_rfl) (by simp) ?_
    refine AllD.cons (o := { dst := some 70, op := .call { callee := .value (.func 18), args := #[.tmp 69], argTypes := #[27] }, type := 9, pos := _, after := #[{ on := 9, ground := .data }, { on := 9, ground := .chain }, { on := 2, ground := .guard }], guard := some (2, false) }) rfl (fun K hK => ?_) AllD.nil
    rw [if_neg (fun h => nomatch h)]
    refine hK.out _ _ hHeld (fun hHeld => ?_)
    clear hK K
    (try simp only [putz])
    refine WDt 11 { dst := some 71, op := .binOp .eql 9 (.tmp 66) (.tmp 70) 9, type := 4, pos := _, after := #[{ on := 6, ground := .data }, { on := 10, ground := .data }, { on := 2, ground := .guard }], guard := some (2, false) } (v := undef) rfl (by kernel_rfl) (fun _ _ _ h => h) (Or.inr ⟨by rfl, rfl⟩) hHeld ?_
    (try simp only [putz])
    refine WDt 12 { dst := some 72, op := .pick (.tmp 62) (.const (.bool true)) (.tmp 71), type := 4, pos := _, after := #[{ on := 2, ground := .data }, { on := 11, ground := .data }], guard := none } (v := ?vc12) rfl (by kernel_rfl) (fun _ _ _ h => h) (Or.inl ⟨by rfl, ?hyc12⟩) hHeld ?_
    case hyc12 => (intro wz hSw; (try dsimp only at hSw); go_simp; try with_reducible rfl)
    (try simp only [putz])
    refine WDt 13 { dst := some 4, op := .assign (.tmp 72), type := 4, pos := _, after := #[{ on := 12, ground := .data }, { on := 10, ground := .chain }, { on := 0, ground := .phase }, { on := 1, ground := .phase }, { on := 2, ground := .phase }, { on := 3, ground := .phase }, { on := 4, ground := .phase }, { on := 5, ground := .phase }, { on := 6, ground := .phase }, { on := 7, ground := .phase }, { on := 8, ground := .phase }, { on := 9, ground := .phase }, { on := 10, ground := .phase }, { on := 11, ground := .phase }, { on := 12, ground := .phase }], guard := none } (v := ?vc13) rfl (by kernel_rfl) (fun _ _ _ h => h) (Or.inl ⟨by rfl, ?hyc13⟩) hHeld ?_
    case hyc13 => (intro wz hSw; (try dsimp only at hSw); go_simp; try with_reducible rfl)
    (try simp only [putz])
    have BD := Lib.hid hHeld
    clear hHeld
    refine WD_done (by kernel_rfl) ?_ _
    go_wp2
    go_ret
    exact ⟨rfl, bt BW9.out BD.out⟩
end Go.Proofs.YtdkfimejabanlaaDoor
