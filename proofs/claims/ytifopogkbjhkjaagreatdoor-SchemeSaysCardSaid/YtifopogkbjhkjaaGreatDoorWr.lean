import Derived.Test.YtifopogkbjhkjaaGreatDoorWx
import Derived.Test.YtifopogkbjhkjaaGreatDoorWy
namespace Go.Proofs.YtifopogkbjhkjaaGreatDoor
open DR
open Go.ChangeShapes Go.WideShapes Go.ChangeAt Go.RowKit Go.WideMaps
set_option linter.unusedVariables false
set_option linter.unusedSimpArgs false
set_option maxRecDepth 100000 in
set_option maxHeartbeats 32000000 in
theorem says_walk {l : List TT} {A : Option Addr} {c : Nat} {fr : Int} {V : TT} {v : Value} {E : List (List Int × TT)} {Ae : Option Addr} {ce : Nat} {U : TT} {all : List Int} {Al Au : Option Addr} {ca cu : Nat} {w : World} (hl : TRow w any0 A l) (hV : TIn w any0 V v) (he : SRow w Ae E) (hal : IRow w Al all) (hU : TRow w any0 Au U.args) :
    Calls Tryz.prog 3 #[.slice A l.length c, .int .i64 fr, v, .slice Ae E.length ce, scv Al all.length ca U Au cu] w fun e w' => e = .returned (.bool true) ∧ Below w.heap.size w w' := by
  obtain ⟨i0, hi0, hz0, hz1, hz2⟩ := info_parts infoS
  have HL := Lib.hid hl
  have HIV := Lib.hid hV
  have HE := Lib.hid he
  have HAL := Lib.hid hal
  have HU := Lib.hid hU
  obtain ⟨At, ct, rfl, hAt⟩ := hV
  have CSV := Lib.hid (fun W (hW : Below w.heap.size w W) => small_any 7 V _ 64 W most64 (HIV.out.later hW))
  have CSU := Lib.hid (fun W (hW : Below w.heap.size w W) => small_any 7 U (tv U Au cu) 64 W most64 ⟨Au, cu, rfl, HU.out.later hW⟩)
  obtain ⟨wB, hwB⟩ : ∃ z, z = (w.alloc (.cells #[.int .i64 V.k, .string V.nm, .int .i64 V.vr, .slice At V.args.length ct] 24)).alloc (.cells #[.slice Al all.length ca, .int .i64 U.k, .string U.nm, .int .i64 U.vr, .slice Au U.args.length cu] SchT) := ⟨_, rfl⟩
  have BX := two_box (w := w) (.cells #[.int .i64 V.k, .string V.nm, .int .i64 V.vr, .slice At V.args.length ct] 24) (.cells #[.slice Al all.length ca, .int .i64 U.k, .string U.nm, .int .i64 U.vr, .slice Au U.args.length cu] SchT)
  rw [← hwB] at BX
  have HB := Lib.hid (show Below w.heap.size w wB by rw [hwB]; exact bt (below_alloc w _) (below_alloc _ _))
  have HZ := Lib.hid (show wB.heap.size = w.heap.size + 2 by rw [hwB]; simp)
  have HX := Lib.hid BX.1
  have HY := Lib.hid BX.2
  have HWB := Lib.hid hwB
  have KV := Lib.hid (fun W (hW : Below wB.heap.size wB W) => cells4 ((hW.block w.heap.size (by rw [HZ.out]; omega)).trans HX.out))
  have KU := Lib.hid (fun W (hW : Below wB.heap.size wB W) => five5 ((hW.block (w.heap.size + 1) (by rw [HZ.out]; omega)).trans HY.out))
  unfold tv at CSV CSU HIV ⊢
  unfold scv
  clear hwB BX hl he hal hU hAt
  go_enter Tryz.func3, Tryz.ntmps3
  go_wp2_with fail
  try rw [← HWB.out]
  try go_wp2_with fail
  refine (awake_any _).mono ?_; rintro e w1 ⟨rfl, b1⟩
  have B1 := Lib.hid b1
  clear b1
  by_cases h12 : 12 < l.length
  · have d12 : decide ((12 : Int) < (l.length : Int)) = true := decide_eq_true (by omega)
    have i12 : (12 : Int) < (l.length : Int) := by omega
    clear h12
    as_aux_lemma =>
    go_wp2
    go_ret
    exact ⟨rfl, bt HB.out B1.out⟩
  have d12 : decide ((12 : Int) < (l.length : Int)) = false := decide_eq_false (by omega)
  have i12 : ¬ (12 : Int) < (l.length : Int) := by omega
  have hl12 : l.length ≤ 12 := by omega
  clear h12
  by_cases hf0 : fr < 0
  · have d0 : decide (fr < 0) = true := decide_eq_true hf0
    as_aux_lemma =>
    go_wp2
    go_ret
    exact ⟨rfl, bt HB.out B1.out⟩
  have d0 : decide (fr < 0) = false := decide_eq_false hf0
  by_cases hf10 : 10 < fr
  · have d10 : decide (10 < fr) = true := decide_eq_true hf10
    as_aux_lemma =>
    go_wp2
    go_ret
    exact ⟨rfl, bt HB.out B1.out⟩
  have d10 : decide (10 < fr) = false := decide_eq_false hf10
  obtain ⟨F, rfl⟩ : ∃ F : Nat, fr = F := ⟨fr.toNat, by omega⟩
  have hF : F ≤ 10 := by omega
  obtain ⟨x0, x1, x2, x3⟩ := KV.out _ B1.out
  go_wp2_with fail
  refine (CSV.out _ (bt HB.out B1.out)).mono ?_; rintro e w2 ⟨rfl, b2⟩
  have B2 := Lib.hid (bt B1.out b2)
  clear b2 x0 x1 x2 x3 CSV
  cases hbV : bigT 7 V with
  | true =>
    as_aux_lemma =>
    go_wp2
    go_ret
    exact ⟨rfl, bt HB.out B2.out⟩
  | false =>
  by_cases h6 : 6 < E.length
  · have d6 : decide ((6 : Int) < (E.length : Int)) = true := decide_eq_true (by omega)
    have i6 : (6 : Int) < (E.length : Int) := by omega
    clear h6
    as_aux_lemma =>
    go_wp2
    go_ret
    exact ⟨rfl, bt HB.out B2.out⟩
  have d6 : decide ((6 : Int) < (E.length : Int)) = false := decide_eq_false (by omega)
  have i6 : ¬ (6 : Int) < (E.length : Int) := by omega
  have hE6 : E.length ≤ 6 := by omega
  clear h6
  obtain ⟨x0, x1, x2, x3, x4⟩ := KU.out _ B2.out
  go_wp2_with fail
  refine (CSU.out _ (bt HB.out B2.out)).mono ?_; rintro e w3 ⟨rfl, b3⟩
  have B3 := Lib.hid (bt B2.out b3)
  clear b3 x0 x1 x2 x3 x4 CSU
  obtain ⟨x0, x1, x2, x3, x4⟩ := KU.out _ B3.out
  cases hbU : bigT 7 U with
  | true =>
    as_aux_lemma =>
    go_wp2
    go_ret
    exact ⟨rfl, bt HB.out B3.out⟩
  | false =>
  by_cases h10 : 10 < all.length
  · have da : decide ((10 : Int) < (all.length : Int)) = true := decide_eq_true (by omega)
    have ia : (10 : Int) < (all.length : Int) := by omega
    clear h10
    as_aux_lemma =>
    go_wp2
    go_ret
    exact ⟨rfl, bt HB.out B3.out⟩
  have da : decide ((10 : Int) < (all.length : Int)) = false := decide_eq_false (by omega)
  have ia : ¬ (10 : Int) < (all.length : Int) := by omega
  have hA10 : all.length ≤ 10 := by omega
  have HBV := Lib.hid hbV
  have HBU := Lib.hid hbU
  clear h10 hbV hbU
  have BLD := build_sub
  go_upto_region 5 with (fail)
  clear x0 x1 x2 x3 x4 d12 i12 d0 d10 hf0 hf10 d6 i6 da ia
  as_aux_lemma =>
  refine wp_region_lit ?_
  refine wpList_step (fun K hK => ?_)
  rw [if_pos (by rfl)]
  go_simp
  refine (news_any (Pr := fun _ => False) (fun _ h => h) _).mono ?_; rintro e w4 ⟨rfl, s3, b3⟩
  (try go_simp)
  refine hK _ _ ?_
  clear hK K
  (try simp only [putz])
  obtain ⟨sb, hsb⟩ : ∃ z, z = w3.heap.size := ⟨_, rfl⟩
  rw [← hsb] at s3 ⊢
  have S3 := Lib.hid s3
  have HB4 := Lib.hid (bt B3.out b3)
  have L3 := Lib.hid (show sb < w4.heap.size from s3.slt)
  have HSB := Lib.hid (show wB.heap.size ≤ sb by rw [hsb]; exact B3.out.size)
  clear s3 b3 hsb B1 B2 B3
  refine wpList_step (fun K hK => ?_)
  rw [if_pos (by rfl)]
  refine wp_build_lit rfl (BLD _) ?_
  refine hK _ _ ?_
  clear hK K
  (try simp only [putz])
  refine wpList_step (fun K hK => ?_)
  rw [if_pos (by rfl)]
  refine wp_box_lit rfl rfl ?_
  refine hK _ _ ?_
  clear hK K
  (try simp only [putz])
  refine wpList_step (fun K hK => ?_)
  rw [if_pos (by rfl)]
  go_simp
  refine hK _ _ ?_
  clear hK K
  (try simp only [putz])
  refine wpList_step (fun K hK => ?_)
  rw [if_pos (by rfl)]
  go_simp
  refine hK _ _ ?_
  clear hK K
  (try simp only [putz])
  obtain ⟨rb, hrb⟩ : ∃ z, z = w4.heap.size := ⟨_, rfl⟩
  obtain ⟨w5, hw5⟩ : ∃ z, z = w4.alloc (.cells zsubA RSy) := ⟨_, rfl⟩
  try rw [← hw5]
  try rw [← hrb]
  have B4 := Lib.hid (show Below wB.heap.size wB w5 by rw [hw5]; exact bt HB4.out (below_alloc _ _))
  have L4 := Lib.hid (show sb < rb ∧ rb < w5.heap.size by rw [hrb, hw5]; exact ⟨L3.out, by simp⟩)
  have R4 := Lib.hid (show RSub 0 w5 (fun b => b = rb ∧ b ≠ rb) rb (List.replicate 2000 zeroT) from rsub_new (by rw [hw5, hrb]; exact heap_alloc_new w4 _))
  have S4 := Lib.hid (show SubS w5 (fun b => b = rb) sb sb 0 [] by
    rw [hw5]
    exact S3.out.swap (Frm.of_below (below_alloc w4 _) (Nat.le_refl _) _) (fun b e => by subst e; exact ⟨by rw [hrb]; simp, .inr (by rw [hrb]; exact Nat.le_refl _)⟩))
  clear hw5 hrb BLD S3 L3 HB4
  go_wp2
  go_loopw [13] (fun i wr => ∃ k : Nat, k ≤ F ∧ i = .int .i64 k ∧ Hid (SubS wr (fun b => b = rb) sb sb k []) ∧ Hid (RSub k wr (fun b => b = rb ∧ b ≠ rb) rb (List.replicate 2000 zeroT)) ∧ Hid (Below sb w5 wr)) (fun i _ => F - (intOf i).toNat)
  case atStart => exact ⟨0, by omega, by first | rfl | trivial, S4, R4, Lib.hid (Below.refl _ _)⟩
  case round =>
    obtain ⟨k, hk, rfl, HS, HR, HW⟩ := hrel
    by_cases hlt : k < F
    · have hlti : (k : Int) < (F : Int) := by omega
      have d1 : decide ((k : Int) < (F : Int)) = true := decide_eq_true hlti
      have ek : ((k + 1 : Nat) : Int) = (k : Int) + 1 := by omega
      have HEK := Lib.hid ek
      have HLR := Lib.hid (show sb < wr.heap.size ∧ sb ≤ w5.heap.size by have := HW.out.size; have := L4.out; omega)
      clear ek
      go_wp2_with fail
      refine (freshS2 (n := k) (m := (k : Int) + 1) (by omega) (by omega) rfl HS.out).mono ?_; rintro e w6 ⟨rfl, s6, f6⟩
      have S6 := Lib.hid s6
      have R6 := Lib.hid (show RSub k w6 (fun b => b = rb ∧ b ≠ rb) rb (List.replicate 2000 zeroT) from HR.out.moveP (f6.block rb HR.out.lt (by have := L4.out; show ¬ rb = sb; omega)) (fun q hq hp => absurd hp.1 hp.2) f6.size)
      have B6 := Lib.hid (show Below sb w5 w6 from HW.out.trans (f6.below (fun q (hq : q = sb) => Nat.le_of_eq hq.symm) (by have := HLR.out; omega)))
      have Z6 := Lib.hid f6.size
      clear s6 f6
      unfold tv
      go_wp2_with fail
      refine (rfresh (nx := (k : Int)) (fun _ h => h.2) (by omega) (by omega) R6.out).mono ?_; rintro e w7 ⟨rfl, r7, f7⟩
      have S7 := Lib.hid (show SubS w7 (fun b => b = rb) sb sb ((k + 1 : Nat) : Int) [] by rw [HEK.out]; exact S6.out.frm f7)
      have R7 := Lib.hid (show RSub ((k + 1 : Nat) : Int) w7 (fun b => b = rb ∧ b ≠ rb) rb (List.replicate 2000 zeroT) by rw [HEK.out]; exact r7)
      have B7 := Lib.hid (show Below sb w5 w7 from B6.out.trans (f7.below (fun q (hq : q = rb) => by have := L4.out; omega) (by have := HLR.out; have := Z6.out; omega)))
      clear r7 f7
      unfold tv
      go_wp2
      go_roundw
      case rel => exact ⟨k + 1, by omega, by go_num, S7, R7, B7⟩
      case measure => simp [intOf]; omega
    · obtain rfl : k = F := by omega
      have hge : ¬ (k : Int) < (k : Int) := by omega
      have d1 : decide ((k : Int) < (k : Int)) = false := decide_eq_false hge
      clear S4 R4
      obtain ⟨w4, hw4⟩ : ∃ z, z = wr := ⟨_, rfl⟩
      have B4 := Lib.hid (show Below wB.heap.size wB w4 by rw [hw4]; exact B4.out.trans (HW.out.mono HSB.out))
      have L4 := Lib.hid (show sb < rb ∧ rb < w4.heap.size by rw [hw4]; have := L4.out; have := HR.out.lt; omega)
      rw [← hw4] at HS HR ⊢
      clear hw4 HW
      as_aux_lemma =>
      go_wp2
      go_loopw [14] (fun i wr => ∃ (j : Nat) (St R : List TT) (Pr : Nat → Prop), j ≤ 14 ∧ i = .int .i64 j ∧ Hid (SubS wr Pr sb sb k St) ∧ Hid (RSub k wr (fun b => Pr b ∧ b ≠ rb) rb R) ∧ Hid (Pr rb) ∧ Hid (SInv2 St) ∧ Hid (∀ x, stA R x = stA St x) ∧ Hid (Below sb w4 wr)) (fun i _ => 14 - (intOf i).toNat)
      case atStart => exact ⟨0, [], _, _, by omega, by first | rfl | trivial, HS, HR, Lib.hid rfl, Lib.hid sinv2_nil, Lib.hid (stA_zeros 2000), Lib.hid (Below.refl _ _)⟩
      case round =>
        clear HS HR
        obtain ⟨j, St, R, Pr, hj, rfl, HT, HR, HPR, HI, HCG, HW4⟩ := hrel
        have HZR := Lib.hid (show sb ≤ wr.heap.size ∧ rb < wr.heap.size by have := HW4.out.size; have := L4.out; omega)
        have HWB4 := Lib.hid (show Below wB.heap.size wB wr from B4.out.trans (HW4.out.mono HSB.out))
        have HWR := Lib.hid (show Below w.heap.size w wr from bt HB.out HWB4.out)
        have HSW := Lib.hid (show w.heap.size ≤ sb ∧ w.heap.size < sb by have := HZ.out; have := HSB.out; omega)
        by_cases hjl : j + 1 < l.length
        · have hjli : (j : Int) + 1 < (l.length : Int) := by omega
          have hj0 : j < l.length := by omega
          have hj0i : (j : Int) < (l.length : Int) := by omega
          obtain ⟨b, o, rfl, hb, hr⟩ := HL.out.at (by omega)
          obtain ⟨Aa, ca', p0, p1, p2, p3, hin1⟩ := hr wr HWR.out j hj0
          obtain ⟨Ab, cb, q0, q1, q2, q3, hin2⟩ := hr wr HWR.out (j + 1) hjl
          obtain ⟨V1, hV⟩ : ∃ V, V = l[j] := ⟨_, rfl⟩
          obtain ⟨U1, hU⟩ : ∃ V, V = l[j + 1] := ⟨_, rfl⟩
          rw [← hV] at p0 p1 p2 p3 hin1
          rw [← hU] at q0 q1 q2 q3 hin2
          have I0 := Lib.hid (show ∀ W, Below w.heap.size w W → TIn W any0 V1 (tv V1 Aa ca') ∧ TIn W any0 U1 (tv U1 Ab cb) by
            intro W hW
            obtain ⟨A1, c1, y0, y1, y2, y3, h1⟩ := hr W hW j hj0
            obtain ⟨A2, c2, z0, z1, z2, z3, h2⟩ := hr W hW (j + 1) hjl
            rw [← hV] at y3 h1
            rw [← hU] at z3 h2
            have e1 := y3.symm.trans ((hW.cell (p := ⟨b, _, none⟩) hb).trans ((HWR.out.cell (p := ⟨b, _, none⟩) hb).symm.trans p3))
            have e2 := z3.symm.trans ((hW.cell (p := ⟨b, _, none⟩) hb).trans ((HWR.out.cell (p := ⟨b, _, none⟩) hb).symm.trans q3))
            injection e1 with e1; injection e1 with e1 _ e1'
            injection e2 with e2; injection e2 with e2 _ e2'
            subst e1 e1' e2 e2'
            exact ⟨h1, h2⟩)
          have CS := Lib.hid (fun W (hW : Below wr.heap.size wr W) => small_any 7 V1 _ 64 W most64 (hin1.later hW))
          have CS2 := Lib.hid (fun W (hW : Below wr.heap.size wr W) => small_any 7 U1 _ 64 W most64 (hin2.later hW))
          have HBL := Lib.hid (show b < wr.heap.size from Nat.lt_of_lt_of_le hb HWR.out.size)
          have HBS := Lib.hid (show b < sb by have := HSW.out; omega)
          unfold tv at CS CS2
          clear hr hb hV hU hin1 hin2
          cases hbg : bigT 7 V1 with
          | true =>
            rw [hbg] at CS
            as_aux_lemma =>
            clear hbg CS2
            go_wp2_with fail
            refine (CS.out _ (Below.refl _ _)).mono ?_; rintro e w5 ⟨rfl, b5⟩
            have B5 := Lib.hid (bt HWR.out b5)
            clear b5 CS p0 p1 p2 p3 q0 q1 q2 q3
            go_wp2
            go_ret
            exact ⟨rfl, B5.out⟩
          | false =>
          rw [hbg] at CS
          cases hbg2 : bigT 7 U1 with
          | true =>
            rw [hbg2] at CS2
            as_aux_lemma =>
            clear hbg hbg2
            have WJ : IntKind.i64.wrap ((j : Int) + 1) = (j : Int) + 1 := IntWalk.i64_in _ (by omega)
            go_wp2_with fail
            refine (CS.out _ (Below.refl _ _)).mono ?_; rintro e w5 ⟨rfl, b5⟩
            have B5 := Lib.hid b5
            have q0 := (b5.cell (p := ⟨b, _, none⟩) HBL.out).trans q0
            have q1 := (b5.cell (p := ⟨b, _, none⟩) HBL.out).trans q1
            have q2 := (b5.cell (p := ⟨b, _, none⟩) HBL.out).trans q2
            have q3 := (b5.cell (p := ⟨b, _, none⟩) HBL.out).trans q3
            clear b5 CS p0 p1 p2 p3
            go_wp2_with fail
            refine (CS2.out _ B5.out).mono ?_; rintro e w6 ⟨rfl, b6⟩
            have B6 := Lib.hid (bt HWR.out (bt B5.out b6))
            clear b6 CS2 q0 q1 q2 q3
            go_wp2
            go_ret
            exact ⟨rfl, B6.out⟩
          | false =>
          rw [hbg2] at CS2
          have WJ := Lib.hid (show IntKind.i64.wrap ((j : Int) + 1) = (j : Int) + 1 from IntWalk.i64_in _ (by omega))
          have hj1 : (0 : Int) ≤ (j : Int) + 1 := by omega
          have BGV := Lib.hid hbg
          have BGU := Lib.hid hbg2
          have HI2 := Lib.hid (show SInv2 (uniG St V1 U1).2 from uniG_inv2 HI.out ⟨7, hbg⟩ ⟨7, hbg2⟩)
          have hrl : R.length = 2000 := by obtain ⟨_, _, _, h⟩ := HR.out; exact h
          have HRN := Lib.hid (show SInv R from HI.out.inv.same (by omega) HCG.out)
          have HSM := Lib.hid (show (runiG R V1 U1).1 = (uniG St V1 U1).1 ∧ ∀ x, stA (runiG R V1 U1).2 x = stA (uniG St V1 U1).2 x from runi_same HI.out hrl HCG.out V1 U1)
          clear hbg hbg2 hrl
          go_wp2_with fail
          refine (CS.out _ (Below.refl _ _)).mono ?_; rintro e w5 ⟨rfl, b5⟩
          have B5 := Lib.hid b5
          have q0' := (b5.cell (p := ⟨b, _, none⟩) HBL.out).trans q0
          have q1' := (b5.cell (p := ⟨b, _, none⟩) HBL.out).trans q1
          have q2' := (b5.cell (p := ⟨b, _, none⟩) HBL.out).trans q2
          have q3' := (b5.cell (p := ⟨b, _, none⟩) HBL.out).trans q3
          have P0 := Lib.hid p0; have P1 := Lib.hid p1; have P2 := Lib.hid p2; have P3 := Lib.hid p3
          have Q0 := Lib.hid q0; have Q1 := Lib.hid q1; have Q2 := Lib.hid q2; have Q3 := Lib.hid q3
          clear b5 CS p0 p1 p2 p3 q0 q1 q2 q3
          go_wp2_with fail
          refine (CS2.out _ B5.out).mono ?_; rintro e w6 ⟨rfl, b6⟩
          have B6 := Lib.hid (bt B5.out b6)
          clear b6 CS2 q0' q1' q2' q3' B5
          have HZ6 := Lib.hid (show sb ≤ w6.heap.size by have := B6.out.size; have := HZR.out; omega)
          have UN := Lib.hid (unifyS (w := w6.drew) HI.out.inv (HT.out.later (bt B6.out (bdr w6))) (show sb ≤ w6.drew.heap.size from HZ6.out) BGV.out BGU.out (I0.out _ (bt HWR.out (bt B6.out (bdr w6)))).1 (I0.out _ (bt HWR.out (bt B6.out (bdr w6)))).2)
          have R6 := Lib.hid (show RSub k w6.drew (fun b => Pr b ∧ b ≠ rb) rb R from HR.out.later (bt B6.out (bdr w6)))
          obtain ⟨⟨er, St2⟩, hq⟩ : ∃ q, q = uniG St V1 U1 := ⟨_, rfl⟩
          obtain ⟨⟨er2, R2⟩, hq2⟩ : ∃ q, q = runiG R V1 U1 := ⟨_, rfl⟩
          rw [← hq] at UN HI2 HSM
          rw [← hq2] at HSM
          have HQ2 := Lib.hid hq2
          obtain rfl : er2 = er := HSM.out.1
          have HCG2 := Lib.hid (show ∀ x, stA R2 x = stA St2 x from HSM.out.2)
          unfold tv at UN
          clear hq hq2
          have HWW := Lib.hid (fun W (hW : Below sb w6 W) => (show Below w.heap.size w W from (bt HWR.out B6.out).trans (hW.mono HSW.out.1)))
          have CLV := Lib.hid (show ∀ W, Below sb w6 W → W.cell? ⟨b, o + j * 4, none⟩ = some (.int .i64 V1.k) ∧ W.cell? ⟨b, o + j * 4 + 1, none⟩ = some (.string V1.nm) ∧ W.cell? ⟨b, o + j * 4 + 2, none⟩ = some (.int .i64 V1.vr) ∧ W.cell? ⟨b, o + j * 4 + 3, none⟩ = some (.slice Aa V1.args.length ca') from fun W hW => ⟨bel_cell hW HBS.out ((B6.out.cell (p := ⟨b, _, none⟩) HBL.out).trans P0.out), bel_cell hW HBS.out ((B6.out.cell (p := ⟨b, _, none⟩) HBL.out).trans P1.out), bel_cell hW HBS.out ((B6.out.cell (p := ⟨b, _, none⟩) HBL.out).trans P2.out), bel_cell hW HBS.out ((B6.out.cell (p := ⟨b, _, none⟩) HBL.out).trans P3.out)⟩)
          have CLU := Lib.hid (show ∀ W, Below sb w6 W → W.cell? ⟨b, o + (j + 1) * 4, none⟩ = some (.int .i64 U1.k) ∧ W.cell? ⟨b, o + (j + 1) * 4 + 1, none⟩ = some (.string U1.nm) ∧ W.cell? ⟨b, o + (j + 1) * 4 + 2, none⟩ = some (.int .i64 U1.vr) ∧ W.cell? ⟨b, o + (j + 1) * 4 + 3, none⟩ = some (.slice Ab U1.args.length cb) from fun W hW => ⟨bel_cell hW HBS.out ((B6.out.cell (p := ⟨b, _, none⟩) HBL.out).trans Q0.out), bel_cell hW HBS.out ((B6.out.cell (p := ⟨b, _, none⟩) HBL.out).trans Q1.out), bel_cell hW HBS.out ((B6.out.cell (p := ⟨b, _, none⟩) HBL.out).trans Q2.out), bel_cell hW HBS.out ((B6.out.cell (p := ⟨b, _, none⟩) HBL.out).trans Q3.out)⟩)
          clear P0 P1 P2 P3 Q0 Q1 Q2 Q3
          go_wp2_with fail
          refine wp_region_D [] (fun w' => Below sb w6 w') (by kernel_rfl) ((bdr w6).mono HZ6.out) (fun hHeld => ?_)
          refine WDs 0 ⟨some 90, .move (.tmp 11), 31, _, #[], none⟩ ?va0 ?hya0 hHeld ?_
          case hya0 => (intro wz hSw; (try dsimp only at hSw); go_simp; try with_reducible rfl)
          (try simp only [putz])
          refine WDs 1 ⟨some 91, .move (.tmp 0), 22, _, #[], none⟩ ?va1 ?hya1 hHeld ?_
          case hya1 => (intro wz hSw; (try dsimp only at hSw); go_simp; try with_reducible rfl)
          (try simp only [putz])
          refine WDs 2 ⟨some 92, .move (.tmp 14), 3, _, #[], none⟩ ?va2 ?hya2 hHeld ?_
          case hya2 => (intro wz hSw; (try dsimp only at hSw); go_simp; try with_reducible rfl)
          (try simp only [putz])
          refine WDs 3 ⟨some 93, .indexAddr 22 (.tmp 91) (.tmp 92), 0, _, #[⟨1, .data⟩, ⟨2, .data⟩], none⟩ ?va3 ?hya3 hHeld ?_
          case hya3 => (intro wz hSw; (try dsimp only at hSw); go_simp; try with_reducible rfl)
          (try simp only [putz])
          refine WDs 4 ⟨some 94, .load 24 (.tmp 93), 24, _, #[⟨3, .data⟩], none⟩ ?va4 ?hya4 hHeld ?_
          case hya4 => (intro wz hSw; (try dsimp only at hSw); obtain ⟨z0, z1, z2, z3⟩ := CLV.out _ hSw; go_simp; try with_reducible rfl)
          (try simp only [putz])
          refine WDs 5 ⟨some 95, .move (.tmp 0), 22, _, #[], none⟩ ?va5 ?hya5 hHeld ?_
          case hya5 => (intro wz hSw; (try dsimp only at hSw); have wj := WJ.out; go_simp; try with_reducible rfl)
          (try simp only [putz])
          refine WDs 6 ⟨some 96, .move (.tmp 14), 3, _, #[], none⟩ ?va6 ?hya6 hHeld ?_
          case hya6 => (intro wz hSw; (try dsimp only at hSw); have wj := WJ.out; go_simp; try with_reducible rfl)
          (try simp only [putz])
          refine WDs 7 ⟨some 97, .binOp .add 3 (.tmp 96) (.const (.int .i64 1)) 3, 3, _, #[⟨6, .data⟩], none⟩ ?va7 ?hya7 hHeld ?_
          case hya7 => (intro wz hSw; (try dsimp only at hSw); have wj := WJ.out; go_simp; try with_reducible rfl)
          (try simp only [putz])
          refine WDs 8 ⟨some 98, .indexAddr 22 (.tmp 95) (.tmp 97), 0, _, #[⟨5, .data⟩, ⟨7, .data⟩], none⟩ ?va8 ?hya8 hHeld ?_
          case hya8 => (intro wz hSw; (try dsimp only at hSw); have wj := WJ.out; go_simp; try with_reducible rfl)
          (try simp only [putz])
          refine WDs 9 ⟨some 99, .load 24 (.tmp 98), 24, _, #[⟨8, .data⟩], none⟩ ?va9 ?hya9 hHeld ?_
          case hya9 => (intro wz hSw; (try dsimp only at hSw); obtain ⟨z0, z1, z2, z3⟩ := CLU.out _ hSw; go_simp; try with_reducible rfl)
          (try simp only [putz])
          refine WD_ready (rs := [10]) (by kernel_rfl) (by simp) ?_
          refine AllD.cons (o := _) rfl (fun K hK => ?_) AllD.nil
          rw [if_pos (by rfl)]
          go_simp
          refine UN.out.mono ?_; rintro e w7 ⟨rfl, s7, f7⟩
          try go_wp2_with fail
          refine hK.out _ _ (((bdr w6).mono HZ6.out).trans (f7.below (fun q hq => hq.1) HZ6.out)) (fun hHeld => ?_)
          clear hK K
          (try simp only [putz])
          have S7 := Lib.hid s7
          have R7 := Lib.hid (show RSub k w7 (fun b => Pr b ∧ b ≠ rb) rb R from R6.out.moveP (f7.block rb R6.out.lt (fun e => e.2 HPR.out)) (fun q hq hp => ⟨f7.block q hq (fun e => e.2 hp.1), hp⟩) f7.size)
          have Z7 := Lib.hid (show sb ≤ w7.heap.size from Nat.le_trans HZ6.out f7.size)
          clear s7 f7 UN R6
          have H7 := Lib.hid hHeld
          clear hHeld
          refine WD_done (by kernel_rfl) ?_ _
          go_wp2_with fail
          refine wp_region_D [] (fun w' => Below sb w6 w') (by kernel_rfl) (H7.out.trans ((bdr w7).mono Z7.out)) (fun hHeld => ?_)
          refine WDs 0 ⟨some 101, .move (.tmp 12), 33, _, #[], none⟩ ?vb0 ?hyb0 hHeld ?_
          case hyb0 => (intro wz hSw; (try dsimp only at hSw); go_simp; try with_reducible rfl)
          (try simp only [putz])
          refine WDs 1 ⟨some 102, .move (.tmp 0), 22, _, #[], none⟩ ?vb1 ?hyb1 hHeld ?_
          case hyb1 => (intro wz hSw; (try dsimp only at hSw); go_simp; try with_reducible rfl)
          (try simp only [putz])
          refine WDs 2 ⟨some 103, .move (.tmp 14), 3, _, #[], none⟩ ?vb2 ?hyb2 hHeld ?_
          case hyb2 => (intro wz hSw; (try dsimp only at hSw); go_simp; try with_reducible rfl)
          (try simp only [putz])
          refine WDs 3 ⟨some 104, .indexAddr 22 (.tmp 102) (.tmp 103), 0, _, #[⟨1, .data⟩, ⟨2, .data⟩], none⟩ ?vb3 ?hyb3 hHeld ?_
          case hyb3 => (intro wz hSw; (try dsimp only at hSw); go_simp; try with_reducible rfl)
          (try simp only [putz])
          refine WDs 4 ⟨some 105, .load 24 (.tmp 104), 24, _, #[⟨3, .data⟩], none⟩ ?vb4 ?hyb4 hHeld ?_
          case hyb4 => (intro wz hSw; (try dsimp only at hSw); obtain ⟨z0, z1, z2, z3⟩ := CLV.out _ hSw; go_simp; try with_reducible rfl)
          (try simp only [putz])
          refine WDs 6 ⟨some 107, .move (.tmp 0), 22, _, #[], none⟩ ?vb6 ?hyb6 hHeld ?_
          case hyb6 => (intro wz hSw; (try dsimp only at hSw); have wj := WJ.out; go_simp; try with_reducible rfl)
          (try simp only [putz])
          refine WDs 7 ⟨some 108, .move (.tmp 14), 3, _, #[], none⟩ ?vb7 ?hyb7 hHeld ?_
          case hyb7 => (intro wz hSw; (try dsimp only at hSw); have wj := WJ.out; go_simp; try with_reducible rfl)
          (try simp only [putz])
          refine WDs 8 ⟨some 109, .binOp .add 3 (.tmp 108) (.const (.int .i64 1)) 3, 3, _, #[⟨7, .data⟩], none⟩ ?vb8 ?hyb8 hHeld ?_
          case hyb8 => (intro wz hSw; (try dsimp only at hSw); have wj := WJ.out; go_simp; try with_reducible rfl)
          (try simp only [putz])
          refine WDs 9 ⟨some 110, .indexAddr 22 (.tmp 107) (.tmp 109), 0, _, #[⟨6, .data⟩, ⟨8, .data⟩], none⟩ ?vb9 ?hyb9 hHeld ?_
          case hyb9 => (intro wz hSw; (try dsimp only at hSw); have wj := WJ.out; go_simp; try with_reducible rfl)
          (try simp only [putz])
          refine WDs 10 ⟨some 111, .load 24 (.tmp 110), 24, _, #[⟨9, .data⟩], none⟩ ?vb10 ?hyb10 hHeld ?_
          case hyb10 => (intro wz hSw; (try dsimp only at hSw); obtain ⟨z0, z1, z2, z3⟩ := CLU.out _ hSw; go_simp; try with_reducible rfl)
          (try simp only [putz])
          refine WD_ready (rs := [5]) (by kernel_rfl) (by simp) ?_
          refine AllD.cons (o := _) rfl (fun K hK => ?_) AllD.nil
          rw [if_pos (by rfl)]
          go_simp
          refine (ty1_any 7 V1 (tv V1 Aa ca') _ BGV.out (I0.out _ (HWW.out _ hHeld)).1).mono ?_; rintro e w8 ⟨A8, c8, rfl, r8, b8⟩
          unfold tv
          try go_wp2_with fail
          refine hK.out _ _ (hHeld.trans (b8.mono Z7.out)) (fun hHeld => ?_)
          clear hK K
          (try simp only [putz])
          have B8 := Lib.hid (bt (bdr w7) b8)
          have T8 := Lib.hid (show TRow w8 (fun q => w7.heap.size ≤ q) A8 V1.args from r8)
          clear r8 b8
          refine WD_ready (rs := [11]) (by kernel_rfl) (by simp) ?_
          refine AllD.cons (o := _) rfl (fun K hK => ?_) AllD.nil
          rw [if_pos (by rfl)]
          go_simp
          refine (ty1_any 7 U1 (tv U1 Ab cb) _ BGU.out (I0.out _ (HWW.out _ hHeld)).2).mono ?_; rintro e w9 ⟨A9, c9, rfl, r9, b9⟩
          unfold tv
          try go_wp2_with fail
          refine hK.out _ _ (hHeld.trans (b9.mono (Nat.le_trans Z7.out B8.out.size))) (fun hHeld => ?_)
          clear hK K
          (try simp only [putz])
          have B9 := Lib.hid b9
          have T9 := Lib.hid r9
          clear r9 b9
          have RU := Lib.hid (runify (P := fun q => (Pr q ∨ w7.heap.size ≤ q) ∧ q ≠ rb) (d := 7) (rb := rb) (a := V1) (b := U1) (w := w9) (fun _ h => h.2) HRN.out ((R7.out.later (bt B8.out B9.out)).moveP rfl (fun q _ hp => ⟨rfl, .inl hp.1, hp.2⟩) (Nat.le_refl _)) BGV.out BGU.out ⟨A8, c8, rfl, (T8.out.later B9.out).weak (fun q _ (hq : w7.heap.size ≤ q) => ⟨.inr hq, by have := R7.out.lt; omega⟩)⟩ ⟨A9, c9, rfl, T9.out.weak (fun q _ (hq : w8.heap.size ≤ q) => ⟨.inr (Nat.le_trans B8.out.size hq), by have := R7.out.lt; have := B8.out.size; omega⟩)⟩)
          rw [← HQ2.out] at RU
          unfold tv at RU
          refine WD_ready (rs := [12]) (by kernel_rfl) (by simp) ?_
          refine AllD.cons (o := _) rfl (fun K hK => ?_) AllD.nil
          rw [if_pos (by rfl)]
          go_simp
          refine RU.out.mono ?_; rintro e wE ⟨rfl, r10, f10⟩
          try go_wp2_with fail
          refine hK.out _ _ (hHeld.trans (f10.below (fun q (hq : q = rb) => by have := L4.out; omega) (Nat.le_trans Z7.out (Nat.le_trans B8.out.size B9.out.size)))) (fun hHeld => ?_)
          clear hK K
          (try simp only [putz])
          have R10 := Lib.hid r10
          have F10 := Lib.hid f10
          clear r10 f10 RU
          have H10 := Lib.hid hHeld
          clear hHeld
          refine WD_done (by kernel_rfl) ?_ _
          have FPR := Lib.hid (show Frm w7 wE Pr from (Frm.of_below (bt B8.out B9.out) (Nat.le_refl _) Pr).trans (F10.out.mono (fun q _ (hq : q = rb) => by rw [hq]; exact HPR.out)))
          have S10 := Lib.hid (show SubS wE (fun q => q < wE.heap.size ∧ (Pr q ∨ w7.heap.size ≤ q)) sb sb k St2 from S7.out.swap FPR.out (fun q h => h))
          have R11 := Lib.hid (show RSub k wE (fun q => (q < wE.heap.size ∧ (Pr q ∨ w7.heap.size ≤ q)) ∧ q ≠ rb) rb R2 from R10.out.moveP rfl (fun q hq hp => ⟨rfl, ⟨hq, hp.1⟩, hp.2⟩) (Nat.le_refl _))
          have HPR2 := Lib.hid (show rb < wE.heap.size ∧ (Pr rb ∨ w7.heap.size ≤ rb) from ⟨R10.out.lt, .inl HPR.out⟩)
          have BE4 := Lib.hid (show Below sb w4 wE from HW4.out.trans ((B6.out.mono HZR.out.1).trans H10.out))
          clear FPR R10 S7 R7 B8 T8 B9 T9 F10 H10 HWW CLV CLU B6 HZ6 HSM HQ2 I0 HT HR HI HCG HRN
          go_wp2
          go_roundw
          case rel => exact ⟨j + 2, St2, R2, _, by omega, by go_num, S10, R11, HPR2, HI2, HCG2, BE4⟩
          case measure => simp [intOf]; omega
        · have hjli : ¬ (j : Int) + 1 < (l.length : Int) := by omega
          as_aux_lemma =>
          obtain ⟨wE, hwE⟩ : ∃ z, z = wr := ⟨_, rfl⟩
          have HBE := Lib.hid (show Below wB.heap.size wB wE by rw [hwE]; exact HWB4.out)
          have HLE := Lib.hid (show sb < rb ∧ rb < wE.heap.size by rw [hwE]; have := L4.out; have := HZR.out; omega)
          rw [← hwE] at HT HR ⊢
          clear hwE HW4 HZR HWB4 HWR
          go_wp2
          obtain ⟨NE, hNE⟩ : ∃ N, N = E.length := ⟨_, rfl⟩
          have HNE := Lib.hid hNE
          rw [← hNE] at hE6 ⊢
          clear hNE
          go_loopw [15, 16] (fun lv i wr => ∃ (k2 cq : Nat) (Aq : Option Addr) (xs : List Value), lv = .slice Aq k2 cq ∧ k2 ≤ NE ∧ i = .int .i64 k2 ∧ Hid (wr.ownsRow wE.heap.size RScT 5 (.slice Aq k2 cq) k2 xs) ∧ Hid (EnvOk w wr (fun q => (Value.slice Aq k2 cq).ownBlock ≠ some q) (E.take k2) xs) ∧ Hid (∀ e ∈ E.take k2, bigT 7 e.2 = false ∧ e.1.length ≤ 10) ∧ Hid (Below wE.heap.size wE wr)) (fun _ i _ => NE - (intOf i).toNat)
          case atStart => exact ⟨0, 0, none, [], by first | rfl | trivial, by omega, by first | rfl | trivial, Lib.hid (World.ownsRow_nil _ _ _ _), Lib.hid (fun i hi => by simp at hi), Lib.hid (fun e he => by simp at he), Lib.hid (Below.refl _ _)⟩
          case round =>
            obtain ⟨k2, cq, Aq, xs, rfl, hk2, rfl, HO, HXS, HSMA, HWE⟩ := hrel
            have HBW := Lib.hid (show Below wB.heap.size wB wr from bt HBE.out HWE.out)
            have HWW := Lib.hid (show Below w.heap.size w wr from bt HB.out HBW.out)
            by_cases hlt : k2 < NE
            · have hlti : (k2 : Int) < (NE : Int) := by omega
              have hlt' : k2 < E.length := by rw [← HNE.out]; exact hlt
              obtain ⟨b, o, hAe, hb, hr⟩ := HE.out.resolve_left (by rw [← HNE.out]; omega)
              subst hAe
              obtain ⟨Ai, ci, A0, c0, z0, z1, z2, z3, z4, ir, tr⟩ := hr k2 hlt'
              have HTK := Lib.hid (show E.take (k2 + 1) = E.take k2 ++ [E[k2]] from List.take_succ_eq_append_getElem hlt')
              obtain ⟨X, hX⟩ : ∃ X, X = (E[k2]'hlt').2 := ⟨_, rfl⟩
              obtain ⟨Y, hY⟩ : ∃ Y, Y = (E[k2]'hlt').1 := ⟨_, rfl⟩
              rw [show E[k2]'hlt' = (Y, X) by rw [hX, hY]] at HTK
              rw [← hX] at z1 z2 z3 z4 tr
              rw [← hY] at z0 ir
              have CE := Lib.hid (fun W (hW : Below wr.heap.size wr W) => (show W.cell? ⟨b, o + k2 * 5, none⟩ = some (.slice Ai Y.length ci) ∧ W.cell? ⟨b, o + k2 * 5 + 1, none⟩ = some (.int .i64 X.k) ∧ W.cell? ⟨b, o + k2 * 5 + 2, none⟩ = some (.string X.nm) ∧ W.cell? ⟨b, o + k2 * 5 + 3, none⟩ = some (.int .i64 X.vr) ∧ W.cell? ⟨b, o + k2 * 5 + 4, none⟩ = some (.slice A0 X.args.length c0) from by
                have h := bt HWW.out hW
                exact ⟨(h.cell (p := ⟨b, _, none⟩) hb).trans z0, (h.cell (p := ⟨b, _, none⟩) hb).trans z1, (h.cell (p := ⟨b, _, none⟩) hb).trans z2, (h.cell (p := ⟨b, _, none⟩) hb).trans z3, (h.cell (p := ⟨b, _, none⟩) hb).trans z4⟩))
              have IRY := Lib.hid ir
              have TRX := Lib.hid tr
              have CS := Lib.hid (fun W (hW : Below wr.heap.size wr W) => small_any 7 X (tv X A0 c0) 64 W most64 ⟨A0, c0, rfl, TRX.out.later (bt HWW.out hW)⟩)
              unfold tv at CS
              clear hr hb hX hY z0 z1 z2 z3 z4 ir tr hlt'
              obtain ⟨z0, z1, z2, z3, z4⟩ := CE.out _ (Below.refl _ _)
              go_wp2_with fail
              refine (CS.out _ (Below.refl _ _)).mono ?_; rintro e w5 ⟨rfl, b5⟩
              have B5 := Lib.hid b5
              clear b5 CS z0 z1 z2 z3 z4
              obtain ⟨z0, z1, z2, z3, z4⟩ := CE.out _ B5.out
              cases hbg : bigT 7 X with
              | true =>
                as_aux_lemma =>
                go_wp2
                go_ret
                exact ⟨rfl, bt HWW.out B5.out⟩
              | false =>
              by_cases h10 : 10 < Y.length
              · have da : decide ((10 : Int) < (Y.length : Int)) = true := decide_eq_true (by omega)
                have ia : (10 : Int) < (Y.length : Int) := by omega
                clear h10
                as_aux_lemma =>
                go_wp2
                go_ret
                exact ⟨rfl, bt HWW.out B5.out⟩
              have da : decide ((10 : Int) < (Y.length : Int)) = false := decide_eq_false (by omega)
              have ia : ¬ (10 : Int) < (Y.length : Int) := by omega
              have HSM2 := Lib.hid (show ∀ e ∈ E.take (k2 + 1), bigT 7 e.2 = false ∧ e.1.length ≤ 10 from fun e he => by
                rw [HTK.out, List.mem_append, List.mem_singleton] at he
                rcases he with he | he
                · exact HSMA.out e he
                · rw [he]; exact ⟨hbg, by show Y.length ≤ 10; omega⟩)
              have CO := Lib.hid (rown (m := Y.length) (Al := Ai) (ca := ci) (c := c0) hbg (TRX.out.later (bt HWW.out B5.out)))
              unfold scv at CO
              clear h10 hbg
              as_aux_lemma =>
              go_upto_region 24 with (fail)
              refine wp_region_lit ?_
              (refine wpList_step (fun K hK => ?_); rw [if_pos (by rfl)]; go_simp; refine hK _ _ ?_; clear hK K; (try simp only [Act.put, List.setIfInBounds_toArray, List.set_cons_zero, List.set_cons_succ]))
              (refine wpList_step (fun K hK => ?_); rw [if_pos (by rfl)]; go_simp; refine hK _ _ ?_; clear hK K; (try simp only [Act.put, List.setIfInBounds_toArray, List.set_cons_zero, List.set_cons_succ]))
              (refine wpList_step (fun K hK => ?_); rw [if_pos (by rfl)]; go_simp; refine hK _ _ ?_; clear hK K; (try simp only [Act.put, List.setIfInBounds_toArray, List.set_cons_zero, List.set_cons_succ]))
              (refine wpList_step (fun K hK => ?_); rw [if_pos (by rfl)]; go_simp; refine hK _ _ ?_; clear hK K; (try simp only [Act.put, List.setIfInBounds_toArray, List.set_cons_zero, List.set_cons_succ]))
              (refine wpList_step (fun K hK => ?_); rw [if_pos (by rfl)]; go_simp; refine hK _ _ ?_; clear hK K; (try simp only [Act.put, List.setIfInBounds_toArray, List.set_cons_zero, List.set_cons_succ]))
              refine wpList_step (fun K hK => ?_)
              rw [if_pos (by rfl)]
              go_simp
              refine CO.out.mono ?_; rintro e w7 ⟨A7, c7, rfl, r7, b7⟩
              (try go_simp)
              refine hK _ _ ?_
              clear hK K
              (try simp only [putz])
              have HOLT := Lib.hid (show ∀ q, (Value.slice Aq k2 cq).ownBlock = some q → wE.heap.size ≤ q ∧ q < wr.heap.size from fun q hq => HO.out.lt q hq)
              have B57 := Lib.hid (bt B5.out b7)
              have R7 := Lib.hid (show TRow w7 (fun q => (Value.slice Aq k2 cq).ownBlock ≠ some q) A7 X.args from r7.weak (fun q _ (hq : w5.heap.size ≤ q) e => by have := HOLT.out q e; have := B5.out.size; omega))
              have O7 := Lib.hid (own_bl HO.out B57.out)
              have XS7 := Lib.hid (HXS.out.move (w' := w7) (fun q hq hp => ⟨B57.out.block q hq, hp⟩) B57.out.size)
              clear r7 b7 CO z0 z1 z2 z3 z4 da ia
              refine wpList_step (fun K hK => ?_)
              rw [if_pos (by rfl)]
              refine wp_bs_lit rfl (bs_scheme w7 _ _ _ _ _) ?_
              refine hK _ _ ?_
              clear hK K
              (try simp only [putz])
              refine wpList_append_lies _ rfl (.tmp 136) (.tmp 142) 46 rfl wE.heap.size RScT i0 (.agg #[.slice none 0 0, .int .i64 0, .string .empty, .int .i64 0, .slice none 0 0]) 5 80 Tryz.underlying46 hi0 hz0 hz1 hz2 rfl (by decide) (.slice Aq k2 cq) k2 xs rfl (O7.out.alloc _) ⟨w7.heap.size, 0, none⟩ 1 1 [.slice Ai Y.length ci, .int .i64 X.k, .string X.nm, .int .i64 X.vr, .slice A7 X.args.length c7] rfl rfl (World.news_of_block (cs := #[.slice Ai Y.length ci, .int .i64 X.k, .string X.nm, .int .i64 X.vr, .slice A7 X.args.length c7]) (t := RScT) (fr := (0, 0)) (heap_alloc_new _ _)) (by simp [Value.oneCell']) (by omega) (by unfold maxLen; omega) (by omega) (by have := HWE.out.size; have := B57.out.size; simp; omega) (w7.heap.size + 1) (by simp) ?_
              intro g cap w8 own8 gr8 at8 hlt8
              (try simp only [putz])
              (refine wpList_step (fun K hK => ?_); rw [if_pos (by rfl)]; go_simp; refine hK _ _ ?_; clear hK K; (try simp only [Act.put, List.setIfInBounds_toArray, List.set_cons_zero, List.set_cons_succ]))
              go_wp2
              have BA := below_alloc w7 (.cells #[.slice Ai Y.length ci, .int .i64 X.k, .string X.nm, .int .i64 X.vr, .slice A7 X.args.length c7] RScT)
              have XS8 : EnvOk w w8 (fun q => (Value.slice (some ⟨g, 0, none⟩) (k2 + 1) cap).ownBlock ≠ some q) (E.take (k2 + 1)) (xs ++ [.slice Ai Y.length ci, .int .i64 X.k, .string X.nm, .int .i64 X.vr, .slice A7 X.args.length c7]) := by
                rw [HTK.out]
                have h1 := XS7.out.snoc (e := (Y, X)) (Al := Ai) (A := A7) (ca := ci) (c := c7) (by have := HO.out.1; rw [List.length_take, this]; have := HNE.out; congr 1; omega) IRY.out R7.out
                have h2 := h1.move (w' := w7.alloc (.cells #[.slice Ai Y.length ci, .int .i64 X.k, .string X.nm, .int .i64 X.vr, .slice A7 X.args.length c7] RScT)) (P' := fun q => q < w7.heap.size ∧ (Value.slice Aq k2 cq).ownBlock ≠ some q) (fun q hq hp => ⟨BA.block q hq, hq, hp⟩) BA.size
                exact h2.move (fun q hq hp => ⟨gr8.block q hq (fun e => hp.2 e.symm), fun e => by
                  have e : g = q := by simpa [Value.ownBlock] using e
                  rcases at8 with e8 | e8
                  · exact hp.2 (by rw [e8, e])
                  · have := hp.1; omega⟩) gr8.size
              have BW8 : Below wE.heap.size wE w8 := (bt HWE.out (bt B57.out BA)).grown gr8 (bt HWE.out (bt B57.out BA)).size (fun q hq => (HOLT.out q hq).1)
              have O8 := Lib.hid own8
              have XS8 := Lib.hid XS8
              have BW8 := Lib.hid BW8
              clear own8 gr8 at8 hlt8 BA
              go_roundw
              case rel => exact ⟨k2 + 1, cap, some ⟨g, 0, none⟩, _, rfl, by omega, by go_num, O8, XS8, HSM2, BW8⟩
              case measure => simp [intOf]; omega
            · obtain rfl : k2 = NE := by omega
              have hge : ¬ (k2 : Int) < (k2 : Int) := by omega
              have HEE := Lib.hid (show ∀ e ∈ E, bigT 7 e.2 = false ∧ e.1.length ≤ 10 by have := HSMA.out; rw [HNE.out, List.take_length] at this; exact this)
              have HSR := Lib.hid (show SRow wr Aq E by have h := HXS.out; rw [show E.take k2 = E by rw [HNE.out, List.take_length]] at h; exact h.row HO.out HNE.out.symm HWW.out)
              have HT2 := Lib.hid (HT.out.later HWE.out)
              have HR2 := Lib.hid (HR.out.later HWE.out)
              have HLR := Lib.hid (show sb < rb ∧ rb < wr.heap.size by have := HLE.out; have := HWE.out.size; omega)
              clear HO HXS HSMA HT HR HWE HL HBE HLE B4 L4
              as_aux_lemma =>
              obtain ⟨wA, hwA⟩ : ∃ z, z = wr := ⟨_, rfl⟩
              rw [← hwA] at HT2 HR2 HSR HWW HBW HLR ⊢
              clear hwA
              have HEA := Lib.hid (HE.out.later HWW.out)
              have hrl : R.length = 2000 := by obtain ⟨_, _, _, h⟩ := HR2.out; exact h
              have HRI := Lib.hid (show SInv2 R from HI.out.same (by omega) HCG.out)
              have HCB := Lib.hid (closeF_big HI.out (E := E) HBV.out)
              have HCS := Lib.hid (close_same (E := E) (V := V) HRI.out.inv HCG.out)
              have hE6' : E.length ≤ 6 := by rw [← HNE.out]; exact hE6
              have C1 := Lib.hid (fun W (hW : Below wA.heap.size wA W) => close_st (ce := ce) (HEA.out.later hW) HEE.out hE6' HBV.out HI.out (HT2.out.later hW) (HIV.out.later (bt HWW.out hW)))
              have C2 := Lib.hid (fun W (hW : Below wA.heap.size wA W) => ty1_any 7 V _ W HBV.out (HIV.out.later (bt HWW.out hW)))
              have C3 := Lib.hid (fun W (hW : Below wA.heap.size wA W) (A' : Option Addr) (c' : Nat) (P0 : Nat → Prop) (h : TRow W P0 A' V.args) => rclose (ce := cq) (v := tv V A' c') (HSR.out.later hW) HEE.out hE6' HBV.out HRI.out (HR2.out.later hW) ⟨A', c', rfl, h⟩)
              rw [HCS.out] at C3
              obtain ⟨Q, hQ⟩ : ∃ q, q = closeF St E V := ⟨_, rfl⟩
              rw [← hQ] at C1 C3 HCB
              rw [← HNE.out] at C1 C3
              unfold tv at C3
              have KVA := Lib.hid (fun W (hW : Below wA.heap.size wA W) => KV.out W (bt HBW.out hW))
              clear hrl hE6' hQ HCS
              go_upto_region 25 with (fail)
              go_cut [17, 18] (fun p17 p18 wx => ∃ (b17 b18 : Nat) (Al1 A1 Al2 A3 : Option Addr) (ca1 c1 ca2 c3 : Nat), p17 = .pointer (some ⟨b17, 0, none⟩) ∧ p18 = .pointer (some ⟨b18, 0, none⟩) ∧ Hid (wx.heap[b17]? = some (.cells #[.slice Al1 Q.2.length ca1, .int .i64 Q.1.k, .string Q.1.nm, .int .i64 Q.1.vr, .slice A1 Q.1.args.length c1] 28 (0, 0))) ∧ Hid (wx.heap[b18]? = some (.cells #[.slice Al2 Q.2.length ca2, .int .i64 Q.1.k, .string Q.1.nm, .int .i64 Q.1.vr, .slice A3 Q.1.args.length c3] 48 (0, 0))) ∧ Hid (Iw wx (fun q => q = sb ∨ q = rb) [] Al1 Q.2) ∧ Hid (Rw wx (fun q => q = sb ∨ q = rb) [] A1 Q.1.args) ∧ Hid (Iw wx (fun q => q = sb ∨ q = rb) [] Al2 Q.2) ∧ Hid (Rw wx (fun q => q = sb ∨ q = rb) [] A3 Q.1.args) ∧ Hid (Below wA.heap.size wA wx) ∧ Hid (¬ (b17 = sb ∨ b17 = rb) ∧ ¬ (b18 = sb ∨ b18 = rb)))
              case first =>
                refine reg25 HLR KVA C1 C2 C3 (fun _ _ _ _ _ h => h) (fun b17 b18 Al1 A1 Al2 A3 ca1 c1 ca2 c3 x144 x145 x146 x147 x148 x149 x150 x151 x152 w' h1 h2 h3 h4 h5 h6 h7 h8 h9 => ?_)
                dsimp only
                go_wp2
                go_meet
                case rel => exact ⟨b17, b18, Al1, A1, Al2, A3, ca1, c1, ca2, c3, rfl, rfl, Lib.hid h1, Lib.hid h2, Lib.hid h3, Lib.hid h4, Lib.hid h5, Lib.hid h6, Lib.hid h7, Lib.hid ⟨h8, h9⟩⟩
              case rest =>
                obtain ⟨b17, b18, Al1, A1, Al2, A3, ca1, c1, ca2, c3, rfl, rfl, X17, X18, I1, T1, I2, T2, BX, NB⟩ := hcut
                as_aux_lemma =>
                have ST0 := Lib.hid (HT2.out.later BX.out)
                have RS0 := Lib.hid (HR2.out.later BX.out)
                have HNP := Lib.hid (HT2.out.nps)
                have HLC := Lib.hid (show sb < wc.heap.size ∧ rb < wc.heap.size ∧ sb < rb by have := HLR.out; have := BX.out.size; omega)
                have HBC := Lib.hid (bt HBW.out BX.out)
                have HSS := Lib.hid (show w.heap.size + 2 ≤ sb by have := HZ.out; have := HSB.out; omega)
                have HWC := Lib.hid (show ∀ W, Frm wc W (fun q => q = sb ∨ q = rb) → Below w.heap.size w W from fun W f => (bt HWW.out BX.out).trans (f.below (fun q hq => by have := HLC.out; have := HSS.out; rcases hq with e | e <;> omega) (by have := HLC.out; have := HSS.out; omega)))
                have Y9 := Lib.hid (show ∀ W, Frm wc W (fun q => q = sb ∨ q = rb) → W.heap[w.heap.size + 1]? = some (.cells #[.slice Al all.length ca, .int .i64 U.k, .string U.nm, .int .i64 U.vr, .slice Au U.args.length cu] SchT (0, 0)) from fun W f => (f.block (w.heap.size + 1) (by have := HLC.out; have := HSS.out; omega) (fun e => by have := HLC.out; have := HSS.out; rcases e with e | e <;> omega)).trans ((HBC.out.block (w.heap.size + 1) (by have := HZ.out; omega)).trans HY.out))
                have Y7 := Lib.hid (show ∀ W, Frm wc W (fun q => q = sb ∨ q = rb) → W.heap[w.heap.size]? = some (.cells #[.int .i64 V.k, .string V.nm, .int .i64 V.vr, .slice At V.args.length ct] 24 (0, 0)) from fun W f => (f.block w.heap.size (by have := HLC.out; have := HSS.out; omega) (fun e => by have := HLC.out; have := HSS.out; rcases e with e | e <;> omega)).trans ((HBC.out.block w.heap.size (by have := HZ.out; omega)).trans HX.out))
                have HGB := Lib.hid (openF_big HI.out (n := (k : Int)) (all := all) (V := U) (by omega) (by omega) HBU.out)
                have HGS := Lib.hid (open_same HI.out.inv HCG.out (n := (k : Int)) (all := all) (V := U) (by omega) (by omega))
                have O1 := Lib.hid (fun W (hS : SubS W Pr sb sb k St) (hF : Frm wc W (fun q => q = sb ∨ q = rb)) => open_st (V := U) (all := all) (Al := Al) (A := Au) (ca := ca) (c := cu) (n := (k : Int)) HBU.out hA10 (by omega) (by omega) HI.out hS (fun w' f => HAL.out.later (HWC.out w' (hF.trans (f.mono (fun q _ hq => Or.inl hq))))) (fun w' f => HU.out.later (HWC.out w' (hF.trans (f.mono (fun q _ hq => Or.inl hq))))))
                have O2 := Lib.hid (fun W (hF : Frm wc W (fun q => q = sb ∨ q = rb)) => rown (m := all.length) (Al := Al) (ca := ca) (c := cu) HBU.out (HU.out.later (HWC.out W hF)))
                have O3 := Lib.hid (fun W (A' : Option Addr) (c' : Nat) (Lb : List Nat) (hS : RSub k W (fun b => Pr b ∧ b ≠ rb) rb R) (hF : Frm wc W (fun q => q = sb ∨ q = rb)) (h : Rw W (fun q => q = sb ∨ q = rb) Lb A' U.args) => ropen (P0 := fun q => ¬ (q = sb ∨ q = rb) ∧ q ∉ Lb) (V := U) (all := all) (Al := Al) (A := A') (ca := ca) (c := c') (n := (k : Int)) (fun b hb => hb.2) HBU.out hA10 (by omega) (by omega) HRI.out.inv hS (fun w' f => HAL.out.later (HWC.out w' (hF.trans (f.mono (fun q _ hq => Or.inr hq))))) (fun w' f => h.call (f.mono (fun q _ hq => Or.inr hq))))
                rw [HGS.out] at O3
                obtain ⟨G, hG⟩ : ∃ g, g = openF St k all U := ⟨_, rfl⟩
                rw [← hG] at O1 O3 HGB
                unfold scv at O1 O2 O3
                clear hG HGS HT2 HR2 C1 C2 C3
                go_upto_region 26 with (fail)
                go_cut [19, 20] (fun p19 p20 wx => ∃ (b19 b20 : Nat) (A5 A7 : Option Addr) (c5 c7 : Nat), p19 = .pointer (some ⟨b19, 0, none⟩) ∧ p20 = .pointer (some ⟨b20, 0, none⟩) ∧ Hid (wx.heap[b19]? = some (.cells #[.int .i64 G.1.k, .string G.1.nm, .int .i64 G.1.vr, .slice A5 G.1.args.length c5] 24 (0, 0))) ∧ Hid (wx.heap[b20]? = some (.cells #[.int .i64 G.1.k, .string G.1.nm, .int .i64 G.1.vr, .slice A7 G.1.args.length c7] 36 (0, 0))) ∧ Hid (TRow wx any0 A5 G.1.args) ∧ Hid (TRow wx any0 A7 G.1.args) ∧ Hid (Frm wc wx (fun q => q = sb ∨ q = rb)))
                case first =>
                  refine reg26 HLC HNP ST0 RS0 Y9 O1 O2 O3 (fun _ _ _ _ _ h => h) (fun b19 b20 A5 A7 c5 c7 x153 x154 x155 x156 x157 x158 x159 w' h1 h2 h3 h4 h5 => ?_)
                  dsimp only
                  go_wp2
                  go_meet
                  case rel => exact ⟨b19, b20, A5, A7, c5, c7, rfl, rfl, Lib.hid h1, Lib.hid h2, Lib.hid h3, Lib.hid h4, Lib.hid h5⟩
                case rest =>
                  obtain ⟨b19, b20, A5, A7, c5, c7, rfl, rfl, X19, X20, T5, T7, FX⟩ := hcut
                  as_aux_lemma =>
                  have Y17 := Lib.hid ((FX.out.block b17 (Array.getElem?_eq_some_iff.1 X17.out).1 NB.out.1).trans X17.out)
                  have Y18 := Lib.hid ((FX.out.block b18 (Array.getElem?_eq_some_iff.1 X18.out).1 NB.out.2).trans X18.out)
                  have Z9 := Lib.hid (Y9.out _ FX.out)
                  have Z7 := Lib.hid (Y7.out _ FX.out)
                  have K17 := Lib.hid (fun W (hW : Below wc.heap.size wc W) => five5 ((hW.block b17 (Array.getElem?_eq_some_iff.1 Y17.out).1).trans Y17.out))
                  have K18 := Lib.hid (fun W (hW : Below wc.heap.size wc W) => five5 ((hW.block b18 (Array.getElem?_eq_some_iff.1 Y18.out).1).trans Y18.out))
                  have K19 := Lib.hid (fun W (hW : Below wc.heap.size wc W) => cells4 ((hW.block b19 (Array.getElem?_eq_some_iff.1 X19.out).1).trans X19.out))
                  have K20 := Lib.hid (fun W (hW : Below wc.heap.size wc W) => cells4 ((hW.block b20 (Array.getElem?_eq_some_iff.1 X20.out).1).trans X20.out))
                  have K9 := Lib.hid (fun W (hW : Below wc.heap.size wc W) => five5 ((hW.block (w.heap.size + 1) (Array.getElem?_eq_some_iff.1 Z9.out).1).trans Z9.out))
                  have K7 := Lib.hid (fun W (hW : Below wc.heap.size wc W) => cells4 ((hW.block w.heap.size (Array.getElem?_eq_some_iff.1 Z7.out).1).trans Z7.out))
                  have HWD := Lib.hid (HWC.out _ FX.out)
                  have J1 := Lib.hid (I1.out.call FX.out).row
                  have J2 := Lib.hid (I2.out.call FX.out).row
                  have U1 := Lib.hid (T1.out.call FX.out).row
                  have U2 := Lib.hid (T2.out.call FX.out).row
                  have G1 := Lib.hid (fun W (hW : Below wc.heap.size wc W) => sgood_any (d := 7) (V := U) (all := all) (Al := Al) (A := Au) (ca := ca) (c := cu) (Nat.le_refl 7) HBU.out hA10 (HAL.out.later (bt HWD.out hW)) (HU.out.later (bt HWD.out hW)))
                  have G2 := Lib.hid (fun W (hW : Below wc.heap.size wc W) => rown (m := all.length) (Al := Al) (ca := ca) (c := cu) HBU.out (HU.out.later (bt HWD.out hW)))
                  have G3 := Lib.hid (fun W (A' : Option Addr) (c' : Nat) (h : TRow W any0 A' U.args) (hW : Below wc.heap.size wc W) => rgoodS (V := U) (all := all) (Al := Al) (ca := ca) (c := c') HBU.out hA10 (HAL.out.later (bt HWD.out hW)) h)
                  have CI := Lib.hid (fun W (hW : Below wc.heap.size wc W) => ints_same (l := Q.2) (c := ca1) (c2 := ca2) (by have := HCB.out.2; omega) (J1.out.later hW) (J2.out.later hW))
                  have CT1 := Lib.hid (fun W (hW : Below wc.heap.size wc W) => ty1_any 507 Q.1 (tv Q.1 A1 c1) W HCB.out.1 ⟨A1, c1, rfl, U1.out.later hW⟩)
                  have CS1 := Lib.hid (fun W (hW : Below wc.heap.size wc W) (A' : Option Addr) (c' : Nat) (h : TRow W any0 A' Q.1.args) => rsame_true (v := tv Q.1 A' c') (u := tv Q.1 A3 c3) HCB.out.1 ⟨A', c', rfl, h⟩ ⟨A3, c3, rfl, U2.out.later hW⟩)
                  have CT2 := Lib.hid (fun W (hW : Below wc.heap.size wc W) => ty1_any 507 G.1 (tv G.1 A5 c5) W HGB.out ⟨A5, c5, rfl, T5.out.later hW⟩)
                  have CS2 := Lib.hid (fun W (hW : Below wc.heap.size wc W) (A' : Option Addr) (c' : Nat) (h : TRow W any0 A' G.1.args) => rsame_true (v := tv G.1 A' c') (u := tv G.1 A7 c7) HGB.out ⟨A', c', rfl, h⟩ ⟨A7, c7, rfl, T7.out.later hW⟩)
                  have CG := Lib.hid (fun W (hW : Below wc.heap.size wc W) => good_any (d := 7) (V := U) (v := tv U Au cu) (Nat.le_refl 7) HBU.out ⟨Au, cu, rfl, HU.out.later (bt HWD.out hW)⟩)
                  have CW1 := Lib.hid (fun (hg : goodT U = true) W (hW : Below wc.heap.size wc W) => sshow_any (V := U) (Al := Al) (m := all.length) (A := Au) (ca := ca) (c := cu) HBU.out (good_shp hg) (HU.out.later (bt HWD.out hW)))
                  have CW2 := Lib.hid (fun (hg : goodT U = true) W (hW : Below wc.heap.size wc W) => show_any (V := U) (v := tv U Au cu) HBU.out (good_shp hg) ⟨Au, cu, rfl, HU.out.later (bt HWD.out hW)⟩)
                  have CM := Lib.hid (fun W (hW : Below wc.heap.size wc W) => mono_any (d := 7) (by omega) HBV.out (HIV.out.later (bt HWD.out hW)))
                  obtain ⟨sg, hsg⟩ : ∃ b, b = sgoodT U all := ⟨_, rfl⟩
                  obtain ⟨gU, hgU⟩ : ∃ b, b = goodT U := ⟨_, rfl⟩
                  obtain ⟨sU, hsU⟩ : ∃ b, b = showT U := ⟨_, rfl⟩
                  rw [← hsg] at G1 G3
                  rw [← hgU] at CG CW1 CW2
                  rw [← hsU] at CW1 CW2
                  have qsg : (sg == sg) = true := beq_self_eq_true sg
                  have FA := fun a b c d e W => field_s a b c d e W
                  unfold scv at G1 G2 G3 CW1
                  unfold tv at CT1 CS1 CT2 CS2 CG CW2
                  clear hsg hgU hsU X17 X18 I1 I2 T1 T2 Y17 Y18 Z9 Z7 Y9 Y7 O1 O2 O3 ST0 RS0
                  go_wp2_with fail
                  refine wp_region_D [48] (fun w' => Below wc.heap.size wc w') (by kernel_rfl) (bdr wc) (fun hHeld => ?_)
                  refine WDs 0 ⟨some 160, .load 28 (.tmp 9), 28, _, #[], none⟩ ?vc0 ?hyc0 hHeld ?_
                  case hyc0 => (intro wz hSw; (try dsimp only at hSw); obtain ⟨q0, q1, q2, q3, q4⟩ := K9.out _ hSw; go_simp; try with_reducible rfl)
                  (try simp only [putz])
                  refine WDs 2 ⟨some 162, .load 28 (.tmp 9), 28, _, #[], none⟩ ?vc2 ?hyc2 hHeld ?_
                  case hyc2 => (intro wz hSw; (try dsimp only at hSw); obtain ⟨q0, q1, q2, q3, q4⟩ := K9.out _ hSw; go_simp; try with_reducible rfl)
                  (try simp only [putz])
                  refine WD_ready (rs := [1]) (by kernel_rfl) (by simp) ?_
                  refine AllD.cons (o := _) rfl (fun K hK => ?_) AllD.nil
                  rw [if_pos (by rfl)]
                  go_simp
                  refine (G1.out _ hHeld).mono ?_; rintro e w1 ⟨rfl, b1⟩
                  try go_wp2_with fail
                  refine hK.out _ _ (bt hHeld b1) (fun hHeld => ?_)
                  clear hK K
                  (try simp only [putz])
                  clear b1
                  refine WD_ready (rs := [3]) (by kernel_rfl) (by simp) ?_
                  refine AllD.cons (o := _) rfl (fun K hK => ?_) AllD.nil
                  rw [if_pos (by rfl)]
                  go_simp
                  refine (G2.out _ hHeld).mono ?_; rintro e w3 ⟨A8, c8, rfl, r8, b3⟩
                  try unfold scv
                  try go_wp2_with fail
                  refine hK.out _ _ (bt hHeld b3) (fun hHeld => ?_)
                  clear hK K
                  (try simp only [putz])
                  have R8 := Lib.hid (show TRow w3 any0 A8 U.args from r8.weak (fun _ _ _ => trivial))
                  clear r8 b3
                  refine WD_ready (rs := [4]) (by kernel_rfl) (by simp) ?_
                  refine AllD.cons (o := _) rfl (fun K hK => ?_) AllD.nil
                  rw [if_pos (by rfl)]
                  go_simp
                  refine (G3.out _ A8 c8 R8.out hHeld).mono ?_; rintro e w4 ⟨rfl, b4⟩
                  try go_wp2_with fail
                  refine hK.out _ _ (bt hHeld b4) (fun hHeld => ?_)
                  clear hK K
                  (try simp only [putz])
                  clear b4 R8
                  refine WDs 5 ⟨some 165, .binOp .eql 4 (.tmp 161) (.tmp 164) 4, 4, _, #[⟨1, .data⟩, ⟨4, .data⟩], none⟩ ?vc5 ?hyc5 hHeld ?_
                  case hyc5 => (intro wz hSw; (try dsimp only at hSw); go_simp; try with_reducible rfl)
                  (try simp only [putz])
                  refine WDs 6 ⟨some 166, .move (.tmp 165), 4, _, #[⟨5, .data⟩, ⟨4, .chain⟩], none⟩ ?vc6 ?hyc6 hHeld ?_
                  case hyc6 => (intro wz hSw; (try dsimp only at hSw); go_simp; try with_reducible rfl)
                  (try simp only [putz])
                  refine WDs 7 ⟨some 167, .fieldAddr 28 (.tmp 17) 0, 0, _, #[⟨6, .guard⟩], some (6, true)⟩ ?vc7 ?hyc7 hHeld ?_
                  case hyc7 => (intro wz hSw; (try dsimp only at hSw); go_simp; try with_reducible rfl)
                  (try simp only [putz])
                  refine WDs 8 ⟨some 168, .load 26 (.tmp 167), 26, _, #[⟨7, .data⟩, ⟨6, .guard⟩], some (6, true)⟩ ?vc8 ?hyc8 hHeld ?_
                  case hyc8 => (intro wz hSw; (try dsimp only at hSw); obtain ⟨q0, q1, q2, q3, q4⟩ := K17.out _ hSw; go_simp; try with_reducible rfl)
                  (try simp only [putz])
                  refine WDs 9 ⟨some 169, .fieldAddr 48 (.tmp 18) 0, 0, _, #[⟨6, .guard⟩], some (6, true)⟩ ?vc9 ?hyc9 hHeld ?_
                  case hyc9 => (intro wz hSw; (try dsimp only at hSw); go_simp; try with_reducible rfl)
                  (try simp only [putz])
                  refine WDs 10 ⟨some 170, .load 26 (.tmp 169), 26, _, #[⟨9, .data⟩, ⟨6, .guard⟩], some (6, true)⟩ ?vc10 ?hyc10 hHeld ?_
                  case hyc10 => (intro wz hSw; (try dsimp only at hSw); obtain ⟨q0, q1, q2, q3, q4⟩ := K18.out _ hSw; go_simp; try with_reducible rfl)
                  (try simp only [putz])
                  refine WD_ready (rs := [11]) (by kernel_rfl) (by simp) ?_
                  refine AllD.cons (o := _) rfl (fun K hK => ?_) AllD.nil
                  rw [if_pos (by rfl)]
                  go_simp
                  refine (CI.out _ hHeld).mono ?_; rintro e w5 ⟨rfl, b5⟩
                  try go_wp2_with fail
                  refine hK.out _ _ (bt hHeld b5) (fun hHeld => ?_)
                  clear hK K
                  (try simp only [putz])
                  clear b5
                  refine WDs 12 ⟨some 172, .pick (.tmp 166) (.tmp 171) (.const (.bool false)), 4, _, #[⟨6, .data⟩, ⟨11, .data⟩], none⟩ ?vc12 ?hyc12 hHeld ?_
                  case hyc12 => (intro wz hSw; (try dsimp only at hSw); go_simp; try with_reducible rfl)
                  (try simp only [putz])
                  refine WDs 13 ⟨some 173, .move (.tmp 172), 4, _, #[⟨12, .data⟩, ⟨11, .chain⟩], none⟩ ?vc13 ?hyc13 hHeld ?_
                  case hyc13 => (intro wz hSw; (try dsimp only at hSw); go_simp; try with_reducible rfl)
                  (try simp only [putz])
                  refine WDs 14 ⟨some 174, .fieldAddr 28 (.tmp 17) 1, 0, _, #[⟨13, .guard⟩], some (13, true)⟩ ?vc14 ?hyc14 hHeld ?_
                  case hyc14 => (intro wz hSw; (try dsimp only at hSw); go_simp; try with_reducible rfl)
                  (try simp only [putz])
                  refine WDs 15 ⟨some 175, .load 24 (.tmp 174), 24, _, #[⟨14, .data⟩, ⟨13, .guard⟩], some (13, true)⟩ ?vc15 ?hyc15 hHeld ?_
                  case hyc15 => (intro wz hSw; (try dsimp only at hSw); obtain ⟨q0, q1, q2, q3, q4⟩ := K17.out _ hSw; go_simp; try with_reducible rfl)
                  (try simp only [putz])
                  refine WDs 17 ⟨some 177, .fieldAddr 48 (.tmp 18) 1, 0, _, #[⟨13, .guard⟩], some (13, true)⟩ ?vc17 ?hyc17 hHeld ?_
                  case hyc17 => (intro wz hSw; (try dsimp only at hSw); go_simp; try with_reducible rfl)
                  (try simp only [putz])
                  refine WDs 18 ⟨some 178, .load 36 (.tmp 177), 36, _, #[⟨17, .data⟩, ⟨13, .guard⟩], some (13, true)⟩ ?vc18 ?hyc18 hHeld ?_
                  case hyc18 => (intro wz hSw; (try dsimp only at hSw); obtain ⟨q0, q1, q2, q3, q4⟩ := K18.out _ hSw; go_simp; try with_reducible rfl)
                  (try simp only [putz])
                  refine WD_ready (rs := [16]) (by kernel_rfl) (by simp) ?_
                  refine AllD.cons (o := _) rfl (fun K hK => ?_) AllD.nil
                  rw [if_pos (by rfl)]
                  go_simp
                  refine (CT1.out _ hHeld).mono ?_; rintro e w6 ⟨A9, c9, rfl, r9, b6⟩
                  try unfold tv
                  try go_wp2_with fail
                  refine hK.out _ _ (bt hHeld b6) (fun hHeld => ?_)
                  clear hK K
                  (try simp only [putz])
                  have R9 := Lib.hid (show TRow w6 any0 A9 Q.1.args from r9.weak (fun _ _ _ => trivial))
                  clear r9 b6
                  refine WD_ready (rs := [19]) (by kernel_rfl) (by simp) ?_
                  refine AllD.cons (o := _) rfl (fun K hK => ?_) AllD.nil
                  rw [if_pos (by rfl)]
                  go_simp
                  refine (CS1.out _ hHeld A9 c9 R9.out).mono ?_; rintro e w7 ⟨rfl, b7⟩
                  try go_wp2_with fail
                  refine hK.out _ _ (bt hHeld b7) (fun hHeld => ?_)
                  clear hK K
                  (try simp only [putz])
                  clear b7 R9
                  refine WDs 20 ⟨some 180, .pick (.tmp 173) (.tmp 179) (.const (.bool false)), 4, _, #[⟨13, .data⟩, ⟨19, .data⟩], none⟩ ?vc20 ?hyc20 hHeld ?_
                  case hyc20 => (intro wz hSw; (try dsimp only at hSw); go_simp; try with_reducible rfl)
                  (try simp only [putz])
                  refine WDs 21 ⟨some 181, .move (.tmp 180), 4, _, #[⟨20, .data⟩, ⟨19, .chain⟩], none⟩ ?vc21 ?hyc21 hHeld ?_
                  case hyc21 => (intro wz hSw; (try dsimp only at hSw); go_simp; try with_reducible rfl)
                  (try simp only [putz])
                  refine WDs 22 ⟨some 182, .load 24 (.tmp 19), 24, _, #[⟨21, .guard⟩], some (21, true)⟩ ?vc22 ?hyc22 hHeld ?_
                  case hyc22 => (intro wz hSw; (try dsimp only at hSw); obtain ⟨q0, q1, q2, q3⟩ := K19.out _ hSw; go_simp; try with_reducible rfl)
                  (try simp only [putz])
                  refine WDs 24 ⟨some 184, .load 36 (.tmp 20), 36, _, #[⟨21, .guard⟩], some (21, true)⟩ ?vc24 ?hyc24 hHeld ?_
                  case hyc24 => (intro wz hSw; (try dsimp only at hSw); obtain ⟨q0, q1, q2, q3⟩ := K20.out _ hSw; go_simp; try with_reducible rfl)
                  (try simp only [putz])
                  refine WD_ready (rs := [23]) (by kernel_rfl) (by simp) ?_
                  refine AllD.cons (o := _) rfl (fun K hK => ?_) AllD.nil
                  rw [if_pos (by rfl)]
                  go_simp
                  refine (CT2.out _ hHeld).mono ?_; rintro e w8 ⟨A10, c10, rfl, r10, b8⟩
                  try unfold tv
                  try go_wp2_with fail
                  refine hK.out _ _ (bt hHeld b8) (fun hHeld => ?_)
                  clear hK K
                  (try simp only [putz])
                  have R10 := Lib.hid (show TRow w8 any0 A10 G.1.args from r10.weak (fun _ _ _ => trivial))
                  clear r10 b8
                  refine WD_ready (rs := [25]) (by kernel_rfl) (by simp) ?_
                  refine AllD.cons (o := _) rfl (fun K hK => ?_) AllD.nil
                  rw [if_pos (by rfl)]
                  go_simp
                  refine (CS2.out _ hHeld A10 c10 R10.out).mono ?_; rintro e w9 ⟨rfl, b9⟩
                  try go_wp2_with fail
                  refine hK.out _ _ (bt hHeld b9) (fun hHeld => ?_)
                  clear hK K
                  (try simp only [putz])
                  clear b9 R10
                  refine WDs 26 ⟨some 186, .pick (.tmp 181) (.tmp 185) (.const (.bool false)), 4, _, #[⟨21, .data⟩, ⟨25, .data⟩], none⟩ ?vc26 ?hyc26 hHeld ?_
                  case hyc26 => (intro wz hSw; (try dsimp only at hSw); go_simp; try with_reducible rfl)
                  (try simp only [putz])
                  refine WDs 27 ⟨some 187, .move (.tmp 186), 4, _, #[⟨26, .data⟩, ⟨25, .chain⟩], none⟩ ?vc27 ?hyc27 hHeld ?_
                  case hyc27 => (intro wz hSw; (try dsimp only at hSw); go_simp; try with_reducible rfl)
                  (try simp only [putz])
                  refine WDs 28 ⟨some 188, .fieldAddr 28 (.tmp 9) 1, 0, _, #[⟨27, .guard⟩], some (27, true)⟩ ?vc28 ?hyc28 hHeld ?_
                  case hyc28 => (intro wz hSw; (try dsimp only at hSw); go_simp; try with_reducible rfl)
                  (try simp only [putz])
                  refine WDs 29 ⟨some 189, .load 24 (.tmp 188), 24, _, #[⟨28, .data⟩, ⟨27, .guard⟩], some (27, true)⟩ ?vc29 ?hyc29 hHeld ?_
                  case hyc29 => (intro wz hSw; (try dsimp only at hSw); obtain ⟨q0, q1, q2, q3, q4⟩ := K9.out _ hSw; go_simp; try with_reducible rfl)
                  (try simp only [putz])
                  refine WD_ready (rs := [30]) (by kernel_rfl) (by simp) ?_
                  refine AllD.cons (o := _) rfl (fun K hK => ?_) AllD.nil
                  rw [if_pos (by rfl)]
                  go_simp
                  refine (CG.out _ hHeld).mono ?_; rintro e w10 ⟨rfl, b10⟩
                  try go_wp2_with fail
                  refine hK.out _ _ (bt hHeld b10) (fun hHeld => ?_)
                  clear hK K
                  (try simp only [putz])
                  clear b10
                  cases gU with
                  | true =>
                    refine WDs 31 ⟨some 191, .unOp .not 4 (.tmp 190), 4, _, #[⟨30, .data⟩, ⟨27, .guard⟩], some (27, true)⟩ ?vd31 ?hyd31 hHeld ?_
                    case hyd31 => (intro wz hSw; (try dsimp only at hSw); go_simp; try with_reducible rfl)
                    (try simp only [putz])
                    refine WDs 32 ⟨some 192, .move (.tmp 191), 4, _, #[⟨31, .data⟩, ⟨30, .chain⟩, ⟨27, .guard⟩], some (27, true)⟩ ?vd32 ?hyd32 hHeld ?_
                    case hyd32 => (intro wz hSw; (try dsimp only at hSw); go_simp; try with_reducible rfl)
                    (try simp only [putz])
                    refine WDs 33 ⟨some 193, .load 28 (.tmp 9), 28, _, #[⟨32, .guard⟩], some (32, false)⟩ ?vd33 ?hyd33 hHeld ?_
                    case hyd33 => (intro wz hSw; (try dsimp only at hSw); obtain ⟨q0, q1, q2, q3, q4⟩ := K9.out _ hSw; go_simp; try with_reducible rfl)
                    (try simp only [putz])
                    refine WDs 35 ⟨some 195, .fieldAddr 28 (.tmp 9) 1, 0, _, #[⟨32, .guard⟩], some (32, false)⟩ ?vd35 ?hyd35 hHeld ?_
                    case hyd35 => (intro wz hSw; (try dsimp only at hSw); go_simp; try with_reducible rfl)
                    (try simp only [putz])
                    refine WDs 36 ⟨some 196, .load 24 (.tmp 195), 24, _, #[⟨35, .data⟩, ⟨32, .guard⟩], some (32, false)⟩ ?vd36 ?hyd36 hHeld ?_
                    case hyd36 => (intro wz hSw; (try dsimp only at hSw); obtain ⟨q0, q1, q2, q3, q4⟩ := K9.out _ hSw; go_simp; try with_reducible rfl)
                    (try simp only [putz])
                    refine WD_ready (rs := [34]) (by kernel_rfl) (by simp) ?_
                    refine AllD.cons (o := _) rfl (fun K hK => ?_) AllD.nil
                    rw [if_pos (by rfl)]
                    go_simp
                    refine (CW1.out (by trivial) _ hHeld).mono ?_; rintro e w11 ⟨rfl, b11⟩
                    try go_wp2_with fail
                    refine hK.out _ _ (bt hHeld b11) (fun hHeld => ?_)
                    clear hK K
                    (try simp only [putz])
                    clear b11
                    refine WD_ready (rs := [37]) (by kernel_rfl) (by simp) ?_
                    refine AllD.cons (o := _) rfl (fun K hK => ?_) AllD.nil
                    rw [if_pos (by rfl)]
                    go_simp
                    refine (CW2.out (by trivial) _ hHeld).mono ?_; rintro e w12 ⟨rfl, b12⟩
                    try go_wp2_with fail
                    refine hK.out _ _ (bt hHeld b12) (fun hHeld => ?_)
                    clear hK K
                    (try simp only [putz])
                    clear b12
                    refine WDs 38 ⟨some 198, .binOp .eql 9 (.tmp 194) (.tmp 197) 9, 4, _, #[⟨34, .data⟩, ⟨37, .data⟩, ⟨32, .guard⟩], some (32, false)⟩ ?vd38 ?hyd38 hHeld ?_
                    case hyd38 => (intro wz hSw; (try dsimp only at hSw); go_simp; try with_reducible rfl)
                    (try simp only [putz])
                    refine WDs 39 ⟨some 199, .pick (.tmp 192) (.const (.bool true)) (.tmp 198), 4, _, #[⟨32, .data⟩, ⟨38, .data⟩, ⟨27, .guard⟩], some (27, true)⟩ ?vd39 ?hyd39 hHeld ?_
                    case hyd39 => (intro wz hSw; (try dsimp only at hSw); go_simp; try with_reducible rfl)
                    (try simp only [putz])
                    refine WDs 40 ⟨some 200, .pick (.tmp 187) (.tmp 199) (.const (.bool false)), 4, _, #[⟨27, .data⟩, ⟨39, .data⟩], none⟩ ?vd40 ?hyd40 hHeld ?_
                    case hyd40 => (intro wz hSw; (try dsimp only at hSw); go_simp; try with_reducible rfl)
                    (try simp only [putz])
                    refine WDs 41 ⟨some 201, .move (.tmp 200), 4, _, #[⟨40, .data⟩, ⟨37, .chain⟩], none⟩ ?vd41 ?hyd41 hHeld ?_
                    case hyd41 => (intro wz hSw; (try dsimp only at hSw); go_simp; try with_reducible rfl)
                    (try simp only [putz])
                    refine WDs 42 ⟨some 202, .load 24 (.tmp 7), 24, _, #[⟨41, .guard⟩], some (41, true)⟩ ?vd42 ?hyd42 hHeld ?_
                    case hyd42 => (intro wz hSw; (try dsimp only at hSw); obtain ⟨q0, q1, q2, q3⟩ := K7.out _ hSw; go_simp; try with_reducible rfl)
                    (try simp only [putz])
                    refine WD_ready (rs := [43]) (by kernel_rfl) (by simp) ?_
                    refine AllD.cons (o := _) rfl (fun K hK => ?_) AllD.nil
                    rw [if_pos (by rfl)]
                    go_simp
                    refine (CM.out _ hHeld).mono ?_; rintro e w13 ⟨A11, c11, rfl, -, b13⟩
                    try unfold scv
                    try go_wp2_with fail
                    refine hK.out _ _ (bt hHeld b13) (fun hHeld => ?_)
                    clear hK K
                    (try simp only [putz])
                    clear b13
                    refine WDs 44 ⟨some 204, .field 28 (.tmp 203) 0, 26, _, #[⟨43, .data⟩, ⟨41, .guard⟩], some (41, true)⟩ ?vd44 ?hyd44 hHeld ?_
                    case hyd44 => (intro wz hSw; (try dsimp only at hSw); go_simp; try with_reducible rfl)
                    (try simp only [putz])
                    refine WDs 45 ⟨some 205, .call { callee := .builtin .len, args := #[.tmp 204], argTypes := #[26] }, 3, _, #[⟨44, .data⟩, ⟨41, .guard⟩], some (41, true)⟩ ?vd45 ?hyd45 hHeld ?_
                    case hyd45 => (intro wz hSw; (try dsimp only at hSw); go_simp; try with_reducible rfl)
                    (try simp only [putz])
                    refine WDs 46 ⟨some 206, .binOp .eql 3 (.tmp 205) (.const (.int .i64 0)) 3, 4, _, #[⟨45, .data⟩, ⟨41, .guard⟩], some (41, true)⟩ ?vd46 ?hyd46 hHeld ?_
                    case hyd46 => (intro wz hSw; (try dsimp only at hSw); go_simp; try with_reducible rfl)
                    (try simp only [putz])
                    refine WDs 47 ⟨some 207, .pick (.tmp 201) (.tmp 206) (.const (.bool false)), 4, _, #[⟨41, .data⟩, ⟨46, .data⟩], none⟩ ?vd47 ?hyd47 hHeld ?_
                    case hyd47 => (intro wz hSw; (try dsimp only at hSw); go_simp; try with_reducible rfl)
                    (try simp only [putz])
                    have H9 := Lib.hid hHeld
                    clear hHeld
                    refine WD_ready (rs := [48]) (by kernel_rfl) (by simp) ?_
                    refine AllD.last (o := _) rfl (by kernel_rfl) (fun K hK => ?_) AllD.nil
                    rw [if_pos (by rfl)]
                    go_simp
                    refine hK.out _ _ ?_
                    clear hK K
                    (try simp only [putz])
                    refine WD_done (by kernel_rfl) ?_ _
                    go_wp2
                    go_ret
                    exact ⟨rfl, bt HWD.out H9.out⟩
                  | false =>
                    refine WDs 31 ⟨some 191, .unOp .not 4 (.tmp 190), 4, _, #[⟨30, .data⟩, ⟨27, .guard⟩], some (27, true)⟩ ?ve31 ?hye31 hHeld ?_
                    case hye31 => (intro wz hSw; (try dsimp only at hSw); go_simp; try with_reducible rfl)
                    (try simp only [putz])
                    refine WDs 32 ⟨some 192, .move (.tmp 191), 4, _, #[⟨31, .data⟩, ⟨30, .chain⟩, ⟨27, .guard⟩], some (27, true)⟩ ?ve32 ?hye32 hHeld ?_
                    case hye32 => (intro wz hSw; (try dsimp only at hSw); go_simp; try with_reducible rfl)
                    (try simp only [putz])
                    refine WDk 33 ⟨some 193, .load 28 (.tmp 9), 28, _, #[⟨32, .guard⟩], some (32, false)⟩ hHeld ?_
                    (try simp only [putz])
                    refine WDk 35 ⟨some 195, .fieldAddr 28 (.tmp 9) 1, 0, _, #[⟨32, .guard⟩], some (32, false)⟩ hHeld ?_
                    (try simp only [putz])
                    refine WDk 36 ⟨some 196, .load 24 (.tmp 195), 24, _, #[⟨35, .data⟩, ⟨32, .guard⟩], some (32, false)⟩ hHeld ?_
                    (try simp only [putz])
                    refine WD_ready (rs := [34]) (by kernel_rfl) (by simp) ?_
                    refine AllD.cons (o := ⟨some 194, .call { callee := .value (.func 22), args := #[.tmp 193], argTypes := #[28] }, 9, _, #[⟨33, .data⟩, ⟨32, .chain⟩, ⟨32, .guard⟩], some (32, false)⟩) rfl (fun K hK => ?_) AllD.nil
                    rw [if_neg (fun h => nomatch h)]
                    refine hK.out _ _ hHeld (fun hHeld => ?_)
                    clear hK K
                    (try simp only [putz])
                    refine WD_ready (rs := [37]) (by kernel_rfl) (by simp) ?_
                    refine AllD.cons (o := ⟨some 197, .call { callee := .value (.func 23), args := #[.tmp 196], argTypes := #[24] }, 9, _, #[⟨36, .data⟩, ⟨34, .chain⟩, ⟨32, .guard⟩], some (32, false)⟩) rfl (fun K hK => ?_) AllD.nil
                    rw [if_neg (fun h => nomatch h)]
                    refine hK.out _ _ hHeld (fun hHeld => ?_)
                    clear hK K
                    (try simp only [putz])
                    refine WDk 38 ⟨some 198, .binOp .eql 9 (.tmp 194) (.tmp 197) 9, 4, _, #[⟨34, .data⟩, ⟨37, .data⟩, ⟨32, .guard⟩], some (32, false)⟩ hHeld ?_
                    (try simp only [putz])
                    refine WDs 39 ⟨some 199, .pick (.tmp 192) (.const (.bool true)) (.tmp 198), 4, _, #[⟨32, .data⟩, ⟨38, .data⟩, ⟨27, .guard⟩], some (27, true)⟩ ?ve39 ?hye39 hHeld ?_
                    case hye39 => (intro wz hSw; (try dsimp only at hSw); go_simp; try with_reducible rfl)
                    (try simp only [putz])
                    refine WDs 40 ⟨some 200, .pick (.tmp 187) (.tmp 199) (.const (.bool false)), 4, _, #[⟨27, .data⟩, ⟨39, .data⟩], none⟩ ?ve40 ?hye40 hHeld ?_
                    case hye40 => (intro wz hSw; (try dsimp only at hSw); go_simp; try with_reducible rfl)
                    (try simp only [putz])
                    refine WDs 41 ⟨some 201, .move (.tmp 200), 4, _, #[⟨40, .data⟩, ⟨37, .chain⟩], none⟩ ?ve41 ?hye41 hHeld ?_
                    case hye41 => (intro wz hSw; (try dsimp only at hSw); go_simp; try with_reducible rfl)
                    (try simp only [putz])
                    refine WDs 42 ⟨some 202, .load 24 (.tmp 7), 24, _, #[⟨41, .guard⟩], some (41, true)⟩ ?ve42 ?hye42 hHeld ?_
                    case hye42 => (intro wz hSw; (try dsimp only at hSw); obtain ⟨q0, q1, q2, q3⟩ := K7.out _ hSw; go_simp; try with_reducible rfl)
                    (try simp only [putz])
                    refine WD_ready (rs := [43]) (by kernel_rfl) (by simp) ?_
                    refine AllD.cons (o := _) rfl (fun K hK => ?_) AllD.nil
                    rw [if_pos (by rfl)]
                    go_simp
                    refine (CM.out _ hHeld).mono ?_; rintro e w13 ⟨A11, c11, rfl, -, b13⟩
                    try unfold scv
                    try go_wp2_with fail
                    refine hK.out _ _ (bt hHeld b13) (fun hHeld => ?_)
                    clear hK K
                    (try simp only [putz])
                    clear b13
                    refine WDs 44 ⟨some 204, .field 28 (.tmp 203) 0, 26, _, #[⟨43, .data⟩, ⟨41, .guard⟩], some (41, true)⟩ ?ve44 ?hye44 hHeld ?_
                    case hye44 => (intro wz hSw; (try dsimp only at hSw); go_simp; try with_reducible rfl)
                    (try simp only [putz])
                    refine WDs 45 ⟨some 205, .call { callee := .builtin .len, args := #[.tmp 204], argTypes := #[26] }, 3, _, #[⟨44, .data⟩, ⟨41, .guard⟩], some (41, true)⟩ ?ve45 ?hye45 hHeld ?_
                    case hye45 => (intro wz hSw; (try dsimp only at hSw); go_simp; try with_reducible rfl)
                    (try simp only [putz])
                    refine WDs 46 ⟨some 206, .binOp .eql 3 (.tmp 205) (.const (.int .i64 0)) 3, 4, _, #[⟨45, .data⟩, ⟨41, .guard⟩], some (41, true)⟩ ?ve46 ?hye46 hHeld ?_
                    case hye46 => (intro wz hSw; (try dsimp only at hSw); go_simp; try with_reducible rfl)
                    (try simp only [putz])
                    refine WDs 47 ⟨some 207, .pick (.tmp 201) (.tmp 206) (.const (.bool false)), 4, _, #[⟨41, .data⟩, ⟨46, .data⟩], none⟩ ?ve47 ?hye47 hHeld ?_
                    case hye47 => (intro wz hSw; (try dsimp only at hSw); go_simp; try with_reducible rfl)
                    (try simp only [putz])
                    have H9 := Lib.hid hHeld
                    clear hHeld
                    refine WD_ready (rs := [48]) (by kernel_rfl) (by simp) ?_
                    refine AllD.last (o := _) rfl (by kernel_rfl) (fun K hK => ?_) AllD.nil
                    rw [if_pos (by rfl)]
                    go_simp
                    refine hK.out _ _ ?_
                    clear hK K
                    (try simp only [putz])
                    refine WD_done (by kernel_rfl) ?_ _
                    go_wp2
                    go_ret
                    exact ⟨rfl, bt HWD.out H9.out⟩
end Go.Proofs.YtifopogkbjhkjaaGreatDoor
