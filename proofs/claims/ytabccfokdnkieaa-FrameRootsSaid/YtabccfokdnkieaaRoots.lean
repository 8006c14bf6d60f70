import Derived.Test.YtabccfokdnkieaaRootsA
import Derived.Deep.LoopGhost
namespace Go.Proofs.Ytabccfokdnkieaa
open Go.ChangeShapes Go.WideShapes Go.ChangeAt Go.RowKit
set_option linter.unusedVariables false
set_option maxRecDepth 100000 in
set_option maxHeartbeats 4000000 in
theorem roots_walk {w : World} {A : Option Addr} {n c : Nat} {by_ : Int} {acts : List ActR} (h : ActsIn w A n acts) :
    Calls Try.prog 5 #[.slice A n c, .int .u64 by_] w fun e w' => e = .returned (.bool true) ∧ Below w.heap.size w w' := by
  have H := Lib.hid h
  clear h
  by_cases hb : (40 : Int) < (n : Int)
  · have d1' := decide_eq_true (show 40 < n by omega)
    go_enter Try.func5, Try.ntmps5
    go_wp2_with fail
    refine (awake_any w).mono ?_; rintro e w1 ⟨rfl, hb1⟩
    have HB := Lib.hid hb1; clear hb1
    go_wp2
    go_ret
    exact ⟨rfl, HB.out⟩
  have d1' := decide_eq_false (show ¬ 40 < n by omega)
  have hn20 : n ≤ 40 := by omega
  go_enter Try.func5, Try.ntmps5
  go_wp2_with fail
  refine (awake_any w).mono ?_; rintro e w1 ⟨rfl, hb1⟩
  have HB := Lib.hid hb1; clear hb1
  go_wp2_with fail
  refine (new_st 500 (by omega) (by omega)).mono ?_; rintro e w2 ⟨g, rfl, s0⟩
  have s0 : Hid (Some17 w1 w2 g 500 0) := Lib.hid ⟨[], s0.out, by simp⟩
  clear d1' hb
  go_wp2
  go_loopw [7] (fun ix wr => ∃ i : Nat, ix = .int .i64 i ∧ i ≤ n ∧ Hid (Some17 w1 wr g 500 i)) (fun ix _ => n - (intOf ix).toNat)
  case atStart => exact ⟨0, rfl, by omega, s0⟩
  case round =>
    obtain ⟨i, rfl, hi, s⟩ := hrel
    clear s0
    by_cases hin : i < n
    · have hin' : (i : Int) < (n : Int) := by omega
      obtain ⟨b1, o1, rfl, k1⟩ := H.out.at (by omega)
      obtain ⟨l, hl, hll⟩ := s.out
      have S := Lib.hid hl
      have BLW : Hid (Below w.heap.size w wr) := Lib.hid (HB.out.trans (hl.small.mono HB.out.size))
      have K1 := Lib.hid k1
      clear k1 hl s
      obtain ⟨op, hop⟩ : ∃ x, x = (acts.getD i default).op := ⟨_, rfl⟩
      obtain ⟨a, ha⟩ : ∃ x, x = (acts.getD i default).a := ⟨_, rfl⟩
      obtain ⟨b, hb⟩ : ∃ x, x = (acts.getD i default).b := ⟨_, rfl⟩
      obtain ⟨m, hm⟩ : ∃ x, x = (acts.getD i default).n := ⟨_, rfl⟩
      obtain ⟨u, hu⟩ : ∃ x, x = (acts.getD i default).w := ⟨_, rfl⟩
      have CELLS : Hid (∀ W, Below w.heap.size w W → W.cell? ⟨b1, o1 + i * 6, none⟩ = some (.int .i64 op) ∧ W.cell? ⟨b1, o1 + i * 6 + 1, none⟩ = some (.int .i64 a) ∧ W.cell? ⟨b1, o1 + i * 6 + 2, none⟩ = some (.int .i64 b) ∧ W.cell? ⟨b1, o1 + i * 6 + 3, none⟩ = some (.int .i64 m) ∧ W.cell? ⟨b1, o1 + i * 6 + 4, none⟩ = some (.int .u64 u)) := Lib.hid (fun W hW => by
        obtain ⟨y0, y1, y2, y3, y4, -⟩ := K1.out W i hW hin
        exact ⟨by rw [hop]; exact y0, by rw [ha]; exact y1, by rw [hb]; exact y2, by rw [hm]; exact y3, by rw [hu]; exact y4⟩)
      obtain ⟨y0, y1, y2, y3, y4⟩ := CELLS.out wr BLW.out
      have AFT : Hid (∀ W l', StN w1 W g 500 l' → Below w.heap.size w W) := Lib.hid (fun W l' h => HB.out.trans (h.small.mono HB.out.size))
      clear hop ha hb hm hu
      go_upto_block 1 with fail
      go_cut [] (fun wx => Hid (Some17 w1 wx g 500 (i + 1)))
      case rest =>
        clear y0 y1 y2 y3 y4 CELLS AFT S BLW
        go_wp2
        go_roundw
        case rel => exact ⟨i + 1, by go_num, hin, hcut⟩
        case measure => simp [intOf]; omega
      case first =>
        by_cases h0 : op = 0
        · subst h0
          clear y4
          go_upto_region 12 with fail
          go_region_held3 (fun w' => w'.cell? ⟨b1, o1 + i * 6 + 1, none⟩ = some (.int .i64 a) ∧ w'.cell? ⟨b1, o1 + i * 6 + 2, none⟩ = some (.int .i64 b) ∧ w'.cell? ⟨b1, o1 + i * 6 + 3, none⟩ = some (.int .i64 m)) (go_keep)
            ((go_at_call 9; refine (push_st a b m S.out.drew).mono ?_; rintro e w3 ⟨rfl, s3⟩; obtain ⟨z0, z1, z2, z3, z4⟩ := CELLS.out w3 (AFT.out _ _ s3.out)))
          all_goals (
            go_wp2_with fail
            go_meet
            exact Lib.hid ⟨_, s3.out, by have := pushS_len 500 l a b m; omega⟩)
        by_cases h1 : op = 1
        · subst h1
          go_wp2_with fail
          refine (pop_any S.out).mono ?_; rintro e w3 ⟨v, rfl, s3⟩
          have S3 : Hid (Some17 w1 w3 g 500 (i + 1)) := Lib.hid ⟨_, s3.out, by simp; omega⟩
          clear s3 y0 y1 y2 y3 y4
          go_wp2_with fail
          go_meet
          exact S3
        by_cases h2 : op = 2
        · subst h2
          clear y1 y2
          go_upto_region 16 with fail
          go_region_held3 (fun w' => w'.cell? ⟨b1, o1 + i * 6 + 3, none⟩ = some (.int .i64 m) ∧ w'.cell? ⟨b1, o1 + i * 6 + 4, none⟩ = some (.int .u64 u)) (go_keep)
            ((go_at_call 13; refine (set_any m u S.out.drew).mono ?_; rintro e w3 ⟨rfl, s3⟩; obtain ⟨z0, z1, z2, z3, z4⟩ := CELLS.out w3 (AFT.out _ _ s3.out)))
          all_goals (
            go_wp2_with fail
            go_meet
            exact Lib.hid ⟨_, s3.out, by rw [setS_len]; omega⟩)
        have e0 : (op == 0) = false := beq_eq_false_iff_ne.2 h0
        have e1 : (op == 1) = false := beq_eq_false_iff_ne.2 h1
        have e2 : (op == 2) = false := beq_eq_false_iff_ne.2 h2
        clear h0 h1 h2
        go_wp2_with fail
        refine (add_any u S.out).mono ?_; rintro e w3 ⟨rfl, s3⟩
        have S3 : Hid (Some17 w1 w3 g 500 (i + 1)) := Lib.hid ⟨_, s3.out, by rw [addS_len]; omega⟩
        clear s3 y0 y1 y2 y3 y4
        go_wp2_with fail
        go_meet
        exact S3
    · obtain rfl : i = n := by omega
      have hin' : ¬ (i : Int) < (i : Int) := by omega
      clear hin hi
      obtain ⟨l, hl, hll⟩ := s.out
      have S := Lib.hid hl
      obtain ⟨N, hN⟩ : ∃ N, N = (wdOf l).length := ⟨_, rfl⟩
      have hN5 : N ≤ 4096 := by rw [hN]; exact wdOf_le hl
      have HN := Lib.hid hN
      have RT := Lib.hid (roots_st hl)
      rw [← hN] at RT
      have HLL : Hid (l.length ≤ 40) := Lib.hid (by omega)
      clear s hl hN hll s0
      go_wp2_with fail
      refine RT.out.mono ?_; rintro e w3 ⟨A3, c3, rfl, own3, hb3⟩
      go_wp2_with fail
      refine (words_any (own_in own3.out) (by omega)).mono ?_; rintro e w4 ⟨A4, c4, rfl, own4, hb4⟩
      have S4 := Lib.hid ((S.out.below hb3.out).below hb4.out)
      have IN4 := Lib.hid (own_in own4.out)
      clear own3 own4 hb3 hb4 RT S
      obtain ⟨i0, hi0, hz0, hz1, hz2⟩ := info_parts info29
      go_wp2
      go_loopw [9, 10] (fun v ix wr => ∃ (k : Nat) (A' : Option Addr) (c' : Nat), v = .slice A' k c' ∧ ix = .int .i64 k ∧ k ≤ N ∧ Hid (wr.ownsRow w4.heap.size 29 1 (.slice A' k c') k (wds ((plus by_ (wdOf l)).take k))) ∧ Hid (Below w4.heap.size w4 wr)) (fun _ ix _ => N - (intOf ix).toNat)
      case atStart => exact ⟨0, none, 0, rfl, rfl, by omega, Lib.hid (World.ownsRow_nil _ _ _ _), Lib.hid (Below.refl _ _)⟩
      case round =>
        obtain ⟨k, A', c', rfl, rfl, hk, own, hb⟩ := hrel
        by_cases hkn : k < N
        · have hkn' : (k : Int) < (N : Int) := by omega
          obtain ⟨bb, oo, rfl, kk⟩ := IN4.out.at (by omega)
          have x := kk wr k hb.out hkn
          clear kk
          have WB : Hid (w4.heap.size ≤ wr.heap.size) := Lib.hid hb.out.size
          obtain ⟨z, hz⟩ : ∃ z, z = (wdOf l).getD k 0 := ⟨_, rfl⟩
          rw [← hz] at x
          have HZ := Lib.hid hz
          clear hz
          go_wp2_with (at_builtin; refine wpList_append_lies _ rfl (.tmp 92) (.tmp 99) 48 rfl w4.heap.size 29 i0 (.int .u64 0) 1 8 Try.underlying48 hi0 hz0 hz1 hz2 rfl (by decide) _ k (wds ((plus by_ (wdOf l)).take k)) rfl (own.out.alloc _) ⟨wr.heap.size, 0, none⟩ 1 1 [.int .u64 (IntKind.u64.wrap (z + by_))] rfl rfl ?c1 ?c2 (by omega) (by unfold maxLen; omega) (by omega) (Nat.le_trans WB.out (by simp)) (wr.heap.size + 1) (by simp) ?_)
          case c1 =>
            intro j u hj
            match j, hj with
            | 0, hj => simp only [List.getElem?_cons_zero, Option.some.injEq] at hj; subst hj; exact new_cell wr _ 29
          case c2 => intro u hu; simp only [List.mem_singleton] at hu; subst hu; rfl
          intro gf cap w5 own5 gr5 at5 lt5
          have OWN5 : Hid (w5.ownsRow w4.heap.size 29 1 (.slice (some ⟨gf, 0, none⟩) (k + 1) cap) (k + 1) (wds ((plus by_ (wdOf l)).take (k + 1)))) := Lib.hid (by rw [plus_succ by_ _ k (by rw [← HN.out]; exact hkn), wds_app, ← HZ.out]; exact own5)
          have HB5 : Hid (Below w4.heap.size w4 w5) := Lib.hid ((hb.out.alloc WB.out (.cells #[.int .u64 (IntKind.u64.wrap (z + by_))] 29)).grown gr5 (Nat.le_trans WB.out (by simp)) (fun q hq => (own.out.lt q hq).1))
          clear own5 gr5 at5 lt5 own hb x
          go_wp2
          go_roundw
          case rel => exact ⟨k + 1, _, _, rfl, by go_num, hkn, OWN5, HB5⟩
          case measure => simp [intOf]; omega
        · obtain rfl : k = N := by omega
          have hkn' : ¬ (k : Int) < (k : Int) := by omega
          obtain ⟨MS, hMS⟩ : ∃ MS, MS = plus by_ (wdOf l) := ⟨_, rfl⟩
          have hMl : MS.length = (wdOf l).length := by rw [hMS]; exact plus_len _ _
          have OWN : Hid (wr.ownsRow w4.heap.size 29 1 (.slice A' k c') k (wds MS)) := Lib.hid (by have := own.out; rwa [← hMS, List.take_of_length_le (by rw [hMl, HN.out]; exact Nat.le_refl _)] at this)
          have ML := Lib.hid hMl
          have Z5 := Lib.hid hb.out.size
          have S5 := Lib.hid (S4.out.h.below (hb.out.mono (Nat.le_refl _)))
          have REN : Hid (renewS l MS = (0, refill l MS)) := Lib.hid (by unfold renewS; rw [if_pos hMl])
          clear own hkn hb S4 IN4 hMS hMl hi0 hz0 hz1 hz2
          go_wp2_with fail
          refine (back_any (own_in OWN.out) (by omega)).mono ?_; rintro e w6 ⟨A6, c6, rfl, own6, hb6⟩
          have S6 := Lib.hid (S5.out.below hb6.out)
          have OWN6 : Hid (w6.ownsRow w4.heap.size 29 1 (.slice A' k c') k (wds MS)) := Lib.hid (own_below6 OWN.out hb6.out)
          have IN6 := Lib.hid (own_in own6.out)
          have Z6 := Lib.hid (Nat.le_trans Z5.out hb6.out.size)
          clear own6 hb6 OWN S5 REN
          go_wp2_with fail
          refine (renew_h S6.out IN6.out HN.out).mono ?_; rintro e w7 ⟨rfl, s7⟩
          have WS : Hid (wdOf (refill l MS) = MS) := Lib.hid (refill_words l MS ML.out)
          have LL : Hid ((refill l MS).length ≤ 40) := Lib.hid (by rw [refill_len]; exact HLL.out)
          obtain ⟨lr, hlr⟩ : ∃ lr, lr = refill l MS := ⟨_, rfl⟩
          rw [← hlr] at s7 WS LL
          have OWN7 : Hid (w7.ownsRow w4.heap.size 29 1 (.slice A' k c') k (wds MS)) := Lib.hid (own_frmH OWN6.out s7.out.2)
          have S7 := Lib.hid s7.out.1
          have Z7 := Lib.hid (Nat.le_trans Z6.out s7.out.2.size)
          have HK : Hid ((wdOf lr).length = k) := Lib.hid (by rw [WS.out, ML.out, ← HN.out])
          have RT7 := Lib.hid (roots_st S7.out.n)
          rw [HK.out, WS.out] at RT7
          clear S6 OWN6 IN6 s7 hlr
          go_wp2_with fail
          refine RT7.out.mono ?_; rintro e w8 ⟨A8, c8, rfl, own8, hb8⟩
          have S8 := Lib.hid (S7.out.below hb8.out)
          have OWN8 : Hid (w8.ownsRow w4.heap.size 29 1 (.slice A' k c') k (wds MS)) := Lib.hid (own_below6 OWN7.out hb8.out)
          have IN8 := Lib.hid (own_in own8.out)
          have Z8 := Lib.hid (Nat.le_trans Z7.out hb8.out.size)
          clear S7 OWN7 own8 hb8 RT7
          go_wp2_with fail
          refine (words_any IN8.out (by omega)).mono ?_; rintro e w9 ⟨A9, c9, rfl, own9, hb9⟩
          have S9 := Lib.hid (S8.out.below hb9.out)
          have OWN9 : Hid (w9.ownsRow w4.heap.size 29 1 (.slice A' k c') k (wds MS)) := Lib.hid (own_below6 OWN8.out hb9.out)
          have IN9 := Lib.hid (own_in own9.out)
          have Z9 := Lib.hid (Nat.le_trans Z8.out hb9.out.size)
          clear S8 OWN8 own9 hb9 IN8
          go_wp2_with fail
          refine (same_any IN9.out (own_in OWN9.out) (by omega)).mono ?_; rintro e w10 ⟨he, hb10⟩
          rw [show sameB MS MS = true from decide_eq_true rfl] at he
          subst he
          have S10 := Lib.hid (S9.out.below hb10)
          have OWN10 : Hid (w10.ownsRow w4.heap.size 29 1 (.slice A' k c') k (wds MS)) := Lib.hid (own_below6 OWN9.out hb10)
          have Z10 := Lib.hid (Nat.le_trans Z9.out hb10.size)
          clear S9 OWN9 IN9 hb10 Z5 Z6 Z7 Z8 Z9
          go_wp2_with (at_builtin; refine wpList_append_keep_g (by rfl) (.tmp 116) (.tmp 117) rfl 1 rfl rfl (OWN10.out.alloc _) (Nat.le_trans Z10.out (by simp)) (by omega) (new_cell w10 _ 29) ?_)
          intro A11 c11 w11 in11 own11 hb11
          have B11 : Hid (Below w4.heap.size w10 w11) := Lib.hid (((Below.refl w4.heap.size w10).alloc Z10.out (.cells #[.int .u64 1] 29)).trans hb11.out)
          have OWN11 : Hid (w11.ownsRow w4.heap.size 29 1 (.slice A' k c') k (wds MS)) := own11
          have S11 : Hid (StH w1 w4.heap.size w11 g 500 lr) := Lib.hid (S10.out.belowH B11.out)
          clear own11 hb11 S10 OWN10
          go_wp2_with fail
          refine (back_any in11.out (by omega)).mono ?_; rintro e w12 ⟨A12, c12, rfl, own12, hb12⟩
          have S12 := Lib.hid (S11.out.below hb12.out)
          have M12 : Hid (MI w4.heap.size w12 A' k MS ∧ k ≤ c') := Lib.hid (MI.of (own_below6 OWN11.out hb12.out))
          clear S11 OWN11 own12 hb12 in11 Z10 B11
          go_wp2_with fail
          refine (renew_h_bad S12.out (by rw [HK.out]; omega)).mono ?_; rintro e w13 ⟨rfl, hb13⟩
          have S13 := Lib.hid (S12.out.below hb13)
          have M13 : Hid (MI w4.heap.size w13 A' k (wdOf lr)) := Lib.hid (by rw [WS.out]; exact M12.out.1.below hb13)
          have HC := Lib.hid M12.out.2
          clear S12 M12 hb13
          have ST : Hid (∃ n', n' = k ∧ n' = (wdOf lr).length) := Lib.hid ⟨k, rfl, HK.out.symm⟩
          obtain ⟨HH, hHH⟩ : ∃ HH, HH = w4.heap.size := ⟨_, rfl⟩
          rw [← hHH] at S13 M13
          have HK' : Hid (k = (wdOf lr).length) := Lib.hid HK.out.symm
          clear hHH HN ML WS ST HK HLL
          go_wp2
          go_loopg [9] (lr.length) (fun gk v wr => ∃ (l' : List RF) (n' : Nat) (A : Option Addr) (c : Nat), v = .slice A n' c ∧ n' ≤ c ∧ n' ≤ 4096 ∧ Hid (n' = (wdOf l').length) ∧ Hid (l'.length = gk ∧ gk ≤ 40) ∧ Hid (StH w1 HH wr g 500 l') ∧ Hid (MI HH wr A n' (wdOf l')))
          case atStart => exact ⟨lr, k, A', c', rfl, HC.out, hN5, HK', Lib.hid ⟨rfl, LL.out⟩, S13, M13⟩
          case round =>
            clear S13 M13 HC HK' LL
            obtain ⟨l', n', Am, cm, rfl, hnc, hn4, HL, HG, SH, MM⟩ := hrel
            rcases last_cases l' with rfl | ⟨r, f, rfl⟩
            · obtain rfl : n' = 0 := HL.out
              have DD : Hid (Calls Try.prog 17 #[.pointer (some ⟨g, 0, none⟩)] wr fun e w' => e = .returned (.int .i64 0) ∧ Below wr.heap.size wr w') := Lib.hid (depth_st SH.out.n)
              go_wp2_with fail
              refine DD.out.mono ?_; rintro e w14 ⟨rfl, hb14⟩
              have BB : Hid (Below w.heap.size w w14) := Lib.hid (HB.out.trans ((SH.out.below hb14).n.small.mono HB.out.size))
              clear hb14 SH MM DD HL HG
              go_wp2
              go_ret
              exact ⟨rfl, BB.out⟩
            · obtain ⟨D, hD⟩ : ∃ D, D = (r ++ [f]).length := ⟨_, rfl⟩
              have hD0 : 0 < D := by rw [hD]; simp
              have hD0' : (0 : Int) < (D : Int) := by omega
              have DD := Lib.hid (depth_st SH.out.n)
              rw [← hD] at DD
              have HD := Lib.hid hD
              obtain ⟨p, hp⟩ : ∃ p, p = f.added.length := ⟨_, rfl⟩
              have HP := Lib.hid hp
              obtain ⟨sl, hsl⟩ : ∃ sl, sl = f.slots.length := ⟨_, rfl⟩
              have HSL := Lib.hid hsl
              obtain ⟨Wr, hWr⟩ : ∃ Wr, Wr = (wdOf r).length := ⟨_, rfl⟩
              have HWR := Lib.hid hWr
              obtain ⟨q, hq⟩ : ∃ q, q = Wr + sl := ⟨_, rfl⟩
              have HQ := Lib.hid hq
              have hall : n' = q + p := by rw [HL.out, wdOf_app, wdOf_one, hq, hp, hsl, hWr]; simp [RF.ws]; omega
              have hq4 : q ≤ 4096 := by omega
              have hqc : q ≤ cm := by omega
              have hp4 : p ≤ 4096 := by omega
              have hWr4 : Wr ≤ 4096 := by omega
              have hWrc : Wr ≤ cm := by omega
              have hWrq : Wr ≤ q := by omega
              have hslq : sl ≤ q := by omega
              have HALL := Lib.hid hall
              clear hD hp hsl hWr hq hall
              go_wp2_with fail
              refine DD.out.mono ?_; rintro e w14 ⟨rfl, hb14⟩
              have S14 := Lib.hid (SH.out.below hb14)
              have M14 := Lib.hid (MM.out.below hb14)
              have AD : Hid (Calls Try.prog 32 #[.pointer (some ⟨g, 0, none⟩)] w14 fun e w' => e = .returned (.int .i64 p) ∧ Below w14.heap.size w14 w') := Lib.hid (by
                have := added_st S14.out.n
                rw [addedS_app, ← HP.out] at this; exact this)
              clear hb14 SH MM DD
              go_wp2_with fail
              refine AD.out.mono ?_; rintro e w15 ⟨rfl, hb15⟩
              have S15 : Hid (StH w1 HH w15 g 500 (r ++ [{ f with added := f.added.take p }])) := Lib.hid (by
                have := S14.out.below hb15
                rw [HP.out, List.take_length]; exact this)
              have M15 : Hid (MI HH w15 Am n' ((wdOf (r ++ [f])).take n')) := Lib.hid (by
                have := M14.out.below hb15
                rw [List.take_of_length_le (by rw [HL.out]; exact Nat.le_refl _)]; exact this)
              clear hb15 S14 M14 AD
              go_wp2
              go_loopw [9, 11] (fun v nx wr => ∃ (j t : Nat), v = .slice Am t cm ∧ nx = .int .i64 j ∧ j ≤ p ∧ Hid (t = q + j) ∧ Hid (StH w1 HH wr g 500 (r ++ [{ f with added := f.added.take j }])) ∧ Hid (MI HH wr Am t ((wdOf (r ++ [f])).take t))) (fun _ nx _ => (intOf nx).toNat)
              case atStart => exact ⟨p, n', rfl, rfl, Nat.le_refl _, HALL, S15, M15⟩
              case round =>
                clear S15 M15
                obtain ⟨j, t, rfl, rfl, hj, HT, SJ, MJ⟩ := hrel
                have ht4 : t ≤ 4096 := by have := HT.out; have := HALL.out; omega
                have htc : t ≤ cm := by have := HT.out; have := HALL.out; omega
                by_cases hj0 : j = 0
                · subst hj0
                  obtain rfl : t = q := by have := HT.out; omega
                  have hjp : ¬ (0 : Int) < ((0 : Nat) : Int) := by omega
                  have RT3 : Hid (Calls Try.prog 14 #[.pointer (some ⟨g, 0, none⟩)] wr fun e w' => ∃ A c, e = .returned (.slice A t c) ∧ Hid (Below wr.heap.size wr w')) := Lib.hid ((roots_st SJ.out.n).mono (fun e w' ⟨A, c, he, _, hb⟩ => ⟨A, c, by
                    have a1 : (wdOf (r ++ [{ f with added := f.added.take 0 }])).length = t := by
                      rw [wdOf_app, wdOf_one, HQ.out, HWR.out, HSL.out]; simp [RF.ws]
                    rw [he, a1], hb⟩))
                  clear hj HT
                  go_wp2_with fail
                  refine RT3.out.mono ?_; rintro e w16 ⟨A16, c16, rfl, hb16⟩
                  have S16 := Lib.hid (SJ.out.below hb16.out)
                  have M16 := Lib.hid (MJ.out.below hb16.out)
                  clear SJ MJ hb16 RT3
                  go_wp2_with fail
                  refine (pop_h S16.out).mono ?_; rintro e w17 ⟨rfl, s17⟩
                  have S17 := Lib.hid s17.out.1
                  have M17 := Lib.hid (M16.out.frm s17.out.2)
                  clear S16 M16 s17
                  obtain ⟨d, hd⟩ : ∃ d, d = r.length := ⟨_, rfl⟩
                  have hd4 : d < 40 := by have := HG.out; simp at this; omega
                  have D17 := Lib.hid (depth_st S17.out.n)
                  rw [← hd] at D17
                  have HDD := Lib.hid hd
                  have hd60 : ¬ (60 : Int) < (d : Int) := by omega
                  have d60 := decide_eq_false (show ¬ 60 < d by omega)
                  clear hd
                  go_wp2_with fail
                  refine D17.out.mono ?_; rintro e w18 ⟨rfl, hb18⟩
                  have S18 := Lib.hid (S17.out.below hb18)
                  have M18 := Lib.hid (M17.out.below hb18)
                  have RT4 := Lib.hid (roots_st S18.out.n)
                  rw [← HWR.out] at RT4
                  clear S17 M17 hb18 D17
                  have q1 : (t : Int) - (Wr : Int) = (sl : Int) := by have := HQ.out; omega
                  have q2 : (t : Int) - (sl : Int) = (Wr : Int) := by omega
                  have q3 : ¬ (t : Int) < (sl : Int) := by omega
                  have q4 := decide_eq_false (show ¬ t < sl by omega)
                  have sl0 : ¬ (sl : Int) < 0 := by omega
                  have sl4 : sl ≤ 4096 := by omega
                  go_wp2_with fail
                  refine RT4.out.mono ?_; rintro e w19 ⟨A19, c19, rfl, own19, hb19⟩
                  have S19 := Lib.hid (S18.out.below hb19.out)
                  have M19 : Hid (MI HH w19 Am Wr (wdOf r)) := Lib.hid (by
                    have := ((M18.out.below hb19.out).take (m := Wr) hWrq)
                    rw [List.take_take, Nat.min_eq_left hWrq, wdOf_app, List.take_left' HWR.out.symm] at this
                    exact this)
                  have HG2 : Hid (d = d ∧ d ≤ 40) := Lib.hid ⟨rfl, by omega⟩
                  have HGK : Hid (d < gk) := Lib.hid (by have := HG.out.1; rw [List.length_append, List.length_singleton, ← HDD.out] at this; omega)
                  have HG3 : Hid (r.length = d ∧ d ≤ 40) := Lib.hid ⟨HDD.out.symm, by omega⟩
                  clear own19 hb19 S18 M18 RT4
                  go_wp2_with fail
                  go_roundg d
                  case measure => exact HGK.out
                  case rel => exact ⟨r, Wr, Am, cm, rfl, hWrc, hWr4, HWR, HG3, S19, M19⟩
                · obtain ⟨j1, hj1⟩ : ∃ j1 : Nat, (j : Int) - 1 = j1 := ⟨j - 1, by omega⟩
                  obtain ⟨t1, ht1⟩ : ∃ t1 : Nat, (t : Int) - 1 = t1 := ⟨t - 1, by have := HT.out; omega⟩
                  have hjp : (0 : Int) < (j : Int) := by omega
                  have hjp' : 0 < j := by omega
                  have ht0 : ((t : Int) == 0) = false := beq_eq_false_iff_ne.2 (by have := HT.out; omega)
                  have ht0' : (t == 0) = false := beq_eq_false_iff_ne.2 (by have := HT.out; omega)
                  have e1 : t = t1 + 1 := by omega
                  have e2 : j = j1 + 1 := by omega
                  have e3 : t1 = q + j1 := by have := HT.out; omega
                  have ht1t : t1 ≤ t := by omega
                  have ht1c : t1 ≤ cm := by omega
                  have ht1i : (t1 : Int) < (t : Int) := by omega
                  have hj14 : j1 ≤ 4096 := by omega
                  obtain ⟨bm, rfl, hmb, hml, hmc⟩ := MJ.out.2 (by omega)
                  obtain ⟨x, hx⟩ : ∃ x, x = f.added.getD j1 0 := ⟨_, rfl⟩
                  have XV : Hid (((wdOf (r ++ [f])).take t).getD t1 0 = x) := Lib.hid (by
                    rw [wdOf_app, wdOf_one, hx]
                    have a1 : (wdOf r).length + f.slots.length = q := by rw [HQ.out, HWR.out, HSL.out]
                    simp only [List.getD, RF.ws]
                    rw [List.getElem?_take_of_lt (by omega), ← List.append_assoc, List.getElem?_append_right (by rw [List.length_append]; omega), List.length_append, a1, e3, Nat.add_sub_cancel_left])
                  have TK : Hid (Calls Try.prog 25 #[.pointer (some ⟨g, 0, none⟩)] wr fun e w' => e = .returned (.tuple #[.int .u64 x, .int .i64 0]) ∧ Hid (StH w1 HH w' g 500 (r ++ [{ f with added := f.added.take j1 }]) ∧ Frm wr w' (· < HH))) := Lib.hid (by
                    rw [hx]
                    have := SJ.out; rw [e2] at this
                    exact take_h j1 (by rw [← HP.out]; omega) this)
                  have E1 := Lib.hid e1; have E2 := Lib.hid e2; have E3 := Lib.hid e3
                  clear hmc hml hmb hx e1 e2 e3
                  go_wp2_with fail
                  refine TK.out.mono ?_; rintro e w16 ⟨rfl, s16⟩
                  have S16 := Lib.hid s16.out.1
                  have m16 := MJ.out.frm s16.out.2
                  have y : w16.cell? ⟨bm, t1, none⟩ = some (.int .u64 x) := by
                    obtain ⟨b9, e9, _, _, c9⟩ := m16.2 (by have := E1.out; omega)
                    have := c9 t1 (by have := E1.out; omega)
                    rw [XV.out, Nat.zero_add] at this
                    injection e9 with e9; injection e9 with e9
                    rw [e9]; exact this
                  have M16 : Hid (MI HH w16 (some ⟨bm, 0, none⟩) t1 ((wdOf (r ++ [f])).take t1)) := Lib.hid (by
                    have := m16.take (m := t1) (by have := E1.out; omega)
                    rwa [List.take_take, Nat.min_eq_left (by have := E1.out; omega)] at this)
                  clear s16 m16 SJ MJ TK
                  go_wp2
                  go_roundw
                  case rel => exact ⟨j1, t1, rfl, by go_num, by have := E2.out; omega, E3, S16, M16⟩
                  case measure => simp [intOf]; have := E2.out; omega
end Go.Proofs.Ytabccfokdnkieaa
