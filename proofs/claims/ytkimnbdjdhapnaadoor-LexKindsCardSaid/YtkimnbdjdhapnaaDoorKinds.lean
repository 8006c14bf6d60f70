import Derived.Test.YtkimnbdjdhapnaaDoorRows2
import Derived.Deep.LoopGhost
namespace Go.Proofs.YtkimnbdjdhapnaaDoor
open Go.ChangeShapes Go.WideShapes Go.ChangeAt Go.RowKit Go.Shelf Go.Lib CharsMath
set_option linter.unusedVariables false
set_option maxHeartbeats 8000000 in
set_option maxRecDepth 100000 in
theorem kinds_walk (s : ByteArray) (w : World) (hT : Tabs w) (hs0 : s.size ≤ maxLen) : Calls Tryd.prog 6 #[.string s] w fun e w' => e = .returned (.bool true) ∧ Below w.heap.size w w' := by
  have HT := Lib.hid hT
  by_cases hbig : 1000 < s.size
  · have d := decide_eq_true (show (1000 : Int) < (s.size : Int) by omega)
    clear hbig hs0
    go_enter Tryd.func6, Tryd.ntmps6
    go_wp2_with fail
    refine (awake_any w hT).mono ?_; rintro e w0 ⟨rfl, hb0⟩
    have B0 := Lib.hid hb0
    clear hb0 hT
    go_wp2_with fail
    go_ret
    exact ⟨rfl, B0.out⟩
  have d := decide_eq_false (show ¬ (1000 : Int) < (s.size : Int) by omega)
  have hs : s.size ≤ 1000 := by omega
  have HA := Lib.hid (lex_ans s)
  obtain ⟨R, hR⟩ : ∃ R, lexV s = R := ⟨_, rfl⟩
  obtain ⟨l, k, p⟩ := R
  have HR := Lib.hid hR
  rw [hR] at HA
  clear hbig hR hs0
  go_enter Tryd.func6, Tryd.ntmps6
  go_wp2_with fail
  refine (awake_any w hT).mono ?_; rintro e w0 ⟨rfl, hb0⟩
  have B0 := Lib.hid hb0
  clear hb0 hT
  go_wp2_with fail
  refine (lex_any s _ (by omega) (HT.out.below B0.out)).mono ?_; intro e w1 h1
  by_cases hl : l.length = 0
  · obtain ⟨A, c, rfl, D1⟩ := h1.bare HR.out
    have B1 := Lib.hid (bt B0.out D1.out)
    rw [hl]
    clear h1 HA
    go_wp2_with fail
    refine wp_loop_rounds 1 ?_
    rw [rounds_succ]
    go_wp2_with fail
    go_ret
    exact ⟨rfl, B1.out⟩
  obtain ⟨g, c, rfl, HC, R1, D1⟩ := h1.row HR.out (by omega)
  have B1 := Lib.hid (bt B0.out D1.out)
  have TK : Hid (Toks s 0 l s.size) := Lib.hid (by
    rcases HA.out with h | h
    · exact absurd (by have := h.1; simp only [] at this; rw [this]; rfl) hl
    · exact h.2.2)
  have hlen : l.length ≤ 1000 := by have := TK.out.len; omega
  obtain ⟨n, hn⟩ : ∃ n, n = l.length := ⟨_, rfl⟩
  have HN := Lib.hid hn
  rw [← hn] at hlen HC ⊢
  have hcap : n ≤ c := HC.out
  clear h1 HA hl hn HC
  go_wp2_with fail
  go_loopg [6] (n + 1) (fun gk iv wr => ∃ (i f : Nat), iv = .int .i64 i ∧ i ≤ n ∧ gk = f + 1 ∧ n ≤ i + f ∧ Hid (Below w.heap.size w wr) ∧ Hid (RowAt wr g l))
  case atStart => exact ⟨0, n, rfl, by omega, rfl, by omega, B1, R1⟩
  case round =>
    obtain ⟨i, f, rfl, hi, rfl, hf, HB, RW⟩ := hrel
    by_cases hps : i < n
    · have db := decide_eq_true (show (i : Int) < (n : Int) by omega)
      obtain ⟨X, hX⟩ : ∃ X, l.getD i tok0 = X := ⟨_, rfl⟩
      obtain ⟨k, y, a, b⟩ := X
      have OK := TK.out.get (i := i) (by rw [← HN.out]; exact hps)
      rw [hX] at OK
      obtain ⟨z0, z1, z2, z3⟩ := RW.out.tok (by rw [← HN.out]; exact hps) hX
      have LS := Lib.hid (lex_solo OK (by omega))
      have hyz := OK.size
      have hk1 := OK.kind
      have hab := OK.lt
      have hbs := OK.le
      have ST := Lib.hid OK.stop
      simp only [] at hyz hk1 hab hbs ST LS
      have hy0 : 0 < y.size := by omega
      have f1 := decide_eq_false (show ¬ k < (1 : Int) by omega)
      have f2 := decide_eq_false (show ¬ (5 : Int) < k by omega)
      have f3 := isEmpty_of y hy0
      have f4 := beq_nil_of y hy0
      have f5 := decide_eq_false (show ¬ (s.size : Int) < (b : Int) by omega)
      have f6 := decide_eq_false (show ¬ (a : Int) < 0 by omega)
      have f7 := decide_eq_false (show ¬ (b : Int) < (a : Int) by omega)
      have hys : y.size ≤ 1000000 := by omega
      obtain ⟨c0, c1, c2, c3⟩ := box4 wr (.int .i64 k) (.string y) (.int .i64 a) (.int .i64 b) 28
      have HB2 := Lib.hid (bt HB.out (below_alloc wr (.cells #[.int .i64 k, .string y, .int .i64 a, .int .i64 b] 28)))
      have RW2 := Lib.hid (RW.out.below (below_alloc wr (.cells #[.int .i64 k, .string y, .int .i64 a, .int .i64 b] 28)))
      have T2 := Lib.hid (HT.out.below HB2.out)
      have hi4 : i * 4 + 4 ≤ n * 4 := by omega
      clear OK hX hyz hk1 hy0 RW
      obtain ⟨f, rfl⟩ : ∃ g, f = g + 1 := ⟨f - 1, by omega⟩
      by_cases k1 : k = 1
      · have ek : (k == 1) = true := by rw [k1]; rfl
        have K1 := Lib.hid k1
        clear k1
        by_cases hb : b < s.size
        · have e1 := decide_eq_true (show (b : Int) < (s.size : Int) by omega)
          obtain ⟨d0, hd0⟩ : ∃ d0, (s[b]'hb).toNat = d0 := ⟨_, rfl⟩
          have hg : (s.get! b).toNat = d0 := by rw [get_eq s b hb, hd0]
          have hst := ST.out K1.out hb
          rw [hg] at hst
          clear hg ST
          by_cases hlo : 48 ≤ d0
          · have e2 := decide_eq_true (show (48 : Int) ≤ (d0 : Int) by omega)
            have e3 := decide_eq_false (show ¬ (d0 : Int) ≤ 57 by omega)
            clear hst
            go_wp2_with fail
            refine (lex_any y _ hys T2.out).mono ?_; intro e w4 h4
            obtain ⟨g4, c4, rfl, HC4, R4, D4⟩ := h4.row LS.out (by simp)
            have hc4 : 1 ≤ c4 := HC4.out
            have y0 : w4.cell? ⟨g4, 0, none⟩ = some (.int .i64 k) := R4.out 0 (by simp)
            have x0 := keepC D4.out c0
            have HB4 := Lib.hid (bt HB2.out D4.out)
            have RW4 := Lib.hid (RW2.out.below D4.out)
            clear h4 HC4 R4 D4 T2 HB2 RW2 LS
            simp only [List.length_cons, List.length_nil]
            go_wp2_with fail
            go_quiet (fail)
            go_wp2_with fail
            go_roundg (f + 1)
            case measure => omega
            case rel => exact ⟨i + 1, f, by go_num, by omega, rfl, by omega, Lib.hid (bt HB4.out (below_drewN _ _)), Lib.hid (RW4.out.below (below_drewN _ _))⟩
          · have e2 := decide_eq_false (show ¬ (48 : Int) ≤ (d0 : Int) by omega)
            clear hst
            go_wp2_with fail
            refine (lex_any y _ hys T2.out).mono ?_; intro e w4 h4
            obtain ⟨g4, c4, rfl, HC4, R4, D4⟩ := h4.row LS.out (by simp)
            have hc4 : 1 ≤ c4 := HC4.out
            have y0 : w4.cell? ⟨g4, 0, none⟩ = some (.int .i64 k) := R4.out 0 (by simp)
            have x0 := keepC D4.out c0
            have HB4 := Lib.hid (bt HB2.out D4.out)
            have RW4 := Lib.hid (RW2.out.below D4.out)
            clear h4 HC4 R4 D4 T2 HB2 RW2 LS
            simp only [List.length_cons, List.length_nil]
            go_wp2_with fail
            go_quiet (fail)
            go_wp2_with fail
            go_roundg (f + 1)
            case measure => omega
            case rel => exact ⟨i + 1, f, by go_num, by omega, rfl, by omega, Lib.hid (bt HB4.out (below_drewN _ _)), Lib.hid (RW4.out.below (below_drewN _ _))⟩
        · have e1 := decide_eq_false (show ¬ (b : Int) < (s.size : Int) by omega)
          clear ST
          go_wp2_with fail
          refine (lex_any y _ hys T2.out).mono ?_; intro e w4 h4
          obtain ⟨g4, c4, rfl, HC4, R4, D4⟩ := h4.row LS.out (by simp)
          have hc4 : 1 ≤ c4 := HC4.out
          have y0 : w4.cell? ⟨g4, 0, none⟩ = some (.int .i64 k) := R4.out 0 (by simp)
          have x0 := keepC D4.out c0
          have HB4 := Lib.hid (bt HB2.out D4.out)
          have RW4 := Lib.hid (RW2.out.below D4.out)
          clear h4 HC4 R4 D4 T2 HB2 RW2 LS
          simp only [List.length_cons, List.length_nil]
          go_wp2_with fail
          go_quiet (fail)
          go_wp2_with fail
          go_roundg (f + 1)
          case measure => omega
          case rel => exact ⟨i + 1, f, by go_num, by omega, rfl, by omega, Lib.hid (bt HB4.out (below_drewN _ _)), Lib.hid (RW4.out.below (below_drewN _ _))⟩
      · have ek : (k == 1) = false := beq_eq_false_iff_ne.2 k1
        clear ST
        go_wp2_with fail
        refine (lex_any y _ hys T2.out).mono ?_; intro e w4 h4
        obtain ⟨g4, c4, rfl, HC4, R4, D4⟩ := h4.row LS.out (by simp)
        have hc4 : 1 ≤ c4 := HC4.out
        have y0 : w4.cell? ⟨g4, 0, none⟩ = some (.int .i64 k) := R4.out 0 (by simp)
        have x0 := keepC D4.out c0
        have HB4 := Lib.hid (bt HB2.out D4.out)
        have RW4 := Lib.hid (RW2.out.below D4.out)
        clear h4 HC4 R4 D4 T2 HB2 RW2 LS
        simp only [List.length_cons, List.length_nil]
        go_wp2_with fail
        go_quiet (fail)
        go_wp2_with fail
        go_roundg (f + 1)
        case measure => omega
        case rel => exact ⟨i + 1, f, by go_num, by omega, rfl, by omega, Lib.hid (bt HB4.out (below_drewN _ _)), Lib.hid (RW4.out.below (below_drewN _ _))⟩
    · have db := decide_eq_false (show ¬ (i : Int) < (n : Int) by omega)
      go_wp2_with fail
      go_ret
      exact ⟨rfl, HB.out⟩
end Go.Proofs.YtkimnbdjdhapnaaDoor
