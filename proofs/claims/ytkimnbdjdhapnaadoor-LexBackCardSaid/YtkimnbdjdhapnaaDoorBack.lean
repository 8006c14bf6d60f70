import Derived.Test.YtkimnbdjdhapnaaDoorRows2
import Derived.Deep.LoopGhost
namespace Go.Proofs.YtkimnbdjdhapnaaDoor
open Go.ChangeShapes Go.WideShapes Go.ChangeAt Go.RowKit Go.Shelf Go.Lib CharsMath
set_option linter.unusedVariables false
theorem add_str2 {a b c : ByteArray} (h : a ++ b = c) (ha : a.size ≤ 1000000) (hb : b.size ≤ 1000000) : ∀ W, (Op.stringOp .add a b).run Tryd.prog W = .ok (.string c) W := fun W => by
  rw [run_string_add_sum W a b (by omega), h]
theorem Toks.drop {s : ByteArray} {r : Nat} : ∀ {l : List Tok} {q i : Nat}, Toks s q (l.drop i) r → i < l.length → ∃ x, l.getD i tok0 = x ∧ TokOK s q x ∧ Toks s x.2.2.2 (l.drop (i + 1)) r ∧ l.take (i + 1) = l.take i ++ [x] := by
  intro l q i h hi
  refine ⟨l[i], ?_, ?_⟩
  · rw [List.getD_eq_getElem?_getD, List.getElem?_eq_getElem hi]; rfl
  · rw [List.drop_eq_getElem_cons hi] at h
    exact ⟨h.1, h.2, by rw [List.take_add_one, List.getElem?_eq_getElem hi]; rfl⟩
theorem again_tok (l : List Tok) (p i : Nat) (hi : i < l.length) {k : Int} {y : ByteArray} {a b : Nat} (hx : l.getD i tok0 = (k, y, a, b)) : ∃ a' b', (again p l).getD i tok0 = (k, y, a', b') := by
  have := again_get l p i hi
  have e : (l.getD i (0, ⟨#[]⟩, 0, 0)) = (k, y, a, b) := hx
  rw [e] at this
  refine ⟨((again p l).getD i tok0).2.2.1, ((again p l).getD i tok0).2.2.2, ?_⟩
  have e1 : ((again p l).getD i tok0).1 = k := this.1
  have e2 : ((again p l).getD i tok0).2.1 = y := this.2
  rw [← e1, ← e2]
set_option maxHeartbeats 8000000 in
set_option maxRecDepth 100000 in
theorem back_walk (s : ByteArray) (w : World) (hT : Tabs w) (hs0 : s.size ≤ maxLen) : Calls Tryd.prog 4 #[.string s] w fun e w' => e = .returned (.bool true) ∧ Below w.heap.size w w' := by
  have HT := Lib.hid hT
  have AW := Lib.hid (awake_any w hT)
  clear hT
  by_cases hbig : 1200 < s.size
  · have d := decide_eq_true (show (1200 : Int) < (s.size : Int) by omega)
    clear hbig hs0
    go_enter Tryd.func4, Tryd.ntmps4
    go_wp2_with fail
    refine AW.out.mono ?_; rintro e w0 ⟨rfl, hb0⟩
    have B0 := Lib.hid hb0
    clear hb0
    go_wp2_with fail
    go_ret
    exact ⟨rfl, B0.out⟩
  have d := decide_eq_false (show ¬ (1200 : Int) < (s.size : Int) by omega)
  have hs : s.size ≤ 1200 := by omega
  have HA := Lib.hid (lex_ans s)
  obtain ⟨R, hR⟩ : ∃ R, lexV s = R := ⟨_, rfl⟩
  obtain ⟨l, k, p⟩ := R
  have HR := Lib.hid hR
  rw [hR] at HA
  clear hbig hR hs0
  by_cases hk : k = 0
  rotate_left
  · have ek : (k == 0) = false := beq_eq_false_iff_ne.2 hk
    have hl : l = [] := by
      rcases HA.out with h | h
      · exact h.1
      · exact absurd h.1 hk
    subst hl
    go_enter Tryd.func4, Tryd.ntmps4
    go_wp2_with fail
    refine AW.out.mono ?_; rintro e w0 ⟨rfl, hb0⟩
    have B0 := Lib.hid hb0
    clear hb0
    go_wp2_with fail
    refine (lex_any s _ (by omega) (HT.out.below B0.out)).mono ?_; intro e w1 h1
    obtain ⟨A, c, rfl, D1⟩ := h1.bare HR.out
    have B1 := Lib.hid (bt B0.out D1.out)
    simp only [List.length_nil]
    clear h1
    go_wp2_with fail
    go_ret
    exact ⟨rfl, B1.out⟩
  subst hk
  have tk : Toks s 0 l s.size := by
    rcases HA.out with h | h
    · rcases h.2.1 with h2 | h2 <;> cases h2
    · exact h.2.2
  have TK := Lib.hid tk
  have hlen : l.length ≤ 1200 := by have := tk.len; omega
  obtain ⟨n, hn⟩ : ∃ n, n = l.length := ⟨_, rfl⟩
  have HN := Lib.hid hn
  rw [← hn] at hlen
  clear HA tk
  go_enter Tryd.func4, Tryd.ntmps4
  go_wp2_with fail
  refine AW.out.mono ?_; rintro e w0 ⟨rfl, hb0⟩
  have B0 := Lib.hid hb0
  clear hb0 AW
  go_wp2_with fail
  refine (lex_any s _ (by omega) (HT.out.below B0.out)).mono ?_; intro e w1 h1
  have row : ∃ A c, e = .returned (.tuple #[.slice A n c, .int .i64 0, .int .i64 p]) ∧ Hid (n ≤ c ∨ n = 0) ∧ Hid (0 < n → ∃ g, A = some ⟨g, 0, none⟩ ∧ RowAt w1 g l) ∧ Hid (Below w0.heap.size w0 w1) := by
    by_cases hl : l.length = 0
    · obtain ⟨A, c, e1, D1⟩ := h1.bare HR.out
      rw [← hn] at e1
      exact ⟨A, c, e1, Lib.hid (.inr (by omega)), Lib.hid (fun h => by omega), D1⟩
    · obtain ⟨g, c, e1, HC, R1, D1⟩ := h1.row HR.out (by omega)
      rw [← hn] at e1 HC
      exact ⟨_, c, e1, Lib.hid (.inl HC.out), Lib.hid (fun _ => ⟨g, rfl, R1.out⟩), D1⟩
  obtain ⟨A, c, rfl, HC, RW, D1⟩ := row
  have B1 := Lib.hid (bt B0.out D1.out)
  clear h1 hn
  go_wp2_with fail
  go_loopg [6, 7, 8] (n + 1) (fun gk av qv iv wr => ∃ (i f q : Nat) (J : ByteArray), av = .string J ∧ qv = .int .i64 q ∧ iv = .int .i64 i ∧ i ≤ n ∧ gk = f + 1 ∧ n ≤ i + f ∧ q ≤ s.size ∧ J.size ≤ 2 * q ∧ Hid (Below w1.heap.size w1 wr) ∧ Hid (Toks s q (l.drop i) s.size) ∧ Hid (Rest J 0 (l.take i)))
  case atStart => exact ⟨0, n, 0, ⟨#[]⟩, rfl, rfl, rfl, by omega, rfl, by omega, by omega, by show 0 ≤ 0; omega, Lib.hid (Below.refl _ _), TK, Lib.hid rfl⟩
  case round =>
    obtain ⟨i, f, q, J, rfl, rfl, rfl, hi, rfl, hf, hq, hJ, HB, TD, RS⟩ := hrel
    by_cases hps : i < n
    · have db := decide_eq_true (show (i : Int) < (n : Int) by omega)
      obtain ⟨x, hx, OK, TD2, hT2⟩ := TD.out.drop (by rw [← HN.out]; exact hps)
      obtain ⟨k, y, a, b⟩ := x
      obtain ⟨g, rfl, r1⟩ := RW.out (by omega)
      have hcap : n ≤ c := by
        rcases HC.out with h | h
        · exact h
        · omega
      obtain ⟨z0, z1, z2, z3⟩ := (r1.below HB.out).tok (by rw [← HN.out]; exact hps) hx
      have hyz := OK.size
      have hqa := OK.ahead
      have hab := OK.lt
      have hbs := OK.le
      have hyt := OK.text
      simp only [] at hyz hqa hab hbs hyt TD2
      have f1 := decide_eq_false (show ¬ (a : Int) < (q : Int) by omega)
      have f2 := decide_eq_false (show ¬ (b : Int) ≤ (a : Int) by omega)
      have f3 := decide_eq_false (show ¬ (s.size : Int) < (b : Int) by omega)
      have f1' := decide_eq_false (show ¬ a < q by omega)
      have f2' := decide_eq_false (show ¬ b ≤ a by omega)
      have f3' := decide_eq_false (show ¬ s.size < b by omega)
      have f4 : ((s.extract a b).toList == y.toList) = true := by rw [hyt]; exact beq_self_eq_true _
      have q0 : (0 : Int) ≤ (a : Int) := by omega
      have q1 : (a : Int) ≤ (b : Int) := by omega
      have q2 : (b : Int) ≤ (s.size : Int) := by omega
      obtain ⟨J1, hJ1⟩ : ∃ J1, J ++ (⟨#[32]⟩ : ByteArray) = J1 := ⟨_, rfl⟩
      obtain ⟨J2, hJ2⟩ : ∃ J2, J1 ++ y = J2 := ⟨_, rfl⟩
      have y1 : J1.size = J.size + 1 := by rw [← hJ1, ByteArray.size_append]; rfl
      have y2 : J2.size = J1.size + y.size := by rw [← hJ2, ByteArray.size_append]
      have ad1 := add_str2 hJ1 (by omega) (by decide)
      have ad2 := add_str2 hJ2 (by omega) (by omega)
      have RS2 : Hid (Rest J2 0 (l.take (i + 1))) := Lib.hid (by
        rw [hT2, ← hJ2, ← hJ1]
        exact RS.out.app (x := (k, y, a, b)))
      have hJ2z : J2.size ≤ 2 * b := by omega
      obtain ⟨c0, c1, c2, c3⟩ := box4 wr (.int .i64 k) (.string y) (.int .i64 a) (.int .i64 b) 28
      have HB2 := Lib.hid (bt HB.out (below_alloc wr (.cells #[.int .i64 k, .string y, .int .i64 a, .int .i64 b] 28)))
      have TD3 := Lib.hid TD2
      have hi4 : i * 4 + 4 ≤ n * 4 := by omega
      obtain ⟨f, rfl⟩ : ∃ g, f = g + 1 := ⟨f - 1, by omega⟩
      clear OK hx hyz hyt hJ1 hJ2 y1 y2 RS TD TD2 hT2 r1 HB hqa hab
      go_wp2_with fail
      go_quiet (fail)
      go_wp2_with fail
      go_roundg (f + 1)
      case measure => omega
      case rel => exact ⟨i + 1, f, b, J2, rfl, rfl, by go_num, by omega, rfl, by omega, by omega, hJ2z, Lib.hid (bt HB2.out (below_drewN _ _)), TD3, RS2⟩
    · have db := decide_eq_false (show ¬ (i : Int) < (n : Int) by omega)
      obtain rfl : i = n := by omega
      have LA : Hid (lexV J = (again 0 l, 0, 0)) := Lib.hid (lex_again (by have := RS.out; rw [HN.out, List.take_length] at this; exact this) TK.out.fine (by rw [← HN.out]; omega) (by omega))
      have B2 := Lib.hid (bt B1.out HB.out)
      have HB1 := HB
      have AL : Hid ((again 0 l).length = i) := Lib.hid (by rw [again_len, HN.out])
      have hJz : J.size ≤ 1000000 := by omega
      clear RS TD hps hf hi HB TK
      go_wp2_with fail
      refine (lex_any J _ hJz (HT.out.below B2.out)).mono ?_; intro e w2 h2
      by_cases hn0 : i = 0
      · subst hn0
        obtain ⟨A2, c2, rfl, D2⟩ := h2.bare LA.out
        have B3 := Lib.hid (bt B2.out D2.out)
        rw [AL.out]
        clear h2 D2
        go_wp2_with fail
        refine wp_loop_rounds 1 ?_
        rw [rounds_succ]
        go_wp2_with fail
        go_ret
        exact ⟨rfl, B3.out⟩
      · obtain ⟨g2, c2, rfl, HC2, R2, D2⟩ := h2.row LA.out (by rw [AL.out]; omega)
        have B3 := Lib.hid (bt B2.out D2.out)
        obtain ⟨g, rfl, r1⟩ := RW.out (by omega)
        have R1 := Lib.hid ((r1.below HB1.out).below D2.out)
        have hcap : i ≤ c := by
          rcases HC.out with h | h
          · exact h
          · omega
        rw [AL.out] at HC2 ⊢
        have hcap2 : i ≤ c2 := HC2.out
        clear h2 D2 r1 RW HC HC2 HB1 B2 hn0
        obtain ⟨n, hn⟩ : ∃ n, n = i := ⟨_, rfl⟩
        subst hn
        go_wp2_with fail
        go_loopg [13] (n + 1) (fun gk iv wr => ∃ (j f : Nat), iv = .int .i64 j ∧ j ≤ n ∧ gk = f + 1 ∧ n ≤ j + f ∧ Hid (Below w.heap.size w wr) ∧ Hid (RowAt wr g l) ∧ Hid (RowAt wr g2 (again 0 l)))
        case atStart => exact ⟨0, n, rfl, by omega, rfl, by omega, B3, R1, R2⟩
        case round =>
          obtain ⟨j, f, rfl, hj, rfl, hf, HB, RW, RV⟩ := hrel
          by_cases hps : j < n
          · have db2 := decide_eq_true (show (j : Int) < (n : Int) by omega)
            obtain ⟨X, hX⟩ : ∃ X, l.getD j tok0 = X := ⟨_, rfl⟩
            obtain ⟨kk, y, a, b⟩ := X
            obtain ⟨a', b', hX2⟩ := again_tok l 0 j (by rw [← HN.out]; exact hps) hX
            obtain ⟨z0, z1, z2, z3⟩ := RW.out.tok (by rw [← HN.out]; exact hps) hX
            obtain ⟨v0, v1, v2, v3⟩ := RV.out.tok (by rw [AL.out]; exact hps) hX2
            have hj4 : j * 4 + 4 ≤ n * 4 := by omega
            clear hX hX2
            obtain ⟨f, rfl⟩ : ∃ g, f = g + 1 := ⟨f - 1, by omega⟩
            go_wp2_with fail
            go_quiet (fail)
            go_wp2_with fail
            go_roundg (f + 1)
            case measure => omega
            case rel => exact ⟨j + 1, f, by go_num, by omega, rfl, by omega, Lib.hid (bt HB.out (below_drewN _ _)), Lib.hid (RW.out.below (below_drewN _ _)), Lib.hid (RV.out.below (below_drewN _ _))⟩
          · have db2 := decide_eq_false (show ¬ (j : Int) < (n : Int) by omega)
            go_wp2_with fail
            go_ret
            exact ⟨rfl, HB.out⟩
end Go.Proofs.YtkimnbdjdhapnaaDoor
