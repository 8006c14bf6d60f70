import Derived.Test.YtkimnbdjdhapnaaDoorRows2
import Derived.Deep.LoopGhost
namespace Go.Proofs.YtkimnbdjdhapnaaDoor
open Go.ChangeShapes Go.WideShapes Go.ChangeAt Go.RowKit Go.Shelf Go.Lib CharsMath
set_option linter.unusedVariables false
theorem add_str {a b c : ByteArray} (h : a ++ b = c) (ha : a.size ≤ 1000000) (hb : b.size ≤ 1000000) : ∀ W, (Op.stringOp .add a b).run Tryd.prog W = .ok (.string c) W := fun W => by
  rw [run_string_add_sum W a b (by omega), h]
/-- the text ahead: the remark and i blanks. -/
structure Ahead (H : ByteArray) (i : Nat) : Prop where
  size : H.size = 13 + i
  rem : At H 0 remark
  sp : ∀ j, j < i → H.get! (13 + j) = 32
theorem Ahead.start : Ahead remark 0 := ⟨rfl, ⟨by decide, fun j hj => by rw [Nat.zero_add]⟩, fun j hj => by omega⟩
theorem Ahead.more {H : ByteArray} {i : Nat} (h : Ahead H i) : Ahead (H ++ ⟨#[32]⟩) (i + 1) := by
  have hz := h.size
  refine ⟨by rw [ByteArray.size_append, hz]; rfl, At.more _ h.rem, fun j hj => ?_⟩
  by_cases h1 : j < i
  · rw [(get_app H ⟨#[32]⟩ (13 + j)).1 (by omega)]; exact h.sp j h1
  · have := (get_app H ⟨#[32]⟩ 0).2 (by decide)
    rw [show 13 + j = H.size + 0 by omega, this]; rfl
theorem Ahead.lex {H s : ByteArray} {n : Nat} (h : Ahead H n) (hs : s.size ≤ 1000) (hn : n ≤ 20) : lexV ((H ++ s) ++ ⟨#[32]⟩) = shiftA (13 + n) (lexV s) := by
  have hz := h.size
  have z1 : (H ++ s).size = 13 + n + s.size := by rw [ByteArray.size_append, hz]
  have z2 : ((H ++ s) ++ ⟨#[32]⟩ : ByteArray).size = 13 + n + s.size + 1 := by rw [ByteArray.size_append, z1]; rfl
  refine lex_blanks (At.more _ (At.more _ h.rem)) (fun j hj => ?_) ?_ z2 ?_ (by omega)
  · rw [(get_app (H ++ s) ⟨#[32]⟩ (13 + j)).1 (by omega), (get_app H s (13 + j)).1 (by omega)]; exact h.sp j hj
  · have := (at_app H s).2
    rw [hz] at this
    exact At.more _ this
  · have := (get_app (H ++ s) ⟨#[32]⟩ 0).2 (by decide)
    rw [Nat.add_zero, z1] at this
    rw [this]; rfl
theorem shift_get (L : Nat) (l : List Tok) (i : Nat) (hi : i < l.length) {k : Int} {y : ByteArray} {a b : Nat} (h : l.getD i tok0 = (k, y, a, b)) : (shift L l).getD i tok0 = (k, y, L + a, L + b) := by
  rw [List.getD_eq_getElem?_getD] at h ⊢
  unfold shift
  rw [List.getElem?_map]
  rw [List.getElem?_eq_getElem hi] at h ⊢
  simp only [Option.getD_some, Option.map_some] at h ⊢
  rw [h]
set_option maxHeartbeats 4000000 in
set_option maxRecDepth 100000 in
theorem blanks_out (s : ByteArray) (n : Int) (w : World) (hT : Tabs w) (hs0 : s.size ≤ maxLen) (h : 1000 < s.size ∨ (s.size ≤ 1000 ∧ n < 0) ∨ (s.size ≤ 1000 ∧ 0 ≤ n ∧ 20 < n)) : Calls Tryd.prog 5 #[.string s, .int .i64 n] w fun e w' => e = .returned (.bool true) ∧ Below w.heap.size w w' := by
  have AW := Lib.hid (awake_any w hT)
  clear hT
  rcases h with h | ⟨h1, h2⟩ | ⟨h1, h2, h3⟩
  · have d := decide_eq_true (show (1000 : Int) < (s.size : Int) by omega)
    clear h hs0
    go_enter Tryd.func5, Tryd.ntmps5
    go_wp2_with fail
    refine AW.out.mono ?_; rintro e w0 ⟨rfl, hb0⟩
    have B0 := Lib.hid hb0
    clear hb0
    go_wp2_with fail
    go_ret
    exact ⟨rfl, B0.out⟩
  · have d := decide_eq_false (show ¬ (1000 : Int) < (s.size : Int) by omega)
    have d2 := decide_eq_true h2
    clear h1 h2 hs0
    go_enter Tryd.func5, Tryd.ntmps5
    go_wp2_with fail
    refine AW.out.mono ?_; rintro e w0 ⟨rfl, hb0⟩
    have B0 := Lib.hid hb0
    clear hb0
    go_wp2_with fail
    go_ret
    exact ⟨rfl, B0.out⟩
  · have d := decide_eq_false (show ¬ (1000 : Int) < (s.size : Int) by omega)
    have d2 := decide_eq_false (show ¬ n < 0 by omega)
    have d3 := decide_eq_true h3
    clear h1 h2 h3 hs0
    go_enter Tryd.func5, Tryd.ntmps5
    go_wp2_with fail
    refine AW.out.mono ?_; rintro e w0 ⟨rfl, hb0⟩
    have B0 := Lib.hid hb0
    clear hb0
    go_wp2_with fail
    go_ret
    exact ⟨rfl, B0.out⟩
set_option maxHeartbeats 8000000 in
set_option maxRecDepth 100000 in
theorem blanks_in (s : ByteArray) (n : Nat) (w : World) (hT : Tabs w) (hs : s.size ≤ 1000) (hn : n ≤ 20) : Calls Tryd.prog 5 #[.string s, .int .i64 n] w fun e w' => e = .returned (.bool true) ∧ Below w.heap.size w w' := by
  have HT := Lib.hid hT
  have d := decide_eq_false (show ¬ (1000 : Int) < (s.size : Int) by omega)
  have d2 := decide_eq_false (show ¬ (n : Int) < 0 by omega)
  have d3 := decide_eq_false (show ¬ (20 : Int) < (n : Int) by omega)
  have HA := Lib.hid (lex_ans s)
  have AW := Lib.hid (awake_any w hT)
  obtain ⟨R, hR⟩ : ∃ R, lexV s = R := ⟨_, rfl⟩
  obtain ⟨l, k, p⟩ := R
  have HR := Lib.hid hR
  rw [hR] at HA
  have SH : Hid (∀ H, Ahead H n → lexV ((H ++ s) ++ ⟨#[32]⟩) = (shift (13 + n) l, k, if k = 0 then 0 else 13 + n + p)) := Lib.hid (fun H h => by rw [h.lex hs hn, hR]; rfl)
  clear hT hR
  go_enter Tryd.func5, Tryd.ntmps5
  go_wp2_with fail
  refine AW.out.mono ?_; rintro e w0 ⟨rfl, hb0⟩
  have B0 := Lib.hid hb0
  clear hb0 AW
  go_wp2_with fail
  go_loopg [5, 6] (n + 1) (fun gk hv iv wr => ∃ (i f : Nat) (H : ByteArray), hv = .string H ∧ iv = .int .i64 i ∧ i ≤ n ∧ gk = f + 1 ∧ n ≤ i + f ∧ wr = w0 ∧ Hid (Ahead H i))
  case atStart => exact ⟨0, n, remark, rfl, rfl, by omega, rfl, by omega, rfl, Lib.hid Ahead.start⟩
  case round =>
    obtain ⟨i, f, H, rfl, rfl, hi, rfl, hf, rfl, AH⟩ := hrel
    by_cases hps : i < n
    · have db := decide_eq_true (show (i : Int) < (n : Int) by omega)
      obtain ⟨f, rfl⟩ : ∃ g, f = g + 1 := ⟨f - 1, by omega⟩
      obtain ⟨H2, hH2⟩ : ∃ H2, H ++ (⟨#[32]⟩ : ByteArray) = H2 := ⟨_, rfl⟩
      have hz := AH.out.size
      have ad := add_str hH2 (by omega) (by decide)
      have A2 : Hid (Ahead H2 (i + 1)) := Lib.hid (hH2 ▸ AH.out.more)
      clear hH2 hz AH
      go_wp2_with fail
      go_roundg (f + 1)
      case measure => omega
      case rel => exact ⟨i + 1, f, H2, rfl, by go_num, by omega, rfl, by omega, rfl, A2⟩
    · have db := decide_eq_false (show ¬ (i : Int) < (n : Int) by omega)
      obtain rfl : i = n := by omega
      clear hps hi hf
      have hz := AH.out.size
      obtain ⟨U1, hU1⟩ : ∃ U, H ++ s = U := ⟨_, rfl⟩
      obtain ⟨U2, hU2⟩ : ∃ U, U1 ++ (⟨#[32]⟩ : ByteArray) = U := ⟨_, rfl⟩
      have z1 : U1.size = 13 + i + s.size := by rw [← hU1, ByteArray.size_append, hz]
      have z2 : U2.size = 13 + i + s.size + 1 := by rw [← hU2, ByteArray.size_append, z1]; rfl
      have ad1 := add_str hU1 (by omega) (by omega)
      have ad2 := add_str hU2 (by omega) (by decide)
      have LU : Hid (lexV U2 = (shift (13 + i) l, k, if k = 0 then 0 else 13 + i + p)) := Lib.hid (by rw [← hU2, ← hU1]; exact SH.out H AH.out)
      have hz2 : U2.size ≤ 1000000 := by omega
      have HZ : Hid (H.size = 13 + i) := Lib.hid hz
      have hH : H.size ≤ 40 := by omega
      clear hU1 hU2 z1 z2 hz SH AH
      go_wp2_with fail
      refine (lex_any s _ (by omega) (HT.out.below B0.out)).mono ?_; intro e w1 h1
      by_cases hl : l.length = 0
      · obtain ⟨A, c, rfl, D1⟩ := h1.bare HR.out
        have B1 := Lib.hid (bt B0.out D1.out)
        have hl2 : (shift (13 + i) l).length = 0 := by simp [shift]; exact List.eq_nil_of_length_eq_zero hl
        rw [hl]
        clear h1 D1
        go_wp2_with fail
        refine (lex_any U2 _ hz2 (HT.out.below B1.out)).mono ?_; intro e w2 h2
        obtain ⟨A2, c2, rfl, D2⟩ := h2.bare LU.out
        have B2 := Lib.hid (bt B1.out D2.out)
        rw [hl2]
        clear h2 D2 hl2
        by_cases hk : k = 0
        · subst hk
          simp only [if_true]
          go_wp2_with fail
          refine wp_loop_rounds 1 ?_
          rw [rounds_succ]
          go_wp2_with fail
          go_ret
          exact ⟨rfl, B2.out⟩
        · have ek : (k == 0) = false := beq_eq_false_iff_ne.2 hk
          obtain ⟨Q, hQ⟩ : ∃ Q : Nat, (p : Int) + (H.size : Int) = Q := ⟨p + H.size, by omega⟩
          have eQ : 13 + i + p = Q := by have := HZ.out; omega
          have hp : p ≤ s.size := by
            rcases HA.out with h | h
            · exact h.2.2
            · exact absurd h.1 hk
          have hQ2 : Q ≤ 2000 := by omega
          rw [if_neg hk, eQ]
          clear eQ
          go_wp2_with fail
          refine wp_loop_rounds 1 ?_
          rw [rounds_succ]
          go_wp2_with fail
          go_ret
          exact ⟨rfl, B2.out⟩
      · have hk0 : k = 0 ∧ Toks s 0 l s.size := by
          rcases HA.out with h | h
          · exact absurd (by have := h.1; simp only [] at this; rw [this]; rfl) hl
          · exact ⟨h.1, h.2.2⟩
        obtain ⟨rfl, tk⟩ := hk0
        have TK := Lib.hid tk
        have hlen : l.length ≤ 1000 := by have := tk.len; omega
        obtain ⟨g, c, rfl, HC, R1, D1⟩ := h1.row HR.out (by omega)
        have B1 := Lib.hid (bt B0.out D1.out)
        obtain ⟨n, hn⟩ : ∃ n, n = l.length := ⟨_, rfl⟩
        have HN := Lib.hid hn
        rw [← hn] at hlen HC hl ⊢
        have hcap : n ≤ c := HC.out
        have SL : Hid ((shift (13 + i) l).length = n) := Lib.hid (by simp [shift]; exact hn.symm)
        clear h1 tk hn HC
        go_wp2_with fail
        refine (lex_any U2 _ hz2 (HT.out.below B1.out)).mono ?_; intro e w2 h2
        obtain ⟨g2, c2, rfl, HC2, R2, D2⟩ := h2.row LU.out (by rw [SL.out]; omega)
        have B2 := Lib.hid (bt B1.out D2.out)
        have R12 := Lib.hid (R1.out.below D2.out)
        rw [SL.out] at HC2 ⊢
        have hcap2 : n ≤ c2 := HC2.out
        simp only [if_true]
        clear h2 D2 D1 HC2 R1
        go_wp2_with fail
        go_loopg [13] (n + 1) (fun gk iv wr => ∃ (j f : Nat), iv = .int .i64 j ∧ j ≤ n ∧ gk = f + 1 ∧ n ≤ j + f ∧ Hid (Below w.heap.size w wr) ∧ Hid (RowAt wr g l) ∧ Hid (RowAt wr g2 (shift (13 + i) l)))
        case atStart => exact ⟨0, n, rfl, by omega, rfl, by omega, B2, R12, R2⟩
        case round =>
          obtain ⟨j, f, rfl, hj, rfl, hf, HB, RW, RV⟩ := hrel
          by_cases hps : j < n
          · have db2 := decide_eq_true (show (j : Int) < (n : Int) by omega)
            obtain ⟨X, hX⟩ : ∃ X, l.getD j tok0 = X := ⟨_, rfl⟩
            obtain ⟨kk, y, a, b⟩ := X
            have OK := TK.out.get (i := j) (by rw [← HN.out]; exact hps)
            rw [hX] at OK
            have hbs := OK.le
            have hab := OK.lt
            simp only [] at hbs hab
            obtain ⟨z0, z1, z2, z3⟩ := RW.out.tok (by rw [← HN.out]; exact hps) hX
            obtain ⟨v0, v1, v2, v3⟩ := RV.out.tok (by rw [SL.out]; exact hps) (shift_get (13 + i) l j (by rw [← HN.out]; exact hps) hX)
            obtain ⟨P, hP⟩ : ∃ P : Nat, (a : Int) + (H.size : Int) = P := ⟨a + H.size, by omega⟩
            obtain ⟨Q, hQ⟩ : ∃ Q : Nat, (b : Int) + (H.size : Int) = Q := ⟨b + H.size, by omega⟩
            rw [show 13 + i + a = P by have := HZ.out; omega] at v2
            rw [show 13 + i + b = Q by have := HZ.out; omega] at v3
            have hj4 : j * 4 + 4 ≤ n * 4 := by omega
            clear OK hX
            obtain ⟨f, rfl⟩ : ∃ g, f = g + 1 := ⟨f - 1, by omega⟩
            go_wp2_with fail
            go_quiet (fail)
            go_wp2_with fail
            go_roundg (f + 1)
            case measure => omega
            case rel => exact ⟨j + 1, f, by go_num, by omega, rfl, by omega, Lib.hid (bt HB.out (below_drewN _ _)), Lib.hid (RW.out.below (below_drewN _ _)), Lib.hid (RV.out.below (below_drewN _ _))⟩
          · have db2 := decide_eq_false (show ¬ (j : Int) < (n : Int) by omega)
            go_wp2_with fail
            go_ret
            exact ⟨rfl, HB.out⟩
theorem blanks_walk (s : ByteArray) (n : Int) (w : World) (hT : Tabs w) (hs0 : s.size ≤ maxLen) : Calls Tryd.prog 5 #[.string s, .int .i64 n] w fun e w' => e = .returned (.bool true) ∧ Below w.heap.size w w' := by
  by_cases h1 : 1000 < s.size
  · exact blanks_out s n w hT hs0 (.inl h1)
  by_cases h2 : n < 0
  · exact blanks_out s n w hT hs0 (.inr (.inl ⟨by omega, h2⟩))
  by_cases h3 : 20 < n
  · exact blanks_out s n w hT hs0 (.inr (.inr ⟨by omega, by omega, h3⟩))
  obtain ⟨m, rfl⟩ : ∃ m : Nat, n = m := ⟨n.toNat, by omega⟩
  exact blanks_in s m w hT (by omega) (by omega)
end Go.Proofs.YtkimnbdjdhapnaaDoor
