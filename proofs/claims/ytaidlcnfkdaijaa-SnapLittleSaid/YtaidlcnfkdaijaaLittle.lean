import Derived.Test.YtaidlcnfkdaijaaFnv
namespace Go.Proofs.Ytaidlcnfkdaijaa
open Go.ChangeShapes Go.WideShapes Go.ChangeAt Go.RowKit
set_option linter.unusedVariables false
set_option maxRecDepth 100000 in
set_option maxHeartbeats 4000000 in
theorem little_long {w : World} {A : Option Addr} {n c : Nat} {at_ y : Int} (h : 400 < n ∨ at_ < 0 ∨ (n : Int) ≤ at_) :
    Calls Try.prog 6 #[.slice A n c, .int .i64 at_, .int .u8 y] w fun e w' => e = .returned (.bool true) ∧ Below w.heap.size w w' := by
  by_cases hn : 400 < n
  · have hn' : (400 : Int) < (n : Int) := by omega
    go_enter Try.func6, Try.ntmps6
    go_wp2_with fail
    refine (awake _).mono ?_; rintro e w1 ⟨rfl, hb1⟩
    have B1 := Lib.hid hb1; clear hb1
    go_wp2
    go_ret
    exact ⟨rfl, B1.out⟩
  · have hn' : ¬ (400 : Int) < (n : Int) := by omega
    by_cases h0 : at_ < 0
    · have h0' := decide_eq_true h0
      go_enter Try.func6, Try.ntmps6
      go_wp2_with fail
      refine (awake _).mono ?_; rintro e w1 ⟨rfl, hb1⟩
      have B1 := Lib.hid hb1; clear hb1
      go_wp2
      go_ret
      exact ⟨rfl, B1.out⟩
    · have h0' := decide_eq_false h0
      have h1' := decide_eq_true (show (n : Int) ≤ at_ by omega)
      go_enter Try.func6, Try.ntmps6
      go_wp2_with fail
      refine (awake _).mono ?_; rintro e w1 ⟨rfl, hb1⟩
      have B1 := Lib.hid hb1; clear hb1
      go_wp2
      go_ret
      exact ⟨rfl, B1.out⟩
theorem bys_set (xs : List Nat) (p z : Nat) : (bys xs).set p (.int .u8 (z : Nat)) = bys (xs.set p z) := by simp [bys, List.map_set]
set_option maxRecDepth 100000 in
set_option maxHeartbeats 4000000 in
theorem little_mid {w : World} {n c h o P Y : Nat} {old : List Nat} (s : Sl w (some ⟨h, o, none⟩) n c old) (hob : ∀ j, old.getD j 0 < 256) (hn : n ≤ 400) (hP : P < n) (hY : Y < 256)
    (hlt : h < w.heap.size) (hc : ∀ j, j < n → w.cell? ⟨h, o + j, none⟩ = some (.int .u8 (old.getD j 0 : Nat))) :
    Calls Try.prog 6 #[.slice (some ⟨h, o, none⟩) n c, .int .i64 P, .int .u8 Y] w fun e w' => e = .returned (.bool true) ∧ Below w.heap.size w w' := by
  have hn' : ¬ (400 : Int) < (n : Int) := by omega
  have h0' : decide ((P : Int) < 0) = false := decide_eq_false (by omega)
  have h1' : decide ((n : Int) ≤ (P : Int)) = false := decide_eq_false (by omega)
  have h2' : decide (n ≤ P) = false := decide_eq_false (by omega)
  obtain ⟨x, hx⟩ : ∃ x, x = old.getD P 0 := ⟨_, rfl⟩
  have hx256 : x < 256 := by rw [hx]; exact hob P
  obtain ⟨z, hz⟩ : ∃ z : Nat, z = (x + Y) % 256 := ⟨_, rfl⟩
  have hz256 : z < 256 := by omega
  have HZ : Hid (IntKind.u8.wrap ((x : Int) + (Y : Int)) = (z : Int)) := Lib.hid (by simp only [IntKind.wrap_u8]; omega)
  obtain ⟨new, hnew⟩ : ∃ new, new = old.set P z := ⟨_, rfl⟩
  have SS := (sum_set old P z (by have := s.1; omega) hz256 (hob P) n).2 hP
  rw [← hnew, ← hx] at SS
  obtain ⟨q, hq1, hq2⟩ : ∃ q : Bool, (sumG new n == sumG old n) = q ∧ ((Y : Int) == 0) = q := by
    by_cases hY0 : Y = 0
    · exact ⟨true, beq_iff_eq.2 (SS.2 (by omega)), beq_iff_eq.2 (by omega)⟩
    · exact ⟨false, beq_eq_false_iff_ne.2 (fun e => by have := SS.1 e; omega), beq_eq_false_iff_ne.2 (by omega)⟩
  have HNB : Hid (∀ j, new.getD j 0 < 256) := Lib.hid (fun j => by
    rw [hnew]
    by_cases hj : j = P
    · subst hj; simp [List.getD, show j < old.length by have := s.1; omega]; omega
    · have := hob j
      simp [List.getD, Ne.symm hj] at this ⊢; omega)
  have HNL : Hid (new.length = n) := Lib.hid (by rw [hnew, List.length_set]; exact s.1)
  have NEW := Lib.hid hnew; have HX := Lib.hid hx
  obtain ⟨i0, hi0, hz0, hz1, hz2⟩ := info_parts info5
  have S := Lib.hid s; have HO := Lib.hid hob
  have HC := Lib.hid hc
  have NEWS : Hid (∀ (W : World), Below w.heap.size w W → ∀ j u, (bys old)[j]? = some u → W.cell? ((⟨h, o, none⟩ : Addr).add j) = some u) := Lib.hid (fun W hW j u hu => by
    have hj : j < old.length := by have := (List.getElem?_eq_some_iff.1 hu).1; rwa [bys_len] at this
    rw [Go.WideShapes.add_plain, hW.cell (p := ⟨h, o + j, none⟩) hlt, HC.out j (by have := S.out.1; omega), ← hu]
    simp [bys, hj])
  have LEN : Hid ((bys old).length = n * 1) := Lib.hid (by rw [bys_len, s.1]; omega)
  have HN0 : Hid (0 < n) := Lib.hid (by omega)
  have hn4 : n ≤ 420 := by omega
  clear s hob hc hz hz256 hnew SS hx hY
  obtain ⟨G1, hG1⟩ : ∃ G1, G1 = sumG new n := ⟨_, rfl⟩
  obtain ⟨G2, hG2⟩ : ∃ G2, G2 = sumG old n := ⟨_, rfl⟩
  rw [← hG1, ← hG2] at hq1
  have HG1 := Lib.hid hG1; have HG2 := Lib.hid hG2; clear hG1 hG2
  go_enter Try.func6, Try.ntmps6
  go_wp2_with fail
  refine (awake _).mono ?_; rintro e w1 ⟨rfl, hb1⟩
  have B1 := Lib.hid hb1; clear hb1
  have LIT := Lib.hid (World.ownsRow_lit (base := w1.heap.size) (e := 5) (size := 1) w1 #[] 0 (Nat.le_refl _) (by unfold maxLen; omega) rfl)
  have BA := Lib.hid (B1.out.trans ((below_alloc w1 (.cells #[] 5)).mono B1.out.size))
  go_wp2_with (at_builtin; refine wpList_append_lies _ rfl _ _ _ rfl w1.heap.size 5 i0 (.int .u8 0) 1 1 Try.underlying22 hi0 hz0 hz1 hz2 rfl (by decide) (.slice (some ⟨w1.heap.size, 0, none⟩) 0 0) 0 [] rfl LIT.out ⟨h, o, none⟩ n c (bys old) rfl LEN.out (NEWS.out _ BA.out) (bys_one _) HN0.out (by unfold maxLen; omega) (by omega) (by simp) (w1.heap.size + 1) (by simp) ?_)
  intro gb cap w2 own2 gr2 at2 lt2
  have own2' : w2.ownsRow w1.heap.size 5 1 (.slice (some ⟨gb, 0, none⟩) n cap) n (bys old) := by simpa using own2
  have B2 := Lib.hid (BA.out.grown gr2 (Nat.le_trans B1.out.size (by simp)) (fun k hk => by simp [Value.ownBlock] at hk; have := B1.out.size; omega))
  have gle := (own2'.lt gb rfl).1
  have x2 : w2.cell? ⟨gb, P, none⟩ = some (.int .u8 (x : Nat)) := by
    rw [own2'.cellAt P (by omega), HX.out]
    simp [bys, show P < old.length by have := S.out.1; omega]
  have f2 := own2'.frozenAt P
  have own3 := (own2'.stored P (.int .u8 (z : Nat))).1
  rw [bys_set, ← NEW.out] at own3
  have B3 : Hid (Below w.heap.size w (w2.setCell ⟨gb, P, none⟩ (.int .u8 (z : Nat)))) := Lib.hid (B2.out.setCell (Nat.le_trans B1.out.size gle) _)
  have SN3 : Hid (Sl (w2.setCell ⟨gb, P, none⟩ (.int .u8 (z : Nat))) (some ⟨gb, 0, none⟩) n cap new) := Lib.hid (by
    obtain ⟨A, c', e, s⟩ := Sl.of_own own3
    rw [HNL.out] at s e
    injection e with e1 e2 e3
    subst e1 e3
    exact s)
  clear own2 own2' own3 gr2 at2 lt2 gle
  have hPi : (P : Int) < (n : Int) := by omega
  have wz := HZ.out
  go_wp2_with fail
  clear wz
  refine (diff_sl (S.out.below B3.out) SN3.out hn4 hn4 HO.out HNB.out).mono ?_
  rintro e w4 ⟨Q, k, dk, xs, rfl, sp, hk, mk, _, hb⟩
  have B4 := Lib.hid (bt B3.out hb)
  have SN4 := Lib.hid (SN3.out.below hb); clear hb
  have hk4 : k ≤ 420 := by omega
  go_wp2_with fail
  refine (apply_new (S.out.below B4.out) sp.out hn4 hk4 mk.out).mono ?_
  rintro e w5 ⟨V, v, dv, rfl, hv, sv, hb⟩
  have B5 := Lib.hid (bt B4.out hb)
  have SN5 := Lib.hid (SN4.out.below hb); clear hb mk sp
  have c1 := str_sl sv.out
  have c2 := str_sl SN5.out
  have hk' : decide ((k : Int) ≤ (n : Int) + 8) = true := decide_eq_true (by omega)
  have hk'' : decide (k ≤ n + 8) = true := decide_eq_true hk
  clear x2 f2
  go_wp2_with fail
  refine (sum_sl SN5.out (by omega)).mono ?_
  rintro e w6 ⟨rfl, rfl⟩
  rw [← HG1.out]
  go_wp2_with fail
  refine (sum_sl (S.out.below B5.out) (by omega)).mono ?_
  rintro e w6 ⟨rfl, rfl⟩
  rw [← HG2.out]
  cases q
  all_goals (go_wp2; go_ret; exact ⟨rfl, B5.out⟩)
theorem little_walk {w : World} {A : Option Addr} {n c : Nat} {at_ y : Int} {old : List Nat} (s : Sl w A n c old) (hob : ∀ j, old.getD j 0 < 256) (hy : 0 ≤ y) (hy2 : y < 256) :
    Calls Try.prog 6 #[.slice A n c, .int .i64 at_, .int .u8 y] w fun e w' => e = .returned (.bool true) ∧ Below w.heap.size w w' := by
  by_cases h : 400 < n ∨ at_ < 0 ∨ (n : Int) ≤ at_
  · exact little_long h
  obtain ⟨P, rfl⟩ : ∃ P : Nat, at_ = P := ⟨at_.toNat, by omega⟩
  obtain ⟨Y, rfl⟩ : ∃ Y : Nat, y = Y := ⟨y.toNat, by omega⟩
  obtain ⟨h, o, rfl, hlt, hc⟩ := s.2.2 (by omega)
  exact little_mid s hob (by omega) (by omega) (by omega) hlt hc
end Go.Proofs.Ytaidlcnfkdaijaa
