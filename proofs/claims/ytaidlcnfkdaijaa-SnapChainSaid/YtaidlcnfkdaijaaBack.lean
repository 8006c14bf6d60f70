import Derived.Test.YtaidlcnfkdaijaaDiff
namespace Go.Proofs.Ytaidlcnfkdaijaa
open Go.ChangeShapes Go.WideShapes Go.ChangeAt Go.RowKit
set_option linter.unusedVariables false
theorem Sl.of_own {w : World} {base n : Nat} {v : Value} {xs : List Nat} (own : w.ownsRow base 5 1 v n (bys xs)) : ∃ A c, v = .slice A xs.length c ∧ Sl w A xs.length c xs := by
  rcases own_open own with ⟨rfl, rfl⟩ | ⟨g, cap, rfl, _, hg, hc, hcell⟩
  · exact ⟨none, 0, rfl, rfl, Nat.le_refl _, fun h => absurd h (by simp)⟩
  · exact ⟨_, cap, rfl, rfl, hc, fun _ => ⟨g, 0, rfl, hg, hcell⟩⟩
def Makes (old xs new : List Nat) : Prop := ∃ l, PS old xs = some l ∧ l.flatten = new
theorem diff_sl {w : World} {A B : Option Addr} {no co nn cn : Nat} {old new : List Nat} (so : Sl w A no co old) (sn : Sl w B nn cn new) (ho : no ≤ 420) (hn : nn ≤ 420) (hob : ∀ j, old.getD j 0 < 256) (hnb : ∀ j, new.getD j 0 < 256) :
    Calls Try.prog 13 #[.slice A no co, .slice B nn cn] w fun e w' => ∃ P m d xs, e = .returned (.slice P m d) ∧ Hid (Sl w' P m d xs) ∧ m ≤ nn + 8 ∧ Hid (Makes old xs new) ∧ Hid (old = new → m ≤ 16) ∧ Below w.heap.size w w' := by
  refine (diff_any so sn ho hn hob hnb).mono ?_
  rintro e w' ⟨v, xs, l, rfl, own, h1, h2, h3, h4, hb⟩
  obtain ⟨P, d, rfl, s⟩ := Sl.of_own own
  exact ⟨P, _, d, xs, rfl, Lib.hid s, by have := sn.1; omega, Lib.hid ⟨l, h1, h2⟩, Lib.hid h4, hb⟩
theorem apply_new {w : World} {A B : Option Addr} {n c m d : Nat} {old b new : List Nat} (s : Sl w A n c old) (t : Sl w B m d b) (hn : n ≤ 420) (hm : m ≤ 420) (mk : Makes old b new) :
    Calls Try.prog 9 #[.slice A n c, .slice B m d] w fun e w' => ∃ P k d', e = .returned (.tuple #[.slice P k d', .int .i64 0]) ∧ Hid (k = new.length) ∧ Hid (Sl w' P k d' new) ∧ Below w.heap.size w w' := by
  refine (apply_sl s t hn hm).mono ?_
  intro e w' h
  obtain ⟨l, h1, h2⟩ := mk
  unfold APost at h
  rw [h1] at h
  obtain ⟨v, he, hb, own⟩ := h
  rw [h2] at own
  obtain ⟨P, d, rfl, s⟩ := Sl.of_own own
  exact ⟨P, _, d, he, Lib.hid rfl, Lib.hid s, hb⟩
theorem ref_new {w : World} {A B : Option Addr} {n c m d : Nat} {old b new : List Nat} (s : Sl w A n c old) (t : Sl w B m d b) (hn : n ≤ 420) (hm : m ≤ 420) (mk : Makes old b new) :
    Calls Try.prog 10 #[.slice A n c, .slice B m d] w fun e w' => ∃ P k d', e = .returned (.tuple #[.slice P k d', .int .i64 0]) ∧ Hid (k = new.length) ∧ Hid (Sl w' P k d' new) ∧ Below w.heap.size w w' := by
  refine (ref_sl s t hn hm).mono ?_
  intro e w' h
  obtain ⟨l, h1, h2⟩ := mk
  unfold APost at h
  rw [h1] at h
  obtain ⟨v, he, hb, own⟩ := h
  rw [h2] at own
  obtain ⟨P, d, rfl, s⟩ := Sl.of_own own
  exact ⟨P, _, d, he, Lib.hid rfl, Lib.hid s, hb⟩
set_option maxRecDepth 100000 in
set_option maxHeartbeats 4000000 in
theorem back_long {w : World} {A B : Option Addr} {n c m d : Nat} (h : 400 < n ∨ 400 < m) :
    Calls Try.prog 4 #[.slice A n c, .slice B m d] w fun e w' => e = .returned (.bool true) ∧ Below w.heap.size w w' := by
  by_cases hn : 400 < n
  · have hn' : (400 : Int) < (n : Int) := by omega
    go_enter Try.func4, Try.ntmps4
    go_wp2_with fail
    refine (awake _).mono ?_; rintro e w1 ⟨rfl, hb1⟩
    have B1 := Lib.hid hb1; clear hb1
    go_wp2
    go_ret
    exact ⟨rfl, B1.out⟩
  · have hn' : ¬ (400 : Int) < (n : Int) := by omega
    have hm' : (400 : Int) < (m : Int) := by omega
    go_enter Try.func4, Try.ntmps4
    go_wp2_with fail
    refine (awake _).mono ?_; rintro e w1 ⟨rfl, hb1⟩
    have B1 := Lib.hid hb1; clear hb1
    go_wp2
    go_ret
    exact ⟨rfl, B1.out⟩
set_option maxRecDepth 100000 in
set_option maxHeartbeats 4000000 in
theorem back_walk {w : World} {A B : Option Addr} {n c m d : Nat} {old new : List Nat} (s : Sl w A n c old) (t : Sl w B m d new) (hob : ∀ j, old.getD j 0 < 256) (hnb : ∀ j, new.getD j 0 < 256) :
    Calls Try.prog 4 #[.slice A n c, .slice B m d] w fun e w' => e = .returned (.bool true) ∧ Below w.heap.size w w' := by
  by_cases hl : 400 < n ∨ 400 < m
  · exact back_long hl
  have hn' : ¬ (400 : Int) < (n : Int) := by omega
  have hm' : ¬ (400 : Int) < (m : Int) := by omega
  have hn4 : n ≤ 420 := by omega
  have hm4 : m ≤ 420 := by omega
  have hm5 : m ≤ 400 := by omega
  have S := Lib.hid s; have T := Lib.hid t; have HO := Lib.hid hob; have HN := Lib.hid hnb
  clear s t hob hnb hl
  go_enter Try.func4, Try.ntmps4
  go_wp2_with fail
  refine (awake _).mono ?_; rintro e w1 ⟨rfl, hb1⟩
  have B1 := Lib.hid hb1; clear hb1
  go_wp2_with fail
  refine (diff_sl (S.out.below B1.out) (T.out.below B1.out) hn4 hm4 HO.out HN.out).mono ?_
  rintro e w2 ⟨P, k, dk, xs, rfl, sp, hk, mk, _, hb⟩
  have B2 := Lib.hid (bt B1.out hb); clear hb
  have hk4 : k ≤ 420 := by omega
  go_wp2_with fail
  refine (apply_new (S.out.below B2.out) sp.out hn4 hk4 mk.out).mono ?_
  rintro e w3 ⟨Q, q, dq, rfl, hq, sq, hb⟩
  have B3 := Lib.hid (bt B2.out hb)
  have SP3 := Lib.hid (sp.out.below hb); clear hb sp
  go_wp2_with fail
  refine (ref_new (S.out.below B3.out) SP3.out hn4 hk4 mk.out).mono ?_
  rintro e w4 ⟨R, r, dr, rfl, hr, sr, hb⟩
  have B4 := Lib.hid (bt B3.out hb)
  have SQ4 := Lib.hid (sq.out.below hb); clear hb sq
  go_wp2_with fail
  refine (diff_sl (S.out.below B4.out) (S.out.below B4.out) hn4 hn4 HO.out HO.out).mono ?_
  rintro e w5 ⟨V, v, dv, ys, rfl, _, _, _, h16, hb⟩
  have B5 := Lib.hid (bt B4.out hb)
  have cq := str_sl (SQ4.out.below hb)
  have cr := str_sl (sr.out.below hb)
  have ct := str_sl (T.out.below B5.out)
  have hv := h16.out rfl
  clear hb h16
  have hk' : decide ((k : Int) ≤ (m : Int) + 8) = true := decide_eq_true (by omega)
  have hv' : decide ((v : Int) ≤ 16) = true := decide_eq_true (by omega)
  have hv'' : decide (v ≤ 16) = true := decide_eq_true hv
  have hk'' : decide (k ≤ m + 8) = true := decide_eq_true hk
  go_wp2
  go_ret
  exact ⟨rfl, B5.out⟩
end Go.Proofs.Ytaidlcnfkdaijaa
