import Derived.Test.YtaidlcnfkdaijaaAwake
namespace Go.Proofs.Ytaidlcnfkdaijaa
open Go.ChangeShapes Go.WideShapes Go.ChangeAt Go.RowKit
set_option linter.unusedVariables false
/-- a slice of bytes as an argument. -/
def Sl (w : World) (A : Option Addr) (n c : Nat) (xs : List Nat) : Prop := xs.length = n ∧ n ≤ c ∧ (0 < n → ∃ h o, A = some ⟨h, o, none⟩ ∧ h < w.heap.size ∧ ∀ j, j < n → w.cell? ⟨h, o + j, none⟩ = some (.int .u8 (xs.getD j 0 : Nat)))
theorem Sl.below {w w' : World} {A : Option Addr} {n c : Nat} {xs : List Nat} (s : Sl w A n c xs) (hb : Below w.heap.size w w') : Sl w' A n c xs :=
  ⟨s.1, s.2.1, fun h => by
    obtain ⟨g, o, e, hlt, hc⟩ := s.2.2 h
    exact ⟨g, o, e, Nat.lt_of_lt_of_le hlt hb.size, fun j hj => by rw [hb.cell (p := ⟨g, o + j, none⟩) hlt, hc j hj]⟩⟩
theorem sum_sl {w : World} {A : Option Addr} {n c : Nat} {xs : List Nat} (s : Sl w A n c xs) (hl : n ≤ 1000000) :
    Calls Try.prog 11 #[.slice A n c] w fun e w' => e = .returned (.int .u64 (sumG xs n)) ∧ w = w' := by
  obtain ⟨rfl, h1, h2⟩ := s
  rcases Nat.eq_zero_or_pos xs.length with h0 | h0
  · obtain rfl := List.eq_nil_of_length_eq_zero h0
    exact sum_e A c w
  · obtain ⟨g, o, rfl, _, hc⟩ := h2 h0
    exact sum_any hc hl
theorem rsum_sl {w : World} {A : Option Addr} {n c : Nat} {xs : List Nat} (s : Sl w A n c xs) (hl : n ≤ 1000000) :
    Calls Try.prog 12 #[.slice A n c] w fun e w' => e = .returned (.int .u64 (sumG xs n)) ∧ w = w' := by
  obtain ⟨rfl, h1, h2⟩ := s
  rcases Nat.eq_zero_or_pos xs.length with h0 | h0
  · obtain rfl := List.eq_nil_of_length_eq_zero h0
    exact rsum_e A c w
  · obtain ⟨g, o, rfl, _, hc⟩ := h2 h0
    exact rsum_any hc hl
theorem apply_sl {w : World} {A B : Option Addr} {n c m d : Nat} {old b : List Nat} (s : Sl w A n c old) (t : Sl w B m d b) (hn : n ≤ 420) (hm : m ≤ 420) :
    Calls Try.prog 9 #[.slice A n c, .slice B m d] w fun e w' => APost w w.heap.size old b e w' := by
  obtain ⟨s1, s2, s3⟩ := s
  obtain ⟨t1, t2, t3⟩ := t
  by_cases h : 0 < m
  · obtain ⟨g, o, e, hlt, hc⟩ := t3 h
    exact apply_any t1 (fun _ => ⟨e, hlt, fun j hj => hc j (by omega)⟩) hm t2 s1 s2 hn s3
  · exact apply_any (h := 0) (o := 0) t1 (fun k => absurd k h) hm t2 s1 s2 hn s3
theorem ref_sl {w : World} {A B : Option Addr} {n c m d : Nat} {old b : List Nat} (s : Sl w A n c old) (t : Sl w B m d b) (hn : n ≤ 420) (hm : m ≤ 420) :
    Calls Try.prog 10 #[.slice A n c, .slice B m d] w fun e w' => APost w w.heap.size old b e w' := by
  obtain ⟨s1, s2, s3⟩ := s
  obtain ⟨t1, t2, t3⟩ := t
  by_cases h : 0 < m
  · obtain ⟨g, o, e, hlt, hc⟩ := t3 h
    exact ref_any t1 (fun _ => ⟨e, hlt, fun j hj => hc j (by omega)⟩) hm t2 s1 s2 hn s3
  · exact ref_any (h := 0) (o := 0) t1 (fun k => absurd k h) hm t2 s1 s2 hn s3
def OPost (w : World) (xs : List Nat) (e : Ending) (w' : World) : Prop := ∃ v, e = .returned (.tuple #[v, .int .i64 0]) ∧ Below w.heap.size w w' ∧ w'.ownsRow w.heap.size 5 1 v xs.length (bys xs)
theorem str_nil (w : World) : (convert 22 9 (.slice none 0 0)).run Try.prog w = .ok (.string (strB [])) w := run_convert_bytes_nil w 22 5 Try.underlying22 Try.underlying5 0 0 9 Try.underlying9
set_option maxRecDepth 100000 in
set_option maxHeartbeats 4000000 in
theorem says_long {w : World} {A B : Option Addr} {n c m d : Nat} (h : 300 < n ∨ 300 < m) :
    Calls Try.prog 3 #[.slice A n c, .slice B m d] w fun e w' => e = .returned (.bool true) ∧ Below w.heap.size w w' := by
  by_cases hn : 300 < n
  · have hn' : (300 : Int) < (n : Int) := by omega
    go_enter Try.func3, Try.ntmps3
    go_wp2_with fail
    refine (awake _).mono ?_; rintro e w1 ⟨rfl, hb1⟩
    have B1 := Lib.hid hb1; clear hb1
    go_wp2
    go_ret
    exact ⟨rfl, B1.out⟩
  · have hn' : ¬ (300 : Int) < (n : Int) := by omega
    have hm' : (300 : Int) < (m : Int) := by omega
    go_enter Try.func3, Try.ntmps3
    go_wp2_with fail
    refine (awake _).mono ?_; rintro e w1 ⟨rfl, hb1⟩
    have B1 := Lib.hid hb1; clear hb1
    go_wp2
    go_ret
    exact ⟨rfl, B1.out⟩
set_option maxRecDepth 100000 in
set_option maxHeartbeats 4000000 in
theorem says_none {w : World} {A B : Option Addr} {n c m d : Nat} {old b : List Nat} (s : Sl w A n c old) (t : Sl w B m d b) (hn : n ≤ 300) (hm : m ≤ 300) (hp : PS old b = none) :
    Calls Try.prog 3 #[.slice A n c, .slice B m d] w fun e w' => e = .returned (.bool true) ∧ Below w.heap.size w w' := by
  have AP : Hid (∀ W, Below w.heap.size w W → Calls Try.prog 9 #[.slice A n c, .slice B m d] W fun e w' => e = .returned (.tuple #[.slice none 0 0, .int .i64 3]) ∧ Below W.heap.size W w') := Lib.hid (fun W hW => (apply_sl (s.below hW) (t.below hW) (by omega) (by omega)).mono (fun e w' h => by unfold APost at h; rw [hp] at h; exact h))
  have RP : Hid (∀ W, Below w.heap.size w W → Calls Try.prog 10 #[.slice A n c, .slice B m d] W fun e w' => e = .returned (.tuple #[.slice none 0 0, .int .i64 3]) ∧ Below W.heap.size W w') := Lib.hid (fun W hW => (ref_sl (s.below hW) (t.below hW) (by omega) (by omega)).mono (fun e w' h => by unfold APost at h; rw [hp] at h; exact h))
  have SP : Hid (∀ W, Below w.heap.size w W → Calls Try.prog 11 #[.slice A n c] W fun e w' => e = .returned (.int .u64 (sumG old n)) ∧ W = w') := Lib.hid (fun W hW => sum_sl (s.below hW) (by omega))
  have TP : Hid (∀ W, Below w.heap.size w W → Calls Try.prog 12 #[.slice A n c] W fun e w' => e = .returned (.int .u64 (sumG old n)) ∧ W = w') := Lib.hid (fun W hW => rsum_sl (s.below hW) (by omega))
  have cv := str_nil
  obtain ⟨G, hG⟩ : ∃ G, G = sumG old n := ⟨_, rfl⟩
  rw [← hG] at SP TP
  have hn' : ¬ (300 : Int) < (n : Int) := by omega
  have hm' : ¬ (300 : Int) < (m : Int) := by omega
  clear hG s t hp
  go_enter Try.func3, Try.ntmps3
  go_wp2_with fail
  refine (awake _).mono ?_; rintro e w1 ⟨rfl, hb1⟩
  have B1 := Lib.hid hb1; clear hb1
  go_wp2_with fail
  refine (AP.out _ B1.out).mono ?_; rintro e w2 ⟨rfl, hb⟩
  have B2 := Lib.hid (bt B1.out hb); clear hb
  go_wp2_with fail
  refine (RP.out _ B2.out).mono ?_; rintro e w3 ⟨rfl, hb⟩
  have B3 := Lib.hid (bt B2.out hb); clear hb
  go_wp2_with fail
  refine (SP.out _ B3.out).mono ?_; rintro e w4 ⟨rfl, rfl⟩
  go_wp2_with fail
  refine (TP.out _ B3.out).mono ?_; rintro e w4 ⟨rfl, rfl⟩
  go_wp2
  go_ret
  exact ⟨rfl, B3.out⟩
set_option maxRecDepth 100000 in
set_option maxHeartbeats 4000000 in
theorem says_some {w : World} {A B : Option Addr} {n c m d : Nat} {old b : List Nat} {l : List (List Nat)} (s : Sl w A n c old) (t : Sl w B m d b) (hn : n ≤ 300) (hm : m ≤ 300) (hp : PS old b = some l) :
    Calls Try.prog 3 #[.slice A n c, .slice B m d] w fun e w' => e = .returned (.bool true) ∧ Below w.heap.size w w' := by
  have AP : Hid (∀ W, Below w.heap.size w W → Calls Try.prog 9 #[.slice A n c, .slice B m d] W fun e w' => OPost W l.flatten e w') := Lib.hid (fun W hW => (apply_sl (s.below hW) (t.below hW) (by omega) (by omega)).mono (fun e w' h => by unfold APost at h; rw [hp] at h; exact h))
  have RP : Hid (∀ W, Below w.heap.size w W → Calls Try.prog 10 #[.slice A n c, .slice B m d] W fun e w' => OPost W l.flatten e w') := Lib.hid (fun W hW => (ref_sl (s.below hW) (t.below hW) (by omega) (by omega)).mono (fun e w' h => by unfold APost at h; rw [hp] at h; exact h))
  have SP : Hid (∀ W, Below w.heap.size w W → Calls Try.prog 11 #[.slice A n c] W fun e w' => e = .returned (.int .u64 (sumG old n)) ∧ W = w') := Lib.hid (fun W hW => sum_sl (s.below hW) (by omega))
  have TP : Hid (∀ W, Below w.heap.size w W → Calls Try.prog 12 #[.slice A n c] W fun e w' => e = .returned (.int .u64 (sumG old n)) ∧ W = w') := Lib.hid (fun W hW => rsum_sl (s.below hW) (by omega))
  obtain ⟨xs, hxs⟩ : ∃ xs, xs = l.flatten := ⟨_, rfl⟩
  rw [← hxs] at AP RP
  obtain ⟨G, hG⟩ : ∃ G, G = sumG old n := ⟨_, rfl⟩
  rw [← hG] at SP TP
  have hn' : ¬ (300 : Int) < (n : Int) := by omega
  have hm' : ¬ (300 : Int) < (m : Int) := by omega
  clear hG s t hp hxs
  go_enter Try.func3, Try.ntmps3
  go_wp2_with fail
  refine (awake _).mono ?_; rintro e w1 ⟨rfl, hb1⟩
  have B1 := Lib.hid hb1; clear hb1
  go_wp2_with fail
  refine (AP.out _ B1.out).mono ?_; rintro e w2 ⟨p, rfl, hb, op⟩
  have B2 := Lib.hid (bt B1.out hb); clear hb
  have OP := Lib.hid op; clear op
  go_wp2_with fail
  refine (RP.out _ B2.out).mono ?_; rintro e w3 ⟨q, rfl, hb, oq⟩
  have B3 := Lib.hid (bt B2.out hb)
  have cp := str_own (own_below OP.out hb)
  have cq := str_own oq
  clear hb oq
  go_wp2_with fail
  refine (SP.out _ B3.out).mono ?_; rintro e w4 ⟨rfl, rfl⟩
  go_wp2_with fail
  refine (TP.out _ B3.out).mono ?_; rintro e w4 ⟨rfl, rfl⟩
  go_wp2
  go_ret
  exact ⟨rfl, B3.out⟩
theorem says_walk {w : World} {A B : Option Addr} {n c m d : Nat} {old b : List Nat} (s : Sl w A n c old) (t : Sl w B m d b) :
    Calls Try.prog 3 #[.slice A n c, .slice B m d] w fun e w' => e = .returned (.bool true) ∧ Below w.heap.size w w' := by
  by_cases hl : 300 < n ∨ 300 < m
  · exact says_long hl
  cases hp : PS old b with
  | none => exact says_none s t (by omega) (by omega) hp
  | some l => exact says_some s t (by omega) (by omega) hp
end Go.Proofs.Ytaidlcnfkdaijaa
