import Derived.Test.YtclilpabdcdeoaaDoorVs
import Derived.Laws.BytesArg
import Derived.Lib.ItoaLen
import Derived.Laws.Concat
namespace Go.Proofs.YtclilpabdcdeoaaDoor
open Go.ChangeShapes Go.WideShapes Go.ChangeAt Go.RowKit
set_option linter.unusedVariables false
def strU (l : List UInt8) : ByteArray := strOfNums (l.map fun b => (b.toNat : Int))
theorem str_row {w : World} {B n : Nat} {v : Value} {l : List UInt8} (h : w.ownsRow B 5 1 v n (Lib.byteCells l)) : (convert 77 9 v).run Tryd.prog w = .ok (.string (strU l)) w := by
  have hl : l.length = n := by have := h.1; simp [Lib.byteCells] at this; omega
  rcases h.2 with ⟨rfl, h0⟩ | ⟨g, cap, cur, rfl, _⟩
  · have : l = [] := List.eq_nil_of_length_eq_zero (by omega)
    subst this
    exact run_convert_bytes_nil w 77 5 Tryd.underlying77 Tryd.underlying5 0 0 9 Tryd.underlying9
  · refine run_convert_bytes_arg w 77 5 Tryd.underlying77 Tryd.underlying5 g 0 n cap (l.map fun b => (b.toNat : Int)) (by simpa using hl) (fun i hi => ?_) 9 Tryd.underlying9
    rw [Nat.zero_add, h.cellAt i (by omega)]
    simp [Lib.byteCells, List.getD, show i < l.length by omega]
theorem strU_app (a b : List UInt8) : strU a ++ strU b = strU (a ++ b) := by
  unfold strU strOfNums
  apply ByteArray.ext
  simp [ByteArray.data_append]
theorem add_str {a b c : ByteArray} (h : a ++ b = c) (ha : a.size ≤ 1000000) (hb : b.size ≤ 1000000) : ∀ W, (Op.stringOp .add a b).run Tryd.prog W = .ok (.string c) W := fun W => by
  rw [run_string_add_sum W a b (by omega), h]
theorem strU_size (l : List UInt8) : (strU l).size = l.length := by simp [strU, strOfNums, ByteArray.size]
theorem dec_len (u : Nat) (h : u ≤ 9223372036854775808) : (Lib.decDigits u).length ≤ 21 := by
  have h1 := Lib.itoa_length_le (-(u : Int)) (by omega) (by omega)
  rcases Nat.eq_zero_or_pos u with h0 | h0
  · subst h0; decide +kernel
  · rw [Lib.itoa_neg u h0, List.length_cons] at h1; omega
theorem dec_step (u : Nat) (h : ¬ u < 10) : Lib.decDigits u = Lib.decDigits (u / 10) ++ [UInt8.ofNat (48 + u % 10)] := by
  conv => lhs; rw [Lib.decDigits, dif_neg h]
theorem strU_dash : strU [45] = { data := #[45] } := by decide +kernel
theorem cat_dash (l : List UInt8) : ({ data := #[45] } : ByteArray) ++ strU l = strU (45 :: l) := by
  rw [← strU_dash, strU_app]; exact congrArg strU (List.singleton_append)
theorem cat_step (u : Nat) (h : ¬ u < 10) : strU (45 :: Lib.decDigits (u / 10)) ++ strU [UInt8.ofNat (48 + u % 10)] = strU (45 :: Lib.decDigits u) := by
  rw [strU_app, dec_step u h, List.cons_append]
set_option maxRecDepth 100000 in
set_option maxHeartbeats 2000000 in
theorem digit_one {w : World} (n : Nat) (h : n < 10) :
    Calls Tryd.prog 40 #[.int .i64 n] w fun e w' => e = .returned (.string (strU [UInt8.ofNat (48 + n)])) ∧ Below w.heap.size w w' := by
  obtain ⟨P, hP⟩ : ∃ P : Nat, (48 : Int) + (n : Int) = P := ⟨48 + n, by omega⟩
  have d1 := decide_eq_false (show ¬ (n : Int) < 0 by omega)
  have d2 := decide_eq_true (show (n : Int) < 10 by omega)
  have d3 := decide_eq_true h
  have cv : (convert 77 9 (.slice (some ⟨w.heap.size, 0, none⟩) 1 1)).run Tryd.prog (w.alloc (.cells #[.int .u8 P] 5)) = .ok (.string (strU [UInt8.ofNat (48 + n)])) (w.alloc (.cells #[.int .u8 P] 5)) := by
    refine str_row (B := w.heap.size) (l := [UInt8.ofNat (48 + n)]) (n := 1) ?_
    have := World.ownsRow_lit (base := w.heap.size) (e := 5) (size := 1) w #[.int .u8 P] 1 (Nat.le_refl _) (by unfold maxLen; omega) rfl
    have e : Lib.byteCells [UInt8.ofNat (48 + n)] = [.int .u8 (P : Int)] := by
      simp only [Lib.byteCells, List.map_cons, List.map_nil, UInt8.toNat_ofNat']
      rw [Nat.mod_eq_of_lt (by omega)]
      congr 2
    rw [e]; exact this
  have hP5 : P ≤ 57 := by omega
  obtain ⟨s, hs⟩ : ∃ s, s = strU [UInt8.ofNat (48 + n)] := ⟨_, rfl⟩
  rw [← hs] at cv ⊢
  clear h hs
  go_enter Tryd.func40, Tryd.ntmps40
  go_wp2
  go_ret
  exact ⟨rfl, below_alloc _ _⟩
set_option maxRecDepth 100000 in
set_option maxHeartbeats 2000000 in
theorem digits_nat (u : Nat) : ∀ (w : World), u ≤ 9223372036854775807 → Calls Tryd.prog 40 #[.int .i64 u] w fun e w' => e = .returned (.string (strU (Lib.decDigits u))) ∧ Below w.heap.size w w' := by
  induction u using Nat.strongRecOn with
  | _ u ih =>
    intro w hu
    by_cases h : u < 10
    · rw [Lib.decDigits_one h]; exact digit_one u h
    · have d1 := decide_eq_false (show ¬ (u : Int) < 0 by omega)
      have d2 := decide_eq_false (show ¬ (u : Int) < 10 by omega)
      have d3 := decide_eq_false h
      have CAT : Hid (strU (Lib.decDigits (u / 10)) ++ strU [UInt8.ofNat (48 + u % 10)] = strU (Lib.decDigits u)) := Lib.hid (by
        rw [strU_app]; congr 1
        conv => rhs; rw [Lib.decDigits, dif_neg h])
      have C1 : Hid (∀ W, Calls Tryd.prog 40 #[.int .i64 ((u : Int) / 10)] W fun e w' => e = .returned (.string (strU (Lib.decDigits (u / 10)))) ∧ Below W.heap.size W w') := Lib.hid (fun W => by rw [show (u : Int) / 10 = ((u / 10 : Nat) : Int) by omega]; exact ih (u / 10) (by omega) W (by omega))
      have C2 : Hid (∀ W, Calls Tryd.prog 40 #[.int .i64 ((u : Int) % 10)] W fun e w' => e = .returned (.string (strU [UInt8.ofNat (48 + u % 10)])) ∧ Below W.heap.size W w') := Lib.hid (fun W => by rw [show (u : Int) % 10 = ((u % 10 : Nat) : Int) by omega]; exact digit_one (u % 10) (by omega))
      clear ih h
      go_enter Tryd.func40, Tryd.ntmps40
      go_wp2_with fail
      obtain ⟨s1, hs1⟩ : ∃ s, s = strU (Lib.decDigits (u / 10)) := ⟨_, rfl⟩
      obtain ⟨s2, hs2⟩ : ∃ s, s = strU [UInt8.ofNat (48 + u % 10)] := ⟨_, rfl⟩
      obtain ⟨s3, hs3⟩ : ∃ s, s = strU (Lib.decDigits u) := ⟨_, rfl⟩
      rw [← hs1] at C1 CAT; rw [← hs2] at C2 CAT; rw [← hs3] at CAT
      have z1 : s1.size ≤ 21 := by rw [hs1, strU_size]; exact dec_len _ (by omega)
      have z2 : s2.size ≤ 21 := by rw [hs2, strU_size]; simp
      have ad := add_str CAT.out (by omega) (by omega)
      clear z1 z2
      have HS3 := Lib.hid hs3
      clear hs1 hs2 hs3
      refine (C1.out _).mono ?_; rintro e w1 ⟨rfl, hb1⟩
      have B1 := Lib.hid hb1; clear hb1
      go_wp2_with fail
      refine (C2.out _).mono ?_; rintro e w2 ⟨rfl, hb2⟩
      have B2 := Lib.hid (B1.out.trans (hb2.mono B1.out.size)); clear hb2
      go_wp2
      go_ret
      exact ⟨by rw [← HS3.out]; rfl, B2.out⟩
set_option maxRecDepth 100000 in
set_option maxHeartbeats 2000000 in
theorem digits_neg (u : Nat) (w : World) (h0 : 0 < u) (h1 : u ≤ 9223372036854775807) : Calls Tryd.prog 40 #[.int .i64 (-(u : Int))] w fun e w' => e = .returned (.string (strU (45 :: Lib.decDigits u))) ∧ Below w.heap.size w w' := by
  have d1 := decide_eq_true (show -(u : Int) < 0 by omega)
  by_cases h : u < 10
  · have d3 := decide_eq_false (show ¬ (10 : Int) ≤ (u : Int) by omega)
    have d3' := decide_eq_false (show ¬ 10 ≤ u by omega)
    have C1 : Hid (∀ W, Calls Tryd.prog 40 #[.int .i64 (u : Int)] W fun e w' => e = .returned (.string (strU (Lib.decDigits u))) ∧ Below W.heap.size W w') := Lib.hid (fun W => digits_nat u W (by omega))
    obtain ⟨s1, hs1⟩ : ∃ s, s = strU (Lib.decDigits u) := ⟨_, rfl⟩
    obtain ⟨s3, hs3⟩ : ∃ s, s = strU (45 :: Lib.decDigits u) := ⟨_, rfl⟩
    have z1 : s1.size ≤ 21 := by rw [hs1, strU_size]; exact dec_len _ (by omega)
    have ad := add_str (a := { data := #[45] }) (b := s1) (c := s3) (by rw [hs1, hs3]; exact cat_dash _) (by decide) (by omega)
    clear z1
    rw [← hs1] at C1
    have HS3 := Lib.hid hs3
    clear hs1 hs3
    go_enter Tryd.func40, Tryd.ntmps40
    go_wp2_with fail
    refine (C1.out _).mono ?_; rintro e w1 ⟨rfl, hb1⟩
    have B1 := Lib.hid hb1; clear hb1
    go_wp2
    go_ret
    exact ⟨by rw [← HS3.out]; rfl, B1.out⟩
  · have d3 := decide_eq_true (show (10 : Int) ≤ (u : Int) by omega)
    have d3' := decide_eq_true (show 10 ≤ u by omega)
    have C1 : Hid (∀ W, Calls Tryd.prog 40 #[.int .i64 ((u : Int) / 10)] W fun e w' => e = .returned (.string (strU (Lib.decDigits (u / 10)))) ∧ Below W.heap.size W w') := Lib.hid (fun W => by rw [show (u : Int) / 10 = ((u / 10 : Nat) : Int) by omega]; exact digits_nat (u / 10) W (by omega))
    have C2 : Hid (∀ W, Calls Tryd.prog 40 #[.int .i64 ((u : Int) % 10)] W fun e w' => e = .returned (.string (strU [UInt8.ofNat (48 + u % 10)])) ∧ Below W.heap.size W w') := Lib.hid (fun W => by rw [show (u : Int) % 10 = ((u % 10 : Nat) : Int) by omega]; exact digit_one (u % 10) (by omega))
    obtain ⟨s1, hs1⟩ : ∃ s, s = strU (Lib.decDigits (u / 10)) := ⟨_, rfl⟩
    obtain ⟨s2, hs2⟩ : ∃ s, s = strU [UInt8.ofNat (48 + u % 10)] := ⟨_, rfl⟩
    obtain ⟨s4, hs4⟩ : ∃ s, s = strU (45 :: Lib.decDigits (u / 10)) := ⟨_, rfl⟩
    obtain ⟨s3, hs3⟩ : ∃ s, s = strU (45 :: Lib.decDigits u) := ⟨_, rfl⟩
    have z1 : s1.size ≤ 21 := by rw [hs1, strU_size]; exact dec_len _ (by omega)
    have z2 : s2.size ≤ 21 := by rw [hs2, strU_size]; simp
    have z4 : s4.size ≤ 22 := by
      rw [hs4, strU_size, List.length_cons]
      have := dec_len (u / 10) (by omega)
      omega
    have ad1 := add_str (a := { data := #[45] }) (b := s1) (c := s4) (by rw [hs1, hs4]; exact cat_dash _) (by decide) (by omega)
    have ad2 := add_str (a := s4) (b := s2) (c := s3) (by rw [hs4, hs2, hs3]; exact cat_step u h) (by omega) (by omega)
    rw [← hs1] at C1; rw [← hs2] at C2
    have HS3 := Lib.hid hs3
    clear hs1 hs2 hs3 hs4 z1 z2 z4 h
    go_enter Tryd.func40, Tryd.ntmps40
    go_wp2_with fail
    refine (C1.out _).mono ?_; rintro e w1 ⟨rfl, hb1⟩
    have B1 := Lib.hid hb1; clear hb1
    go_wp2_with fail
    refine (C2.out _).mono ?_; rintro e w2 ⟨rfl, hb2⟩
    have B2 := Lib.hid (B1.out.trans (hb2.mono B1.out.size)); clear hb2
    go_wp2
    go_ret
    exact ⟨by rw [← HS3.out]; rfl, B2.out⟩
set_option maxRecDepth 100000 in
set_option maxHeartbeats 2000000 in
theorem digits_min (w : World) (u : Nat) (hu : u = 9223372036854775808) : Calls Tryd.prog 40 #[.int .i64 (-9223372036854775808)] w fun e w' => e = .returned (.string (strU (45 :: Lib.decDigits u))) ∧ Below w.heap.size w w' := by
  have hst := cat_step u (by omega)
  rw [show u % 10 = 8 by omega] at hst
  obtain ⟨q, hq⟩ : ∃ q, q = u / 10 := ⟨_, rfl⟩
  rw [← hq] at hst
  have hq1 : q ≤ 9223372036854775807 := by omega
  have hqi : (922337203685477580 : Int) = (q : Int) := by omega
  have C1 : Hid (∀ W, Calls Tryd.prog 40 #[.int .i64 922337203685477580] W fun e w' => e = .returned (.string (strU (Lib.decDigits q))) ∧ Below W.heap.size W w') := Lib.hid (fun W => by rw [hqi]; exact digits_nat q W hq1)
  have C2 : Hid (∀ W, Calls Tryd.prog 40 #[.int .i64 8] W fun e w' => e = .returned (.string (strU [UInt8.ofNat (48 + 8)])) ∧ Below W.heap.size W w') := Lib.hid (fun W => digit_one 8 (by omega))
  have hl := dec_len q (by omega)
  clear hu hq hqi hq1
  obtain ⟨l, hll⟩ : ∃ l, l = Lib.decDigits q := ⟨_, rfl⟩
  obtain ⟨m, hm⟩ : ∃ m, m = Lib.decDigits u := ⟨_, rfl⟩
  rw [← hll] at hst C1 hl
  rw [← hm] at hst ⊢
  clear hll hm
  obtain ⟨s1, hs1⟩ : ∃ s, s = strU l := ⟨_, rfl⟩
  obtain ⟨s2, hs2⟩ : ∃ s, s = strU [UInt8.ofNat (48 + 8)] := ⟨_, rfl⟩
  obtain ⟨s4, hs4⟩ : ∃ s, s = strU (45 :: l) := ⟨_, rfl⟩
  obtain ⟨s3, hs3⟩ : ∃ s, s = strU (45 :: m) := ⟨_, rfl⟩
  have z1 : s1.size ≤ 21 := by rw [hs1, strU_size]; exact hl
  have z2 : s2.size ≤ 21 := by rw [hs2, strU_size]; simp
  have z4 : s4.size ≤ 22 := by
    rw [hs4, strU_size, List.length_cons]
    omega
  have ad1 := add_str (a := { data := #[45] }) (b := s1) (c := s4) (by rw [hs1, hs4]; exact cat_dash _) (by decide) (by omega)
  have ad2 := add_str (a := s4) (b := s2) (c := s3) (by rw [hs4, hs2, hs3]; exact hst) (by omega) (by omega)
  rw [← hs1] at C1; rw [← hs2] at C2
  rw [← hs3]
  clear hs1 hs2 hs3 hs4 z1 z2 z4 hst hl
  have wa : wrap64 9223372036854775808 = -9223372036854775808 := by decide +kernel
  have wb : IntKind.u64.wrap (-9223372036854775808) = 9223372036854775808 := by decide +kernel
  go_enter Tryd.func40, Tryd.ntmps40
  go_wp2_with fail
  refine (C1.out _).mono ?_; rintro e w1 ⟨rfl, hb1⟩
  have B1 := Lib.hid hb1; clear hb1
  go_wp2_with fail
  refine (C2.out _).mono ?_; rintro e w2 ⟨rfl, hb2⟩
  have B2 := Lib.hid (B1.out.trans (hb2.mono B1.out.size)); clear hb2
  go_wp2
  go_ret
  exact ⟨rfl, B2.out⟩
theorem digits_any (n : Int) (w : World) (h0 : -9223372036854775808 ≤ n) (h1 : n ≤ 9223372036854775807) : Calls Tryd.prog 40 #[.int .i64 n] w fun e w' => e = .returned (.string (strU (Lib.itoa n))) ∧ Below w.heap.size w w' := by
  by_cases hn : n < 0
  · obtain ⟨u, rfl⟩ : ∃ u : Nat, n = -(u : Int) := ⟨n.natAbs, by omega⟩
    rw [Lib.itoa_neg u (by omega)]
    by_cases hm : u = 9223372036854775808
    · rw [show -(u : Int) = -9223372036854775808 by omega]; exact digits_min w u hm
    · exact digits_neg u w (by omega) (by omega)
  · obtain ⟨u, rfl⟩ : ∃ u : Nat, n = (u : Int) := ⟨n.toNat, by omega⟩
    rw [Lib.itoa_nonneg]
    exact digits_nat u w (by omega)
theorem strU_num (z : Int) : strU (Lib.itoa z) = numT z := by
  unfold strU strOfNums numT
  apply ByteArray.ext
  simp only [List.map_map]
  congr 1
  exact (List.map_congr_left (fun b _ => by simp)).trans (List.map_id _)
theorem digits_num (n : Int) (w : World) (h0 : -9223372036854775808 ≤ n) (h1 : n ≤ 9223372036854775807) : Calls Tryd.prog 40 #[.int .i64 n] w fun e w' => e = .returned (.string (numT n)) ∧ Below w.heap.size w w' := by
  rw [← strU_num]; exact digits_any n w h0 h1
end Go.Proofs.YtclilpabdcdeoaaDoor
