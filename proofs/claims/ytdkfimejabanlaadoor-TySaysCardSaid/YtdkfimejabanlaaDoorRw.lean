import Derived.Test.YtdkfimejabanlaaDoorRv
import Derived.Test.YtdkfimejabanlaaDoorSa
import Derived.Laws.Concat
namespace Go.Proofs.YtdkfimejabanlaaDoor
open DR
open Go.ChangeShapes Go.WideShapes Go.ChangeAt Go.RowKit Go.WideMaps
set_option linter.unusedVariables false
set_option linter.unusedSimpArgs false
theorem add_str {a b c : ByteArray} (h : a ++ b = c) (ha : a.size ≤ 10000000) (hb : b.size ≤ 10000000) : ∀ W, (Op.stringOp .add a b).run Tryd.prog W = .ok (.string c) W := fun W => by
  rw [run_string_add_sum W a b (by omega), h]
theorem conv_one (w : World) (P : Int) (b : UInt8) (h : (b.toNat : Int) = P) : (convert 67 9 (.slice (some ⟨w.heap.size, 0, none⟩) 1 1)).run Tryd.prog (w.alloc (.cells #[.int .u8 P] 5)) = .ok (.string ⟨#[b]⟩) (w.alloc (.cells #[.int .u8 P] 5)) :=
  run_convert_bytes_back _ 67 9 5 ⟨w.heap.size, 0, none⟩ 1 [b] Tryd.underlying67 Tryd.underlying5 Tryd.underlying9 (fun j hj => by
    match j, hj with
    | 0, _ => show World.cell? _ ⟨w.heap.size, 0, none⟩ = _; unfold World.cell?; rw [heap_alloc_new w (.cells #[.int .u8 P] 5)]; show some (Value.int .u8 P) = some (.int .u8 (b.toNat : Int)); rw [h])
set_option maxRecDepth 100000 in
set_option maxHeartbeats 2000000 in
theorem rdig_one {w : World} (n : Nat) (h : n < 10) : Calls Tryd.prog 58 #[.int .i64 n] w fun e w' => e = .returned (.string ⟨#[UInt8.ofNat (48 + n)]⟩) ∧ Below w.heap.size w w' := by
  obtain ⟨P, hP⟩ : ∃ P : Nat, (48 : Int) + (n : Int) = P := ⟨48 + n, by omega⟩
  have d1 := decide_eq_false (show ¬ (n : Int) < 0 by omega)
  have d2 := decide_eq_true (show (n : Int) < 10 by omega)
  have d3 := decide_eq_true h
  have cv := conv_one w P (UInt8.ofNat (48 + n)) (by rw [UInt8.toNat_ofNat']; omega)
  have hP5 : P ≤ 57 := by omega
  obtain ⟨s, hs⟩ : ∃ s : ByteArray, s = ⟨#[UInt8.ofNat (48 + n)]⟩ := ⟨_, rfl⟩
  rw [← hs] at cv ⊢
  clear h hs
  go_enter Tryd.func58, Tryd.ntmps58
  go_wp2
  go_ret
  exact ⟨rfl, below_alloc _ _⟩
set_option maxRecDepth 100000 in
set_option maxHeartbeats 2000000 in
theorem rdig_small {w : World} (u : Nat) (hu : u < 100) : Calls Tryd.prog 58 #[.int .i64 u] w fun e w' => e = .returned (.string ⟨(Lib.decDigits u).toArray⟩) ∧ Below w.heap.size w w' := by
  by_cases h : u < 10
  · rw [Lib.decDigits_one h]; exact rdig_one u h
  · have d1 := decide_eq_false (show ¬ (u : Int) < 0 by omega)
    have d2 := decide_eq_false (show ¬ (u : Int) < 10 by omega)
    have d3 := decide_eq_false h
    have CAT : Hid ((⟨#[UInt8.ofNat (48 + u / 10)]⟩ : ByteArray) ++ ⟨#[UInt8.ofNat (48 + u % 10)]⟩ = ⟨(Lib.decDigits u).toArray⟩) := Lib.hid (by
      rw [Lib.decDigits_two (by omega) hu]; apply ByteArray.ext; rw [ByteArray.data_append]; rfl)
    have C1 : Hid (∀ W, Calls Tryd.prog 58 #[.int .i64 ((u : Int) / 10)] W fun e w' => e = .returned (.string ⟨#[UInt8.ofNat (48 + u / 10)]⟩) ∧ Below W.heap.size W w') := Lib.hid (fun W => by rw [show (u : Int) / 10 = ((u / 10 : Nat) : Int) by omega]; exact rdig_one (u / 10) (by omega))
    have C2 : Hid (∀ W, Calls Tryd.prog 58 #[.int .i64 ((u : Int) % 10)] W fun e w' => e = .returned (.string ⟨#[UInt8.ofNat (48 + u % 10)]⟩) ∧ Below W.heap.size W w') := Lib.hid (fun W => by rw [show (u : Int) % 10 = ((u % 10 : Nat) : Int) by omega]; exact rdig_one (u % 10) (by omega))
    obtain ⟨s1, hs1⟩ : ∃ s : ByteArray, s = ⟨#[UInt8.ofNat (48 + u / 10)]⟩ := ⟨_, rfl⟩
    obtain ⟨s2, hs2⟩ : ∃ s : ByteArray, s = ⟨#[UInt8.ofNat (48 + u % 10)]⟩ := ⟨_, rfl⟩
    obtain ⟨s3, hs3⟩ : ∃ s : ByteArray, s = ⟨(Lib.decDigits u).toArray⟩ := ⟨_, rfl⟩
    rw [← hs1] at C1 CAT; rw [← hs2] at C2 CAT; rw [← hs3] at CAT ⊢
    have ad := add_str CAT.out (by rw [hs1]; show 1 ≤ _; omega) (by rw [hs2]; show 1 ≤ _; omega)
    clear hs1 hs2 hs3 h
    go_enter Tryd.func58, Tryd.ntmps58
    go_wp2_with fail
    refine (C1.out _).mono ?_; rintro e w1 ⟨rfl, hb1⟩
    have B1 := Lib.hid hb1; clear hb1
    go_wp2_with fail
    refine (C2.out _).mono ?_; rintro e w2 ⟨rfl, hb2⟩
    have B2 := Lib.hid (bt B1.out hb2); clear hb2
    go_wp2
    go_ret
    exact ⟨rfl, B2.out⟩
/-- the letter, put together otherwise. -/
theorem letT_cat (i : Nat) (h : i < 26) : (⟨#[39]⟩ : ByteArray) ++ ⟨#[UInt8.ofNat (97 + i)]⟩ = letT (i + 1) := by
  unfold letT
  rw [if_pos (by omega), show 96 + (i + 1) = 97 + i by omega]
  apply ByteArray.ext; rw [ByteArray.data_append]; rfl
theorem letT_dig (i : Nat) (h : ¬ i < 26) : (⟨#[39]⟩ : ByteArray) ++ ⟨(Lib.decDigits (i + 1)).toArray⟩ = letT (i + 1) := by
  unfold letT
  rw [if_neg (by omega)]
end Go.Proofs.YtdkfimejabanlaaDoor
