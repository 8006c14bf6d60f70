import Derived.Test.YtclilpabdcdeoaaDoorCe
namespace Go.Proofs.YtclilpabdcdeoaaDoor
open Go.ChangeShapes Go.WideShapes Go.ChangeAt Go.RowKit
set_option linter.unusedVariables false
def tyK (k : Int) (nm : ByteArray) : Value := .agg #[.int .i64 k, .string nm, .int .i64 0, .slice none 0 0]
def isT (s : ByteArray) (l : List UInt8) : Bool := s.toList == l
def tyOf (s : ByteArray) : Value :=
  if isT s [105, 110, 116] = true then tyK 1 .empty else if isT s [98, 111, 111, 108] = true then tyK 2 .empty else if isT s [117, 110, 105, 116] = true then tyK 3 .empty else tyK 4 s
set_option maxRecDepth 100000 in
set_option maxHeartbeats 2000000 in
theorem named_any (s : ByteArray) (w : World) : Calls Tryd.prog 45 #[.string s] w fun e w' => e = .returned (tyOf s) ∧ Below w.heap.size w w' := by
  unfold tyOf
  by_cases h1 : isT s [105, 110, 116] = true
  · rw [if_pos h1]
    have d1 : (s.toList == [105, 110, 116]) = true := h1
    unfold tyK
    go_enter Tryd.func45, Tryd.ntmps45
    go_wp2
    go_returns
    exact ⟨rfl, (Below.refl _ _).alloc (Nat.le_refl _) _⟩
  rw [if_neg h1]
  have d1 : (s.toList == [105, 110, 116]) = false := by unfold isT at h1; simpa using h1
  by_cases h2 : isT s [98, 111, 111, 108] = true
  · rw [if_pos h2]
    have d2 : (s.toList == [98, 111, 111, 108]) = true := h2
    unfold tyK
    go_enter Tryd.func45, Tryd.ntmps45
    go_wp2
    go_returns
    exact ⟨rfl, (Below.refl _ _).alloc (Nat.le_refl _) _⟩
  rw [if_neg h2]
  have d2 : (s.toList == [98, 111, 111, 108]) = false := by unfold isT at h2; simpa using h2
  by_cases h3 : isT s [117, 110, 105, 116] = true
  · rw [if_pos h3]
    have d3 : (s.toList == [117, 110, 105, 116]) = true := h3
    unfold tyK
    go_enter Tryd.func45, Tryd.ntmps45
    go_wp2
    go_returns
    exact ⟨rfl, (Below.refl _ _).alloc (Nat.le_refl _) _⟩
  rw [if_neg h3]
  have d3 : (s.toList == [117, 110, 105, 116]) = false := by unfold isT at h3; simpa using h3
  unfold tyK
  go_enter Tryd.func45, Tryd.ntmps45
  go_wp2
  go_returns
  exact ⟨rfl, (Below.refl _ _).alloc (Nat.le_refl _) _⟩
set_option maxRecDepth 100000 in
set_option maxHeartbeats 4000000 in
theorem value_dots {w0 w : World} {R vb vo : Nat} {cs ks : Value} {s nm : ByteArray} {tk wi vr : Int} {A : Option Addr} {n c : Nat} (h : RS w0 w R cs ks s) (hs : s.size ≤ 900000) (hw : 50 ≤ wi) :
    Calls Tryd.prog 31 #[.pointer (some ⟨R, 0, none⟩), .pointer (some ⟨vb, vo, none⟩), .agg #[.int .i64 tk, .string nm, .int .i64 vr, .slice A n c], .int .i64 wi] w fun e w' => e = .returned (.tuple #[]) ∧ Hid (RS w0 w' R cs ks (s ++ dotsT)) ∧ Hid (Kp R w w') := by
  have TX : Hid (∀ O, Calls Tryd.prog 35 #[.pointer (some ⟨R, 0, none⟩), .string ⟨#[46, 46]⟩] (w.alloc O) fun e w' => e = .returned (.tuple #[]) ∧ Hid (RS w0 w' R cs ks (s ++ dotsT)) ∧ Hid (Kp R w w')) := Lib.hid (fun O =>
    (text_any dotsT (h.alloc O) (by have : dotsT.size = 2 := rfl; omega)).mono (by
      rintro e w' ⟨rfl, a, b⟩
      exact ⟨rfl, a, Lib.hid ((kp_alloc R w O).trans b.out)⟩))
  clear h hs
  have dw : decide (50 ≤ wi) = true := decide_eq_true hw
  go_enter Tryd.func31, Tryd.ntmps31
  go_wp2_with fail
  refine (TX.out _).mono ?_; rintro e w1 ⟨rfl, H1, K1⟩
  clear TX
  go_wp2
  first | go_end0 | (simp only [Exit.inBlock, Exit.then]; refine bodyPost_ret (results_none rfl _ _ _) rfl ?_) | refine bodyPost_ret (results_none rfl _ _ _) rfl ?_
  exact ⟨rfl, H1, K1⟩
end Go.Proofs.YtclilpabdcdeoaaDoor
