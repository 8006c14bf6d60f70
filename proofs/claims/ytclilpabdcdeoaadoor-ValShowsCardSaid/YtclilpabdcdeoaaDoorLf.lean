import Derived.Test.YtclilpabdcdeoaaDoorRd
import Derived.BigQuiet
namespace Go.Proofs.YtclilpabdcdeoaaDoor
open Go.ChangeShapes Go.WideShapes Go.ChangeAt Go.RowKit
set_option linter.unusedVariables false
def polyT : ByteArray := ⟨#[60, 112, 111, 108, 121, 62]⟩
def markT : ByteArray := ⟨#[63]⟩
def unitT : ByteArray := ⟨#[40, 41]⟩
def funT : ByteArray := ⟨#[60, 102, 117, 110, 62]⟩
def dotsT : ByteArray := ⟨#[46, 46]⟩
/-- what is shown without a look at what the value holds. -/
def leafV (tk vk : Int) : Option ByteArray :=
  if tk = 7 then some polyT else if tk = vk then (if vk = 3 then some unitT else if vk = 5 then some funT else if vk = 1 ∨ vk = 2 ∨ vk = 4 ∨ vk = 6 then none else some markT) else some markT
theorem leaf_small {tk vk : Int} {x : ByteArray} (h : leafV tk vk = some x) : x.size ≤ 6 := by
  unfold leafV at h
  repeat' split at h
  all_goals first | (injection h with h; subst h; decide) | cases h
set_option maxRecDepth 100000 in
set_option maxHeartbeats 4000000 in
theorem value_leaf {w0 w : World} {R vb vo : Nat} {cs ks : Value} {s nm x : ByteArray} {tk vk wi vr : Int} {A : Option Addr} {n c : Nat} (h : RS w0 w R cs ks s) (hs : s.size ≤ 900000)
    (hv : ∀ O, (w.alloc O).cell? ⟨vb, vo, none⟩ = some (.int .i64 vk)) (hw : wi < 50) (hx : leafV tk vk = some x) :
    Calls Tryd.prog 31 #[.pointer (some ⟨R, 0, none⟩), .pointer (some ⟨vb, vo, none⟩), .agg #[.int .i64 tk, .string nm, .int .i64 vr, .slice A n c], .int .i64 wi] w fun e w' => e = .returned (.tuple #[]) ∧ Hid (RS w0 w' R cs ks (s ++ x)) ∧ Hid (Kp R w w') := by
  have hsm := leaf_small hx
  have TX : Hid (∀ O q, Calls Tryd.prog 35 #[.pointer (some ⟨R, 0, none⟩), .string x] ((w.alloc O).drewN q) fun e w' => e = .returned (.tuple #[]) ∧ Hid (RS w0 w' R cs ks (s ++ x)) ∧ Hid (Kp R w w')) := Lib.hid (fun O q =>
    (text_any x ((h.alloc O).drewN q) (by omega)).mono (by
      rintro e w' ⟨rfl, a, b⟩
      exact ⟨rfl, a, Lib.hid ((kp_alloc R w O).trans b.out)⟩))
  clear h hsm hs
  have dw : decide (50 ≤ wi) = false := decide_eq_false (by omega)
  unfold leafV at hx
  by_cases h7 : tk = 7
  · rw [if_pos h7] at hx; injection hx with hx; subst hx h7
    unfold polyT at TX ⊢
    go_enter Tryd.func31, Tryd.ntmps31
    go_wp2_with fail
    refine (TX.out _ 0).mono ?_; rintro e w1 ⟨rfl, H1, K1⟩
    clear TX
    go_wp2
    first | go_end0 | (simp only [Exit.inBlock, Exit.then]; refine bodyPost_ret (results_none rfl _ _ _) rfl ?_) | refine bodyPost_ret (results_none rfl _ _ _) rfl ?_
    exact ⟨rfl, H1, K1⟩
  rw [if_neg h7] at hx
  have d7 : (tk == 7) = false := beq_eq_false_iff_ne.2 h7
  by_cases he : tk = vk
  · subst he
    rw [if_pos rfl] at hx
    by_cases h3 : tk = 3
    · rw [if_pos h3] at hx; injection hx with hx; subst hx h3
      unfold unitT at TX ⊢
      go_enter Tryd.func31, Tryd.ntmps31
      go_wp2
      go_quiet (fail)
      go_wp2_with fail
      refine (TX.out _ _).mono ?_; rintro e w1 ⟨rfl, H1, K1⟩
      clear TX
      go_wp2
      first | go_end0 | (simp only [Exit.inBlock, Exit.then]; refine bodyPost_ret (results_none rfl _ _ _) rfl ?_) | refine bodyPost_ret (results_none rfl _ _ _) rfl ?_
      exact ⟨rfl, H1, K1⟩
    rw [if_neg h3] at hx
    by_cases h5 : tk = 5
    · rw [if_pos h5] at hx; injection hx with hx; subst hx h5
      unfold funT at TX ⊢
      go_enter Tryd.func31, Tryd.ntmps31
      go_wp2
      go_quiet (fail)
      go_wp2_with fail
      refine (TX.out _ _).mono ?_; rintro e w1 ⟨rfl, H1, K1⟩
      clear TX
      go_wp2
      first | go_end0 | (simp only [Exit.inBlock, Exit.then]; refine bodyPost_ret (results_none rfl _ _ _) rfl ?_) | refine bodyPost_ret (results_none rfl _ _ _) rfl ?_
      exact ⟨rfl, H1, K1⟩
    rw [if_neg h5] at hx
    by_cases ho : tk = 1 ∨ tk = 2 ∨ tk = 4 ∨ tk = 6
    · rw [if_pos ho] at hx; cases hx
    rw [if_neg ho] at hx; injection hx with hx; subst hx
    have q1 : (tk == 1) = false := beq_eq_false_iff_ne.2 (by omega)
    have q2 : (tk == 2) = false := beq_eq_false_iff_ne.2 (by omega)
    have q3 : (tk == 3) = false := beq_eq_false_iff_ne.2 (by omega)
    have q4 : (tk == 4) = false := beq_eq_false_iff_ne.2 (by omega)
    have q5 : (tk == 5) = false := beq_eq_false_iff_ne.2 (by omega)
    have q6 : (tk == 6) = false := beq_eq_false_iff_ne.2 (by omega)
    clear h3 h5 ho h7
    unfold markT at TX ⊢
    go_enter Tryd.func31, Tryd.ntmps31
    go_wp2
    go_quiet (fail)
    go_wp2_with fail
    refine (TX.out _ _).mono ?_; rintro e w1 ⟨rfl, H1, K1⟩
    clear TX
    go_wp2
    first | go_end0 | (simp only [Exit.inBlock, Exit.then]; refine bodyPost_ret (results_none rfl _ _ _) rfl ?_) | refine bodyPost_ret (results_none rfl _ _ _) rfl ?_
    exact ⟨rfl, H1, K1⟩
  · rw [if_neg he] at hx; injection hx with hx; subst hx
    have de : (tk == vk) = false := beq_eq_false_iff_ne.2 he
    have de2 : (tk != vk) = true := by simp [bne, de]
    unfold markT at TX ⊢
    go_enter Tryd.func31, Tryd.ntmps31
    go_wp2
    go_quiet (fail)
    go_wp2_with fail
    refine (TX.out _ _).mono ?_; rintro e w1 ⟨rfl, H1, K1⟩
    clear TX
    go_wp2
    first | go_end0 | (simp only [Exit.inBlock, Exit.then]; refine bodyPost_ret (results_none rfl _ _ _) rfl ?_) | refine bodyPost_ret (results_none rfl _ _ _) rfl ?_
    exact ⟨rfl, H1, K1⟩
end Go.Proofs.YtclilpabdcdeoaaDoor
