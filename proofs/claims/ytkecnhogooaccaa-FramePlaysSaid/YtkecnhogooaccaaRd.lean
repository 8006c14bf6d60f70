import Derived.Test.YtkecnhogooaccaaRc
namespace Go.Proofs.Ytkecnhogooaccaa
open Go.ChangeShapes Go.WideShapes Go.ChangeAt Go.RowKit
set_option linter.unusedVariables false
set_option maxRecDepth 100000 in
set_option maxHeartbeats 4000000 in
theorem rcut_bad {w : World} {B g room : Nat} {fv : Value} {fl : List RX} (d k : Int) (t : RS w B g room fv fl) (h : d < 0 ∨ (0 ≤ d ∧ (fl.length : Int) < d) ∨ (0 ≤ d ∧ d ≤ fl.length ∧ k < 0) ∨ (d = 0 ∧ 0 < k)) :
    Calls Try.prog 27 #[.pointer (some ⟨g, 0, none⟩), .int .i64 d, .int .i64 k] w fun e w' => e = .returned (.int .i64 1) ∧ Below w.heap.size w w' := by
  have c1 := t.c1
  have hlen := t.len.1
  obtain ⟨A, c, rfl, _, _⟩ := t.shape
  obtain ⟨N, hN⟩ : ∃ N, N = fl.length := ⟨_, rfl⟩
  rw [← hN] at c1 h hlen
  clear t hN
  rcases h with h | ⟨h1, h2⟩ | ⟨h1, h2, h3⟩ | ⟨rfl, h1⟩
  · have d0 := decide_eq_true h
    clear h
    go_enter Try.func27, Try.ntmps27
    go_wp2
    go_ret
    exact ⟨rfl, Below.refl _ _⟩
  · have d0 := decide_eq_false (show ¬ d < 0 by omega)
    have d1 := decide_eq_true h2
    clear h1 h2
    go_enter Try.func27, Try.ntmps27
    go_wp2
    go_ret
    exact ⟨rfl, Below.refl _ _⟩
  · have d0 := decide_eq_false (show ¬ d < 0 by omega)
    have d1 := decide_eq_false (show ¬ (N : Int) < d by omega)
    have d2 := decide_eq_true h3
    clear h1 h2 h3
    go_enter Try.func27, Try.ntmps27
    go_wp2
    go_ret
    exact ⟨rfl, Below.refl _ _⟩
  · have d1 := decide_eq_false (show ¬ (N : Int) < 0 by omega)
    have d2 := decide_eq_false (show ¬ k < 0 by omega)
    have d3 := decide_eq_true h1
    clear h1
    go_enter Try.func27, Try.ntmps27
    go_wp2
    go_ret
    exact ⟨rfl, Below.refl _ _⟩
set_option maxRecDepth 100000 in
set_option maxHeartbeats 4000000 in
theorem rcut_zero {w : World} {B g room : Nat} {fv : Value} {fl : List RX} (t : RS w B g room fv fl) :
    Calls Try.prog 27 #[.pointer (some ⟨g, 0, none⟩), .int .i64 0, .int .i64 0] w fun e w' => ∃ fv', e = .returned (.int .i64 0) ∧ Hid (RS w' B g room fv' []) ∧ Hid (Frm w w' (· = g)) ∧ Hid (∀ k, Own g fv' [] k → Own g fv fl k) := by
  have c1 := t.c1
  have f1 := t.fz1 1
  have hlen := t.len.1
  obtain ⟨A, c, rfl, hc, hA⟩ := t.shape
  have KEY : Hid (RS (w.setCell ⟨g, 1, none⟩ (.slice A 0 0)) B g room (.slice A 0 0) [] ∧ Frm w (w.setCell ⟨g, 1, none⟩ (.slice A 0 0)) (· = g) ∧ (∀ k, Own g (.slice A 0 0) [] k → Own g (.slice A fl.length c) fl k)) := Lib.hid (by
    have hf : Frm w (w.setCell ⟨g, 1, none⟩ (.slice A 0 0)) (· = g) := frm_set (R := (· = g)) 1 _ rfl
    have h := RS.pre (n := 0) (q := 0) (a := []) (b := fl) t rfl (Nat.le_refl _) (fun _ => rfl) hf (obj_set1 _ t.obj)
    exact ⟨h.1, hf, h.2⟩)
  obtain ⟨N, hN⟩ : ∃ N, N = fl.length := ⟨_, rfl⟩
  rw [← hN] at c1 hc hlen
  have d1 := decide_eq_false (show ¬ (N : Int) < 0 by omega)
  have hA' : (A = none ∧ N = 0 ∧ c = 0) ∨ ∃ ad, A = some ad := by
    cases A with
    | none => left; exact ⟨rfl, by have := hA rfl; omega, hA rfl⟩
    | some ad => right; exact ⟨ad, rfl⟩
  have hci : (0 : Int) ≤ (c : Int) := Int.natCast_nonneg _
  clear t hN hA
  rcases hA' with ⟨rfl, rfl, rfl⟩ | ⟨ad, rfl⟩
  · go_enter Try.func27, Try.ntmps27
    go_wp2
    go_ret
    exact ⟨_, rfl, Lib.hid KEY.out.1, Lib.hid KEY.out.2.1, Lib.hid KEY.out.2.2⟩
  · go_enter Try.func27, Try.ntmps27
    go_wp2
    go_ret
    exact ⟨_, rfl, Lib.hid KEY.out.1, Lib.hid KEY.out.2.1, Lib.hid KEY.out.2.2⟩
set_option maxRecDepth 100000 in
set_option maxHeartbeats 4000000 in
theorem rcut_many {w : World} {B g room : Nat} {fv : Value} {a b : List RX} {x : RX} (k : Int) (hk : (x.f.added.length : Int) < k) (t : RS w B g room fv (a ++ x :: b)) :
    Calls Try.prog 27 #[.pointer (some ⟨g, 0, none⟩), .int .i64 ((a.length + 1 : Nat) : Int), .int .i64 k] w fun e w' => e = .returned (.int .i64 1) ∧ Below w.heap.size w w' := by
  have c1 := t.c1
  have hlen := t.len.1
  obtain ⟨bf, c, rfl, hc, hcell, hfz⟩ := t.at
  obtain ⟨y0, y1, y2, y3⟩ := hcell w (Below.refl _ _)
  obtain ⟨_, ⟨A2, c2, e2, hc2, _⟩, hsm⟩ := RX.rows t
  rw [e2] at y3
  obtain ⟨n, hn⟩ : ∃ n, n = a.length := ⟨_, rfl⟩
  obtain ⟨N, hN⟩ : ∃ N, N = (a ++ x :: b).length := ⟨_, rfl⟩
  have hl : n + 1 ≤ N := by rw [hN, hn]; simp
  rw [← hN] at c1 hlen
  rw [← hn] at y3 ⊢
  obtain ⟨d, hd⟩ : ∃ d : Nat, d = n + 1 := ⟨_, rfl⟩
  rw [← hd]
  have hd1 : (d : Int) - 1 = (n : Int) := by omega
  obtain ⟨m, hm⟩ : ∃ m, m = x.f.added.length := ⟨_, rfl⟩
  rw [← hm] at y3 hk
  have g1 := decide_eq_false (show ¬ (d : Int) < 0 by omega)
  have g2 := decide_eq_false (show ¬ (N : Int) < (d : Int) by omega)
  have g2' := decide_eq_false (show ¬ N < d by omega)
  have g3 := decide_eq_false (show ¬ k < 0 by omega)
  have g4 : ((d : Int) == 0) = false := beq_eq_false_iff_ne.2 (by omega)
  have g4' : (d == 0) = false := beq_eq_false_iff_ne.2 (by omega)
  have g5 := decide_eq_true (show (0 : Int) < (d : Int) by omega)
  have g5' := decide_eq_true (show 0 < d by omega)
  have g6 := decide_eq_true hk
  have hn9 : n ≤ 4096 := by omega
  have hd9 : d ≤ 4097 := by omega
  have hnN : (n : Int) < (N : Int) := by omega
  clear t hcell hN hn hl e2 hc hfz y0 y1 y2 hd hm
  go_enter Try.func27, Try.ntmps27
  go_wp2
  go_ret
  exact ⟨rfl, Below.refl _ _⟩
end Go.Proofs.Ytkecnhogooaccaa
