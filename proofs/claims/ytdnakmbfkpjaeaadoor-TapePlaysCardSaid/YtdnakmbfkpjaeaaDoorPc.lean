import Derived.Test.YtdnakmbfkpjaeaaDoorDigits
import Derived.Test.YtdnakmbfkpjaeaaDoorAgain
namespace Go.Proofs.YtdnakmbfkpjaeaaDoor
open Go.ChangeShapes Go.WideShapes Go.ChangeAt Go.RowKit
set_option linter.unusedVariables false
set_option maxRecDepth 100000 in
set_option maxHeartbeats 2000000 in
theorem new_long {w : World} {A : Option Addr} {n c : Nat} (hl : 200 < n) :
    Calls Tryd.prog 6 #[.slice A n c] w fun e w' => e = .returned (.tuple #[.pointer none, .int .i64 1]) ∧ Below w.heap.size w w' := by
  have hn' : (200 : Int) < (n : Int) := by omega
  go_enter Tryd.func6, Tryd.ntmps6
  go_wp2
  go_returns
  exact ⟨rfl, Below.refl _ _⟩
set_option maxRecDepth 100000 in
set_option maxHeartbeats 2000000 in
theorem back_bad {w : World} {B g : Nat} {iv ov : Value} {inp out : List Int} {rd : Nat} {r p : Int} (t : Tp w B g iv ov inp out rd) (hb : ¬ (0 ≤ r ∧ r ≤ (rd : Int) ∧ 0 ≤ p ∧ p ≤ (out.length : Int))) :
    Calls Tryd.prog 9 #[.pointer (some ⟨g, 0, none⟩), .int .i64 r, .int .i64 p] w fun e w' => e = .returned (.int .i64 1) ∧ Below w.heap.size w w' := by
  have c1 := t.obj.c1; have c2 := t.obj.c2
  obtain ⟨A, c, rfl⟩ := iform t.rout
  obtain ⟨n, hn⟩ : ∃ n, n = out.length := ⟨_, rfl⟩
  rw [← hn] at c1 hb
  clear t hn
  by_cases h1 : r < 0
  · have d1 := decide_eq_true h1
    clear hb h1
    go_enter Tryd.func9, Tryd.ntmps9
    go_wp2
    go_ret
    exact ⟨rfl, Below.refl _ _⟩
  have d1 := decide_eq_false h1
  by_cases h2 : (rd : Int) < r
  · have d2 := decide_eq_true h2
    clear hb h1 h2
    go_enter Tryd.func9, Tryd.ntmps9
    go_wp2
    go_ret
    exact ⟨rfl, Below.refl _ _⟩
  have d2 := decide_eq_false h2
  by_cases h3 : p < 0
  · have d3 := decide_eq_true h3
    clear hb h1 h2 h3
    go_enter Tryd.func9, Tryd.ntmps9
    go_wp2
    go_ret
    exact ⟨rfl, Below.refl _ _⟩
  have d3 := decide_eq_false h3
  have d4 := decide_eq_true (show (n : Int) < p by omega)
  clear hb h1 h2 h3
  go_enter Tryd.func9, Tryd.ntmps9
  go_wp2
  go_ret
  exact ⟨rfl, Below.refl _ _⟩
/-- a readable slice apart from the tape. -/
def Op_ (w : World) (g : Nat) (iv ov : Value) (A : Option Addr) (n c : Nat) (xs : List Int) : Prop := xs.length = n ∧ n ≤ c ∧ (A = none → c = 0) ∧ (0 < n → ∃ h, A = some ⟨h, 0, none⟩ ∧ h < w.heap.size ∧ h ≠ g ∧ iv.ownBlock ≠ some h ∧ ov.ownBlock ≠ some h ∧ ∀ j, j < n → w.cell? ⟨h, j, none⟩ = some (.int .i64 (xs.getD j 0))) ∧ (∀ a, A = some a → ∃ h, a = ⟨h, 0, none⟩)
theorem Op_.nil (w : World) (g : Nat) (iv ov : Value) : Op_ w g iv ov none 0 0 [] := ⟨rfl, Nat.le_refl _, fun _ => rfl, fun h => absurd h (by omega), fun a e => by cases e⟩
theorem Op_.frm {w w' : World} {g : Nat} {iv ov ov' : Value} {A : Option Addr} {n c : Nat} {xs : List Int} {R : Nat → Prop} (s : Op_ w g iv ov A n c xs) (f : Frm w w' R) (hR : ∀ k, R k → k = g ∨ ov.ownBlock = some k) (hn : ∀ k, ov'.ownBlock = some k → ov.ownBlock = some k ∨ w.heap.size ≤ k) : Op_ w' g iv ov' A n c xs :=
  ⟨s.1, s.2.1, s.2.2.1, fun h => by
    obtain ⟨b, e, hlt, h1, h2, h3, hc⟩ := s.2.2.2.1 h
    refine ⟨b, e, Nat.lt_of_lt_of_le hlt f.size, h1, h2, fun e => ?_, fun j hj => ?_⟩
    · rcases hn b e with q | q
      · exact h3 q
      · omega
    · have : w'.heap[b]? = w.heap[b]? := f.block b hlt (fun r => by rcases hR b r with q | q; exact h1 q; exact h3 q)
      rw [World.cell?_of_block (a := ⟨b, j, none⟩) this]; exact hc j hj, s.2.2.2.2⟩
theorem Op_.below {w w' : World} {g : Nat} {iv ov : Value} {A : Option Addr} {n c : Nat} {xs : List Int} (s : Op_ w g iv ov A n c xs) (hb : Below w.heap.size w w') : Op_ w' g iv ov A n c xs :=
  s.frm (R := fun _ => False) (Frm.of_below hb (Nat.le_refl _) _) (fun _ h => h.elim) (fun k h => .inl h)
theorem Op_.cut {w : World} {g p : Nat} {iv ov : Value} {A : Option Addr} {n c : Nat} {xs : List Int} (s : Op_ w g iv ov A n c xs) (hp : p ≤ n) (hA : A = none → p = 0) : Op_ w g iv ov A p p (xs.take p) := by
  refine ⟨by rw [List.length_take, s.1]; omega, Nat.le_refl _, hA, fun h => ?_, s.2.2.2.2⟩
  obtain ⟨b, e, hlt, h1, h2, h3, hc⟩ := s.2.2.2.1 (by omega)
  exact ⟨b, e, hlt, h1, h2, h3, fun j hj => by rw [hc j (by omega)]; simp [List.getD, hj]⟩
end Go.Proofs.YtdnakmbfkpjaeaaDoor
