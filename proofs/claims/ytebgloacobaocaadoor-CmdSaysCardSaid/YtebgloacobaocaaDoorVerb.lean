import Derived.Test.YtebgloacobaocaaDoorBase
namespace Go.Proofs.YtebgloacobaocaaDoor
open Go.ChangeShapes Go.WideShapes Go.ChangeAt Go.RowKit Go.Shelf Go.Lib CharsMath
set_option linter.unusedVariables false
theorem below_alloc (w : World) (o : Obj) : Below w.heap.size w (w.alloc o) := (Below.refl _ _).alloc (Nat.le_refl _) _
theorem bt {w a b : World} (h : Below w.heap.size w a) (k : Below a.heap.size a b) : Below w.heap.size w b := h.trans (k.mono h.size)
theorem below_drewN (w : World) (n : Nat) : Below w.heap.size w (w.drewN n) := ⟨rfl, rfl, rfl, Nat.le_refl _, fun _ _ => rfl⟩
def verbs : List ByteArray := [⟨#[]⟩, ⟨#[98, 114, 101, 97, 107]⟩, ⟨#[100, 101, 108, 101, 116, 101]⟩, ⟨#[115, 116, 101, 112]⟩, ⟨#[110, 101, 120, 116]⟩, ⟨#[102, 105, 110, 105, 115, 104]⟩, ⟨#[99, 111, 110, 116, 105, 110, 117, 101]⟩, ⟨#[98, 97, 99, 107]⟩, ⟨#[114, 110, 101, 120, 116]⟩, ⟨#[114, 99, 111, 110, 116, 105, 110, 117, 101]⟩, ⟨#[103, 111, 116, 111]⟩, ⟨#[119, 104, 101, 114, 101]⟩, ⟨#[108, 111, 99, 97, 108, 115]⟩, ⟨#[112, 114, 105, 110, 116]⟩, ⟨#[98, 97, 99, 107, 116, 114, 97, 99, 101]⟩, ⟨#[111, 117, 116]⟩, ⟨#[119, 97, 116, 99, 104]⟩, ⟨#[117, 110, 119, 97, 116, 99, 104]⟩]
def verbV (k : Int) : ByteArray := if k < 0 then ⟨#[]⟩ else verbs.getD k.toNat ⟨#[]⟩
set_option maxRecDepth 100000 in
set_option maxHeartbeats 4000000 in
theorem verb_any (k : Int) (w : World) : Calls Tryd.prog 14 #[.int .i64 k] w fun e w' => e = .returned (.string (verbV k)) ∧ Below w.heap.size w w' := by
  by_cases h0 : k < 0
  · have d := decide_eq_true h0
    rw [show verbV k = ⟨#[]⟩ from if_pos h0]
    go_enter Tryd.func14, Tryd.ntmps14
    go_wp2
    go_ret
    exact ⟨rfl, below_alloc _ _⟩
  by_cases h1 : 18 ≤ k
  · have d := decide_eq_false h0
    have d2 := decide_eq_true h1
    have h2 : (0 : Int) ≤ k := by omega
    rw [show verbV k = ⟨#[]⟩ from by unfold verbV; rw [if_neg h0, List.getD, List.getElem?_eq_none (by show 18 ≤ k.toNat; omega)]; rfl]
    go_enter Tryd.func14, Tryd.ntmps14
    go_wp2
    go_ret
    exact ⟨rfl, below_alloc _ _⟩
  have hk : k = 0 ∨ k = 1 ∨ k = 2 ∨ k = 3 ∨ k = 4 ∨ k = 5 ∨ k = 6 ∨ k = 7 ∨ k = 8 ∨ k = 9 ∨ k = 10 ∨ k = 11 ∨ k = 12 ∨ k = 13 ∨ k = 14 ∨ k = 15 ∨ k = 16 ∨ k = 17 := by omega
  clear h0 h1
  rcases hk with rfl | rfl | rfl | rfl | rfl | rfl | rfl | rfl | rfl | rfl | rfl | rfl | rfl | rfl | rfl | rfl | rfl | rfl
  all_goals (
    go_enter Tryd.func14, Tryd.ntmps14
    go_wp2
    go_ret
    exact ⟨rfl, below_alloc _ _⟩)
end Go.Proofs.YtebgloacobaocaaDoor
