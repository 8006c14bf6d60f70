import Derived.Test.YtdkfimejabanlaaDoorTc
namespace Go.Proofs.YtdkfimejabanlaaDoor
open Go.ChangeShapes Go.WideShapes Go.ChangeAt Go.RowKit
set_option linter.unusedVariables false
/-- how many arguments a kind has. -/
def arT (k : Int) : Int := if k = 5 then 2 else if k = 6 then 1 else 0
set_option maxRecDepth 100000 in
set_option maxHeartbeats 1000000 in
theorem arity_any (k : Int) (w : World) : Calls Tryd.prog 57 #[.int .i64 k] w fun e w' => e = .returned (.int .i64 (arT k)) ∧ w = w' := by
  unfold arT
  by_cases h5 : k = 5
  · rw [if_pos h5]
    have q5 : (k == 5) = true := by rw [h5]; rfl
    clear h5
    go_enter Tryd.func57, Tryd.ntmps57
    go_wp2
    go_ret
    exact ⟨rfl, rfl⟩
  rw [if_neg h5]
  have q5 : (k == 5) = false := beq_eq_false_iff_ne.2 h5
  by_cases h6 : k = 6
  · rw [if_pos h6]
    have q6 : (k == 6) = true := by rw [h6]; rfl
    clear h5 h6
    go_enter Tryd.func57, Tryd.ntmps57
    go_wp2
    go_ret
    exact ⟨rfl, rfl⟩
  · rw [if_neg h6]
    have q6 : (k == 6) = false := beq_eq_false_iff_ne.2 h6
    clear h5 h6
    go_enter Tryd.func57, Tryd.ntmps57
    go_wp2
    go_ret
    exact ⟨rfl, rfl⟩
def emptyB (s : ByteArray) : Bool := s.toList.isEmpty
/-- a node is as it may be. -/
def headOk (V : TT) : Bool := decide (1 ≤ V.k) && decide (V.k ≤ 7) && decide ((V.args.length : Int) = arT V.k) && ((!emptyB V.nm) == (V.k == 4)) && decide (0 ≤ V.vr) && decide (V.vr ≤ 1999) && (V.vr == 0 || V.k == 7)
mutual
def shp : TT → Bool
  | .mk k nm vr args => headOk (.mk k nm vr args) && shpL args
def shpL : List TT → Bool
  | [] => true
  | a :: l => shp a && shpL l
end
theorem shp_eq (V : TT) : shp V = (headOk V && shpL V.args) := by cases V; rw [shp]; rfl
theorem shpL_all : ∀ l : List TT, shpL l = true ↔ ∀ a ∈ l, shp a = true
  | [] => by simp [shpL]
  | a :: l => by rw [shpL, Bool.and_eq_true, shpL_all l]; simp
theorem box4 (w : World) (V : TT) (A : Option Addr) (c n : Nat) (t : TypeId) : (w.alloc (.cells #[.int .i64 V.k, .string V.nm, .int .i64 V.vr, .slice A n c] t)).heap[w.heap.size]? = some (.cells #[.int .i64 V.k, .string V.nm, .int .i64 V.vr, .slice A n c] t (0, 0)) := heap_alloc_new w _
theorem cell4 {w : World} {b n c : Nat} {V : TT} {A : Option Addr} {t : TypeId} {fr : Nat × Nat} (h : w.heap[b]? = some (.cells #[.int .i64 V.k, .string V.nm, .int .i64 V.vr, .slice A n c] t fr)) : w.cell? ⟨b, 0, none⟩ = some (.int .i64 V.k) ∧ w.cell? ⟨b, 1, none⟩ = some (.string V.nm) ∧ w.cell? ⟨b, 2, none⟩ = some (.int .i64 V.vr) ∧ w.cell? ⟨b, 3, none⟩ = some (.slice A n c) := by simp [World.cell?, h]
end Go.Proofs.YtdkfimejabanlaaDoor
