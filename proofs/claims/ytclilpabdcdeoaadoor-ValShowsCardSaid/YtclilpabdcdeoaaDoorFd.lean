import Derived.Test.YtclilpabdcdeoaaDoorNx
import Derived.Test.YtclilpabdcdeoaaDoorCp
import Derived.Test.YtclilpabdcdeoaaDoorFmath
import Derived.Deep.LoopGhost
namespace Go.Proofs.YtclilpabdcdeoaaDoor
open Go.ChangeShapes Go.WideShapes Go.ChangeAt Go.RowKit
set_option linter.unusedVariables false
/-- a binding's block. -/
def EnvO (x : ByteArray) (k : Int) (u : Option Addr) : Obj := .cells #[.string x, .int .i64 1, .int .i64 k, .string .empty, .slice none 0 0, .int .i64 0, .pointer none, .int .i64 0, .pointer u] 30 (0, 0)
/-- an environment that ends. -/
def ChainAt (w : World) : List Bd → Option Addr → Prop
  | [], q => q = none
  | (x, k) :: r, q => ∃ b u, q = some ⟨b, 0, none⟩ ∧ w.heap[b]? = some (EnvO x k u) ∧ (∀ b', u = some ⟨b', 0, none⟩ → b' < b) ∧ ChainAt w r u
theorem chain_below {B : Nat} {w w' : World} (h : Below B w w') : ∀ (c : List Bd) (q : Option Addr), w.heap.size ≤ B → ChainAt w c q → ChainAt w' c q := by
  intro c
  induction c with
  | nil => intro q _ h; exact h
  | cons x r ih =>
    obtain ⟨x, k⟩ := x
    intro q hB hc
    obtain ⟨b, u, e, hb, hu, hr⟩ := hc
    have hlt : b < w.heap.size := (Array.getElem?_eq_some_iff.1 hb).1
    exact ⟨b, u, e, (h.block b (by omega)).trans hb, hu, ih u hB hr⟩
section
variable {w : World} {b : Nat} {x : ByteArray} {k : Int} {u : Option Addr}
theorem env0 (h : w.heap[b]? = some (EnvO x k u)) : w.cell? ⟨b, 0, none⟩ = some (.string x) := by unfold EnvO at h; simp [World.cell?, h]
theorem env1 (h : w.heap[b]? = some (EnvO x k u)) : w.cell? ⟨b, 1, none⟩ = some (.int .i64 1) ∧ w.cell? ⟨b, 2, none⟩ = some (.int .i64 k) ∧ w.cell? ⟨b, 3, none⟩ = some (.string .empty) ∧ w.cell? ⟨b, 4, none⟩ = some (.slice none 0 0) ∧ w.cell? ⟨b, 5, none⟩ = some (.int .i64 0) ∧ w.cell? ⟨b, 6, none⟩ = some (.pointer none) ∧ w.cell? ⟨b, 7, none⟩ = some (.int .i64 0) := by unfold EnvO at h; simp [World.cell?, h]
theorem env8 (h : w.heap[b]? = some (EnvO x k u)) : w.cell? ⟨b, 8, none⟩ = some (.pointer u) := by unfold EnvO at h; simp [World.cell?, h]
end
/-- the walker on its way: at q, with n bindings before it. -/
def WkI (w wr : World) (g : Nat) (q : Option Addr) (n : Nat) : Prop := ∃ pm lf sp S, WkAt wr g q pm lf sp ∧ 1 ≤ lf ∧ lf ≤ S ∧ 1 ≤ sp ∧ sp ≤ S ∧ S * 2 ^ n ≤ 4194304 ∧ (∀ b', q = some ⟨b', 0, none⟩ → ∃ bm, pm = some ⟨bm, 0, none⟩ ∧ b' ≤ bm ∧ bm < w.heap.size ∧ IsCells w bm)
/-- a walk's round: from the binding to the one above it. -/
theorem wk_next {w wr : World} {g b : Nat} {x : ByteArray} {k : Int} {u : Option Addr} {r : List Bd} (hB : Below w.heap.size w wr) (hg : w.heap.size ≤ g) (hI : WkI w wr g (some ⟨b, 0, none⟩) (r.length + 1)) (hb : w.heap[b]? = some (EnvO x k u)) (hu : ∀ b', u = some ⟨b', 0, none⟩ → b' < b) (hr : ChainAt w r u) :
    Calls Tryd.prog 29 #[.pointer (some ⟨g, 0, none⟩)] wr fun e w' => e = .returned (.tuple #[]) ∧ Hid (Only g wr w') ∧ Hid (WkI w w' g u r.length) := by
  obtain ⟨pm, lf, sp, S, hw, h1, h2, h3, h4, h5, hm⟩ := hI
  obtain ⟨bm, rfl, hle, hlt, cm, tm, hcm⟩ := hm b rfl
  have hbl : b < w.heap.size := (Array.getElem?_eq_some_iff.1 hb).1
  have hp : (1 : Int) ≤ 2 ^ r.length := by
    have : (1 : Int) ≤ 2 ^ r.length := by exact_mod_cast Nat.one_le_two_pow
    exact this
  have e2 : S * 2 ^ (r.length + 1) = (2 * S) * 2 ^ r.length := by rw [Int.pow_succ]; rw [Int.mul_comm (2 ^ r.length) 2, ← Int.mul_assoc, Int.mul_comm S 2]
  have hS : S ≤ 4194304 := by
    have : 2 * S * 1 ≤ 2 * S * 2 ^ r.length := Int.mul_le_mul_of_nonneg_left hp (by omega)
    omega
  have hq : u = none ∨ ∃ b', u = some ⟨b', 0, none⟩ ∧ b' < bm ∧ b' ≠ g ∧ IsCells wr b' := by
    cases r with
    | nil => exact .inl hr
    | cons y r =>
      obtain ⟨y, j⟩ := y
      obtain ⟨b2, u2, rfl, hb2, hu2, hr2⟩ := hr
      have hl2 : b2 < w.heap.size := (Array.getElem?_eq_some_iff.1 hb2).1
      have := hu b2 rfl
      exact .inr ⟨b2, rfl, by omega, by omega, _, _, (hB.block b2 hl2).trans hb2⟩
  refine (next_any hw (env8 ((hB.block b hbl).trans hb)) hq (by omega) (by omega) ⟨cm, tm, (hB.block bm hlt).trans hcm⟩ h1 h2 h3 h4 hS).mono ?_
  rintro e w' ⟨rfl, ho, hn⟩
  refine ⟨rfl, ho, Lib.hid ?_⟩
  obtain ⟨pm', lf', sp', hw', k1, k2, k3, k4, k5⟩ := hn.out
  refine ⟨pm', lf', sp', 2 * S, hw', k1, k2, k3, k4, by rw [← e2]; exact h5, fun b' hb' => ?_⟩
  obtain ⟨bm', rfl, hle', hor⟩ := k5 b' hb'
  rcases hor with rfl | rfl
  · exact ⟨_, rfl, hle', hlt, cm, tm, hcm⟩
  · refine ⟨_, rfl, Nat.le_refl _, ?_⟩
    cases r with
    | nil => rw [show u = none from hr] at hb'; cases hb'
    | cons y r =>
      obtain ⟨y, j⟩ := y
      obtain ⟨b2, u2, e2, hb2, hu2, hr2⟩ := hr
      rw [e2] at hb'; injection hb' with hb'; injection hb' with hb'; subst hb'
      exact ⟨(Array.getElem?_eq_some_iff.1 hb2).1, _, _, hb2⟩
theorem res11 {tmps : Array Value} {W : World} {R : Nat} {a b c d e f g v : Value} (h4 : tmps.getD 4 undef = .pointer (some ⟨R, 0, none⟩)) (h5 : tmps.getD 5 undef = v) (hW : W.heap[R]? = some (.cells #[a, b, c, d, e, f, g] 26 (0, 0))) :
    (results Tryd.f11 tmps).run Tryd.prog W = .ok (.tuple #[.agg #[a, b, c, d, e, f, g], v]) W := by
  have c0 : W.cell? ⟨R, 0, none⟩ = some a := by simp [World.cell?, hW]
  have c1 : W.cell? ⟨R, 1, none⟩ = some b := by simp [World.cell?, hW]
  have c2 : W.cell? ⟨R, 2, none⟩ = some c := by simp [World.cell?, hW]
  have c3 : W.cell? ⟨R, 3, none⟩ = some d := by simp [World.cell?, hW]
  have c4 : W.cell? ⟨R, 4, none⟩ = some e := by simp [World.cell?, hW]
  have c5 : W.cell? ⟨R, 5, none⟩ = some f := by simp [World.cell?, hW]
  have c6 : W.cell? ⟨R, 6, none⟩ = some g := by simp [World.cell?, hW]
  simp only [Array.getD_eq_getD_getElem?] at h4 h5
  simp [results, Tryd.f11, go_sem, h4, h5, c0, c1, c2, c3, c4, c5, c6]
def optV : Option Int → Value
  | none => num 0 0
  | some k => num 1 k
/-- the result's block. -/
def ResO (a b : Value) : Obj := .cells #[a, b, .string .empty, .slice none 0 0, .int .i64 0, .pointer none, .int .i64 0] 26 (0, 0)
theorem resO_cells {w : World} {R : Nat} {a b : Value} (h : w.heap[R]? = some (ResO a b)) : w.cell? ⟨R, 0, none⟩ = some a ∧ w.cell? ⟨R, 1, none⟩ = some b ∧ w.cell? ⟨R, 2, none⟩ = some (.string .empty) ∧ w.cell? ⟨R, 3, none⟩ = some (.slice none 0 0) ∧ w.cell? ⟨R, 4, none⟩ = some (.int .i64 0) ∧ w.cell? ⟨R, 5, none⟩ = some (.pointer none) ∧ w.cell? ⟨R, 6, none⟩ = some (.int .i64 0) ∧ ∀ i, w.frozen? ⟨R, i, none⟩ = false := by
  unfold ResO at h; simp [World.cell?, World.frozen?, h]
end Go.Proofs.YtclilpabdcdeoaaDoor
