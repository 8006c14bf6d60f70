import Derived.Test.YtkecnhogooaccaaPy
namespace Go.Proofs.Ytkecnhogooaccaa
open Go.ChangeShapes Go.WideShapes Go.ChangeAt Go.RowKit
set_option linter.unusedVariables false
section
variable {H : Type} {enc : TypeId × Value → H} {w : World} {base : Nat}
theorem one_cap {n : Nat} {a : Addr} {y : DataW H × List MemPlace} (h : (w.cells? base a 6).bind (DataW.trod enc Try.prog w base (fun _ => true) true n 50) = some y) {A : Option Addr} {m c : Nat} (hx : w.cell? (a.add 5) = some (.slice A m c)) : m ≤ c ∧ (A = none → c = 0) := by
  rw [Option.bind_eq_some_iff] at h
  obtain ⟨cs, hcs, ht⟩ := h
  obtain ⟨ys, q, _, _, hl, hlen, hf⟩ := DataW.trod_struct Try.underlying50 ht
  rw [cellsOf50] at hl
  obtain ⟨-, hcl, hc⟩ := World.cells?_some hcs
  obtain ⟨c0, c1, c2, c3, c4, c5, rfl⟩ : ∃ c0 c1 c2 c3 c4 c5, cs = [c0, c1, c2, c3, c4, c5] := by
    match cs, hl with
    | [c0, c1, c2, c3, c4, c5], _ => exact ⟨_, _, _, _, _, _, rfl⟩
  have g5 : DataW.trod enc Try.prog w base (fun _ => true) true q 48 (List.take (Try.prog.cellsOf 48) [c5]) = ys[5]? := hf 5 _ rfl
  rw [cellsOf48] at g5
  have hl4 : ys.length = 6 := hlen
  rw [List.getElem?_eq_getElem (by omega)] at g5
  have h5 := hc 5 (by simp)
  have e5 : c5 = .slice A m c := by
    have := h5.symm.trans hx
    simpa using this
  subst e5
  rcases DataW.trod_slice Try.underlying48 g5 with h0 | ⟨a', len, cap, elems, rest, k, _, h1, _, _, h2, _⟩
  · have := h0.1
    simp at this
    obtain ⟨rfl, rfl, rfl⟩ := this
    exact ⟨Nat.le_refl _, fun _ => rfl⟩
  · simp at h1
    obtain ⟨rfl, rfl, rfl⟩ := h1
    exact ⟨h2, fun h => by cases h⟩
theorem acts_caps {fuel n c : Nat} {a : Option Addr} {x : DataW H × List MemPlace} (h : DataW.trod enc Try.prog w base (fun _ => true) true fuel 43 [.slice a n c] = some x) : ∀ b off, a = some ⟨b, off, none⟩ → Caps w b off n := by
  intro b off ea i hi A m c' hx
  rcases DataW.trod_slice Try.underlying43 h with h0 | ⟨a', len, cap, elems, rest, q, _, hcs, _, hb, hl, hm, hlen, hel, _, _⟩
  · have := h0.1
    simp at this
    omega
  simp at hcs
  obtain ⟨rfl, rfl, rfl⟩ := hcs
  injection ea with ea
  subst ea
  rw [cellsOf50] at hel
  have he := hel i hi
  rw [List.getElem?_eq_getElem (by omega)] at he
  refine one_cap he (A := A) ?_
  rw [addr_add, Go.WideShapes.add_plain]
  exact hx
end
end Go.Proofs.Ytkecnhogooaccaa
