import Derived.Test.YtdnakmbfkpjaeaaDoorArg
namespace Go.Proofs.YtdnakmbfkpjaeaaDoor
open Go.ChangeShapes Go.WideShapes Go.ChangeAt Go.RowKit
set_option linter.unusedVariables false
theorem cellsOf30 : Tryd.prog.cellsOf 30 = 4 := by kernel_rfl
theorem cellsOf3 : Tryd.prog.cellsOf 3 = 1 := by kernel_rfl
section
variable {H : Type} {enc : TypeId × Value → H} {w : World} {base : Nat} {spare : Nat → Bool} {held : Bool}
def numAt (w : World) (a : Addr) (k : Nat) : Int := match w.cell? (a.add k) with | some (.int _ n) => n | _ => 0
theorem open_one {n : Nat} {a : Addr} {y : DataW H × List MemPlace} (h : (w.cells? base a 4).bind (DataW.trod enc Tryd.prog w base spare held n 30) = some y) :
    ∀ j, j < 4 → ∃ z, w.cell? (a.add j) = some (.int .i64 z) ∧ -9223372036854775808 ≤ z ∧ z ≤ 9223372036854775807 := by
  rw [Option.bind_eq_some_iff] at h
  obtain ⟨cs, hcs, ht⟩ := h
  obtain ⟨ys, m, _, _, hl, hlen, hf⟩ := DataW.trod_struct Tryd.underlying30 ht
  rw [cellsOf30] at hl
  obtain ⟨-, hcl, hc⟩ := World.cells?_some hcs
  obtain ⟨c0, c1, c2, c3, rfl⟩ : ∃ c0 c1 c2 c3, cs = [c0, c1, c2, c3] := by
    match cs, hl with
    | [c0, c1, c2, c3], _ => exact ⟨_, _, _, _, rfl⟩
  have g0 : DataW.trod enc Tryd.prog w base spare held m 3 (List.take (Tryd.prog.cellsOf 3) [c0, c1, c2, c3]) = ys[0]? := hf 0 _ rfl
  have g1 : DataW.trod enc Tryd.prog w base spare held m 3 (List.take (Tryd.prog.cellsOf 3) [c1, c2, c3]) = ys[1]? := hf 1 _ rfl
  have g2 : DataW.trod enc Tryd.prog w base spare held m 3 (List.take (Tryd.prog.cellsOf 3) [c2, c3]) = ys[2]? := hf 2 _ rfl
  have g3 : DataW.trod enc Tryd.prog w base spare held m 2 (List.take (Tryd.prog.cellsOf 2) [c3]) = ys[3]? := hf 3 _ rfl
  rw [cellsOf3] at g0 g1 g2
  rw [cells2] at g3
  have hl4 : ys.length = 4 := hlen
  rw [List.getElem?_eq_getElem (by omega)] at g0 g1 g2 g3
  obtain ⟨x0, e0, _, w0⟩ := DataW.trod_int Tryd.underlying3 g0
  obtain ⟨x1, e1, _, w1⟩ := DataW.trod_int Tryd.underlying3 g1
  obtain ⟨x2, e2, _, w2⟩ := DataW.trod_int Tryd.underlying3 g2
  obtain ⟨x3, e3, _, w3⟩ := DataW.trod_int Tryd.underlying2 g3
  simp at e0 e1 e2 e3
  subst e0 e1 e2 e3
  simp only [Lit.wf, Bool.and_eq_true, decide_eq_true_eq] at w0 w1 w2 w3
  intro j hj
  match j, hj with
  | 0, _ => exact ⟨x0, hc 0 (by omega), w0.1, w0.2⟩
  | 1, _ => exact ⟨x1, hc 1 (by omega), w1.1, w1.2⟩
  | 2, _ => exact ⟨x2, hc 2 (by omega), w2.1, w2.2⟩
  | 3, _ => exact ⟨x3, hc 3 (by omega), w3.1, w3.2⟩
theorem addr_add (a : Addr) (i j : Nat) : (a.add i).add j = a.add (i + j) := by
  unfold Addr.add
  by_cases hi : i = 0 <;> by_cases hj : j = 0 <;> simp [hi, hj, Nat.add_assoc]
/-- the acts that came in. -/
theorem open_acts {fuel n c : Nat} {a : Option Addr} {x : DataW H × List MemPlace} (h : DataW.trod enc Tryd.prog w base spare held fuel 23 [.slice a n c] = some x) :
    (0 < n → ∃ b off, a = some ⟨b, off, none⟩ ∧ b < w.heap.size ∧ n ≤ c ∧ ∀ i, i < n → ∃ o r p z : Int, w.cell? ⟨b, off + i * 4, none⟩ = some (.int .i64 o) ∧ w.cell? ⟨b, off + i * 4 + 1, none⟩ = some (.int .i64 r) ∧ w.cell? ⟨b, off + i * 4 + 2, none⟩ = some (.int .i64 p) ∧ w.cell? ⟨b, off + i * 4 + 3, none⟩ = some (.int .i64 z) ∧ -9223372036854775808 ≤ z ∧ z ≤ 9223372036854775807) := by
  intro hpos
  rcases DataW.trod_slice Tryd.underlying23 h with h0 | ⟨a', len, cap, elems, rest, m, _, hcs, _, hb, hl, hm, hlen, hel, _, _⟩
  · have := h0.1
    simp at this
    omega
  simp at hcs
  obtain ⟨rfl, rfl, rfl⟩ := hcs
  rw [cellsOf30] at hel
  have each : ∀ i, i < n → ∀ j, j < 4 → ∃ z, w.cell? (a'.add (i * 4 + j)) = some (.int .i64 z) ∧ -9223372036854775808 ≤ z ∧ z ≤ 9223372036854775807 := fun i hi j hj => by
    have he := hel i hi
    rw [List.getElem?_eq_getElem (by omega)] at he
    have := open_one he j hj
    rw [addr_add] at this
    exact this
  obtain ⟨z0, h1, _⟩ := each 0 hpos 0 (by omega)
  have hsp := World.cell?_spot h1
  have hlt := World.block_lt_of_cell? w _ h1
  obtain ⟨b, off, spot⟩ := a'
  have hs : spot = none := by simpa [Addr.add] using hsp
  subst hs
  refine ⟨b, off, rfl, by simpa [Addr.add] using hlt, hl, fun i hi => ?_⟩
  obtain ⟨o, ho, _⟩ := each i hi 0 (by omega)
  obtain ⟨r, hr, _⟩ := each i hi 1 (by omega)
  obtain ⟨p, hp, _⟩ := each i hi 2 (by omega)
  obtain ⟨z, hz, hz1, hz2⟩ := each i hi 3 (by omega)
  rw [Go.WideShapes.add_plain] at ho hr hp hz
  exact ⟨o, r, p, z, by rw [← ho]; congr 1, by rw [← hr]; congr 1, by rw [← hp]; congr 1, by rw [← hz]; congr 1, hz1, hz2⟩
end
end Go.Proofs.YtdnakmbfkpjaeaaDoor
