import Derived.Test.YtkecnhogooaccaaRootsA
import Derived.Carry
import Derived.ChangeSlices
import Derived.DataOpen
namespace Go.Proofs.Ytkecnhogooaccaa
open Go.ChangeShapes Go.WideShapes Go.ChangeAt Go.RowKit
set_option linter.unusedVariables false
theorem cellsOf50 : Try.prog.cellsOf 50 = 6 := by kernel_rfl
theorem cellsOf3 : Try.prog.cellsOf 3 = 1 := by kernel_rfl
theorem cellsOf29 : Try.prog.cellsOf 29 = 1 := by kernel_rfl
theorem cellsOf48 : Try.prog.cellsOf 48 = 1 := by kernel_rfl
section
variable {H : Type} {enc : TypeId × Value → H} {w : World} {base : Nat}
theorem open_words {fuel n c : Nat} {a : Option Addr} {x : DataW H × List MemPlace} (h : DataW.trod enc Try.prog w base (fun _ => true) true fuel 48 [.slice a n c] = some x) : ∃ xs : List Int, InL .u64 w a n xs := by
  rcases open_ints Try.underlying48 Try.underlying29 cellsOf29 h with ⟨hcs, hx⟩ | ⟨a', len', cap', zs, hcs, _, hl, hm, hz, hx, hcell, hwz⟩
  · simp at hcs
    obtain ⟨rfl, rfl, rfl⟩ := hcs
    exact ⟨[], rfl, fun h => by omega⟩
  · simp at hcs
    obtain ⟨rfl, rfl, rfl⟩ := hcs
    simp only [if_true] at hz
    by_cases hn : n = 0
    · subst hn; exact ⟨[], rfl, fun h => by omega⟩
    · obtain ⟨b, off, rfl, hc⟩ := ints_at hcell (by omega)
      exact ⟨zs.take n, by rw [List.length_take]; omega, fun _ => ⟨b, off, rfl, World.block_lt_of_cell? w ⟨b, off + 0, none⟩ (hc 0 (by omega)), fun j hj => by rw [hc j (by omega)]; simp [List.getD, hj]⟩⟩
theorem open_one {n : Nat} {a : Addr} {y : DataW H × List MemPlace} (h : (w.cells? base a 6).bind (DataW.trod enc Try.prog w base (fun _ => true) true n 50) = some y) :
    ∃ r : ActR, w.cell? (a.add 0) = some (.int .i64 r.op) ∧ w.cell? (a.add 1) = some (.int .i64 r.a) ∧ w.cell? (a.add 2) = some (.int .i64 r.b) ∧ w.cell? (a.add 3) = some (.int .i64 r.n) ∧ w.cell? (a.add 4) = some (.int .u64 r.w) ∧ ∃ A m c, w.cell? (a.add 5) = some (.slice A m c) ∧ InL .u64 w A m r.l := by
  rw [Option.bind_eq_some_iff] at h
  obtain ⟨cs, hcs, ht⟩ := h
  obtain ⟨ys, m, _, _, hl, hlen, hf⟩ := DataW.trod_struct Try.underlying50 ht
  rw [cellsOf50] at hl
  obtain ⟨-, hcl, hc⟩ := World.cells?_some hcs
  obtain ⟨c0, c1, c2, c3, c4, c5, rfl⟩ : ∃ c0 c1 c2 c3 c4 c5, cs = [c0, c1, c2, c3, c4, c5] := by
    match cs, hl with
    | [c0, c1, c2, c3, c4, c5], _ => exact ⟨_, _, _, _, _, _, rfl⟩
  have g0 : DataW.trod enc Try.prog w base (fun _ => true) true m 3 (List.take (Try.prog.cellsOf 3) [c0, c1, c2, c3, c4, c5]) = ys[0]? := hf 0 _ rfl
  have g1 : DataW.trod enc Try.prog w base (fun _ => true) true m 3 (List.take (Try.prog.cellsOf 3) [c1, c2, c3, c4, c5]) = ys[1]? := hf 1 _ rfl
  have g2 : DataW.trod enc Try.prog w base (fun _ => true) true m 3 (List.take (Try.prog.cellsOf 3) [c2, c3, c4, c5]) = ys[2]? := hf 2 _ rfl
  have g3 : DataW.trod enc Try.prog w base (fun _ => true) true m 3 (List.take (Try.prog.cellsOf 3) [c3, c4, c5]) = ys[3]? := hf 3 _ rfl
  have g4 : DataW.trod enc Try.prog w base (fun _ => true) true m 29 (List.take (Try.prog.cellsOf 29) [c4, c5]) = ys[4]? := hf 4 _ rfl
  have g5 : DataW.trod enc Try.prog w base (fun _ => true) true m 48 (List.take (Try.prog.cellsOf 48) [c5]) = ys[5]? := hf 5 _ rfl
  rw [cellsOf3] at g0 g1 g2 g3
  rw [cellsOf29] at g4
  rw [cellsOf48] at g5
  have hl4 : ys.length = 6 := hlen
  rw [List.getElem?_eq_getElem (by omega)] at g0 g1 g2 g3 g4 g5
  obtain ⟨x0, e0, _, w0⟩ := DataW.trod_int Try.underlying3 g0
  obtain ⟨x1, e1, _, w1⟩ := DataW.trod_int Try.underlying3 g1
  obtain ⟨x2, e2, _, w2⟩ := DataW.trod_int Try.underlying3 g2
  obtain ⟨x3, e3, _, w3⟩ := DataW.trod_int Try.underlying3 g3
  obtain ⟨x4, e4, _, w4⟩ := DataW.trod_int Try.underlying29 g4
  simp at e0 e1 e2 e3 e4
  subst e0 e1 e2 e3 e4
  have sh : ∃ A n c, List.take 1 [c5] = [.slice A n c] := by
    rcases DataW.trod_slice Try.underlying48 g5 with h0 | ⟨a, len, cap, elems, rest, n, _, h1, _⟩
    · exact ⟨none, 0, 0, h0.1⟩
    · exact ⟨some a, len, cap, h1⟩
  obtain ⟨A, k, c, e5⟩ := sh
  rw [e5] at g5
  obtain ⟨xs, hx⟩ := open_words g5
  simp at e5
  subst e5
  exact ⟨⟨x0, x1, x2, x3, x4, xs⟩, hc 0 (by simp), hc 1 (by simp), hc 2 (by simp), hc 3 (by simp), hc 4 (by simp), A, k, c, hc 5 (by simp), hx⟩
theorem addr_add (a : Addr) (i j : Nat) : (a.add i).add j = a.add (i + j) := by
  unfold Addr.add
  by_cases hi : i = 0 <;> by_cases hj : j = 0 <;> simp [hi, hj, Nat.add_assoc]
theorem open_acts {fuel n c : Nat} {a : Option Addr} {x : DataW H × List MemPlace} (h : DataW.trod enc Try.prog w base (fun _ => true) true fuel 43 [.slice a n c] = some x) : ∃ acts : List ActR, ActsIn w a n acts := by
  by_cases hpos : n = 0
  · subst hpos; exact ⟨[], rfl, fun h => by omega⟩
  rcases DataW.trod_slice Try.underlying43 h with h0 | ⟨a', len, cap, elems, rest, m, _, hcs, _, hb, hl, hm, hlen, hel, _, _⟩
  · have := h0.1
    simp at this
    omega
  simp at hcs
  obtain ⟨rfl, rfl, rfl⟩ := hcs
  rw [cellsOf50] at hel
  have each : ∀ i, i < n → ∃ r : ActR, w.cell? (a'.add (i * 6 + 0)) = some (.int .i64 r.op) ∧ w.cell? (a'.add (i * 6 + 1)) = some (.int .i64 r.a) ∧ w.cell? (a'.add (i * 6 + 2)) = some (.int .i64 r.b) ∧ w.cell? (a'.add (i * 6 + 3)) = some (.int .i64 r.n) ∧ w.cell? (a'.add (i * 6 + 4)) = some (.int .u64 r.w) ∧ ∃ A m c, w.cell? (a'.add (i * 6 + 5)) = some (.slice A m c) ∧ InL .u64 w A m r.l := fun i hi => by
    have he := hel i hi
    rw [List.getElem?_eq_getElem (by omega)] at he
    have := open_one he
    simp only [addr_add] at this
    exact this
  obtain ⟨r0, h1, _⟩ := each 0 (by omega)
  have hsp := World.cell?_spot h1
  have hlt := World.block_lt_of_cell? w _ h1
  obtain ⟨b, off, spot⟩ := a'
  have hs : spot = none := by simpa [Addr.add] using hsp
  subst hs
  have hlt' : b < w.heap.size := by simpa [Addr.add] using hlt
  obtain ⟨R, hR⟩ := Classical.axiomOfChoice (fun i : Fin n => each i i.2)
  refine ⟨List.ofFn R, by simp, fun _ => ⟨b, off, rfl, hlt', fun i hi => ?_⟩⟩
  have hsp := hR ⟨i, hi⟩
  have e : (List.ofFn R).getD i default = R ⟨i, hi⟩ := by simp [List.getD, hi]
  rw [e]
  obtain ⟨r, hr⟩ : ∃ r, r = R ⟨i, hi⟩ := ⟨_, rfl⟩
  rw [← hr] at hsp ⊢
  obtain ⟨k0, k1, k2, k3, k4, A, m, c, k5, k6⟩ := hsp
  simp only [Go.WideShapes.add_plain] at k0 k1 k2 k3 k4 k5
  exact ⟨k0, k1, k2, k3, k4, A, m, c, k5, k6⟩
end
end Go.Proofs.Ytkecnhogooaccaa
