import Derived.Test.YtgfaadfkeeehgaaBack
import Derived.LaidMore
import Derived.ChangeSlices
import Derived.Lib.SmallJoins
namespace Go.Proofs.Ytgfaadfkeeehgaa
open Go.ChangeShapes Go.WideShapes Go.ChangeAt Go.RowKit
set_option linter.unusedVariables false
theorem cellsOf24 : Try.prog.cellsOf 24 = 3 := by kernel_rfl
theorem cellsOf2 : Try.prog.cellsOf 2 = 1 := by kernel_rfl
theorem cellsOf3 : Try.prog.cellsOf 3 = 1 := by kernel_rfl
section
variable {H : Type} {enc : TypeId × Value → H} {w : World} {base : Nat} {spare : Nat → Bool} {held : Bool}
def numAt (w : World) (a : Addr) (k : Nat) : Int := match w.cell? (a.add k) with | some (.int _ n) => n | _ => 0
theorem open_one {n : Nat} {a : Addr} {y : DataW H × List MemPlace} (h : (w.cells? base a 3).bind (DataW.trod enc Try.prog w base spare held n 24) = some y) :
    ∀ j, j < 3 → ∃ z, w.cell? (a.add j) = some (.int .i64 z) ∧ -9223372036854775808 ≤ z ∧ z < 9223372036854775808 := by
  rw [Option.bind_eq_some_iff] at h
  obtain ⟨cs, hcs, ht⟩ := h
  obtain ⟨ys, m, _, _, hl, hlen, hf⟩ := DataW.trod_struct Try.underlying24 ht
  rw [cellsOf24] at hl
  obtain ⟨-, hcl, hc⟩ := World.cells?_some hcs
  obtain ⟨c0, c1, c2, rfl⟩ : ∃ c0 c1 c2, cs = [c0, c1, c2] := by
    match cs, hl with
    | [c0, c1, c2], _ => exact ⟨_, _, _, rfl⟩
  have g0 : DataW.trod enc Try.prog w base spare held m 3 (List.take (Try.prog.cellsOf 3) [c0, c1, c2]) = ys[0]? := hf 0 _ rfl
  have g1 : DataW.trod enc Try.prog w base spare held m 2 (List.take (Try.prog.cellsOf 2) [c1, c2]) = ys[1]? := hf 1 _ rfl
  have g2 : DataW.trod enc Try.prog w base spare held m 2 (List.take (Try.prog.cellsOf 2) [c2]) = ys[2]? := hf 2 _ rfl
  rw [cellsOf3] at g0
  rw [cellsOf2] at g1 g2
  have hl3 : ys.length = 3 := hlen
  rw [List.getElem?_eq_getElem (by omega)] at g0 g1 g2
  obtain ⟨x0, e0, _, w0⟩ := DataW.trod_int Try.underlying3 g0
  obtain ⟨x1, e1, _, w1⟩ := DataW.trod_int Try.underlying2 g1
  obtain ⟨x2, e2, _, w2⟩ := DataW.trod_int Try.underlying2 g2
  simp at e0 e1 e2
  subst e0 e1 e2
  simp only [Lit.wf, Bool.and_eq_true, decide_eq_true_eq] at w0 w1 w2
  intro j hj
  match j, hj with
  | 0, _ => exact ⟨x0, hc 0 (by omega), w0.1, Int.lt_of_le_of_lt w0.2 (by decide)⟩
  | 1, _ => exact ⟨x1, hc 1 (by omega), w1.1, Int.lt_of_le_of_lt w1.2 (by decide)⟩
  | 2, _ => exact ⟨x2, hc 2 (by omega), w2.1, Int.lt_of_le_of_lt w2.2 (by decide)⟩
theorem addr_add (a : Addr) (i j : Nat) : (a.add i).add j = a.add (i + j) := by
  unfold Addr.add
  by_cases hi : i = 0 <;> by_cases hj : j = 0 <;> simp [hi, hj, Nat.add_assoc]
theorem open_instrs {fuel : Nat} {cs : List Value} {x : DataW H × List MemPlace} (h : DataW.trod enc Try.prog w base spare held fuel 29 cs = some x) :
    cs = [.slice none 0 0] ∨ ∃ (a : Addr) (len cap : Nat), cs = [.slice (some a) len cap] ∧ len ≤ cap ∧ (0 < len → ∃ b off, a = ⟨b, off, none⟩ ∧ b < w.heap.size) ∧ ∃ xs : List (Int × Int × Int), xs.length = len ∧ (∀ j u, (ins xs)[j]? = some u → w.cell? (a.add j) = some u) ∧
      ∀ x ∈ xs, -9223372036854775808 ≤ x.2.1 ∧ x.2.1 < 9223372036854775808 ∧ -9223372036854775808 ≤ x.2.2 ∧ x.2.2 < 9223372036854775808 := by
  rcases DataW.trod_slice Try.underlying29 h with h0 | ⟨a, len, cap, elems, rest, n, _, rfl, _, hb, hl, hm, hlen, hel, _, _⟩
  · exact .inl h0.1
  right
  rw [cellsOf24] at hel
  have each : ∀ i, i < len → ∀ j, j < 3 → ∃ z, w.cell? (a.add (i * 3 + j)) = some (.int .i64 z) ∧ -9223372036854775808 ≤ z ∧ z < 9223372036854775808 := fun i hi j hj => by
    have he := hel i hi
    rw [List.getElem?_eq_getElem (by omega)] at he
    have := open_one he j hj
    rw [addr_add] at this
    exact this
  have num : ∀ i, i < len → ∀ j, j < 3 → w.cell? (a.add (i * 3 + j)) = some (.int .i64 (numAt w a (i * 3 + j))) ∧ -9223372036854775808 ≤ numAt w a (i * 3 + j) ∧ numAt w a (i * 3 + j) < 9223372036854775808 := fun i hi j hj => by
    obtain ⟨z, h1, h2, h3⟩ := each i hi j hj
    have e : numAt w a (i * 3 + j) = z := by unfold numAt; rw [h1]
    rw [e]; exact ⟨h1, h2, h3⟩
  refine ⟨a, len, cap, rfl, hl, fun hpos => ?_, (List.range len).map (fun i => (numAt w a (i * 3), numAt w a (i * 3 + 1), numAt w a (i * 3 + 2))), by simp, ?_, ?_⟩
  · have h1 := (num 0 hpos 0 (by omega)).1
    have hsp := World.cell?_spot h1
    have hlt := World.block_lt_of_cell? w _ h1
    obtain ⟨b, off, spot⟩ := a
    have hs : spot = none := by simpa [Addr.add] using hsp
    subst hs
    exact ⟨b, off, rfl, by simpa [Addr.add] using hlt⟩
  · intro j u hu
    have hj : j < len * 3 := by
      have := (List.getElem?_eq_some_iff.1 hu).1
      rw [ins_len] at this; simpa using this
    have hi : j / 3 < len := by omega
    have hd : ((List.range len).map (fun i => (numAt w a (i * 3), numAt w a (i * 3 + 1), numAt w a (i * 3 + 2)))).drop (j / 3) = (numAt w a (j / 3 * 3), numAt w a (j / 3 * 3 + 1), numAt w a (j / 3 * 3 + 2)) :: ((List.range len).map (fun i => (numAt w a (i * 3), numAt w a (i * 3 + 1), numAt w a (i * 3 + 2)))).drop (j / 3 + 1) := by
      rw [List.drop_eq_getElem_cons (by simpa using hi)]; simp
    obtain ⟨i0, i1, i2⟩ := ins_at _ _ _ _ hd
    have hcase : j = j / 3 * 3 ∨ j = j / 3 * 3 + 1 ∨ j = j / 3 * 3 + 2 := by omega
    rcases hcase with e | e | e
    · rw [← e] at i0
      rw [i0] at hu
      injection hu with hu
      have := (num (j / 3) hi 0 (by omega)).1
      rw [Nat.add_zero, ← e] at this
      rw [this, ← hu]
    · rw [← e] at i1
      rw [i1] at hu
      injection hu with hu
      have := (num (j / 3) hi 1 (by omega)).1
      rw [← e] at this
      rw [this, ← hu]
    · rw [← e] at i2
      rw [i2] at hu
      injection hu with hu
      have := (num (j / 3) hi 2 (by omega)).1
      rw [← e] at this
      rw [this, ← hu]
  · intro x hx
    simp only [List.mem_map, List.mem_range] at hx
    obtain ⟨i, hi, rfl⟩ := hx
    have h1 := num i hi 1 (by omega)
    have h2 := num i hi 2 (by omega)
    exact ⟨h1.2.1, h1.2.2, h2.2.1, h2.2.2⟩
end
end Go.Proofs.Ytgfaadfkeeehgaa
