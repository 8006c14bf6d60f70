import Derived.Test.YtifopogkbjhkjaaDoorOs
import Derived.Test.YtifopogkbjhkjaaDoorRc
namespace Go.Proofs.YtifopogkbjhkjaaDoor
open Go.ChangeShapes Go.WideShapes Go.ChangeAt Go.RowKit
set_option linter.unusedVariables false
section
variable {H : Type} {enc : TypeId × Value → H} {w : World} {base : Nat}
theorem slice_len {fuel n c : Nat} {A : Option Addr} {e t : TypeId} (ht : Tryd.prog.underlying t = some (.slice e)) {x : DataW H × List MemPlace} (h : DataW.trod enc Tryd.prog w base (fun _ => true) true fuel t [.slice A n c] = some x) : n ≤ 9223372036854775807 := by
  rcases DataW.trod_slice ht h with h0 | ⟨a', len, cap, elems, rest, m, hm, hcs, _, hb, hl, hmx, _⟩
  · have := h0.1
    simp at this
    omega
  · simp at hcs
    obtain ⟨rfl, rfl, rfl⟩ := hcs
    unfold maxLen at hmx
    omega
def shapeS (w : World) (cs : List Value) (E : List Int × TT) : Prop := ∃ Al ca A c, cs = [.slice Al E.1.length ca, .int .i64 E.2.k, .string E.2.nm, .int .i64 E.2.vr, .slice A E.2.args.length c] ∧ IRow w Al E.1 ∧ TRow w any0 A E.2.args ∧ E.1.length ≤ 9223372036854775807
set_option maxRecDepth 100000 in
theorem open_S {fuel : Nat} {cs : List Value} {x : DataW H × List MemPlace} (h : DataW.trod enc Tryd.prog w base (fun _ => true) true fuel 34 cs = some x) : ∃ E, shapeS w cs E := by
  obtain ⟨ys, m, hm, _, hl, hlen, hf⟩ := DataW.trod_struct Tryd.underlying34 h
  rw [cellsSch] at hl
  obtain ⟨c0, c1, c2, c3, c4, rfl⟩ : ∃ c0 c1 c2 c3 c4, cs = [c0, c1, c2, c3, c4] := by
    match cs, hl with
    | [c0, c1, c2, c3, c4], _ => exact ⟨_, _, _, _, _, rfl⟩
  have g0 : DataW.trod enc Tryd.prog w base (fun _ => true) true m 32 (List.take (Tryd.prog.cellsOf 32) [c0, c1, c2, c3, c4]) = ys[0]? := hf 0 _ rfl
  have g1 : DataW.trod enc Tryd.prog w base (fun _ => true) true m 24 (List.take (Tryd.prog.cellsOf 24) [c1, c2, c3, c4]) = ys[1]? := hf 1 _ rfl
  rw [cellsInts] at g0
  rw [cellsTy] at g1
  have hl7 : ys.length = 2 := hlen
  rw [List.getElem?_eq_getElem (by omega)] at g0 g1
  obtain ⟨V, A, c, h1, h3⟩ := (open_T m).1 _ _ g1
  have sh : ∃ A n c, List.take 1 [c0, c1, c2, c3, c4] = [.slice A n c] := by
    rcases DataW.trod_slice Tryd.underlying32 g0 with h0 | ⟨a, len, cap, elems, rest, n, _, h1, _⟩
    · exact ⟨none, 0, 0, h0.1⟩
    · exact ⟨some a, len, cap, h1⟩
  obtain ⟨Al, k, ca, e3⟩ := sh
  rw [e3] at g0
  have hln := slice_len Tryd.underlying32 g0
  obtain ⟨all, hl2, hr⟩ := open_ints g0
  simp at e3 h1
  subst e3 hl2
  obtain ⟨rfl, rfl, rfl, rfl⟩ := h1
  exact ⟨(all, V), Al, ca, A, c, rfl, hr, h3, hln⟩
set_option maxRecDepth 100000 in
theorem open_SRow {r : Reach} {b0 : Nat} {v : Value} {d : DataW H} {p : List MemPlace} (ow : Value.okWide Tryd.prog w r b0 25 v) (h : DataW.Trod enc Tryd.prog w base (fun _ => true) true 25 v d p) : ∃ (Ae : Option Addr) (E : List (List Int × TT)) (ce : Nat), v = .slice Ae E.length ce ∧ SRow w Ae E ∧ (∀ x ∈ E, x.1.length ≤ 9223372036854775807) ∧ E.length ≤ 9223372036854775807 := by
  obtain ⟨A, n, c, rfl⟩ := okWide_slice Tryd.underlying25 ow
  obtain ⟨fuel, hf⟩ := h
  have hf : DataW.trod enc Tryd.prog w base (fun _ => true) true fuel 25 [.slice A n c] = some (d, p) := hf
  have hln := slice_len Tryd.underlying25 hf
  by_cases hpos : n = 0
  · subst hpos; exact ⟨A, [], c, rfl, .inl rfl, fun x hx => (by cases hx), by simp⟩
  rcases DataW.trod_slice Tryd.underlying25 hf with h0 | ⟨a', len, cap, elems, rest, m, hm, hcs, _, hb, hl, hmx, hlen, hel, _, _⟩
  · have := h0.1
    simp at this
    omega
  simp at hcs
  obtain ⟨rfl, rfl, rfl⟩ := hcs
  rw [cellsSch] at hel
  have each : ∀ i, i < n → ∃ cs, w.cells? base (a'.add (i * 5)) 5 = some cs ∧ ∃ E, shapeS w cs E := fun i hi => by
    have he := hel i hi
    rw [List.getElem?_eq_getElem (by omega), Option.bind_eq_some_iff] at he
    obtain ⟨cs, hc, ht⟩ := he
    exact ⟨cs, hc, open_S ht⟩
  obtain ⟨b, o, rfl, hblt, hrow⟩ := row_at (w := w) (base := base) (sz := 5) (by omega) (by omega) (fun i hi => ⟨_, (each i hi).choose_spec.1⟩)
  obtain ⟨R, hR⟩ := Classical.axiomOfChoice (fun i : Fin n => (⟨_, (each i i.2).choose_spec⟩ : ∃ cs, w.cells? base ((⟨b, o, none⟩ : Addr).add (i * 5)) 5 = some cs ∧ ∃ E, shapeS w cs E))
  obtain ⟨F, hF⟩ := Classical.axiomOfChoice (fun i : Fin n => (hR i).2)
  refine ⟨some ⟨b, o, none⟩, List.ofFn F, c, by simp, .inr ⟨b, o, rfl, hblt, fun i hi => ?_⟩, fun x hx => ?_, by simpa using hln⟩
  · have hin : i < n := by simpa using hi
    have hx := hrow i hin _ (hR ⟨i, hin⟩).1
    rw [List.getElem_ofFn]
    obtain ⟨Al, ca, A', c', e, q1, q2, q3⟩ := hF ⟨i, hin⟩
    rw [e] at hx
    have x0 := hx 0 (by simp)
    have x1 := hx 1 (by simp)
    have x2 := hx 2 (by simp)
    have x3 := hx 3 (by simp)
    have x4 := hx 4 (by simp)
    rw [Nat.add_zero] at x0
    exact ⟨Al, ca, A', c', x0, x1, x2, x3, x4, q1, q2⟩
  · obtain ⟨i, rfl⟩ := (List.mem_ofFn).1 hx
    obtain ⟨Al, ca, A', c', e, q1, q2, q3⟩ := hF i
    exact q3
end
end Go.Proofs.YtifopogkbjhkjaaDoor
