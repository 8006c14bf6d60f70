import Derived.Test.YtifopogkbjhkjaaDoorOp
import Derived.Test.YtifopogkbjhkjaaDoorUa
namespace Go.Proofs.YtifopogkbjhkjaaDoor
open Go.ChangeShapes Go.WideShapes Go.ChangeAt Go.RowKit
set_option linter.unusedVariables false
theorem cellsSch : Tryd.prog.cellsOf 34 = 5 := by kernel_rfl
theorem cellsInts : Tryd.prog.cellsOf 32 = 1 := by kernel_rfl
section
variable {H : Type} {enc : TypeId × Value → H} {w : World} {base : Nat}
theorem open_ints {fuel n c : Nat} {A : Option Addr} {x : DataW H × List MemPlace} (h : DataW.trod enc Tryd.prog w base (fun _ => true) true fuel 32 [.slice A n c] = some x) : ∃ l : List Int, l.length = n ∧ IRow w A l := by
  by_cases hpos : n = 0
  · subst hpos; exact ⟨[], rfl, .inl rfl⟩
  rcases DataW.trod_slice Tryd.underlying32 h with h0 | ⟨a', len, cap, elems, rest, m, hm, hcs, _, hb, hl, hmx, hlen, hel, _, _⟩
  · have := h0.1
    simp at this
    omega
  simp at hcs
  obtain ⟨rfl, rfl, rfl⟩ := hcs
  rw [cellsInt] at hel
  have each : ∀ i, i < n → ∃ cs, w.cells? base (a'.add (i * 1)) 1 = some cs ∧ ∃ s : Int, cs = [.int .i64 s] := fun i hi => by
    have he := hel i hi
    rw [List.getElem?_eq_getElem (by omega), Option.bind_eq_some_iff] at he
    obtain ⟨cs, hc, ht⟩ := he
    obtain ⟨s, e, _⟩ := DataW.trod_int Tryd.underlying3 ht
    exact ⟨cs, hc, s, e⟩
  obtain ⟨b, o, rfl, hblt, hrow⟩ := row_at (w := w) (base := base) (sz := 1) (by omega) (by omega) (fun i hi => ⟨_, (each i hi).choose_spec.1⟩)
  obtain ⟨R, hR⟩ := Classical.axiomOfChoice (fun i : Fin n => (⟨_, (each i i.2).choose_spec⟩ : ∃ cs, w.cells? base ((⟨b, o, none⟩ : Addr).add (i * 1)) 1 = some cs ∧ ∃ s : Int, cs = [.int .i64 s]))
  obtain ⟨F, hF⟩ := Classical.axiomOfChoice (fun i : Fin n => (hR i).2)
  refine ⟨List.ofFn F, by simp, .inr ⟨b, o, rfl, hblt, fun i hi => ?_⟩⟩
  have hin : i < n := by simpa using hi
  have hx := hrow i hin _ (hR ⟨i, hin⟩).1
  rw [List.getElem_ofFn]
  rw [hF ⟨i, hin⟩] at hx
  have := hx 0 (by simp)
  rw [Nat.mul_one] at this
  exact this
set_option maxRecDepth 100000 in
theorem open_argS {r : Reach} {b0 : Nat} {v : Value} {d : DataW H} {p : List MemPlace} (o : Value.okWide Tryd.prog w r b0 34 v) (h : DataW.Trod enc Tryd.prog w base (fun _ => true) true 34 v d p) : ∃ (all : List Int) (Al : Option Addr) (ca : Nat) (V : TT) (A : Option Addr) (c : Nat), v = .agg #[.slice Al all.length ca, .int .i64 V.k, .string V.nm, .int .i64 V.vr, .slice A V.args.length c] ∧ IRow w Al all ∧ TRow w any0 A V.args := by
  obtain ⟨cs, rfl, hsz⟩ := okWide_struct Tryd.underlying34 o
  obtain ⟨fuel, hf⟩ := h
  obtain ⟨ys, m, hm, _, hl, hlen, hf⟩ := DataW.trod_struct Tryd.underlying34 hf
  rw [cellsSch] at hl
  have hl : cs.toList.length = 5 := hl
  obtain ⟨c0, c1, c2, c3, c4, e⟩ : ∃ c0 c1 c2 c3 c4, cs.toList = [c0, c1, c2, c3, c4] := by
    match hh : cs.toList, hl with
    | [c0, c1, c2, c3, c4], _ => exact ⟨_, _, _, _, _, rfl⟩
  have hf := hf
  have e' : (Value.agg cs).cells.toList = [c0, c1, c2, c3, c4] := e
  rw [e'] at hf
  have g0 : DataW.trod enc Tryd.prog w base (fun _ => true) true m 32 (List.take (Tryd.prog.cellsOf 32) [c0, c1, c2, c3, c4]) = ys[0]? := hf 0 _ rfl
  have g1 : DataW.trod enc Tryd.prog w base (fun _ => true) true m 24 (List.take (Tryd.prog.cellsOf 24) [c1, c2, c3, c4]) = ys[1]? := hf 1 _ rfl
  rw [cellsInts] at g0
  rw [cellsTy] at g1
  have hl7 : ys.length = 2 := hlen
  rw [List.getElem?_eq_getElem (by omega)] at g0 g1
  obtain ⟨V, A, c, h1, h3⟩ := (open_T m).1 _ _ g1
  have sh : ∃ A n c, List.take 1 [c0, c1, c2, c3, c4] = [.slice A n c] := by
    rcases DataW.trod_slice Tryd.underlying32 g0 with h0 | ⟨a, len, cap, elems, rest, n, _, h1, _⟩
    · exact ⟨none, 0, 0, h0.1⟩
    · exact ⟨some a, len, cap, h1⟩
  obtain ⟨Al, k, ca, e3⟩ := sh
  rw [e3] at g0
  obtain ⟨all, hl2, hr⟩ := open_ints g0
  simp at e3 h1
  subst e3 hl2
  obtain ⟨rfl, rfl, rfl, rfl⟩ := h1
  exact ⟨all, Al, ca, V, A, c, by rw [arr_of e], hr, h3⟩
end
end Go.Proofs.YtifopogkbjhkjaaDoor
