import Derived.Test.YtifopogkbjhkjaaGreatDoorWn
import Derived.Carry
import Derived.ChangeSlices
import Derived.DataOpen
namespace Go.Proofs.YtifopogkbjhkjaaGreatDoor
open Go.ChangeShapes Go.WideShapes Go.ChangeAt Go.RowKit
set_option linter.unusedVariables false
theorem cellsTy : Tryz.prog.cellsOf 24 = 4 := by kernel_rfl
theorem cellsInt : Tryz.prog.cellsOf 3 = 1 := by kernel_rfl
theorem cellsStr : Tryz.prog.cellsOf 9 = 1 := by kernel_rfl
theorem cellsRow : Tryz.prog.cellsOf 22 = 1 := by kernel_rfl
theorem addr_add (a : Addr) (i j : Nat) : (a.add i).add j = a.add (i + j) := by
  unfold Addr.add
  by_cases hi : i = 0 <;> by_cases hj : j = 0 <;> simp [hi, hj, Nat.add_assoc]
theorem okTL_of {w : World} {b : Nat} : ∀ (l : List TT) (o : Nat), (∀ i (h : i < l.length), okT w any0 l[i] b (o + i * 4)) → okTL w any0 l b o
  | [], _, _ => by rw [okTL]; trivial
  | v :: l, o, h => by
    rw [okTL]
    have h0 : okT w any0 v b (o + 0 * 4) := h 0 (by simp)
    rw [Nat.zero_mul, Nat.add_zero] at h0
    refine ⟨h0, okTL_of l (o + 4) fun i hi => ?_⟩
    have := h (i + 1) (by simpa using hi)
    rw [show o + 4 + i * 4 = o + (i + 1) * 4 by omega]; simpa using this
section
variable {H : Type} {enc : TypeId × Value → H} {w : World} {base : Nat}
/-- a row of n elements of sz cells at a: the block, and each element's cells. -/
theorem row_at {a : Addr} {n sz : Nat} (hsz : 0 < sz) (hn : 0 < n) (h : ∀ i, i < n → ∃ cs, w.cells? base (a.add (i * sz)) sz = some cs) : ∃ b o, a = ⟨b, o, none⟩ ∧ b < w.heap.size ∧ ∀ i, i < n → ∀ cs, w.cells? base (a.add (i * sz)) sz = some cs → ∀ j (hj : j < cs.length), w.cell? ⟨b, o + i * sz + j, none⟩ = some cs[j] := by
  obtain ⟨cs0, h0⟩ := h 0 hn
  obtain ⟨-, hl0, hc0⟩ := World.cells?_some h0
  have h1 : w.cell? ((a.add (0 * sz)).add 0) = some (cs0[0]'(by omega)) := by
    have := hc0 0 (by omega)
    rw [this, List.getElem?_eq_getElem (by omega)]
  rw [addr_add] at h1
  have hsp := World.cell?_spot h1
  have hlt := World.block_lt_of_cell? w _ h1
  obtain ⟨b, o, spot⟩ := a
  have hs : spot = none := by simpa [Addr.add] using hsp
  subst hs
  refine ⟨b, o, rfl, by simpa [Addr.add] using hlt, fun i hi cs hcs j hj => ?_⟩
  obtain ⟨-, hl, hc⟩ := World.cells?_some hcs
  have := hc j (by omega)
  rw [addr_add, Go.WideShapes.add_plain, List.getElem?_eq_getElem hj] at this
  rw [show o + i * sz + j = o + (i * sz + j) by omega]; exact this
def shapeT (w : World) (cs : List Value) (T : TT) : Prop := ∃ A c, cs = [.int .i64 T.k, .string T.nm, .int .i64 T.vr, .slice A T.args.length c] ∧ TRow w any0 A T.args
set_option maxRecDepth 100000 in
theorem open_T : ∀ (fuel : Nat), (∀ (cs : List Value) (x : DataW H × List MemPlace), DataW.trod enc Tryz.prog w base (fun _ => true) true fuel 24 cs = some x → ∃ T, shapeT w cs T) ∧
    (∀ (A : Option Addr) (n c : Nat) (x : DataW H × List MemPlace), DataW.trod enc Tryz.prog w base (fun _ => true) true fuel 22 [.slice A n c] = some x → ∃ l : List TT, l.length = n ∧ TRow w any0 A l) := by
  intro fuel
  induction fuel using Nat.strongRecOn with
  | _ fuel ih =>
  refine ⟨fun cs x h => ?_, fun A n c x h => ?_⟩
  · obtain ⟨ys, m, hm, _, hl, hlen, hf⟩ := DataW.trod_struct Tryz.underlying24 h
    rw [cellsTy] at hl
    obtain ⟨c0, c1, c2, c3, rfl⟩ : ∃ c0 c1 c2 c3, cs = [c0, c1, c2, c3] := by
      match cs, hl with
      | [c0, c1, c2, c3], _ => exact ⟨_, _, _, _, rfl⟩
    have g0 : DataW.trod enc Tryz.prog w base (fun _ => true) true m 3 (List.take (Tryz.prog.cellsOf 3) [c0, c1, c2, c3]) = ys[0]? := hf 0 _ rfl
    have g1 : DataW.trod enc Tryz.prog w base (fun _ => true) true m 9 (List.take (Tryz.prog.cellsOf 9) [c1, c2, c3]) = ys[1]? := hf 1 _ rfl
    have g2 : DataW.trod enc Tryz.prog w base (fun _ => true) true m 3 (List.take (Tryz.prog.cellsOf 3) [c2, c3]) = ys[2]? := hf 2 _ rfl
    have g3 : DataW.trod enc Tryz.prog w base (fun _ => true) true m 22 (List.take (Tryz.prog.cellsOf 22) [c3]) = ys[3]? := hf 3 _ rfl
    rw [cellsInt] at g0 g2
    rw [cellsStr] at g1
    rw [cellsRow] at g3
    have hl7 : ys.length = 4 := hlen
    rw [List.getElem?_eq_getElem (by omega)] at g0 g1 g2 g3
    obtain ⟨x0, e0, _, w0⟩ := DataW.trod_int Tryz.underlying3 g0
    obtain ⟨x1, e1, _, w1⟩ := DataW.trod_string Tryz.underlying9 g1
    obtain ⟨x2, e2, _, w2⟩ := DataW.trod_int Tryz.underlying3 g2
    simp at e0 e1 e2
    subst e0 e1 e2
    have sh : ∃ A n c, List.take 1 [c3] = [.slice A n c] := by
      rcases DataW.trod_slice Tryz.underlying22 g3 with h0 | ⟨a, len, cap, elems, rest, n, _, h1, _⟩
      · exact ⟨none, 0, 0, h0.1⟩
      · exact ⟨some a, len, cap, h1⟩
    obtain ⟨A, k, c, e3⟩ := sh
    rw [e3] at g3
    obtain ⟨l, hl2, hr⟩ := (ih m (by omega)).2 A k c _ g3
    simp at e3
    subst e3
    subst hl2
    exact ⟨.mk x0 x1 x2 l, A, c, rfl, hr⟩
  · by_cases hpos : n = 0
    · subst hpos; exact ⟨[], rfl, .inl rfl⟩
    rcases DataW.trod_slice Tryz.underlying22 h with h0 | ⟨a', len, cap, elems, rest, m, hm, hcs, _, hb, hl, hmx, hlen, hel, _, _⟩
    · have := h0.1
      simp at this
      omega
    simp at hcs
    obtain ⟨rfl, rfl, rfl⟩ := hcs
    rw [cellsTy] at hel
    have each : ∀ i, i < n → ∃ cs, w.cells? base (a'.add (i * 4)) 4 = some cs ∧ ∃ V, shapeT w cs V := fun i hi => by
      have he := hel i hi
      rw [List.getElem?_eq_getElem (by omega), Option.bind_eq_some_iff] at he
      obtain ⟨cs, hc, ht⟩ := he
      exact ⟨cs, hc, (ih m (by omega)).1 cs _ ht⟩
    obtain ⟨b, o, rfl, hblt, hrow⟩ := row_at (w := w) (base := base) (sz := 4) (by omega) (by omega) (fun i hi => ⟨_, (each i hi).choose_spec.1⟩)
    obtain ⟨R, hR⟩ := Classical.axiomOfChoice (fun i : Fin n => (⟨_, (each i i.2).choose_spec⟩ : ∃ cs, w.cells? base ((⟨b, o, none⟩ : Addr).add (i * 4)) 4 = some cs ∧ ∃ V, shapeT w cs V))
    obtain ⟨F, hF⟩ := Classical.axiomOfChoice (fun i : Fin n => (hR i).2)
    refine ⟨List.ofFn F, by simp, .inr ⟨b, o, rfl, hblt, trivial, okTL_of _ _ fun i hi => ?_⟩⟩
    have hin : i < n := by simpa using hi
    obtain ⟨A, c, hcs, hvr⟩ := hF ⟨i, hin⟩
    have hx := hrow i hin _ (hR ⟨i, hin⟩).1
    rw [List.getElem_ofFn]
    rw [okT_eq]
    rw [hcs] at hx
    exact ⟨hx 0 (by simp), hx 1 (by simp), hx 2 (by simp), ⟨A, c, hx 3 (by simp), hvr⟩⟩
theorem arr_of {cs : Array Value} {l : List Value} (h : cs.toList = l) : cs = l.toArray := Array.ext' h
set_option maxRecDepth 100000 in
theorem open_argT {r : Reach} {b0 : Nat} {v : Value} {d : DataW H} {p : List MemPlace} (o : Value.okWide Tryz.prog w r b0 24 v) (h : DataW.Trod enc Tryz.prog w base (fun _ => true) true 24 v d p) : ∃ T, TIn w any0 T v := by
  obtain ⟨cs, rfl, hsz⟩ := okWide_struct Tryz.underlying24 o
  obtain ⟨fuel, hf⟩ := h
  obtain ⟨V, A, c, h1, h3⟩ := (open_T fuel).1 _ _ hf
  have h1 : cs.toList = _ := h1
  exact ⟨V, A, c, by rw [arr_of h1]; rfl, h3⟩
end
theorem cellsSch : Tryz.prog.cellsOf 28 = 5 := by kernel_rfl
theorem cellsInts : Tryz.prog.cellsOf 26 = 1 := by kernel_rfl
section
variable {H : Type} {enc : TypeId × Value → H} {w : World} {base : Nat}
theorem open_ints {fuel n c : Nat} {A : Option Addr} {x : DataW H × List MemPlace} (h : DataW.trod enc Tryz.prog w base (fun _ => true) true fuel 26 [.slice A n c] = some x) : ∃ l : List Int, l.length = n ∧ IRow w A l := by
  by_cases hpos : n = 0
  · subst hpos; exact ⟨[], rfl, .inl rfl⟩
  rcases DataW.trod_slice Tryz.underlying26 h with h0 | ⟨a', len, cap, elems, rest, m, hm, hcs, _, hb, hl, hmx, hlen, hel, _, _⟩
  · have := h0.1
    simp at this
    omega
  simp at hcs
  obtain ⟨rfl, rfl, rfl⟩ := hcs
  rw [cellsInt] at hel
  have each : ∀ i, i < n → ∃ cs, w.cells? base (a'.add (i * 1)) 1 = some cs ∧ ∃ s : Int, cs = [.int .i64 s] := fun i hi => by
    have he := hel i hi
    rw [List.getElem?_eq_getElem (by omega), Option.bind_eq_some_iff] at he
    obtain ⟨cs, hc, ht⟩ := he
    obtain ⟨s, e, _⟩ := DataW.trod_int Tryz.underlying3 ht
    exact ⟨cs, hc, s, e⟩
  obtain ⟨b, o, rfl, hblt, hrow⟩ := row_at (w := w) (base := base) (sz := 1) (by omega) (by omega) (fun i hi => ⟨_, (each i hi).choose_spec.1⟩)
  obtain ⟨R, hR⟩ := Classical.axiomOfChoice (fun i : Fin n => (⟨_, (each i i.2).choose_spec⟩ : ∃ cs, w.cells? base ((⟨b, o, none⟩ : Addr).add (i * 1)) 1 = some cs ∧ ∃ s : Int, cs = [.int .i64 s]))
  obtain ⟨F, hF⟩ := Classical.axiomOfChoice (fun i : Fin n => (hR i).2)
  refine ⟨List.ofFn F, by simp, .inr ⟨b, o, rfl, hblt, fun i hi => ?_⟩⟩
  have hin : i < n := by simpa using hi
  have hx := hrow i hin _ (hR ⟨i, hin⟩).1
  rw [List.getElem_ofFn]
  rw [hF ⟨i, hin⟩] at hx
  have := hx 0 (by simp)
  rw [Nat.mul_one] at this
  exact this
set_option maxRecDepth 100000 in
theorem open_argS {r : Reach} {b0 : Nat} {v : Value} {d : DataW H} {p : List MemPlace} (o : Value.okWide Tryz.prog w r b0 28 v) (h : DataW.Trod enc Tryz.prog w base (fun _ => true) true 28 v d p) : ∃ (all : List Int) (Al : Option Addr) (ca : Nat) (V : TT) (A : Option Addr) (c : Nat), v = .agg #[.slice Al all.length ca, .int .i64 V.k, .string V.nm, .int .i64 V.vr, .slice A V.args.length c] ∧ IRow w Al all ∧ TRow w any0 A V.args := by
  obtain ⟨cs, rfl, hsz⟩ := okWide_struct Tryz.underlying28 o
  obtain ⟨fuel, hf⟩ := h
  obtain ⟨ys, m, hm, _, hl, hlen, hf⟩ := DataW.trod_struct Tryz.underlying28 hf
  rw [cellsSch] at hl
  have hl : cs.toList.length = 5 := hl
  obtain ⟨c0, c1, c2, c3, c4, e⟩ : ∃ c0 c1 c2 c3 c4, cs.toList = [c0, c1, c2, c3, c4] := by
    match hh : cs.toList, hl with
    | [c0, c1, c2, c3, c4], _ => exact ⟨_, _, _, _, _, rfl⟩
  have hf := hf
  have e' : (Value.agg cs).cells.toList = [c0, c1, c2, c3, c4] := e
  rw [e'] at hf
  have g0 : DataW.trod enc Tryz.prog w base (fun _ => true) true m 26 (List.take (Tryz.prog.cellsOf 26) [c0, c1, c2, c3, c4]) = ys[0]? := hf 0 _ rfl
  have g1 : DataW.trod enc Tryz.prog w base (fun _ => true) true m 24 (List.take (Tryz.prog.cellsOf 24) [c1, c2, c3, c4]) = ys[1]? := hf 1 _ rfl
  rw [cellsInts] at g0
  rw [cellsTy] at g1
  have hl7 : ys.length = 2 := hlen
  rw [List.getElem?_eq_getElem (by omega)] at g0 g1
  obtain ⟨V, A, c, h1, h3⟩ := (open_T m).1 _ _ g1
  have sh : ∃ A n c, List.take 1 [c0, c1, c2, c3, c4] = [.slice A n c] := by
    rcases DataW.trod_slice Tryz.underlying26 g0 with h0 | ⟨a, len, cap, elems, rest, n, _, h1, _⟩
    · exact ⟨none, 0, 0, h0.1⟩
    · exact ⟨some a, len, cap, h1⟩
  obtain ⟨Al, k, ca, e3⟩ := sh
  rw [e3] at g0
  obtain ⟨all, hl2, hr⟩ := open_ints g0
  simp at e3 h1
  subst e3 hl2
  obtain ⟨rfl, rfl, rfl, rfl⟩ := h1
  exact ⟨all, Al, ca, V, A, c, by rw [arr_of e], hr, h3⟩
end
section
variable {H : Type} {enc : TypeId × Value → H} {w : World} {base : Nat}
theorem slice_len {fuel n c : Nat} {A : Option Addr} {e t : TypeId} (ht : Tryz.prog.underlying t = some (.slice e)) {x : DataW H × List MemPlace} (h : DataW.trod enc Tryz.prog w base (fun _ => true) true fuel t [.slice A n c] = some x) : n ≤ 9223372036854775807 := by
  rcases DataW.trod_slice ht h with h0 | ⟨a', len, cap, elems, rest, m, hm, hcs, _, hb, hl, hmx, _⟩
  · have := h0.1
    simp at this
    omega
  · simp at hcs
    obtain ⟨rfl, rfl, rfl⟩ := hcs
    unfold maxLen at hmx
    omega
def shapeS (w : World) (cs : List Value) (E : List Int × TT) : Prop := ∃ Al ca A c, cs = [.slice Al E.1.length ca, .int .i64 E.2.k, .string E.2.nm, .int .i64 E.2.vr, .slice A E.2.args.length c] ∧ IRow w Al E.1 ∧ TRow w any0 A E.2.args ∧ E.1.length ≤ 9223372036854775807
set_option maxRecDepth 100000 in
theorem open_S {fuel : Nat} {cs : List Value} {x : DataW H × List MemPlace} (h : DataW.trod enc Tryz.prog w base (fun _ => true) true fuel 28 cs = some x) : ∃ E, shapeS w cs E := by
  obtain ⟨ys, m, hm, _, hl, hlen, hf⟩ := DataW.trod_struct Tryz.underlying28 h
  rw [cellsSch] at hl
  obtain ⟨c0, c1, c2, c3, c4, rfl⟩ : ∃ c0 c1 c2 c3 c4, cs = [c0, c1, c2, c3, c4] := by
    match cs, hl with
    | [c0, c1, c2, c3, c4], _ => exact ⟨_, _, _, _, _, rfl⟩
  have g0 : DataW.trod enc Tryz.prog w base (fun _ => true) true m 26 (List.take (Tryz.prog.cellsOf 26) [c0, c1, c2, c3, c4]) = ys[0]? := hf 0 _ rfl
  have g1 : DataW.trod enc Tryz.prog w base (fun _ => true) true m 24 (List.take (Tryz.prog.cellsOf 24) [c1, c2, c3, c4]) = ys[1]? := hf 1 _ rfl
  rw [cellsInts] at g0
  rw [cellsTy] at g1
  have hl7 : ys.length = 2 := hlen
  rw [List.getElem?_eq_getElem (by omega)] at g0 g1
  obtain ⟨V, A, c, h1, h3⟩ := (open_T m).1 _ _ g1
  have sh : ∃ A n c, List.take 1 [c0, c1, c2, c3, c4] = [.slice A n c] := by
    rcases DataW.trod_slice Tryz.underlying26 g0 with h0 | ⟨a, len, cap, elems, rest, n, _, h1, _⟩
    · exact ⟨none, 0, 0, h0.1⟩
    · exact ⟨some a, len, cap, h1⟩
  obtain ⟨Al, k, ca, e3⟩ := sh
  rw [e3] at g0
  have hln := slice_len Tryz.underlying26 g0
  obtain ⟨all, hl2, hr⟩ := open_ints g0
  simp at e3 h1
  subst e3 hl2
  obtain ⟨rfl, rfl, rfl, rfl⟩ := h1
  exact ⟨(all, V), Al, ca, A, c, rfl, hr, h3, hln⟩
set_option maxRecDepth 100000 in
theorem open_SRow {r : Reach} {b0 : Nat} {v : Value} {d : DataW H} {p : List MemPlace} (ow : Value.okWide Tryz.prog w r b0 25 v) (h : DataW.Trod enc Tryz.prog w base (fun _ => true) true 25 v d p) : ∃ (Ae : Option Addr) (E : List (List Int × TT)) (ce : Nat), v = .slice Ae E.length ce ∧ SRow w Ae E ∧ (∀ x ∈ E, x.1.length ≤ 9223372036854775807) ∧ E.length ≤ 9223372036854775807 := by
  obtain ⟨A, n, c, rfl⟩ := okWide_slice Tryz.underlying25 ow
  obtain ⟨fuel, hf⟩ := h
  have hf : DataW.trod enc Tryz.prog w base (fun _ => true) true fuel 25 [.slice A n c] = some (d, p) := hf
  have hln := slice_len Tryz.underlying25 hf
  by_cases hpos : n = 0
  · subst hpos; exact ⟨A, [], c, rfl, .inl rfl, fun x hx => (by cases hx), by simp⟩
  rcases DataW.trod_slice Tryz.underlying25 hf with h0 | ⟨a', len, cap, elems, rest, m, hm, hcs, _, hb, hl, hmx, hlen, hel, _, _⟩
  · have := h0.1
    simp at this
    omega
  simp at hcs
  obtain ⟨rfl, rfl, rfl⟩ := hcs
  rw [cellsSch] at hel
  have each : ∀ i, i < n → ∃ cs, w.cells? base (a'.add (i * 5)) 5 = some cs ∧ ∃ E, shapeS w cs E := fun i hi => by
    have he := hel i hi
    rw [List.getElem?_eq_getElem (by omega), Option.bind_eq_some_iff] at he
    obtain ⟨cs, hc, ht⟩ := he
    exact ⟨cs, hc, open_S ht⟩
  obtain ⟨b, o, rfl, hblt, hrow⟩ := row_at (w := w) (base := base) (sz := 5) (by omega) (by omega) (fun i hi => ⟨_, (each i hi).choose_spec.1⟩)
  obtain ⟨R, hR⟩ := Classical.axiomOfChoice (fun i : Fin n => (⟨_, (each i i.2).choose_spec⟩ : ∃ cs, w.cells? base ((⟨b, o, none⟩ : Addr).add (i * 5)) 5 = some cs ∧ ∃ E, shapeS w cs E))
  obtain ⟨F, hF⟩ := Classical.axiomOfChoice (fun i : Fin n => (hR i).2)
  refine ⟨some ⟨b, o, none⟩, List.ofFn F, c, by simp, .inr ⟨b, o, rfl, hblt, fun i hi => ?_⟩, fun x hx => ?_, by simpa using hln⟩
  · have hin : i < n := by simpa using hi
    have hx := hrow i hin _ (hR ⟨i, hin⟩).1
    rw [List.getElem_ofFn]
    obtain ⟨Al, ca, A', c', e, q1, q2, q3⟩ := hF ⟨i, hin⟩
    rw [e] at hx
    have x0 := hx 0 (by simp)
    have x1 := hx 1 (by simp)
    have x2 := hx 2 (by simp)
    have x3 := hx 3 (by simp)
    have x4 := hx 4 (by simp)
    rw [Nat.add_zero] at x0
    exact ⟨Al, ca, A', c', x0, x1, x2, x3, x4, q1, q2⟩
  · obtain ⟨i, rfl⟩ := (List.mem_ofFn).1 hx
    obtain ⟨Al, ca, A', c', e, q1, q2, q3⟩ := hF i
    exact q3
end
end Go.Proofs.YtifopogkbjhkjaaGreatDoor
