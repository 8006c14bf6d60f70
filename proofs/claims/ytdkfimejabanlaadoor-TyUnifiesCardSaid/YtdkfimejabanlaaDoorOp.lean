import Derived.Test.YtdkfimejabanlaaDoorTt
import Derived.Carry
import Derived.ChangeSlices
import Derived.DataOpen
namespace Go.Proofs.YtdkfimejabanlaaDoor
open Go.ChangeShapes Go.WideShapes Go.ChangeAt Go.RowKit
set_option linter.unusedVariables false
theorem cellsTy : Tryd.prog.cellsOf 27 = 4 := by kernel_rfl
theorem cellsInt : Tryd.prog.cellsOf 3 = 1 := by kernel_rfl
theorem cellsStr : Tryd.prog.cellsOf 9 = 1 := by kernel_rfl
theorem cellsRow : Tryd.prog.cellsOf 25 = 1 := by kernel_rfl
theorem addr_add (a : Addr) (i j : Nat) : (a.add i).add j = a.add (i + j) := by
  unfold Addr.add
  by_cases hi : i = 0 <;> by_cases hj : j = 0 <;> simp [hi, hj, Nat.add_assoc]
theorem okTL_of {w : World} {b : Nat} : ∀ (l : List TT) (o : Nat), (∀ i (h : i < l.length), okT w any0 l[i] b (o + i * 4)) → okTL w any0 l b o
  | [], _, _ => by rw [okTL]; trivial
  | v :: l, o, h => by
    rw [okTL]
    have h0 : okT w any0 v b (o + 0 * 4) := h 0 (by simp)
    rw [Nat.zero_mul, Nat.add_zero] at h0
    refine ⟨h0, okTL_of l (o + 4) fun i hi => ?_⟩
    have := h (i + 1) (by simpa using hi)
    rw [show o + 4 + i * 4 = o + (i + 1) * 4 by omega]; simpa using this
section
variable {H : Type} {enc : TypeId × Value → H} {w : World} {base : Nat}
/-- a row of n elements of sz cells at a: the block, and each element's cells. -/
theorem row_at {a : Addr} {n sz : Nat} (hsz : 0 < sz) (hn : 0 < n) (h : ∀ i, i < n → ∃ cs, w.cells? base (a.add (i * sz)) sz = some cs) : ∃ b o, a = ⟨b, o, none⟩ ∧ b < w.heap.size ∧ ∀ i, i < n → ∀ cs, w.cells? base (a.add (i * sz)) sz = some cs → ∀ j (hj : j < cs.length), w.cell? ⟨b, o + i * sz + j, none⟩ = some cs[j] := by
  obtain ⟨cs0, h0⟩ := h 0 hn
  obtain ⟨-, hl0, hc0⟩ := World.cells?_some h0
  have h1 : w.cell? ((a.add (0 * sz)).add 0) = some (cs0[0]'(by omega)) := by
    have := hc0 0 (by omega)
    rw [this, List.getElem?_eq_getElem (by omega)]
  rw [addr_add] at h1
  have hsp := World.cell?_spot h1
  have hlt := World.block_lt_of_cell? w _ h1
  obtain ⟨b, o, spot⟩ := a
  have hs : spot = none := by simpa [Addr.add] using hsp
  subst hs
  refine ⟨b, o, rfl, by simpa [Addr.add] using hlt, fun i hi cs hcs j hj => ?_⟩
  obtain ⟨-, hl, hc⟩ := World.cells?_some hcs
  have := hc j (by omega)
  rw [addr_add, Go.WideShapes.add_plain, List.getElem?_eq_getElem hj] at this
  rw [show o + i * sz + j = o + (i * sz + j) by omega]; exact this
def shapeT (w : World) (cs : List Value) (T : TT) : Prop := ∃ A c, cs = [.int .i64 T.k, .string T.nm, .int .i64 T.vr, .slice A T.args.length c] ∧ TRow w any0 A T.args
set_option maxRecDepth 100000 in
theorem open_T : ∀ (fuel : Nat), (∀ (cs : List Value) (x : DataW H × List MemPlace), DataW.trod enc Tryd.prog w base (fun _ => true) true fuel 27 cs = some x → ∃ T, shapeT w cs T) ∧
    (∀ (A : Option Addr) (n c : Nat) (x : DataW H × List MemPlace), DataW.trod enc Tryd.prog w base (fun _ => true) true fuel 25 [.slice A n c] = some x → ∃ l : List TT, l.length = n ∧ TRow w any0 A l) := by
  intro fuel
  induction fuel using Nat.strongRecOn with
  | _ fuel ih =>
  refine ⟨fun cs x h => ?_, fun A n c x h => ?_⟩
  · obtain ⟨ys, m, hm, _, hl, hlen, hf⟩ := DataW.trod_struct Tryd.underlying27 h
    rw [cellsTy] at hl
    obtain ⟨c0, c1, c2, c3, rfl⟩ : ∃ c0 c1 c2 c3, cs = [c0, c1, c2, c3] := by
      match cs, hl with
      | [c0, c1, c2, c3], _ => exact ⟨_, _, _, _, rfl⟩
    have g0 : DataW.trod enc Tryd.prog w base (fun _ => true) true m 3 (List.take (Tryd.prog.cellsOf 3) [c0, c1, c2, c3]) = ys[0]? := hf 0 _ rfl
    have g1 : DataW.trod enc Tryd.prog w base (fun _ => true) true m 9 (List.take (Tryd.prog.cellsOf 9) [c1, c2, c3]) = ys[1]? := hf 1 _ rfl
    have g2 : DataW.trod enc Tryd.prog w base (fun _ => true) true m 3 (List.take (Tryd.prog.cellsOf 3) [c2, c3]) = ys[2]? := hf 2 _ rfl
    have g3 : DataW.trod enc Tryd.prog w base (fun _ => true) true m 25 (List.take (Tryd.prog.cellsOf 25) [c3]) = ys[3]? := hf 3 _ rfl
    rw [cellsInt] at g0 g2
    rw [cellsStr] at g1
    rw [cellsRow] at g3
    have hl7 : ys.length = 4 := hlen
    rw [List.getElem?_eq_getElem (by omega)] at g0 g1 g2 g3
    obtain ⟨x0, e0, _, w0⟩ := DataW.trod_int Tryd.underlying3 g0
    obtain ⟨x1, e1, _, w1⟩ := DataW.trod_string Tryd.underlying9 g1
    obtain ⟨x2, e2, _, w2⟩ := DataW.trod_int Tryd.underlying3 g2
    simp at e0 e1 e2
    subst e0 e1 e2
    have sh : ∃ A n c, List.take 1 [c3] = [.slice A n c] := by
      rcases DataW.trod_slice Tryd.underlying25 g3 with h0 | ⟨a, len, cap, elems, rest, n, _, h1, _⟩
      · exact ⟨none, 0, 0, h0.1⟩
      · exact ⟨some a, len, cap, h1⟩
    obtain ⟨A, k, c, e3⟩ := sh
    rw [e3] at g3
    obtain ⟨l, hl2, hr⟩ := (ih m (by omega)).2 A k c _ g3
    simp at e3
    subst e3
    subst hl2
    exact ⟨.mk x0 x1 x2 l, A, c, rfl, hr⟩
  · by_cases hpos : n = 0
    · subst hpos; exact ⟨[], rfl, .inl rfl⟩
    rcases DataW.trod_slice Tryd.underlying25 h with h0 | ⟨a', len, cap, elems, rest, m, hm, hcs, _, hb, hl, hmx, hlen, hel, _, _⟩
    · have := h0.1
      simp at this
      omega
    simp at hcs
    obtain ⟨rfl, rfl, rfl⟩ := hcs
    rw [cellsTy] at hel
    have each : ∀ i, i < n → ∃ cs, w.cells? base (a'.add (i * 4)) 4 = some cs ∧ ∃ V, shapeT w cs V := fun i hi => by
      have he := hel i hi
      rw [List.getElem?_eq_getElem (by omega), Option.bind_eq_some_iff] at he
      obtain ⟨cs, hc, ht⟩ := he
      exact ⟨cs, hc, (ih m (by omega)).1 cs _ ht⟩
    obtain ⟨b, o, rfl, hblt, hrow⟩ := row_at (w := w) (base := base) (sz := 4) (by omega) (by omega) (fun i hi => ⟨_, (each i hi).choose_spec.1⟩)
    obtain ⟨R, hR⟩ := Classical.axiomOfChoice (fun i : Fin n => (⟨_, (each i i.2).choose_spec⟩ : ∃ cs, w.cells? base ((⟨b, o, none⟩ : Addr).add (i * 4)) 4 = some cs ∧ ∃ V, shapeT w cs V))
    obtain ⟨F, hF⟩ := Classical.axiomOfChoice (fun i : Fin n => (hR i).2)
    refine ⟨List.ofFn F, by simp, .inr ⟨b, o, rfl, hblt, trivial, okTL_of _ _ fun i hi => ?_⟩⟩
    have hin : i < n := by simpa using hi
    obtain ⟨A, c, hcs, hvr⟩ := hF ⟨i, hin⟩
    have hx := hrow i hin _ (hR ⟨i, hin⟩).1
    rw [List.getElem_ofFn]
    rw [okT_eq]
    rw [hcs] at hx
    exact ⟨hx 0 (by simp), hx 1 (by simp), hx 2 (by simp), ⟨A, c, hx 3 (by simp), hvr⟩⟩
theorem arr_of {cs : Array Value} {l : List Value} (h : cs.toList = l) : cs = l.toArray := Array.ext' h
set_option maxRecDepth 100000 in
theorem open_argT {r : Reach} {b0 : Nat} {v : Value} {d : DataW H} {p : List MemPlace} (o : Value.okWide Tryd.prog w r b0 27 v) (h : DataW.Trod enc Tryd.prog w base (fun _ => true) true 27 v d p) : ∃ T, TIn w any0 T v := by
  obtain ⟨cs, rfl, hsz⟩ := okWide_struct Tryd.underlying27 o
  obtain ⟨fuel, hf⟩ := h
  obtain ⟨V, A, c, h1, h3⟩ := (open_T fuel).1 _ _ hf
  have h1 : cs.toList = _ := h1
  exact ⟨V, A, c, by rw [arr_of h1]; rfl, h3⟩
end
end Go.Proofs.YtdkfimejabanlaaDoor
