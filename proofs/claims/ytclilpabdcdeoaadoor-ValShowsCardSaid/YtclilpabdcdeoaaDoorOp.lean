import Derived.Test.YtclilpabdcdeoaaDoorRl
import Derived.Carry
import Derived.ChangeSlices
import Derived.DataOpen
namespace Go.Proofs.YtclilpabdcdeoaaDoor
open Go.ChangeShapes Go.WideShapes Go.ChangeAt Go.RowKit
set_option linter.unusedVariables false
theorem cellsOf26 : Tryd.prog.cellsOf 26 = 7 := by kernel_rfl
theorem cellsOf34 : Tryd.prog.cellsOf 34 = 4 := by kernel_rfl
theorem cellsOf37 : Tryd.prog.cellsOf 37 = 2 := by kernel_rfl
theorem cellsOf2 : Tryd.prog.cellsOf 2 = 1 := by kernel_rfl
theorem cellsOf3 : Tryd.prog.cellsOf 3 = 1 := by kernel_rfl
theorem cellsOf9 : Tryd.prog.cellsOf 9 = 1 := by kernel_rfl
theorem cellsOf23 : Tryd.prog.cellsOf 23 = 1 := by kernel_rfl
theorem cellsOf24 : Tryd.prog.cellsOf 24 = 1 := by kernel_rfl
theorem cellsOf32 : Tryd.prog.cellsOf 32 = 1 := by kernel_rfl
theorem cellsOf35 : Tryd.prog.cellsOf 35 = 1 := by kernel_rfl
theorem addr_add (a : Addr) (i j : Nat) : (a.add i).add j = a.add (i + j) := by
  unfold Addr.add
  by_cases hi : i = 0 <;> by_cases hj : j = 0 <;> simp [hi, hj, Nat.add_assoc]
theorem okL_of {w : World} {b : Nat} : ∀ (l : List VT) (o : Nat), (∀ i (h : i < l.length), okV w l[i] b (o + i * 7)) → okL w l b o
  | [], _, _ => by rw [okL]; trivial
  | v :: l, o, h => by
    rw [okL]
    have h0 : okV w v b (o + 0 * 7) := h 0 (by simp)
    rw [Nat.zero_mul, Nat.add_zero] at h0
    refine ⟨h0, okL_of l (o + 7) fun i hi => ?_⟩
    have := h (i + 1) (by simpa using hi)
    rw [show o + 7 + i * 7 = o + (i + 1) * 7 by omega]; simpa using this
theorem okTL_of {w : World} {b : Nat} : ∀ (l : List TT) (o : Nat), (∀ i (h : i < l.length), okT w l[i] b (o + i * 4)) → okTL w l b o
  | [], _, _ => by rw [okTL]; trivial
  | v :: l, o, h => by
    rw [okTL]
    have h0 : okT w v b (o + 0 * 4) := h 0 (by simp)
    rw [Nat.zero_mul, Nat.add_zero] at h0
    refine ⟨h0, okTL_of l (o + 4) fun i hi => ?_⟩
    have := h (i + 1) (by simpa using hi)
    rw [show o + 4 + i * 4 = o + (i + 1) * 4 by omega]; simpa using this
section
variable {H : Type} {enc : TypeId × Value → H} {w : World} {base : Nat}
/-- a row of n elements of sz cells at a: the block, and each element's cells. -/
theorem row_at {a : Addr} {n sz : Nat} (hsz : 0 < sz) (hn : 0 < n) (h : ∀ i, i < n → ∃ cs, w.cells? base (a.add (i * sz)) sz = some cs) : ∃ b o, a = ⟨b, o, none⟩ ∧ b < w.heap.size ∧ ∀ i, i < n → ∀ cs, w.cells? base (a.add (i * sz)) sz = some cs → ∀ j (hj : j < cs.length), w.cell? ⟨b, o + i * sz + j, none⟩ = some cs[j] := by
  obtain ⟨cs0, h0⟩ := h 0 hn
  obtain ⟨-, hl0, hc0⟩ := World.cells?_some h0
  have h1 : w.cell? ((a.add (0 * sz)).add 0) = some (cs0[0]'(by omega)) := by
    have := hc0 0 (by omega)
    rw [this, List.getElem?_eq_getElem (by omega)]
  rw [addr_add] at h1
  have hsp := World.cell?_spot h1
  have hlt := World.block_lt_of_cell? w _ h1
  obtain ⟨b, o, spot⟩ := a
  have hs : spot = none := by simpa [Addr.add] using hsp
  subst hs
  refine ⟨b, o, rfl, by simpa [Addr.add] using hlt, fun i hi cs hcs j hj => ?_⟩
  obtain ⟨-, hl, hc⟩ := World.cells?_some hcs
  have := hc j (by omega)
  rw [addr_add, Go.WideShapes.add_plain, List.getElem?_eq_getElem hj] at this
  rw [show o + i * sz + j = o + (i * sz + j) by omega]; exact this
def shapeV (w : World) (cs : List Value) (V : VT) : Prop := ∃ A c e, cs = [.int .i64 V.k, .int .i64 V.n, .string V.nm, .slice A V.args.length c, .int .i64 V.node, e, .int .i64 V.at_] ∧ (-9223372036854775808 ≤ V.n ∧ V.n ≤ 9223372036854775807) ∧ VRow w A V.args
theorem wf_i64_bounds {n : Int} (h : (Lit.int .i64 n).wf = true) : -9223372036854775808 ≤ n ∧ n ≤ 9223372036854775807 := by
  have h2 : IntKind.i64.min ≤ n ∧ n ≤ IntKind.i64.max := by simpa [Lit.wf] using h
  exact ⟨Int.le_trans (by decide) h2.1, Int.le_trans h2.2 (by decide)⟩
set_option maxRecDepth 100000 in
theorem open_V : ∀ (fuel : Nat), (∀ (cs : List Value) (x : DataW H × List MemPlace), DataW.trod enc Tryd.prog w base (fun _ => true) true fuel 26 cs = some x → ∃ V, shapeV w cs V) ∧
    (∀ (A : Option Addr) (n c : Nat) (x : DataW H × List MemPlace), DataW.trod enc Tryd.prog w base (fun _ => true) true fuel 23 [.slice A n c] = some x → ∃ l : List VT, l.length = n ∧ VRow w A l) := by
  intro fuel
  induction fuel using Nat.strongRecOn with
  | _ fuel ih =>
  refine ⟨fun cs x h => ?_, fun A n c x h => ?_⟩
  · obtain ⟨ys, m, hm, _, hl, hlen, hf⟩ := DataW.trod_struct Tryd.underlying26 h
    rw [cellsOf26] at hl
    obtain ⟨c0, c1, c2, c3, c4, c5, c6, rfl⟩ : ∃ c0 c1 c2 c3 c4 c5 c6, cs = [c0, c1, c2, c3, c4, c5, c6] := by
      match cs, hl with
      | [c0, c1, c2, c3, c4, c5, c6], _ => exact ⟨_, _, _, _, _, _, _, rfl⟩
    have g0 : DataW.trod enc Tryd.prog w base (fun _ => true) true m 3 (List.take (Tryd.prog.cellsOf 3) [c0, c1, c2, c3, c4, c5, c6]) = ys[0]? := hf 0 _ rfl
    have g1 : DataW.trod enc Tryd.prog w base (fun _ => true) true m 2 (List.take (Tryd.prog.cellsOf 2) [c1, c2, c3, c4, c5, c6]) = ys[1]? := hf 1 _ rfl
    have g2 : DataW.trod enc Tryd.prog w base (fun _ => true) true m 9 (List.take (Tryd.prog.cellsOf 9) [c2, c3, c4, c5, c6]) = ys[2]? := hf 2 _ rfl
    have g3 : DataW.trod enc Tryd.prog w base (fun _ => true) true m 23 (List.take (Tryd.prog.cellsOf 23) [c3, c4, c5, c6]) = ys[3]? := hf 3 _ rfl
    have g4 : DataW.trod enc Tryd.prog w base (fun _ => true) true m 3 (List.take (Tryd.prog.cellsOf 3) [c4, c5, c6]) = ys[4]? := hf 4 _ rfl
    have g6 : DataW.trod enc Tryd.prog w base (fun _ => true) true m 3 (List.take (Tryd.prog.cellsOf 3) [c6]) = ys[6]? := hf 6 _ rfl
    rw [cellsOf3] at g0 g4 g6
    rw [cellsOf2] at g1
    rw [cellsOf9] at g2
    rw [cellsOf23] at g3
    have hl7 : ys.length = 7 := hlen
    rw [List.getElem?_eq_getElem (by omega)] at g0 g1 g2 g3 g4 g6
    obtain ⟨x0, e0, _, w0⟩ := DataW.trod_int Tryd.underlying3 g0
    obtain ⟨x1, e1, _, w1⟩ := DataW.trod_int Tryd.underlying2 g1
    obtain ⟨x2, e2, _, w2⟩ := DataW.trod_string Tryd.underlying9 g2
    obtain ⟨x4, e4, _, w4⟩ := DataW.trod_int Tryd.underlying3 g4
    obtain ⟨x6, e6, _, w6⟩ := DataW.trod_int Tryd.underlying3 g6
    simp at e0 e1 e2 e4 e6
    subst e0 e1 e2 e4 e6
    have sh : ∃ A n c, List.take 1 [c3, .int .i64 x4, c5, .int .i64 x6] = [.slice A n c] := by
      rcases DataW.trod_slice Tryd.underlying23 g3 with h0 | ⟨a, len, cap, elems, rest, n, _, h1, _⟩
      · exact ⟨none, 0, 0, h0.1⟩
      · exact ⟨some a, len, cap, h1⟩
    obtain ⟨A, k, c, e3⟩ := sh
    rw [e3] at g3
    obtain ⟨l, hl2, hr⟩ := (ih m (by omega)).2 A k c _ g3
    simp at e3
    subst e3
    subst hl2
    exact ⟨.mk x0 x1 x2 l x4 x6, A, c, c5, rfl, wf_i64_bounds w1, hr⟩
  · by_cases hpos : n = 0
    · subst hpos; exact ⟨[], rfl, .inl rfl⟩
    rcases DataW.trod_slice Tryd.underlying23 h with h0 | ⟨a', len, cap, elems, rest, m, hm, hcs, _, hb, hl, hmx, hlen, hel, _, _⟩
    · have := h0.1
      simp at this
      omega
    simp at hcs
    obtain ⟨rfl, rfl, rfl⟩ := hcs
    rw [cellsOf26] at hel
    have each : ∀ i, i < n → ∃ cs, w.cells? base (a'.add (i * 7)) 7 = some cs ∧ ∃ V, shapeV w cs V := fun i hi => by
      have he := hel i hi
      rw [List.getElem?_eq_getElem (by omega), Option.bind_eq_some_iff] at he
      obtain ⟨cs, hc, ht⟩ := he
      exact ⟨cs, hc, (ih m (by omega)).1 cs _ ht⟩
    obtain ⟨b, o, rfl, hblt, hrow⟩ := row_at (w := w) (base := base) (sz := 7) (by omega) (by omega) (fun i hi => ⟨_, (each i hi).choose_spec.1⟩)
    obtain ⟨R, hR⟩ := Classical.axiomOfChoice (fun i : Fin n => (⟨_, (each i i.2).choose_spec⟩ : ∃ cs, w.cells? base ((⟨b, o, none⟩ : Addr).add (i * 7)) 7 = some cs ∧ ∃ V, shapeV w cs V))
    obtain ⟨F, hF⟩ := Classical.axiomOfChoice (fun i : Fin n => (hR i).2)
    refine ⟨List.ofFn F, by simp, .inr ⟨b, o, rfl, hblt, okL_of _ _ fun i hi => ?_⟩⟩
    have hin : i < n := by simpa using hi
    obtain ⟨A, c, e, hcs, hnb, hvr⟩ := hF ⟨i, hin⟩
    have hx := hrow i hin _ (hR ⟨i, hin⟩).1
    rw [List.getElem_ofFn]
    rw [okV_eq]
    rw [hcs] at hx
    exact ⟨hblt, hnb, hx 0 (by simp), hx 1 (by simp), hx 2 (by simp), ⟨A, c, hx 3 (by simp), hvr⟩, hx 4 (by simp), ⟨e, hx 5 (by simp)⟩, hx 6 (by simp)⟩
def shapeT (w : World) (cs : List Value) (T : TT) : Prop := ∃ A c, cs = [.int .i64 T.k, .string T.nm, .int .i64 T.vr, .slice A T.args.length c] ∧ TRow w A T.args
set_option maxRecDepth 100000 in
theorem open_T : ∀ (fuel : Nat), (∀ (cs : List Value) (x : DataW H × List MemPlace), DataW.trod enc Tryd.prog w base (fun _ => true) true fuel 34 cs = some x → ∃ T, shapeT w cs T) ∧
    (∀ (A : Option Addr) (n c : Nat) (x : DataW H × List MemPlace), DataW.trod enc Tryd.prog w base (fun _ => true) true fuel 32 [.slice A n c] = some x → ∃ l : List TT, l.length = n ∧ TRow w A l) := by
  intro fuel
  induction fuel using Nat.strongRecOn with
  | _ fuel ih =>
  refine ⟨fun cs x h => ?_, fun A n c x h => ?_⟩
  · obtain ⟨ys, m, hm, _, hl, hlen, hf⟩ := DataW.trod_struct Tryd.underlying34 h
    rw [cellsOf34] at hl
    obtain ⟨c0, c1, c2, c3, rfl⟩ : ∃ c0 c1 c2 c3, cs = [c0, c1, c2, c3] := by
      match cs, hl with
      | [c0, c1, c2, c3], _ => exact ⟨_, _, _, _, rfl⟩
    have g0 : DataW.trod enc Tryd.prog w base (fun _ => true) true m 3 (List.take (Tryd.prog.cellsOf 3) [c0, c1, c2, c3]) = ys[0]? := hf 0 _ rfl
    have g1 : DataW.trod enc Tryd.prog w base (fun _ => true) true m 9 (List.take (Tryd.prog.cellsOf 9) [c1, c2, c3]) = ys[1]? := hf 1 _ rfl
    have g2 : DataW.trod enc Tryd.prog w base (fun _ => true) true m 3 (List.take (Tryd.prog.cellsOf 3) [c2, c3]) = ys[2]? := hf 2 _ rfl
    have g3 : DataW.trod enc Tryd.prog w base (fun _ => true) true m 32 (List.take (Tryd.prog.cellsOf 32) [c3]) = ys[3]? := hf 3 _ rfl
    rw [cellsOf3] at g0 g2
    rw [cellsOf9] at g1
    rw [cellsOf32] at g3
    have hl7 : ys.length = 4 := hlen
    rw [List.getElem?_eq_getElem (by omega)] at g0 g1 g2 g3
    obtain ⟨x0, e0, _, w0⟩ := DataW.trod_int Tryd.underlying3 g0
    obtain ⟨x1, e1, _, w1⟩ := DataW.trod_string Tryd.underlying9 g1
    obtain ⟨x2, e2, _, w2⟩ := DataW.trod_int Tryd.underlying3 g2
    simp at e0 e1 e2
    subst e0 e1 e2
    have sh : ∃ A n c, List.take 1 [c3] = [.slice A n c] := by
      rcases DataW.trod_slice Tryd.underlying32 g3 with h0 | ⟨a, len, cap, elems, rest, n, _, h1, _⟩
      · exact ⟨none, 0, 0, h0.1⟩
      · exact ⟨some a, len, cap, h1⟩
    obtain ⟨A, k, c, e3⟩ := sh
    rw [e3] at g3
    obtain ⟨l, hl2, hr⟩ := (ih m (by omega)).2 A k c _ g3
    simp at e3
    subst e3
    subst hl2
    exact ⟨.mk x0 x1 x2 l, A, c, rfl, hr⟩
  · by_cases hpos : n = 0
    · subst hpos; exact ⟨[], rfl, .inl rfl⟩
    rcases DataW.trod_slice Tryd.underlying32 h with h0 | ⟨a', len, cap, elems, rest, m, hm, hcs, _, hb, hl, hmx, hlen, hel, _, _⟩
    · have := h0.1
      simp at this
      omega
    simp at hcs
    obtain ⟨rfl, rfl, rfl⟩ := hcs
    rw [cellsOf34] at hel
    have each : ∀ i, i < n → ∃ cs, w.cells? base (a'.add (i * 4)) 4 = some cs ∧ ∃ V, shapeT w cs V := fun i hi => by
      have he := hel i hi
      rw [List.getElem?_eq_getElem (by omega), Option.bind_eq_some_iff] at he
      obtain ⟨cs, hc, ht⟩ := he
      exact ⟨cs, hc, (ih m (by omega)).1 cs _ ht⟩
    obtain ⟨b, o, rfl, hblt, hrow⟩ := row_at (w := w) (base := base) (sz := 4) (by omega) (by omega) (fun i hi => ⟨_, (each i hi).choose_spec.1⟩)
    obtain ⟨R, hR⟩ := Classical.axiomOfChoice (fun i : Fin n => (⟨_, (each i i.2).choose_spec⟩ : ∃ cs, w.cells? base ((⟨b, o, none⟩ : Addr).add (i * 4)) 4 = some cs ∧ ∃ V, shapeT w cs V))
    obtain ⟨F, hF⟩ := Classical.axiomOfChoice (fun i : Fin n => (hR i).2)
    refine ⟨List.ofFn F, by simp, .inr ⟨b, o, rfl, hblt, okTL_of _ _ fun i hi => ?_⟩⟩
    have hin : i < n := by simpa using hi
    obtain ⟨A, c, hcs, hvr⟩ := hF ⟨i, hin⟩
    have hx := hrow i hin _ (hR ⟨i, hin⟩).1
    rw [List.getElem_ofFn]
    rw [okT_eq]
    rw [hcs] at hx
    exact ⟨hblt, hx 0 (by simp), hx 1 (by simp), hx 2 (by simp), ⟨A, c, hx 3 (by simp), hvr⟩⟩
theorem open_Tx {fuel n c : Nat} {A : Option Addr} {x : DataW H × List MemPlace} (h : DataW.trod enc Tryd.prog w base (fun _ => true) true fuel 35 [.slice A n c] = some x) : ∃ l : List ByteArray, l.length = n ∧ TxRow w A l := by
  by_cases hpos : n = 0
  · subst hpos; exact ⟨[], rfl, .inl rfl⟩
  rcases DataW.trod_slice Tryd.underlying35 h with h0 | ⟨a', len, cap, elems, rest, m, hm, hcs, _, hb, hl, hmx, hlen, hel, _, _⟩
  · have := h0.1
    simp at this
    omega
  simp at hcs
  obtain ⟨rfl, rfl, rfl⟩ := hcs
  rw [cellsOf9] at hel
  have each : ∀ i, i < n → ∃ cs, w.cells? base (a'.add (i * 1)) 1 = some cs ∧ ∃ s : ByteArray, cs = [.string s] := fun i hi => by
    have he := hel i hi
    rw [List.getElem?_eq_getElem (by omega), Option.bind_eq_some_iff] at he
    obtain ⟨cs, hc, ht⟩ := he
    obtain ⟨s, e, _⟩ := DataW.trod_string Tryd.underlying9 ht
    exact ⟨cs, hc, s, e⟩
  obtain ⟨b, o, rfl, hblt, hrow⟩ := row_at (w := w) (base := base) (sz := 1) (by omega) (by omega) (fun i hi => ⟨_, (each i hi).choose_spec.1⟩)
  obtain ⟨R, hR⟩ := Classical.axiomOfChoice (fun i : Fin n => (⟨_, (each i i.2).choose_spec⟩ : ∃ cs, w.cells? base ((⟨b, o, none⟩ : Addr).add (i * 1)) 1 = some cs ∧ ∃ s : ByteArray, cs = [.string s]))
  obtain ⟨F, hF⟩ := Classical.axiomOfChoice (fun i : Fin n => (hR i).2)
  refine ⟨List.ofFn F, by simp, .inr ⟨b, o, rfl, hblt, fun i hi => ?_⟩⟩
  have hin : i < n := by simpa using hi
  have hx := hrow i hin _ (hR ⟨i, hin⟩).1
  rw [List.getElem_ofFn]
  rw [hF ⟨i, hin⟩] at hx
  have := hx 0 (by simp)
  rw [Nat.mul_one] at this
  exact this
set_option maxRecDepth 100000 in
theorem open_C {fuel n c : Nat} {A : Option Addr} {x : DataW H × List MemPlace} (h : DataW.trod enc Tryd.prog w base (fun _ => true) true fuel 38 [.slice A n c] = some x) : ∃ l : List CN, l.length = n ∧ CRow w A l := by
  by_cases hpos : n = 0
  · subst hpos; exact ⟨[], rfl, .inl rfl⟩
  rcases DataW.trod_slice Tryd.underlying38 h with h0 | ⟨a', len, cap, elems, rest, m, hm, hcs, _, hb, hl, hmx, hlen, hel, _, _⟩
  · have := h0.1
    simp at this
    omega
  simp at hcs
  obtain ⟨rfl, rfl, rfl⟩ := hcs
  rw [cellsOf37] at hel
  have each : ∀ i, i < n → ∃ cs, w.cells? base (a'.add (i * 2)) 2 = some cs ∧ ∃ C : CN, ∃ A' c', cs = [.string C.name, .slice A' C.types.length c'] ∧ TxRow w A' C.types := fun i hi => by
    have he := hel i hi
    rw [List.getElem?_eq_getElem (by omega), Option.bind_eq_some_iff] at he
    obtain ⟨cs, hc, ht⟩ := he
    obtain ⟨ys, m', _, _, hl, hlen, hf⟩ := DataW.trod_struct Tryd.underlying37 ht
    rw [cellsOf37] at hl
    obtain ⟨c0, c1, rfl⟩ : ∃ c0 c1, cs = [c0, c1] := by
      match cs, hl with
      | [c0, c1], _ => exact ⟨_, _, rfl⟩
    have g0 : DataW.trod enc Tryd.prog w base (fun _ => true) true m' 9 (List.take (Tryd.prog.cellsOf 9) [c0, c1]) = ys[0]? := hf 0 _ rfl
    have g1 : DataW.trod enc Tryd.prog w base (fun _ => true) true m' 35 (List.take (Tryd.prog.cellsOf 35) [c1]) = ys[1]? := hf 1 _ rfl
    rw [cellsOf9] at g0
    rw [cellsOf35] at g1
    have hl7 : ys.length = 2 := hlen
    rw [List.getElem?_eq_getElem (by omega)] at g0 g1
    obtain ⟨x0, e0, _, w0⟩ := DataW.trod_string Tryd.underlying9 g0
    simp at e0
    subst e0
    have sh : ∃ A n c, List.take 1 [c1] = [.slice A n c] := by
      rcases DataW.trod_slice Tryd.underlying35 g1 with h0 | ⟨a, len, cap, elems, rest, n, _, h1, _⟩
      · exact ⟨none, 0, 0, h0.1⟩
      · exact ⟨some a, len, cap, h1⟩
    obtain ⟨A, k, c, e3⟩ := sh
    rw [e3] at g1
    obtain ⟨l, hl2, hr⟩ := open_Tx g1
    simp at e3
    subst e3
    subst hl2
    exact ⟨_, hc, ⟨x0, l⟩, A, c, rfl, hr⟩
  obtain ⟨b, o, rfl, hblt, hrow⟩ := row_at (w := w) (base := base) (sz := 2) (by omega) (by omega) (fun i hi => ⟨_, (each i hi).choose_spec.1⟩)
  obtain ⟨R, hR⟩ := Classical.axiomOfChoice (fun i : Fin n => (⟨_, (each i i.2).choose_spec⟩ : ∃ cs, w.cells? base ((⟨b, o, none⟩ : Addr).add (i * 2)) 2 = some cs ∧ ∃ C : CN, ∃ A' c', cs = [.string C.name, .slice A' C.types.length c'] ∧ TxRow w A' C.types))
  obtain ⟨F, hF⟩ := Classical.axiomOfChoice (fun i : Fin n => (hR i).2)
  refine ⟨List.ofFn F, by simp, .inr ⟨b, o, rfl, hblt, fun i hi => ?_⟩⟩
  have hin : i < n := by simpa using hi
  obtain ⟨A', c', hcs, hvr⟩ := hF ⟨i, hin⟩
  have hx := hrow i hin _ (hR ⟨i, hin⟩).1
  rw [List.getElem_ofFn]
  rw [hcs] at hx
  exact ⟨hx 0 (by simp), A', c', hx 1 (by simp), hvr⟩
end
end Go.Proofs.YtclilpabdcdeoaaDoor
