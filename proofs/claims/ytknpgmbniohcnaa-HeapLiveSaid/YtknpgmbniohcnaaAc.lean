import Derived.Test.YtknpgmbniohcnaaFu
import Derived.Carry
import Derived.ChangeSlices
import Derived.DataOpen
namespace Go.Proofs.Ytknpgmbniohcnaa
open Go.ChangeShapes Go.WideShapes Go.ChangeAt Go.RowKit
set_option linter.unusedVariables false
theorem cellsOf49 : Try.prog.cellsOf 49 = 7 := by kernel_rfl
theorem cellsOf3 : Try.prog.cellsOf 3 = 1 := by kernel_rfl
theorem cellsOf27 : Try.prog.cellsOf 27 = 1 := by kernel_rfl
theorem cellsOf45 : Try.prog.cellsOf 45 = 1 := by kernel_rfl
/-- a row of numbers that came in: nil, empty or not. -/
def InU (w : World) (A : Option Addr) (n c : Nat) (xs : List Int) : Prop := xs.length = n ∧ (A = none → n = 0 ∧ c = 0) ∧ (∀ x ∈ xs, U64 x) ∧ (0 < n → ∃ b off, A = some ⟨b, off, none⟩ ∧ b < w.heap.size ∧ ∀ j (h : j < xs.length), w.cell? ⟨b, off + j, none⟩ = some (.int .u64 xs[j]))
theorem InU.below {w W : World} {A : Option Addr} {n c : Nat} {xs : List Int} (h : InU w A n c xs) (hW : Below w.heap.size w W) : InU W A n c xs :=
  ⟨h.1, h.2.1, h.2.2.1, fun hn => by
    obtain ⟨b, off, e, hb, hc⟩ := h.2.2.2 hn
    exact ⟨b, off, e, Nat.lt_of_lt_of_le hb hW.size, fun j hj => (hW.cell (p := ⟨b, off + j, none⟩) hb).trans (hc j hj)⟩⟩
structure AcR where
  op : Int
  kind : Int
  tag : Int
  i : Int
  p : Int
  x : Int
  l : List Int
instance : Inhabited AcR := ⟨⟨0, 0, 0, 0, 0, 0, []⟩⟩
def I64 (x : Int) : Prop := -9223372036854775808 ≤ x ∧ x ≤ 9223372036854775807
structure AcAt (w : World) (b o : Nat) (r : AcR) : Prop where
  c0 : w.cell? ⟨b, o, none⟩ = some (.int .i64 r.op)
  c1 : w.cell? ⟨b, o + 1, none⟩ = some (.int .i64 r.kind)
  c2 : w.cell? ⟨b, o + 2, none⟩ = some (.int .i64 r.tag)
  c3 : w.cell? ⟨b, o + 3, none⟩ = some (.int .i64 r.i)
  c4 : w.cell? ⟨b, o + 4, none⟩ = some (.int .u64 r.p)
  c5 : w.cell? ⟨b, o + 5, none⟩ = some (.int .u64 r.x)
  c6 : ∃ A n c, w.cell? ⟨b, o + 6, none⟩ = some (.slice A n c) ∧ InU w A n c r.l
  rg : I64 r.op ∧ I64 r.kind ∧ I64 r.tag ∧ I64 r.i ∧ U64 r.p ∧ U64 r.x
theorem AcAt.below {w W : World} {b o : Nat} {r : AcR} (h : AcAt w b o r) (hb : b < w.heap.size) (hW : Below w.heap.size w W) : AcAt W b o r := by
  obtain ⟨A, n, c, e, hu⟩ := h.c6
  exact ⟨(hW.cell (p := ⟨b, _, none⟩) hb).trans h.c0, (hW.cell (p := ⟨b, _, none⟩) hb).trans h.c1, (hW.cell (p := ⟨b, _, none⟩) hb).trans h.c2, (hW.cell (p := ⟨b, _, none⟩) hb).trans h.c3, (hW.cell (p := ⟨b, _, none⟩) hb).trans h.c4, (hW.cell (p := ⟨b, _, none⟩) hb).trans h.c5, ⟨A, n, c, (hW.cell (p := ⟨b, _, none⟩) hb).trans e, hu.below hW⟩, h.rg⟩
/-- the acts that came in. -/
def AcsIn (w : World) (A : Option Addr) (n : Nat) (acts : List AcR) : Prop :=
  acts.length = n ∧ (0 < n → ∃ b off, A = some ⟨b, off, none⟩ ∧ b < w.heap.size ∧ ∀ i (h : i < acts.length), AcAt w b (off + i * 7) acts[i])
theorem AcsIn.below {w W : World} {A : Option Addr} {n : Nat} {acts : List AcR} (h : AcsIn w A n acts) (hW : Below w.heap.size w W) : AcsIn W A n acts := ⟨h.1, fun hn => by
  obtain ⟨b, off, e, hb, hc⟩ := h.2 hn
  exact ⟨b, off, e, Nat.lt_of_lt_of_le hb hW.size, fun i hi => (hc i hi).below hb hW⟩⟩
theorem wf_u64 {x : Int} (h : (Lit.int .u64 x).wf = true) : U64 x := by
  simp [Lit.wf, IntKind.min, IntKind.max, IntKind.signed, IntKind.bits] at h
  exact ⟨by omega, by omega⟩
theorem wf_i64 {x : Int} (h : (Lit.int .i64 x).wf = true) : I64 x := by
  simp [Lit.wf, IntKind.min, IntKind.max, IntKind.signed, IntKind.bits] at h
  exact ⟨by omega, by omega⟩
section
variable {H : Type} {enc : TypeId × Value → H} {w : World} {base : Nat}
theorem open_words {fuel n c : Nat} {a : Option Addr} {x : DataW H × List MemPlace} (h : DataW.trod enc Try.prog w base (fun _ => true) true fuel 45 [.slice a n c] = some x) : ∃ xs : List Int, InU w a n c xs := by
  rcases open_ints Try.underlying45 Try.underlying27 cellsOf27 h with ⟨hcs, hx⟩ | ⟨a', len', cap', zs, hcs, _, hl, hm, hz, hx, hcell, hwz⟩
  · simp at hcs
    obtain ⟨rfl, rfl, rfl⟩ := hcs
    exact ⟨[], rfl, fun _ => ⟨rfl, rfl⟩, fun x hx => (by cases hx), fun h => by omega⟩
  · simp at hcs
    obtain ⟨rfl, rfl, rfl⟩ := hcs
    simp only [if_true] at hz
    by_cases hn : n = 0
    · subst hn; exact ⟨[], rfl, fun h => (by cases h), fun x hx => (by cases hx), fun h => by omega⟩
    · obtain ⟨b, off, rfl, hc⟩ := ints_at hcell (by omega)
      refine ⟨zs.take n, by rw [List.length_take]; omega, fun h => (by cases h), fun x hx => wf_u64 (hwz x (List.mem_of_mem_take hx)), fun _ => ⟨b, off, rfl, World.block_lt_of_cell? w ⟨b, off + 0, none⟩ (hc 0 (by omega)), fun j hj => ?_⟩⟩
      rw [List.length_take] at hj
      rw [hc j (by omega)]
      simp [List.getD, List.getElem?_eq_getElem (show j < zs.length by omega)]
theorem open_one {n : Nat} {a : Addr} {y : DataW H × List MemPlace} (h : (w.cells? base a 7).bind (DataW.trod enc Try.prog w base (fun _ => true) true n 49) = some y) :
    ∃ r : AcR, (I64 r.op ∧ I64 r.kind ∧ I64 r.tag ∧ I64 r.i ∧ U64 r.p ∧ U64 r.x) ∧ w.cell? (a.add 0) = some (.int .i64 r.op) ∧ w.cell? (a.add 1) = some (.int .i64 r.kind) ∧ w.cell? (a.add 2) = some (.int .i64 r.tag) ∧ w.cell? (a.add 3) = some (.int .i64 r.i) ∧ w.cell? (a.add 4) = some (.int .u64 r.p) ∧ w.cell? (a.add 5) = some (.int .u64 r.x) ∧ ∃ A m c, w.cell? (a.add 6) = some (.slice A m c) ∧ InU w A m c r.l := by
  rw [Option.bind_eq_some_iff] at h
  obtain ⟨cs, hcs, ht⟩ := h
  obtain ⟨ys, m, _, _, hl, hlen, hf⟩ := DataW.trod_struct Try.underlying49 ht
  rw [cellsOf49] at hl
  obtain ⟨-, hcl, hc⟩ := World.cells?_some hcs
  obtain ⟨c0, c1, c2, c3, c4, c5, c6, rfl⟩ : ∃ c0 c1 c2 c3 c4 c5 c6, cs = [c0, c1, c2, c3, c4, c5, c6] := by
    match cs, hl with
    | [c0, c1, c2, c3, c4, c5, c6], _ => exact ⟨_, _, _, _, _, _, _, rfl⟩
  have g0 : DataW.trod enc Try.prog w base (fun _ => true) true m 3 (List.take (Try.prog.cellsOf 3) [c0, c1, c2, c3, c4, c5, c6]) = ys[0]? := hf 0 _ rfl
  have g1 : DataW.trod enc Try.prog w base (fun _ => true) true m 3 (List.take (Try.prog.cellsOf 3) [c1, c2, c3, c4, c5, c6]) = ys[1]? := hf 1 _ rfl
  have g2 : DataW.trod enc Try.prog w base (fun _ => true) true m 3 (List.take (Try.prog.cellsOf 3) [c2, c3, c4, c5, c6]) = ys[2]? := hf 2 _ rfl
  have g3 : DataW.trod enc Try.prog w base (fun _ => true) true m 3 (List.take (Try.prog.cellsOf 3) [c3, c4, c5, c6]) = ys[3]? := hf 3 _ rfl
  have g4 : DataW.trod enc Try.prog w base (fun _ => true) true m 27 (List.take (Try.prog.cellsOf 27) [c4, c5, c6]) = ys[4]? := hf 4 _ rfl
  have g5 : DataW.trod enc Try.prog w base (fun _ => true) true m 27 (List.take (Try.prog.cellsOf 27) [c5, c6]) = ys[5]? := hf 5 _ rfl
  have g6 : DataW.trod enc Try.prog w base (fun _ => true) true m 45 (List.take (Try.prog.cellsOf 45) [c6]) = ys[6]? := hf 6 _ rfl
  rw [cellsOf3] at g0 g1 g2 g3
  rw [cellsOf27] at g4 g5
  rw [cellsOf45] at g6
  have hl4 : ys.length = 7 := hlen
  rw [List.getElem?_eq_getElem (by omega)] at g0 g1 g2 g3 g4 g5 g6
  obtain ⟨x0, e0, _, w0⟩ := DataW.trod_int Try.underlying3 g0
  obtain ⟨x1, e1, _, w1⟩ := DataW.trod_int Try.underlying3 g1
  obtain ⟨x2, e2, _, w2⟩ := DataW.trod_int Try.underlying3 g2
  obtain ⟨x3, e3, _, w3⟩ := DataW.trod_int Try.underlying3 g3
  obtain ⟨x4, e4, _, w4⟩ := DataW.trod_int Try.underlying27 g4
  obtain ⟨x5, e5, _, w5⟩ := DataW.trod_int Try.underlying27 g5
  simp at e0 e1 e2 e3 e4 e5
  subst e0 e1 e2 e3 e4 e5
  have sh : ∃ A n c, List.take 1 [c6] = [.slice A n c] := by
    rcases DataW.trod_slice Try.underlying45 g6 with h0 | ⟨a, len, cap, elems, rest, n, _, h1, _⟩
    · exact ⟨none, 0, 0, h0.1⟩
    · exact ⟨some a, len, cap, h1⟩
  obtain ⟨A, k, c, e6⟩ := sh
  rw [e6] at g6
  obtain ⟨xs, hx⟩ := open_words g6
  simp at e6
  subst e6
  exact ⟨⟨x0, x1, x2, x3, x4, x5, xs⟩, ⟨wf_i64 w0, wf_i64 w1, wf_i64 w2, wf_i64 w3, wf_u64 w4, wf_u64 w5⟩, hc 0 (by simp), hc 1 (by simp), hc 2 (by simp), hc 3 (by simp), hc 4 (by simp), hc 5 (by simp), A, k, c, hc 6 (by simp), hx⟩
theorem addr_add (a : Addr) (i j : Nat) : (a.add i).add j = a.add (i + j) := by
  unfold Addr.add
  by_cases hi : i = 0 <;> by_cases hj : j = 0 <;> simp [hi, hj, Nat.add_assoc]
theorem open_acts {fuel n c : Nat} {a : Option Addr} {x : DataW H × List MemPlace} (h : DataW.trod enc Try.prog w base (fun _ => true) true fuel 43 [.slice a n c] = some x) : ∃ acts : List AcR, AcsIn w a n acts := by
  by_cases hpos : n = 0
  · subst hpos; exact ⟨[], rfl, fun h => by omega⟩
  rcases DataW.trod_slice Try.underlying43 h with h0 | ⟨a', len, cap, elems, rest, m, _, hcs, _, hb, hl, hm, hlen, hel, _, _⟩
  · have := h0.1
    simp at this
    omega
  simp at hcs
  obtain ⟨rfl, rfl, rfl⟩ := hcs
  rw [cellsOf49] at hel
  have each : ∀ i, i < n → ∃ r : AcR, (I64 r.op ∧ I64 r.kind ∧ I64 r.tag ∧ I64 r.i ∧ U64 r.p ∧ U64 r.x) ∧ w.cell? (a'.add (i * 7 + 0)) = some (.int .i64 r.op) ∧ w.cell? (a'.add (i * 7 + 1)) = some (.int .i64 r.kind) ∧ w.cell? (a'.add (i * 7 + 2)) = some (.int .i64 r.tag) ∧ w.cell? (a'.add (i * 7 + 3)) = some (.int .i64 r.i) ∧ w.cell? (a'.add (i * 7 + 4)) = some (.int .u64 r.p) ∧ w.cell? (a'.add (i * 7 + 5)) = some (.int .u64 r.x) ∧ ∃ A m c, w.cell? (a'.add (i * 7 + 6)) = some (.slice A m c) ∧ InU w A m c r.l := fun i hi => by
    have he := hel i hi
    rw [List.getElem?_eq_getElem (by omega)] at he
    have := open_one he
    simp only [addr_add] at this
    exact this
  obtain ⟨r0, _, h1, _⟩ := each 0 (by omega)
  have hsp := World.cell?_spot h1
  have hlt := World.block_lt_of_cell? w _ h1
  obtain ⟨b, off, spot⟩ := a'
  have hs : spot = none := by simpa [Addr.add] using hsp
  subst hs
  have hlt' : b < w.heap.size := by simpa [Addr.add] using hlt
  obtain ⟨R, hR⟩ := Classical.axiomOfChoice (fun i : Fin n => each i i.2)
  refine ⟨List.ofFn R, by simp, fun _ => ⟨b, off, rfl, hlt', fun i hi => ?_⟩⟩
  have hi2 : i < n := by simpa using hi
  have hsp := hR ⟨i, hi2⟩
  have e : (List.ofFn R)[i] = R ⟨i, hi2⟩ := by simp
  rw [e]
  obtain ⟨r, hr⟩ : ∃ r, r = R ⟨i, hi2⟩ := ⟨_, rfl⟩
  rw [← hr] at hsp ⊢
  obtain ⟨rg, k0, k1, k2, k3, k4, k5, A, m, c, k6, k7⟩ := hsp
  simp only [Go.WideShapes.add_plain] at k0 k1 k2 k3 k4 k5 k6
  exact ⟨k0, k1, k2, k3, k4, k5, ⟨A, m, c, k6, k7⟩, rg⟩
end
end Go.Proofs.Ytknpgmbniohcnaa
