/- The law HeapBytes returns true for every input that can be read, in every memory and on every schedule; no further condition. -/
import Derived.Test.YtknpgmbniohcnaaRows
import Derived.Test.YtknpgmbniohcnaaBy
import Derived.WalkKit
import Derived.ProofKit
import Derived.OpenShut
import Derived.LaidMore
import Derived.Carry
import Derived.ChangeSlices
namespace Go.Proofs.Ytknpgmbniohcnaa.heapBytes
open Go.ChangeShapes Go.WideShapes Go.ChangeAt Go.RowKit
open Go.ChangeMaps (open_string shut_string)
set_option linter.unusedVariables false
set_option linter.unusedSimpArgs false
section
variable {H : Type} {enc : TypeId × Value → H} {w : World} {base : Nat}
theorem open_act {fuel : Nat} {cs : Array Value} {y : DataW H × List MemPlace} (h : DataW.trod enc Try.prog w base (fun _ => true) true fuel 49 cs.toList = some y) :
    ∃ (r : AcR) (A : Option Addr) (m c : Nat), cs = #[.int .i64 r.op, .int .i64 r.kind, .int .i64 r.tag, .int .i64 r.i, .int .u64 r.p, .int .u64 r.x, .slice A m c] ∧ InU w A m c r.l := by
  obtain ⟨ys, m, _, _, hl, hlen, hf⟩ := DataW.trod_struct Try.underlying49 h
  rw [cellsOf49] at hl
  obtain ⟨c0, c1, c2, c3, c4, c5, c6, e⟩ : ∃ c0 c1 c2 c3 c4 c5 c6, cs.toList = [c0, c1, c2, c3, c4, c5, c6] := by
    generalize cs.toList = l at hl
    match l, hl with
    | [c0, c1, c2, c3, c4, c5, c6], _ => exact ⟨_, _, _, _, _, _, _, rfl⟩
  rw [e] at hf
  have g0 : DataW.trod enc Try.prog w base (fun _ => true) true m 3 (List.take (Try.prog.cellsOf 3) [c0, c1, c2, c3, c4, c5, c6]) = ys[0]? := hf 0 _ rfl
  have g1 : DataW.trod enc Try.prog w base (fun _ => true) true m 3 (List.take (Try.prog.cellsOf 3) [c1, c2, c3, c4, c5, c6]) = ys[1]? := hf 1 _ rfl
  have g2 : DataW.trod enc Try.prog w base (fun _ => true) true m 3 (List.take (Try.prog.cellsOf 3) [c2, c3, c4, c5, c6]) = ys[2]? := hf 2 _ rfl
  have g3 : DataW.trod enc Try.prog w base (fun _ => true) true m 3 (List.take (Try.prog.cellsOf 3) [c3, c4, c5, c6]) = ys[3]? := hf 3 _ rfl
  have g4 : DataW.trod enc Try.prog w base (fun _ => true) true m 27 (List.take (Try.prog.cellsOf 27) [c4, c5, c6]) = ys[4]? := hf 4 _ rfl
  have g5 : DataW.trod enc Try.prog w base (fun _ => true) true m 27 (List.take (Try.prog.cellsOf 27) [c5, c6]) = ys[5]? := hf 5 _ rfl
  have g6 : DataW.trod enc Try.prog w base (fun _ => true) true m 45 (List.take (Try.prog.cellsOf 45) [c6]) = ys[6]? := hf 6 _ rfl
  rw [cellsOf3] at g0 g1 g2 g3
  rw [cellsOf27] at g4 g5
  rw [cellsOf45] at g6
  have hl4 : ys.length = 7 := hlen
  rw [List.getElem?_eq_getElem (by omega)] at g0 g1 g2 g3 g4 g5 g6
  obtain ⟨x0, e0, _, w0⟩ := DataW.trod_int Try.underlying3 g0
  obtain ⟨x1, e1, _, w1⟩ := DataW.trod_int Try.underlying3 g1
  obtain ⟨x2, e2, _, w2⟩ := DataW.trod_int Try.underlying3 g2
  obtain ⟨x3, e3, _, w3⟩ := DataW.trod_int Try.underlying3 g3
  obtain ⟨x4, e4, _, w4⟩ := DataW.trod_int Try.underlying27 g4
  obtain ⟨x5, e5, _, w5⟩ := DataW.trod_int Try.underlying27 g5
  simp at e0 e1 e2 e3 e4 e5
  subst e0 e1 e2 e3 e4 e5
  have sh : ∃ A n c, List.take 1 [c6] = [.slice A n c] := by
    rcases DataW.trod_slice Try.underlying45 g6 with h0 | ⟨a, len, cap, elems, rest, n, _, h1, _⟩
    · exact ⟨none, 0, 0, h0.1⟩
    · exact ⟨some a, len, cap, h1⟩
  obtain ⟨A, k, c, e6⟩ := sh
  rw [e6] at g6
  obtain ⟨xs, hx⟩ := open_words g6
  simp at e6
  subst e6
  refine ⟨⟨x0, x1, x2, x3, x4, x5, xs⟩, A, k, c, ?_, hx⟩
  rw [← Array.toArray_toList (xs := cs), e]
end
theorem laidOut : laidOutB Try.prog = true := by kernel_rfl
theorem own : ownKnob Try.prog.godebug = none := by kernel_rfl
set_option maxRecDepth 100000 in
set_option maxHeartbeats 1000000 in
theorem lifted (os : Os) (started : os.Started) (H : Type) (enc : TypeId × Value → H) :
    ReturnsInHanded {} Try.checked os 5 .any (Rows.heapBytesSpec.pre6 enc Try.prog Try.f5 Rows.heapBytesRow.domain false) (Rows.heapBytesSpec.post enc Try.prog Try.f5 false true false false) := by
  refine returnsInHanded_of_change (C := Try.checked) own started (by kernel_rfl) Try.func5
    (ChangeSpec.witness6 (enc := enc) (C := Try.checked) false ⟨#[], #[.slice none 0 0, .slice none 0 0, .agg #[.int .i64 0, .int .i64 0, .int .i64 0, .int .i64 0, .int .u64 0, .int .u64 0, .slice none 0 0]], []⟩ 8 (by kernel_rfl) (by kernel_rfl) (by kernel_rfl) (by kernel_rfl)) ?_
  intro W base args ds gs before hval0 hW hcnd _
  have hval : ∀ (j : Nat) t v, Try.f5.params[j]? = some t → args[j]? = some v → Value.okWide Try.prog W .any base t v := hval0
  have hW' := hW
  obtain ⟨p, q, hA0, hV, rfl, _, _⟩ := hW
  have hA : DataW.TrodAll enc Try.prog W 0 (fun _ => true) true Try.f5.params.toList args.toList ds p := hA0
  rw [Try.params5] at hA hval
  obtain ⟨v0, vs0, d0, ds0, p0, q0, hargs0, rfl, rfl, h0, r0⟩ := trodAll_cons hA
  obtain ⟨v1, vs1, d1, ds1, p1, q1, rfl, rfl, rfl, h1, r1⟩ := trodAll_cons r0
  obtain ⟨v2, vs2, d2, ds2, p2, q2, rfl, rfl, rfl, h2, r2⟩ := trodAll_cons r1
  obtain ⟨rfl, rfl, rfl⟩ := trodAll_nil r2
  obtain rfl : args = #[v0, v1, v2] := by cases args; simp_all
  obtain ⟨rfl, rfl⟩ := trodVars_none hV
  clear hA0 hval0
  simp only [List.append_nil, List.nil_append] at hW'
  have k0 := h0
  have k1 := h1
  have k2 := h2
  have hlt : (∀ x ∈ p0, x.block < W.heap.size) ∧ (∀ x ∈ p1, x.block < W.heap.size) ∧ (∀ x ∈ p2, x.block < W.heap.size) := by
    have hh := hW'.lt
    refine ⟨?_, ?_, ?_⟩ <;> (intro x hx; exact hh x (by simp [hx]))
  obtain ⟨hlt0, hlt1, hlt2⟩ := hlt
  obtain ⟨a0, n0, c0, rfl⟩ := okWide_slice Try.underlying40 (hval 0 40 v0 rfl rfl)
  obtain ⟨a1, n1, c1, rfl⟩ := okWide_slice Try.underlying43 (hval 1 43 v1 rfl rfl)
  obtain ⟨cs, rfl, _⟩ := okWide_struct Try.underlying49 (hval 2 49 v2 rfl rfl)
  obtain ⟨fuel0, hf0⟩ := h0
  obtain ⟨fuel1, hf1⟩ := h1
  obtain ⟨fuel2, hf2⟩ := h2
  obtain ⟨l, hl, hby, hi⟩ := open_bytes hf0
  obtain ⟨acts, ha⟩ := open_acts hf1
  obtain ⟨r, Ax, nx, cx, rfl, hx⟩ := open_act hf2
  have hwalk := bytes_walk (c := c0) (c1 := c1) hl hi hby ha r hx
  refine hwalk.mono fun e W' ⟨he, hb⟩ => ?_
  subst he
  exact ⟨_, rfl, _, _, _, [], _, [], hW', trodAll_mk1 (shut_bool Try.underlying4 _), (trodAll_cons_mk (Below.trod laidOut (by kernel_rfl) (of_decide_eq_true (by kernel_rfl)) k0 hb hlt0) (trodAll_cons_mk (Below.trod laidOut (by kernel_rfl) (of_decide_eq_true (by kernel_rfl)) k1 hb hlt1) (trodAll_cons_mk (Below.trod laidOut (by kernel_rfl) (of_decide_eq_true (by kernel_rfl)) k2 hb hlt2) trodAll_mk0))), rfl, hb.frame _, fun h => by cases h⟩
theorem holds : Rows.heapBytesRow.holds Try.pinned (OpenSpec.ofChange Rows.heapBytesSpec) :=
  OpenClaim.holds_of_wide 5 Try.f5 rfl rfl rfl rfl rfl rfl rfl ⟨rfl, rfl, rfl, rfl, rfl⟩ rfl rfl rfl rfl rfl (by kernel_rfl) Try.func5 (by kernel_rfl)
    (of_decide_eq_true (by kernel_rfl)) (by unfold Func.isWrapper; first | (rw [if_pos (by decide +kernel)]; kernel_rfl) | (rw [if_neg (by decide +kernel)]; exact ⟨rfl, rfl⟩))
    (fun os started H enc _ => lifted os started H enc)
theorem proved : Rows.HeapBytesSaid :=
  holds
end Go.Proofs.Ytknpgmbniohcnaa.heapBytes
