/- The law CodeSays returns true for every input that can be read, in every memory and on every schedule; no further condition. -/
import Derived.Test.YtgfaadfkeeehgaaRows
import Derived.Test.YtgfaadfkeeehgaaSaysB
import Derived.WalkKit
import Derived.ProofKit
import Derived.OpenShut
import Derived.LaidMore
import Derived.Carry
import Derived.ChangeSlices
import Derived.Lib.SmallJoins
namespace Go.Proofs.Ytgfaadfkeeehgaa.codeSays
open Go.ChangeShapes Go.WideShapes Go.ChangeAt Go.RowKit
open Go.ChangeMaps (open_string shut_string)
set_option linter.unusedVariables false
theorem laidOut : laidOutB Try.prog = true := by kernel_rfl
theorem cells5 : Try.prog.cellsOf 5 = 1 := by kernel_rfl
theorem cells24 : Try.prog.cellsOf 24 = 3 := by kernel_rfl
theorem own : ownKnob Try.prog.godebug = none := by kernel_rfl
set_option maxRecDepth 100000 in
theorem lifted (os : Os) (started : os.Started) (H : Type) (enc : TypeId × Value → H) :
    ReturnsInHanded {} Try.checked os 4 .any (Rows.codeSaysSpec.pre6 enc Try.prog Try.f4 Rows.codeSaysRow.domain false) (Rows.codeSaysSpec.post enc Try.prog Try.f4 false true false false) := by
  refine returnsInHanded_of_change (C := Try.checked) own started (by kernel_rfl) Try.func4
    (ChangeSpec.witness6 (enc := enc) (C := Try.checked) false ⟨#[], #[.agg #[.int .i64 0, .int .i64 0, .int .i64 0], .slice none 0 0], []⟩ 8 (by kernel_rfl) (by kernel_rfl) (by kernel_rfl) (by kernel_rfl)) ?_
  intro W base args ds gs before hval0 hW hcnd _
  have hval : ∀ (j : Nat) t v, Try.f4.params[j]? = some t → args[j]? = some v → Value.okWide Try.prog W .any base t v := hval0
  have hW' := hW
  obtain ⟨p, q, hA0, hV, rfl, _, _⟩ := hW
  have hA : DataW.TrodAll enc Try.prog W 0 (fun _ => true) true Try.f4.params.toList args.toList ds p := hA0
  rw [Try.params4] at hA hval
  obtain ⟨v0, vs0, d0, ds0, p0, q0, hargs0, rfl, rfl, h0, r0⟩ := trodAll_cons hA
  obtain ⟨v1, vs1, d1, ds1, p1, q1, rfl, rfl, rfl, h1, r1⟩ := trodAll_cons r0
  obtain ⟨rfl, rfl, rfl⟩ := trodAll_nil r1
  obtain rfl : args = #[v0, v1] := by cases args; simp_all
  obtain ⟨rfl, rfl⟩ := trodVars_none hV
  have h0k := h0
  have h1k := h1
  obtain ⟨z0, z1, z2, y0, y1, y2, m, rfl, rfl, rfl, hy0, hy1, hy2⟩ := Go.Joins.open_agg3 Try.underlying24 (by kernel_rfl) cells24 (hval 0 24 v0 rfl rfl) h0
  obtain ⟨x0, e0, rfl, wx0⟩ := DataW.trod_int Try.underlying3 hy0
  obtain ⟨x1, e1, rfl, wx1⟩ := DataW.trod_int Try.underlying2 hy1
  obtain ⟨x2, e2, rfl, wx2⟩ := DataW.trod_int Try.underlying2 hy2
  simp at e0 e1 e2
  subst e0 e1 e2
  obtain ⟨a1, n1, c1, rfl⟩ := okWide_slice Try.underlying28 (hval 1 28 v1 rfl rfl)
  clear hA0 hval0
  simp only [List.append_nil, List.nil_append] at hW'
  obtain ⟨fuel, hf⟩ := h1
  have hlt1 : ∀ x ∈ p1, x.block < W.heap.size := fun x hx => by simpa using hW'.lt x (by first | simpa using hx | simp [hx])
  simp only [Lit.wf, Bool.and_eq_true, decide_eq_true_eq] at wx1 wx2
  have hwalk : Calls Try.prog 4 #[.agg #[.int .i64 x0, .int .i64 x1, .int .i64 x2], .slice a1 n1 c1] W fun e w' => e = .returned (.bool true) ∧ Below W.heap.size W w' := by
    have r1 : -9223372036854775808 ≤ x1 ∧ x1 < 9223372036854775808 := ⟨wx1.1, Int.lt_of_le_of_lt wx1.2 (by decide)⟩
    have r2 : -9223372036854775808 ≤ x2 ∧ x2 < 9223372036854775808 := ⟨wx2.1, Int.lt_of_le_of_lt wx2.2 (by decide)⟩
    rcases open_ints Try.underlying28 Try.underlying5 cells5 hf with ⟨hcs, hx⟩ | ⟨a, len', cap', zs, hcs, _, hl, hm, hz, hx, hcell, hwz⟩
    · simp [Value.cells] at hcs
      obtain ⟨rfl, rfl, rfl⟩ := hcs
      exact says_walk x0 x1 x2 none 0 0 [] W rfl (.inl ⟨rfl, fun _ => rfl⟩) (fun j => by simp) r1.1 r1.2 r2.1 r2.2
    · simp [Value.cells] at hcs
      obtain ⟨rfl, rfl, rfl⟩ := hcs
      simp only [if_true] at hz
      have hb : ∀ j, j < zs.length → 0 ≤ zs.getD j 0 ∧ zs.getD j 0 < 256 := fun j h => by
        have hm : zs.getD j 0 ∈ zs := by
          rw [List.getD, List.getElem?_eq_getElem h]
          exact List.getElem_mem h
        have := hwz _ hm
        simp only [Lit.wf, Bool.and_eq_true, decide_eq_true_eq] at this
        exact ⟨this.1, Int.lt_of_le_of_lt this.2 (by decide)⟩
      by_cases hn : n1 = 0
      · subst hn
        exact says_walk x0 x1 x2 (some a) 0 c1 [] W rfl (.inl ⟨rfl, fun e => by cases e⟩) (fun j => by simp) r1.1 r1.2 r2.1 r2.2
      · obtain ⟨b, off, rfl, hc⟩ := ints_at hcell (by omega)
        have hg : ∀ j, j < n1 → ((zs.take n1).map Int.toNat).getD j 0 = (zs.getD j 0).toNat := fun j hj => by
          simp [List.getD, hj]
          cases zs[j]? <;> rfl
        refine says_walk x0 x1 x2 _ n1 c1 ((zs.take n1).map Int.toNat) W (by rw [List.length_map, List.length_take]; omega) (.inr ⟨b, off, rfl, World.block_lt_of_cell? W ⟨b, off + 0, none⟩ (hc 0 (by omega)), hl, fun j hj => ?_⟩) (fun j => ?_) r1.1 r1.2 r2.1 r2.2
        · rw [List.length_map, List.length_take] at hj
          rw [hc j (by omega), hg j (by omega), Int.toNat_of_nonneg (hb j (by omega)).1]
        · rcases Nat.lt_or_ge j n1 with h | h
          · rw [hg j h]; have := hb j (by omega); omega
          · rw [List.getD, List.getElem?_eq_none (by rw [List.length_map, List.length_take]; omega)]; simp
  refine hwalk.mono fun e W' ⟨he, hb⟩ => ?_
  subst he
  exact ⟨_, rfl, _, _, _, [], _, [], hW', trodAll_mk1 (shut_bool Try.underlying4 _), (trodAll_cons_mk (Below.trod laidOut (by kernel_rfl) (of_decide_eq_true (by kernel_rfl)) h0k hb (fun x hx => by simp at hx)) (trodAll_cons_mk (Below.trod laidOut (by kernel_rfl) (of_decide_eq_true (by kernel_rfl)) h1k hb hlt1) trodAll_mk0)), rfl, hb.frame _, fun h => by cases h⟩
theorem holds : Rows.codeSaysRow.holds Try.pinned (OpenSpec.ofChange Rows.codeSaysSpec) :=
  OpenClaim.holds_of_wide 4 Try.f4 rfl rfl rfl rfl rfl rfl rfl ⟨rfl, rfl, rfl, rfl, rfl⟩ rfl rfl rfl rfl rfl (by kernel_rfl) Try.func4 (by kernel_rfl)
    (of_decide_eq_true (by kernel_rfl)) (by unfold Func.isWrapper; first | (rw [if_pos (by decide +kernel)]; kernel_rfl) | (rw [if_neg (by decide +kernel)]; exact ⟨rfl, rfl⟩))
    (fun os started H enc _ => lifted os started H enc)
theorem proved : Rows.CodeSaysSaid :=
  holds
end Go.Proofs.Ytgfaadfkeeehgaa.codeSays
