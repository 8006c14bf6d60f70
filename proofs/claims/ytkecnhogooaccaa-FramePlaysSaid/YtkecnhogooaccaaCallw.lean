import Derived.Test.YtkecnhogooaccaaIter
import Derived.Maps.AppendAt
namespace Go.Proofs.Ytkecnhogooaccaa
open Go.ChangeShapes Go.WideShapes Go.ChangeAt Go.RowKit Go.Shelf
set_option linter.unusedVariables false
attribute [local go_sem] Oper.semAt_some
theorem info3 : (Try.prog.info? 3).map (fun i => (i.zero, i.size, i.bytes)) = some (some (.int .i64 0), 1, 8) := by kernel_rfl
/-- the calls of the frames that have come. -/
def clls (pre : List (Nat × Fm)) : List Value := pre.map fun x => .int .i64 x.2.call
theorem clls_len (pre : List (Nat × Fm)) : (clls pre).length = pre.length := by simp [clls]
theorem clls_app (a b : List (Nat × Fm)) : clls (a ++ b) = clls a ++ clls b := by simp [clls]
set_option maxRecDepth 100000 in
set_option maxHeartbeats 4000000 in
theorem calls_in (F : Fence) (n : Nat) (h19 : F.fn 19) (h41 : F.fn 41) (h44 : F.fn 44) (hro : F.round = none) (hn : 3 ≤ n) {w : World} {B g room : Nat} {fv wv : Value} {fr : List Fm} {ws : List Int} (t : Sk w B g room fv wv fr ws) :
    CallsIn F n Try.prog 19 #[.pointer (some ⟨g, 0, none⟩)] w fun e W' => ∃ v, e = .returned v ∧ W'.ownsRow w.heap.size 3 1 v fr.length (clls (dn fr fr.length)) ∧ Below w.heap.size w W' := by
  have h1 : 1 ≤ n := by omega
  obtain ⟨i0, hi, hz0, hz1, hz2⟩ := info_parts info3
  have hsm : fr.length ≤ 4096 := by have := t.fits; have := t.small; omega
  have T := Lib.hid t
  have hg := t.obj.lt
  have c1 := t.obj.c1
  have hform : ∃ b, b < w.heap.size ∧ ∃ A c, fv = .slice A fr.length c ∧ FrIn w b (.slice A fr.length c) fr := by
    rcases t.rf.2 with ⟨e, h0⟩ | ⟨q, cap, cur, e, hb, hq, hc, _⟩
    · have : fr = [] := List.eq_nil_of_length_eq_zero h0
      subst this
      exact ⟨g, hg, none, 0, e, .inl ⟨rfl, _, _, rfl⟩⟩
    · refine ⟨q, (Array.getElem?_eq_some_iff.1 hq).1, _, cap, e, .inr ⟨cap, rfl, hc, fun j hj => ?_⟩⟩
      obtain ⟨f, hf⟩ : ∃ f, fr[j]? = some f := ⟨_, List.getElem?_eq_getElem hj⟩
      have rf := t.rf
      rw [e] at rf
      have hl := frs_len fr
      obtain ⟨a0, a1, a2, a3⟩ := frs_at fr j f hf
      have at_ : ∀ i v, i < (frs fr).length → (frs fr)[i]? = some v → w.cell? ⟨q, i, none⟩ = some v := fun i v h1 h2 => by
        have := rf.cellAt i (by omega)
        rw [this]; exact h2
      obtain ⟨bk, cl, bs, sl⟩ := f
      exact ⟨bk, cl, bs, sl, by rw [List.getD_eq_getElem?_getD, hf]; rfl, at_ _ _ (by omega) a0, at_ _ _ (by omega) a1, at_ _ _ (by omega) a2, at_ _ _ (by omega) a3⟩
  obtain ⟨b, hb, A, c, rfl, hIn⟩ := hform
  obtain ⟨N, hN⟩ : ∃ N, N = fr.length := ⟨_, rfl⟩
  rw [← hN] at c1 hsm ⊢
  have HI := Lib.hid hIn
  have HN := Lib.hid hN
  clear t hIn hN
  obtain ⟨w1, hmk, own1, gr1⟩ := run_make_own (P := Try.prog) w w.heap.size 41 3 i0 (.int .i64 0) 1 Try.underlying41 hi hz0 hz1 .i64 .i64 N (by rw [hz2]; omega) (by unfold maxLen; omega) (Nat.le_refl _)
  have B1 : Below w.heap.size w w1 := (Below.refl _ _).grown gr1 (Nat.le_refl _) (fun k e => by cases e)
  have c1' := (B1.cell (p := ⟨g, 1, none⟩) hg).trans c1
  have hs1 := B1.size
  have hg1 : g < w1.heap.size := by omega
  refine callsIn_of_wp_marks Try.func19 rfl h19 ?_ hro
  simp only [Try.ntmps19, List.size_toArray, List.length_cons, List.length_nil, Nat.reduceAdd, Nat.reduceSub, Array.replicate_succ, Array.replicate_zero, List.push_toArray, List.append_toArray, List.nil_append, List.cons_append]
  gi_wp2_with (gi_at_call 41; refine (back_in F (n - 1) h41 hro _ _ _ _).mono ?_; rintro e w' ⟨rfl, rfl⟩)
  have bL := (Boxed.new w1 41 (.slice (some ⟨w.heap.size, 0, none⟩) 0 N)).alloc (.cells #[.slice A N c] 67)
  have bN := Boxed.new (w1.alloc (.cells #[.slice (some ⟨w.heap.size, 0, none⟩) 0 N] 41)) 67 (.slice A N c)
  have hB0 : Below w.heap.size w ((w1.alloc (.cells #[.slice (some ⟨w.heap.size, 0, none⟩) 0 N] 41)).alloc (.cells #[.slice A N c] 67)) := (B1.alloc hs1 _).alloc (by simp; omega) _
  have own2 := (own1.alloc (.cells #[.slice (some ⟨w.heap.size, 0, none⟩) 0 N] 41)).alloc (.cells #[.slice A N c] 67)
  simp only [World.size_alloc] at bN
  have hsz : ((w1.alloc (.cells #[.slice (some ⟨w.heap.size, 0, none⟩) 0 N] 41)).alloc (.cells #[.slice A N c] 67)).heap.size = w1.heap.size + 2 := by simp
  obtain ⟨W0, hW0⟩ : ∃ W0, (w1.alloc (.cells #[.slice (some ⟨w.heap.size, 0, none⟩) 0 N] 41)).alloc (.cells #[.slice A N c] 67) = W0 := ⟨_, rfl⟩
  rw [hW0] at bL bN hB0 own2 hsz ⊢
  clear hW0 hmk
  have hI0 : FrIn W0 b (.slice A N c) fr := by
    have h := HI.out
    rw [← HN.out] at h
    rcases h with h | ⟨c2, e, h2, h3⟩
    · exact .inl h
    · exact .inr ⟨c2, e, h2, h3.same (hB0.block b hb)⟩
  refine wpIn_rangeFunc_ownH hro h1 (gf := 44) (lb := #[.pointer (some ⟨w1.heap.size + 1, 0, none⟩)]) rfl h44 (enters_of Try.func44 (by kernel_rfl) rfl)
    (back_stops F (n - 1) h44 hro (by omega) (w1.heap.size + 1) b _ fr (by rw [← HN.out]; omega) W0 (by omega) (by omega) bN.cell hI0) KpB.trans
    (fun W l o o' hl ho _ _ => ⟨World.putObj_heap_other (show b ≠ l by omega), World.putObj_heap_other (show w1.heap.size + 1 ≠ l by omega)⟩) (Below.refl _ _) (fun _ => rfl)
    (fun pre W => ((∃ v, Boxed W w1.heap.size 41 v ∧ W.ownsRow w.heap.size 3 1 v pre.length (clls pre) ∧ True) ∧ Boxed W (w1.heap.size + 1) 67 (.slice A N c)) ∧ Below w.heap.size w W)
    (fun _ _ _ => False)
    (OwnFrom.and (OwnFrom.and (Own.from (holdsRow_own w.heap.size w1.heap.size 41 3 1 (fun pre => pre.length) (fun pre => clls pre) (fun pre v => True)) _) (Own.from (boxed_own _ _ _) _)) (ownFrom_below (Nat.le_refl _) (by omega)))
    (fun _ _ _ _ _ hs _ _ => hs)
    ⟨⟨⟨_, bL, own2, trivial⟩, bN⟩, hB0⟩
    (fun x a' W => ∃ Bx, w1.heap.size + 1 < Bx ∧ W.heap[Bx]? = some (.cells #[.int .i64 x.2.back, .int .i64 x.2.call, .int .i64 (x.2.base : Int), .int .i64 (x.2.slots : Int)] 71 (0, 0)) ∧ a' = { tmps := #[.pointer (some ⟨g, 0, none⟩), undef, .slice none 0 0, .pointer (some ⟨w1.heap.size, 0, none⟩), undef, .pointer (some ⟨Bx, 0, none⟩), .pointer (some ⟨g, 0, none⟩), .pointer (some ⟨g, 0, none⟩), .pointer (some ⟨g, 1, none⟩), .slice A N c, .int .i64 N, .slice (some ⟨w.heap.size, 0, none⟩) 0 N, .pointer (some ⟨g, 0, none⟩), .pointer (some ⟨g, 0, none⟩), .pointer (some ⟨g, 1, none⟩), .slice A N c, .func (.func 44) #[] #[.pointer (some ⟨w1.heap.size + 1, 0, none⟩)], .int .i64 (x.1 : Int), .agg #[.int .i64 x.2.back, .int .i64 x.2.call, .int .i64 (x.2.base : Int), .int .i64 (x.2.slots : Int)], undef, undef, undef, undef, undef, undef], defers := [] })
    (fun x a' _ X Y row hs hg hr => by
      obtain ⟨Bx, h1, h2, h3⟩ := hs
      refine ⟨Bx, h1, (hg.block Bx (Array.getElem?_eq_some_iff.1 h2).1 (fun e => ?_)).trans h2, h3⟩
      obtain ⟨_, o, ho, hc⟩ := hr Bx e.symm
      rw [h2] at ho; cases ho; cases hc)
    ?assign ?body ?done ?stop
  case assign =>
    rintro l pre x W K ⟨⟨⟨v, hv, hrow, _⟩, hb2⟩, hB⟩ hK
    dsimp only [encB]
    gi_wp2
    exact hK _ _ ((KeepsOthers.alloc _ _).from _) ⟨Below.heap_alloc W _ b (by have := hB.size; omega), Below.heap_alloc W _ (w1.heap.size + 1) hb2.lt⟩ ⟨⟨⟨v, hv.alloc _, hrow.alloc _, trivial⟩, hb2.alloc _⟩, hB.alloc hB.size _⟩ ⟨W.heap.size, hb2.lt, heap_alloc_new W _, rfl⟩
  case body =>
    rintro l pre x a' W hl _ ⟨⟨⟨v, hv, hrow, _⟩, hb2⟩, hB⟩ ⟨Bx, hBx, hbx, rfl⟩ hlt
    obtain ⟨q, bk, cl, bs, sl⟩ := x
    have hlt2 : pre.length < 4097 := by have := HN.out; omega
    have hc := hv.cell
    have hx1 : W.cell? ⟨Bx, 1, none⟩ = some (.int .i64 cl) := by unfold World.cell?; rw [hbx]; rfl
    have HBS := Lib.hid hb2
    have WB := Lib.hid hB.size
    gi_wp2_with (gi_at_builtin; refine wpListIn_append_own _ rfl _ _ 41 rfl w.heap.size 3 i0 (.int .i64 0) 1 8 Try.underlying41 hi hz0 hz1 hz2 rfl (by decide) _ _ _ rfl (hrow.alloc _) ⟨W.heap.size, 0, none⟩ 1 1 [.int .i64 cl] rfl rfl (cell_one_new _ _ _) (by simp [Value.oneCell']) (by unfold maxLen; omega) (by omega) (by have := WB.out; simp; omega) ?_; intro v' w2 hown' hgrow _; obtain ⟨g', cap', rfl⟩ := ownsRow_succ hown'; obtain ⟨hv1, hv2, hr2, hk2, hb3⟩ := hv.appended (by decide) hrow WB.out (by omega) hown' hgrow; have hc1 := hv1.cell; have hf1 := hv1.frozen)
    have hbs2 : Boxed w2 (w1.heap.size + 1) 67 (.slice A N c) := (HBS.out.alloc _).kept hgrow (HBS.out.not_row (by decide) hrow)
    refine ⟨hk2.from _, ⟨hb3.block b hb, ?_⟩, ⟨⟨⟨_, hv2, by rw [clls_app, List.length_append]; exact hr2⟩, hbs2.other (by omega) _⟩, hB.trans hb3⟩⟩
    exact (hbs2.other (by omega) _).trans HBS.out.symm
  case done =>
    rintro D ys W hD rfl ⟨⟨⟨v, hv, hrow, _⟩, hb2⟩, hB⟩ hK
    have hc := hv.cell
    gi_wp2
    refine ⟨by simp, .inl ⟨_, _, rfl, run_takeDeferred hK, ?_⟩⟩
    refine ⟨_, results_tmp rfl _ _ _, v, rfl, ?_, hB.trans (belowK_b (w := w) (Nat.le_refl _) W D _ _ (by omega) hK rfl rfl)⟩
    have := ownsRow_putObj hrow (.deferred none) hK rfl
    rw [dn_len] at this
    rw [HN.out]; exact this
  case stop =>
    rintro D c pre W _ _ h _
    exact h.elim
theorem calls_any {w : World} {B g room : Nat} {fv wv : Value} {fr : List Fm} {ws : List Int} (t : Sk w B g room fv wv fr ws) :
    Calls Try.prog 19 #[.pointer (some ⟨g, 0, none⟩)] w fun e W' => ∃ v, e = .returned v ∧ W'.ownsRow w.heap.size 3 1 v fr.length (fr.reverse.map fun f => .int .i64 f.call) ∧ Below w.heap.size w W' := by
  have h := callsIn_wide.1 (calls_in Fence.wide 3 trivial trivial trivial rfl (by omega) t)
  refine h.mono ?_
  rintro e W' ⟨v, he, ho, hb⟩
  refine ⟨v, he, ?_, hb⟩
  have e2 : clls (dn fr fr.length) = fr.reverse.map fun f => .int .i64 f.call := by rw [← dn_all fr]; simp [clls]
  rw [← e2]; exact ho
/-- the calls of the frames, the top first. -/
def callsS (l : List RF) : List Int := l.reverse.map (·.call)
theorem frAt_calls : ∀ (l : List RF) (n : Nat), (frAt l n).map (·.call) = l.map (·.call) := by
  intro l
  induction l with
  | nil => intro n; rfl
  | cons f r ih => intro n; simp [frAt, ih]
theorem calls_st {w0 wr : World} {g room : Nat} {l : List RF} (s : StN w0 wr g room l) :
    Calls Try.prog 19 #[.pointer (some ⟨g, 0, none⟩)] wr fun e w' => ∃ A c, e = .returned (.slice A l.length c) ∧ Hid (w'.ownsRow wr.heap.size 3 1 (.slice A l.length c) l.length ((callsS l).map (.int .i64))) ∧ Hid (Below wr.heap.size wr w') := by
  obtain ⟨fv, wv, t, b⟩ := s
  refine (calls_any t).mono ?_
  rintro e w' ⟨v, rfl, ho, hb⟩
  obtain ⟨A, c, rfl⟩ := vform ho
  rw [frOf_len] at ho ⊢
  refine ⟨A, c, rfl, Lib.hid ?_, Lib.hid hb⟩
  have e : (frOf l).reverse.map (fun f => Value.int .i64 f.call) = (callsS l).map (.int .i64) := by
    have := frAt_calls l 0
    unfold callsS frOf
    rw [List.map_reverse, List.map_reverse, List.map_reverse, ← this]
    simp
  rw [← e]; exact ho
end Go.Proofs.Ytkecnhogooaccaa
