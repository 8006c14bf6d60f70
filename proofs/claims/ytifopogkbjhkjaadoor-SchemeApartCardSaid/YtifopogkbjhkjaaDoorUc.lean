import Derived.Test.YtifopogkbjhkjaaDoorUb
namespace Go.Proofs.YtifopogkbjhkjaaDoor
open Go.ChangeShapes Go.WideShapes Go.ChangeAt Go.RowKit Go.WideMaps
set_option linter.unusedVariables false
set_option linter.unusedSimpArgs false
set_option maxRecDepth 100000 in
set_option maxHeartbeats 2000000 in
theorem fresh_frm {w : World} {sb : Nat} {n m : Int} (h0 : 0 ≤ n) (h1 : n ≤ 1998) (hm : m = n + 1) (hs : SubE w sb n) : Calls Tryd.prog 11 #[.pointer (some ⟨sb, 0, none⟩)] w fun e w' => e = .returned (.agg #[.int .i64 7, .string ⟨#[]⟩, .int .i64 n, .slice none 0 0]) ∧ SubE w' sb m ∧ Frm w w' (· = sb) := by
  have hlt := hs.lt
  have FIN : ∀ q : Int, (∀ X Y : Obj, ∃ wf, wf = ((w.setCell ⟨sb, 0, none⟩ (.int .i64 q)).alloc X).alloc Y ∧ SubE wf sb q ∧ Frm w wf (· = sb) ∧ wf.heap[w.heap.size]? = some X) := fun q X Y => by
    refine ⟨_, rfl, ?_, ?_, ?_⟩
    · have hq : SubE (w.setCell ⟨sb, 0, none⟩ (.int .i64 q)) sb q := by unfold SubE at hs ⊢; simp [World.setCell, Array.getElem?_modify, hs]
      exact (hq.below (below_alloc _ _)).below (below_alloc _ _)
    · exact (frm_set (R := (· = sb)) 0 _ rfl).trans (Frm.of_below (bt (below_alloc _ _) (below_alloc _ _)) (Nat.le_refl _) _)
    · have := (two_box (w := w.setCell ⟨sb, 0, none⟩ (.int .i64 q)) X Y).1
      rw [show (w.setCell ⟨sb, 0, none⟩ (.int .i64 q)).heap.size = w.heap.size by simp [World.setCell]] at this
      exact this
  have ws : IntKind.i64.wrap (n + 1) = n + 1 := IntWalk.i64_in _ (by omega)
  have hA := hs.below (below_alloc w (.cells #[.int .i64 0, .string ⟨#[]⟩, .int .i64 0, .slice none 0 0] 24))
  obtain ⟨a0, a1, a2⟩ := hA.cells
  have hB := hA.below (below_alloc _ (.cells #[.int .i64 7, .string ⟨#[]⟩, .int .i64 n, .slice none 0 0] 24))
  obtain ⟨b0, b1, b2⟩ := hB.cells
  subst hm
  go_enter Tryd.func11, Tryd.ntmps11
  go_wp2
  (try simp only [Exit.inBlock, Exit.then])
  · obtain ⟨wf, hwf, f1, f2, f3⟩ := FIN (n + 1) (.cells #[.int .i64 7, .string ⟨#[]⟩, .int .i64 n, .slice none 0 0] 24) (.cells #[.int .i64 7, .string ⟨#[]⟩, .int .i64 n, .slice none 0 0] 24)
    rw [← hwf]
    obtain ⟨⟨t0, t1, t2, t3⟩, -⟩ := zero_cells f3
    refine bodyPost_ret (by simp [results, Tryd.results11, go_sem, t0, t1, t2, t3]; try rfl) rfl ?_
    exact ⟨rfl, f1, f2⟩
/-- a renamed type is as small. -/
theorem big_ren (f : Int → Option Int) : ∀ (d : Nat) (V : TT), bigT d V = false → bigT d (renT f V) = false
  | 0, V, h => by cases h
  | d + 1, V, h => by
    obtain ⟨h1, h2, h3⟩ := bigT_parts h
    by_cases hc : V.k = 7 ∧ (f V.vr).isSome = true
    · obtain ⟨y, hy⟩ := Option.isSome_iff_exists.1 hc.2
      rw [renT_var hc.1 hy]; rfl
    · rw [renT_not hc]
      have e : bigT (d + 1) (TT.mk V.k V.nm V.vr (V.args.map (renT f))) = (decide (4 < (V.args.map (renT f)).length) || decide (60 < V.nm.size) || (V.args.map (renT f)).any (bigT d)) := rfl
      rw [e, List.length_map, decide_eq_false (by omega : ¬ 4 < V.args.length), decide_eq_false (by omega : ¬ 60 < V.nm.size)]
      simp only [Bool.or_self, Bool.false_or]
      rw [List.any_eq_false]
      intro a ha
      obtain ⟨b, hb, rfl⟩ := List.mem_map.1 ha
      rw [big_ren f d b (h3 b hb)]
      simp
def ApPost (w : World) (T : TT) (e : Ending) (w' : World) : Prop := ∃ A c, e = .returned (tv T A c) ∧ Below w.heap.size w w'
set_option maxRecDepth 100000 in
set_option maxHeartbeats 2000000 in
/-- Apply, whatever the type. -/
theorem apply_all {d : Nat} {V : TT} {v : Value} {w : World} {sb : Nat} {n : Int} (hd : d ≤ 7) (hbg : bigT d V = false) (hs : SubE w sb n) (h : TIn w any0 V v) : Calls Tryd.prog 28 #[.pointer (some ⟨sb, 0, none⟩), v] w (ApPost w V) := by
  cases hg : goodT V with
  | true =>
    refine (apply_any hd hbg hg hs h).mono ?_
    rintro e w' ⟨A, c, rfl, -, hb⟩
    exact ⟨A, c, rfl, hb⟩
  | false =>
    have hin := h
    obtain ⟨A, c, rfl, -⟩ := h
    have CG := Lib.hid (fun W (hW : Below w.heap.size w W) => good_any hd hbg (hin.later hW))
    rw [hg] at CG
    unfold tv at CG ⊢
    have HB3 := Lib.hid (bt (below_alloc w (.cells #[.int .i64 V.k, .string V.nm, .int .i64 V.vr, .slice A V.args.length c] 24)) (below_alloc _ (.cells #[.int .i64 0, .string ⟨#[]⟩, .int .i64 0, .slice none 0 0] 24)))
    have BX := Lib.hid (two_box (w := w) (.cells #[.int .i64 V.k, .string V.nm, .int .i64 V.vr, .slice A V.args.length c] 24) (.cells #[.int .i64 0, .string ⟨#[]⟩, .int .i64 0, .slice none 0 0] 24))
    have HZ : Hid (((w.alloc (.cells #[.int .i64 V.k, .string V.nm, .int .i64 V.vr, .slice A V.args.length c] 24)).alloc (.cells #[.int .i64 0, .string ⟨#[]⟩, .int .i64 0, .slice none 0 0] 24)).heap.size = w.heap.size + 2) := Lib.hid (by simp)
    clear hbg hin hg hs
    go_enter Tryd.func28, Tryd.ntmps28
    go_wp2_with fail
    refine (CG.out _ HB3.out).mono ?_; rintro e w1 ⟨rfl, b1⟩
    have hb1 := bt HB3.out b1
    have q1 := b1.size
    rw [HZ.out] at q1
    have hx1 := (b1.block w.heap.size (by rw [HZ.out]; omega)).trans BX.out.1
    have hs2 := (b1.block (w.heap.size + 1) (by rw [HZ.out]; omega)).trans BX.out.2
    obtain ⟨x0, x1, x2, x3⟩ := cell4 hx1
    obtain ⟨⟨y0, y1, y2, y3⟩, k0, k1, k2, k3⟩ := zero_cells hs2
    obtain ⟨t0, t1, t2, t3⟩ := set4_cells (.int .i64 V.k) (.string V.nm) (.int .i64 V.vr) (.slice A V.args.length c) hs2
    have M := Lib.hid (set4_below (.int .i64 V.k) (.string V.nm) (.int .i64 V.vr) (.slice A V.args.length c) hb1 (Nat.le_succ w.heap.size))
    clear b1 hx1 CG q1 hs2 hb1
    go_wp2
    (try simp only [Exit.inBlock, Exit.then])
    refine bodyPost_ret (by simp [results, Tryd.results28, go_sem, t0, t1, t2, t3]; try rfl) rfl ?_
    exact ⟨A, c, rfl, M.out⟩
end Go.Proofs.YtifopogkbjhkjaaDoor
