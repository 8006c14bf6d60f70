import Derived.Test.YtifopogkbjhkjaaDoorTq
namespace Go.Proofs.YtifopogkbjhkjaaDoor
open Go.ChangeShapes Go.WideShapes Go.ChangeAt Go.RowKit Go.WideMaps
set_option linter.unusedVariables false
set_option linter.unusedSimpArgs false
/-- the result's four cells, written one by one. -/
abbrev set4 (w : World) (R : Nat) (a b c d : Value) : World := (((w.setCell ⟨R, 0, none⟩ a).setCell ⟨R, 1, none⟩ b).setCell ⟨R, 2, none⟩ c).setCell ⟨R, 3, none⟩ d
theorem set4_cells {w : World} {R : Nat} {y0 y1 y2 y3 : Value} (a b c d : Value) (h : w.heap[R]? = some (.cells #[y0, y1, y2, y3] TT24 (0, 0))) :
    (set4 w R a b c d).cell? ⟨R, 0, none⟩ = some a ∧ (set4 w R a b c d).cell? ⟨R, 1, none⟩ = some b ∧ (set4 w R a b c d).cell? ⟨R, 2, none⟩ = some c ∧ (set4 w R a b c d).cell? ⟨R, 3, none⟩ = some d := by
  have hf : (set4 w R a b c d).heap[R]? = some (.cells #[a, b, c, d] TT24 (0, 0)) := by simp [World.setCell, Array.getElem?_modify, h]
  refine ⟨?_, ?_, ?_, ?_⟩ <;> simp [World.cell?, hf]
theorem set4_keep (w : World) (R : Nat) (a b c d : Value) : ∀ k, k ≠ R → (set4 w R a b c d).heap[k]? = w.heap[k]? := fun k hk => by
  rw [Below.heap_setCell _ _ _ _ hk, Below.heap_setCell _ _ _ _ hk, Below.heap_setCell _ _ _ _ hk, Below.heap_setCell _ _ _ _ hk]
theorem set4_size (w : World) (R : Nat) (a b c d : Value) : (set4 w R a b c d).heap.size = w.heap.size := by simp [World.setCell]
theorem set4_below {B : Nat} {w0 w : World} {R : Nat} (a b c d : Value) (h : Below B w0 w) (hR : B ≤ R) : Below B w0 (set4 w R a b c d) :=
  (((h.setCell hR _).setCell hR _).setCell hR _).setCell hR _
theorem set4_ret {w wr : World} {R : Nat} {T : TT} {A : Option Addr} {P : Nat → Prop} {a b c d : Value} (hb : Below w.heap.size w wr) (hR : w.heap.size ≤ R) (hrow : TRow wr P A T.args) (hP : ∀ k, P k → w.heap.size ≤ k ∧ k ≠ R) :
    TRow (set4 wr R a b c d) (w.heap.size ≤ ·) A T.args ∧ Below w.heap.size w (set4 wr R a b c d) :=
  ⟨hrow.move (fun k _ hp => ⟨set4_keep wr R a b c d k (hP k hp).2, (hP k hp).1⟩) (by rw [set4_size]; exact Nat.le_refl _), set4_below a b c d hb hR⟩
/-- what the result's block is before it is written. -/
theorem zero_cells {w : World} {R : Nat} {y0 y1 y2 y3 : Value} (h : w.heap[R]? = some (.cells #[y0, y1, y2, y3] TT24 (0, 0))) :
    (w.cell? ⟨R, 0, none⟩ = some y0 ∧ w.cell? ⟨R, 1, none⟩ = some y1 ∧ w.cell? ⟨R, 2, none⟩ = some y2 ∧ w.cell? ⟨R, 3, none⟩ = some y3) ∧ w.frozen? ⟨R, 0, none⟩ = false ∧ w.frozen? ⟨R, 1, none⟩ = false ∧ w.frozen? ⟨R, 2, none⟩ = false ∧ w.frozen? ⟨R, 3, none⟩ = false := by
  refine ⟨⟨?_, ?_, ?_, ?_⟩, ?_, ?_, ?_, ?_⟩ <;> simp [World.cell?, World.frozen?, h]
set_option maxRecDepth 100000 in
set_option maxHeartbeats 2000000 in
theorem own_any {d : Nat} {V : TT} {v : Value} {w : World} (hd : d ≤ 500) (hbg : bigT d V = false) (h : TIn w any0 V v) : Calls Tryd.prog 30 #[v] w (CpPost w V) := by
  have hin := h
  obtain ⟨A, c, rfl, -⟩ := h
  have CL := Lib.hid (fun W (hW : Below w.heap.size w W) => clone_any d V _ 0 W hbg (by omega) (by omega) (hin.later hW))
  unfold tv at CL ⊢
  have HB3 := Lib.hid (bt (below_alloc w (.cells #[.int .i64 V.k, .string V.nm, .int .i64 V.vr, .slice A V.args.length c] 24)) (below_alloc _ (.cells #[.int .i64 0, .string ⟨#[]⟩, .int .i64 0, .slice none 0 0] 24)))
  have BX := Lib.hid (two_box (w := w) (.cells #[.int .i64 V.k, .string V.nm, .int .i64 V.vr, .slice A V.args.length c] 24) (.cells #[.int .i64 0, .string ⟨#[]⟩, .int .i64 0, .slice none 0 0] 24))
  have HZ : Hid (((w.alloc (.cells #[.int .i64 V.k, .string V.nm, .int .i64 V.vr, .slice A V.args.length c] 24)).alloc (.cells #[.int .i64 0, .string ⟨#[]⟩, .int .i64 0, .slice none 0 0] 24)).heap.size = w.heap.size + 2) := Lib.hid (by simp)
  clear hbg hin
  go_enter Tryd.func30, Tryd.ntmps30
  go_wp2_with fail
  refine (CL.out _ HB3.out).mono ?_; rintro e w2 ⟨A2, c2, rfl, r2, b2⟩
  obtain ⟨w3, hw3⟩ : ∃ z, z = w2.alloc (.cells #[.int .i64 V.k, .string V.nm, .int .i64 V.vr, .slice A2 V.args.length c2] 24) := ⟨_, rfl⟩
  have hb3 : Below w.heap.size w w3 := by rw [hw3]; exact bt HB3.out (bt b2 (below_alloc w2 _))
  have hR3 : TRow w3 (w.heap.size + 2 ≤ ·) A2 V.args := by
    rw [hw3]
    refine (r2.later (below_alloc w2 _)).weak (fun k _ h => ?_)
    rw [HZ.out] at h; exact h
  have hs3 : w3.heap[w.heap.size + 1]? = some (.cells #[.int .i64 0, .string ⟨#[]⟩, .int .i64 0, .slice none 0 0] 24 (0, 0)) := by
    have q1 := b2.size
    rw [HZ.out] at q1
    rw [hw3, Below.heap_alloc w2 _ _ (by omega), b2.block _ (by rw [HZ.out]; omega)]
    exact BX.out.2
  obtain ⟨⟨y0, y1, y2, y3⟩, k0, k1, k2, k3⟩ := zero_cells hs3
  have HW3 := Lib.hid hw3; have HB := Lib.hid hb3; have HR3 := Lib.hid hR3; have HS3 := Lib.hid hs3
  rw [hw3] at y0 y1 y2 y3 k0 k1 k2 k3
  clear r2 b2 hw3 hb3 hR3 hs3 CL
  unfold tv
  go_wp2
  rw [← HW3.out]
  obtain ⟨t0, t1, t2, t3⟩ := set4_cells (.int .i64 V.k) (.string V.nm) (.int .i64 V.vr) (.slice A2 V.args.length c2) HS3.out
  obtain ⟨m1, m2⟩ := set4_ret (a := .int .i64 V.k) (b := .string V.nm) (c := .int .i64 V.vr) (d := .slice A2 V.args.length c2) HB.out (Nat.le_succ _) HR3.out (fun k hk => ⟨by omega, by omega⟩)
  (try simp only [Exit.inBlock, Exit.then])
  refine bodyPost_ret (by simp [results, Tryd.results30, go_sem, t0, t1, t2, t3]; try rfl) rfl ?_
  exact ⟨A2, c2, rfl, m1, m2⟩
end Go.Proofs.YtifopogkbjhkjaaDoor
