import Derived.Test.YtifopogkbjhkjaaDoorTw
namespace Go.Proofs.YtifopogkbjhkjaaDoor
open Go.ChangeShapes Go.WideShapes Go.ChangeAt Go.RowKit Go.WideMaps
set_option linter.unusedVariables false
set_option linter.unusedSimpArgs false
set_option maxRecDepth 100000 in
set_option maxHeartbeats 2000000 in
theorem apply_any {d : Nat} {V : TT} {v : Value} {w : World} {sb : Nat} {n : Int} (hd : d ≤ 7) (hbg : bigT d V = false) (hg : goodT V = true) (hs : SubE w sb n) (h : TIn w any0 V v) : Calls Tryd.prog 28 #[.pointer (some ⟨sb, 0, none⟩), v] w (CpPost w V) := by
  have hin := h
  have hsh : shp V = true := by unfold goodT at hg; rw [Bool.and_eq_true] at hg; exact hg.2
  obtain ⟨A, c, rfl, -⟩ := h
  have CG := Lib.hid (fun W (hW : Below w.heap.size w W) => good_any hd hbg (hin.later hW))
  have CF := Lib.hid (fun W (hW : Below w.heap.size w W) => full_any d V _ W sb n hbg hsh (hs.below hW) (hin.later hW))
  rw [hg] at CG
  unfold tv at CG CF ⊢
  have HB3 := Lib.hid (bt (below_alloc w (.cells #[.int .i64 V.k, .string V.nm, .int .i64 V.vr, .slice A V.args.length c] 24)) (below_alloc _ (.cells #[.int .i64 0, .string ⟨#[]⟩, .int .i64 0, .slice none 0 0] 24)))
  have BX := Lib.hid (two_box (w := w) (.cells #[.int .i64 V.k, .string V.nm, .int .i64 V.vr, .slice A V.args.length c] 24) (.cells #[.int .i64 0, .string ⟨#[]⟩, .int .i64 0, .slice none 0 0] 24))
  have HZ : Hid (((w.alloc (.cells #[.int .i64 V.k, .string V.nm, .int .i64 V.vr, .slice A V.args.length c] 24)).alloc (.cells #[.int .i64 0, .string ⟨#[]⟩, .int .i64 0, .slice none 0 0] 24)).heap.size = w.heap.size + 2) := Lib.hid (by simp)
  clear hbg hin hsh hg hs
  go_enter Tryd.func28, Tryd.ntmps28
  go_wp2_with fail
  refine (CG.out _ HB3.out).mono ?_; rintro e w1 ⟨rfl, b1⟩
  have B1 := Lib.hid (bt HB3.out b1)
  have q1 := b1.size
  rw [HZ.out] at q1
  have hx1 := (b1.block w.heap.size (by rw [HZ.out]; omega)).trans BX.out.1
  have HX2 := Lib.hid ((b1.block (w.heap.size + 1) (by rw [HZ.out]; omega)).trans BX.out.2)
  obtain ⟨x0, x1, x2, x3⟩ := cell4 hx1
  have Q1 := Lib.hid q1
  clear b1 hx1 CG q1
  go_wp2_with fail
  refine (CF.out _ B1.out).mono ?_; rintro e w2 ⟨A2, c2, rfl, r2, b2⟩
  have hb2 : Below w.heap.size w w2 := bt B1.out b2
  have hR2 : TRow w2 (w.heap.size + 2 ≤ ·) A2 V.args := r2.weak (fun k _ h => Nat.le_trans Q1.out h)
  have hs2 := (b2.block (w.heap.size + 1) (by have := Q1.out; omega)).trans HX2.out
  obtain ⟨⟨y0, y1, y2, y3⟩, k0, k1, k2, k3⟩ := zero_cells hs2
  obtain ⟨t0, t1, t2, t3⟩ := set4_cells (.int .i64 V.k) (.string V.nm) (.int .i64 V.vr) (.slice A2 V.args.length c2) hs2
  have M := Lib.hid (set4_ret (a := .int .i64 V.k) (b := .string V.nm) (c := .int .i64 V.vr) (d := .slice A2 V.args.length c2) hb2 (Nat.le_succ w.heap.size) hR2 (fun k hk => ⟨by omega, by omega⟩))
  clear r2 b2 CF hb2 hR2 hs2 x0 x1 x2 x3
  unfold tv
  go_wp2
  (try simp only [Exit.inBlock, Exit.then])
  refine bodyPost_ret (by simp [results, Tryd.results28, go_sem, t0, t1, t2, t3]; try rfl) rfl ?_
  exact ⟨A2, c2, rfl, M.out.1, M.out.2⟩
abbrev SchT : TypeId := 34
/-- a scheme by value. -/
def scv (Al : Option Addr) (m ca : Nat) (V : TT) (A : Option Addr) (c : Nat) : Value := .agg #[.slice Al m ca, .int .i64 V.k, .string V.nm, .int .i64 V.vr, .slice A V.args.length c]
abbrev set5 (w : World) (R : Nat) (a b c d e : Value) : World := ((((w.setCell ⟨R, 0, none⟩ a).setCell ⟨R, 1, none⟩ b).setCell ⟨R, 2, none⟩ c).setCell ⟨R, 3, none⟩ d).setCell ⟨R, 4, none⟩ e
theorem set5_cells {w : World} {R : Nat} {y0 y1 y2 y3 y4 : Value} (a b c d e : Value) (h : w.heap[R]? = some (.cells #[y0, y1, y2, y3, y4] SchT (0, 0))) :
    (set5 w R a b c d e).cell? ⟨R, 0, none⟩ = some a ∧ (set5 w R a b c d e).cell? ⟨R, 1, none⟩ = some b ∧ (set5 w R a b c d e).cell? ⟨R, 2, none⟩ = some c ∧ (set5 w R a b c d e).cell? ⟨R, 3, none⟩ = some d ∧ (set5 w R a b c d e).cell? ⟨R, 4, none⟩ = some e := by
  have hf : (set5 w R a b c d e).heap[R]? = some (.cells #[a, b, c, d, e] SchT (0, 0)) := by simp [World.setCell, Array.getElem?_modify, h]
  refine ⟨?_, ?_, ?_, ?_, ?_⟩ <;> simp [World.cell?, hf]
theorem set5_keep (w : World) (R : Nat) (a b c d e : Value) : ∀ k, k ≠ R → (set5 w R a b c d e).heap[k]? = w.heap[k]? := fun k hk => by
  rw [Below.heap_setCell _ _ _ _ hk, Below.heap_setCell _ _ _ _ hk, Below.heap_setCell _ _ _ _ hk, Below.heap_setCell _ _ _ _ hk, Below.heap_setCell _ _ _ _ hk]
theorem set5_size (w : World) (R : Nat) (a b c d e : Value) : (set5 w R a b c d e).heap.size = w.heap.size := by simp [World.setCell]
theorem set5_below {B : Nat} {w0 w : World} {R : Nat} (a b c d e : Value) (h : Below B w0 w) (hR : B ≤ R) : Below B w0 (set5 w R a b c d e) :=
  ((((h.setCell hR _).setCell hR _).setCell hR _).setCell hR _).setCell hR _
theorem five_cells {w : World} {R : Nat} {y0 y1 y2 y3 y4 : Value} (h : w.heap[R]? = some (.cells #[y0, y1, y2, y3, y4] SchT (0, 0))) :
    (w.cell? ⟨R, 0, none⟩ = some y0 ∧ w.cell? ⟨R, 1, none⟩ = some y1 ∧ w.cell? ⟨R, 2, none⟩ = some y2 ∧ w.cell? ⟨R, 3, none⟩ = some y3 ∧ w.cell? ⟨R, 4, none⟩ = some y4) ∧ w.frozen? ⟨R, 0, none⟩ = false ∧ w.frozen? ⟨R, 1, none⟩ = false ∧ w.frozen? ⟨R, 2, none⟩ = false ∧ w.frozen? ⟨R, 3, none⟩ = false ∧ w.frozen? ⟨R, 4, none⟩ = false := by
  refine ⟨⟨?_, ?_, ?_, ?_, ?_⟩, ?_, ?_, ?_, ?_, ?_⟩ <;> simp [World.cell?, World.frozen?, h]
def MonoPost (w : World) (T : TT) (e : Ending) (w' : World) : Prop := ∃ A c, e = .returned (scv none 0 0 T A c) ∧ TRow w' (w.heap.size ≤ ·) A T.args ∧ Below w.heap.size w w'
set_option maxRecDepth 100000 in
set_option maxHeartbeats 2000000 in
theorem mono_any {d : Nat} {V : TT} {v : Value} {w : World} (hd : d ≤ 500) (hbg : bigT d V = false) (h : TIn w any0 V v) : Calls Tryd.prog 17 #[v] w (MonoPost w V) := by
  have hin := h
  obtain ⟨A, c, rfl, -⟩ := h
  have CL := Lib.hid (fun W (hW : Below w.heap.size w W) => own_any hd hbg (hin.later hW))
  unfold tv at CL ⊢
  obtain ⟨wB, hwB⟩ : ∃ z, z = (w.alloc (.cells #[.int .i64 V.k, .string V.nm, .int .i64 V.vr, .slice A V.args.length c] 24)).alloc (.cells #[.slice none 0 0, .int .i64 0, .string ⟨#[]⟩, .int .i64 0, .slice none 0 0] SchT) := ⟨_, rfl⟩
  have BX := two_box (w := w) (.cells #[.int .i64 V.k, .string V.nm, .int .i64 V.vr, .slice A V.args.length c] 24) (.cells #[.slice none 0 0, .int .i64 0, .string ⟨#[]⟩, .int .i64 0, .slice none 0 0] SchT)
  rw [← hwB] at BX
  have HB := Lib.hid (show Below w.heap.size w wB by rw [hwB]; exact bt (below_alloc w _) (below_alloc _ _))
  have HZ := Lib.hid (show wB.heap.size = w.heap.size + 2 by rw [hwB]; simp)
  have HX := Lib.hid BX.2
  obtain ⟨x0, x1, x2, x3⟩ := cell4 BX.1
  have HWB := Lib.hid hwB
  clear hbg hin BX hwB
  go_enter Tryd.func17, Tryd.ntmps17
  go_wp2_with fail
  rw [← HWB.out]
  try go_wp2_with fail
  refine (CL.out _ HB.out).mono ?_; rintro e w2 ⟨A2, c2, rfl, r2, b2⟩
  have hb2 : Below w.heap.size w w2 := bt HB.out b2
  have hR2 : TRow w2 (w.heap.size + 2 ≤ ·) A2 V.args := r2.weak (fun k _ h => by rw [HZ.out] at h; exact h)
  have hs2 := (b2.block (w.heap.size + 1) (by have := HZ.out; omega)).trans HX.out
  obtain ⟨⟨y0, y1, y2, y3, y4⟩, k0, k1, k2, k3, k4⟩ := five_cells hs2
  obtain ⟨t0, t1, t2, t3, t4⟩ := set5_cells (.slice none 0 0) (.int .i64 V.k) (.string V.nm) (.int .i64 V.vr) (.slice A2 V.args.length c2) hs2
  have M1 := Lib.hid (set5_below (.slice none 0 0) (.int .i64 V.k) (.string V.nm) (.int .i64 V.vr) (.slice A2 V.args.length c2) hb2 (Nat.le_succ w.heap.size))
  have M2 := Lib.hid (hR2.move (w' := set5 w2 (w.heap.size + 1) (.slice none 0 0) (.int .i64 V.k) (.string V.nm) (.int .i64 V.vr) (.slice A2 V.args.length c2)) (P' := (w.heap.size ≤ ·)) (fun k _ hp => ⟨set5_keep w2 (w.heap.size + 1) _ _ _ _ _ k (by omega), by omega⟩) (by rw [set5_size]; exact Nat.le_refl _))
  clear r2 b2 CL hb2 hR2 hs2 x0 x1 x2 x3
  unfold tv
  go_wp2
  (try simp only [Exit.inBlock, Exit.then])
  refine bodyPost_ret (by simp [results, Tryd.results17, go_sem, t0, t1, t2, t3, t4]; try rfl) rfl ?_
  exact ⟨A2, c2, rfl, M2.out, M1.out⟩
end Go.Proofs.YtifopogkbjhkjaaDoor
