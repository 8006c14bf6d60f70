import Derived.Test.YtifopogkbjhkjaaDoorTy
namespace Go.Proofs.YtifopogkbjhkjaaDoor
open Go.ChangeShapes Go.WideShapes Go.ChangeAt Go.RowKit Go.WideMaps
set_option linter.unusedVariables false
set_option linter.unusedSimpArgs false
mutual
theorem renT_none : ∀ V : TT, renT (fun _ => none) V = V
  | .mk k nm vr args => by
    rw [renT_not (by simp)]
    show TT.mk k nm vr (args.map (renT fun _ => none)) = _
    rw [renL_none args]
theorem renL_none : ∀ l : List TT, l.map (renT fun _ => none) = l
  | [] => rfl
  | a :: l => by rw [List.map_cons, renT_none a, renL_none l]
end
theorem tv_in {w w' : World} {A : Option Addr} {c : Nat} {V : TT} (h : TRow w any0 A V.args) (hb : Below w.heap.size w w') : TIn w' any0 V (tv V A c) := ⟨A, c, rfl, h.later hb⟩
set_option maxRecDepth 100000 in
set_option maxHeartbeats 2000000 in
theorem sgood0 {d : Nat} {V : TT} {A : Option Addr} {c : Nat} {w : World} (hd : d ≤ 7) (hbg : bigT d V = false) (hg : goodT V = true) (h : TRow w any0 A V.args) : Calls Tryd.prog 12 #[scv none 0 0 V A c] w fun e w' => e = .returned (.bool true) ∧ Below w.heap.size w w' := by
  have hsh : shp V = true := by unfold goodT at hg; rw [Bool.and_eq_true] at hg; exact hg.2
  have CG := Lib.hid (fun W (hW : Below w.heap.size w W) => good_any hd hbg (tv_in (c := c) h hW))
  have CV := Lib.hid (fun W (hW : Below w.heap.size w W) => vars_any hd hbg hsh (tv_in (c := c) h hW))
  rw [hg] at CG
  unfold tv at CG CV
  unfold scv
  obtain ⟨wA, hwA⟩ : ∃ z, z = w.alloc (.cells #[.slice none 0 0, .int .i64 V.k, .string V.nm, .int .i64 V.vr, .slice A V.args.length c] SchT) := ⟨_, rfl⟩
  have HA := Lib.hid (show Below w.heap.size w wA by rw [hwA]; exact below_alloc w _)
  have hx := heap_alloc_new w (.cells #[.slice none 0 0, .int .i64 V.k, .string V.nm, .int .i64 V.vr, .slice A V.args.length c] SchT)
  rw [← hwA] at hx
  have hz : wA.heap.size = w.heap.size + 1 := by rw [hwA]; simp
  obtain ⟨⟨x0, x1, x2, x3, x4⟩, -⟩ := five_cells hx
  have HX := Lib.hid hx; have HZ := Lib.hid hz; have HWA := Lib.hid hwA
  clear hbg hsh hg h hwA hx hz
  go_enter Tryd.func12, Tryd.ntmps12
  go_wp2_with fail
  rw [← HWA.out]
  try go_wp2_with fail
  refine (CG.out _ HA.out).mono ?_; rintro e w1 ⟨rfl, b1⟩
  have B1 := Lib.hid (bt HA.out b1)
  have hx1 := (b1.block w.heap.size (by have := HZ.out; omega)).trans HX.out
  have HX1 := Lib.hid hx1
  have q1 := b1.size
  obtain ⟨⟨y0, y1, y2, y3, y4⟩, -⟩ := five_cells hx1
  have Q1 := Lib.hid q1
  clear b1 hx1 q1 x0 x1 x2 x3 x4 CG
  go_wp2_with fail
  refine (CV.out _ B1.out).mono ?_; rintro e w2 ⟨A2, c2, rfl, o2, b2⟩
  have B2 := Lib.hid (bt B1.out b2.out)
  have hx2 := (b2.out.block w.heap.size (by have := Q1.out; have := HZ.out; omega)).trans HX1.out
  obtain ⟨⟨z0, z1, z2, z3, z4⟩, -⟩ := five_cells hx2
  clear o2 b2 hx2 CV y0 y1 y2 y3 y4
  go_wp2
  go_loopw [16] (fun i wr => i = .int .i64 0 ∧ wr = w2) (fun _ _ => 0)
  case atStart => exact ⟨rfl, rfl⟩
  case round =>
    obtain ⟨rfl, rfl⟩ := hrel
    go_wp2
    go_ret
    exact ⟨rfl, B2.out⟩
set_option maxRecDepth 100000 in
set_option maxHeartbeats 2000000 in
/-- what is bound as it is is opened as it is. -/
theorem open0 {d : Nat} {V : TT} {A : Option Addr} {c sb : Nat} {n : Int} {w : World} (hd : d ≤ 7) (hbg : bigT d V = false) (hg : goodT V = true) (hs : SubE w sb n) (h : TRow w any0 A V.args) : Calls Tryd.prog 15 #[.pointer (some ⟨sb, 0, none⟩), scv none 0 0 V A c] w (CpPost w V) := by
  have hsh : shp V = true := by unfold goodT at hg; rw [Bool.and_eq_true] at hg; exact hg.2
  have CG := Lib.hid (fun W (hW : Below w.heap.size w W) => sgood0 (c := c) hd hbg hg (h.later hW))
  have CR := Lib.hid (fun W M (hW : Below w.heap.size w W) (hm : MN W M 0 (fun _ => none)) => renT_none V ▸ ren_any d V _ W M 0 _ hbg hsh hm (tv_in (c := c) h hW))
  have CA := Lib.hid (fun W v (hW : Below w.heap.size w W) (hv : TIn W any0 V v) => apply_any hd hbg hg (hs.below hW) hv)
  have hmm := @run_makeMap Tryd.prog
  unfold tv at CR
  unfold scv at CG ⊢
  obtain ⟨wB, hwB⟩ : ∃ z, z = (w.alloc (.cells #[.slice none 0 0, .int .i64 V.k, .string V.nm, .int .i64 V.vr, .slice A V.args.length c] SchT)).alloc (.cells #[.int .i64 0, .string ⟨#[]⟩, .int .i64 0, .slice none 0 0] 24) := ⟨_, rfl⟩
  have BX := two_box (w := w) (.cells #[.slice none 0 0, .int .i64 V.k, .string V.nm, .int .i64 V.vr, .slice A V.args.length c] SchT) (.cells #[.int .i64 0, .string ⟨#[]⟩, .int .i64 0, .slice none 0 0] 24)
  rw [← hwB] at BX
  have HB := Lib.hid (show Below w.heap.size w wB by rw [hwB]; exact bt (below_alloc w _) (below_alloc _ _))
  have HZ := Lib.hid (show wB.heap.size = w.heap.size + 2 by rw [hwB]; simp)
  have HX := Lib.hid BX
  obtain ⟨⟨x0, x1, x2, x3, x4⟩, -⟩ := five_cells BX.1
  have HWB := Lib.hid hwB
  clear hbg hsh hg h hs hwB BX
  go_enter Tryd.func15, Tryd.ntmps15
  go_wp2_with fail
  rw [← HWB.out]
  try go_wp2_with fail
  refine (CG.out _ HB.out).mono ?_; rintro e w1 ⟨rfl, b1⟩
  obtain ⟨w2, hw2⟩ : ∃ z, z = w1.alloc (.map #[] 0) := ⟨_, rfl⟩
  have b2 : Below wB.heap.size wB w2 := by rw [hw2]; exact bt b1 (below_alloc w1 _)
  have HM := Lib.hid (show MN w2 w1.heap.size 0 (fun _ => none) by rw [hw2]; exact mn_made w1)
  have B2 := Lib.hid (bt HB.out b2)
  have hx2 := (b2.block w.heap.size (by have := HZ.out; omega)).trans HX.out.1
  have HX2 := Lib.hid ((b2.block (w.heap.size + 1) (by have := HZ.out; omega)).trans HX.out.2)
  have Q2 := Lib.hid (show w.heap.size + 2 ≤ w2.heap.size by have := b2.size; have := HZ.out; omega)
  obtain ⟨⟨y0, y1, y2, y3, y4⟩, -⟩ := five_cells hx2
  have HW2 := Lib.hid hw2
  have HY2 := Lib.hid hx2
  rw [hw2] at y0
  clear b1 b2 hx2 hw2 x0 x1 x2 x3 x4 CG
  go_wp2
  rw [← HW2.out]
  clear y0 y1 y2 y3 y4
  go_loopw [18] (fun i wr => i = .int .i64 0 ∧ wr = w2) (fun _ _ => 0)
  case atStart => exact ⟨rfl, rfl⟩
  case round =>
    obtain ⟨rfl, rfl⟩ := hrel
    obtain ⟨⟨y0, y1, y2, y3, y4⟩, -⟩ := five_cells HY2.out
    go_wp2_with fail
    refine (CR.out _ _ B2.out HM.out).mono ?_; rintro e w3 ⟨A3, c3, rfl, r3, b3⟩
    have B3 := Lib.hid (bt B2.out b3)
    have T3 := Lib.hid (show TIn w3 any0 V (tv V A3 c3) from ⟨A3, c3, rfl, r3.weak (fun _ _ _ => trivial)⟩)
    have HX3 := Lib.hid ((b3.block (w.heap.size + 1) (by have := Q2.out; omega)).trans HX2.out)
    have Q3 := Lib.hid (show w.heap.size + 2 ≤ w3.heap.size from Nat.le_trans Q2.out b3.size)
    clear b3 r3 CR y0 y1 y2 y3 y4
    go_wp2_with fail
    refine (CA.out _ _ B3.out T3.out).mono ?_; rintro e w4 ⟨A4, c4, rfl, r4, b4⟩
    have hb4 : Below w.heap.size w w4 := bt B3.out b4
    have hR4 : TRow w4 (w.heap.size + 2 ≤ ·) A4 V.args := r4.weak (fun k _ h => Nat.le_trans Q3.out h)
    have hs4 := (b4.block (w.heap.size + 1) (by have := Q3.out; omega)).trans HX3.out
    obtain ⟨⟨y0, y1, y2, y3⟩, k0, k1, k2, k3⟩ := zero_cells hs4
    obtain ⟨t0, t1, t2, t3⟩ := set4_cells (.int .i64 V.k) (.string V.nm) (.int .i64 V.vr) (.slice A4 V.args.length c4) hs4
    have M := Lib.hid (set4_ret (a := .int .i64 V.k) (b := .string V.nm) (c := .int .i64 V.vr) (d := .slice A4 V.args.length c4) hb4 (Nat.le_succ w.heap.size) hR4 (fun k hk => ⟨by omega, by omega⟩))
    clear r4 b4 CA hb4 hR4 hs4
    unfold tv
    go_wp2
    (try simp only [Exit.inBlock, Exit.then])
    refine bodyPost_ret (by simp [results, Tryd.results15, go_sem, t0, t1, t2, t3]; try rfl) rfl ?_
    exact ⟨A4, c4, rfl, M.out.1, M.out.2⟩
end Go.Proofs.YtifopogkbjhkjaaDoor
