import Derived.Test.YtclilpabdcdeoaaDoorOp
import Derived.Test.YtclilpabdcdeoaaDoorOps
namespace Go.Proofs.YtclilpabdcdeoaaDoor
open Go.ChangeShapes Go.WideShapes Go.ChangeAt Go.RowKit
set_option linter.unusedVariables false
def T1 : TT := .mk 1 .empty 0 []
def tyFor (k : Int) : TT := .mk k (if k = 4 then ⟨#[116]⟩ else .empty) 0 (if k = 5 then [T1, T1] else if k = 6 then [T1] else [])
theorem okTL_1 {w : World} {b o : Nat} (hb : b < w.heap.size) (h0 : w.cell? ⟨b, o, none⟩ = some (.int .i64 1)) (h1 : w.cell? ⟨b, o + 1, none⟩ = some (.string .empty)) (h2 : w.cell? ⟨b, o + 2, none⟩ = some (.int .i64 0)) (h3 : w.cell? ⟨b, o + 3, none⟩ = some (.slice none 0 0)) {l : List TT} (hl : okTL w l b (o + 4)) : okTL w (T1 :: l) b o := by
  rw [okTL]
  refine ⟨?_, hl⟩
  rw [okT_eq]
  exact ⟨hb, h0, h1, h2, none, 0, h3, .inl rfl⟩
theorem alloc_size (W : World) (o : Obj) : (W.alloc o).heap.size = W.heap.size + 1 := by show (W.heap.push o).size = _; simp
theorem box_at2 {W : World} {vs : Array Value} {t B : Nat} (j : Nat) {v : Value} (hB : W.heap.size = B) (h : vs[j]? = some v) : (W.alloc (.cells vs t)).cell? ⟨B, j, none⟩ = some v := hB ▸ box_at j h
theorem bD9 {n : Nat} {w a : World} (h : Below n w a) : Below n w a.drew := h.trans ⟨rfl, rfl, rfl, Nat.le_refl _, fun _ _ => rfl⟩
set_option maxRecDepth 100000 in
set_option maxHeartbeats 8000000 in
theorem kinds1 {w : World} {V : VT} {A : Option Addr} {c : Nat} {e : Value} {x : ByteArray} {b : Bool}
    (hbig : ∀ W, Below w.heap.size w W → Calls Tryd.prog 21 #[.agg #[.int .i64 V.k, .int .i64 V.n, .string V.nm, .slice A V.args.length c, .int .i64 V.node, e, .int .i64 V.at_], .int .i64 64] W fun e w' => e = .returned (.bool false) ∧ Below W.heap.size W w')
    (hr : ∀ W t, Below w.heap.size w W → TIn W (tyFor 1) t → Calls Tryd.prog 14 #[.agg #[.int .i64 V.k, .int .i64 V.n, .string V.nm, .slice A V.args.length c, .int .i64 V.node, e, .int .i64 V.at_], t, .slice none 0 0, .slice none 0 0] W fun e w' => e = .returned (.string x) ∧ Below W.heap.size W w')
    (hp : ∀ W, Below w.heap.size w W → Calls Tryd.prog 14 #[.agg #[.int .i64 V.k, .int .i64 V.n, .string V.nm, .slice A V.args.length c, .int .i64 V.node, e, .int .i64 V.at_], .agg #[.int .i64 7, .string ⟨#[]⟩, .int .i64 0, .slice none 0 0], .slice none 0 0, .slice none 0 0] W fun e w' => e = .returned (.string ⟨#[60, 112, 111, 108, 121, 62]⟩) ∧ Below W.heap.size W w')
    (hnm : (V.nm.toList == [63]) = false) (d1 : (x.toList == [63]) = b) (d2 : (V.k != 1) = b) :
    Calls Tryd.prog 8 #[.agg #[.int .i64 V.k, .int .i64 V.n, .string V.nm, .slice A V.args.length c, .int .i64 V.node, e, .int .i64 V.at_], .int .i64 1] w fun e w' => e = .returned (.bool true) ∧ Below w.heap.size w w' := by
  have HBIG := Lib.hid hbig
  have HR := Lib.hid hr
  have HP := Lib.hid hp
  clear hbig hr hp
  go_enter Tryd.func8, Tryd.ntmps8
  go_wp2_with fail
  refine (awake _).mono ?_; rintro e w1 ⟨rfl, hb1⟩
  have B1 := Lib.hid (below2 (belowA w _) hb1)
  have c0 := keepC hb1 (box_at (W := w) (t := 26) (vs := #[.int .i64 V.k, .int .i64 V.n, .string V.nm, .slice A V.args.length c, .int .i64 V.node, e, .int .i64 V.at_]) 0 rfl)
  have c1 := keepC hb1 (box_at (W := w) (t := 26) (vs := #[.int .i64 V.k, .int .i64 V.n, .string V.nm, .slice A V.args.length c, .int .i64 V.node, e, .int .i64 V.at_]) 1 rfl)
  have c2 := keepC hb1 (box_at (W := w) (t := 26) (vs := #[.int .i64 V.k, .int .i64 V.n, .string V.nm, .slice A V.args.length c, .int .i64 V.node, e, .int .i64 V.at_]) 2 rfl)
  have c3 := keepC hb1 (box_at (W := w) (t := 26) (vs := #[.int .i64 V.k, .int .i64 V.n, .string V.nm, .slice A V.args.length c, .int .i64 V.node, e, .int .i64 V.at_]) 3 rfl)
  have c4 := keepC hb1 (box_at (W := w) (t := 26) (vs := #[.int .i64 V.k, .int .i64 V.n, .string V.nm, .slice A V.args.length c, .int .i64 V.node, e, .int .i64 V.at_]) 4 rfl)
  have c5 := keepC hb1 (box_at (W := w) (t := 26) (vs := #[.int .i64 V.k, .int .i64 V.n, .string V.nm, .slice A V.args.length c, .int .i64 V.node, e, .int .i64 V.at_]) 5 rfl)
  have c6 := keepC hb1 (box_at (W := w) (t := 26) (vs := #[.int .i64 V.k, .int .i64 V.n, .string V.nm, .slice A V.args.length c, .int .i64 V.node, e, .int .i64 V.at_]) 6 rfl)
  clear hb1
  go_wp2_with fail
  refine (HBIG.out _ B1.out).mono ?_; rintro e w2 ⟨rfl, hb2⟩
  have B2 := Lib.hid (below2 B1.out hb2)
  have e0 := keepC hb2 c0
  have e1 := keepC hb2 c1
  have e2 := keepC hb2 c2
  have e3 := keepC hb2 c3
  have e4 := keepC hb2 c4
  have e5 := keepC hb2 c5
  have e6 := keepC hb2 c6
  clear c0 c1 c2 c3 c4 c5 c6 hb2 B1
  go_wp2_with fail
  have B3 := Lib.hid (below2 B2.out (belowA w2 (.cells #[.int .i64 1, .string ⟨#[]⟩, .int .i64 0, .slice none 0 0] 34)))
  have B3 := Lib.hid (below2 B3.out (belowA _ (.cells #[.int .i64 0, .int .i64 1, .int .i64 2, .int .i64 3, .int .i64 4, .int .i64 5, .int .i64 6] 3)))
  have B0 := Lib.hid (show World.cell? ((w2.alloc (.cells #[.int .i64 1, .string ⟨#[]⟩, .int .i64 0, .slice none 0 0] 34)).alloc (.cells #[.int .i64 0, .int .i64 1, .int .i64 2, .int .i64 3, .int .i64 4, .int .i64 5, .int .i64 6] 3)) ⟨w.heap.size, 0, none⟩ = some (.int .i64 V.k) ∧ World.cell? ((w2.alloc (.cells #[.int .i64 1, .string ⟨#[]⟩, .int .i64 0, .slice none 0 0] 34)).alloc (.cells #[.int .i64 0, .int .i64 1, .int .i64 2, .int .i64 3, .int .i64 4, .int .i64 5, .int .i64 6] 3)) ⟨w.heap.size, 1, none⟩ = some (.int .i64 V.n) ∧ World.cell? ((w2.alloc (.cells #[.int .i64 1, .string ⟨#[]⟩, .int .i64 0, .slice none 0 0] 34)).alloc (.cells #[.int .i64 0, .int .i64 1, .int .i64 2, .int .i64 3, .int .i64 4, .int .i64 5, .int .i64 6] 3)) ⟨w.heap.size, 2, none⟩ = some (.string V.nm) ∧ World.cell? ((w2.alloc (.cells #[.int .i64 1, .string ⟨#[]⟩, .int .i64 0, .slice none 0 0] 34)).alloc (.cells #[.int .i64 0, .int .i64 1, .int .i64 2, .int .i64 3, .int .i64 4, .int .i64 5, .int .i64 6] 3)) ⟨w.heap.size, 3, none⟩ = some (.slice A V.args.length c) ∧ World.cell? ((w2.alloc (.cells #[.int .i64 1, .string ⟨#[]⟩, .int .i64 0, .slice none 0 0] 34)).alloc (.cells #[.int .i64 0, .int .i64 1, .int .i64 2, .int .i64 3, .int .i64 4, .int .i64 5, .int .i64 6] 3)) ⟨w.heap.size, 4, none⟩ = some (.int .i64 V.node) ∧ World.cell? ((w2.alloc (.cells #[.int .i64 1, .string ⟨#[]⟩, .int .i64 0, .slice none 0 0] 34)).alloc (.cells #[.int .i64 0, .int .i64 1, .int .i64 2, .int .i64 3, .int .i64 4, .int .i64 5, .int .i64 6] 3)) ⟨w.heap.size, 5, none⟩ = some (e) ∧ World.cell? ((w2.alloc (.cells #[.int .i64 1, .string ⟨#[]⟩, .int .i64 0, .slice none 0 0] 34)).alloc (.cells #[.int .i64 0, .int .i64 1, .int .i64 2, .int .i64 3, .int .i64 4, .int .i64 5, .int .i64 6] 3)) ⟨w.heap.size, 6, none⟩ = some (.int .i64 V.at_) ∧ World.cell? ((w2.alloc (.cells #[.int .i64 1, .string ⟨#[]⟩, .int .i64 0, .slice none 0 0] 34)).alloc (.cells #[.int .i64 0, .int .i64 1, .int .i64 2, .int .i64 3, .int .i64 4, .int .i64 5, .int .i64 6] 3)) ⟨w2.heap.size, 0, none⟩ = some (.int .i64 1) ∧ World.cell? ((w2.alloc (.cells #[.int .i64 1, .string ⟨#[]⟩, .int .i64 0, .slice none 0 0] 34)).alloc (.cells #[.int .i64 0, .int .i64 1, .int .i64 2, .int .i64 3, .int .i64 4, .int .i64 5, .int .i64 6] 3)) ⟨w2.heap.size, 1, none⟩ = some (.string ⟨#[]⟩) ∧ World.cell? ((w2.alloc (.cells #[.int .i64 1, .string ⟨#[]⟩, .int .i64 0, .slice none 0 0] 34)).alloc (.cells #[.int .i64 0, .int .i64 1, .int .i64 2, .int .i64 3, .int .i64 4, .int .i64 5, .int .i64 6] 3)) ⟨w2.heap.size, 2, none⟩ = some (.int .i64 0) ∧ World.cell? ((w2.alloc (.cells #[.int .i64 1, .string ⟨#[]⟩, .int .i64 0, .slice none 0 0] 34)).alloc (.cells #[.int .i64 0, .int .i64 1, .int .i64 2, .int .i64 3, .int .i64 4, .int .i64 5, .int .i64 6] 3)) ⟨w2.heap.size, 3, none⟩ = some (.slice none 0 0) ∧ World.cell? ((w2.alloc (.cells #[.int .i64 1, .string ⟨#[]⟩, .int .i64 0, .slice none 0 0] 34)).alloc (.cells #[.int .i64 0, .int .i64 1, .int .i64 2, .int .i64 3, .int .i64 4, .int .i64 5, .int .i64 6] 3)) ⟨w2.heap.size + 1, 1, none⟩ = some (.int .i64 1) from ⟨(keepA _ (keepA _ e0)), (keepA _ (keepA _ e1)), (keepA _ (keepA _ e2)), (keepA _ (keepA _ e3)), (keepA _ (keepA _ e4)), (keepA _ (keepA _ e5)), (keepA _ (keepA _ e6)), (keepA _ (box_at (W := w2) (t := 34) (vs := #[.int .i64 1, .string ⟨#[]⟩, .int .i64 0, .slice none 0 0]) 0 rfl)), (keepA _ (box_at (W := w2) (t := 34) (vs := #[.int .i64 1, .string ⟨#[]⟩, .int .i64 0, .slice none 0 0]) 1 rfl)), (keepA _ (box_at (W := w2) (t := 34) (vs := #[.int .i64 1, .string ⟨#[]⟩, .int .i64 0, .slice none 0 0]) 2 rfl)), (keepA _ (box_at (W := w2) (t := 34) (vs := #[.int .i64 1, .string ⟨#[]⟩, .int .i64 0, .slice none 0 0]) 3 rfl)), (box_at2 (t := 3) (vs := #[.int .i64 0, .int .i64 1, .int .i64 2, .int .i64 3, .int .i64 4, .int .i64 5, .int .i64 6]) 1 (by simp only [alloc_size]) rfl)⟩)
  refine wp_region_held_drew (S := fun w' => w'.cell? ⟨w.heap.size, 0, none⟩ = some (.int .i64 V.k) ∧ w'.cell? ⟨w.heap.size, 1, none⟩ = some (.int .i64 V.n) ∧ w'.cell? ⟨w.heap.size, 2, none⟩ = some (.string V.nm) ∧ w'.cell? ⟨w.heap.size, 3, none⟩ = some (.slice A V.args.length c) ∧ w'.cell? ⟨w.heap.size, 4, none⟩ = some (.int .i64 V.node) ∧ w'.cell? ⟨w.heap.size, 5, none⟩ = some (e) ∧ w'.cell? ⟨w.heap.size, 6, none⟩ = some (.int .i64 V.at_) ∧ w'.cell? ⟨w2.heap.size, 0, none⟩ = some (.int .i64 1) ∧ w'.cell? ⟨w2.heap.size, 1, none⟩ = some (.string ⟨#[]⟩) ∧ w'.cell? ⟨w2.heap.size, 2, none⟩ = some (.int .i64 0) ∧ w'.cell? ⟨w2.heap.size, 3, none⟩ = some (.slice none 0 0) ∧ w'.cell? ⟨w2.heap.size + 1, 1, none⟩ = some (.int .i64 1)) (by kernel_rfl) ?_ (fun hHeld => ?_)
  · exact B0.out
  refine wpAnyH_take (i := 0) (oi := { dst := some 41, op := Go.Op.load 26 (Go.Operand.tmp 2), type := 26, pos := _, after := #[], guard := none }) (v := ?v0) rfl (by kernel_rfl) (by kernel_rfl) (by kernel_rfl) (fun _ _ _ h => h) (Or.inl ⟨by rfl, ?hy0⟩) (by assumption) ?_
  case hy0 => (intro wz hSw; (try dsimp only at hSw); go_simp; try with_reducible rfl)
  (try simp only [Act.put, List.setIfInBounds_toArray, List.set_cons_zero, List.set_cons_succ])
  refine wpAnyH_take (i := 1) (oi := { dst := some 42, op := Go.Op.load 34 (Go.Operand.tmp 5), type := 34, pos := _, after := #[], guard := none }) (v := ?v1) rfl (by kernel_rfl) (by kernel_rfl) (by kernel_rfl) (fun _ _ _ h => h) (Or.inl ⟨by rfl, ?hy1⟩) (by assumption) ?_
  case hy1 => (intro wz hSw; (try dsimp only at hSw); go_simp; try with_reducible rfl)
  (try simp only [Act.put, List.setIfInBounds_toArray, List.set_cons_zero, List.set_cons_succ])
  refine wpAnyH_take (i := 4) (oi := { dst := some 45, op := Go.Op.fieldAddr 26 (Go.Operand.tmp 2) 0, type := 0, pos := _, after := #[], guard := none }) (v := ?v4) rfl (by kernel_rfl) (by kernel_rfl) (by kernel_rfl) (fun _ _ _ h => h) (Or.inl ⟨by rfl, ?hy4⟩) (by assumption) ?_
  case hy4 => (intro wz hSw; (try dsimp only at hSw); go_simp; try with_reducible rfl)
  (try simp only [Act.put, List.setIfInBounds_toArray, List.set_cons_zero, List.set_cons_succ])
  refine wpAnyH_take (i := 5) (oi := { dst := some 46, op := Go.Op.load 3 (Go.Operand.tmp 45), type := 3, pos := _, after := #[{ on := 4, ground := Go.Ground.data }], guard := none }) (v := ?v5) rfl (by kernel_rfl) (by kernel_rfl) (by kernel_rfl) (fun _ _ _ h => h) (Or.inl ⟨by rfl, ?hy5⟩) (by assumption) ?_
  case hy5 => (intro wz hSw; (try dsimp only at hSw); go_simp; try with_reducible rfl)
  (try simp only [Act.put, List.setIfInBounds_toArray, List.set_cons_zero, List.set_cons_succ])
  refine wpAnyH_take (i := 6) (oi := { dst := some 47, op := Go.Op.move (Go.Operand.tmp 6), type := 67, pos := _, after := #[], guard := none }) (v := ?v6) rfl (by kernel_rfl) (by kernel_rfl) (by kernel_rfl) (fun _ _ _ h => h) (Or.inl ⟨by rfl, ?hy6⟩) (by assumption) ?_
  case hy6 => (intro wz hSw; (try dsimp only at hSw); go_simp; try with_reducible rfl)
  (try simp only [Act.put, List.setIfInBounds_toArray, List.set_cons_zero, List.set_cons_succ])
  refine wpAnyH_take (i := 7) (oi := { dst := some 48, op := Go.Op.move (Go.Operand.tmp 1), type := 3, pos := _, after := #[], guard := none }) (v := ?v7) rfl (by kernel_rfl) (by kernel_rfl) (by kernel_rfl) (fun _ _ _ h => h) (Or.inl ⟨by rfl, ?hy7⟩) (by assumption) ?_
  case hy7 => (intro wz hSw; (try dsimp only at hSw); go_simp; try with_reducible rfl)
  (try simp only [Act.put, List.setIfInBounds_toArray, List.set_cons_zero, List.set_cons_succ])
  refine wpAnyH_take (i := 8) (oi := { dst := some 49, op := Go.Op.indexAddr 67 (Go.Operand.tmp 47) (Go.Operand.tmp 48), type := 0, pos := _, after := #[{ on := 6, ground := Go.Ground.data }, { on := 7, ground := Go.Ground.data }], guard := none }) (v := ?v8) rfl (by kernel_rfl) (by kernel_rfl) (by kernel_rfl) (fun _ _ _ h => h) (Or.inl ⟨by rfl, ?hy8⟩) (by assumption) ?_
  case hy8 => (intro wz hSw; (try dsimp only at hSw); go_simp; try with_reducible rfl)
  (try simp only [Act.put, List.setIfInBounds_toArray, List.set_cons_zero, List.set_cons_succ])
  refine wpAnyH_take (i := 9) (oi := { dst := some 50, op := Go.Op.load 3 (Go.Operand.tmp 49), type := 3, pos := _, after := #[{ on := 8, ground := Go.Ground.data }], guard := none }) (v := ?v9) rfl (by kernel_rfl) (by kernel_rfl) (by kernel_rfl) (fun _ _ _ h => h) (Or.inl ⟨by rfl, ?hy9⟩) (by assumption) ?_
  case hy9 => (intro wz hSw; (try dsimp only at hSw); go_simp; try with_reducible rfl)
  (try simp only [Act.put, List.setIfInBounds_toArray, List.set_cons_zero, List.set_cons_succ])
  refine wpAnyH_take (i := 10) (oi := { dst := some 51, op := Go.Op.binOp Go.BinOp.neq 3 (Go.Operand.tmp 46) (Go.Operand.tmp 50) 3, type := 4, pos := _, after := #[{ on := 5, ground := Go.Ground.data }, { on := 9, ground := Go.Ground.data }], guard := none }) (v := ?v10) rfl (by kernel_rfl) (by kernel_rfl) (by kernel_rfl) (fun _ _ _ h => h) (Or.inl ⟨by rfl, ?hy10⟩) (by assumption) ?_
  case hy10 => (intro wz hSw; (try dsimp only at hSw); go_simp; try with_reducible rfl)
  (try simp only [Act.put, List.setIfInBounds_toArray, List.set_cons_zero, List.set_cons_succ])
  refine wpAnyH_ready (rs := [2]) (by kernel_rfl) (by simp) ?_
  refine AllReadyH.cons (o := { dst := some 43, op := Go.Op.call { callee := Go.Callee.value (Go.Operand.func 14), args := #[Go.Operand.tmp 41, Go.Operand.tmp 42, Go.Operand.const (Go.Value.slice none 0 0), Go.Operand.const (Go.Value.slice none 0 0)], argTypes := #[26, 34, 23, 38] }, type := 9, pos := _, after := #[{ on := 0, ground := Go.Ground.data }, { on := 1, ground := Go.Ground.data }], guard := none }) rfl (fun K hK => ?_) AllReadyH.nil
  go_simp
  have hH := hHeld
  (try dsimp only at hH)
  obtain ⟨g0, g1, g2, g3, g4, g5, g6, g7, g8, g9, g10, g11⟩ := hH
  refine (HR.out _ _ (bD9 B3.out) ⟨_, _, rfl, .inl rfl⟩).mono ?_; rintro e w4 ⟨rfl, hb4⟩
  have hb4x0 := keepC hb4 g0
  have hb4x1 := keepC hb4 g1
  have hb4x2 := keepC hb4 g2
  have hb4x3 := keepC hb4 g3
  have hb4x4 := keepC hb4 g4
  have hb4x5 := keepC hb4 g5
  have hb4x6 := keepC hb4 g6
  have hb4x7 := keepC hb4 g7
  have hb4x8 := keepC hb4 g8
  have hb4x9 := keepC hb4 g9
  have hb4x10 := keepC hb4 g10
  have hb4x11 := keepC hb4 g11
  have B4 := Lib.hid (below2 (bD9 B3.out) hb4)
  clear hb4 hHeld g0 g1 g2 g3 g4 g5 g6 g7 g8 g9 g10 g11
  go_wp2_with fail
  refine hK.out _ _ ?_ (fun hHeld => ?_)
  · (try dsimp only); exact ⟨hb4x0, hb4x1, hb4x2, hb4x3, hb4x4, hb4x5, hb4x6, hb4x7, hb4x8, hb4x9, hb4x10, hb4x11⟩
  clear hK K hb4x0 hb4x1 hb4x2 hb4x3 hb4x4 hb4x5 hb4x6 hb4x7 hb4x8 hb4x9 hb4x10 hb4x11
  (try simp only [Act.put, List.setIfInBounds_toArray, List.set_cons_zero, List.set_cons_succ])
  refine wpAnyH_take (i := 3) (oi := { dst := some 44, op := Go.Op.binOp Go.BinOp.eql 9 (Go.Operand.tmp 43) (Go.Operand.const (Go.Value.string { data := #[63] })) 9, type := 4, pos := _, after := #[{ on := 2, ground := Go.Ground.data }], guard := none }) (v := ?v3) rfl (by kernel_rfl) (by kernel_rfl) (by kernel_rfl) (fun _ _ _ h => h) (Or.inl ⟨by rfl, ?hy3⟩) (by assumption) ?_
  case hy3 => (intro wz hSw; (try dsimp only at hSw); go_simp; try with_reducible rfl)
  (try simp only [Act.put, List.setIfInBounds_toArray, List.set_cons_zero, List.set_cons_succ])
  refine wpAnyH_take (i := 11) (oi := { dst := some 52, op := Go.Op.binOp Go.BinOp.eql 4 (Go.Operand.tmp 44) (Go.Operand.tmp 51) 4, type := 4, pos := _, after := #[{ on := 3, ground := Go.Ground.data }, { on := 10, ground := Go.Ground.data }], guard := none }) (v := ?v11) rfl (by kernel_rfl) (by kernel_rfl) (by kernel_rfl) (fun _ _ _ h => h) (Or.inl ⟨by rfl, ?hy11⟩) (by assumption) ?_
  case hy11 => (intro wz hSw; (try dsimp only at hSw); go_simp; try with_reducible rfl)
  (try simp only [Act.put, List.setIfInBounds_toArray, List.set_cons_zero, List.set_cons_succ])
  refine wpAnyH_take (i := 12) (oi := { dst := some 53, op := Go.Op.move (Go.Operand.tmp 52), type := 4, pos := _, after := #[{ on := 11, ground := Go.Ground.data }, { on := 2, ground := Go.Ground.chain }], guard := none }) (v := ?v12) rfl (by kernel_rfl) (by kernel_rfl) (by kernel_rfl) (fun _ _ _ h => h) (Or.inl ⟨by rfl, ?hy12⟩) (by assumption) ?_
  case hy12 => (intro wz hSw; (try dsimp only at hSw); go_simp; try with_reducible rfl)
  (try simp only [Act.put, List.setIfInBounds_toArray, List.set_cons_zero, List.set_cons_succ])
  refine wpAnyH_take (i := 13) (oi := { dst := some 54, op := Go.Op.load 26 (Go.Operand.tmp 2), type := 26, pos := _, after := #[{ on := 12, ground := Go.Ground.guard }], guard := some (12, true) }) (v := ?v13) rfl (by kernel_rfl) (by kernel_rfl) (by kernel_rfl) (fun _ _ _ h => h) (Or.inl ⟨by rfl, ?hy13⟩) (by assumption) ?_
  case hy13 => (intro wz hSw; (try dsimp only at hSw); go_simp; try with_reducible rfl)
  (try simp only [Act.put, List.setIfInBounds_toArray, List.set_cons_zero, List.set_cons_succ])
  refine wpAnyH_take (i := 14) (oi := { dst := some 55, op := Go.Op.build 34 #[(0, Go.Operand.const (Go.Value.int Go.IntKind.i64 7))], type := 34, pos := _, after := #[{ on := 12, ground := Go.Ground.guard }], guard := some (12, true) }) (v := ?v14) rfl (by kernel_rfl) (by kernel_rfl) (by kernel_rfl) (fun _ _ _ h => h) (Or.inl ⟨by rfl, ?hy14⟩) (by assumption) ?_
  case hy14 => (intro wz hSw; (try dsimp only at hSw); go_simp; try with_reducible rfl)
  (try simp only [Act.put, List.setIfInBounds_toArray, List.set_cons_zero, List.set_cons_succ])
  refine wpAnyH_ready (rs := [15]) (by kernel_rfl) (by simp) ?_
  refine AllReadyH.cons (o := { dst := some 56, op := Go.Op.call { callee := Go.Callee.value (Go.Operand.func 14), args := #[Go.Operand.tmp 54, Go.Operand.tmp 55, Go.Operand.const (Go.Value.slice none 0 0), Go.Operand.const (Go.Value.slice none 0 0)], argTypes := #[26, 34, 23, 38] }, type := 9, pos := _, after := #[{ on := 13, ground := Go.Ground.data }, { on := 14, ground := Go.Ground.data }, { on := 12, ground := Go.Ground.chain }, { on := 12, ground := Go.Ground.guard }], guard := some (12, true) }) rfl (fun K hK => ?_) AllReadyH.nil
  go_simp
  have hH := hHeld
  (try dsimp only at hH)
  obtain ⟨g0, g1, g2, g3, g4, g5, g6, g7, g8, g9, g10, g11⟩ := hH
  refine (HP.out _ B4.out).mono ?_; rintro e w5 ⟨rfl, hb5⟩
  have hb5x0 := keepC hb5 g0
  have hb5x1 := keepC hb5 g1
  have hb5x2 := keepC hb5 g2
  have hb5x3 := keepC hb5 g3
  have hb5x4 := keepC hb5 g4
  have hb5x5 := keepC hb5 g5
  have hb5x6 := keepC hb5 g6
  have hb5x7 := keepC hb5 g7
  have hb5x8 := keepC hb5 g8
  have hb5x9 := keepC hb5 g9
  have hb5x10 := keepC hb5 g10
  have hb5x11 := keepC hb5 g11
  have B5 := Lib.hid (below2 B4.out hb5)
  clear hb5 hHeld g0 g1 g2 g3 g4 g5 g6 g7 g8 g9 g10 g11
  go_wp2_with fail
  refine hK.out _ _ ?_ (fun hHeld => ?_)
  · (try dsimp only); exact ⟨hb5x0, hb5x1, hb5x2, hb5x3, hb5x4, hb5x5, hb5x6, hb5x7, hb5x8, hb5x9, hb5x10, hb5x11⟩
  clear hK K hb5x0 hb5x1 hb5x2 hb5x3 hb5x4 hb5x5 hb5x6 hb5x7 hb5x8 hb5x9 hb5x10 hb5x11
  (try simp only [Act.put, List.setIfInBounds_toArray, List.set_cons_zero, List.set_cons_succ])
  refine wpAnyH_take (i := 16) (oi := { dst := some 57, op := Go.Op.binOp Go.BinOp.eql 9 (Go.Operand.tmp 56) (Go.Operand.const (Go.Value.string { data := #[60, 112, 111, 108, 121, 62] })) 9, type := 4, pos := _, after := #[{ on := 15, ground := Go.Ground.data }, { on := 12, ground := Go.Ground.guard }], guard := some (12, true) }) (v := ?v16) rfl (by kernel_rfl) (by kernel_rfl) (by kernel_rfl) (fun _ _ _ h => h) (Or.inl ⟨by rfl, ?hy16⟩) (by assumption) ?_
  case hy16 => (intro wz hSw; (try dsimp only at hSw); go_simp; try with_reducible rfl)
  (try simp only [Act.put, List.setIfInBounds_toArray, List.set_cons_zero, List.set_cons_succ])
  refine wpAnyH_take (i := 17) (oi := { dst := some 58, op := Go.Op.pick (Go.Operand.tmp 53) (Go.Operand.tmp 57) (Go.Operand.const (Go.Value.bool false)), type := 4, pos := _, after := #[{ on := 12, ground := Go.Ground.data }, { on := 16, ground := Go.Ground.data }], guard := none }) (v := ?v17) rfl (by kernel_rfl) (by kernel_rfl) (by kernel_rfl) (fun _ _ _ h => h) (Or.inl ⟨by rfl, ?hy17⟩) (by assumption) ?_
  case hy17 => (intro wz hSw; (try dsimp only at hSw); go_simp; try with_reducible rfl)
  (try simp only [Act.put, List.setIfInBounds_toArray, List.set_cons_zero, List.set_cons_succ])
  refine wpAnyH_take (i := 18) (oi := { dst := some 4, op := Go.Op.assign (Go.Operand.tmp 58), type := 4, pos := _, after := #[{ on := 17, ground := Go.Ground.data }, { on := 15, ground := Go.Ground.chain }, { on := 0, ground := Go.Ground.phase }, { on := 1, ground := Go.Ground.phase }, { on := 2, ground := Go.Ground.phase }, { on := 3, ground := Go.Ground.phase }, { on := 4, ground := Go.Ground.phase }, { on := 5, ground := Go.Ground.phase }, { on := 6, ground := Go.Ground.phase }, { on := 7, ground := Go.Ground.phase }, { on := 8, ground := Go.Ground.phase }, { on := 9, ground := Go.Ground.phase }, { on := 10, ground := Go.Ground.phase }, { on := 11, ground := Go.Ground.phase }, { on := 12, ground := Go.Ground.phase }, { on := 13, ground := Go.Ground.phase }, { on := 14, ground := Go.Ground.phase }, { on := 15, ground := Go.Ground.phase }, { on := 16, ground := Go.Ground.phase }, { on := 17, ground := Go.Ground.phase }], guard := none }) (v := ?v18) rfl (by kernel_rfl) (by kernel_rfl) (by kernel_rfl) (fun _ _ _ h => h) (Or.inl ⟨by rfl, ?hy18⟩) (by assumption) ?_
  case hy18 => (intro wz hSw; (try dsimp only at hSw); go_simp; try with_reducible rfl)
  (try simp only [Act.put, List.setIfInBounds_toArray, List.set_cons_zero, List.set_cons_succ])
  refine wpAnyH_done (by kernel_rfl) ?_ _
  go_wp2
  go_ret
  exact ⟨rfl, B5.out⟩
set_option maxRecDepth 100000 in
set_option maxHeartbeats 8000000 in
theorem kinds2 {w : World} {V : VT} {A : Option Addr} {c : Nat} {e : Value} {x : ByteArray} {b : Bool}
    (hbig : ∀ W, Below w.heap.size w W → Calls Tryd.prog 21 #[.agg #[.int .i64 V.k, .int .i64 V.n, .string V.nm, .slice A V.args.length c, .int .i64 V.node, e, .int .i64 V.at_], .int .i64 64] W fun e w' => e = .returned (.bool false) ∧ Below W.heap.size W w')
    (hr : ∀ W t, Below w.heap.size w W → TIn W (tyFor 2) t → Calls Tryd.prog 14 #[.agg #[.int .i64 V.k, .int .i64 V.n, .string V.nm, .slice A V.args.length c, .int .i64 V.node, e, .int .i64 V.at_], t, .slice none 0 0, .slice none 0 0] W fun e w' => e = .returned (.string x) ∧ Below W.heap.size W w')
    (hp : ∀ W, Below w.heap.size w W → Calls Tryd.prog 14 #[.agg #[.int .i64 V.k, .int .i64 V.n, .string V.nm, .slice A V.args.length c, .int .i64 V.node, e, .int .i64 V.at_], .agg #[.int .i64 7, .string ⟨#[]⟩, .int .i64 0, .slice none 0 0], .slice none 0 0, .slice none 0 0] W fun e w' => e = .returned (.string ⟨#[60, 112, 111, 108, 121, 62]⟩) ∧ Below W.heap.size W w')
    (hnm : (V.nm.toList == [63]) = false) (d1 : (x.toList == [63]) = b) (d2 : (V.k != 2) = b) :
    Calls Tryd.prog 8 #[.agg #[.int .i64 V.k, .int .i64 V.n, .string V.nm, .slice A V.args.length c, .int .i64 V.node, e, .int .i64 V.at_], .int .i64 2] w fun e w' => e = .returned (.bool true) ∧ Below w.heap.size w w' := by
  have HBIG := Lib.hid hbig
  have HR := Lib.hid hr
  have HP := Lib.hid hp
  clear hbig hr hp
  go_enter Tryd.func8, Tryd.ntmps8
  go_wp2_with fail
  refine (awake _).mono ?_; rintro e w1 ⟨rfl, hb1⟩
  have B1 := Lib.hid (below2 (belowA w _) hb1)
  have c0 := keepC hb1 (box_at (W := w) (t := 26) (vs := #[.int .i64 V.k, .int .i64 V.n, .string V.nm, .slice A V.args.length c, .int .i64 V.node, e, .int .i64 V.at_]) 0 rfl)
  have c1 := keepC hb1 (box_at (W := w) (t := 26) (vs := #[.int .i64 V.k, .int .i64 V.n, .string V.nm, .slice A V.args.length c, .int .i64 V.node, e, .int .i64 V.at_]) 1 rfl)
  have c2 := keepC hb1 (box_at (W := w) (t := 26) (vs := #[.int .i64 V.k, .int .i64 V.n, .string V.nm, .slice A V.args.length c, .int .i64 V.node, e, .int .i64 V.at_]) 2 rfl)
  have c3 := keepC hb1 (box_at (W := w) (t := 26) (vs := #[.int .i64 V.k, .int .i64 V.n, .string V.nm, .slice A V.args.length c, .int .i64 V.node, e, .int .i64 V.at_]) 3 rfl)
  have c4 := keepC hb1 (box_at (W := w) (t := 26) (vs := #[.int .i64 V.k, .int .i64 V.n, .string V.nm, .slice A V.args.length c, .int .i64 V.node, e, .int .i64 V.at_]) 4 rfl)
  have c5 := keepC hb1 (box_at (W := w) (t := 26) (vs := #[.int .i64 V.k, .int .i64 V.n, .string V.nm, .slice A V.args.length c, .int .i64 V.node, e, .int .i64 V.at_]) 5 rfl)
  have c6 := keepC hb1 (box_at (W := w) (t := 26) (vs := #[.int .i64 V.k, .int .i64 V.n, .string V.nm, .slice A V.args.length c, .int .i64 V.node, e, .int .i64 V.at_]) 6 rfl)
  clear hb1
  go_wp2_with fail
  refine (HBIG.out _ B1.out).mono ?_; rintro e w2 ⟨rfl, hb2⟩
  have B2 := Lib.hid (below2 B1.out hb2)
  have e0 := keepC hb2 c0
  have e1 := keepC hb2 c1
  have e2 := keepC hb2 c2
  have e3 := keepC hb2 c3
  have e4 := keepC hb2 c4
  have e5 := keepC hb2 c5
  have e6 := keepC hb2 c6
  clear c0 c1 c2 c3 c4 c5 c6 hb2 B1
  go_wp2_with fail
  have B3 := Lib.hid (below2 B2.out (belowA w2 (.cells #[.int .i64 2, .string ⟨#[]⟩, .int .i64 0, .slice none 0 0] 34)))
  have B3 := Lib.hid (below2 B3.out (belowA _ (.cells #[.int .i64 0, .int .i64 1, .int .i64 2, .int .i64 3, .int .i64 4, .int .i64 5, .int .i64 6] 3)))
  have B0 := Lib.hid (show World.cell? ((w2.alloc (.cells #[.int .i64 2, .string ⟨#[]⟩, .int .i64 0, .slice none 0 0] 34)).alloc (.cells #[.int .i64 0, .int .i64 1, .int .i64 2, .int .i64 3, .int .i64 4, .int .i64 5, .int .i64 6] 3)) ⟨w.heap.size, 0, none⟩ = some (.int .i64 V.k) ∧ World.cell? ((w2.alloc (.cells #[.int .i64 2, .string ⟨#[]⟩, .int .i64 0, .slice none 0 0] 34)).alloc (.cells #[.int .i64 0, .int .i64 1, .int .i64 2, .int .i64 3, .int .i64 4, .int .i64 5, .int .i64 6] 3)) ⟨w.heap.size, 1, none⟩ = some (.int .i64 V.n) ∧ World.cell? ((w2.alloc (.cells #[.int .i64 2, .string ⟨#[]⟩, .int .i64 0, .slice none 0 0] 34)).alloc (.cells #[.int .i64 0, .int .i64 1, .int .i64 2, .int .i64 3, .int .i64 4, .int .i64 5, .int .i64 6] 3)) ⟨w.heap.size, 2, none⟩ = some (.string V.nm) ∧ World.cell? ((w2.alloc (.cells #[.int .i64 2, .string ⟨#[]⟩, .int .i64 0, .slice none 0 0] 34)).alloc (.cells #[.int .i64 0, .int .i64 1, .int .i64 2, .int .i64 3, .int .i64 4, .int .i64 5, .int .i64 6] 3)) ⟨w.heap.size, 3, none⟩ = some (.slice A V.args.length c) ∧ World.cell? ((w2.alloc (.cells #[.int .i64 2, .string ⟨#[]⟩, .int .i64 0, .slice none 0 0] 34)).alloc (.cells #[.int .i64 0, .int .i64 1, .int .i64 2, .int .i64 3, .int .i64 4, .int .i64 5, .int .i64 6] 3)) ⟨w.heap.size, 4, none⟩ = some (.int .i64 V.node) ∧ World.cell? ((w2.alloc (.cells #[.int .i64 2, .string ⟨#[]⟩, .int .i64 0, .slice none 0 0] 34)).alloc (.cells #[.int .i64 0, .int .i64 1, .int .i64 2, .int .i64 3, .int .i64 4, .int .i64 5, .int .i64 6] 3)) ⟨w.heap.size, 5, none⟩ = some (e) ∧ World.cell? ((w2.alloc (.cells #[.int .i64 2, .string ⟨#[]⟩, .int .i64 0, .slice none 0 0] 34)).alloc (.cells #[.int .i64 0, .int .i64 1, .int .i64 2, .int .i64 3, .int .i64 4, .int .i64 5, .int .i64 6] 3)) ⟨w.heap.size, 6, none⟩ = some (.int .i64 V.at_) ∧ World.cell? ((w2.alloc (.cells #[.int .i64 2, .string ⟨#[]⟩, .int .i64 0, .slice none 0 0] 34)).alloc (.cells #[.int .i64 0, .int .i64 1, .int .i64 2, .int .i64 3, .int .i64 4, .int .i64 5, .int .i64 6] 3)) ⟨w2.heap.size, 0, none⟩ = some (.int .i64 2) ∧ World.cell? ((w2.alloc (.cells #[.int .i64 2, .string ⟨#[]⟩, .int .i64 0, .slice none 0 0] 34)).alloc (.cells #[.int .i64 0, .int .i64 1, .int .i64 2, .int .i64 3, .int .i64 4, .int .i64 5, .int .i64 6] 3)) ⟨w2.heap.size, 1, none⟩ = some (.string ⟨#[]⟩) ∧ World.cell? ((w2.alloc (.cells #[.int .i64 2, .string ⟨#[]⟩, .int .i64 0, .slice none 0 0] 34)).alloc (.cells #[.int .i64 0, .int .i64 1, .int .i64 2, .int .i64 3, .int .i64 4, .int .i64 5, .int .i64 6] 3)) ⟨w2.heap.size, 2, none⟩ = some (.int .i64 0) ∧ World.cell? ((w2.alloc (.cells #[.int .i64 2, .string ⟨#[]⟩, .int .i64 0, .slice none 0 0] 34)).alloc (.cells #[.int .i64 0, .int .i64 1, .int .i64 2, .int .i64 3, .int .i64 4, .int .i64 5, .int .i64 6] 3)) ⟨w2.heap.size, 3, none⟩ = some (.slice none 0 0) ∧ World.cell? ((w2.alloc (.cells #[.int .i64 2, .string ⟨#[]⟩, .int .i64 0, .slice none 0 0] 34)).alloc (.cells #[.int .i64 0, .int .i64 1, .int .i64 2, .int .i64 3, .int .i64 4, .int .i64 5, .int .i64 6] 3)) ⟨w2.heap.size + 1, 2, none⟩ = some (.int .i64 2) from ⟨(keepA _ (keepA _ e0)), (keepA _ (keepA _ e1)), (keepA _ (keepA _ e2)), (keepA _ (keepA _ e3)), (keepA _ (keepA _ e4)), (keepA _ (keepA _ e5)), (keepA _ (keepA _ e6)), (keepA _ (box_at (W := w2) (t := 34) (vs := #[.int .i64 2, .string ⟨#[]⟩, .int .i64 0, .slice none 0 0]) 0 rfl)), (keepA _ (box_at (W := w2) (t := 34) (vs := #[.int .i64 2, .string ⟨#[]⟩, .int .i64 0, .slice none 0 0]) 1 rfl)), (keepA _ (box_at (W := w2) (t := 34) (vs := #[.int .i64 2, .string ⟨#[]⟩, .int .i64 0, .slice none 0 0]) 2 rfl)), (keepA _ (box_at (W := w2) (t := 34) (vs := #[.int .i64 2, .string ⟨#[]⟩, .int .i64 0, .slice none 0 0]) 3 rfl)), (box_at2 (t := 3) (vs := #[.int .i64 0, .int .i64 1, .int .i64 2, .int .i64 3, .int .i64 4, .int .i64 5, .int .i64 6]) 2 (by simp only [alloc_size]) rfl)⟩)
  refine wp_region_held_drew (S := fun w' => w'.cell? ⟨w.heap.size, 0, none⟩ = some (.int .i64 V.k) ∧ w'.cell? ⟨w.heap.size, 1, none⟩ = some (.int .i64 V.n) ∧ w'.cell? ⟨w.heap.size, 2, none⟩ = some (.string V.nm) ∧ w'.cell? ⟨w.heap.size, 3, none⟩ = some (.slice A V.args.length c) ∧ w'.cell? ⟨w.heap.size, 4, none⟩ = some (.int .i64 V.node) ∧ w'.cell? ⟨w.heap.size, 5, none⟩ = some (e) ∧ w'.cell? ⟨w.heap.size, 6, none⟩ = some (.int .i64 V.at_) ∧ w'.cell? ⟨w2.heap.size, 0, none⟩ = some (.int .i64 2) ∧ w'.cell? ⟨w2.heap.size, 1, none⟩ = some (.string ⟨#[]⟩) ∧ w'.cell? ⟨w2.heap.size, 2, none⟩ = some (.int .i64 0) ∧ w'.cell? ⟨w2.heap.size, 3, none⟩ = some (.slice none 0 0) ∧ w'.cell? ⟨w2.heap.size + 1, 2, none⟩ = some (.int .i64 2)) (by kernel_rfl) ?_ (fun hHeld => ?_)
  · exact B0.out
  refine wpAnyH_take (i := 0) (oi := { dst := some 41, op := Go.Op.load 26 (Go.Operand.tmp 2), type := 26, pos := _, after := #[], guard := none }) (v := ?v0) rfl (by kernel_rfl) (by kernel_rfl) (by kernel_rfl) (fun _ _ _ h => h) (Or.inl ⟨by rfl, ?hy0⟩) (by assumption) ?_
  case hy0 => (intro wz hSw; (try dsimp only at hSw); go_simp; try with_reducible rfl)
  (try simp only [Act.put, List.setIfInBounds_toArray, List.set_cons_zero, List.set_cons_succ])
  refine wpAnyH_take (i := 1) (oi := { dst := some 42, op := Go.Op.load 34 (Go.Operand.tmp 5), type := 34, pos := _, after := #[], guard := none }) (v := ?v1) rfl (by kernel_rfl) (by kernel_rfl) (by kernel_rfl) (fun _ _ _ h => h) (Or.inl ⟨by rfl, ?hy1⟩) (by assumption) ?_
  case hy1 => (intro wz hSw; (try dsimp only at hSw); go_simp; try with_reducible rfl)
  (try simp only [Act.put, List.setIfInBounds_toArray, List.set_cons_zero, List.set_cons_succ])
  refine wpAnyH_take (i := 4) (oi := { dst := some 45, op := Go.Op.fieldAddr 26 (Go.Operand.tmp 2) 0, type := 0, pos := _, after := #[], guard := none }) (v := ?v4) rfl (by kernel_rfl) (by kernel_rfl) (by kernel_rfl) (fun _ _ _ h => h) (Or.inl ⟨by rfl, ?hy4⟩) (by assumption) ?_
  case hy4 => (intro wz hSw; (try dsimp only at hSw); go_simp; try with_reducible rfl)
  (try simp only [Act.put, List.setIfInBounds_toArray, List.set_cons_zero, List.set_cons_succ])
  refine wpAnyH_take (i := 5) (oi := { dst := some 46, op := Go.Op.load 3 (Go.Operand.tmp 45), type := 3, pos := _, after := #[{ on := 4, ground := Go.Ground.data }], guard := none }) (v := ?v5) rfl (by kernel_rfl) (by kernel_rfl) (by kernel_rfl) (fun _ _ _ h => h) (Or.inl ⟨by rfl, ?hy5⟩) (by assumption) ?_
  case hy5 => (intro wz hSw; (try dsimp only at hSw); go_simp; try with_reducible rfl)
  (try simp only [Act.put, List.setIfInBounds_toArray, List.set_cons_zero, List.set_cons_succ])
  refine wpAnyH_take (i := 6) (oi := { dst := some 47, op := Go.Op.move (Go.Operand.tmp 6), type := 67, pos := _, after := #[], guard := none }) (v := ?v6) rfl (by kernel_rfl) (by kernel_rfl) (by kernel_rfl) (fun _ _ _ h => h) (Or.inl ⟨by rfl, ?hy6⟩) (by assumption) ?_
  case hy6 => (intro wz hSw; (try dsimp only at hSw); go_simp; try with_reducible rfl)
  (try simp only [Act.put, List.setIfInBounds_toArray, List.set_cons_zero, List.set_cons_succ])
  refine wpAnyH_take (i := 7) (oi := { dst := some 48, op := Go.Op.move (Go.Operand.tmp 1), type := 3, pos := _, after := #[], guard := none }) (v := ?v7) rfl (by kernel_rfl) (by kernel_rfl) (by kernel_rfl) (fun _ _ _ h => h) (Or.inl ⟨by rfl, ?hy7⟩) (by assumption) ?_
  case hy7 => (intro wz hSw; (try dsimp only at hSw); go_simp; try with_reducible rfl)
  (try simp only [Act.put, List.setIfInBounds_toArray, List.set_cons_zero, List.set_cons_succ])
  refine wpAnyH_take (i := 8) (oi := { dst := some 49, op := Go.Op.indexAddr 67 (Go.Operand.tmp 47) (Go.Operand.tmp 48), type := 0, pos := _, after := #[{ on := 6, ground := Go.Ground.data }, { on := 7, ground := Go.Ground.data }], guard := none }) (v := ?v8) rfl (by kernel_rfl) (by kernel_rfl) (by kernel_rfl) (fun _ _ _ h => h) (Or.inl ⟨by rfl, ?hy8⟩) (by assumption) ?_
  case hy8 => (intro wz hSw; (try dsimp only at hSw); go_simp; try with_reducible rfl)
  (try simp only [Act.put, List.setIfInBounds_toArray, List.set_cons_zero, List.set_cons_succ])
  refine wpAnyH_take (i := 9) (oi := { dst := some 50, op := Go.Op.load 3 (Go.Operand.tmp 49), type := 3, pos := _, after := #[{ on := 8, ground := Go.Ground.data }], guard := none }) (v := ?v9) rfl (by kernel_rfl) (by kernel_rfl) (by kernel_rfl) (fun _ _ _ h => h) (Or.inl ⟨by rfl, ?hy9⟩) (by assumption) ?_
  case hy9 => (intro wz hSw; (try dsimp only at hSw); go_simp; try with_reducible rfl)
  (try simp only [Act.put, List.setIfInBounds_toArray, List.set_cons_zero, List.set_cons_succ])
  refine wpAnyH_take (i := 10) (oi := { dst := some 51, op := Go.Op.binOp Go.BinOp.neq 3 (Go.Operand.tmp 46) (Go.Operand.tmp 50) 3, type := 4, pos := _, after := #[{ on := 5, ground := Go.Ground.data }, { on := 9, ground := Go.Ground.data }], guard := none }) (v := ?v10) rfl (by kernel_rfl) (by kernel_rfl) (by kernel_rfl) (fun _ _ _ h => h) (Or.inl ⟨by rfl, ?hy10⟩) (by assumption) ?_
  case hy10 => (intro wz hSw; (try dsimp only at hSw); go_simp; try with_reducible rfl)
  (try simp only [Act.put, List.setIfInBounds_toArray, List.set_cons_zero, List.set_cons_succ])
  refine wpAnyH_ready (rs := [2]) (by kernel_rfl) (by simp) ?_
  refine AllReadyH.cons (o := { dst := some 43, op := Go.Op.call { callee := Go.Callee.value (Go.Operand.func 14), args := #[Go.Operand.tmp 41, Go.Operand.tmp 42, Go.Operand.const (Go.Value.slice none 0 0), Go.Operand.const (Go.Value.slice none 0 0)], argTypes := #[26, 34, 23, 38] }, type := 9, pos := _, after := #[{ on := 0, ground := Go.Ground.data }, { on := 1, ground := Go.Ground.data }], guard := none }) rfl (fun K hK => ?_) AllReadyH.nil
  go_simp
  have hH := hHeld
  (try dsimp only at hH)
  obtain ⟨g0, g1, g2, g3, g4, g5, g6, g7, g8, g9, g10, g11⟩ := hH
  refine (HR.out _ _ (bD9 B3.out) ⟨_, _, rfl, .inl rfl⟩).mono ?_; rintro e w4 ⟨rfl, hb4⟩
  have hb4x0 := keepC hb4 g0
  have hb4x1 := keepC hb4 g1
  have hb4x2 := keepC hb4 g2
  have hb4x3 := keepC hb4 g3
  have hb4x4 := keepC hb4 g4
  have hb4x5 := keepC hb4 g5
  have hb4x6 := keepC hb4 g6
  have hb4x7 := keepC hb4 g7
  have hb4x8 := keepC hb4 g8
  have hb4x9 := keepC hb4 g9
  have hb4x10 := keepC hb4 g10
  have hb4x11 := keepC hb4 g11
  have B4 := Lib.hid (below2 (bD9 B3.out) hb4)
  clear hb4 hHeld g0 g1 g2 g3 g4 g5 g6 g7 g8 g9 g10 g11
  go_wp2_with fail
  refine hK.out _ _ ?_ (fun hHeld => ?_)
  · (try dsimp only); exact ⟨hb4x0, hb4x1, hb4x2, hb4x3, hb4x4, hb4x5, hb4x6, hb4x7, hb4x8, hb4x9, hb4x10, hb4x11⟩
  clear hK K hb4x0 hb4x1 hb4x2 hb4x3 hb4x4 hb4x5 hb4x6 hb4x7 hb4x8 hb4x9 hb4x10 hb4x11
  (try simp only [Act.put, List.setIfInBounds_toArray, List.set_cons_zero, List.set_cons_succ])
  refine wpAnyH_take (i := 3) (oi := { dst := some 44, op := Go.Op.binOp Go.BinOp.eql 9 (Go.Operand.tmp 43) (Go.Operand.const (Go.Value.string { data := #[63] })) 9, type := 4, pos := _, after := #[{ on := 2, ground := Go.Ground.data }], guard := none }) (v := ?v3) rfl (by kernel_rfl) (by kernel_rfl) (by kernel_rfl) (fun _ _ _ h => h) (Or.inl ⟨by rfl, ?hy3⟩) (by assumption) ?_
  case hy3 => (intro wz hSw; (try dsimp only at hSw); go_simp; try with_reducible rfl)
  (try simp only [Act.put, List.setIfInBounds_toArray, List.set_cons_zero, List.set_cons_succ])
  refine wpAnyH_take (i := 11) (oi := { dst := some 52, op := Go.Op.binOp Go.BinOp.eql 4 (Go.Operand.tmp 44) (Go.Operand.tmp 51) 4, type := 4, pos := _, after := #[{ on := 3, ground := Go.Ground.data }, { on := 10, ground := Go.Ground.data }], guard := none }) (v := ?v11) rfl (by kernel_rfl) (by kernel_rfl) (by kernel_rfl) (fun _ _ _ h => h) (Or.inl ⟨by rfl, ?hy11⟩) (by assumption) ?_
  case hy11 => (intro wz hSw; (try dsimp only at hSw); go_simp; try with_reducible rfl)
  (try simp only [Act.put, List.setIfInBounds_toArray, List.set_cons_zero, List.set_cons_succ])
  refine wpAnyH_take (i := 12) (oi := { dst := some 53, op := Go.Op.move (Go.Operand.tmp 52), type := 4, pos := _, after := #[{ on := 11, ground := Go.Ground.data }, { on := 2, ground := Go.Ground.chain }], guard := none }) (v := ?v12) rfl (by kernel_rfl) (by kernel_rfl) (by kernel_rfl) (fun _ _ _ h => h) (Or.inl ⟨by rfl, ?hy12⟩) (by assumption) ?_
  case hy12 => (intro wz hSw; (try dsimp only at hSw); go_simp; try with_reducible rfl)
  (try simp only [Act.put, List.setIfInBounds_toArray, List.set_cons_zero, List.set_cons_succ])
  refine wpAnyH_take (i := 13) (oi := { dst := some 54, op := Go.Op.load 26 (Go.Operand.tmp 2), type := 26, pos := _, after := #[{ on := 12, ground := Go.Ground.guard }], guard := some (12, true) }) (v := ?v13) rfl (by kernel_rfl) (by kernel_rfl) (by kernel_rfl) (fun _ _ _ h => h) (Or.inl ⟨by rfl, ?hy13⟩) (by assumption) ?_
  case hy13 => (intro wz hSw; (try dsimp only at hSw); go_simp; try with_reducible rfl)
  (try simp only [Act.put, List.setIfInBounds_toArray, List.set_cons_zero, List.set_cons_succ])
  refine wpAnyH_take (i := 14) (oi := { dst := some 55, op := Go.Op.build 34 #[(0, Go.Operand.const (Go.Value.int Go.IntKind.i64 7))], type := 34, pos := _, after := #[{ on := 12, ground := Go.Ground.guard }], guard := some (12, true) }) (v := ?v14) rfl (by kernel_rfl) (by kernel_rfl) (by kernel_rfl) (fun _ _ _ h => h) (Or.inl ⟨by rfl, ?hy14⟩) (by assumption) ?_
  case hy14 => (intro wz hSw; (try dsimp only at hSw); go_simp; try with_reducible rfl)
  (try simp only [Act.put, List.setIfInBounds_toArray, List.set_cons_zero, List.set_cons_succ])
  refine wpAnyH_ready (rs := [15]) (by kernel_rfl) (by simp) ?_
  refine AllReadyH.cons (o := { dst := some 56, op := Go.Op.call { callee := Go.Callee.value (Go.Operand.func 14), args := #[Go.Operand.tmp 54, Go.Operand.tmp 55, Go.Operand.const (Go.Value.slice none 0 0), Go.Operand.const (Go.Value.slice none 0 0)], argTypes := #[26, 34, 23, 38] }, type := 9, pos := _, after := #[{ on := 13, ground := Go.Ground.data }, { on := 14, ground := Go.Ground.data }, { on := 12, ground := Go.Ground.chain }, { on := 12, ground := Go.Ground.guard }], guard := some (12, true) }) rfl (fun K hK => ?_) AllReadyH.nil
  go_simp
  have hH := hHeld
  (try dsimp only at hH)
  obtain ⟨g0, g1, g2, g3, g4, g5, g6, g7, g8, g9, g10, g11⟩ := hH
  refine (HP.out _ B4.out).mono ?_; rintro e w5 ⟨rfl, hb5⟩
  have hb5x0 := keepC hb5 g0
  have hb5x1 := keepC hb5 g1
  have hb5x2 := keepC hb5 g2
  have hb5x3 := keepC hb5 g3
  have hb5x4 := keepC hb5 g4
  have hb5x5 := keepC hb5 g5
  have hb5x6 := keepC hb5 g6
  have hb5x7 := keepC hb5 g7
  have hb5x8 := keepC hb5 g8
  have hb5x9 := keepC hb5 g9
  have hb5x10 := keepC hb5 g10
  have hb5x11 := keepC hb5 g11
  have B5 := Lib.hid (below2 B4.out hb5)
  clear hb5 hHeld g0 g1 g2 g3 g4 g5 g6 g7 g8 g9 g10 g11
  go_wp2_with fail
  refine hK.out _ _ ?_ (fun hHeld => ?_)
  · (try dsimp only); exact ⟨hb5x0, hb5x1, hb5x2, hb5x3, hb5x4, hb5x5, hb5x6, hb5x7, hb5x8, hb5x9, hb5x10, hb5x11⟩
  clear hK K hb5x0 hb5x1 hb5x2 hb5x3 hb5x4 hb5x5 hb5x6 hb5x7 hb5x8 hb5x9 hb5x10 hb5x11
  (try simp only [Act.put, List.setIfInBounds_toArray, List.set_cons_zero, List.set_cons_succ])
  refine wpAnyH_take (i := 16) (oi := { dst := some 57, op := Go.Op.binOp Go.BinOp.eql 9 (Go.Operand.tmp 56) (Go.Operand.const (Go.Value.string { data := #[60, 112, 111, 108, 121, 62] })) 9, type := 4, pos := _, after := #[{ on := 15, ground := Go.Ground.data }, { on := 12, ground := Go.Ground.guard }], guard := some (12, true) }) (v := ?v16) rfl (by kernel_rfl) (by kernel_rfl) (by kernel_rfl) (fun _ _ _ h => h) (Or.inl ⟨by rfl, ?hy16⟩) (by assumption) ?_
  case hy16 => (intro wz hSw; (try dsimp only at hSw); go_simp; try with_reducible rfl)
  (try simp only [Act.put, List.setIfInBounds_toArray, List.set_cons_zero, List.set_cons_succ])
  refine wpAnyH_take (i := 17) (oi := { dst := some 58, op := Go.Op.pick (Go.Operand.tmp 53) (Go.Operand.tmp 57) (Go.Operand.const (Go.Value.bool false)), type := 4, pos := _, after := #[{ on := 12, ground := Go.Ground.data }, { on := 16, ground := Go.Ground.data }], guard := none }) (v := ?v17) rfl (by kernel_rfl) (by kernel_rfl) (by kernel_rfl) (fun _ _ _ h => h) (Or.inl ⟨by rfl, ?hy17⟩) (by assumption) ?_
  case hy17 => (intro wz hSw; (try dsimp only at hSw); go_simp; try with_reducible rfl)
  (try simp only [Act.put, List.setIfInBounds_toArray, List.set_cons_zero, List.set_cons_succ])
  refine wpAnyH_take (i := 18) (oi := { dst := some 4, op := Go.Op.assign (Go.Operand.tmp 58), type := 4, pos := _, after := #[{ on := 17, ground := Go.Ground.data }, { on := 15, ground := Go.Ground.chain }, { on := 0, ground := Go.Ground.phase }, { on := 1, ground := Go.Ground.phase }, { on := 2, ground := Go.Ground.phase }, { on := 3, ground := Go.Ground.phase }, { on := 4, ground := Go.Ground.phase }, { on := 5, ground := Go.Ground.phase }, { on := 6, ground := Go.Ground.phase }, { on := 7, ground := Go.Ground.phase }, { on := 8, ground := Go.Ground.phase }, { on := 9, ground := Go.Ground.phase }, { on := 10, ground := Go.Ground.phase }, { on := 11, ground := Go.Ground.phase }, { on := 12, ground := Go.Ground.phase }, { on := 13, ground := Go.Ground.phase }, { on := 14, ground := Go.Ground.phase }, { on := 15, ground := Go.Ground.phase }, { on := 16, ground := Go.Ground.phase }, { on := 17, ground := Go.Ground.phase }], guard := none }) (v := ?v18) rfl (by kernel_rfl) (by kernel_rfl) (by kernel_rfl) (fun _ _ _ h => h) (Or.inl ⟨by rfl, ?hy18⟩) (by assumption) ?_
  case hy18 => (intro wz hSw; (try dsimp only at hSw); go_simp; try with_reducible rfl)
  (try simp only [Act.put, List.setIfInBounds_toArray, List.set_cons_zero, List.set_cons_succ])
  refine wpAnyH_done (by kernel_rfl) ?_ _
  go_wp2
  go_ret
  exact ⟨rfl, B5.out⟩
set_option maxRecDepth 100000 in
set_option maxHeartbeats 8000000 in
theorem kinds3 {w : World} {V : VT} {A : Option Addr} {c : Nat} {e : Value} {x : ByteArray} {b : Bool}
    (hbig : ∀ W, Below w.heap.size w W → Calls Tryd.prog 21 #[.agg #[.int .i64 V.k, .int .i64 V.n, .string V.nm, .slice A V.args.length c, .int .i64 V.node, e, .int .i64 V.at_], .int .i64 64] W fun e w' => e = .returned (.bool false) ∧ Below W.heap.size W w')
    (hr : ∀ W t, Below w.heap.size w W → TIn W (tyFor 3) t → Calls Tryd.prog 14 #[.agg #[.int .i64 V.k, .int .i64 V.n, .string V.nm, .slice A V.args.length c, .int .i64 V.node, e, .int .i64 V.at_], t, .slice none 0 0, .slice none 0 0] W fun e w' => e = .returned (.string x) ∧ Below W.heap.size W w')
    (hp : ∀ W, Below w.heap.size w W → Calls Tryd.prog 14 #[.agg #[.int .i64 V.k, .int .i64 V.n, .string V.nm, .slice A V.args.length c, .int .i64 V.node, e, .int .i64 V.at_], .agg #[.int .i64 7, .string ⟨#[]⟩, .int .i64 0, .slice none 0 0], .slice none 0 0, .slice none 0 0] W fun e w' => e = .returned (.string ⟨#[60, 112, 111, 108, 121, 62]⟩) ∧ Below W.heap.size W w')
    (hnm : (V.nm.toList == [63]) = false) (d1 : (x.toList == [63]) = b) (d2 : (V.k != 3) = b) :
    Calls Tryd.prog 8 #[.agg #[.int .i64 V.k, .int .i64 V.n, .string V.nm, .slice A V.args.length c, .int .i64 V.node, e, .int .i64 V.at_], .int .i64 3] w fun e w' => e = .returned (.bool true) ∧ Below w.heap.size w w' := by
  have HBIG := Lib.hid hbig
  have HR := Lib.hid hr
  have HP := Lib.hid hp
  clear hbig hr hp
  go_enter Tryd.func8, Tryd.ntmps8
  go_wp2_with fail
  refine (awake _).mono ?_; rintro e w1 ⟨rfl, hb1⟩
  have B1 := Lib.hid (below2 (belowA w _) hb1)
  have c0 := keepC hb1 (box_at (W := w) (t := 26) (vs := #[.int .i64 V.k, .int .i64 V.n, .string V.nm, .slice A V.args.length c, .int .i64 V.node, e, .int .i64 V.at_]) 0 rfl)
  have c1 := keepC hb1 (box_at (W := w) (t := 26) (vs := #[.int .i64 V.k, .int .i64 V.n, .string V.nm, .slice A V.args.length c, .int .i64 V.node, e, .int .i64 V.at_]) 1 rfl)
  have c2 := keepC hb1 (box_at (W := w) (t := 26) (vs := #[.int .i64 V.k, .int .i64 V.n, .string V.nm, .slice A V.args.length c, .int .i64 V.node, e, .int .i64 V.at_]) 2 rfl)
  have c3 := keepC hb1 (box_at (W := w) (t := 26) (vs := #[.int .i64 V.k, .int .i64 V.n, .string V.nm, .slice A V.args.length c, .int .i64 V.node, e, .int .i64 V.at_]) 3 rfl)
  have c4 := keepC hb1 (box_at (W := w) (t := 26) (vs := #[.int .i64 V.k, .int .i64 V.n, .string V.nm, .slice A V.args.length c, .int .i64 V.node, e, .int .i64 V.at_]) 4 rfl)
  have c5 := keepC hb1 (box_at (W := w) (t := 26) (vs := #[.int .i64 V.k, .int .i64 V.n, .string V.nm, .slice A V.args.length c, .int .i64 V.node, e, .int .i64 V.at_]) 5 rfl)
  have c6 := keepC hb1 (box_at (W := w) (t := 26) (vs := #[.int .i64 V.k, .int .i64 V.n, .string V.nm, .slice A V.args.length c, .int .i64 V.node, e, .int .i64 V.at_]) 6 rfl)
  clear hb1
  go_wp2_with fail
  refine (HBIG.out _ B1.out).mono ?_; rintro e w2 ⟨rfl, hb2⟩
  have B2 := Lib.hid (below2 B1.out hb2)
  have e0 := keepC hb2 c0
  have e1 := keepC hb2 c1
  have e2 := keepC hb2 c2
  have e3 := keepC hb2 c3
  have e4 := keepC hb2 c4
  have e5 := keepC hb2 c5
  have e6 := keepC hb2 c6
  clear c0 c1 c2 c3 c4 c5 c6 hb2 B1
  go_wp2_with fail
  have B3 := Lib.hid (below2 B2.out (belowA w2 (.cells #[.int .i64 3, .string ⟨#[]⟩, .int .i64 0, .slice none 0 0] 34)))
  have B3 := Lib.hid (below2 B3.out (belowA _ (.cells #[.int .i64 0, .int .i64 1, .int .i64 2, .int .i64 3, .int .i64 4, .int .i64 5, .int .i64 6] 3)))
  have B0 := Lib.hid (show World.cell? ((w2.alloc (.cells #[.int .i64 3, .string ⟨#[]⟩, .int .i64 0, .slice none 0 0] 34)).alloc (.cells #[.int .i64 0, .int .i64 1, .int .i64 2, .int .i64 3, .int .i64 4, .int .i64 5, .int .i64 6] 3)) ⟨w.heap.size, 0, none⟩ = some (.int .i64 V.k) ∧ World.cell? ((w2.alloc (.cells #[.int .i64 3, .string ⟨#[]⟩, .int .i64 0, .slice none 0 0] 34)).alloc (.cells #[.int .i64 0, .int .i64 1, .int .i64 2, .int .i64 3, .int .i64 4, .int .i64 5, .int .i64 6] 3)) ⟨w.heap.size, 1, none⟩ = some (.int .i64 V.n) ∧ World.cell? ((w2.alloc (.cells #[.int .i64 3, .string ⟨#[]⟩, .int .i64 0, .slice none 0 0] 34)).alloc (.cells #[.int .i64 0, .int .i64 1, .int .i64 2, .int .i64 3, .int .i64 4, .int .i64 5, .int .i64 6] 3)) ⟨w.heap.size, 2, none⟩ = some (.string V.nm) ∧ World.cell? ((w2.alloc (.cells #[.int .i64 3, .string ⟨#[]⟩, .int .i64 0, .slice none 0 0] 34)).alloc (.cells #[.int .i64 0, .int .i64 1, .int .i64 2, .int .i64 3, .int .i64 4, .int .i64 5, .int .i64 6] 3)) ⟨w.heap.size, 3, none⟩ = some (.slice A V.args.length c) ∧ World.cell? ((w2.alloc (.cells #[.int .i64 3, .string ⟨#[]⟩, .int .i64 0, .slice none 0 0] 34)).alloc (.cells #[.int .i64 0, .int .i64 1, .int .i64 2, .int .i64 3, .int .i64 4, .int .i64 5, .int .i64 6] 3)) ⟨w.heap.size, 4, none⟩ = some (.int .i64 V.node) ∧ World.cell? ((w2.alloc (.cells #[.int .i64 3, .string ⟨#[]⟩, .int .i64 0, .slice none 0 0] 34)).alloc (.cells #[.int .i64 0, .int .i64 1, .int .i64 2, .int .i64 3, .int .i64 4, .int .i64 5, .int .i64 6] 3)) ⟨w.heap.size, 5, none⟩ = some (e) ∧ World.cell? ((w2.alloc (.cells #[.int .i64 3, .string ⟨#[]⟩, .int .i64 0, .slice none 0 0] 34)).alloc (.cells #[.int .i64 0, .int .i64 1, .int .i64 2, .int .i64 3, .int .i64 4, .int .i64 5, .int .i64 6] 3)) ⟨w.heap.size, 6, none⟩ = some (.int .i64 V.at_) ∧ World.cell? ((w2.alloc (.cells #[.int .i64 3, .string ⟨#[]⟩, .int .i64 0, .slice none 0 0] 34)).alloc (.cells #[.int .i64 0, .int .i64 1, .int .i64 2, .int .i64 3, .int .i64 4, .int .i64 5, .int .i64 6] 3)) ⟨w2.heap.size, 0, none⟩ = some (.int .i64 3) ∧ World.cell? ((w2.alloc (.cells #[.int .i64 3, .string ⟨#[]⟩, .int .i64 0, .slice none 0 0] 34)).alloc (.cells #[.int .i64 0, .int .i64 1, .int .i64 2, .int .i64 3, .int .i64 4, .int .i64 5, .int .i64 6] 3)) ⟨w2.heap.size, 1, none⟩ = some (.string ⟨#[]⟩) ∧ World.cell? ((w2.alloc (.cells #[.int .i64 3, .string ⟨#[]⟩, .int .i64 0, .slice none 0 0] 34)).alloc (.cells #[.int .i64 0, .int .i64 1, .int .i64 2, .int .i64 3, .int .i64 4, .int .i64 5, .int .i64 6] 3)) ⟨w2.heap.size, 2, none⟩ = some (.int .i64 0) ∧ World.cell? ((w2.alloc (.cells #[.int .i64 3, .string ⟨#[]⟩, .int .i64 0, .slice none 0 0] 34)).alloc (.cells #[.int .i64 0, .int .i64 1, .int .i64 2, .int .i64 3, .int .i64 4, .int .i64 5, .int .i64 6] 3)) ⟨w2.heap.size, 3, none⟩ = some (.slice none 0 0) ∧ World.cell? ((w2.alloc (.cells #[.int .i64 3, .string ⟨#[]⟩, .int .i64 0, .slice none 0 0] 34)).alloc (.cells #[.int .i64 0, .int .i64 1, .int .i64 2, .int .i64 3, .int .i64 4, .int .i64 5, .int .i64 6] 3)) ⟨w2.heap.size + 1, 3, none⟩ = some (.int .i64 3) from ⟨(keepA _ (keepA _ e0)), (keepA _ (keepA _ e1)), (keepA _ (keepA _ e2)), (keepA _ (keepA _ e3)), (keepA _ (keepA _ e4)), (keepA _ (keepA _ e5)), (keepA _ (keepA _ e6)), (keepA _ (box_at (W := w2) (t := 34) (vs := #[.int .i64 3, .string ⟨#[]⟩, .int .i64 0, .slice none 0 0]) 0 rfl)), (keepA _ (box_at (W := w2) (t := 34) (vs := #[.int .i64 3, .string ⟨#[]⟩, .int .i64 0, .slice none 0 0]) 1 rfl)), (keepA _ (box_at (W := w2) (t := 34) (vs := #[.int .i64 3, .string ⟨#[]⟩, .int .i64 0, .slice none 0 0]) 2 rfl)), (keepA _ (box_at (W := w2) (t := 34) (vs := #[.int .i64 3, .string ⟨#[]⟩, .int .i64 0, .slice none 0 0]) 3 rfl)), (box_at2 (t := 3) (vs := #[.int .i64 0, .int .i64 1, .int .i64 2, .int .i64 3, .int .i64 4, .int .i64 5, .int .i64 6]) 3 (by simp only [alloc_size]) rfl)⟩)
  refine wp_region_held_drew (S := fun w' => w'.cell? ⟨w.heap.size, 0, none⟩ = some (.int .i64 V.k) ∧ w'.cell? ⟨w.heap.size, 1, none⟩ = some (.int .i64 V.n) ∧ w'.cell? ⟨w.heap.size, 2, none⟩ = some (.string V.nm) ∧ w'.cell? ⟨w.heap.size, 3, none⟩ = some (.slice A V.args.length c) ∧ w'.cell? ⟨w.heap.size, 4, none⟩ = some (.int .i64 V.node) ∧ w'.cell? ⟨w.heap.size, 5, none⟩ = some (e) ∧ w'.cell? ⟨w.heap.size, 6, none⟩ = some (.int .i64 V.at_) ∧ w'.cell? ⟨w2.heap.size, 0, none⟩ = some (.int .i64 3) ∧ w'.cell? ⟨w2.heap.size, 1, none⟩ = some (.string ⟨#[]⟩) ∧ w'.cell? ⟨w2.heap.size, 2, none⟩ = some (.int .i64 0) ∧ w'.cell? ⟨w2.heap.size, 3, none⟩ = some (.slice none 0 0) ∧ w'.cell? ⟨w2.heap.size + 1, 3, none⟩ = some (.int .i64 3)) (by kernel_rfl) ?_ (fun hHeld => ?_)
  · exact B0.out
  refine wpAnyH_take (i := 0) (oi := { dst := some 41, op := Go.Op.load 26 (Go.Operand.tmp 2), type := 26, pos := _, after := #[], guard := none }) (v := ?v0) rfl (by kernel_rfl) (by kernel_rfl) (by kernel_rfl) (fun _ _ _ h => h) (Or.inl ⟨by rfl, ?hy0⟩) (by assumption) ?_
  case hy0 => (intro wz hSw; (try dsimp only at hSw); go_simp; try with_reducible rfl)
  (try simp only [Act.put, List.setIfInBounds_toArray, List.set_cons_zero, List.set_cons_succ])
  refine wpAnyH_take (i := 1) (oi := { dst := some 42, op := Go.Op.load 34 (Go.Operand.tmp 5), type := 34, pos := _, after := #[], guard := none }) (v := ?v1) rfl (by kernel_rfl) (by kernel_rfl) (by kernel_rfl) (fun _ _ _ h => h) (Or.inl ⟨by rfl, ?hy1⟩) (by assumption) ?_
  case hy1 => (intro wz hSw; (try dsimp only at hSw); go_simp; try with_reducible rfl)
  (try simp only [Act.put, List.setIfInBounds_toArray, List.set_cons_zero, List.set_cons_succ])
  refine wpAnyH_take (i := 4) (oi := { dst := some 45, op := Go.Op.fieldAddr 26 (Go.Operand.tmp 2) 0, type := 0, pos := _, after := #[], guard := none }) (v := ?v4) rfl (by kernel_rfl) (by kernel_rfl) (by kernel_rfl) (fun _ _ _ h => h) (Or.inl ⟨by rfl, ?hy4⟩) (by assumption) ?_
  case hy4 => (intro wz hSw; (try dsimp only at hSw); go_simp; try with_reducible rfl)
  (try simp only [Act.put, List.setIfInBounds_toArray, List.set_cons_zero, List.set_cons_succ])
  refine wpAnyH_take (i := 5) (oi := { dst := some 46, op := Go.Op.load 3 (Go.Operand.tmp 45), type := 3, pos := _, after := #[{ on := 4, ground := Go.Ground.data }], guard := none }) (v := ?v5) rfl (by kernel_rfl) (by kernel_rfl) (by kernel_rfl) (fun _ _ _ h => h) (Or.inl ⟨by rfl, ?hy5⟩) (by assumption) ?_
  case hy5 => (intro wz hSw; (try dsimp only at hSw); go_simp; try with_reducible rfl)
  (try simp only [Act.put, List.setIfInBounds_toArray, List.set_cons_zero, List.set_cons_succ])
  refine wpAnyH_take (i := 6) (oi := { dst := some 47, op := Go.Op.move (Go.Operand.tmp 6), type := 67, pos := _, after := #[], guard := none }) (v := ?v6) rfl (by kernel_rfl) (by kernel_rfl) (by kernel_rfl) (fun _ _ _ h => h) (Or.inl ⟨by rfl, ?hy6⟩) (by assumption) ?_
  case hy6 => (intro wz hSw; (try dsimp only at hSw); go_simp; try with_reducible rfl)
  (try simp only [Act.put, List.setIfInBounds_toArray, List.set_cons_zero, List.set_cons_succ])
  refine wpAnyH_take (i := 7) (oi := { dst := some 48, op := Go.Op.move (Go.Operand.tmp 1), type := 3, pos := _, after := #[], guard := none }) (v := ?v7) rfl (by kernel_rfl) (by kernel_rfl) (by kernel_rfl) (fun _ _ _ h => h) (Or.inl ⟨by rfl, ?hy7⟩) (by assumption) ?_
  case hy7 => (intro wz hSw; (try dsimp only at hSw); go_simp; try with_reducible rfl)
  (try simp only [Act.put, List.setIfInBounds_toArray, List.set_cons_zero, List.set_cons_succ])
  refine wpAnyH_take (i := 8) (oi := { dst := some 49, op := Go.Op.indexAddr 67 (Go.Operand.tmp 47) (Go.Operand.tmp 48), type := 0, pos := _, after := #[{ on := 6, ground := Go.Ground.data }, { on := 7, ground := Go.Ground.data }], guard := none }) (v := ?v8) rfl (by kernel_rfl) (by kernel_rfl) (by kernel_rfl) (fun _ _ _ h => h) (Or.inl ⟨by rfl, ?hy8⟩) (by assumption) ?_
  case hy8 => (intro wz hSw; (try dsimp only at hSw); go_simp; try with_reducible rfl)
  (try simp only [Act.put, List.setIfInBounds_toArray, List.set_cons_zero, List.set_cons_succ])
  refine wpAnyH_take (i := 9) (oi := { dst := some 50, op := Go.Op.load 3 (Go.Operand.tmp 49), type := 3, pos := _, after := #[{ on := 8, ground := Go.Ground.data }], guard := none }) (v := ?v9) rfl (by kernel_rfl) (by kernel_rfl) (by kernel_rfl) (fun _ _ _ h => h) (Or.inl ⟨by rfl, ?hy9⟩) (by assumption) ?_
  case hy9 => (intro wz hSw; (try dsimp only at hSw); go_simp; try with_reducible rfl)
  (try simp only [Act.put, List.setIfInBounds_toArray, List.set_cons_zero, List.set_cons_succ])
  refine wpAnyH_take (i := 10) (oi := { dst := some 51, op := Go.Op.binOp Go.BinOp.neq 3 (Go.Operand.tmp 46) (Go.Operand.tmp 50) 3, type := 4, pos := _, after := #[{ on := 5, ground := Go.Ground.data }, { on := 9, ground := Go.Ground.data }], guard := none }) (v := ?v10) rfl (by kernel_rfl) (by kernel_rfl) (by kernel_rfl) (fun _ _ _ h => h) (Or.inl ⟨by rfl, ?hy10⟩) (by assumption) ?_
  case hy10 => (intro wz hSw; (try dsimp only at hSw); go_simp; try with_reducible rfl)
  (try simp only [Act.put, List.setIfInBounds_toArray, List.set_cons_zero, List.set_cons_succ])
  refine wpAnyH_ready (rs := [2]) (by kernel_rfl) (by simp) ?_
  refine AllReadyH.cons (o := { dst := some 43, op := Go.Op.call { callee := Go.Callee.value (Go.Operand.func 14), args := #[Go.Operand.tmp 41, Go.Operand.tmp 42, Go.Operand.const (Go.Value.slice none 0 0), Go.Operand.const (Go.Value.slice none 0 0)], argTypes := #[26, 34, 23, 38] }, type := 9, pos := _, after := #[{ on := 0, ground := Go.Ground.data }, { on := 1, ground := Go.Ground.data }], guard := none }) rfl (fun K hK => ?_) AllReadyH.nil
  go_simp
  have hH := hHeld
  (try dsimp only at hH)
  obtain ⟨g0, g1, g2, g3, g4, g5, g6, g7, g8, g9, g10, g11⟩ := hH
  refine (HR.out _ _ (bD9 B3.out) ⟨_, _, rfl, .inl rfl⟩).mono ?_; rintro e w4 ⟨rfl, hb4⟩
  have hb4x0 := keepC hb4 g0
  have hb4x1 := keepC hb4 g1
  have hb4x2 := keepC hb4 g2
  have hb4x3 := keepC hb4 g3
  have hb4x4 := keepC hb4 g4
  have hb4x5 := keepC hb4 g5
  have hb4x6 := keepC hb4 g6
  have hb4x7 := keepC hb4 g7
  have hb4x8 := keepC hb4 g8
  have hb4x9 := keepC hb4 g9
  have hb4x10 := keepC hb4 g10
  have hb4x11 := keepC hb4 g11
  have B4 := Lib.hid (below2 (bD9 B3.out) hb4)
  clear hb4 hHeld g0 g1 g2 g3 g4 g5 g6 g7 g8 g9 g10 g11
  go_wp2_with fail
  refine hK.out _ _ ?_ (fun hHeld => ?_)
  · (try dsimp only); exact ⟨hb4x0, hb4x1, hb4x2, hb4x3, hb4x4, hb4x5, hb4x6, hb4x7, hb4x8, hb4x9, hb4x10, hb4x11⟩
  clear hK K hb4x0 hb4x1 hb4x2 hb4x3 hb4x4 hb4x5 hb4x6 hb4x7 hb4x8 hb4x9 hb4x10 hb4x11
  (try simp only [Act.put, List.setIfInBounds_toArray, List.set_cons_zero, List.set_cons_succ])
  refine wpAnyH_take (i := 3) (oi := { dst := some 44, op := Go.Op.binOp Go.BinOp.eql 9 (Go.Operand.tmp 43) (Go.Operand.const (Go.Value.string { data := #[63] })) 9, type := 4, pos := _, after := #[{ on := 2, ground := Go.Ground.data }], guard := none }) (v := ?v3) rfl (by kernel_rfl) (by kernel_rfl) (by kernel_rfl) (fun _ _ _ h => h) (Or.inl ⟨by rfl, ?hy3⟩) (by assumption) ?_
  case hy3 => (intro wz hSw; (try dsimp only at hSw); go_simp; try with_reducible rfl)
  (try simp only [Act.put, List.setIfInBounds_toArray, List.set_cons_zero, List.set_cons_succ])
  refine wpAnyH_take (i := 11) (oi := { dst := some 52, op := Go.Op.binOp Go.BinOp.eql 4 (Go.Operand.tmp 44) (Go.Operand.tmp 51) 4, type := 4, pos := _, after := #[{ on := 3, ground := Go.Ground.data }, { on := 10, ground := Go.Ground.data }], guard := none }) (v := ?v11) rfl (by kernel_rfl) (by kernel_rfl) (by kernel_rfl) (fun _ _ _ h => h) (Or.inl ⟨by rfl, ?hy11⟩) (by assumption) ?_
  case hy11 => (intro wz hSw; (try dsimp only at hSw); go_simp; try with_reducible rfl)
  (try simp only [Act.put, List.setIfInBounds_toArray, List.set_cons_zero, List.set_cons_succ])
  refine wpAnyH_take (i := 12) (oi := { dst := some 53, op := Go.Op.move (Go.Operand.tmp 52), type := 4, pos := _, after := #[{ on := 11, ground := Go.Ground.data }, { on := 2, ground := Go.Ground.chain }], guard := none }) (v := ?v12) rfl (by kernel_rfl) (by kernel_rfl) (by kernel_rfl) (fun _ _ _ h => h) (Or.inl ⟨by rfl, ?hy12⟩) (by assumption) ?_
  case hy12 => (intro wz hSw; (try dsimp only at hSw); go_simp; try with_reducible rfl)
  (try simp only [Act.put, List.setIfInBounds_toArray, List.set_cons_zero, List.set_cons_succ])
  refine wpAnyH_take (i := 13) (oi := { dst := some 54, op := Go.Op.load 26 (Go.Operand.tmp 2), type := 26, pos := _, after := #[{ on := 12, ground := Go.Ground.guard }], guard := some (12, true) }) (v := ?v13) rfl (by kernel_rfl) (by kernel_rfl) (by kernel_rfl) (fun _ _ _ h => h) (Or.inl ⟨by rfl, ?hy13⟩) (by assumption) ?_
  case hy13 => (intro wz hSw; (try dsimp only at hSw); go_simp; try with_reducible rfl)
  (try simp only [Act.put, List.setIfInBounds_toArray, List.set_cons_zero, List.set_cons_succ])
  refine wpAnyH_take (i := 14) (oi := { dst := some 55, op := Go.Op.build 34 #[(0, Go.Operand.const (Go.Value.int Go.IntKind.i64 7))], type := 34, pos := _, after := #[{ on := 12, ground := Go.Ground.guard }], guard := some (12, true) }) (v := ?v14) rfl (by kernel_rfl) (by kernel_rfl) (by kernel_rfl) (fun _ _ _ h => h) (Or.inl ⟨by rfl, ?hy14⟩) (by assumption) ?_
  case hy14 => (intro wz hSw; (try dsimp only at hSw); go_simp; try with_reducible rfl)
  (try simp only [Act.put, List.setIfInBounds_toArray, List.set_cons_zero, List.set_cons_succ])
  refine wpAnyH_ready (rs := [15]) (by kernel_rfl) (by simp) ?_
  refine AllReadyH.cons (o := { dst := some 56, op := Go.Op.call { callee := Go.Callee.value (Go.Operand.func 14), args := #[Go.Operand.tmp 54, Go.Operand.tmp 55, Go.Operand.const (Go.Value.slice none 0 0), Go.Operand.const (Go.Value.slice none 0 0)], argTypes := #[26, 34, 23, 38] }, type := 9, pos := _, after := #[{ on := 13, ground := Go.Ground.data }, { on := 14, ground := Go.Ground.data }, { on := 12, ground := Go.Ground.chain }, { on := 12, ground := Go.Ground.guard }], guard := some (12, true) }) rfl (fun K hK => ?_) AllReadyH.nil
  go_simp
  have hH := hHeld
  (try dsimp only at hH)
  obtain ⟨g0, g1, g2, g3, g4, g5, g6, g7, g8, g9, g10, g11⟩ := hH
  refine (HP.out _ B4.out).mono ?_; rintro e w5 ⟨rfl, hb5⟩
  have hb5x0 := keepC hb5 g0
  have hb5x1 := keepC hb5 g1
  have hb5x2 := keepC hb5 g2
  have hb5x3 := keepC hb5 g3
  have hb5x4 := keepC hb5 g4
  have hb5x5 := keepC hb5 g5
  have hb5x6 := keepC hb5 g6
  have hb5x7 := keepC hb5 g7
  have hb5x8 := keepC hb5 g8
  have hb5x9 := keepC hb5 g9
  have hb5x10 := keepC hb5 g10
  have hb5x11 := keepC hb5 g11
  have B5 := Lib.hid (below2 B4.out hb5)
  clear hb5 hHeld g0 g1 g2 g3 g4 g5 g6 g7 g8 g9 g10 g11
  go_wp2_with fail
  refine hK.out _ _ ?_ (fun hHeld => ?_)
  · (try dsimp only); exact ⟨hb5x0, hb5x1, hb5x2, hb5x3, hb5x4, hb5x5, hb5x6, hb5x7, hb5x8, hb5x9, hb5x10, hb5x11⟩
  clear hK K hb5x0 hb5x1 hb5x2 hb5x3 hb5x4 hb5x5 hb5x6 hb5x7 hb5x8 hb5x9 hb5x10 hb5x11
  (try simp only [Act.put, List.setIfInBounds_toArray, List.set_cons_zero, List.set_cons_succ])
  refine wpAnyH_take (i := 16) (oi := { dst := some 57, op := Go.Op.binOp Go.BinOp.eql 9 (Go.Operand.tmp 56) (Go.Operand.const (Go.Value.string { data := #[60, 112, 111, 108, 121, 62] })) 9, type := 4, pos := _, after := #[{ on := 15, ground := Go.Ground.data }, { on := 12, ground := Go.Ground.guard }], guard := some (12, true) }) (v := ?v16) rfl (by kernel_rfl) (by kernel_rfl) (by kernel_rfl) (fun _ _ _ h => h) (Or.inl ⟨by rfl, ?hy16⟩) (by assumption) ?_
  case hy16 => (intro wz hSw; (try dsimp only at hSw); go_simp; try with_reducible rfl)
  (try simp only [Act.put, List.setIfInBounds_toArray, List.set_cons_zero, List.set_cons_succ])
  refine wpAnyH_take (i := 17) (oi := { dst := some 58, op := Go.Op.pick (Go.Operand.tmp 53) (Go.Operand.tmp 57) (Go.Operand.const (Go.Value.bool false)), type := 4, pos := _, after := #[{ on := 12, ground := Go.Ground.data }, { on := 16, ground := Go.Ground.data }], guard := none }) (v := ?v17) rfl (by kernel_rfl) (by kernel_rfl) (by kernel_rfl) (fun _ _ _ h => h) (Or.inl ⟨by rfl, ?hy17⟩) (by assumption) ?_
  case hy17 => (intro wz hSw; (try dsimp only at hSw); go_simp; try with_reducible rfl)
  (try simp only [Act.put, List.setIfInBounds_toArray, List.set_cons_zero, List.set_cons_succ])
  refine wpAnyH_take (i := 18) (oi := { dst := some 4, op := Go.Op.assign (Go.Operand.tmp 58), type := 4, pos := _, after := #[{ on := 17, ground := Go.Ground.data }, { on := 15, ground := Go.Ground.chain }, { on := 0, ground := Go.Ground.phase }, { on := 1, ground := Go.Ground.phase }, { on := 2, ground := Go.Ground.phase }, { on := 3, ground := Go.Ground.phase }, { on := 4, ground := Go.Ground.phase }, { on := 5, ground := Go.Ground.phase }, { on := 6, ground := Go.Ground.phase }, { on := 7, ground := Go.Ground.phase }, { on := 8, ground := Go.Ground.phase }, { on := 9, ground := Go.Ground.phase }, { on := 10, ground := Go.Ground.phase }, { on := 11, ground := Go.Ground.phase }, { on := 12, ground := Go.Ground.phase }, { on := 13, ground := Go.Ground.phase }, { on := 14, ground := Go.Ground.phase }, { on := 15, ground := Go.Ground.phase }, { on := 16, ground := Go.Ground.phase }, { on := 17, ground := Go.Ground.phase }], guard := none }) (v := ?v18) rfl (by kernel_rfl) (by kernel_rfl) (by kernel_rfl) (fun _ _ _ h => h) (Or.inl ⟨by rfl, ?hy18⟩) (by assumption) ?_
  case hy18 => (intro wz hSw; (try dsimp only at hSw); go_simp; try with_reducible rfl)
  (try simp only [Act.put, List.setIfInBounds_toArray, List.set_cons_zero, List.set_cons_succ])
  refine wpAnyH_done (by kernel_rfl) ?_ _
  go_wp2
  go_ret
  exact ⟨rfl, B5.out⟩
set_option maxRecDepth 100000 in
set_option maxHeartbeats 8000000 in
theorem kinds4 {w : World} {V : VT} {A : Option Addr} {c : Nat} {e : Value} {x : ByteArray} {b : Bool}
    (hbig : ∀ W, Below w.heap.size w W → Calls Tryd.prog 21 #[.agg #[.int .i64 V.k, .int .i64 V.n, .string V.nm, .slice A V.args.length c, .int .i64 V.node, e, .int .i64 V.at_], .int .i64 64] W fun e w' => e = .returned (.bool false) ∧ Below W.heap.size W w')
    (hr : ∀ W t, Below w.heap.size w W → TIn W (tyFor 4) t → Calls Tryd.prog 14 #[.agg #[.int .i64 V.k, .int .i64 V.n, .string V.nm, .slice A V.args.length c, .int .i64 V.node, e, .int .i64 V.at_], t, .slice none 0 0, .slice none 0 0] W fun e w' => e = .returned (.string x) ∧ Below W.heap.size W w')
    (hp : ∀ W, Below w.heap.size w W → Calls Tryd.prog 14 #[.agg #[.int .i64 V.k, .int .i64 V.n, .string V.nm, .slice A V.args.length c, .int .i64 V.node, e, .int .i64 V.at_], .agg #[.int .i64 7, .string ⟨#[]⟩, .int .i64 0, .slice none 0 0], .slice none 0 0, .slice none 0 0] W fun e w' => e = .returned (.string ⟨#[60, 112, 111, 108, 121, 62]⟩) ∧ Below W.heap.size W w')
    (hnm : (V.nm.toList == [63]) = false) (d1 : (x.toList == [63]) = b) (d2 : (V.k != 4) = b) :
    Calls Tryd.prog 8 #[.agg #[.int .i64 V.k, .int .i64 V.n, .string V.nm, .slice A V.args.length c, .int .i64 V.node, e, .int .i64 V.at_], .int .i64 4] w fun e w' => e = .returned (.bool true) ∧ Below w.heap.size w w' := by
  have HBIG := Lib.hid hbig
  have HR := Lib.hid hr
  have HP := Lib.hid hp
  clear hbig hr hp
  go_enter Tryd.func8, Tryd.ntmps8
  go_wp2_with fail
  refine (awake _).mono ?_; rintro e w1 ⟨rfl, hb1⟩
  have B1 := Lib.hid (below2 (belowA w _) hb1)
  have c0 := keepC hb1 (box_at (W := w) (t := 26) (vs := #[.int .i64 V.k, .int .i64 V.n, .string V.nm, .slice A V.args.length c, .int .i64 V.node, e, .int .i64 V.at_]) 0 rfl)
  have c1 := keepC hb1 (box_at (W := w) (t := 26) (vs := #[.int .i64 V.k, .int .i64 V.n, .string V.nm, .slice A V.args.length c, .int .i64 V.node, e, .int .i64 V.at_]) 1 rfl)
  have c2 := keepC hb1 (box_at (W := w) (t := 26) (vs := #[.int .i64 V.k, .int .i64 V.n, .string V.nm, .slice A V.args.length c, .int .i64 V.node, e, .int .i64 V.at_]) 2 rfl)
  have c3 := keepC hb1 (box_at (W := w) (t := 26) (vs := #[.int .i64 V.k, .int .i64 V.n, .string V.nm, .slice A V.args.length c, .int .i64 V.node, e, .int .i64 V.at_]) 3 rfl)
  have c4 := keepC hb1 (box_at (W := w) (t := 26) (vs := #[.int .i64 V.k, .int .i64 V.n, .string V.nm, .slice A V.args.length c, .int .i64 V.node, e, .int .i64 V.at_]) 4 rfl)
  have c5 := keepC hb1 (box_at (W := w) (t := 26) (vs := #[.int .i64 V.k, .int .i64 V.n, .string V.nm, .slice A V.args.length c, .int .i64 V.node, e, .int .i64 V.at_]) 5 rfl)
  have c6 := keepC hb1 (box_at (W := w) (t := 26) (vs := #[.int .i64 V.k, .int .i64 V.n, .string V.nm, .slice A V.args.length c, .int .i64 V.node, e, .int .i64 V.at_]) 6 rfl)
  clear hb1
  go_wp2_with fail
  refine (HBIG.out _ B1.out).mono ?_; rintro e w2 ⟨rfl, hb2⟩
  have B2 := Lib.hid (below2 B1.out hb2)
  have e0 := keepC hb2 c0
  have e1 := keepC hb2 c1
  have e2 := keepC hb2 c2
  have e3 := keepC hb2 c3
  have e4 := keepC hb2 c4
  have e5 := keepC hb2 c5
  have e6 := keepC hb2 c6
  clear c0 c1 c2 c3 c4 c5 c6 hb2 B1
  go_wp2_with fail
  have B3 := Lib.hid (below2 B2.out (belowA w2 (.cells #[.int .i64 4, .string ⟨#[116]⟩, .int .i64 0, .slice none 0 0] 34)))
  have B3 := Lib.hid (below2 B3.out (belowA _ (.cells #[.int .i64 0, .int .i64 1, .int .i64 2, .int .i64 3, .int .i64 4, .int .i64 5, .int .i64 6] 3)))
  have B0 := Lib.hid (show World.cell? ((w2.alloc (.cells #[.int .i64 4, .string ⟨#[116]⟩, .int .i64 0, .slice none 0 0] 34)).alloc (.cells #[.int .i64 0, .int .i64 1, .int .i64 2, .int .i64 3, .int .i64 4, .int .i64 5, .int .i64 6] 3)) ⟨w.heap.size, 0, none⟩ = some (.int .i64 V.k) ∧ World.cell? ((w2.alloc (.cells #[.int .i64 4, .string ⟨#[116]⟩, .int .i64 0, .slice none 0 0] 34)).alloc (.cells #[.int .i64 0, .int .i64 1, .int .i64 2, .int .i64 3, .int .i64 4, .int .i64 5, .int .i64 6] 3)) ⟨w.heap.size, 1, none⟩ = some (.int .i64 V.n) ∧ World.cell? ((w2.alloc (.cells #[.int .i64 4, .string ⟨#[116]⟩, .int .i64 0, .slice none 0 0] 34)).alloc (.cells #[.int .i64 0, .int .i64 1, .int .i64 2, .int .i64 3, .int .i64 4, .int .i64 5, .int .i64 6] 3)) ⟨w.heap.size, 2, none⟩ = some (.string V.nm) ∧ World.cell? ((w2.alloc (.cells #[.int .i64 4, .string ⟨#[116]⟩, .int .i64 0, .slice none 0 0] 34)).alloc (.cells #[.int .i64 0, .int .i64 1, .int .i64 2, .int .i64 3, .int .i64 4, .int .i64 5, .int .i64 6] 3)) ⟨w.heap.size, 3, none⟩ = some (.slice A V.args.length c) ∧ World.cell? ((w2.alloc (.cells #[.int .i64 4, .string ⟨#[116]⟩, .int .i64 0, .slice none 0 0] 34)).alloc (.cells #[.int .i64 0, .int .i64 1, .int .i64 2, .int .i64 3, .int .i64 4, .int .i64 5, .int .i64 6] 3)) ⟨w.heap.size, 4, none⟩ = some (.int .i64 V.node) ∧ World.cell? ((w2.alloc (.cells #[.int .i64 4, .string ⟨#[116]⟩, .int .i64 0, .slice none 0 0] 34)).alloc (.cells #[.int .i64 0, .int .i64 1, .int .i64 2, .int .i64 3, .int .i64 4, .int .i64 5, .int .i64 6] 3)) ⟨w.heap.size, 5, none⟩ = some (e) ∧ World.cell? ((w2.alloc (.cells #[.int .i64 4, .string ⟨#[116]⟩, .int .i64 0, .slice none 0 0] 34)).alloc (.cells #[.int .i64 0, .int .i64 1, .int .i64 2, .int .i64 3, .int .i64 4, .int .i64 5, .int .i64 6] 3)) ⟨w.heap.size, 6, none⟩ = some (.int .i64 V.at_) ∧ World.cell? ((w2.alloc (.cells #[.int .i64 4, .string ⟨#[116]⟩, .int .i64 0, .slice none 0 0] 34)).alloc (.cells #[.int .i64 0, .int .i64 1, .int .i64 2, .int .i64 3, .int .i64 4, .int .i64 5, .int .i64 6] 3)) ⟨w2.heap.size, 0, none⟩ = some (.int .i64 4) ∧ World.cell? ((w2.alloc (.cells #[.int .i64 4, .string ⟨#[116]⟩, .int .i64 0, .slice none 0 0] 34)).alloc (.cells #[.int .i64 0, .int .i64 1, .int .i64 2, .int .i64 3, .int .i64 4, .int .i64 5, .int .i64 6] 3)) ⟨w2.heap.size, 1, none⟩ = some (.string ⟨#[116]⟩) ∧ World.cell? ((w2.alloc (.cells #[.int .i64 4, .string ⟨#[116]⟩, .int .i64 0, .slice none 0 0] 34)).alloc (.cells #[.int .i64 0, .int .i64 1, .int .i64 2, .int .i64 3, .int .i64 4, .int .i64 5, .int .i64 6] 3)) ⟨w2.heap.size, 2, none⟩ = some (.int .i64 0) ∧ World.cell? ((w2.alloc (.cells #[.int .i64 4, .string ⟨#[116]⟩, .int .i64 0, .slice none 0 0] 34)).alloc (.cells #[.int .i64 0, .int .i64 1, .int .i64 2, .int .i64 3, .int .i64 4, .int .i64 5, .int .i64 6] 3)) ⟨w2.heap.size, 3, none⟩ = some (.slice none 0 0) ∧ World.cell? ((w2.alloc (.cells #[.int .i64 4, .string ⟨#[116]⟩, .int .i64 0, .slice none 0 0] 34)).alloc (.cells #[.int .i64 0, .int .i64 1, .int .i64 2, .int .i64 3, .int .i64 4, .int .i64 5, .int .i64 6] 3)) ⟨w2.heap.size + 1, 4, none⟩ = some (.int .i64 4) from ⟨(keepA _ (keepA _ e0)), (keepA _ (keepA _ e1)), (keepA _ (keepA _ e2)), (keepA _ (keepA _ e3)), (keepA _ (keepA _ e4)), (keepA _ (keepA _ e5)), (keepA _ (keepA _ e6)), (keepA _ (box_at (W := w2) (t := 34) (vs := #[.int .i64 4, .string ⟨#[116]⟩, .int .i64 0, .slice none 0 0]) 0 rfl)), (keepA _ (box_at (W := w2) (t := 34) (vs := #[.int .i64 4, .string ⟨#[116]⟩, .int .i64 0, .slice none 0 0]) 1 rfl)), (keepA _ (box_at (W := w2) (t := 34) (vs := #[.int .i64 4, .string ⟨#[116]⟩, .int .i64 0, .slice none 0 0]) 2 rfl)), (keepA _ (box_at (W := w2) (t := 34) (vs := #[.int .i64 4, .string ⟨#[116]⟩, .int .i64 0, .slice none 0 0]) 3 rfl)), (box_at2 (t := 3) (vs := #[.int .i64 0, .int .i64 1, .int .i64 2, .int .i64 3, .int .i64 4, .int .i64 5, .int .i64 6]) 4 (by simp only [alloc_size]) rfl)⟩)
  refine wp_region_held_drew (S := fun w' => w'.cell? ⟨w.heap.size, 0, none⟩ = some (.int .i64 V.k) ∧ w'.cell? ⟨w.heap.size, 1, none⟩ = some (.int .i64 V.n) ∧ w'.cell? ⟨w.heap.size, 2, none⟩ = some (.string V.nm) ∧ w'.cell? ⟨w.heap.size, 3, none⟩ = some (.slice A V.args.length c) ∧ w'.cell? ⟨w.heap.size, 4, none⟩ = some (.int .i64 V.node) ∧ w'.cell? ⟨w.heap.size, 5, none⟩ = some (e) ∧ w'.cell? ⟨w.heap.size, 6, none⟩ = some (.int .i64 V.at_) ∧ w'.cell? ⟨w2.heap.size, 0, none⟩ = some (.int .i64 4) ∧ w'.cell? ⟨w2.heap.size, 1, none⟩ = some (.string ⟨#[116]⟩) ∧ w'.cell? ⟨w2.heap.size, 2, none⟩ = some (.int .i64 0) ∧ w'.cell? ⟨w2.heap.size, 3, none⟩ = some (.slice none 0 0) ∧ w'.cell? ⟨w2.heap.size + 1, 4, none⟩ = some (.int .i64 4)) (by kernel_rfl) ?_ (fun hHeld => ?_)
  · exact B0.out
  refine wpAnyH_take (i := 0) (oi := { dst := some 41, op := Go.Op.load 26 (Go.Operand.tmp 2), type := 26, pos := _, after := #[], guard := none }) (v := ?v0) rfl (by kernel_rfl) (by kernel_rfl) (by kernel_rfl) (fun _ _ _ h => h) (Or.inl ⟨by rfl, ?hy0⟩) (by assumption) ?_
  case hy0 => (intro wz hSw; (try dsimp only at hSw); go_simp; try with_reducible rfl)
  (try simp only [Act.put, List.setIfInBounds_toArray, List.set_cons_zero, List.set_cons_succ])
  refine wpAnyH_take (i := 1) (oi := { dst := some 42, op := Go.Op.load 34 (Go.Operand.tmp 5), type := 34, pos := _, after := #[], guard := none }) (v := ?v1) rfl (by kernel_rfl) (by kernel_rfl) (by kernel_rfl) (fun _ _ _ h => h) (Or.inl ⟨by rfl, ?hy1⟩) (by assumption) ?_
  case hy1 => (intro wz hSw; (try dsimp only at hSw); go_simp; try with_reducible rfl)
  (try simp only [Act.put, List.setIfInBounds_toArray, List.set_cons_zero, List.set_cons_succ])
  refine wpAnyH_take (i := 4) (oi := { dst := some 45, op := Go.Op.fieldAddr 26 (Go.Operand.tmp 2) 0, type := 0, pos := _, after := #[], guard := none }) (v := ?v4) rfl (by kernel_rfl) (by kernel_rfl) (by kernel_rfl) (fun _ _ _ h => h) (Or.inl ⟨by rfl, ?hy4⟩) (by assumption) ?_
  case hy4 => (intro wz hSw; (try dsimp only at hSw); go_simp; try with_reducible rfl)
  (try simp only [Act.put, List.setIfInBounds_toArray, List.set_cons_zero, List.set_cons_succ])
  refine wpAnyH_take (i := 5) (oi := { dst := some 46, op := Go.Op.load 3 (Go.Operand.tmp 45), type := 3, pos := _, after := #[{ on := 4, ground := Go.Ground.data }], guard := none }) (v := ?v5) rfl (by kernel_rfl) (by kernel_rfl) (by kernel_rfl) (fun _ _ _ h => h) (Or.inl ⟨by rfl, ?hy5⟩) (by assumption) ?_
  case hy5 => (intro wz hSw; (try dsimp only at hSw); go_simp; try with_reducible rfl)
  (try simp only [Act.put, List.setIfInBounds_toArray, List.set_cons_zero, List.set_cons_succ])
  refine wpAnyH_take (i := 6) (oi := { dst := some 47, op := Go.Op.move (Go.Operand.tmp 6), type := 67, pos := _, after := #[], guard := none }) (v := ?v6) rfl (by kernel_rfl) (by kernel_rfl) (by kernel_rfl) (fun _ _ _ h => h) (Or.inl ⟨by rfl, ?hy6⟩) (by assumption) ?_
  case hy6 => (intro wz hSw; (try dsimp only at hSw); go_simp; try with_reducible rfl)
  (try simp only [Act.put, List.setIfInBounds_toArray, List.set_cons_zero, List.set_cons_succ])
  refine wpAnyH_take (i := 7) (oi := { dst := some 48, op := Go.Op.move (Go.Operand.tmp 1), type := 3, pos := _, after := #[], guard := none }) (v := ?v7) rfl (by kernel_rfl) (by kernel_rfl) (by kernel_rfl) (fun _ _ _ h => h) (Or.inl ⟨by rfl, ?hy7⟩) (by assumption) ?_
  case hy7 => (intro wz hSw; (try dsimp only at hSw); go_simp; try with_reducible rfl)
  (try simp only [Act.put, List.setIfInBounds_toArray, List.set_cons_zero, List.set_cons_succ])
  refine wpAnyH_take (i := 8) (oi := { dst := some 49, op := Go.Op.indexAddr 67 (Go.Operand.tmp 47) (Go.Operand.tmp 48), type := 0, pos := _, after := #[{ on := 6, ground := Go.Ground.data }, { on := 7, ground := Go.Ground.data }], guard := none }) (v := ?v8) rfl (by kernel_rfl) (by kernel_rfl) (by kernel_rfl) (fun _ _ _ h => h) (Or.inl ⟨by rfl, ?hy8⟩) (by assumption) ?_
  case hy8 => (intro wz hSw; (try dsimp only at hSw); go_simp; try with_reducible rfl)
  (try simp only [Act.put, List.setIfInBounds_toArray, List.set_cons_zero, List.set_cons_succ])
  refine wpAnyH_take (i := 9) (oi := { dst := some 50, op := Go.Op.load 3 (Go.Operand.tmp 49), type := 3, pos := _, after := #[{ on := 8, ground := Go.Ground.data }], guard := none }) (v := ?v9) rfl (by kernel_rfl) (by kernel_rfl) (by kernel_rfl) (fun _ _ _ h => h) (Or.inl ⟨by rfl, ?hy9⟩) (by assumption) ?_
  case hy9 => (intro wz hSw; (try dsimp only at hSw); go_simp; try with_reducible rfl)
  (try simp only [Act.put, List.setIfInBounds_toArray, List.set_cons_zero, List.set_cons_succ])
  refine wpAnyH_take (i := 10) (oi := { dst := some 51, op := Go.Op.binOp Go.BinOp.neq 3 (Go.Operand.tmp 46) (Go.Operand.tmp 50) 3, type := 4, pos := _, after := #[{ on := 5, ground := Go.Ground.data }, { on := 9, ground := Go.Ground.data }], guard := none }) (v := ?v10) rfl (by kernel_rfl) (by kernel_rfl) (by kernel_rfl) (fun _ _ _ h => h) (Or.inl ⟨by rfl, ?hy10⟩) (by assumption) ?_
  case hy10 => (intro wz hSw; (try dsimp only at hSw); go_simp; try with_reducible rfl)
  (try simp only [Act.put, List.setIfInBounds_toArray, List.set_cons_zero, List.set_cons_succ])
  refine wpAnyH_ready (rs := [2]) (by kernel_rfl) (by simp) ?_
  refine AllReadyH.cons (o := { dst := some 43, op := Go.Op.call { callee := Go.Callee.value (Go.Operand.func 14), args := #[Go.Operand.tmp 41, Go.Operand.tmp 42, Go.Operand.const (Go.Value.slice none 0 0), Go.Operand.const (Go.Value.slice none 0 0)], argTypes := #[26, 34, 23, 38] }, type := 9, pos := _, after := #[{ on := 0, ground := Go.Ground.data }, { on := 1, ground := Go.Ground.data }], guard := none }) rfl (fun K hK => ?_) AllReadyH.nil
  go_simp
  have hH := hHeld
  (try dsimp only at hH)
  obtain ⟨g0, g1, g2, g3, g4, g5, g6, g7, g8, g9, g10, g11⟩ := hH
  refine (HR.out _ _ (bD9 B3.out) ⟨_, _, rfl, .inl rfl⟩).mono ?_; rintro e w4 ⟨rfl, hb4⟩
  have hb4x0 := keepC hb4 g0
  have hb4x1 := keepC hb4 g1
  have hb4x2 := keepC hb4 g2
  have hb4x3 := keepC hb4 g3
  have hb4x4 := keepC hb4 g4
  have hb4x5 := keepC hb4 g5
  have hb4x6 := keepC hb4 g6
  have hb4x7 := keepC hb4 g7
  have hb4x8 := keepC hb4 g8
  have hb4x9 := keepC hb4 g9
  have hb4x10 := keepC hb4 g10
  have hb4x11 := keepC hb4 g11
  have B4 := Lib.hid (below2 (bD9 B3.out) hb4)
  clear hb4 hHeld g0 g1 g2 g3 g4 g5 g6 g7 g8 g9 g10 g11
  go_wp2_with fail
  refine hK.out _ _ ?_ (fun hHeld => ?_)
  · (try dsimp only); exact ⟨hb4x0, hb4x1, hb4x2, hb4x3, hb4x4, hb4x5, hb4x6, hb4x7, hb4x8, hb4x9, hb4x10, hb4x11⟩
  clear hK K hb4x0 hb4x1 hb4x2 hb4x3 hb4x4 hb4x5 hb4x6 hb4x7 hb4x8 hb4x9 hb4x10 hb4x11
  (try simp only [Act.put, List.setIfInBounds_toArray, List.set_cons_zero, List.set_cons_succ])
  refine wpAnyH_take (i := 3) (oi := { dst := some 44, op := Go.Op.binOp Go.BinOp.eql 9 (Go.Operand.tmp 43) (Go.Operand.const (Go.Value.string { data := #[63] })) 9, type := 4, pos := _, after := #[{ on := 2, ground := Go.Ground.data }], guard := none }) (v := ?v3) rfl (by kernel_rfl) (by kernel_rfl) (by kernel_rfl) (fun _ _ _ h => h) (Or.inl ⟨by rfl, ?hy3⟩) (by assumption) ?_
  case hy3 => (intro wz hSw; (try dsimp only at hSw); go_simp; try with_reducible rfl)
  (try simp only [Act.put, List.setIfInBounds_toArray, List.set_cons_zero, List.set_cons_succ])
  refine wpAnyH_take (i := 11) (oi := { dst := some 52, op := Go.Op.binOp Go.BinOp.eql 4 (Go.Operand.tmp 44) (Go.Operand.tmp 51) 4, type := 4, pos := _, after := #[{ on := 3, ground := Go.Ground.data }, { on := 10, ground := Go.Ground.data }], guard := none }) (v := ?v11) rfl (by kernel_rfl) (by kernel_rfl) (by kernel_rfl) (fun _ _ _ h => h) (Or.inl ⟨by rfl, ?hy11⟩) (by assumption) ?_
  case hy11 => (intro wz hSw; (try dsimp only at hSw); go_simp; try with_reducible rfl)
  (try simp only [Act.put, List.setIfInBounds_toArray, List.set_cons_zero, List.set_cons_succ])
  refine wpAnyH_take (i := 12) (oi := { dst := some 53, op := Go.Op.move (Go.Operand.tmp 52), type := 4, pos := _, after := #[{ on := 11, ground := Go.Ground.data }, { on := 2, ground := Go.Ground.chain }], guard := none }) (v := ?v12) rfl (by kernel_rfl) (by kernel_rfl) (by kernel_rfl) (fun _ _ _ h => h) (Or.inl ⟨by rfl, ?hy12⟩) (by assumption) ?_
  case hy12 => (intro wz hSw; (try dsimp only at hSw); go_simp; try with_reducible rfl)
  (try simp only [Act.put, List.setIfInBounds_toArray, List.set_cons_zero, List.set_cons_succ])
  refine wpAnyH_take (i := 13) (oi := { dst := some 54, op := Go.Op.load 26 (Go.Operand.tmp 2), type := 26, pos := _, after := #[{ on := 12, ground := Go.Ground.guard }], guard := some (12, true) }) (v := ?v13) rfl (by kernel_rfl) (by kernel_rfl) (by kernel_rfl) (fun _ _ _ h => h) (Or.inl ⟨by rfl, ?hy13⟩) (by assumption) ?_
  case hy13 => (intro wz hSw; (try dsimp only at hSw); go_simp; try with_reducible rfl)
  (try simp only [Act.put, List.setIfInBounds_toArray, List.set_cons_zero, List.set_cons_succ])
  refine wpAnyH_take (i := 14) (oi := { dst := some 55, op := Go.Op.build 34 #[(0, Go.Operand.const (Go.Value.int Go.IntKind.i64 7))], type := 34, pos := _, after := #[{ on := 12, ground := Go.Ground.guard }], guard := some (12, true) }) (v := ?v14) rfl (by kernel_rfl) (by kernel_rfl) (by kernel_rfl) (fun _ _ _ h => h) (Or.inl ⟨by rfl, ?hy14⟩) (by assumption) ?_
  case hy14 => (intro wz hSw; (try dsimp only at hSw); go_simp; try with_reducible rfl)
  (try simp only [Act.put, List.setIfInBounds_toArray, List.set_cons_zero, List.set_cons_succ])
  refine wpAnyH_ready (rs := [15]) (by kernel_rfl) (by simp) ?_
  refine AllReadyH.cons (o := { dst := some 56, op := Go.Op.call { callee := Go.Callee.value (Go.Operand.func 14), args := #[Go.Operand.tmp 54, Go.Operand.tmp 55, Go.Operand.const (Go.Value.slice none 0 0), Go.Operand.const (Go.Value.slice none 0 0)], argTypes := #[26, 34, 23, 38] }, type := 9, pos := _, after := #[{ on := 13, ground := Go.Ground.data }, { on := 14, ground := Go.Ground.data }, { on := 12, ground := Go.Ground.chain }, { on := 12, ground := Go.Ground.guard }], guard := some (12, true) }) rfl (fun K hK => ?_) AllReadyH.nil
  go_simp
  have hH := hHeld
  (try dsimp only at hH)
  obtain ⟨g0, g1, g2, g3, g4, g5, g6, g7, g8, g9, g10, g11⟩ := hH
  refine (HP.out _ B4.out).mono ?_; rintro e w5 ⟨rfl, hb5⟩
  have hb5x0 := keepC hb5 g0
  have hb5x1 := keepC hb5 g1
  have hb5x2 := keepC hb5 g2
  have hb5x3 := keepC hb5 g3
  have hb5x4 := keepC hb5 g4
  have hb5x5 := keepC hb5 g5
  have hb5x6 := keepC hb5 g6
  have hb5x7 := keepC hb5 g7
  have hb5x8 := keepC hb5 g8
  have hb5x9 := keepC hb5 g9
  have hb5x10 := keepC hb5 g10
  have hb5x11 := keepC hb5 g11
  have B5 := Lib.hid (below2 B4.out hb5)
  clear hb5 hHeld g0 g1 g2 g3 g4 g5 g6 g7 g8 g9 g10 g11
  go_wp2_with fail
  refine hK.out _ _ ?_ (fun hHeld => ?_)
  · (try dsimp only); exact ⟨hb5x0, hb5x1, hb5x2, hb5x3, hb5x4, hb5x5, hb5x6, hb5x7, hb5x8, hb5x9, hb5x10, hb5x11⟩
  clear hK K hb5x0 hb5x1 hb5x2 hb5x3 hb5x4 hb5x5 hb5x6 hb5x7 hb5x8 hb5x9 hb5x10 hb5x11
  (try simp only [Act.put, List.setIfInBounds_toArray, List.set_cons_zero, List.set_cons_succ])
  refine wpAnyH_take (i := 16) (oi := { dst := some 57, op := Go.Op.binOp Go.BinOp.eql 9 (Go.Operand.tmp 56) (Go.Operand.const (Go.Value.string { data := #[60, 112, 111, 108, 121, 62] })) 9, type := 4, pos := _, after := #[{ on := 15, ground := Go.Ground.data }, { on := 12, ground := Go.Ground.guard }], guard := some (12, true) }) (v := ?v16) rfl (by kernel_rfl) (by kernel_rfl) (by kernel_rfl) (fun _ _ _ h => h) (Or.inl ⟨by rfl, ?hy16⟩) (by assumption) ?_
  case hy16 => (intro wz hSw; (try dsimp only at hSw); go_simp; try with_reducible rfl)
  (try simp only [Act.put, List.setIfInBounds_toArray, List.set_cons_zero, List.set_cons_succ])
  refine wpAnyH_take (i := 17) (oi := { dst := some 58, op := Go.Op.pick (Go.Operand.tmp 53) (Go.Operand.tmp 57) (Go.Operand.const (Go.Value.bool false)), type := 4, pos := _, after := #[{ on := 12, ground := Go.Ground.data }, { on := 16, ground := Go.Ground.data }], guard := none }) (v := ?v17) rfl (by kernel_rfl) (by kernel_rfl) (by kernel_rfl) (fun _ _ _ h => h) (Or.inl ⟨by rfl, ?hy17⟩) (by assumption) ?_
  case hy17 => (intro wz hSw; (try dsimp only at hSw); go_simp; try with_reducible rfl)
  (try simp only [Act.put, List.setIfInBounds_toArray, List.set_cons_zero, List.set_cons_succ])
  refine wpAnyH_take (i := 18) (oi := { dst := some 4, op := Go.Op.assign (Go.Operand.tmp 58), type := 4, pos := _, after := #[{ on := 17, ground := Go.Ground.data }, { on := 15, ground := Go.Ground.chain }, { on := 0, ground := Go.Ground.phase }, { on := 1, ground := Go.Ground.phase }, { on := 2, ground := Go.Ground.phase }, { on := 3, ground := Go.Ground.phase }, { on := 4, ground := Go.Ground.phase }, { on := 5, ground := Go.Ground.phase }, { on := 6, ground := Go.Ground.phase }, { on := 7, ground := Go.Ground.phase }, { on := 8, ground := Go.Ground.phase }, { on := 9, ground := Go.Ground.phase }, { on := 10, ground := Go.Ground.phase }, { on := 11, ground := Go.Ground.phase }, { on := 12, ground := Go.Ground.phase }, { on := 13, ground := Go.Ground.phase }, { on := 14, ground := Go.Ground.phase }, { on := 15, ground := Go.Ground.phase }, { on := 16, ground := Go.Ground.phase }, { on := 17, ground := Go.Ground.phase }], guard := none }) (v := ?v18) rfl (by kernel_rfl) (by kernel_rfl) (by kernel_rfl) (fun _ _ _ h => h) (Or.inl ⟨by rfl, ?hy18⟩) (by assumption) ?_
  case hy18 => (intro wz hSw; (try dsimp only at hSw); go_simp; try with_reducible rfl)
  (try simp only [Act.put, List.setIfInBounds_toArray, List.set_cons_zero, List.set_cons_succ])
  refine wpAnyH_done (by kernel_rfl) ?_ _
  go_wp2
  go_ret
  exact ⟨rfl, B5.out⟩
set_option maxRecDepth 100000 in
set_option maxHeartbeats 8000000 in
theorem kinds5 {w : World} {V : VT} {A : Option Addr} {c : Nat} {e : Value} {x : ByteArray} {b : Bool}
    (hbig : ∀ W, Below w.heap.size w W → Calls Tryd.prog 21 #[.agg #[.int .i64 V.k, .int .i64 V.n, .string V.nm, .slice A V.args.length c, .int .i64 V.node, e, .int .i64 V.at_], .int .i64 64] W fun e w' => e = .returned (.bool false) ∧ Below W.heap.size W w')
    (hr : ∀ W t, Below w.heap.size w W → TIn W (tyFor 5) t → Calls Tryd.prog 14 #[.agg #[.int .i64 V.k, .int .i64 V.n, .string V.nm, .slice A V.args.length c, .int .i64 V.node, e, .int .i64 V.at_], t, .slice none 0 0, .slice none 0 0] W fun e w' => e = .returned (.string x) ∧ Below W.heap.size W w')
    (hp : ∀ W, Below w.heap.size w W → Calls Tryd.prog 14 #[.agg #[.int .i64 V.k, .int .i64 V.n, .string V.nm, .slice A V.args.length c, .int .i64 V.node, e, .int .i64 V.at_], .agg #[.int .i64 7, .string ⟨#[]⟩, .int .i64 0, .slice none 0 0], .slice none 0 0, .slice none 0 0] W fun e w' => e = .returned (.string ⟨#[60, 112, 111, 108, 121, 62]⟩) ∧ Below W.heap.size W w')
    (hnm : (V.nm.toList == [63]) = false) (d1 : (x.toList == [63]) = b) (d2 : (V.k != 5) = b) :
    Calls Tryd.prog 8 #[.agg #[.int .i64 V.k, .int .i64 V.n, .string V.nm, .slice A V.args.length c, .int .i64 V.node, e, .int .i64 V.at_], .int .i64 5] w fun e w' => e = .returned (.bool true) ∧ Below w.heap.size w w' := by
  have HBIG := Lib.hid hbig
  have HR := Lib.hid hr
  have HP := Lib.hid hp
  clear hbig hr hp
  go_enter Tryd.func8, Tryd.ntmps8
  go_wp2_with fail
  refine (awake _).mono ?_; rintro e w1 ⟨rfl, hb1⟩
  have B1 := Lib.hid (below2 (belowA w _) hb1)
  have c0 := keepC hb1 (box_at (W := w) (t := 26) (vs := #[.int .i64 V.k, .int .i64 V.n, .string V.nm, .slice A V.args.length c, .int .i64 V.node, e, .int .i64 V.at_]) 0 rfl)
  have c1 := keepC hb1 (box_at (W := w) (t := 26) (vs := #[.int .i64 V.k, .int .i64 V.n, .string V.nm, .slice A V.args.length c, .int .i64 V.node, e, .int .i64 V.at_]) 1 rfl)
  have c2 := keepC hb1 (box_at (W := w) (t := 26) (vs := #[.int .i64 V.k, .int .i64 V.n, .string V.nm, .slice A V.args.length c, .int .i64 V.node, e, .int .i64 V.at_]) 2 rfl)
  have c3 := keepC hb1 (box_at (W := w) (t := 26) (vs := #[.int .i64 V.k, .int .i64 V.n, .string V.nm, .slice A V.args.length c, .int .i64 V.node, e, .int .i64 V.at_]) 3 rfl)
  have c4 := keepC hb1 (box_at (W := w) (t := 26) (vs := #[.int .i64 V.k, .int .i64 V.n, .string V.nm, .slice A V.args.length c, .int .i64 V.node, e, .int .i64 V.at_]) 4 rfl)
  have c5 := keepC hb1 (box_at (W := w) (t := 26) (vs := #[.int .i64 V.k, .int .i64 V.n, .string V.nm, .slice A V.args.length c, .int .i64 V.node, e, .int .i64 V.at_]) 5 rfl)
  have c6 := keepC hb1 (box_at (W := w) (t := 26) (vs := #[.int .i64 V.k, .int .i64 V.n, .string V.nm, .slice A V.args.length c, .int .i64 V.node, e, .int .i64 V.at_]) 6 rfl)
  clear hb1
  go_wp2_with fail
  refine (HBIG.out _ B1.out).mono ?_; rintro e w2 ⟨rfl, hb2⟩
  have B2 := Lib.hid (below2 B1.out hb2)
  have e0 := keepC hb2 c0
  have e1 := keepC hb2 c1
  have e2 := keepC hb2 c2
  have e3 := keepC hb2 c3
  have e4 := keepC hb2 c4
  have e5 := keepC hb2 c5
  have e6 := keepC hb2 c6
  clear c0 c1 c2 c3 c4 c5 c6 hb2 B1
  go_wp2_with fail
  have B3 := Lib.hid (below2 B2.out (belowA w2 (.cells #[.int .i64 5, .string ⟨#[]⟩, .int .i64 0, .slice (some ⟨w2.heap.size + 1, 0, none⟩) 2 2] 34)))
  have B3 := Lib.hid (below2 B3.out (belowA _ (.cells #[.int .i64 1, .string ⟨#[]⟩, .int .i64 0, .slice none 0 0, .int .i64 1, .string ⟨#[]⟩, .int .i64 0, .slice none 0 0] 34)))
  have B3 := Lib.hid (below2 B3.out (belowA _ (.cells #[.int .i64 0, .int .i64 1, .int .i64 2, .int .i64 3, .int .i64 4, .int .i64 5, .int .i64 6] 3)))
  have B0 := Lib.hid (show World.cell? (((w2.alloc (.cells #[.int .i64 5, .string ⟨#[]⟩, .int .i64 0, .slice (some ⟨w2.heap.size + 1, 0, none⟩) 2 2] 34)).alloc (.cells #[.int .i64 1, .string ⟨#[]⟩, .int .i64 0, .slice none 0 0, .int .i64 1, .string ⟨#[]⟩, .int .i64 0, .slice none 0 0] 34)).alloc (.cells #[.int .i64 0, .int .i64 1, .int .i64 2, .int .i64 3, .int .i64 4, .int .i64 5, .int .i64 6] 3)) ⟨w.heap.size, 0, none⟩ = some (.int .i64 V.k) ∧ World.cell? (((w2.alloc (.cells #[.int .i64 5, .string ⟨#[]⟩, .int .i64 0, .slice (some ⟨w2.heap.size + 1, 0, none⟩) 2 2] 34)).alloc (.cells #[.int .i64 1, .string ⟨#[]⟩, .int .i64 0, .slice none 0 0, .int .i64 1, .string ⟨#[]⟩, .int .i64 0, .slice none 0 0] 34)).alloc (.cells #[.int .i64 0, .int .i64 1, .int .i64 2, .int .i64 3, .int .i64 4, .int .i64 5, .int .i64 6] 3)) ⟨w.heap.size, 1, none⟩ = some (.int .i64 V.n) ∧ World.cell? (((w2.alloc (.cells #[.int .i64 5, .string ⟨#[]⟩, .int .i64 0, .slice (some ⟨w2.heap.size + 1, 0, none⟩) 2 2] 34)).alloc (.cells #[.int .i64 1, .string ⟨#[]⟩, .int .i64 0, .slice none 0 0, .int .i64 1, .string ⟨#[]⟩, .int .i64 0, .slice none 0 0] 34)).alloc (.cells #[.int .i64 0, .int .i64 1, .int .i64 2, .int .i64 3, .int .i64 4, .int .i64 5, .int .i64 6] 3)) ⟨w.heap.size, 2, none⟩ = some (.string V.nm) ∧ World.cell? (((w2.alloc (.cells #[.int .i64 5, .string ⟨#[]⟩, .int .i64 0, .slice (some ⟨w2.heap.size + 1, 0, none⟩) 2 2] 34)).alloc (.cells #[.int .i64 1, .string ⟨#[]⟩, .int .i64 0, .slice none 0 0, .int .i64 1, .string ⟨#[]⟩, .int .i64 0, .slice none 0 0] 34)).alloc (.cells #[.int .i64 0, .int .i64 1, .int .i64 2, .int .i64 3, .int .i64 4, .int .i64 5, .int .i64 6] 3)) ⟨w.heap.size, 3, none⟩ = some (.slice A V.args.length c) ∧ World.cell? (((w2.alloc (.cells #[.int .i64 5, .string ⟨#[]⟩, .int .i64 0, .slice (some ⟨w2.heap.size + 1, 0, none⟩) 2 2] 34)).alloc (.cells #[.int .i64 1, .string ⟨#[]⟩, .int .i64 0, .slice none 0 0, .int .i64 1, .string ⟨#[]⟩, .int .i64 0, .slice none 0 0] 34)).alloc (.cells #[.int .i64 0, .int .i64 1, .int .i64 2, .int .i64 3, .int .i64 4, .int .i64 5, .int .i64 6] 3)) ⟨w.heap.size, 4, none⟩ = some (.int .i64 V.node) ∧ World.cell? (((w2.alloc (.cells #[.int .i64 5, .string ⟨#[]⟩, .int .i64 0, .slice (some ⟨w2.heap.size + 1, 0, none⟩) 2 2] 34)).alloc (.cells #[.int .i64 1, .string ⟨#[]⟩, .int .i64 0, .slice none 0 0, .int .i64 1, .string ⟨#[]⟩, .int .i64 0, .slice none 0 0] 34)).alloc (.cells #[.int .i64 0, .int .i64 1, .int .i64 2, .int .i64 3, .int .i64 4, .int .i64 5, .int .i64 6] 3)) ⟨w.heap.size, 5, none⟩ = some (e) ∧ World.cell? (((w2.alloc (.cells #[.int .i64 5, .string ⟨#[]⟩, .int .i64 0, .slice (some ⟨w2.heap.size + 1, 0, none⟩) 2 2] 34)).alloc (.cells #[.int .i64 1, .string ⟨#[]⟩, .int .i64 0, .slice none 0 0, .int .i64 1, .string ⟨#[]⟩, .int .i64 0, .slice none 0 0] 34)).alloc (.cells #[.int .i64 0, .int .i64 1, .int .i64 2, .int .i64 3, .int .i64 4, .int .i64 5, .int .i64 6] 3)) ⟨w.heap.size, 6, none⟩ = some (.int .i64 V.at_) ∧ World.cell? (((w2.alloc (.cells #[.int .i64 5, .string ⟨#[]⟩, .int .i64 0, .slice (some ⟨w2.heap.size + 1, 0, none⟩) 2 2] 34)).alloc (.cells #[.int .i64 1, .string ⟨#[]⟩, .int .i64 0, .slice none 0 0, .int .i64 1, .string ⟨#[]⟩, .int .i64 0, .slice none 0 0] 34)).alloc (.cells #[.int .i64 0, .int .i64 1, .int .i64 2, .int .i64 3, .int .i64 4, .int .i64 5, .int .i64 6] 3)) ⟨w2.heap.size, 0, none⟩ = some (.int .i64 5) ∧ World.cell? (((w2.alloc (.cells #[.int .i64 5, .string ⟨#[]⟩, .int .i64 0, .slice (some ⟨w2.heap.size + 1, 0, none⟩) 2 2] 34)).alloc (.cells #[.int .i64 1, .string ⟨#[]⟩, .int .i64 0, .slice none 0 0, .int .i64 1, .string ⟨#[]⟩, .int .i64 0, .slice none 0 0] 34)).alloc (.cells #[.int .i64 0, .int .i64 1, .int .i64 2, .int .i64 3, .int .i64 4, .int .i64 5, .int .i64 6] 3)) ⟨w2.heap.size, 1, none⟩ = some (.string ⟨#[]⟩) ∧ World.cell? (((w2.alloc (.cells #[.int .i64 5, .string ⟨#[]⟩, .int .i64 0, .slice (some ⟨w2.heap.size + 1, 0, none⟩) 2 2] 34)).alloc (.cells #[.int .i64 1, .string ⟨#[]⟩, .int .i64 0, .slice none 0 0, .int .i64 1, .string ⟨#[]⟩, .int .i64 0, .slice none 0 0] 34)).alloc (.cells #[.int .i64 0, .int .i64 1, .int .i64 2, .int .i64 3, .int .i64 4, .int .i64 5, .int .i64 6] 3)) ⟨w2.heap.size, 2, none⟩ = some (.int .i64 0) ∧ World.cell? (((w2.alloc (.cells #[.int .i64 5, .string ⟨#[]⟩, .int .i64 0, .slice (some ⟨w2.heap.size + 1, 0, none⟩) 2 2] 34)).alloc (.cells #[.int .i64 1, .string ⟨#[]⟩, .int .i64 0, .slice none 0 0, .int .i64 1, .string ⟨#[]⟩, .int .i64 0, .slice none 0 0] 34)).alloc (.cells #[.int .i64 0, .int .i64 1, .int .i64 2, .int .i64 3, .int .i64 4, .int .i64 5, .int .i64 6] 3)) ⟨w2.heap.size, 3, none⟩ = some (.slice (some ⟨w2.heap.size + 1, 0, none⟩) 2 2) ∧ World.cell? (((w2.alloc (.cells #[.int .i64 5, .string ⟨#[]⟩, .int .i64 0, .slice (some ⟨w2.heap.size + 1, 0, none⟩) 2 2] 34)).alloc (.cells #[.int .i64 1, .string ⟨#[]⟩, .int .i64 0, .slice none 0 0, .int .i64 1, .string ⟨#[]⟩, .int .i64 0, .slice none 0 0] 34)).alloc (.cells #[.int .i64 0, .int .i64 1, .int .i64 2, .int .i64 3, .int .i64 4, .int .i64 5, .int .i64 6] 3)) ⟨w2.heap.size + 1 + 1, 5, none⟩ = some (.int .i64 5) ∧ World.cell? (((w2.alloc (.cells #[.int .i64 5, .string ⟨#[]⟩, .int .i64 0, .slice (some ⟨w2.heap.size + 1, 0, none⟩) 2 2] 34)).alloc (.cells #[.int .i64 1, .string ⟨#[]⟩, .int .i64 0, .slice none 0 0, .int .i64 1, .string ⟨#[]⟩, .int .i64 0, .slice none 0 0] 34)).alloc (.cells #[.int .i64 0, .int .i64 1, .int .i64 2, .int .i64 3, .int .i64 4, .int .i64 5, .int .i64 6] 3)) ⟨w2.heap.size + 1, 0, none⟩ = some (.int .i64 1) ∧ World.cell? (((w2.alloc (.cells #[.int .i64 5, .string ⟨#[]⟩, .int .i64 0, .slice (some ⟨w2.heap.size + 1, 0, none⟩) 2 2] 34)).alloc (.cells #[.int .i64 1, .string ⟨#[]⟩, .int .i64 0, .slice none 0 0, .int .i64 1, .string ⟨#[]⟩, .int .i64 0, .slice none 0 0] 34)).alloc (.cells #[.int .i64 0, .int .i64 1, .int .i64 2, .int .i64 3, .int .i64 4, .int .i64 5, .int .i64 6] 3)) ⟨w2.heap.size + 1, 1, none⟩ = some (.string ⟨#[]⟩) ∧ World.cell? (((w2.alloc (.cells #[.int .i64 5, .string ⟨#[]⟩, .int .i64 0, .slice (some ⟨w2.heap.size + 1, 0, none⟩) 2 2] 34)).alloc (.cells #[.int .i64 1, .string ⟨#[]⟩, .int .i64 0, .slice none 0 0, .int .i64 1, .string ⟨#[]⟩, .int .i64 0, .slice none 0 0] 34)).alloc (.cells #[.int .i64 0, .int .i64 1, .int .i64 2, .int .i64 3, .int .i64 4, .int .i64 5, .int .i64 6] 3)) ⟨w2.heap.size + 1, 2, none⟩ = some (.int .i64 0) ∧ World.cell? (((w2.alloc (.cells #[.int .i64 5, .string ⟨#[]⟩, .int .i64 0, .slice (some ⟨w2.heap.size + 1, 0, none⟩) 2 2] 34)).alloc (.cells #[.int .i64 1, .string ⟨#[]⟩, .int .i64 0, .slice none 0 0, .int .i64 1, .string ⟨#[]⟩, .int .i64 0, .slice none 0 0] 34)).alloc (.cells #[.int .i64 0, .int .i64 1, .int .i64 2, .int .i64 3, .int .i64 4, .int .i64 5, .int .i64 6] 3)) ⟨w2.heap.size + 1, 3, none⟩ = some (.slice none 0 0) ∧ World.cell? (((w2.alloc (.cells #[.int .i64 5, .string ⟨#[]⟩, .int .i64 0, .slice (some ⟨w2.heap.size + 1, 0, none⟩) 2 2] 34)).alloc (.cells #[.int .i64 1, .string ⟨#[]⟩, .int .i64 0, .slice none 0 0, .int .i64 1, .string ⟨#[]⟩, .int .i64 0, .slice none 0 0] 34)).alloc (.cells #[.int .i64 0, .int .i64 1, .int .i64 2, .int .i64 3, .int .i64 4, .int .i64 5, .int .i64 6] 3)) ⟨w2.heap.size + 1, 4, none⟩ = some (.int .i64 1) ∧ World.cell? (((w2.alloc (.cells #[.int .i64 5, .string ⟨#[]⟩, .int .i64 0, .slice (some ⟨w2.heap.size + 1, 0, none⟩) 2 2] 34)).alloc (.cells #[.int .i64 1, .string ⟨#[]⟩, .int .i64 0, .slice none 0 0, .int .i64 1, .string ⟨#[]⟩, .int .i64 0, .slice none 0 0] 34)).alloc (.cells #[.int .i64 0, .int .i64 1, .int .i64 2, .int .i64 3, .int .i64 4, .int .i64 5, .int .i64 6] 3)) ⟨w2.heap.size + 1, 5, none⟩ = some (.string ⟨#[]⟩) ∧ World.cell? (((w2.alloc (.cells #[.int .i64 5, .string ⟨#[]⟩, .int .i64 0, .slice (some ⟨w2.heap.size + 1, 0, none⟩) 2 2] 34)).alloc (.cells #[.int .i64 1, .string ⟨#[]⟩, .int .i64 0, .slice none 0 0, .int .i64 1, .string ⟨#[]⟩, .int .i64 0, .slice none 0 0] 34)).alloc (.cells #[.int .i64 0, .int .i64 1, .int .i64 2, .int .i64 3, .int .i64 4, .int .i64 5, .int .i64 6] 3)) ⟨w2.heap.size + 1, 6, none⟩ = some (.int .i64 0) ∧ World.cell? (((w2.alloc (.cells #[.int .i64 5, .string ⟨#[]⟩, .int .i64 0, .slice (some ⟨w2.heap.size + 1, 0, none⟩) 2 2] 34)).alloc (.cells #[.int .i64 1, .string ⟨#[]⟩, .int .i64 0, .slice none 0 0, .int .i64 1, .string ⟨#[]⟩, .int .i64 0, .slice none 0 0] 34)).alloc (.cells #[.int .i64 0, .int .i64 1, .int .i64 2, .int .i64 3, .int .i64 4, .int .i64 5, .int .i64 6] 3)) ⟨w2.heap.size + 1, 7, none⟩ = some (.slice none 0 0) from ⟨(keepA _ (keepA _ (keepA _ e0))), (keepA _ (keepA _ (keepA _ e1))), (keepA _ (keepA _ (keepA _ e2))), (keepA _ (keepA _ (keepA _ e3))), (keepA _ (keepA _ (keepA _ e4))), (keepA _ (keepA _ (keepA _ e5))), (keepA _ (keepA _ (keepA _ e6))), (keepA _ (keepA _ (box_at (W := w2) (t := 34) (vs := #[.int .i64 5, .string ⟨#[]⟩, .int .i64 0, .slice (some ⟨w2.heap.size + 1, 0, none⟩) 2 2]) 0 rfl))), (keepA _ (keepA _ (box_at (W := w2) (t := 34) (vs := #[.int .i64 5, .string ⟨#[]⟩, .int .i64 0, .slice (some ⟨w2.heap.size + 1, 0, none⟩) 2 2]) 1 rfl))), (keepA _ (keepA _ (box_at (W := w2) (t := 34) (vs := #[.int .i64 5, .string ⟨#[]⟩, .int .i64 0, .slice (some ⟨w2.heap.size + 1, 0, none⟩) 2 2]) 2 rfl))), (keepA _ (keepA _ (box_at (W := w2) (t := 34) (vs := #[.int .i64 5, .string ⟨#[]⟩, .int .i64 0, .slice (some ⟨w2.heap.size + 1, 0, none⟩) 2 2]) 3 rfl))), (box_at2 (t := 3) (vs := #[.int .i64 0, .int .i64 1, .int .i64 2, .int .i64 3, .int .i64 4, .int .i64 5, .int .i64 6]) 5 (by simp only [alloc_size]) rfl), (keepA _ (box_at2 (t := 34) (vs := #[.int .i64 1, .string ⟨#[]⟩, .int .i64 0, .slice none 0 0, .int .i64 1, .string ⟨#[]⟩, .int .i64 0, .slice none 0 0]) 0 (by simp only [alloc_size]) rfl)), (keepA _ (box_at2 (t := 34) (vs := #[.int .i64 1, .string ⟨#[]⟩, .int .i64 0, .slice none 0 0, .int .i64 1, .string ⟨#[]⟩, .int .i64 0, .slice none 0 0]) 1 (by simp only [alloc_size]) rfl)), (keepA _ (box_at2 (t := 34) (vs := #[.int .i64 1, .string ⟨#[]⟩, .int .i64 0, .slice none 0 0, .int .i64 1, .string ⟨#[]⟩, .int .i64 0, .slice none 0 0]) 2 (by simp only [alloc_size]) rfl)), (keepA _ (box_at2 (t := 34) (vs := #[.int .i64 1, .string ⟨#[]⟩, .int .i64 0, .slice none 0 0, .int .i64 1, .string ⟨#[]⟩, .int .i64 0, .slice none 0 0]) 3 (by simp only [alloc_size]) rfl)), (keepA _ (box_at2 (t := 34) (vs := #[.int .i64 1, .string ⟨#[]⟩, .int .i64 0, .slice none 0 0, .int .i64 1, .string ⟨#[]⟩, .int .i64 0, .slice none 0 0]) 4 (by simp only [alloc_size]) rfl)), (keepA _ (box_at2 (t := 34) (vs := #[.int .i64 1, .string ⟨#[]⟩, .int .i64 0, .slice none 0 0, .int .i64 1, .string ⟨#[]⟩, .int .i64 0, .slice none 0 0]) 5 (by simp only [alloc_size]) rfl)), (keepA _ (box_at2 (t := 34) (vs := #[.int .i64 1, .string ⟨#[]⟩, .int .i64 0, .slice none 0 0, .int .i64 1, .string ⟨#[]⟩, .int .i64 0, .slice none 0 0]) 6 (by simp only [alloc_size]) rfl)), (keepA _ (box_at2 (t := 34) (vs := #[.int .i64 1, .string ⟨#[]⟩, .int .i64 0, .slice none 0 0, .int .i64 1, .string ⟨#[]⟩, .int .i64 0, .slice none 0 0]) 7 (by simp only [alloc_size]) rfl))⟩)
  refine wp_region_held_drew (S := fun w' => w'.cell? ⟨w.heap.size, 0, none⟩ = some (.int .i64 V.k) ∧ w'.cell? ⟨w.heap.size, 1, none⟩ = some (.int .i64 V.n) ∧ w'.cell? ⟨w.heap.size, 2, none⟩ = some (.string V.nm) ∧ w'.cell? ⟨w.heap.size, 3, none⟩ = some (.slice A V.args.length c) ∧ w'.cell? ⟨w.heap.size, 4, none⟩ = some (.int .i64 V.node) ∧ w'.cell? ⟨w.heap.size, 5, none⟩ = some (e) ∧ w'.cell? ⟨w.heap.size, 6, none⟩ = some (.int .i64 V.at_) ∧ w'.cell? ⟨w2.heap.size, 0, none⟩ = some (.int .i64 5) ∧ w'.cell? ⟨w2.heap.size, 1, none⟩ = some (.string ⟨#[]⟩) ∧ w'.cell? ⟨w2.heap.size, 2, none⟩ = some (.int .i64 0) ∧ w'.cell? ⟨w2.heap.size, 3, none⟩ = some (.slice (some ⟨w2.heap.size + 1, 0, none⟩) 2 2) ∧ w'.cell? ⟨w2.heap.size + 1 + 1, 5, none⟩ = some (.int .i64 5) ∧ w'.cell? ⟨w2.heap.size + 1, 0, none⟩ = some (.int .i64 1) ∧ w'.cell? ⟨w2.heap.size + 1, 1, none⟩ = some (.string ⟨#[]⟩) ∧ w'.cell? ⟨w2.heap.size + 1, 2, none⟩ = some (.int .i64 0) ∧ w'.cell? ⟨w2.heap.size + 1, 3, none⟩ = some (.slice none 0 0) ∧ w'.cell? ⟨w2.heap.size + 1, 4, none⟩ = some (.int .i64 1) ∧ w'.cell? ⟨w2.heap.size + 1, 5, none⟩ = some (.string ⟨#[]⟩) ∧ w'.cell? ⟨w2.heap.size + 1, 6, none⟩ = some (.int .i64 0) ∧ w'.cell? ⟨w2.heap.size + 1, 7, none⟩ = some (.slice none 0 0)) (by kernel_rfl) ?_ (fun hHeld => ?_)
  · exact B0.out
  refine wpAnyH_take (i := 0) (oi := { dst := some 41, op := Go.Op.load 26 (Go.Operand.tmp 2), type := 26, pos := _, after := #[], guard := none }) (v := ?v0) rfl (by kernel_rfl) (by kernel_rfl) (by kernel_rfl) (fun _ _ _ h => h) (Or.inl ⟨by rfl, ?hy0⟩) (by assumption) ?_
  case hy0 => (intro wz hSw; (try dsimp only at hSw); go_simp; try with_reducible rfl)
  (try simp only [Act.put, List.setIfInBounds_toArray, List.set_cons_zero, List.set_cons_succ])
  refine wpAnyH_take (i := 1) (oi := { dst := some 42, op := Go.Op.load 34 (Go.Operand.tmp 5), type := 34, pos := _, after := #[], guard := none }) (v := ?v1) rfl (by kernel_rfl) (by kernel_rfl) (by kernel_rfl) (fun _ _ _ h => h) (Or.inl ⟨by rfl, ?hy1⟩) (by assumption) ?_
  case hy1 => (intro wz hSw; (try dsimp only at hSw); go_simp; try with_reducible rfl)
  (try simp only [Act.put, List.setIfInBounds_toArray, List.set_cons_zero, List.set_cons_succ])
  refine wpAnyH_take (i := 4) (oi := { dst := some 45, op := Go.Op.fieldAddr 26 (Go.Operand.tmp 2) 0, type := 0, pos := _, after := #[], guard := none }) (v := ?v4) rfl (by kernel_rfl) (by kernel_rfl) (by kernel_rfl) (fun _ _ _ h => h) (Or.inl ⟨by rfl, ?hy4⟩) (by assumption) ?_
  case hy4 => (intro wz hSw; (try dsimp only at hSw); go_simp; try with_reducible rfl)
  (try simp only [Act.put, List.setIfInBounds_toArray, List.set_cons_zero, List.set_cons_succ])
  refine wpAnyH_take (i := 5) (oi := { dst := some 46, op := Go.Op.load 3 (Go.Operand.tmp 45), type := 3, pos := _, after := #[{ on := 4, ground := Go.Ground.data }], guard := none }) (v := ?v5) rfl (by kernel_rfl) (by kernel_rfl) (by kernel_rfl) (fun _ _ _ h => h) (Or.inl ⟨by rfl, ?hy5⟩) (by assumption) ?_
  case hy5 => (intro wz hSw; (try dsimp only at hSw); go_simp; try with_reducible rfl)
  (try simp only [Act.put, List.setIfInBounds_toArray, List.set_cons_zero, List.set_cons_succ])
  refine wpAnyH_take (i := 6) (oi := { dst := some 47, op := Go.Op.move (Go.Operand.tmp 6), type := 67, pos := _, after := #[], guard := none }) (v := ?v6) rfl (by kernel_rfl) (by kernel_rfl) (by kernel_rfl) (fun _ _ _ h => h) (Or.inl ⟨by rfl, ?hy6⟩) (by assumption) ?_
  case hy6 => (intro wz hSw; (try dsimp only at hSw); go_simp; try with_reducible rfl)
  (try simp only [Act.put, List.setIfInBounds_toArray, List.set_cons_zero, List.set_cons_succ])
  refine wpAnyH_take (i := 7) (oi := { dst := some 48, op := Go.Op.move (Go.Operand.tmp 1), type := 3, pos := _, after := #[], guard := none }) (v := ?v7) rfl (by kernel_rfl) (by kernel_rfl) (by kernel_rfl) (fun _ _ _ h => h) (Or.inl ⟨by rfl, ?hy7⟩) (by assumption) ?_
  case hy7 => (intro wz hSw; (try dsimp only at hSw); go_simp; try with_reducible rfl)
  (try simp only [Act.put, List.setIfInBounds_toArray, List.set_cons_zero, List.set_cons_succ])
  refine wpAnyH_take (i := 8) (oi := { dst := some 49, op := Go.Op.indexAddr 67 (Go.Operand.tmp 47) (Go.Operand.tmp 48), type := 0, pos := _, after := #[{ on := 6, ground := Go.Ground.data }, { on := 7, ground := Go.Ground.data }], guard := none }) (v := ?v8) rfl (by kernel_rfl) (by kernel_rfl) (by kernel_rfl) (fun _ _ _ h => h) (Or.inl ⟨by rfl, ?hy8⟩) (by assumption) ?_
  case hy8 => (intro wz hSw; (try dsimp only at hSw); go_simp; try with_reducible rfl)
  (try simp only [Act.put, List.setIfInBounds_toArray, List.set_cons_zero, List.set_cons_succ])
  refine wpAnyH_take (i := 9) (oi := { dst := some 50, op := Go.Op.load 3 (Go.Operand.tmp 49), type := 3, pos := _, after := #[{ on := 8, ground := Go.Ground.data }], guard := none }) (v := ?v9) rfl (by kernel_rfl) (by kernel_rfl) (by kernel_rfl) (fun _ _ _ h => h) (Or.inl ⟨by rfl, ?hy9⟩) (by assumption) ?_
  case hy9 => (intro wz hSw; (try dsimp only at hSw); go_simp; try with_reducible rfl)
  (try simp only [Act.put, List.setIfInBounds_toArray, List.set_cons_zero, List.set_cons_succ])
  refine wpAnyH_take (i := 10) (oi := { dst := some 51, op := Go.Op.binOp Go.BinOp.neq 3 (Go.Operand.tmp 46) (Go.Operand.tmp 50) 3, type := 4, pos := _, after := #[{ on := 5, ground := Go.Ground.data }, { on := 9, ground := Go.Ground.data }], guard := none }) (v := ?v10) rfl (by kernel_rfl) (by kernel_rfl) (by kernel_rfl) (fun _ _ _ h => h) (Or.inl ⟨by rfl, ?hy10⟩) (by assumption) ?_
  case hy10 => (intro wz hSw; (try dsimp only at hSw); go_simp; try with_reducible rfl)
  (try simp only [Act.put, List.setIfInBounds_toArray, List.set_cons_zero, List.set_cons_succ])
  refine wpAnyH_ready (rs := [2]) (by kernel_rfl) (by simp) ?_
  refine AllReadyH.cons (o := { dst := some 43, op := Go.Op.call { callee := Go.Callee.value (Go.Operand.func 14), args := #[Go.Operand.tmp 41, Go.Operand.tmp 42, Go.Operand.const (Go.Value.slice none 0 0), Go.Operand.const (Go.Value.slice none 0 0)], argTypes := #[26, 34, 23, 38] }, type := 9, pos := _, after := #[{ on := 0, ground := Go.Ground.data }, { on := 1, ground := Go.Ground.data }], guard := none }) rfl (fun K hK => ?_) AllReadyH.nil
  go_simp
  have hH := hHeld
  (try dsimp only at hH)
  obtain ⟨g0, g1, g2, g3, g4, g5, g6, g7, g8, g9, g10, g11, g12, g13, g14, g15, g16, g17, g18, g19⟩ := hH
  refine (HR.out _ _ (bD9 B3.out) ⟨_, _, rfl, .inr ⟨_, _, rfl, World.block_lt_of_cell? _ _ g12, okTL_1 (World.block_lt_of_cell? _ _ g12) g12 g13 g14 g15 (okTL_1 (World.block_lt_of_cell? _ _ g12) g16 g17 g18 g19 (by rw [okTL]; trivial))⟩⟩).mono ?_; rintro e w4 ⟨rfl, hb4⟩
  have hb4x0 := keepC hb4 g0
  have hb4x1 := keepC hb4 g1
  have hb4x2 := keepC hb4 g2
  have hb4x3 := keepC hb4 g3
  have hb4x4 := keepC hb4 g4
  have hb4x5 := keepC hb4 g5
  have hb4x6 := keepC hb4 g6
  have hb4x7 := keepC hb4 g7
  have hb4x8 := keepC hb4 g8
  have hb4x9 := keepC hb4 g9
  have hb4x10 := keepC hb4 g10
  have hb4x11 := keepC hb4 g11
  have hb4x12 := keepC hb4 g12
  have hb4x13 := keepC hb4 g13
  have hb4x14 := keepC hb4 g14
  have hb4x15 := keepC hb4 g15
  have hb4x16 := keepC hb4 g16
  have hb4x17 := keepC hb4 g17
  have hb4x18 := keepC hb4 g18
  have hb4x19 := keepC hb4 g19
  have B4 := Lib.hid (below2 (bD9 B3.out) hb4)
  clear hb4 hHeld g0 g1 g2 g3 g4 g5 g6 g7 g8 g9 g10 g11 g12 g13 g14 g15 g16 g17 g18 g19
  go_wp2_with fail
  refine hK.out _ _ ?_ (fun hHeld => ?_)
  · (try dsimp only); exact ⟨hb4x0, hb4x1, hb4x2, hb4x3, hb4x4, hb4x5, hb4x6, hb4x7, hb4x8, hb4x9, hb4x10, hb4x11, hb4x12, hb4x13, hb4x14, hb4x15, hb4x16, hb4x17, hb4x18, hb4x19⟩
  clear hK K hb4x0 hb4x1 hb4x2 hb4x3 hb4x4 hb4x5 hb4x6 hb4x7 hb4x8 hb4x9 hb4x10 hb4x11 hb4x12 hb4x13 hb4x14 hb4x15 hb4x16 hb4x17 hb4x18 hb4x19
  (try simp only [Act.put, List.setIfInBounds_toArray, List.set_cons_zero, List.set_cons_succ])
  refine wpAnyH_take (i := 3) (oi := { dst := some 44, op := Go.Op.binOp Go.BinOp.eql 9 (Go.Operand.tmp 43) (Go.Operand.const (Go.Value.string { data := #[63] })) 9, type := 4, pos := _, after := #[{ on := 2, ground := Go.Ground.data }], guard := none }) (v := ?v3) rfl (by kernel_rfl) (by kernel_rfl) (by kernel_rfl) (fun _ _ _ h => h) (Or.inl ⟨by rfl, ?hy3⟩) (by assumption) ?_
  case hy3 => (intro wz hSw; (try dsimp only at hSw); go_simp; try with_reducible rfl)
  (try simp only [Act.put, List.setIfInBounds_toArray, List.set_cons_zero, List.set_cons_succ])
  refine wpAnyH_take (i := 11) (oi := { dst := some 52, op := Go.Op.binOp Go.BinOp.eql 4 (Go.Operand.tmp 44) (Go.Operand.tmp 51) 4, type := 4, pos := _, after := #[{ on := 3, ground := Go.Ground.data }, { on := 10, ground := Go.Ground.data }], guard := none }) (v := ?v11) rfl (by kernel_rfl) (by kernel_rfl) (by kernel_rfl) (fun _ _ _ h => h) (Or.inl ⟨by rfl, ?hy11⟩) (by assumption) ?_
  case hy11 => (intro wz hSw; (try dsimp only at hSw); go_simp; try with_reducible rfl)
  (try simp only [Act.put, List.setIfInBounds_toArray, List.set_cons_zero, List.set_cons_succ])
  refine wpAnyH_take (i := 12) (oi := { dst := some 53, op := Go.Op.move (Go.Operand.tmp 52), type := 4, pos := _, after := #[{ on := 11, ground := Go.Ground.data }, { on := 2, ground := Go.Ground.chain }], guard := none }) (v := ?v12) rfl (by kernel_rfl) (by kernel_rfl) (by kernel_rfl) (fun _ _ _ h => h) (Or.inl ⟨by rfl, ?hy12⟩) (by assumption) ?_
  case hy12 => (intro wz hSw; (try dsimp only at hSw); go_simp; try with_reducible rfl)
  (try simp only [Act.put, List.setIfInBounds_toArray, List.set_cons_zero, List.set_cons_succ])
  refine wpAnyH_take (i := 13) (oi := { dst := some 54, op := Go.Op.load 26 (Go.Operand.tmp 2), type := 26, pos := _, after := #[{ on := 12, ground := Go.Ground.guard }], guard := some (12, true) }) (v := ?v13) rfl (by kernel_rfl) (by kernel_rfl) (by kernel_rfl) (fun _ _ _ h => h) (Or.inl ⟨by rfl, ?hy13⟩) (by assumption) ?_
  case hy13 => (intro wz hSw; (try dsimp only at hSw); go_simp; try with_reducible rfl)
  (try simp only [Act.put, List.setIfInBounds_toArray, List.set_cons_zero, List.set_cons_succ])
  refine wpAnyH_take (i := 14) (oi := { dst := some 55, op := Go.Op.build 34 #[(0, Go.Operand.const (Go.Value.int Go.IntKind.i64 7))], type := 34, pos := _, after := #[{ on := 12, ground := Go.Ground.guard }], guard := some (12, true) }) (v := ?v14) rfl (by kernel_rfl) (by kernel_rfl) (by kernel_rfl) (fun _ _ _ h => h) (Or.inl ⟨by rfl, ?hy14⟩) (by assumption) ?_
  case hy14 => (intro wz hSw; (try dsimp only at hSw); go_simp; try with_reducible rfl)
  (try simp only [Act.put, List.setIfInBounds_toArray, List.set_cons_zero, List.set_cons_succ])
  refine wpAnyH_ready (rs := [15]) (by kernel_rfl) (by simp) ?_
  refine AllReadyH.cons (o := { dst := some 56, op := Go.Op.call { callee := Go.Callee.value (Go.Operand.func 14), args := #[Go.Operand.tmp 54, Go.Operand.tmp 55, Go.Operand.const (Go.Value.slice none 0 0), Go.Operand.const (Go.Value.slice none 0 0)], argTypes := #[26, 34, 23, 38] }, type := 9, pos := _, after := #[{ on := 13, ground := Go.Ground.data }, { on := 14, ground := Go.Ground.data }, { on := 12, ground := Go.Ground.chain }, { on := 12, ground := Go.Ground.guard }], guard := some (12, true) }) rfl (fun K hK => ?_) AllReadyH.nil
  go_simp
  have hH := hHeld
  (try dsimp only at hH)
  obtain ⟨g0, g1, g2, g3, g4, g5, g6, g7, g8, g9, g10, g11, g12, g13, g14, g15, g16, g17, g18, g19⟩ := hH
  refine (HP.out _ B4.out).mono ?_; rintro e w5 ⟨rfl, hb5⟩
  have hb5x0 := keepC hb5 g0
  have hb5x1 := keepC hb5 g1
  have hb5x2 := keepC hb5 g2
  have hb5x3 := keepC hb5 g3
  have hb5x4 := keepC hb5 g4
  have hb5x5 := keepC hb5 g5
  have hb5x6 := keepC hb5 g6
  have hb5x7 := keepC hb5 g7
  have hb5x8 := keepC hb5 g8
  have hb5x9 := keepC hb5 g9
  have hb5x10 := keepC hb5 g10
  have hb5x11 := keepC hb5 g11
  have hb5x12 := keepC hb5 g12
  have hb5x13 := keepC hb5 g13
  have hb5x14 := keepC hb5 g14
  have hb5x15 := keepC hb5 g15
  have hb5x16 := keepC hb5 g16
  have hb5x17 := keepC hb5 g17
  have hb5x18 := keepC hb5 g18
  have hb5x19 := keepC hb5 g19
  have B5 := Lib.hid (below2 B4.out hb5)
  clear hb5 hHeld g0 g1 g2 g3 g4 g5 g6 g7 g8 g9 g10 g11 g12 g13 g14 g15 g16 g17 g18 g19
  go_wp2_with fail
  refine hK.out _ _ ?_ (fun hHeld => ?_)
  · (try dsimp only); exact ⟨hb5x0, hb5x1, hb5x2, hb5x3, hb5x4, hb5x5, hb5x6, hb5x7, hb5x8, hb5x9, hb5x10, hb5x11, hb5x12, hb5x13, hb5x14, hb5x15, hb5x16, hb5x17, hb5x18, hb5x19⟩
  clear hK K hb5x0 hb5x1 hb5x2 hb5x3 hb5x4 hb5x5 hb5x6 hb5x7 hb5x8 hb5x9 hb5x10 hb5x11 hb5x12 hb5x13 hb5x14 hb5x15 hb5x16 hb5x17 hb5x18 hb5x19
  (try simp only [Act.put, List.setIfInBounds_toArray, List.set_cons_zero, List.set_cons_succ])
  refine wpAnyH_take (i := 16) (oi := { dst := some 57, op := Go.Op.binOp Go.BinOp.eql 9 (Go.Operand.tmp 56) (Go.Operand.const (Go.Value.string { data := #[60, 112, 111, 108, 121, 62] })) 9, type := 4, pos := _, after := #[{ on := 15, ground := Go.Ground.data }, { on := 12, ground := Go.Ground.guard }], guard := some (12, true) }) (v := ?v16) rfl (by kernel_rfl) (by kernel_rfl) (by kernel_rfl) (fun _ _ _ h => h) (Or.inl ⟨by rfl, ?hy16⟩) (by assumption) ?_
  case hy16 => (intro wz hSw; (try dsimp only at hSw); go_simp; try with_reducible rfl)
  (try simp only [Act.put, List.setIfInBounds_toArray, List.set_cons_zero, List.set_cons_succ])
  refine wpAnyH_take (i := 17) (oi := { dst := some 58, op := Go.Op.pick (Go.Operand.tmp 53) (Go.Operand.tmp 57) (Go.Operand.const (Go.Value.bool false)), type := 4, pos := _, after := #[{ on := 12, ground := Go.Ground.data }, { on := 16, ground := Go.Ground.data }], guard := none }) (v := ?v17) rfl (by kernel_rfl) (by kernel_rfl) (by kernel_rfl) (fun _ _ _ h => h) (Or.inl ⟨by rfl, ?hy17⟩) (by assumption) ?_
  case hy17 => (intro wz hSw; (try dsimp only at hSw); go_simp; try with_reducible rfl)
  (try simp only [Act.put, List.setIfInBounds_toArray, List.set_cons_zero, List.set_cons_succ])
  refine wpAnyH_take (i := 18) (oi := { dst := some 4, op := Go.Op.assign (Go.Operand.tmp 58), type := 4, pos := _, after := #[{ on := 17, ground := Go.Ground.data }, { on := 15, ground := Go.Ground.chain }, { on := 0, ground := Go.Ground.phase }, { on := 1, ground := Go.Ground.phase }, { on := 2, ground := Go.Ground.phase }, { on := 3, ground := Go.Ground.phase }, { on := 4, ground := Go.Ground.phase }, { on := 5, ground := Go.Ground.phase }, { on := 6, ground := Go.Ground.phase }, { on := 7, ground := Go.Ground.phase }, { on := 8, ground := Go.Ground.phase }, { on := 9, ground := Go.Ground.phase }, { on := 10, ground := Go.Ground.phase }, { on := 11, ground := Go.Ground.phase }, { on := 12, ground := Go.Ground.phase }, { on := 13, ground := Go.Ground.phase }, { on := 14, ground := Go.Ground.phase }, { on := 15, ground := Go.Ground.phase }, { on := 16, ground := Go.Ground.phase }, { on := 17, ground := Go.Ground.phase }], guard := none }) (v := ?v18) rfl (by kernel_rfl) (by kernel_rfl) (by kernel_rfl) (fun _ _ _ h => h) (Or.inl ⟨by rfl, ?hy18⟩) (by assumption) ?_
  case hy18 => (intro wz hSw; (try dsimp only at hSw); go_simp; try with_reducible rfl)
  (try simp only [Act.put, List.setIfInBounds_toArray, List.set_cons_zero, List.set_cons_succ])
  refine wpAnyH_done (by kernel_rfl) ?_ _
  go_wp2
  go_ret
  exact ⟨rfl, B5.out⟩
set_option maxRecDepth 100000 in
set_option maxHeartbeats 8000000 in
theorem kinds6 {w : World} {V : VT} {A : Option Addr} {c : Nat} {e : Value} {x : ByteArray} {b : Bool}
    (hbig : ∀ W, Below w.heap.size w W → Calls Tryd.prog 21 #[.agg #[.int .i64 V.k, .int .i64 V.n, .string V.nm, .slice A V.args.length c, .int .i64 V.node, e, .int .i64 V.at_], .int .i64 64] W fun e w' => e = .returned (.bool false) ∧ Below W.heap.size W w')
    (hr : ∀ W t, Below w.heap.size w W → TIn W (tyFor 6) t → Calls Tryd.prog 14 #[.agg #[.int .i64 V.k, .int .i64 V.n, .string V.nm, .slice A V.args.length c, .int .i64 V.node, e, .int .i64 V.at_], t, .slice none 0 0, .slice none 0 0] W fun e w' => e = .returned (.string x) ∧ Below W.heap.size W w')
    (hp : ∀ W, Below w.heap.size w W → Calls Tryd.prog 14 #[.agg #[.int .i64 V.k, .int .i64 V.n, .string V.nm, .slice A V.args.length c, .int .i64 V.node, e, .int .i64 V.at_], .agg #[.int .i64 7, .string ⟨#[]⟩, .int .i64 0, .slice none 0 0], .slice none 0 0, .slice none 0 0] W fun e w' => e = .returned (.string ⟨#[60, 112, 111, 108, 121, 62]⟩) ∧ Below W.heap.size W w')
    (hnm : (V.nm.toList == [63]) = false) (d1 : (x.toList == [63]) = b) (d2 : (V.k != 6) = b) :
    Calls Tryd.prog 8 #[.agg #[.int .i64 V.k, .int .i64 V.n, .string V.nm, .slice A V.args.length c, .int .i64 V.node, e, .int .i64 V.at_], .int .i64 6] w fun e w' => e = .returned (.bool true) ∧ Below w.heap.size w w' := by
  have HBIG := Lib.hid hbig
  have HR := Lib.hid hr
  have HP := Lib.hid hp
  clear hbig hr hp
  go_enter Tryd.func8, Tryd.ntmps8
  go_wp2_with fail
  refine (awake _).mono ?_; rintro e w1 ⟨rfl, hb1⟩
  have B1 := Lib.hid (below2 (belowA w _) hb1)
  have c0 := keepC hb1 (box_at (W := w) (t := 26) (vs := #[.int .i64 V.k, .int .i64 V.n, .string V.nm, .slice A V.args.length c, .int .i64 V.node, e, .int .i64 V.at_]) 0 rfl)
  have c1 := keepC hb1 (box_at (W := w) (t := 26) (vs := #[.int .i64 V.k, .int .i64 V.n, .string V.nm, .slice A V.args.length c, .int .i64 V.node, e, .int .i64 V.at_]) 1 rfl)
  have c2 := keepC hb1 (box_at (W := w) (t := 26) (vs := #[.int .i64 V.k, .int .i64 V.n, .string V.nm, .slice A V.args.length c, .int .i64 V.node, e, .int .i64 V.at_]) 2 rfl)
  have c3 := keepC hb1 (box_at (W := w) (t := 26) (vs := #[.int .i64 V.k, .int .i64 V.n, .string V.nm, .slice A V.args.length c, .int .i64 V.node, e, .int .i64 V.at_]) 3 rfl)
  have c4 := keepC hb1 (box_at (W := w) (t := 26) (vs := #[.int .i64 V.k, .int .i64 V.n, .string V.nm, .slice A V.args.length c, .int .i64 V.node, e, .int .i64 V.at_]) 4 rfl)
  have c5 := keepC hb1 (box_at (W := w) (t := 26) (vs := #[.int .i64 V.k, .int .i64 V.n, .string V.nm, .slice A V.args.length c, .int .i64 V.node, e, .int .i64 V.at_]) 5 rfl)
  have c6 := keepC hb1 (box_at (W := w) (t := 26) (vs := #[.int .i64 V.k, .int .i64 V.n, .string V.nm, .slice A V.args.length c, .int .i64 V.node, e, .int .i64 V.at_]) 6 rfl)
  clear hb1
  go_wp2_with fail
  refine (HBIG.out _ B1.out).mono ?_; rintro e w2 ⟨rfl, hb2⟩
  have B2 := Lib.hid (below2 B1.out hb2)
  have e0 := keepC hb2 c0
  have e1 := keepC hb2 c1
  have e2 := keepC hb2 c2
  have e3 := keepC hb2 c3
  have e4 := keepC hb2 c4
  have e5 := keepC hb2 c5
  have e6 := keepC hb2 c6
  clear c0 c1 c2 c3 c4 c5 c6 hb2 B1
  go_wp2_with fail
  have B3 := Lib.hid (below2 B2.out (belowA w2 (.cells #[.int .i64 6, .string ⟨#[]⟩, .int .i64 0, .slice (some ⟨w2.heap.size + 1, 0, none⟩) 1 1] 34)))
  have B3 := Lib.hid (below2 B3.out (belowA _ (.cells #[.int .i64 1, .string ⟨#[]⟩, .int .i64 0, .slice none 0 0] 34)))
  have B3 := Lib.hid (below2 B3.out (belowA _ (.cells #[.int .i64 0, .int .i64 1, .int .i64 2, .int .i64 3, .int .i64 4, .int .i64 5, .int .i64 6] 3)))
  have B0 := Lib.hid (show World.cell? (((w2.alloc (.cells #[.int .i64 6, .string ⟨#[]⟩, .int .i64 0, .slice (some ⟨w2.heap.size + 1, 0, none⟩) 1 1] 34)).alloc (.cells #[.int .i64 1, .string ⟨#[]⟩, .int .i64 0, .slice none 0 0] 34)).alloc (.cells #[.int .i64 0, .int .i64 1, .int .i64 2, .int .i64 3, .int .i64 4, .int .i64 5, .int .i64 6] 3)) ⟨w.heap.size, 0, none⟩ = some (.int .i64 V.k) ∧ World.cell? (((w2.alloc (.cells #[.int .i64 6, .string ⟨#[]⟩, .int .i64 0, .slice (some ⟨w2.heap.size + 1, 0, none⟩) 1 1] 34)).alloc (.cells #[.int .i64 1, .string ⟨#[]⟩, .int .i64 0, .slice none 0 0] 34)).alloc (.cells #[.int .i64 0, .int .i64 1, .int .i64 2, .int .i64 3, .int .i64 4, .int .i64 5, .int .i64 6] 3)) ⟨w.heap.size, 1, none⟩ = some (.int .i64 V.n) ∧ World.cell? (((w2.alloc (.cells #[.int .i64 6, .string ⟨#[]⟩, .int .i64 0, .slice (some ⟨w2.heap.size + 1, 0, none⟩) 1 1] 34)).alloc (.cells #[.int .i64 1, .string ⟨#[]⟩, .int .i64 0, .slice none 0 0] 34)).alloc (.cells #[.int .i64 0, .int .i64 1, .int .i64 2, .int .i64 3, .int .i64 4, .int .i64 5, .int .i64 6] 3)) ⟨w.heap.size, 2, none⟩ = some (.string V.nm) ∧ World.cell? (((w2.alloc (.cells #[.int .i64 6, .string ⟨#[]⟩, .int .i64 0, .slice (some ⟨w2.heap.size + 1, 0, none⟩) 1 1] 34)).alloc (.cells #[.int .i64 1, .string ⟨#[]⟩, .int .i64 0, .slice none 0 0] 34)).alloc (.cells #[.int .i64 0, .int .i64 1, .int .i64 2, .int .i64 3, .int .i64 4, .int .i64 5, .int .i64 6] 3)) ⟨w.heap.size, 3, none⟩ = some (.slice A V.args.length c) ∧ World.cell? (((w2.alloc (.cells #[.int .i64 6, .string ⟨#[]⟩, .int .i64 0, .slice (some ⟨w2.heap.size + 1, 0, none⟩) 1 1] 34)).alloc (.cells #[.int .i64 1, .string ⟨#[]⟩, .int .i64 0, .slice none 0 0] 34)).alloc (.cells #[.int .i64 0, .int .i64 1, .int .i64 2, .int .i64 3, .int .i64 4, .int .i64 5, .int .i64 6] 3)) ⟨w.heap.size, 4, none⟩ = some (.int .i64 V.node) ∧ World.cell? (((w2.alloc (.cells #[.int .i64 6, .string ⟨#[]⟩, .int .i64 0, .slice (some ⟨w2.heap.size + 1, 0, none⟩) 1 1] 34)).alloc (.cells #[.int .i64 1, .string ⟨#[]⟩, .int .i64 0, .slice none 0 0] 34)).alloc (.cells #[.int .i64 0, .int .i64 1, .int .i64 2, .int .i64 3, .int .i64 4, .int .i64 5, .int .i64 6] 3)) ⟨w.heap.size, 5, none⟩ = some (e) ∧ World.cell? (((w2.alloc (.cells #[.int .i64 6, .string ⟨#[]⟩, .int .i64 0, .slice (some ⟨w2.heap.size + 1, 0, none⟩) 1 1] 34)).alloc (.cells #[.int .i64 1, .string ⟨#[]⟩, .int .i64 0, .slice none 0 0] 34)).alloc (.cells #[.int .i64 0, .int .i64 1, .int .i64 2, .int .i64 3, .int .i64 4, .int .i64 5, .int .i64 6] 3)) ⟨w.heap.size, 6, none⟩ = some (.int .i64 V.at_) ∧ World.cell? (((w2.alloc (.cells #[.int .i64 6, .string ⟨#[]⟩, .int .i64 0, .slice (some ⟨w2.heap.size + 1, 0, none⟩) 1 1] 34)).alloc (.cells #[.int .i64 1, .string ⟨#[]⟩, .int .i64 0, .slice none 0 0] 34)).alloc (.cells #[.int .i64 0, .int .i64 1, .int .i64 2, .int .i64 3, .int .i64 4, .int .i64 5, .int .i64 6] 3)) ⟨w2.heap.size, 0, none⟩ = some (.int .i64 6) ∧ World.cell? (((w2.alloc (.cells #[.int .i64 6, .string ⟨#[]⟩, .int .i64 0, .slice (some ⟨w2.heap.size + 1, 0, none⟩) 1 1] 34)).alloc (.cells #[.int .i64 1, .string ⟨#[]⟩, .int .i64 0, .slice none 0 0] 34)).alloc (.cells #[.int .i64 0, .int .i64 1, .int .i64 2, .int .i64 3, .int .i64 4, .int .i64 5, .int .i64 6] 3)) ⟨w2.heap.size, 1, none⟩ = some (.string ⟨#[]⟩) ∧ World.cell? (((w2.alloc (.cells #[.int .i64 6, .string ⟨#[]⟩, .int .i64 0, .slice (some ⟨w2.heap.size + 1, 0, none⟩) 1 1] 34)).alloc (.cells #[.int .i64 1, .string ⟨#[]⟩, .int .i64 0, .slice none 0 0] 34)).alloc (.cells #[.int .i64 0, .int .i64 1, .int .i64 2, .int .i64 3, .int .i64 4, .int .i64 5, .int .i64 6] 3)) ⟨w2.heap.size, 2, none⟩ = some (.int .i64 0) ∧ World.cell? (((w2.alloc (.cells #[.int .i64 6, .string ⟨#[]⟩, .int .i64 0, .slice (some ⟨w2.heap.size + 1, 0, none⟩) 1 1] 34)).alloc (.cells #[.int .i64 1, .string ⟨#[]⟩, .int .i64 0, .slice none 0 0] 34)).alloc (.cells #[.int .i64 0, .int .i64 1, .int .i64 2, .int .i64 3, .int .i64 4, .int .i64 5, .int .i64 6] 3)) ⟨w2.heap.size, 3, none⟩ = some (.slice (some ⟨w2.heap.size + 1, 0, none⟩) 1 1) ∧ World.cell? (((w2.alloc (.cells #[.int .i64 6, .string ⟨#[]⟩, .int .i64 0, .slice (some ⟨w2.heap.size + 1, 0, none⟩) 1 1] 34)).alloc (.cells #[.int .i64 1, .string ⟨#[]⟩, .int .i64 0, .slice none 0 0] 34)).alloc (.cells #[.int .i64 0, .int .i64 1, .int .i64 2, .int .i64 3, .int .i64 4, .int .i64 5, .int .i64 6] 3)) ⟨w2.heap.size + 1 + 1, 6, none⟩ = some (.int .i64 6) ∧ World.cell? (((w2.alloc (.cells #[.int .i64 6, .string ⟨#[]⟩, .int .i64 0, .slice (some ⟨w2.heap.size + 1, 0, none⟩) 1 1] 34)).alloc (.cells #[.int .i64 1, .string ⟨#[]⟩, .int .i64 0, .slice none 0 0] 34)).alloc (.cells #[.int .i64 0, .int .i64 1, .int .i64 2, .int .i64 3, .int .i64 4, .int .i64 5, .int .i64 6] 3)) ⟨w2.heap.size + 1, 0, none⟩ = some (.int .i64 1) ∧ World.cell? (((w2.alloc (.cells #[.int .i64 6, .string ⟨#[]⟩, .int .i64 0, .slice (some ⟨w2.heap.size + 1, 0, none⟩) 1 1] 34)).alloc (.cells #[.int .i64 1, .string ⟨#[]⟩, .int .i64 0, .slice none 0 0] 34)).alloc (.cells #[.int .i64 0, .int .i64 1, .int .i64 2, .int .i64 3, .int .i64 4, .int .i64 5, .int .i64 6] 3)) ⟨w2.heap.size + 1, 1, none⟩ = some (.string ⟨#[]⟩) ∧ World.cell? (((w2.alloc (.cells #[.int .i64 6, .string ⟨#[]⟩, .int .i64 0, .slice (some ⟨w2.heap.size + 1, 0, none⟩) 1 1] 34)).alloc (.cells #[.int .i64 1, .string ⟨#[]⟩, .int .i64 0, .slice none 0 0] 34)).alloc (.cells #[.int .i64 0, .int .i64 1, .int .i64 2, .int .i64 3, .int .i64 4, .int .i64 5, .int .i64 6] 3)) ⟨w2.heap.size + 1, 2, none⟩ = some (.int .i64 0) ∧ World.cell? (((w2.alloc (.cells #[.int .i64 6, .string ⟨#[]⟩, .int .i64 0, .slice (some ⟨w2.heap.size + 1, 0, none⟩) 1 1] 34)).alloc (.cells #[.int .i64 1, .string ⟨#[]⟩, .int .i64 0, .slice none 0 0] 34)).alloc (.cells #[.int .i64 0, .int .i64 1, .int .i64 2, .int .i64 3, .int .i64 4, .int .i64 5, .int .i64 6] 3)) ⟨w2.heap.size + 1, 3, none⟩ = some (.slice none 0 0) from ⟨(keepA _ (keepA _ (keepA _ e0))), (keepA _ (keepA _ (keepA _ e1))), (keepA _ (keepA _ (keepA _ e2))), (keepA _ (keepA _ (keepA _ e3))), (keepA _ (keepA _ (keepA _ e4))), (keepA _ (keepA _ (keepA _ e5))), (keepA _ (keepA _ (keepA _ e6))), (keepA _ (keepA _ (box_at (W := w2) (t := 34) (vs := #[.int .i64 6, .string ⟨#[]⟩, .int .i64 0, .slice (some ⟨w2.heap.size + 1, 0, none⟩) 1 1]) 0 rfl))), (keepA _ (keepA _ (box_at (W := w2) (t := 34) (vs := #[.int .i64 6, .string ⟨#[]⟩, .int .i64 0, .slice (some ⟨w2.heap.size + 1, 0, none⟩) 1 1]) 1 rfl))), (keepA _ (keepA _ (box_at (W := w2) (t := 34) (vs := #[.int .i64 6, .string ⟨#[]⟩, .int .i64 0, .slice (some ⟨w2.heap.size + 1, 0, none⟩) 1 1]) 2 rfl))), (keepA _ (keepA _ (box_at (W := w2) (t := 34) (vs := #[.int .i64 6, .string ⟨#[]⟩, .int .i64 0, .slice (some ⟨w2.heap.size + 1, 0, none⟩) 1 1]) 3 rfl))), (box_at2 (t := 3) (vs := #[.int .i64 0, .int .i64 1, .int .i64 2, .int .i64 3, .int .i64 4, .int .i64 5, .int .i64 6]) 6 (by simp only [alloc_size]) rfl), (keepA _ (box_at2 (t := 34) (vs := #[.int .i64 1, .string ⟨#[]⟩, .int .i64 0, .slice none 0 0]) 0 (by simp only [alloc_size]) rfl)), (keepA _ (box_at2 (t := 34) (vs := #[.int .i64 1, .string ⟨#[]⟩, .int .i64 0, .slice none 0 0]) 1 (by simp only [alloc_size]) rfl)), (keepA _ (box_at2 (t := 34) (vs := #[.int .i64 1, .string ⟨#[]⟩, .int .i64 0, .slice none 0 0]) 2 (by simp only [alloc_size]) rfl)), (keepA _ (box_at2 (t := 34) (vs := #[.int .i64 1, .string ⟨#[]⟩, .int .i64 0, .slice none 0 0]) 3 (by simp only [alloc_size]) rfl))⟩)
  refine wp_region_held_drew (S := fun w' => w'.cell? ⟨w.heap.size, 0, none⟩ = some (.int .i64 V.k) ∧ w'.cell? ⟨w.heap.size, 1, none⟩ = some (.int .i64 V.n) ∧ w'.cell? ⟨w.heap.size, 2, none⟩ = some (.string V.nm) ∧ w'.cell? ⟨w.heap.size, 3, none⟩ = some (.slice A V.args.length c) ∧ w'.cell? ⟨w.heap.size, 4, none⟩ = some (.int .i64 V.node) ∧ w'.cell? ⟨w.heap.size, 5, none⟩ = some (e) ∧ w'.cell? ⟨w.heap.size, 6, none⟩ = some (.int .i64 V.at_) ∧ w'.cell? ⟨w2.heap.size, 0, none⟩ = some (.int .i64 6) ∧ w'.cell? ⟨w2.heap.size, 1, none⟩ = some (.string ⟨#[]⟩) ∧ w'.cell? ⟨w2.heap.size, 2, none⟩ = some (.int .i64 0) ∧ w'.cell? ⟨w2.heap.size, 3, none⟩ = some (.slice (some ⟨w2.heap.size + 1, 0, none⟩) 1 1) ∧ w'.cell? ⟨w2.heap.size + 1 + 1, 6, none⟩ = some (.int .i64 6) ∧ w'.cell? ⟨w2.heap.size + 1, 0, none⟩ = some (.int .i64 1) ∧ w'.cell? ⟨w2.heap.size + 1, 1, none⟩ = some (.string ⟨#[]⟩) ∧ w'.cell? ⟨w2.heap.size + 1, 2, none⟩ = some (.int .i64 0) ∧ w'.cell? ⟨w2.heap.size + 1, 3, none⟩ = some (.slice none 0 0)) (by kernel_rfl) ?_ (fun hHeld => ?_)
  · exact B0.out
  refine wpAnyH_take (i := 0) (oi := { dst := some 41, op := Go.Op.load 26 (Go.Operand.tmp 2), type := 26, pos := _, after := #[], guard := none }) (v := ?v0) rfl (by kernel_rfl) (by kernel_rfl) (by kernel_rfl) (fun _ _ _ h => h) (Or.inl ⟨by rfl, ?hy0⟩) (by assumption) ?_
  case hy0 => (intro wz hSw; (try dsimp only at hSw); go_simp; try with_reducible rfl)
  (try simp only [Act.put, List.setIfInBounds_toArray, List.set_cons_zero, List.set_cons_succ])
  refine wpAnyH_take (i := 1) (oi := { dst := some 42, op := Go.Op.load 34 (Go.Operand.tmp 5), type := 34, pos := _, after := #[], guard := none }) (v := ?v1) rfl (by kernel_rfl) (by kernel_rfl) (by kernel_rfl) (fun _ _ _ h => h) (Or.inl ⟨by rfl, ?hy1⟩) (by assumption) ?_
  case hy1 => (intro wz hSw; (try dsimp only at hSw); go_simp; try with_reducible rfl)
  (try simp only [Act.put, List.setIfInBounds_toArray, List.set_cons_zero, List.set_cons_succ])
  refine wpAnyH_take (i := 4) (oi := { dst := some 45, op := Go.Op.fieldAddr 26 (Go.Operand.tmp 2) 0, type := 0, pos := _, after := #[], guard := none }) (v := ?v4) rfl (by kernel_rfl) (by kernel_rfl) (by kernel_rfl) (fun _ _ _ h => h) (Or.inl ⟨by rfl, ?hy4⟩) (by assumption) ?_
  case hy4 => (intro wz hSw; (try dsimp only at hSw); go_simp; try with_reducible rfl)
  (try simp only [Act.put, List.setIfInBounds_toArray, List.set_cons_zero, List.set_cons_succ])
  refine wpAnyH_take (i := 5) (oi := { dst := some 46, op := Go.Op.load 3 (Go.Operand.tmp 45), type := 3, pos := _, after := #[{ on := 4, ground := Go.Ground.data }], guard := none }) (v := ?v5) rfl (by kernel_rfl) (by kernel_rfl) (by kernel_rfl) (fun _ _ _ h => h) (Or.inl ⟨by rfl, ?hy5⟩) (by assumption) ?_
  case hy5 => (intro wz hSw; (try dsimp only at hSw); go_simp; try with_reducible rfl)
  (try simp only [Act.put, List.setIfInBounds_toArray, List.set_cons_zero, List.set_cons_succ])
  refine wpAnyH_take (i := 6) (oi := { dst := some 47, op := Go.Op.move (Go.Operand.tmp 6), type := 67, pos := _, after := #[], guard := none }) (v := ?v6) rfl (by kernel_rfl) (by kernel_rfl) (by kernel_rfl) (fun _ _ _ h => h) (Or.inl ⟨by rfl, ?hy6⟩) (by assumption) ?_
  case hy6 => (intro wz hSw; (try dsimp only at hSw); go_simp; try with_reducible rfl)
  (try simp only [Act.put, List.setIfInBounds_toArray, List.set_cons_zero, List.set_cons_succ])
  refine wpAnyH_take (i := 7) (oi := { dst := some 48, op := Go.Op.move (Go.Operand.tmp 1), type := 3, pos := _, after := #[], guard := none }) (v := ?v7) rfl (by kernel_rfl) (by kernel_rfl) (by kernel_rfl) (fun _ _ _ h => h) (Or.inl ⟨by rfl, ?hy7⟩) (by assumption) ?_
  case hy7 => (intro wz hSw; (try dsimp only at hSw); go_simp; try with_reducible rfl)
  (try simp only [Act.put, List.setIfInBounds_toArray, List.set_cons_zero, List.set_cons_succ])
  refine wpAnyH_take (i := 8) (oi := { dst := some 49, op := Go.Op.indexAddr 67 (Go.Operand.tmp 47) (Go.Operand.tmp 48), type := 0, pos := _, after := #[{ on := 6, ground := Go.Ground.data }, { on := 7, ground := Go.Ground.data }], guard := none }) (v := ?v8) rfl (by kernel_rfl) (by kernel_rfl) (by kernel_rfl) (fun _ _ _ h => h) (Or.inl ⟨by rfl, ?hy8⟩) (by assumption) ?_
  case hy8 => (intro wz hSw; (try dsimp only at hSw); go_simp; try with_reducible rfl)
  (try simp only [Act.put, List.setIfInBounds_toArray, List.set_cons_zero, List.set_cons_succ])
  refine wpAnyH_take (i := 9) (oi := { dst := some 50, op := Go.Op.load 3 (Go.Operand.tmp 49), type := 3, pos := _, after := #[{ on := 8, ground := Go.Ground.data }], guard := none }) (v := ?v9) rfl (by kernel_rfl) (by kernel_rfl) (by kernel_rfl) (fun _ _ _ h => h) (Or.inl ⟨by rfl, ?hy9⟩) (by assumption) ?_
  case hy9 => (intro wz hSw; (try dsimp only at hSw); go_simp; try with_reducible rfl)
  (try simp only [Act.put, List.setIfInBounds_toArray, List.set_cons_zero, List.set_cons_succ])
  refine wpAnyH_take (i := 10) (oi := { dst := some 51, op := Go.Op.binOp Go.BinOp.neq 3 (Go.Operand.tmp 46) (Go.Operand.tmp 50) 3, type := 4, pos := _, after := #[{ on := 5, ground := Go.Ground.data }, { on := 9, ground := Go.Ground.data }], guard := none }) (v := ?v10) rfl (by kernel_rfl) (by kernel_rfl) (by kernel_rfl) (fun _ _ _ h => h) (Or.inl ⟨by rfl, ?hy10⟩) (by assumption) ?_
  case hy10 => (intro wz hSw; (try dsimp only at hSw); go_simp; try with_reducible rfl)
  (try simp only [Act.put, List.setIfInBounds_toArray, List.set_cons_zero, List.set_cons_succ])
  refine wpAnyH_ready (rs := [2]) (by kernel_rfl) (by simp) ?_
  refine AllReadyH.cons (o := { dst := some 43, op := Go.Op.call { callee := Go.Callee.value (Go.Operand.func 14), args := #[Go.Operand.tmp 41, Go.Operand.tmp 42, Go.Operand.const (Go.Value.slice none 0 0), Go.Operand.const (Go.Value.slice none 0 0)], argTypes := #[26, 34, 23, 38] }, type := 9, pos := _, after := #[{ on := 0, ground := Go.Ground.data }, { on := 1, ground := Go.Ground.data }], guard := none }) rfl (fun K hK => ?_) AllReadyH.nil
  go_simp
  have hH := hHeld
  (try dsimp only at hH)
  obtain ⟨g0, g1, g2, g3, g4, g5, g6, g7, g8, g9, g10, g11, g12, g13, g14, g15⟩ := hH
  refine (HR.out _ _ (bD9 B3.out) ⟨_, _, rfl, .inr ⟨_, _, rfl, World.block_lt_of_cell? _ _ g12, okTL_1 (World.block_lt_of_cell? _ _ g12) g12 g13 g14 g15 (by rw [okTL]; trivial)⟩⟩).mono ?_; rintro e w4 ⟨rfl, hb4⟩
  have hb4x0 := keepC hb4 g0
  have hb4x1 := keepC hb4 g1
  have hb4x2 := keepC hb4 g2
  have hb4x3 := keepC hb4 g3
  have hb4x4 := keepC hb4 g4
  have hb4x5 := keepC hb4 g5
  have hb4x6 := keepC hb4 g6
  have hb4x7 := keepC hb4 g7
  have hb4x8 := keepC hb4 g8
  have hb4x9 := keepC hb4 g9
  have hb4x10 := keepC hb4 g10
  have hb4x11 := keepC hb4 g11
  have hb4x12 := keepC hb4 g12
  have hb4x13 := keepC hb4 g13
  have hb4x14 := keepC hb4 g14
  have hb4x15 := keepC hb4 g15
  have B4 := Lib.hid (below2 (bD9 B3.out) hb4)
  clear hb4 hHeld g0 g1 g2 g3 g4 g5 g6 g7 g8 g9 g10 g11 g12 g13 g14 g15
  go_wp2_with fail
  refine hK.out _ _ ?_ (fun hHeld => ?_)
  · (try dsimp only); exact ⟨hb4x0, hb4x1, hb4x2, hb4x3, hb4x4, hb4x5, hb4x6, hb4x7, hb4x8, hb4x9, hb4x10, hb4x11, hb4x12, hb4x13, hb4x14, hb4x15⟩
  clear hK K hb4x0 hb4x1 hb4x2 hb4x3 hb4x4 hb4x5 hb4x6 hb4x7 hb4x8 hb4x9 hb4x10 hb4x11 hb4x12 hb4x13 hb4x14 hb4x15
  (try simp only [Act.put, List.setIfInBounds_toArray, List.set_cons_zero, List.set_cons_succ])
  refine wpAnyH_take (i := 3) (oi := { dst := some 44, op := Go.Op.binOp Go.BinOp.eql 9 (Go.Operand.tmp 43) (Go.Operand.const (Go.Value.string { data := #[63] })) 9, type := 4, pos := _, after := #[{ on := 2, ground := Go.Ground.data }], guard := none }) (v := ?v3) rfl (by kernel_rfl) (by kernel_rfl) (by kernel_rfl) (fun _ _ _ h => h) (Or.inl ⟨by rfl, ?hy3⟩) (by assumption) ?_
  case hy3 => (intro wz hSw; (try dsimp only at hSw); go_simp; try with_reducible rfl)
  (try simp only [Act.put, List.setIfInBounds_toArray, List.set_cons_zero, List.set_cons_succ])
  refine wpAnyH_take (i := 11) (oi := { dst := some 52, op := Go.Op.binOp Go.BinOp.eql 4 (Go.Operand.tmp 44) (Go.Operand.tmp 51) 4, type := 4, pos := _, after := #[{ on := 3, ground := Go.Ground.data }, { on := 10, ground := Go.Ground.data }], guard := none }) (v := ?v11) rfl (by kernel_rfl) (by kernel_rfl) (by kernel_rfl) (fun _ _ _ h => h) (Or.inl ⟨by rfl, ?hy11⟩) (by assumption) ?_
  case hy11 => (intro wz hSw; (try dsimp only at hSw); go_simp; try with_reducible rfl)
  (try simp only [Act.put, List.setIfInBounds_toArray, List.set_cons_zero, List.set_cons_succ])
  refine wpAnyH_take (i := 12) (oi := { dst := some 53, op := Go.Op.move (Go.Operand.tmp 52), type := 4, pos := _, after := #[{ on := 11, ground := Go.Ground.data }, { on := 2, ground := Go.Ground.chain }], guard := none }) (v := ?v12) rfl (by kernel_rfl) (by kernel_rfl) (by kernel_rfl) (fun _ _ _ h => h) (Or.inl ⟨by rfl, ?hy12⟩) (by assumption) ?_
  case hy12 => (intro wz hSw; (try dsimp only at hSw); go_simp; try with_reducible rfl)
  (try simp only [Act.put, List.setIfInBounds_toArray, List.set_cons_zero, List.set_cons_succ])
  refine wpAnyH_take (i := 13) (oi := { dst := some 54, op := Go.Op.load 26 (Go.Operand.tmp 2), type := 26, pos := _, after := #[{ on := 12, ground := Go.Ground.guard }], guard := some (12, true) }) (v := ?v13) rfl (by kernel_rfl) (by kernel_rfl) (by kernel_rfl) (fun _ _ _ h => h) (Or.inl ⟨by rfl, ?hy13⟩) (by assumption) ?_
  case hy13 => (intro wz hSw; (try dsimp only at hSw); go_simp; try with_reducible rfl)
  (try simp only [Act.put, List.setIfInBounds_toArray, List.set_cons_zero, List.set_cons_succ])
  refine wpAnyH_take (i := 14) (oi := { dst := some 55, op := Go.Op.build 34 #[(0, Go.Operand.const (Go.Value.int Go.IntKind.i64 7))], type := 34, pos := _, after := #[{ on := 12, ground := Go.Ground.guard }], guard := some (12, true) }) (v := ?v14) rfl (by kernel_rfl) (by kernel_rfl) (by kernel_rfl) (fun _ _ _ h => h) (Or.inl ⟨by rfl, ?hy14⟩) (by assumption) ?_
  case hy14 => (intro wz hSw; (try dsimp only at hSw); go_simp; try with_reducible rfl)
  (try simp only [Act.put, List.setIfInBounds_toArray, List.set_cons_zero, List.set_cons_succ])
  refine wpAnyH_ready (rs := [15]) (by kernel_rfl) (by simp) ?_
  refine AllReadyH.cons (o := { dst := some 56, op := Go.Op.call { callee := Go.Callee.value (Go.Operand.func 14), args := #[Go.Operand.tmp 54, Go.Operand.tmp 55, Go.Operand.const (Go.Value.slice none 0 0), Go.Operand.const (Go.Value.slice none 0 0)], argTypes := #[26, 34, 23, 38] }, type := 9, pos := _, after := #[{ on := 13, ground := Go.Ground.data }, { on := 14, ground := Go.Ground.data }, { on := 12, ground := Go.Ground.chain }, { on := 12, ground := Go.Ground.guard }], guard := some (12, true) }) rfl (fun K hK => ?_) AllReadyH.nil
  go_simp
  have hH := hHeld
  (try dsimp only at hH)
  obtain ⟨g0, g1, g2, g3, g4, g5, g6, g7, g8, g9, g10, g11, g12, g13, g14, g15⟩ := hH
  refine (HP.out _ B4.out).mono ?_; rintro e w5 ⟨rfl, hb5⟩
  have hb5x0 := keepC hb5 g0
  have hb5x1 := keepC hb5 g1
  have hb5x2 := keepC hb5 g2
  have hb5x3 := keepC hb5 g3
  have hb5x4 := keepC hb5 g4
  have hb5x5 := keepC hb5 g5
  have hb5x6 := keepC hb5 g6
  have hb5x7 := keepC hb5 g7
  have hb5x8 := keepC hb5 g8
  have hb5x9 := keepC hb5 g9
  have hb5x10 := keepC hb5 g10
  have hb5x11 := keepC hb5 g11
  have hb5x12 := keepC hb5 g12
  have hb5x13 := keepC hb5 g13
  have hb5x14 := keepC hb5 g14
  have hb5x15 := keepC hb5 g15
  have B5 := Lib.hid (below2 B4.out hb5)
  clear hb5 hHeld g0 g1 g2 g3 g4 g5 g6 g7 g8 g9 g10 g11 g12 g13 g14 g15
  go_wp2_with fail
  refine hK.out _ _ ?_ (fun hHeld => ?_)
  · (try dsimp only); exact ⟨hb5x0, hb5x1, hb5x2, hb5x3, hb5x4, hb5x5, hb5x6, hb5x7, hb5x8, hb5x9, hb5x10, hb5x11, hb5x12, hb5x13, hb5x14, hb5x15⟩
  clear hK K hb5x0 hb5x1 hb5x2 hb5x3 hb5x4 hb5x5 hb5x6 hb5x7 hb5x8 hb5x9 hb5x10 hb5x11 hb5x12 hb5x13 hb5x14 hb5x15
  (try simp only [Act.put, List.setIfInBounds_toArray, List.set_cons_zero, List.set_cons_succ])
  refine wpAnyH_take (i := 16) (oi := { dst := some 57, op := Go.Op.binOp Go.BinOp.eql 9 (Go.Operand.tmp 56) (Go.Operand.const (Go.Value.string { data := #[60, 112, 111, 108, 121, 62] })) 9, type := 4, pos := _, after := #[{ on := 15, ground := Go.Ground.data }, { on := 12, ground := Go.Ground.guard }], guard := some (12, true) }) (v := ?v16) rfl (by kernel_rfl) (by kernel_rfl) (by kernel_rfl) (fun _ _ _ h => h) (Or.inl ⟨by rfl, ?hy16⟩) (by assumption) ?_
  case hy16 => (intro wz hSw; (try dsimp only at hSw); go_simp; try with_reducible rfl)
  (try simp only [Act.put, List.setIfInBounds_toArray, List.set_cons_zero, List.set_cons_succ])
  refine wpAnyH_take (i := 17) (oi := { dst := some 58, op := Go.Op.pick (Go.Operand.tmp 53) (Go.Operand.tmp 57) (Go.Operand.const (Go.Value.bool false)), type := 4, pos := _, after := #[{ on := 12, ground := Go.Ground.data }, { on := 16, ground := Go.Ground.data }], guard := none }) (v := ?v17) rfl (by kernel_rfl) (by kernel_rfl) (by kernel_rfl) (fun _ _ _ h => h) (Or.inl ⟨by rfl, ?hy17⟩) (by assumption) ?_
  case hy17 => (intro wz hSw; (try dsimp only at hSw); go_simp; try with_reducible rfl)
  (try simp only [Act.put, List.setIfInBounds_toArray, List.set_cons_zero, List.set_cons_succ])
  refine wpAnyH_take (i := 18) (oi := { dst := some 4, op := Go.Op.assign (Go.Operand.tmp 58), type := 4, pos := _, after := #[{ on := 17, ground := Go.Ground.data }, { on := 15, ground := Go.Ground.chain }, { on := 0, ground := Go.Ground.phase }, { on := 1, ground := Go.Ground.phase }, { on := 2, ground := Go.Ground.phase }, { on := 3, ground := Go.Ground.phase }, { on := 4, ground := Go.Ground.phase }, { on := 5, ground := Go.Ground.phase }, { on := 6, ground := Go.Ground.phase }, { on := 7, ground := Go.Ground.phase }, { on := 8, ground := Go.Ground.phase }, { on := 9, ground := Go.Ground.phase }, { on := 10, ground := Go.Ground.phase }, { on := 11, ground := Go.Ground.phase }, { on := 12, ground := Go.Ground.phase }, { on := 13, ground := Go.Ground.phase }, { on := 14, ground := Go.Ground.phase }, { on := 15, ground := Go.Ground.phase }, { on := 16, ground := Go.Ground.phase }, { on := 17, ground := Go.Ground.phase }], guard := none }) (v := ?v18) rfl (by kernel_rfl) (by kernel_rfl) (by kernel_rfl) (fun _ _ _ h => h) (Or.inl ⟨by rfl, ?hy18⟩) (by assumption) ?_
  case hy18 => (intro wz hSw; (try dsimp only at hSw); go_simp; try with_reducible rfl)
  (try simp only [Act.put, List.setIfInBounds_toArray, List.set_cons_zero, List.set_cons_succ])
  refine wpAnyH_done (by kernel_rfl) ?_ _
  go_wp2
  go_ret
  exact ⟨rfl, B5.out⟩
end Go.Proofs.YtclilpabdcdeoaaDoor
