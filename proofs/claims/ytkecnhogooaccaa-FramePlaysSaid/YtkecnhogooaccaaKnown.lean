import Derived.Test.YtkecnhogooaccaaInts
import Derived.Test.YtkecnhogooaccaaAwake
namespace Go.Proofs.Ytkecnhogooaccaa
open Go.ChangeShapes Go.WideShapes Go.ChangeAt Go.RowKit
set_option linter.unusedVariables false
theorem inL_later {k : IntKind} {w W : World} {A : Option Addr} {n : Nat} {xs : List Int} (h : InL k w A n xs) (hW : Below w.heap.size w W) : InL k W A n xs :=
  ⟨h.1, fun hn => by
    obtain ⟨b, off, e, hb, hc⟩ := h.2 hn
    exact ⟨b, off, e, Nat.lt_of_lt_of_le hb hW.size, fun j hj => (hW.cell (p := ⟨b, off + j, none⟩) hb).trans (hc j hj)⟩⟩
theorem own_ini {w : World} {B e n c : Nat} {A : Option Addr} {xs : List Int} (h : w.ownsRow B e 1 (.slice A n c) n (xs.map (.int .i64))) : InL .i64 w A n xs := by
  have hl := h.1
  rw [List.length_map, Nat.mul_one] at hl
  refine ⟨hl, fun hn => ?_⟩
  obtain ⟨g, cap, e1⟩ := Go.Joins.ownsRow_form h (by omega)
  injection e1 with e1 e2 e3
  subst e1
  refine ⟨g, 0, rfl, (h.lt g rfl).2, fun j hj => ?_⟩
  rw [Nat.zero_add, h.cellAt j (by omega)]
  simp [List.getD, show j < xs.length by omega]
set_option maxRecDepth 100000 in
set_option maxHeartbeats 2000000 in
theorem new_bad {w : World} (room : Int) (h : room < 16 ∨ 4096 < room) :
    Calls Try.prog 8 #[.int .i64 room] w fun e w' => e = .returned (.tuple #[.pointer none, .int .i64 1]) ∧ w = w' := by
  rcases h with h | h
  · have d1 := decide_eq_true h
    go_enter Try.func8, Try.ntmps8
    go_wp2
    go_returns
    exact ⟨rfl, rfl⟩
  · have d1 := decide_eq_false (show ¬ room < 16 by omega)
    have d2 := decide_eq_true h
    go_enter Try.func8, Try.ntmps8
    go_wp2
    go_returns
    exact ⟨rfl, rfl⟩
set_option maxRecDepth 100000 in
set_option maxHeartbeats 2000000 in
theorem num9 (w : World) : Calls Try.prog 11 #[.int .i64 9] w fun e w' => e = .returned (.int .u64 19) ∧ w = w' := by
  have b1 : bits BinOp.or IntKind.u64 18 1 = 19 := by decide +kernel
  go_enter Try.func11, Try.ntmps11
  go_wp2
  go_ret
  exact ⟨rfl, rfl⟩
set_option maxRecDepth 100000 in
set_option maxHeartbeats 2000000 in
theorem num1 (w : World) : Calls Try.prog 11 #[.int .i64 1] w fun e w' => e = .returned (.int .u64 3) ∧ w = w' := by
  have b1 : bits BinOp.or IntKind.u64 2 1 = 3 := by decide +kernel
  go_enter Try.func11, Try.ntmps11
  go_wp2
  go_ret
  exact ⟨rfl, rfl⟩
set_option maxRecDepth 100000 in
set_option maxHeartbeats 2000000 in
theorem num2 (w : World) : Calls Try.prog 11 #[.int .i64 2] w fun e w' => e = .returned (.int .u64 5) ∧ w = w' := by
  have b1 : bits BinOp.or IntKind.u64 4 1 = 5 := by decide +kernel
  go_enter Try.func11, Try.ntmps11
  go_wp2
  go_ret
  exact ⟨rfl, rfl⟩
set_option maxRecDepth 100000 in
set_option maxHeartbeats 2000000 in
theorem num0 (w : World) : Calls Try.prog 11 #[.int .i64 0] w fun e w' => e = .returned (.int .u64 1) ∧ w = w' := by
  have b1 : bits BinOp.or IntKind.u64 0 1 = 1 := by decide +kernel
  go_enter Try.func11, Try.ntmps11
  go_wp2
  go_ret
  exact ⟨rfl, rfl⟩
set_option maxRecDepth 100000 in
set_option maxHeartbeats 8000000 in
theorem known (w : World) : Calls Try.prog 3 #[] w fun e w' => e = .returned (.bool true) ∧ Below w.heap.size w w' := by
  go_enter Try.func3, Try.ntmps3
  go_wp2_with fail
  refine (awake_any w).mono ?_; rintro e w0 ⟨rfl, hb0⟩
  have B0 := Lib.hid hb0
  clear hb0
  go_wp2_with fail
  refine (new_bad 15 (by omega)).mono ?_; rintro e w1 ⟨rfl, rfl⟩
  go_wp2_with fail
  refine (new_bad 4097 (by omega)).mono ?_; rintro e w1 ⟨rfl, rfl⟩
  go_wp2_with fail
  refine (new_st 16 (by omega) (by omega)).mono ?_; rintro e w1 ⟨g, rfl, s1⟩
  go_wp2_with fail
  refine (push_st 0 0 (-1) s1.out).mono ?_; rintro e w2 ⟨he, s2⟩
  have s2 : Hid (StN w0 w2 g 16 []) := s2
  have he : e = .returned (.int .i64 1) := he
  subst he
  clear s1
  go_wp2_with fail
  refine (push_st 0 0 15 s2.out).mono ?_; rintro e w3 ⟨he, s3⟩
  have s3 : Hid (StN w0 w3 g 16 []) := s3
  have he : e = .returned (.int .i64 9) := he
  subst he
  clear s2
  go_wp2_with fail
  refine (push_st 1 2 3 s3.out).mono ?_; rintro e w4 ⟨he, s4⟩
  have s4 : Hid (StN w0 w4 g 16 [⟨1, 2, [1, 1, 1], []⟩]) := s4
  have he : e = .returned (.int .i64 0) := he
  subst he
  clear s3
  go_wp2_with fail
  refine (push_st 3 4 8 s4.out).mono ?_; rintro e w5 ⟨he, s5⟩
  have s5 : Hid (StN w0 w5 g 16 [⟨1, 2, [1, 1, 1], []⟩, ⟨3, 4, [1, 1, 1, 1, 1, 1, 1, 1], []⟩]) := s5
  have he : e = .returned (.int .i64 0) := he
  subst he
  clear s4
  go_wp2_with fail
  refine (num9 w5).mono ?_; rintro e w6 ⟨rfl, rfl⟩
  go_wp2_with fail
  refine (add_any 19 s5.out).mono ?_; rintro e w6 ⟨he, s6⟩
  have s6 : Hid (StN w0 w6 g 16 [⟨1, 2, [1, 1, 1], []⟩, ⟨3, 4, [1, 1, 1, 1, 1, 1, 1, 1], [19]⟩]) := s6
  have he : e = .returned (.int .i64 0) := he
  subst he
  clear s5
  go_wp2_with fail
  refine (num9 w6).mono ?_; rintro e w7 ⟨rfl, rfl⟩
  go_wp2_with fail
  refine (add_any 19 s6.out).mono ?_; rintro e w7 ⟨he, s7⟩
  have s7 : Hid (StN w0 w7 g 16 [⟨1, 2, [1, 1, 1], []⟩, ⟨3, 4, [1, 1, 1, 1, 1, 1, 1, 1], [19]⟩]) := s7
  have he : e = .returned (.int .i64 9) := he
  subst he
  clear s6
  go_wp2_with fail
  refine (get_any 0 s7.out).mono ?_; rintro e w8 ⟨he, hb8⟩
  have s8 := Lib.hid (s7.out.below hb8)
  have he : e = .returned (.tuple #[.int .u64 1, .int .i64 0]) := he
  subst he
  clear s7 hb8
  go_wp2_with fail
  refine (num1 w8).mono ?_; rintro e w9 ⟨rfl, rfl⟩
  go_wp2_with fail
  refine (set_any 8 3 s8.out).mono ?_; rintro e w9 ⟨he, s9⟩
  have s9 : Hid (StN w0 w9 g 16 [⟨1, 2, [1, 1, 1], []⟩, ⟨3, 4, [1, 1, 1, 1, 1, 1, 1, 1], [19]⟩]) := s9
  have he : e = .returned (.int .i64 1) := he
  subst he
  clear s8
  go_wp2_with fail
  refine (num2 w9).mono ?_; rintro e w10 ⟨rfl, rfl⟩
  go_wp2_with fail
  refine (set_any 7 5 s9.out).mono ?_; rintro e w10 ⟨he, s10⟩
  have s10 : Hid (StN w0 w10 g 16 [⟨1, 2, [1, 1, 1], []⟩, ⟨3, 4, [1, 1, 1, 1, 1, 1, 1, 5], [19]⟩]) := s10
  have he : e = .returned (.int .i64 0) := he
  subst he
  clear s9
  go_wp2_with fail
  refine (roots_st s10.out).mono ?_; rintro e w11 ⟨A, c, he, ow, hb11⟩
  have s11 := Lib.hid (s10.out.below hb11.out)
  have he : e = .returned (.slice A 12 c) := he
  subst he
  have ow1 : w11.ownsRow w10.heap.size 30 1 (.slice A 12 c) 12 (wds [1, 1, 1, 1, 1, 1, 1, 1, 1, 1, 5, 19]) := ow.out
  obtain ⟨rg, rc, e1⟩ := Go.Joins.ownsRow_form ow1 (by omega)
  injection e1 with e1 e2 e3
  subst e1
  have hrg := ow1.lt rg rfl
  have x10 : w11.cell? ⟨rg, 10, none⟩ = some (.int .u64 5) := ow1.cellAt 10 (by decide)
  have hc12 : 12 ≤ c := by
    rcases ow1.2 with ⟨hz, _⟩ | ⟨g2, cap2, cur, hv, hb2, hg, hr, _⟩
    · cases hz
    · injection hv with _ _ h3; rw [h3]; exact hr
  obtain ⟨fv0, wv0, t0, _⟩ := s10.out
  have hgl := t0.obj.lt
  have hne : rg ≠ g := by omega
  obtain ⟨fv, wv, t, bb⟩ := s11.out
  have T : Hid (Sk w11 w0.heap.size g 16 fv wv [⟨1, 2, 0, 3⟩, ⟨3, 4, 3, 8⟩] [1, 1, 1, 1, 1, 1, 1, 1, 1, 1, 5, 19]) := Lib.hid t
  have B11 := Lib.hid (bt B0.out bb)
  clear s10 hb11 ow ow1 hrg t0 hgl t bb s11 e2 e3
  go_wp2_with fail
  refine (cut_bad 3 0 T.out (by decide)).mono ?_; rintro e w12 ⟨rfl, hb12⟩
  have T12 := Lib.hid (T.out.below hb12)
  have x11 := (hb12.cell (World.block_lt_of_cell? _ _ x10)).trans x10
  have B12 := Lib.hid (bt B11.out hb12)
  clear hb12 x10 T B11
  go_wp2_with fail
  refine (cut_many (fr1 := []) (f := ⟨1, 2, 0, 3⟩) (fr2 := [⟨3, 4, 3, 8⟩]) 3 1 T12.out (.inr ⟨_, _, rfl, rfl⟩) (by decide) (by decide) (by decide)).mono ?_; rintro e w13 ⟨rfl, hb13⟩
  have T13 := Lib.hid (T12.out.below hb13)
  have x12 := (hb13.cell (World.block_lt_of_cell? _ _ x11)).trans x11
  have B13 := Lib.hid (bt B12.out hb13)
  clear hb13 x11 T12 B12
  go_wp2_with fail
  refine (cut_ok (fr1 := []) (f := ⟨1, 2, 0, 3⟩) (fr2 := [⟨3, 4, 3, 8⟩]) 3 0 T13.out (.inr ⟨_, _, rfl, rfl⟩) (by decide) (by decide) (by decide)).mono ?_; rintro e w14 ⟨fv', wv', rfl, t14, fm⟩
  have T14 : Hid (Sk w14 w0.heap.size g 16 fv' wv' [⟨1, 2, 0, 3⟩] [1, 1, 1]) := t14
  have x13 : w14.cell? ⟨rg, 10, none⟩ = some (.int .u64 5) := by
    have hb := fm.out.block rg (World.block_lt_of_cell? _ _ x12) hne
    unfold World.cell? at x12 ⊢
    rw [hb]; exact x12
  have B14 := Lib.hid (B13.out.trans (fm.out.below (B := w.heap.size) (fun k hk => by rw [hk]; exact Nat.le_trans B0.out.size T14.out.le) (B13.out.size)))
  clear t14 fm x12 T13 B13
  go_wp2_with fail
  refine (renew_bad (n := 0) (c := 0) (A := none) T14.out (by decide)).mono ?_; rintro e w15 ⟨rfl, hb15⟩
  have T15 := Lib.hid (T14.out.below hb15)
  have x14 := (hb15.cell (World.block_lt_of_cell? _ _ x13)).trans x13
  have B15 := Lib.hid (bt B14.out hb15)
  clear hb15 x13 T14 B14
  go_wp2_with fail
  have TD := Lib.hid (T15.out.below (w' := w15.drew) ⟨rfl, rfl, rfl, Nat.le_refl _, fun _ _ => rfl⟩)
  have BD := Lib.hid (bt B15.out (show Below w15.heap.size w15 w15.drew from ⟨rfl, rfl, rfl, Nat.le_refl _, fun _ _ => rfl⟩))
  clear T15 B15
  refine wp_region_held_drew (S := fun w' => w'.cell? ⟨rg, 10, none⟩ = some (.int .u64 5)) (by kernel_rfl) ?_ (fun hHeld => ?_)
  · (try dsimp only); go_keep
  refine wpAnyH_take (i := 0) (oi := { dst := some 70, op := Op.move (Operand.tmp 2), type := 24, pos := _, after := #[], guard := none }) (v := ?v0) rfl (by kernel_rfl) (by kernel_rfl) (by kernel_rfl) (fun _ _ _ h => h) (Or.inl ⟨by rfl, ?hy0⟩) (by assumption) ?_
  case hy0 => (intro wz hSw; (try dsimp only at hSw); go_simp; try with_reducible rfl)
  (try simp only [Act.put, List.setIfInBounds_toArray, List.set_cons_zero, List.set_cons_succ])
  refine wpAnyH_take (i := 1) (oi := { dst := some 71, op := Op.binOp BinOp.eql 24 (Operand.tmp 70) (Operand.const (Value.int IntKind.i64 1)) 24, type := 4, pos := _, after := #[{ on := 0, ground := Ground.data }], guard := none }) (v := ?v1) rfl (by kernel_rfl) (by kernel_rfl) (by kernel_rfl) (fun _ _ _ h => h) (Or.inl ⟨by rfl, ?hy1⟩) (by assumption) ?_
  case hy1 => (intro wz hSw; (try dsimp only at hSw); go_simp; try with_reducible rfl)
  (try simp only [Act.put, List.setIfInBounds_toArray, List.set_cons_zero, List.set_cons_succ])
  refine wpAnyH_take (i := 2) (oi := { dst := some 72, op := Op.move (Operand.tmp 71), type := 4, pos := _, after := #[{ on := 1, ground := Ground.data }], guard := none }) (v := ?v2) rfl (by kernel_rfl) (by kernel_rfl) (by kernel_rfl) (fun _ _ _ h => h) (Or.inl ⟨by rfl, ?hy2⟩) (by assumption) ?_
  case hy2 => (intro wz hSw; (try dsimp only at hSw); go_simp; try with_reducible rfl)
  (try simp only [Act.put, List.setIfInBounds_toArray, List.set_cons_zero, List.set_cons_succ])
  refine wpAnyH_take (i := 3) (oi := { dst := some 73, op := Op.move (Operand.tmp 4), type := 24, pos := _, after := #[{ on := 2, ground := Ground.guard }], guard := some (2, true) }) (v := ?v3) rfl (by kernel_rfl) (by kernel_rfl) (by kernel_rfl) (fun _ _ _ h => h) (Or.inl ⟨by rfl, ?hy3⟩) (by assumption) ?_
  case hy3 => (intro wz hSw; (try dsimp only at hSw); go_simp; try with_reducible rfl)
  (try simp only [Act.put, List.setIfInBounds_toArray, List.set_cons_zero, List.set_cons_succ])
  refine wpAnyH_take (i := 4) (oi := { dst := some 74, op := Op.binOp BinOp.eql 24 (Operand.tmp 73) (Operand.const (Value.int IntKind.i64 1)) 24, type := 4, pos := _, after := #[{ on := 3, ground := Ground.data }, { on := 2, ground := Ground.guard }], guard := some (2, true) }) (v := ?v4) rfl (by kernel_rfl) (by kernel_rfl) (by kernel_rfl) (fun _ _ _ h => h) (Or.inl ⟨by rfl, ?hy4⟩) (by assumption) ?_
  case hy4 => (intro wz hSw; (try dsimp only at hSw); go_simp; try with_reducible rfl)
  (try simp only [Act.put, List.setIfInBounds_toArray, List.set_cons_zero, List.set_cons_succ])
  refine wpAnyH_take (i := 5) (oi := { dst := some 75, op := Op.pick (Operand.tmp 72) (Operand.tmp 74) (Operand.const (Value.bool false)), type := 4, pos := _, after := #[{ on := 2, ground := Ground.data }, { on := 4, ground := Ground.data }], guard := none }) (v := ?v5) rfl (by kernel_rfl) (by kernel_rfl) (by kernel_rfl) (fun _ _ _ h => h) (Or.inl ⟨by rfl, ?hy5⟩) (by assumption) ?_
  case hy5 => (intro wz hSw; (try dsimp only at hSw); go_simp; try with_reducible rfl)
  (try simp only [Act.put, List.setIfInBounds_toArray, List.set_cons_zero, List.set_cons_succ])
  refine wpAnyH_take (i := 6) (oi := { dst := some 76, op := Op.move (Operand.tmp 75), type := 4, pos := _, after := #[{ on := 5, ground := Ground.data }, { on := 2, ground := Ground.chain }], guard := none }) (v := ?v6) rfl (by kernel_rfl) (by kernel_rfl) (by kernel_rfl) (fun _ _ _ h => h) (Or.inl ⟨by rfl, ?hy6⟩) (by assumption) ?_
  case hy6 => (intro wz hSw; (try dsimp only at hSw); go_simp; try with_reducible rfl)
  (try simp only [Act.put, List.setIfInBounds_toArray, List.set_cons_zero, List.set_cons_succ])
  refine wpAnyH_take (i := 7) (oi := { dst := some 77, op := Op.move (Operand.tmp 7), type := 24, pos := _, after := #[{ on := 6, ground := Ground.guard }], guard := some (6, true) }) (v := ?v7) rfl (by kernel_rfl) (by kernel_rfl) (by kernel_rfl) (fun _ _ _ h => h) (Or.inl ⟨by rfl, ?hy7⟩) (by assumption) ?_
  case hy7 => (intro wz hSw; (try dsimp only at hSw); go_simp; try with_reducible rfl)
  (try simp only [Act.put, List.setIfInBounds_toArray, List.set_cons_zero, List.set_cons_succ])
  refine wpAnyH_take (i := 8) (oi := { dst := some 78, op := Op.binOp BinOp.eql 24 (Operand.tmp 77) (Operand.const (Value.int IntKind.i64 1)) 24, type := 4, pos := _, after := #[{ on := 7, ground := Ground.data }, { on := 6, ground := Ground.guard }], guard := some (6, true) }) (v := ?v8) rfl (by kernel_rfl) (by kernel_rfl) (by kernel_rfl) (fun _ _ _ h => h) (Or.inl ⟨by rfl, ?hy8⟩) (by assumption) ?_
  case hy8 => (intro wz hSw; (try dsimp only at hSw); go_simp; try with_reducible rfl)
  (try simp only [Act.put, List.setIfInBounds_toArray, List.set_cons_zero, List.set_cons_succ])
  refine wpAnyH_take (i := 9) (oi := { dst := some 79, op := Op.pick (Operand.tmp 76) (Operand.tmp 78) (Operand.const (Value.bool false)), type := 4, pos := _, after := #[{ on := 6, ground := Ground.data }, { on := 8, ground := Ground.data }], guard := none }) (v := ?v9) rfl (by kernel_rfl) (by kernel_rfl) (by kernel_rfl) (fun _ _ _ h => h) (Or.inl ⟨by rfl, ?hy9⟩) (by assumption) ?_
  case hy9 => (intro wz hSw; (try dsimp only at hSw); go_simp; try with_reducible rfl)
  (try simp only [Act.put, List.setIfInBounds_toArray, List.set_cons_zero, List.set_cons_succ])
  refine wpAnyH_take (i := 10) (oi := { dst := some 80, op := Op.move (Operand.tmp 79), type := 4, pos := _, after := #[{ on := 9, ground := Ground.data }, { on := 6, ground := Ground.chain }], guard := none }) (v := ?v10) rfl (by kernel_rfl) (by kernel_rfl) (by kernel_rfl) (fun _ _ _ h => h) (Or.inl ⟨by rfl, ?hy10⟩) (by assumption) ?_
  case hy10 => (intro wz hSw; (try dsimp only at hSw); go_simp; try with_reducible rfl)
  (try simp only [Act.put, List.setIfInBounds_toArray, List.set_cons_zero, List.set_cons_succ])
  refine wpAnyH_take (i := 11) (oi := { dst := some 81, op := Op.move (Operand.tmp 8), type := 24, pos := _, after := #[{ on := 10, ground := Ground.guard }], guard := some (10, true) }) (v := ?v11) rfl (by kernel_rfl) (by kernel_rfl) (by kernel_rfl) (fun _ _ _ h => h) (Or.inl ⟨by rfl, ?hy11⟩) (by assumption) ?_
  case hy11 => (intro wz hSw; (try dsimp only at hSw); go_simp; try with_reducible rfl)
  (try simp only [Act.put, List.setIfInBounds_toArray, List.set_cons_zero, List.set_cons_succ])
  refine wpAnyH_take (i := 12) (oi := { dst := some 82, op := Op.binOp BinOp.eql 24 (Operand.tmp 81) (Operand.const (Value.int IntKind.i64 9)) 24, type := 4, pos := _, after := #[{ on := 11, ground := Ground.data }, { on := 10, ground := Ground.guard }], guard := some (10, true) }) (v := ?v12) rfl (by kernel_rfl) (by kernel_rfl) (by kernel_rfl) (fun _ _ _ h => h) (Or.inl ⟨by rfl, ?hy12⟩) (by assumption) ?_
  case hy12 => (intro wz hSw; (try dsimp only at hSw); go_simp; try with_reducible rfl)
  (try simp only [Act.put, List.setIfInBounds_toArray, List.set_cons_zero, List.set_cons_succ])
  refine wpAnyH_take (i := 13) (oi := { dst := some 83, op := Op.pick (Operand.tmp 80) (Operand.tmp 82) (Operand.const (Value.bool false)), type := 4, pos := _, after := #[{ on := 10, ground := Ground.data }, { on := 12, ground := Ground.data }], guard := none }) (v := ?v13) rfl (by kernel_rfl) (by kernel_rfl) (by kernel_rfl) (fun _ _ _ h => h) (Or.inl ⟨by rfl, ?hy13⟩) (by assumption) ?_
  case hy13 => (intro wz hSw; (try dsimp only at hSw); go_simp; try with_reducible rfl)
  (try simp only [Act.put, List.setIfInBounds_toArray, List.set_cons_zero, List.set_cons_succ])
  refine wpAnyH_take (i := 14) (oi := { dst := some 84, op := Op.move (Operand.tmp 83), type := 4, pos := _, after := #[{ on := 13, ground := Ground.data }, { on := 10, ground := Ground.chain }], guard := none }) (v := ?v14) rfl (by kernel_rfl) (by kernel_rfl) (by kernel_rfl) (fun _ _ _ h => h) (Or.inl ⟨by rfl, ?hy14⟩) (by assumption) ?_
  case hy14 => (intro wz hSw; (try dsimp only at hSw); go_simp; try with_reducible rfl)
  (try simp only [Act.put, List.setIfInBounds_toArray, List.set_cons_zero, List.set_cons_succ])
  refine wpAnyH_take (i := 15) (oi := { dst := some 85, op := Op.move (Operand.tmp 9), type := 24, pos := _, after := #[{ on := 14, ground := Ground.guard }], guard := some (14, true) }) (v := ?v15) rfl (by kernel_rfl) (by kernel_rfl) (by kernel_rfl) (fun _ _ _ h => h) (Or.inl ⟨by rfl, ?hy15⟩) (by assumption) ?_
  case hy15 => (intro wz hSw; (try dsimp only at hSw); go_simp; try with_reducible rfl)
  (try simp only [Act.put, List.setIfInBounds_toArray, List.set_cons_zero, List.set_cons_succ])
  refine wpAnyH_take (i := 16) (oi := { dst := some 86, op := Op.binOp BinOp.eql 24 (Operand.tmp 85) (Operand.const (Value.int IntKind.i64 0)) 24, type := 4, pos := _, after := #[{ on := 15, ground := Ground.data }, { on := 14, ground := Ground.guard }], guard := some (14, true) }) (v := ?v16) rfl (by kernel_rfl) (by kernel_rfl) (by kernel_rfl) (fun _ _ _ h => h) (Or.inl ⟨by rfl, ?hy16⟩) (by assumption) ?_
  case hy16 => (intro wz hSw; (try dsimp only at hSw); go_simp; try with_reducible rfl)
  (try simp only [Act.put, List.setIfInBounds_toArray, List.set_cons_zero, List.set_cons_succ])
  refine wpAnyH_take (i := 17) (oi := { dst := some 87, op := Op.pick (Operand.tmp 84) (Operand.tmp 86) (Operand.const (Value.bool false)), type := 4, pos := _, after := #[{ on := 14, ground := Ground.data }, { on := 16, ground := Ground.data }], guard := none }) (v := ?v17) rfl (by kernel_rfl) (by kernel_rfl) (by kernel_rfl) (fun _ _ _ h => h) (Or.inl ⟨by rfl, ?hy17⟩) (by assumption) ?_
  case hy17 => (intro wz hSw; (try dsimp only at hSw); go_simp; try with_reducible rfl)
  (try simp only [Act.put, List.setIfInBounds_toArray, List.set_cons_zero, List.set_cons_succ])
  refine wpAnyH_take (i := 18) (oi := { dst := some 88, op := Op.move (Operand.tmp 87), type := 4, pos := _, after := #[{ on := 17, ground := Ground.data }, { on := 14, ground := Ground.chain }], guard := none }) (v := ?v18) rfl (by kernel_rfl) (by kernel_rfl) (by kernel_rfl) (fun _ _ _ h => h) (Or.inl ⟨by rfl, ?hy18⟩) (by assumption) ?_
  case hy18 => (intro wz hSw; (try dsimp only at hSw); go_simp; try with_reducible rfl)
  (try simp only [Act.put, List.setIfInBounds_toArray, List.set_cons_zero, List.set_cons_succ])
  refine wpAnyH_take (i := 19) (oi := { dst := some 89, op := Op.move (Operand.tmp 10), type := 24, pos := _, after := #[{ on := 18, ground := Ground.guard }], guard := some (18, true) }) (v := ?v19) rfl (by kernel_rfl) (by kernel_rfl) (by kernel_rfl) (fun _ _ _ h => h) (Or.inl ⟨by rfl, ?hy19⟩) (by assumption) ?_
  case hy19 => (intro wz hSw; (try dsimp only at hSw); go_simp; try with_reducible rfl)
  (try simp only [Act.put, List.setIfInBounds_toArray, List.set_cons_zero, List.set_cons_succ])
  refine wpAnyH_take (i := 20) (oi := { dst := some 90, op := Op.binOp BinOp.eql 24 (Operand.tmp 89) (Operand.const (Value.int IntKind.i64 0)) 24, type := 4, pos := _, after := #[{ on := 19, ground := Ground.data }, { on := 18, ground := Ground.guard }], guard := some (18, true) }) (v := ?v20) rfl (by kernel_rfl) (by kernel_rfl) (by kernel_rfl) (fun _ _ _ h => h) (Or.inl ⟨by rfl, ?hy20⟩) (by assumption) ?_
  case hy20 => (intro wz hSw; (try dsimp only at hSw); go_simp; try with_reducible rfl)
  (try simp only [Act.put, List.setIfInBounds_toArray, List.set_cons_zero, List.set_cons_succ])
  refine wpAnyH_take (i := 21) (oi := { dst := some 91, op := Op.pick (Operand.tmp 88) (Operand.tmp 90) (Operand.const (Value.bool false)), type := 4, pos := _, after := #[{ on := 18, ground := Ground.data }, { on := 20, ground := Ground.data }], guard := none }) (v := ?v21) rfl (by kernel_rfl) (by kernel_rfl) (by kernel_rfl) (fun _ _ _ h => h) (Or.inl ⟨by rfl, ?hy21⟩) (by assumption) ?_
  case hy21 => (intro wz hSw; (try dsimp only at hSw); go_simp; try with_reducible rfl)
  (try simp only [Act.put, List.setIfInBounds_toArray, List.set_cons_zero, List.set_cons_succ])
  refine wpAnyH_take (i := 22) (oi := { dst := some 92, op := Op.move (Operand.tmp 91), type := 4, pos := _, after := #[{ on := 21, ground := Ground.data }, { on := 18, ground := Ground.chain }], guard := none }) (v := ?v22) rfl (by kernel_rfl) (by kernel_rfl) (by kernel_rfl) (fun _ _ _ h => h) (Or.inl ⟨by rfl, ?hy22⟩) (by assumption) ?_
  case hy22 => (intro wz hSw; (try dsimp only at hSw); go_simp; try with_reducible rfl)
  (try simp only [Act.put, List.setIfInBounds_toArray, List.set_cons_zero, List.set_cons_succ])
  refine wpAnyH_take (i := 23) (oi := { dst := some 93, op := Op.move (Operand.tmp 11), type := 24, pos := _, after := #[{ on := 22, ground := Ground.guard }], guard := some (22, true) }) (v := ?v23) rfl (by kernel_rfl) (by kernel_rfl) (by kernel_rfl) (fun _ _ _ h => h) (Or.inl ⟨by rfl, ?hy23⟩) (by assumption) ?_
  case hy23 => (intro wz hSw; (try dsimp only at hSw); go_simp; try with_reducible rfl)
  (try simp only [Act.put, List.setIfInBounds_toArray, List.set_cons_zero, List.set_cons_succ])
  refine wpAnyH_take (i := 24) (oi := { dst := some 94, op := Op.binOp BinOp.eql 24 (Operand.tmp 93) (Operand.const (Value.int IntKind.i64 0)) 24, type := 4, pos := _, after := #[{ on := 23, ground := Ground.data }, { on := 22, ground := Ground.guard }], guard := some (22, true) }) (v := ?v24) rfl (by kernel_rfl) (by kernel_rfl) (by kernel_rfl) (fun _ _ _ h => h) (Or.inl ⟨by rfl, ?hy24⟩) (by assumption) ?_
  case hy24 => (intro wz hSw; (try dsimp only at hSw); go_simp; try with_reducible rfl)
  (try simp only [Act.put, List.setIfInBounds_toArray, List.set_cons_zero, List.set_cons_succ])
  refine wpAnyH_take (i := 25) (oi := { dst := some 95, op := Op.pick (Operand.tmp 92) (Operand.tmp 94) (Operand.const (Value.bool false)), type := 4, pos := _, after := #[{ on := 22, ground := Ground.data }, { on := 24, ground := Ground.data }], guard := none }) (v := ?v25) rfl (by kernel_rfl) (by kernel_rfl) (by kernel_rfl) (fun _ _ _ h => h) (Or.inl ⟨by rfl, ?hy25⟩) (by assumption) ?_
  case hy25 => (intro wz hSw; (try dsimp only at hSw); go_simp; try with_reducible rfl)
  (try simp only [Act.put, List.setIfInBounds_toArray, List.set_cons_zero, List.set_cons_succ])
  refine wpAnyH_take (i := 26) (oi := { dst := some 96, op := Op.move (Operand.tmp 95), type := 4, pos := _, after := #[{ on := 25, ground := Ground.data }, { on := 22, ground := Ground.chain }], guard := none }) (v := ?v26) rfl (by kernel_rfl) (by kernel_rfl) (by kernel_rfl) (fun _ _ _ h => h) (Or.inl ⟨by rfl, ?hy26⟩) (by assumption) ?_
  case hy26 => (intro wz hSw; (try dsimp only at hSw); go_simp; try with_reducible rfl)
  (try simp only [Act.put, List.setIfInBounds_toArray, List.set_cons_zero, List.set_cons_succ])
  refine wpAnyH_take (i := 27) (oi := { dst := some 97, op := Op.move (Operand.tmp 12), type := 24, pos := _, after := #[{ on := 26, ground := Ground.guard }], guard := some (26, true) }) (v := ?v27) rfl (by kernel_rfl) (by kernel_rfl) (by kernel_rfl) (fun _ _ _ h => h) (Or.inl ⟨by rfl, ?hy27⟩) (by assumption) ?_
  case hy27 => (intro wz hSw; (try dsimp only at hSw); go_simp; try with_reducible rfl)
  (try simp only [Act.put, List.setIfInBounds_toArray, List.set_cons_zero, List.set_cons_succ])
  refine wpAnyH_take (i := 28) (oi := { dst := some 98, op := Op.binOp BinOp.eql 24 (Operand.tmp 97) (Operand.const (Value.int IntKind.i64 9)) 24, type := 4, pos := _, after := #[{ on := 27, ground := Ground.data }, { on := 26, ground := Ground.guard }], guard := some (26, true) }) (v := ?v28) rfl (by kernel_rfl) (by kernel_rfl) (by kernel_rfl) (fun _ _ _ h => h) (Or.inl ⟨by rfl, ?hy28⟩) (by assumption) ?_
  case hy28 => (intro wz hSw; (try dsimp only at hSw); go_simp; try with_reducible rfl)
  (try simp only [Act.put, List.setIfInBounds_toArray, List.set_cons_zero, List.set_cons_succ])
  refine wpAnyH_take (i := 29) (oi := { dst := some 99, op := Op.pick (Operand.tmp 96) (Operand.tmp 98) (Operand.const (Value.bool false)), type := 4, pos := _, after := #[{ on := 26, ground := Ground.data }, { on := 28, ground := Ground.data }], guard := none }) (v := ?v29) rfl (by kernel_rfl) (by kernel_rfl) (by kernel_rfl) (fun _ _ _ h => h) (Or.inl ⟨by rfl, ?hy29⟩) (by assumption) ?_
  case hy29 => (intro wz hSw; (try dsimp only at hSw); go_simp; try with_reducible rfl)
  (try simp only [Act.put, List.setIfInBounds_toArray, List.set_cons_zero, List.set_cons_succ])
  refine wpAnyH_take (i := 30) (oi := { dst := some 100, op := Op.move (Operand.tmp 99), type := 4, pos := _, after := #[{ on := 29, ground := Ground.data }, { on := 26, ground := Ground.chain }], guard := none }) (v := ?v30) rfl (by kernel_rfl) (by kernel_rfl) (by kernel_rfl) (fun _ _ _ h => h) (Or.inl ⟨by rfl, ?hy30⟩) (by assumption) ?_
  case hy30 => (intro wz hSw; (try dsimp only at hSw); go_simp; try with_reducible rfl)
  (try simp only [Act.put, List.setIfInBounds_toArray, List.set_cons_zero, List.set_cons_succ])
  refine wpAnyH_take (i := 31) (oi := { dst := some 101, op := Op.move (Operand.tmp 13), type := 30, pos := _, after := #[{ on := 30, ground := Ground.guard }], guard := some (30, true) }) (v := ?v31) rfl (by kernel_rfl) (by kernel_rfl) (by kernel_rfl) (fun _ _ _ h => h) (Or.inl ⟨by rfl, ?hy31⟩) (by assumption) ?_
  case hy31 => (intro wz hSw; (try dsimp only at hSw); go_simp; try with_reducible rfl)
  (try simp only [Act.put, List.setIfInBounds_toArray, List.set_cons_zero, List.set_cons_succ])
  refine wpAnyH_ready (rs := [32]) (by kernel_rfl) (by simp) ?_
  refine AllReadyH.cons (o := { dst := some 102, op := Op.call { callee := Callee.value (Operand.func 11), args := #[Operand.const (Value.int IntKind.i64 0)], argTypes := #[2] }, type := 30, pos := _, after := #[{ on := 30, ground := Ground.chain }, { on := 30, ground := Ground.guard }], guard := some (30, true) }) rfl (fun K hK => ?_) AllReadyH.nil
  go_simp
  refine (num0 _).mono ?_; rintro e w16 ⟨rfl, rfl⟩
  go_wp2_with fail
  refine hK.out _ _ ?_ (fun hHeld => ?_)
  · (try dsimp only); go_keep
  clear hK K
  (try simp only [Act.put, List.setIfInBounds_toArray, List.set_cons_zero, List.set_cons_succ])
  refine wpAnyH_take (i := 33) (oi := { dst := some 103, op := Op.binOp BinOp.eql 30 (Operand.tmp 101) (Operand.tmp 102) 30, type := 4, pos := _, after := #[{ on := 31, ground := Ground.data }, { on := 32, ground := Ground.data }, { on := 30, ground := Ground.guard }], guard := some (30, true) }) (v := ?v33) rfl (by kernel_rfl) (by kernel_rfl) (by kernel_rfl) (fun _ _ _ h => h) (Or.inl ⟨by rfl, ?hy33⟩) (by assumption) ?_
  case hy33 => (intro wz hSw; (try dsimp only at hSw); go_simp; try with_reducible rfl)
  (try simp only [Act.put, List.setIfInBounds_toArray, List.set_cons_zero, List.set_cons_succ])
  refine wpAnyH_take (i := 34) (oi := { dst := some 104, op := Op.pick (Operand.tmp 100) (Operand.tmp 103) (Operand.const (Value.bool false)), type := 4, pos := _, after := #[{ on := 30, ground := Ground.data }, { on := 33, ground := Ground.data }], guard := none }) (v := ?v34) rfl (by kernel_rfl) (by kernel_rfl) (by kernel_rfl) (fun _ _ _ h => h) (Or.inl ⟨by rfl, ?hy34⟩) (by assumption) ?_
  case hy34 => (intro wz hSw; (try dsimp only at hSw); go_simp; try with_reducible rfl)
  (try simp only [Act.put, List.setIfInBounds_toArray, List.set_cons_zero, List.set_cons_succ])
  refine wpAnyH_take (i := 35) (oi := { dst := some 105, op := Op.move (Operand.tmp 104), type := 4, pos := _, after := #[{ on := 34, ground := Ground.data }, { on := 32, ground := Ground.chain }], guard := none }) (v := ?v35) rfl (by kernel_rfl) (by kernel_rfl) (by kernel_rfl) (fun _ _ _ h => h) (Or.inl ⟨by rfl, ?hy35⟩) (by assumption) ?_
  case hy35 => (intro wz hSw; (try dsimp only at hSw); go_simp; try with_reducible rfl)
  (try simp only [Act.put, List.setIfInBounds_toArray, List.set_cons_zero, List.set_cons_succ])
  refine wpAnyH_take (i := 36) (oi := { dst := some 106, op := Op.move (Operand.tmp 14), type := 24, pos := _, after := #[{ on := 35, ground := Ground.guard }], guard := some (35, true) }) (v := ?v36) rfl (by kernel_rfl) (by kernel_rfl) (by kernel_rfl) (fun _ _ _ h => h) (Or.inl ⟨by rfl, ?hy36⟩) (by assumption) ?_
  case hy36 => (intro wz hSw; (try dsimp only at hSw); go_simp; try with_reducible rfl)
  (try simp only [Act.put, List.setIfInBounds_toArray, List.set_cons_zero, List.set_cons_succ])
  refine wpAnyH_take (i := 37) (oi := { dst := some 107, op := Op.binOp BinOp.eql 24 (Operand.tmp 106) (Operand.const (Value.int IntKind.i64 0)) 24, type := 4, pos := _, after := #[{ on := 36, ground := Ground.data }, { on := 35, ground := Ground.guard }], guard := some (35, true) }) (v := ?v37) rfl (by kernel_rfl) (by kernel_rfl) (by kernel_rfl) (fun _ _ _ h => h) (Or.inl ⟨by rfl, ?hy37⟩) (by assumption) ?_
  case hy37 => (intro wz hSw; (try dsimp only at hSw); go_simp; try with_reducible rfl)
  (try simp only [Act.put, List.setIfInBounds_toArray, List.set_cons_zero, List.set_cons_succ])
  refine wpAnyH_take (i := 38) (oi := { dst := some 108, op := Op.pick (Operand.tmp 105) (Operand.tmp 107) (Operand.const (Value.bool false)), type := 4, pos := _, after := #[{ on := 35, ground := Ground.data }, { on := 37, ground := Ground.data }], guard := none }) (v := ?v38) rfl (by kernel_rfl) (by kernel_rfl) (by kernel_rfl) (fun _ _ _ h => h) (Or.inl ⟨by rfl, ?hy38⟩) (by assumption) ?_
  case hy38 => (intro wz hSw; (try dsimp only at hSw); go_simp; try with_reducible rfl)
  (try simp only [Act.put, List.setIfInBounds_toArray, List.set_cons_zero, List.set_cons_succ])
  refine wpAnyH_take (i := 39) (oi := { dst := some 109, op := Op.move (Operand.tmp 108), type := 4, pos := _, after := #[{ on := 38, ground := Ground.data }, { on := 35, ground := Ground.chain }], guard := none }) (v := ?v39) rfl (by kernel_rfl) (by kernel_rfl) (by kernel_rfl) (fun _ _ _ h => h) (Or.inl ⟨by rfl, ?hy39⟩) (by assumption) ?_
  case hy39 => (intro wz hSw; (try dsimp only at hSw); go_simp; try with_reducible rfl)
  (try simp only [Act.put, List.setIfInBounds_toArray, List.set_cons_zero, List.set_cons_succ])
  refine wpAnyH_take (i := 40) (oi := { dst := some 110, op := Op.move (Operand.tmp 15), type := 24, pos := _, after := #[{ on := 39, ground := Ground.guard }], guard := some (39, true) }) (v := ?v40) rfl (by kernel_rfl) (by kernel_rfl) (by kernel_rfl) (fun _ _ _ h => h) (Or.inl ⟨by rfl, ?hy40⟩) (by assumption) ?_
  case hy40 => (intro wz hSw; (try dsimp only at hSw); go_simp; try with_reducible rfl)
  (try simp only [Act.put, List.setIfInBounds_toArray, List.set_cons_zero, List.set_cons_succ])
  refine wpAnyH_take (i := 41) (oi := { dst := some 111, op := Op.binOp BinOp.eql 24 (Operand.tmp 110) (Operand.const (Value.int IntKind.i64 1)) 24, type := 4, pos := _, after := #[{ on := 40, ground := Ground.data }, { on := 39, ground := Ground.guard }], guard := some (39, true) }) (v := ?v41) rfl (by kernel_rfl) (by kernel_rfl) (by kernel_rfl) (fun _ _ _ h => h) (Or.inl ⟨by rfl, ?hy41⟩) (by assumption) ?_
  case hy41 => (intro wz hSw; (try dsimp only at hSw); go_simp; try with_reducible rfl)
  (try simp only [Act.put, List.setIfInBounds_toArray, List.set_cons_zero, List.set_cons_succ])
  refine wpAnyH_take (i := 42) (oi := { dst := some 112, op := Op.pick (Operand.tmp 109) (Operand.tmp 111) (Operand.const (Value.bool false)), type := 4, pos := _, after := #[{ on := 39, ground := Ground.data }, { on := 41, ground := Ground.data }], guard := none }) (v := ?v42) rfl (by kernel_rfl) (by kernel_rfl) (by kernel_rfl) (fun _ _ _ h => h) (Or.inl ⟨by rfl, ?hy42⟩) (by assumption) ?_
  case hy42 => (intro wz hSw; (try dsimp only at hSw); go_simp; try with_reducible rfl)
  (try simp only [Act.put, List.setIfInBounds_toArray, List.set_cons_zero, List.set_cons_succ])
  refine wpAnyH_take (i := 43) (oi := { dst := some 113, op := Op.move (Operand.tmp 112), type := 4, pos := _, after := #[{ on := 42, ground := Ground.data }, { on := 39, ground := Ground.chain }], guard := none }) (v := ?v43) rfl (by kernel_rfl) (by kernel_rfl) (by kernel_rfl) (fun _ _ _ h => h) (Or.inl ⟨by rfl, ?hy43⟩) (by assumption) ?_
  case hy43 => (intro wz hSw; (try dsimp only at hSw); go_simp; try with_reducible rfl)
  (try simp only [Act.put, List.setIfInBounds_toArray, List.set_cons_zero, List.set_cons_succ])
  refine wpAnyH_take (i := 44) (oi := { dst := some 114, op := Op.move (Operand.tmp 16), type := 35, pos := _, after := #[{ on := 43, ground := Ground.guard }], guard := some (43, true) }) (v := ?v44) rfl (by kernel_rfl) (by kernel_rfl) (by kernel_rfl) (fun _ _ _ h => h) (Or.inl ⟨by rfl, ?hy44⟩) (by assumption) ?_
  case hy44 => (intro wz hSw; (try dsimp only at hSw); go_simp; try with_reducible rfl)
  (try simp only [Act.put, List.setIfInBounds_toArray, List.set_cons_zero, List.set_cons_succ])
  refine wpAnyH_take (i := 45) (oi := { dst := some 115, op := Op.call { callee := Callee.builtin Builtin.len, args := #[Operand.tmp 114], argTypes := #[35] }, type := 3, pos := _, after := #[{ on := 44, ground := Ground.data }, { on := 43, ground := Ground.guard }], guard := some (43, true) }) (v := ?v45) rfl (by kernel_rfl) (by kernel_rfl) (by kernel_rfl) (fun _ _ _ h => h) (Or.inl ⟨by rfl, ?hy45⟩) (by assumption) ?_
  case hy45 => (intro wz hSw; (try dsimp only at hSw); go_simp; try with_reducible rfl)
  (try simp only [Act.put, List.setIfInBounds_toArray, List.set_cons_zero, List.set_cons_succ])
  refine wpAnyH_take (i := 46) (oi := { dst := some 116, op := Op.binOp BinOp.eql 3 (Operand.tmp 115) (Operand.const (Value.int IntKind.i64 12)) 3, type := 4, pos := _, after := #[{ on := 45, ground := Ground.data }, { on := 43, ground := Ground.guard }], guard := some (43, true) }) (v := ?v46) rfl (by kernel_rfl) (by kernel_rfl) (by kernel_rfl) (fun _ _ _ h => h) (Or.inl ⟨by rfl, ?hy46⟩) (by assumption) ?_
  case hy46 => (intro wz hSw; (try dsimp only at hSw); go_simp; try with_reducible rfl)
  (try simp only [Act.put, List.setIfInBounds_toArray, List.set_cons_zero, List.set_cons_succ])
  refine wpAnyH_take (i := 47) (oi := { dst := some 117, op := Op.pick (Operand.tmp 113) (Operand.tmp 116) (Operand.const (Value.bool false)), type := 4, pos := _, after := #[{ on := 43, ground := Ground.data }, { on := 46, ground := Ground.data }], guard := none }) (v := ?v47) rfl (by kernel_rfl) (by kernel_rfl) (by kernel_rfl) (fun _ _ _ h => h) (Or.inl ⟨by rfl, ?hy47⟩) (by assumption) ?_
  case hy47 => (intro wz hSw; (try dsimp only at hSw); go_simp; try with_reducible rfl)
  (try simp only [Act.put, List.setIfInBounds_toArray, List.set_cons_zero, List.set_cons_succ])
  refine wpAnyH_take (i := 48) (oi := { dst := some 118, op := Op.move (Operand.tmp 117), type := 4, pos := _, after := #[{ on := 47, ground := Ground.data }, { on := 43, ground := Ground.chain }], guard := none }) (v := ?v48) rfl (by kernel_rfl) (by kernel_rfl) (by kernel_rfl) (fun _ _ _ h => h) (Or.inl ⟨by rfl, ?hy48⟩) (by assumption) ?_
  case hy48 => (intro wz hSw; (try dsimp only at hSw); go_simp; try with_reducible rfl)
  (try simp only [Act.put, List.setIfInBounds_toArray, List.set_cons_zero, List.set_cons_succ])
  refine wpAnyH_take (i := 49) (oi := { dst := some 119, op := Op.move (Operand.tmp 16), type := 35, pos := _, after := #[{ on := 48, ground := Ground.guard }], guard := some (48, true) }) (v := ?v49) rfl (by kernel_rfl) (by kernel_rfl) (by kernel_rfl) (fun _ _ _ h => h) (Or.inl ⟨by rfl, ?hy49⟩) (by assumption) ?_
  case hy49 => (intro wz hSw; (try dsimp only at hSw); go_simp; try with_reducible rfl)
  (try simp only [Act.put, List.setIfInBounds_toArray, List.set_cons_zero, List.set_cons_succ])
  refine wpAnyH_take (i := 50) (oi := { dst := some 120, op := Op.indexAddr 35 (Operand.tmp 119) (Operand.const (Value.int IntKind.i64 10)), type := 0, pos := _, after := #[{ on := 49, ground := Ground.data }, { on := 48, ground := Ground.guard }], guard := some (48, true) }) (v := ?v50) rfl (by kernel_rfl) (by kernel_rfl) (by kernel_rfl) (fun _ _ _ h => h) (Or.inl ⟨by rfl, ?hy50⟩) (by assumption) ?_
  case hy50 => (intro wz hSw; (try dsimp only at hSw); go_simp; try with_reducible rfl)
  (try simp only [Act.put, List.setIfInBounds_toArray, List.set_cons_zero, List.set_cons_succ])
  refine wpAnyH_take (i := 51) (oi := { dst := some 121, op := Op.load 30 (Operand.tmp 120), type := 30, pos := _, after := #[{ on := 50, ground := Ground.data }, { on := 48, ground := Ground.guard }], guard := some (48, true) }) (v := ?v51) rfl (by kernel_rfl) (by kernel_rfl) (by kernel_rfl) (fun _ _ _ h => h) (Or.inl ⟨by rfl, ?hy51⟩) (by assumption) ?_
  case hy51 => (intro wz hSw; (try dsimp only at hSw); go_simp; try with_reducible rfl)
  (try simp only [Act.put, List.setIfInBounds_toArray, List.set_cons_zero, List.set_cons_succ])
  refine wpAnyH_ready (rs := [52]) (by kernel_rfl) (by simp) ?_
  refine AllReadyH.cons (o := { dst := some 122, op := Op.call { callee := Callee.value (Operand.func 11), args := #[Operand.const (Value.int IntKind.i64 2)], argTypes := #[2] }, type := 30, pos := _, after := #[{ on := 48, ground := Ground.chain }, { on := 48, ground := Ground.guard }], guard := some (48, true) }) rfl (fun K hK => ?_) AllReadyH.nil
  go_simp
  refine (num2 _).mono ?_; rintro e w16 ⟨rfl, rfl⟩
  go_wp2_with fail
  refine hK.out _ _ ?_ (fun hHeld => ?_)
  · (try dsimp only); go_keep
  clear hK K
  (try simp only [Act.put, List.setIfInBounds_toArray, List.set_cons_zero, List.set_cons_succ])
  refine wpAnyH_take (i := 53) (oi := { dst := some 123, op := Op.binOp BinOp.eql 30 (Operand.tmp 121) (Operand.tmp 122) 30, type := 4, pos := _, after := #[{ on := 51, ground := Ground.data }, { on := 52, ground := Ground.data }, { on := 48, ground := Ground.guard }], guard := some (48, true) }) (v := ?v53) rfl (by kernel_rfl) (by kernel_rfl) (by kernel_rfl) (fun _ _ _ h => h) (Or.inl ⟨by rfl, ?hy53⟩) (by assumption) ?_
  case hy53 => (intro wz hSw; (try dsimp only at hSw); go_simp; try with_reducible rfl)
  (try simp only [Act.put, List.setIfInBounds_toArray, List.set_cons_zero, List.set_cons_succ])
  refine wpAnyH_take (i := 54) (oi := { dst := some 124, op := Op.pick (Operand.tmp 118) (Operand.tmp 123) (Operand.const (Value.bool false)), type := 4, pos := _, after := #[{ on := 48, ground := Ground.data }, { on := 53, ground := Ground.data }], guard := none }) (v := ?v54) rfl (by kernel_rfl) (by kernel_rfl) (by kernel_rfl) (fun _ _ _ h => h) (Or.inl ⟨by rfl, ?hy54⟩) (by assumption) ?_
  case hy54 => (intro wz hSw; (try dsimp only at hSw); go_simp; try with_reducible rfl)
  (try simp only [Act.put, List.setIfInBounds_toArray, List.set_cons_zero, List.set_cons_succ])
  refine wpAnyH_take (i := 55) (oi := { dst := some 125, op := Op.move (Operand.tmp 124), type := 4, pos := _, after := #[{ on := 54, ground := Ground.data }, { on := 52, ground := Ground.chain }], guard := none }) (v := ?v55) rfl (by kernel_rfl) (by kernel_rfl) (by kernel_rfl) (fun _ _ _ h => h) (Or.inl ⟨by rfl, ?hy55⟩) (by assumption) ?_
  case hy55 => (intro wz hSw; (try dsimp only at hSw); go_simp; try with_reducible rfl)
  (try simp only [Act.put, List.setIfInBounds_toArray, List.set_cons_zero, List.set_cons_succ])
  refine wpAnyH_take (i := 56) (oi := { dst := some 126, op := Op.move (Operand.tmp 17), type := 24, pos := _, after := #[{ on := 55, ground := Ground.guard }], guard := some (55, true) }) (v := ?v56) rfl (by kernel_rfl) (by kernel_rfl) (by kernel_rfl) (fun _ _ _ h => h) (Or.inl ⟨by rfl, ?hy56⟩) (by assumption) ?_
  case hy56 => (intro wz hSw; (try dsimp only at hSw); go_simp; try with_reducible rfl)
  (try simp only [Act.put, List.setIfInBounds_toArray, List.set_cons_zero, List.set_cons_succ])
  refine wpAnyH_take (i := 57) (oi := { dst := some 127, op := Op.binOp BinOp.eql 24 (Operand.tmp 126) (Operand.const (Value.int IntKind.i64 1)) 24, type := 4, pos := _, after := #[{ on := 56, ground := Ground.data }, { on := 55, ground := Ground.guard }], guard := some (55, true) }) (v := ?v57) rfl (by kernel_rfl) (by kernel_rfl) (by kernel_rfl) (fun _ _ _ h => h) (Or.inl ⟨by rfl, ?hy57⟩) (by assumption) ?_
  case hy57 => (intro wz hSw; (try dsimp only at hSw); go_simp; try with_reducible rfl)
  (try simp only [Act.put, List.setIfInBounds_toArray, List.set_cons_zero, List.set_cons_succ])
  refine wpAnyH_take (i := 58) (oi := { dst := some 128, op := Op.pick (Operand.tmp 125) (Operand.tmp 127) (Operand.const (Value.bool false)), type := 4, pos := _, after := #[{ on := 55, ground := Ground.data }, { on := 57, ground := Ground.data }], guard := none }) (v := ?v58) rfl (by kernel_rfl) (by kernel_rfl) (by kernel_rfl) (fun _ _ _ h => h) (Or.inl ⟨by rfl, ?hy58⟩) (by assumption) ?_
  case hy58 => (intro wz hSw; (try dsimp only at hSw); go_simp; try with_reducible rfl)
  (try simp only [Act.put, List.setIfInBounds_toArray, List.set_cons_zero, List.set_cons_succ])
  refine wpAnyH_take (i := 59) (oi := { dst := some 129, op := Op.move (Operand.tmp 128), type := 4, pos := _, after := #[{ on := 58, ground := Ground.data }, { on := 55, ground := Ground.chain }], guard := none }) (v := ?v59) rfl (by kernel_rfl) (by kernel_rfl) (by kernel_rfl) (fun _ _ _ h => h) (Or.inl ⟨by rfl, ?hy59⟩) (by assumption) ?_
  case hy59 => (intro wz hSw; (try dsimp only at hSw); go_simp; try with_reducible rfl)
  (try simp only [Act.put, List.setIfInBounds_toArray, List.set_cons_zero, List.set_cons_succ])
  refine wpAnyH_take (i := 60) (oi := { dst := some 130, op := Op.move (Operand.tmp 18), type := 24, pos := _, after := #[{ on := 59, ground := Ground.guard }], guard := some (59, true) }) (v := ?v60) rfl (by kernel_rfl) (by kernel_rfl) (by kernel_rfl) (fun _ _ _ h => h) (Or.inl ⟨by rfl, ?hy60⟩) (by assumption) ?_
  case hy60 => (intro wz hSw; (try dsimp only at hSw); go_simp; try with_reducible rfl)
  (try simp only [Act.put, List.setIfInBounds_toArray, List.set_cons_zero, List.set_cons_succ])
  refine wpAnyH_take (i := 61) (oi := { dst := some 131, op := Op.binOp BinOp.eql 24 (Operand.tmp 130) (Operand.const (Value.int IntKind.i64 1)) 24, type := 4, pos := _, after := #[{ on := 60, ground := Ground.data }, { on := 59, ground := Ground.guard }], guard := some (59, true) }) (v := ?v61) rfl (by kernel_rfl) (by kernel_rfl) (by kernel_rfl) (fun _ _ _ h => h) (Or.inl ⟨by rfl, ?hy61⟩) (by assumption) ?_
  case hy61 => (intro wz hSw; (try dsimp only at hSw); go_simp; try with_reducible rfl)
  (try simp only [Act.put, List.setIfInBounds_toArray, List.set_cons_zero, List.set_cons_succ])
  refine wpAnyH_take (i := 62) (oi := { dst := some 132, op := Op.pick (Operand.tmp 129) (Operand.tmp 131) (Operand.const (Value.bool false)), type := 4, pos := _, after := #[{ on := 59, ground := Ground.data }, { on := 61, ground := Ground.data }], guard := none }) (v := ?v62) rfl (by kernel_rfl) (by kernel_rfl) (by kernel_rfl) (fun _ _ _ h => h) (Or.inl ⟨by rfl, ?hy62⟩) (by assumption) ?_
  case hy62 => (intro wz hSw; (try dsimp only at hSw); go_simp; try with_reducible rfl)
  (try simp only [Act.put, List.setIfInBounds_toArray, List.set_cons_zero, List.set_cons_succ])
  refine wpAnyH_take (i := 63) (oi := { dst := some 133, op := Op.move (Operand.tmp 132), type := 4, pos := _, after := #[{ on := 62, ground := Ground.data }, { on := 59, ground := Ground.chain }], guard := none }) (v := ?v63) rfl (by kernel_rfl) (by kernel_rfl) (by kernel_rfl) (fun _ _ _ h => h) (Or.inl ⟨by rfl, ?hy63⟩) (by assumption) ?_
  case hy63 => (intro wz hSw; (try dsimp only at hSw); go_simp; try with_reducible rfl)
  (try simp only [Act.put, List.setIfInBounds_toArray, List.set_cons_zero, List.set_cons_succ])
  refine wpAnyH_take (i := 64) (oi := { dst := some 134, op := Op.move (Operand.tmp 19), type := 24, pos := _, after := #[{ on := 63, ground := Ground.guard }], guard := some (63, true) }) (v := ?v64) rfl (by kernel_rfl) (by kernel_rfl) (by kernel_rfl) (fun _ _ _ h => h) (Or.inl ⟨by rfl, ?hy64⟩) (by assumption) ?_
  case hy64 => (intro wz hSw; (try dsimp only at hSw); go_simp; try with_reducible rfl)
  (try simp only [Act.put, List.setIfInBounds_toArray, List.set_cons_zero, List.set_cons_succ])
  refine wpAnyH_take (i := 65) (oi := { dst := some 135, op := Op.binOp BinOp.eql 24 (Operand.tmp 134) (Operand.const (Value.int IntKind.i64 0)) 24, type := 4, pos := _, after := #[{ on := 64, ground := Ground.data }, { on := 63, ground := Ground.guard }], guard := some (63, true) }) (v := ?v65) rfl (by kernel_rfl) (by kernel_rfl) (by kernel_rfl) (fun _ _ _ h => h) (Or.inl ⟨by rfl, ?hy65⟩) (by assumption) ?_
  case hy65 => (intro wz hSw; (try dsimp only at hSw); go_simp; try with_reducible rfl)
  (try simp only [Act.put, List.setIfInBounds_toArray, List.set_cons_zero, List.set_cons_succ])
  refine wpAnyH_take (i := 66) (oi := { dst := some 136, op := Op.pick (Operand.tmp 133) (Operand.tmp 135) (Operand.const (Value.bool false)), type := 4, pos := _, after := #[{ on := 63, ground := Ground.data }, { on := 65, ground := Ground.data }], guard := none }) (v := ?v66) rfl (by kernel_rfl) (by kernel_rfl) (by kernel_rfl) (fun _ _ _ h => h) (Or.inl ⟨by rfl, ?hy66⟩) (by assumption) ?_
  case hy66 => (intro wz hSw; (try dsimp only at hSw); go_simp; try with_reducible rfl)
  (try simp only [Act.put, List.setIfInBounds_toArray, List.set_cons_zero, List.set_cons_succ])
  refine wpAnyH_take (i := 67) (oi := { dst := some 137, op := Op.move (Operand.tmp 136), type := 4, pos := _, after := #[{ on := 66, ground := Ground.data }, { on := 63, ground := Ground.chain }], guard := none }) (v := ?v67) rfl (by kernel_rfl) (by kernel_rfl) (by kernel_rfl) (fun _ _ _ h => h) (Or.inl ⟨by rfl, ?hy67⟩) (by assumption) ?_
  case hy67 => (intro wz hSw; (try dsimp only at hSw); go_simp; try with_reducible rfl)
  (try simp only [Act.put, List.setIfInBounds_toArray, List.set_cons_zero, List.set_cons_succ])
  refine wpAnyH_take (i := 68) (oi := { dst := some 138, op := Op.move (Operand.tmp 5), type := 23, pos := _, after := #[{ on := 67, ground := Ground.guard }], guard := some (67, true) }) (v := ?v68) rfl (by kernel_rfl) (by kernel_rfl) (by kernel_rfl) (fun _ _ _ h => h) (Or.inl ⟨by rfl, ?hy68⟩) (by assumption) ?_
  case hy68 => (intro wz hSw; (try dsimp only at hSw); go_simp; try with_reducible rfl)
  (try simp only [Act.put, List.setIfInBounds_toArray, List.set_cons_zero, List.set_cons_succ])
  refine wpAnyH_ready (rs := [69]) (by kernel_rfl) (by simp) ?_
  refine AllReadyH.cons (o := { dst := some 139, op := Op.call { callee := Callee.value (Operand.func 17), args := #[Operand.tmp 138], argTypes := #[23] }, type := 3, pos := _, after := #[{ on := 68, ground := Ground.data }, { on := 67, ground := Ground.chain }, { on := 67, ground := Ground.guard }], guard := some (67, true) }) rfl (fun K hK => ?_) AllReadyH.nil
  go_simp
  refine (depth_any TD.out).mono ?_; rintro e w16 ⟨he, hb16⟩
  have he : e = .returned (.int .i64 1) := he
  subst he
  have T16 := Lib.hid (TD.out.below hb16)
  have B16 := Lib.hid (bt BD.out hb16)
  have x16 := (hb16.cell (p := ⟨rg, 10, none⟩) (World.block_lt_of_cell? _ _ hHeld)).trans hHeld
  go_wp2_with fail
  refine hK.out _ _ ?_ (fun hHeld => ?_)
  · (try dsimp only); go_keep
  clear hK K
  (try simp only [Act.put, List.setIfInBounds_toArray, List.set_cons_zero, List.set_cons_succ])
  refine wpAnyH_take (i := 70) (oi := { dst := some 140, op := Op.binOp BinOp.eql 3 (Operand.tmp 139) (Operand.const (Value.int IntKind.i64 1)) 3, type := 4, pos := _, after := #[{ on := 69, ground := Ground.data }, { on := 67, ground := Ground.guard }], guard := some (67, true) }) (v := ?v70) rfl (by kernel_rfl) (by kernel_rfl) (by kernel_rfl) (fun _ _ _ h => h) (Or.inl ⟨by rfl, ?hy70⟩) (by assumption) ?_
  case hy70 => (intro wz hSw; (try dsimp only at hSw); go_simp; try with_reducible rfl)
  (try simp only [Act.put, List.setIfInBounds_toArray, List.set_cons_zero, List.set_cons_succ])
  refine wpAnyH_take (i := 71) (oi := { dst := some 141, op := Op.pick (Operand.tmp 137) (Operand.tmp 140) (Operand.const (Value.bool false)), type := 4, pos := _, after := #[{ on := 67, ground := Ground.data }, { on := 70, ground := Ground.data }], guard := none }) (v := ?v71) rfl (by kernel_rfl) (by kernel_rfl) (by kernel_rfl) (fun _ _ _ h => h) (Or.inl ⟨by rfl, ?hy71⟩) (by assumption) ?_
  case hy71 => (intro wz hSw; (try dsimp only at hSw); go_simp; try with_reducible rfl)
  (try simp only [Act.put, List.setIfInBounds_toArray, List.set_cons_zero, List.set_cons_succ])
  refine wpAnyH_take (i := 72) (oi := { dst := some 142, op := Op.move (Operand.tmp 141), type := 4, pos := _, after := #[{ on := 71, ground := Ground.data }, { on := 69, ground := Ground.chain }], guard := none }) (v := ?v72) rfl (by kernel_rfl) (by kernel_rfl) (by kernel_rfl) (fun _ _ _ h => h) (Or.inl ⟨by rfl, ?hy72⟩) (by assumption) ?_
  case hy72 => (intro wz hSw; (try dsimp only at hSw); go_simp; try with_reducible rfl)
  (try simp only [Act.put, List.setIfInBounds_toArray, List.set_cons_zero, List.set_cons_succ])
  refine wpAnyH_take (i := 73) (oi := { dst := some 143, op := Op.move (Operand.tmp 20), type := 24, pos := _, after := #[{ on := 72, ground := Ground.guard }], guard := some (72, true) }) (v := ?v73) rfl (by kernel_rfl) (by kernel_rfl) (by kernel_rfl) (fun _ _ _ h => h) (Or.inl ⟨by rfl, ?hy73⟩) (by assumption) ?_
  case hy73 => (intro wz hSw; (try dsimp only at hSw); go_simp; try with_reducible rfl)
  (try simp only [Act.put, List.setIfInBounds_toArray, List.set_cons_zero, List.set_cons_succ])
  refine wpAnyH_take (i := 74) (oi := { dst := some 144, op := Op.binOp BinOp.eql 24 (Operand.tmp 143) (Operand.const (Value.int IntKind.i64 1)) 24, type := 4, pos := _, after := #[{ on := 73, ground := Ground.data }, { on := 72, ground := Ground.guard }], guard := some (72, true) }) (v := ?v74) rfl (by kernel_rfl) (by kernel_rfl) (by kernel_rfl) (fun _ _ _ h => h) (Or.inl ⟨by rfl, ?hy74⟩) (by assumption) ?_
  case hy74 => (intro wz hSw; (try dsimp only at hSw); go_simp; try with_reducible rfl)
  (try simp only [Act.put, List.setIfInBounds_toArray, List.set_cons_zero, List.set_cons_succ])
  refine wpAnyH_take (i := 75) (oi := { dst := some 145, op := Op.pick (Operand.tmp 142) (Operand.tmp 144) (Operand.const (Value.bool false)), type := 4, pos := _, after := #[{ on := 72, ground := Ground.data }, { on := 74, ground := Ground.data }], guard := none }) (v := ?v75) rfl (by kernel_rfl) (by kernel_rfl) (by kernel_rfl) (fun _ _ _ h => h) (Or.inl ⟨by rfl, ?hy75⟩) (by assumption) ?_
  case hy75 => (intro wz hSw; (try dsimp only at hSw); go_simp; try with_reducible rfl)
  (try simp only [Act.put, List.setIfInBounds_toArray, List.set_cons_zero, List.set_cons_succ])
  refine wpAnyH_take (i := 76) (oi := { dst := some 146, op := Op.move (Operand.tmp 145), type := 4, pos := _, after := #[{ on := 75, ground := Ground.data }, { on := 72, ground := Ground.chain }], guard := none }) (v := ?v76) rfl (by kernel_rfl) (by kernel_rfl) (by kernel_rfl) (fun _ _ _ h => h) (Or.inl ⟨by rfl, ?hy76⟩) (by assumption) ?_
  case hy76 => (intro wz hSw; (try dsimp only at hSw); go_simp; try with_reducible rfl)
  (try simp only [Act.put, List.setIfInBounds_toArray, List.set_cons_zero, List.set_cons_succ])
  refine wpAnyH_take (i := 77) (oi := { dst := some 147, op := Op.move (Operand.tmp 5), type := 23, pos := _, after := #[{ on := 76, ground := Ground.guard }], guard := some (76, true) }) (v := ?v77) rfl (by kernel_rfl) (by kernel_rfl) (by kernel_rfl) (fun _ _ _ h => h) (Or.inl ⟨by rfl, ?hy77⟩) (by assumption) ?_
  case hy77 => (intro wz hSw; (try dsimp only at hSw); go_simp; try with_reducible rfl)
  (try simp only [Act.put, List.setIfInBounds_toArray, List.set_cons_zero, List.set_cons_succ])
  refine wpAnyH_ready (rs := [78, 79]) (by kernel_rfl) (by simp) ?_
  refine AllReadyH.cons (o := { dst := some 148, op := Op.call { callee := Callee.value (Operand.func 19), args := #[Operand.tmp 147], argTypes := #[23] }, type := 41, pos := _, after := #[{ on := 77, ground := Ground.data }, { on := 76, ground := Ground.chain }, { on := 76, ground := Ground.guard }], guard := some (76, true) }) rfl (fun K hK => ?_) (AllReadyH.cons (o := { dst := some 149, op := Op.buildSlice 41 1 #[(0, Operand.const (Value.int IntKind.i64 2))], type := 41, pos := _, after := #[{ on := 76, ground := Ground.guard }], guard := some (76, true) }) rfl (fun K hK => ?_) AllReadyH.nil)
  · go_simp
    refine (calls_any T16.out).mono ?_; rintro e w17 ⟨v, rfl, ow, hb17⟩
    obtain ⟨A2, c2, rfl⟩ := vform ow
    have ow2 : w17.ownsRow w16.heap.size 3 1 (.slice A2 1 c2) 1 (([2] : List Int).map (.int .i64)) := ow
    have B18 := Lib.hid (bt (bt B16.out hb17) (below_alloc w17 (.cells #[.int .i64 2] 3)))
    have I1 := Lib.hid (inL_later (own_ini ow2) (below_alloc w17 (.cells #[.int .i64 2] 3)))
    have I2 : Hid (InL .i64 (w17.alloc (.cells #[.int .i64 2] 3)) (some ⟨w17.heap.size, 0, none⟩) 1 [2]) := Lib.hid ⟨rfl, fun _ => ⟨_, 0, rfl, by simp, fun j hj => by
      obtain rfl : j = 0 := by omega
      have := new_cell w17 (.int .i64 2) 3
      rw [Go.WideShapes.add_plain] at this
      exact this⟩⟩
    have x17a := (hb17.cell (p := ⟨rg, 10, none⟩) (World.block_lt_of_cell? _ _ x16)).trans x16
    have x17 := ((below_alloc w17 (.cells #[.int .i64 2] 3)).cell (p := ⟨rg, 10, none⟩) (World.block_lt_of_cell? _ _ x17a)).trans x17a
    have hl1 : ([⟨1, 2, 0, 3⟩] : List Fm).length = 1 := rfl
    rw [hl1]
    clear ow ow2 hl1
    go_wp2_with fail
    refine hK.out _ _ ?_ (fun hHeld => ?_)
    · exact x17a
    clear hK K
    (try simp only [Act.put, List.setIfInBounds_toArray, List.set_cons_zero, List.set_cons_succ])
    refine wpAnyH_ready (rs := [79]) (by kernel_rfl) (by simp) ?_
    refine AllReadyH.cons (o := { dst := some 149, op := Op.buildSlice 41 1 #[(0, Operand.const (Value.int IntKind.i64 2))], type := 41, pos := _, after := #[{ on := 76, ground := Ground.guard }], guard := some (76, true) }) rfl (fun K hK => ?_) AllReadyH.nil
    go_simp
    refine hK.out _ _ ?_ (fun hHeld => ?_)
    · exact x17
    clear hK K
    (try simp only [Act.put, List.setIfInBounds_toArray, List.set_cons_zero, List.set_cons_succ])
    refine wpAnyH_ready (rs := [80]) (by kernel_rfl) (by simp) ?_
    refine AllReadyH.cons (o := { dst := some 150, op := Op.call { callee := Callee.value (Operand.func 18), args := #[Operand.tmp 148, Operand.tmp 149], argTypes := #[41, 41] }, type := 4, pos := _, after := #[{ on := 78, ground := Ground.data }, { on := 79, ground := Ground.data }, { on := 78, ground := Ground.chain }, { on := 76, ground := Ground.guard }], guard := some (76, true) }) rfl (fun K hK => ?_) AllReadyH.nil
    go_simp
    refine (ints_any I1.out I2.out (by omega)).mono ?_; rintro e w18 ⟨he, hb18⟩
    have he : e = .returned (.bool true) := he
    subst he
    have B19 := Lib.hid (bt B18.out hb18)
    have x18 := (hb18.cell (p := ⟨rg, 10, none⟩) (World.block_lt_of_cell? _ _ x17)).trans x17
    go_wp2_with fail
    refine hK.out _ _ ?_ (fun hHeld => ?_)
    · exact x18
    clear hK K
    (try simp only [Act.put, List.setIfInBounds_toArray, List.set_cons_zero, List.set_cons_succ])
    refine wpAnyH_take (i := 81) (oi := { dst := some 151, op := Op.pick (Operand.tmp 146) (Operand.tmp 150) (Operand.const (Value.bool false)), type := 4, pos := _, after := #[{ on := 76, ground := Ground.data }, { on := 80, ground := Ground.data }], guard := none }) (v := ?v81) rfl (by kernel_rfl) (by kernel_rfl) (by kernel_rfl) (fun _ _ _ h => h) (Or.inl ⟨by rfl, ?hy81⟩) (by assumption) ?_
    case hy81 => (intro wz hSw; (try dsimp only at hSw); go_simp; try with_reducible rfl)
    (try simp only [Act.put, List.setIfInBounds_toArray, List.set_cons_zero, List.set_cons_succ])
    refine wpAnyH_take (i := 82) (oi := { dst := some 0, op := Op.assign (Operand.tmp 151), type := 4, pos := _, after := ([{ on := 81, ground := Ground.data }, { on := 80, ground := Ground.chain }, { on := 0, ground := Ground.phase }, { on := 1, ground := Ground.phase }, { on := 2, ground := Ground.phase }, { on := 3, ground := Ground.phase }, { on := 4, ground := Ground.phase }, { on := 5, ground := Ground.phase }, { on := 6, ground := Ground.phase }, { on := 7, ground := Ground.phase }, { on := 8, ground := Ground.phase }, { on := 9, ground := Ground.phase }, { on := 10, ground := Ground.phase }, { on := 11, ground := Ground.phase }, { on := 12, ground := Ground.phase }, { on := 13, ground := Ground.phase }, { on := 14, ground := Ground.phase }, { on := 15, ground := Ground.phase }, { on := 16, ground := Ground.phase }, { on := 17, ground := Ground.phase }, { on := 18, ground := Ground.phase }, { on := 19, ground := Ground.phase }, { on := 20, ground := Ground.phase }, { on := 21, ground := Ground.phase }, { on := 22, ground := Ground.phase }, { on := 23, ground := Ground.phase }, { on := 24, ground := Ground.phase }, { on := 25, ground := Ground.phase }, { on := 26, ground := Ground.phase }, { on := 27, ground := Ground.phase }, { on := 28, ground := Ground.phase }, { on := 29, ground := Ground.phase }, { on := 30, ground := Ground.phase }, { on := 31, ground := Ground.phase }, { on := 32, ground := Ground.phase }, { on := 33, ground := Ground.phase }, { on := 34, ground := Ground.phase }, { on := 35, ground := Ground.phase }, { on := 36, ground := Ground.phase }, { on := 37, ground := Ground.phase }, { on := 38, ground := Ground.phase }, { on := 39, ground := Ground.phase }].append [{ on := 40, ground := Ground.phase }, { on := 41, ground := Ground.phase }, { on := 42, ground := Ground.phase }, { on := 43, ground := Ground.phase }, { on := 44, ground := Ground.phase }, { on := 45, ground := Ground.phase }, { on := 46, ground := Ground.phase }, { on := 47, ground := Ground.phase }, { on := 48, ground := Ground.phase }, { on := 49, ground := Ground.phase }, { on := 50, ground := Ground.phase }, { on := 51, ground := Ground.phase }, { on := 52, ground := Ground.phase }, { on := 53, ground := Ground.phase }, { on := 54, ground := Ground.phase }, { on := 55, ground := Ground.phase }, { on := 56, ground := Ground.phase }, { on := 57, ground := Ground.phase }, { on := 58, ground := Ground.phase }, { on := 59, ground := Ground.phase }, { on := 60, ground := Ground.phase }, { on := 61, ground := Ground.phase }, { on := 62, ground := Ground.phase }, { on := 63, ground := Ground.phase }, { on := 64, ground := Ground.phase }, { on := 65, ground := Ground.phase }, { on := 66, ground := Ground.phase }, { on := 67, ground := Ground.phase }, { on := 68, ground := Ground.phase }, { on := 69, ground := Ground.phase }, { on := 70, ground := Ground.phase }, { on := 71, ground := Ground.phase }, { on := 72, ground := Ground.phase }, { on := 73, ground := Ground.phase }, { on := 74, ground := Ground.phase }, { on := 75, ground := Ground.phase }, { on := 76, ground := Ground.phase }, { on := 77, ground := Ground.phase }, { on := 78, ground := Ground.phase }, { on := 79, ground := Ground.phase }, { on := 80, ground := Ground.phase }, { on := 81, ground := Ground.phase }]).toArray, guard := none }) (v := ?v82) rfl (by kernel_rfl) (by kernel_rfl) (by kernel_rfl) (fun _ _ _ h => h) (Or.inl ⟨by rfl, ?hy82⟩) (by assumption) ?_
    case hy82 => (intro wz hSw; (try dsimp only at hSw); go_simp; try with_reducible rfl)
    (try simp only [Act.put, List.setIfInBounds_toArray, List.set_cons_zero])
    refine wpAnyH_done (by kernel_rfl) ?_ _
    go_wp2
    go_ret
    exact ⟨rfl, B19.out⟩
  · go_simp
    have x17b := ((below_alloc w16 (.cells #[.int .i64 2] 3)).cell (p := ⟨rg, 10, none⟩) (World.block_lt_of_cell? _ _ x16)).trans x16
    refine hK.out _ _ ?_ (fun hHeld => ?_)
    · exact x17b
    clear hK K
    (try simp only [Act.put, List.setIfInBounds_toArray, List.set_cons_zero, List.set_cons_succ])
    refine wpAnyH_ready (rs := [78]) (by kernel_rfl) (by simp) ?_
    refine AllReadyH.cons (o := { dst := some 148, op := Op.call { callee := Callee.value (Operand.func 19), args := #[Operand.tmp 147], argTypes := #[23] }, type := 41, pos := _, after := #[{ on := 77, ground := Ground.data }, { on := 76, ground := Ground.chain }, { on := 76, ground := Ground.guard }], guard := some (76, true) }) rfl (fun K hK => ?_) AllReadyH.nil
    go_simp
    have BA := below_alloc w16 (.cells #[.int .i64 2] 3)
    refine (calls_any (T16.out.below BA)).mono ?_; rintro e w17 ⟨v, rfl, ow, hb17⟩
    obtain ⟨A2, c2, rfl⟩ := vform ow
    have ow2 : w17.ownsRow (w16.alloc (.cells #[.int .i64 2] 3)).heap.size 3 1 (.slice A2 1 c2) 1 (([2] : List Int).map (.int .i64)) := ow
    have B18 := Lib.hid (bt (bt B16.out BA) hb17)
    have I1 := Lib.hid (own_ini ow2)
    have I0 : InL .i64 (w16.alloc (.cells #[.int .i64 2] 3)) (some ⟨w16.heap.size, 0, none⟩) 1 [2] := ⟨rfl, fun _ => ⟨_, 0, rfl, by simp, fun j hj => by
        obtain rfl : j = 0 := by omega
        have := new_cell w16 (.int .i64 2) 3
        rw [Go.WideShapes.add_plain] at this
        exact this⟩⟩
    have I2 := Lib.hid (inL_later I0 hb17)
    have x17 := (hb17.cell (p := ⟨rg, 10, none⟩) (World.block_lt_of_cell? _ _ x17b)).trans x17b
    have hl1 : ([⟨1, 2, 0, 3⟩] : List Fm).length = 1 := rfl
    rw [hl1]
    clear ow ow2 hl1 I0
    go_wp2_with fail
    refine hK.out _ _ ?_ (fun hHeld => ?_)
    · exact x17
    clear hK K
    (try simp only [Act.put, List.setIfInBounds_toArray, List.set_cons_zero, List.set_cons_succ])
    refine wpAnyH_ready (rs := [80]) (by kernel_rfl) (by simp) ?_
    refine AllReadyH.cons (o := { dst := some 150, op := Op.call { callee := Callee.value (Operand.func 18), args := #[Operand.tmp 148, Operand.tmp 149], argTypes := #[41, 41] }, type := 4, pos := _, after := #[{ on := 78, ground := Ground.data }, { on := 79, ground := Ground.data }, { on := 78, ground := Ground.chain }, { on := 76, ground := Ground.guard }], guard := some (76, true) }) rfl (fun K hK => ?_) AllReadyH.nil
    go_simp
    refine (ints_any I1.out I2.out (by omega)).mono ?_; rintro e w18 ⟨he, hb18⟩
    have he : e = .returned (.bool true) := he
    subst he
    have B19 := Lib.hid (bt B18.out hb18)
    have x18 := (hb18.cell (p := ⟨rg, 10, none⟩) (World.block_lt_of_cell? _ _ x17)).trans x17
    go_wp2_with fail
    refine hK.out _ _ ?_ (fun hHeld => ?_)
    · exact x18
    clear hK K
    (try simp only [Act.put, List.setIfInBounds_toArray, List.set_cons_zero, List.set_cons_succ])
    refine wpAnyH_take (i := 81) (oi := { dst := some 151, op := Op.pick (Operand.tmp 146) (Operand.tmp 150) (Operand.const (Value.bool false)), type := 4, pos := _, after := #[{ on := 76, ground := Ground.data }, { on := 80, ground := Ground.data }], guard := none }) (v := ?v81) rfl (by kernel_rfl) (by kernel_rfl) (by kernel_rfl) (fun _ _ _ h => h) (Or.inl ⟨by rfl, ?hy81⟩) (by assumption) ?_
    case hy81 => (intro wz hSw; (try dsimp only at hSw); go_simp; try with_reducible rfl)
    (try simp only [Act.put, List.setIfInBounds_toArray, List.set_cons_zero, List.set_cons_succ])
    refine wpAnyH_take (i := 82) (oi := { dst := some 0, op := Op.assign (Operand.tmp 151), type := 4, pos := _, after := ([{ on := 81, ground := Ground.data }, { on := 80, ground := Ground.chain }, { on := 0, ground := Ground.phase }, { on := 1, ground := Ground.phase }, { on := 2, ground := Ground.phase }, { on := 3, ground := Ground.phase }, { on := 4, ground := Ground.phase }, { on := 5, ground := Ground.phase }, { on := 6, ground := Ground.phase }, { on := 7, ground := Ground.phase }, { on := 8, ground := Ground.phase }, { on := 9, ground := Ground.phase }, { on := 10, ground := Ground.phase }, { on := 11, ground := Ground.phase }, { on := 12, ground := Ground.phase }, { on := 13, ground := Ground.phase }, { on := 14, ground := Ground.phase }, { on := 15, ground := Ground.phase }, { on := 16, ground := Ground.phase }, { on := 17, ground := Ground.phase }, { on := 18, ground := Ground.phase }, { on := 19, ground := Ground.phase }, { on := 20, ground := Ground.phase }, { on := 21, ground := Ground.phase }, { on := 22, ground := Ground.phase }, { on := 23, ground := Ground.phase }, { on := 24, ground := Ground.phase }, { on := 25, ground := Ground.phase }, { on := 26, ground := Ground.phase }, { on := 27, ground := Ground.phase }, { on := 28, ground := Ground.phase }, { on := 29, ground := Ground.phase }, { on := 30, ground := Ground.phase }, { on := 31, ground := Ground.phase }, { on := 32, ground := Ground.phase }, { on := 33, ground := Ground.phase }, { on := 34, ground := Ground.phase }, { on := 35, ground := Ground.phase }, { on := 36, ground := Ground.phase }, { on := 37, ground := Ground.phase }, { on := 38, ground := Ground.phase }, { on := 39, ground := Ground.phase }].append [{ on := 40, ground := Ground.phase }, { on := 41, ground := Ground.phase }, { on := 42, ground := Ground.phase }, { on := 43, ground := Ground.phase }, { on := 44, ground := Ground.phase }, { on := 45, ground := Ground.phase }, { on := 46, ground := Ground.phase }, { on := 47, ground := Ground.phase }, { on := 48, ground := Ground.phase }, { on := 49, ground := Ground.phase }, { on := 50, ground := Ground.phase }, { on := 51, ground := Ground.phase }, { on := 52, ground := Ground.phase }, { on := 53, ground := Ground.phase }, { on := 54, ground := Ground.phase }, { on := 55, ground := Ground.phase }, { on := 56, ground := Ground.phase }, { on := 57, ground := Ground.phase }, { on := 58, ground := Ground.phase }, { on := 59, ground := Ground.phase }, { on := 60, ground := Ground.phase }, { on := 61, ground := Ground.phase }, { on := 62, ground := Ground.phase }, { on := 63, ground := Ground.phase }, { on := 64, ground := Ground.phase }, { on := 65, ground := Ground.phase }, { on := 66, ground := Ground.phase }, { on := 67, ground := Ground.phase }, { on := 68, ground := Ground.phase }, { on := 69, ground := Ground.phase }, { on := 70, ground := Ground.phase }, { on := 71, ground := Ground.phase }, { on := 72, ground := Ground.phase }, { on := 73, ground := Ground.phase }, { on := 74, ground := Ground.phase }, { on := 75, ground := Ground.phase }, { on := 76, ground := Ground.phase }, { on := 77, ground := Ground.phase }, { on := 78, ground := Ground.phase }, { on := 79, ground := Ground.phase }, { on := 80, ground := Ground.phase }, { on := 81, ground := Ground.phase }]).toArray, guard := none }) (v := ?v82) rfl (by kernel_rfl) (by kernel_rfl) (by kernel_rfl) (fun _ _ _ h => h) (Or.inl ⟨by rfl, ?hy82⟩) (by assumption) ?_
    case hy82 => (intro wz hSw; (try dsimp only at hSw); go_simp; try with_reducible rfl)
    (try simp only [Act.put, List.setIfInBounds_toArray, List.set_cons_zero])
    refine wpAnyH_done (by kernel_rfl) ?_ _
    go_wp2
    go_ret
    exact ⟨rfl, B19.out⟩
end Go.Proofs.Ytkecnhogooaccaa
