import Derived.Test.YtkecnhogooaccaaRg
namespace Go.Proofs.Ytkecnhogooaccaa
open Go.ChangeShapes Go.WideShapes Go.ChangeAt Go.RowKit
set_option linter.unusedVariables false
theorem own_litg {W : World} {B k sz : Nat} {e : TypeId} (h : W.heap[k]? = some (.cells #[] e (0, 0))) (hB : B ≤ k) : W.ownsRow B e sz (.slice (some ⟨k, 0, none⟩) 0 0) 0 [] :=
  ⟨by simp, .inr ⟨k, 0, #[], rfl, hB, h, Nat.le_refl _, by unfold maxLen; omega, by simp, by simp⟩⟩
theorem rb_own {v : Value} {k : Nat} (h : rb v = some k) : v.ownBlock = some k := by
  unfold rb at h
  split at h
  · split at h
    · exact h
    · cases h
  · cases h
set_option maxRecDepth 100000 in
set_option maxHeartbeats 2000000 in
theorem rpush_neg {w : World} {g : Nat} (bk cl sl : Int) (h : sl < 0) :
    Calls Try.prog 20 #[.pointer (some ⟨g, 0, none⟩), .int .i64 bk, .int .i64 cl, .int .i64 sl] w fun e w' => e = .returned (.int .i64 1) ∧ Below w.heap.size w w' := by
  have d0 := decide_eq_true h
  clear h
  go_enter Try.func20, Try.ntmps20
  go_wp2
  go_ret
  exact ⟨rfl, Below.refl _ _⟩
set_option maxRecDepth 100000 in
set_option maxHeartbeats 2000000 in
theorem rpush_big {w : World} {B g room : Nat} {fv : Value} {fl : List RX} (bk cl : Int) (sl : Nat) (h : room < sl) (t : RS w B g room fv fl) :
    Calls Try.prog 20 #[.pointer (some ⟨g, 0, none⟩), .int .i64 bk, .int .i64 cl, .int .i64 sl] w fun e w' => e = .returned (.int .i64 9) ∧ Below w.heap.size w w' := by
  have c0 := t.c0
  have d0 := decide_eq_false (show ¬ (sl : Int) < 0 by omega)
  have d1 := decide_eq_true h
  clear t h
  go_enter Try.func20, Try.ntmps20
  go_wp2_with fail
  refine wp_region_held_drew (S := fun w' => w'.cell? ⟨g, 0, none⟩ = some (.int .i64 room)) (by kernel_rfl) ?_ (fun hHeld => ?_)
  · (try dsimp only); go_keep
  refine wpAnyH_take (i := 0) (oi := { dst := some 13, op := Go.Op.move (Go.Operand.tmp 3), type := 3, pos := _, after := #[], guard := none }) (v := ?va0) rfl (by kernel_rfl) (by kernel_rfl) (by kernel_rfl) (fun _ _ _ h => h) (Or.inl ⟨by rfl, ?hya0⟩) (by assumption) ?_
  case hya0 => (intro wz hSw; (try dsimp only at hSw); go_simp; try with_reducible rfl)
  (try simp only [Act.put, List.setIfInBounds_toArray, List.set_cons_zero, List.set_cons_succ])
  refine wpAnyH_take (i := 1) (oi := { dst := some 14, op := Go.Op.move (Go.Operand.tmp 0), type := 44, pos := _, after := #[], guard := none }) (v := ?va1) rfl (by kernel_rfl) (by kernel_rfl) (by kernel_rfl) (fun _ _ _ h => h) (Or.inl ⟨by rfl, ?hya1⟩) (by assumption) ?_
  case hya1 => (intro wz hSw; (try dsimp only at hSw); go_simp; try with_reducible rfl)
  (try simp only [Act.put, List.setIfInBounds_toArray, List.set_cons_zero, List.set_cons_succ])
  refine wpAnyH_take (i := 2) (oi := { dst := some 15, op := Go.Op.nilCheck (Go.Operand.tmp 14), type := 0, pos := _, after := #[{ on := 1, ground := Go.Ground.data }], guard := none }) (v := ?va2) rfl (by kernel_rfl) (by kernel_rfl) (by kernel_rfl) (fun _ _ _ h => h) (Or.inl ⟨by rfl, ?hya2⟩) (by assumption) ?_
  case hya2 => (intro wz hSw; (try dsimp only at hSw); go_simp; try with_reducible rfl)
  (try simp only [Act.put, List.setIfInBounds_toArray, List.set_cons_zero, List.set_cons_succ])
  refine wpAnyH_take (i := 3) (oi := { dst := some 16, op := Go.Op.fieldAddr 47 (Go.Operand.tmp 15) 0, type := 0, pos := _, after := #[{ on := 2, ground := Go.Ground.data }], guard := none }) (v := ?va3) rfl (by kernel_rfl) (by kernel_rfl) (by kernel_rfl) (fun _ _ _ h => h) (Or.inl ⟨by rfl, ?hya3⟩) (by assumption) ?_
  case hya3 => (intro wz hSw; (try dsimp only at hSw); go_simp; try with_reducible rfl)
  (try simp only [Act.put, List.setIfInBounds_toArray, List.set_cons_zero, List.set_cons_succ])
  refine wpAnyH_take (i := 4) (oi := { dst := some 17, op := Go.Op.load 3 (Go.Operand.tmp 16), type := 3, pos := _, after := #[{ on := 3, ground := Go.Ground.data }], guard := none }) (v := ?va4) rfl (by kernel_rfl) (by kernel_rfl) (by kernel_rfl) (fun _ _ _ h => h) (Or.inl ⟨by rfl, ?hya4⟩) (by assumption) ?_
  case hya4 => (intro wz hSw; (try dsimp only at hSw); go_simp; try with_reducible rfl)
  (try simp only [Act.put, List.setIfInBounds_toArray, List.set_cons_zero, List.set_cons_succ])
  refine wpAnyH_take (i := 5) (oi := { dst := some 18, op := Go.Op.binOp Go.BinOp.gtr 3 (Go.Operand.tmp 13) (Go.Operand.tmp 17) 3, type := 4, pos := _, after := #[{ on := 0, ground := Go.Ground.data }, { on := 4, ground := Go.Ground.data }], guard := none }) (v := ?va5) rfl (by kernel_rfl) (by kernel_rfl) (by kernel_rfl) (fun _ _ _ h => h) (Or.inl ⟨by rfl, ?hya5⟩) (by assumption) ?_
  case hya5 => (intro wz hSw; (try dsimp only at hSw); go_simp; try with_reducible rfl)
  (try simp only [Act.put, List.setIfInBounds_toArray, List.set_cons_zero, List.set_cons_succ])
  refine wpAnyH_take (i := 6) (oi := { dst := some 19, op := Go.Op.move (Go.Operand.tmp 18), type := 4, pos := _, after := #[{ on := 5, ground := Go.Ground.data }], guard := none }) (v := ?va6) rfl (by kernel_rfl) (by kernel_rfl) (by kernel_rfl) (fun _ _ _ h => h) (Or.inl ⟨by rfl, ?hya6⟩) (by assumption) ?_
  case hya6 => (intro wz hSw; (try dsimp only at hSw); go_simp; try with_reducible rfl)
  (try simp only [Act.put, List.setIfInBounds_toArray, List.set_cons_zero, List.set_cons_succ])
  refine wpAnyH_take (i := 7) (oi := { dst := some 20, op := Go.Op.move (Go.Operand.tmp 3), type := 3, pos := _, after := #[{ on := 6, ground := Go.Ground.guard }], guard := some (6, false) }) (v := undef) rfl (by kernel_rfl) (by kernel_rfl) (by kernel_rfl) (fun _ _ _ h => h) (Or.inr ⟨by rfl, rfl⟩) (by assumption) ?_
  (try simp only [Act.put, List.setIfInBounds_toArray, List.set_cons_zero, List.set_cons_succ])
  refine wpAnyH_take (i := 8) (oi := { dst := some 21, op := Go.Op.binOp Go.BinOp.add 3 (Go.Operand.const (Go.Value.int Go.IntKind.i64 2)) (Go.Operand.tmp 20) 3, type := 3, pos := _, after := #[{ on := 7, ground := Go.Ground.data }, { on := 6, ground := Go.Ground.guard }], guard := some (6, false) }) (v := undef) rfl (by kernel_rfl) (by kernel_rfl) (by kernel_rfl) (fun _ _ _ h => h) (Or.inr ⟨by rfl, rfl⟩) (by assumption) ?_
  (try simp only [Act.put, List.setIfInBounds_toArray, List.set_cons_zero, List.set_cons_succ])
  refine wpAnyH_take (i := 9) (oi := { dst := some 22, op := Go.Op.move (Go.Operand.tmp 0), type := 44, pos := _, after := #[{ on := 6, ground := Go.Ground.guard }], guard := some (6, false) }) (v := undef) rfl (by kernel_rfl) (by kernel_rfl) (by kernel_rfl) (fun _ _ _ h => h) (Or.inr ⟨by rfl, rfl⟩) (by assumption) ?_
  (try simp only [Act.put, List.setIfInBounds_toArray, List.set_cons_zero, List.set_cons_succ])
  refine wpAnyH_take (i := 10) (oi := { dst := some 23, op := Go.Op.nilCheck (Go.Operand.tmp 22), type := 0, pos := _, after := #[{ on := 9, ground := Go.Ground.data }, { on := 6, ground := Go.Ground.guard }], guard := some (6, false) }) (v := undef) rfl (by kernel_rfl) (by kernel_rfl) (by kernel_rfl) (fun _ _ _ h => h) (Or.inr ⟨by rfl, rfl⟩) (by assumption) ?_
  (try simp only [Act.put, List.setIfInBounds_toArray, List.set_cons_zero, List.set_cons_succ])
  refine wpAnyH_take (i := 11) (oi := { dst := some 24, op := Go.Op.fieldAddr 47 (Go.Operand.tmp 23) 0, type := 0, pos := _, after := #[{ on := 10, ground := Go.Ground.data }, { on := 6, ground := Go.Ground.guard }], guard := some (6, false) }) (v := undef) rfl (by kernel_rfl) (by kernel_rfl) (by kernel_rfl) (fun _ _ _ h => h) (Or.inr ⟨by rfl, rfl⟩) (by assumption) ?_
  (try simp only [Act.put, List.setIfInBounds_toArray, List.set_cons_zero, List.set_cons_succ])
  refine wpAnyH_take (i := 12) (oi := { dst := some 25, op := Go.Op.load 3 (Go.Operand.tmp 24), type := 3, pos := _, after := #[{ on := 11, ground := Go.Ground.data }, { on := 6, ground := Go.Ground.guard }], guard := some (6, false) }) (v := undef) rfl (by kernel_rfl) (by kernel_rfl) (by kernel_rfl) (fun _ _ _ h => h) (Or.inr ⟨by rfl, rfl⟩) (by assumption) ?_
  (try simp only [Act.put, List.setIfInBounds_toArray, List.set_cons_zero, List.set_cons_succ])
  refine wpAnyH_take (i := 13) (oi := { dst := some 26, op := Go.Op.move (Go.Operand.tmp 0), type := 44, pos := _, after := #[{ on := 6, ground := Go.Ground.guard }], guard := some (6, false) }) (v := undef) rfl (by kernel_rfl) (by kernel_rfl) (by kernel_rfl) (fun _ _ _ h => h) (Or.inr ⟨by rfl, rfl⟩) (by assumption) ?_
  (try simp only [Act.put, List.setIfInBounds_toArray, List.set_cons_zero, List.set_cons_succ])
  refine wpAnyH_take (i := 14) (oi := { dst := some 27, op := Go.Op.call { callee := Go.Callee.value (Go.Operand.func 42), args := #[Go.Operand.tmp 26], argTypes := #[44] }, type := 3, pos := _, after := #[{ on := 13, ground := Go.Ground.data }, { on := 6, ground := Go.Ground.chain }, { on := 6, ground := Go.Ground.guard }], guard := some (6, false) }) (v := undef) rfl (by kernel_rfl) (by kernel_rfl) (by kernel_rfl) (fun _ _ _ h => h) (Or.inr ⟨by rfl, rfl⟩) (by assumption) ?_
  (try simp only [Act.put, List.setIfInBounds_toArray, List.set_cons_zero, List.set_cons_succ])
  refine wpAnyH_take (i := 15) (oi := { dst := some 28, op := Go.Op.binOp Go.BinOp.sub 3 (Go.Operand.tmp 25) (Go.Operand.tmp 27) 3, type := 3, pos := _, after := #[{ on := 12, ground := Go.Ground.data }, { on := 14, ground := Go.Ground.data }, { on := 6, ground := Go.Ground.guard }], guard := some (6, false) }) (v := undef) rfl (by kernel_rfl) (by kernel_rfl) (by kernel_rfl) (fun _ _ _ h => h) (Or.inr ⟨by rfl, rfl⟩) (by assumption) ?_
  (try simp only [Act.put, List.setIfInBounds_toArray, List.set_cons_zero, List.set_cons_succ])
  refine wpAnyH_take (i := 16) (oi := { dst := some 29, op := Go.Op.binOp Go.BinOp.gtr 3 (Go.Operand.tmp 21) (Go.Operand.tmp 28) 3, type := 4, pos := _, after := #[{ on := 8, ground := Go.Ground.data }, { on := 15, ground := Go.Ground.data }, { on := 6, ground := Go.Ground.guard }], guard := some (6, false) }) (v := undef) rfl (by kernel_rfl) (by kernel_rfl) (by kernel_rfl) (fun _ _ _ h => h) (Or.inr ⟨by rfl, rfl⟩) (by assumption) ?_
  (try simp only [Act.put, List.setIfInBounds_toArray, List.set_cons_zero, List.set_cons_succ])
  refine wpAnyH_take (i := 17) (oi := { dst := some 30, op := Go.Op.pick (Go.Operand.tmp 19) (Go.Operand.const (Go.Value.bool true)) (Go.Operand.tmp 29), type := 4, pos := _, after := #[{ on := 6, ground := Go.Ground.data }, { on := 16, ground := Go.Ground.data }], guard := none }) (v := ?va17) rfl (by kernel_rfl) (by kernel_rfl) (by kernel_rfl) (fun _ _ _ h => h) (Or.inl ⟨by rfl, ?hya17⟩) (by assumption) ?_
  case hya17 => (intro wz hSw; (try dsimp only at hSw); go_simp; try with_reducible rfl)
  (try simp only [Act.put, List.setIfInBounds_toArray, List.set_cons_zero, List.set_cons_succ])
  refine wpAnyH_done (by kernel_rfl) ?_ _
  go_wp2
  go_ret
  exact ⟨rfl, below_drew _⟩
set_option maxRecDepth 100000 in
set_option maxHeartbeats 2000000 in
theorem rpush_full {w : World} {B g room : Nat} {fv : Value} {fl : List RX} (bk cl : Int) (sl : Nat) (h0 : sl ≤ room) (h : room < used (fl.map (·.f)) + 2 + sl) (t : RS w B g room fv fl) :
    Calls Try.prog 20 #[.pointer (some ⟨g, 0, none⟩), .int .i64 bk, .int .i64 cl, .int .i64 sl] w fun e w' => e = .returned (.int .i64 9) ∧ Below w.heap.size w w' := by
  have c0 := t.c0
  have glt := t.glt
  have hsm := t.small
  have hft := t.fits
  have US := Lib.hid (fun W (hW : Below w.heap.size w W) => rused_any (t.below hW))
  obtain ⟨U, hU⟩ : ∃ U, U = used (fl.map (·.f)) := ⟨_, rfl⟩
  rw [← hU] at US h hft
  have d0 := decide_eq_false (show ¬ (sl : Int) < 0 by omega)
  have d1 := decide_eq_false (show ¬ room < sl by omega)
  obtain ⟨D, hD⟩ : ∃ D : Nat, (room : Int) - (U : Int) = (D : Int) := ⟨room - U, by omega⟩
  obtain ⟨E, hE⟩ : ∃ E : Nat, (2 : Int) + (sl : Int) = (E : Int) := ⟨2 + sl, by omega⟩
  have d2 := decide_eq_true (show D < E by omega)
  have w1e : IntKind.i64.wrap ((2 : Int) + (sl : Int)) = (E : Int) := by rw [IntWalk.i64_in _ (by omega)]; exact hE
  have w2e : IntKind.i64.wrap ((room : Int) - (U : Int)) = (D : Int) := by rw [IntWalk.i64_in _ (by omega)]; exact hD
  clear t h hU hD hE h0 hft hsm
  go_enter Try.func20, Try.ntmps20
  go_wp2_with fail
  refine wp_region_held_drew (S := fun w' => w'.cell? ⟨g, 0, none⟩ = some (.int .i64 room)) (by kernel_rfl) ?_ (fun hHeld => ?_)
  · (try dsimp only); go_keep
  refine wpAnyH_take (i := 0) (oi := { dst := some 13, op := Go.Op.move (Go.Operand.tmp 3), type := 3, pos := _, after := #[], guard := none }) (v := ?va0) rfl (by kernel_rfl) (by kernel_rfl) (by kernel_rfl) (fun _ _ _ h => h) (Or.inl ⟨by rfl, ?hya0⟩) (by assumption) ?_
  case hya0 => (intro wz hSw; (try dsimp only at hSw); go_simp; try with_reducible rfl)
  (try simp only [Act.put, List.setIfInBounds_toArray, List.set_cons_zero, List.set_cons_succ])
  refine wpAnyH_take (i := 1) (oi := { dst := some 14, op := Go.Op.move (Go.Operand.tmp 0), type := 44, pos := _, after := #[], guard := none }) (v := ?va1) rfl (by kernel_rfl) (by kernel_rfl) (by kernel_rfl) (fun _ _ _ h => h) (Or.inl ⟨by rfl, ?hya1⟩) (by assumption) ?_
  case hya1 => (intro wz hSw; (try dsimp only at hSw); go_simp; try with_reducible rfl)
  (try simp only [Act.put, List.setIfInBounds_toArray, List.set_cons_zero, List.set_cons_succ])
  refine wpAnyH_take (i := 2) (oi := { dst := some 15, op := Go.Op.nilCheck (Go.Operand.tmp 14), type := 0, pos := _, after := #[{ on := 1, ground := Go.Ground.data }], guard := none }) (v := ?va2) rfl (by kernel_rfl) (by kernel_rfl) (by kernel_rfl) (fun _ _ _ h => h) (Or.inl ⟨by rfl, ?hya2⟩) (by assumption) ?_
  case hya2 => (intro wz hSw; (try dsimp only at hSw); go_simp; try with_reducible rfl)
  (try simp only [Act.put, List.setIfInBounds_toArray, List.set_cons_zero, List.set_cons_succ])
  refine wpAnyH_take (i := 3) (oi := { dst := some 16, op := Go.Op.fieldAddr 47 (Go.Operand.tmp 15) 0, type := 0, pos := _, after := #[{ on := 2, ground := Go.Ground.data }], guard := none }) (v := ?va3) rfl (by kernel_rfl) (by kernel_rfl) (by kernel_rfl) (fun _ _ _ h => h) (Or.inl ⟨by rfl, ?hya3⟩) (by assumption) ?_
  case hya3 => (intro wz hSw; (try dsimp only at hSw); go_simp; try with_reducible rfl)
  (try simp only [Act.put, List.setIfInBounds_toArray, List.set_cons_zero, List.set_cons_succ])
  refine wpAnyH_take (i := 4) (oi := { dst := some 17, op := Go.Op.load 3 (Go.Operand.tmp 16), type := 3, pos := _, after := #[{ on := 3, ground := Go.Ground.data }], guard := none }) (v := ?va4) rfl (by kernel_rfl) (by kernel_rfl) (by kernel_rfl) (fun _ _ _ h => h) (Or.inl ⟨by rfl, ?hya4⟩) (by assumption) ?_
  case hya4 => (intro wz hSw; (try dsimp only at hSw); go_simp; try with_reducible rfl)
  (try simp only [Act.put, List.setIfInBounds_toArray, List.set_cons_zero, List.set_cons_succ])
  refine wpAnyH_take (i := 5) (oi := { dst := some 18, op := Go.Op.binOp Go.BinOp.gtr 3 (Go.Operand.tmp 13) (Go.Operand.tmp 17) 3, type := 4, pos := _, after := #[{ on := 0, ground := Go.Ground.data }, { on := 4, ground := Go.Ground.data }], guard := none }) (v := ?va5) rfl (by kernel_rfl) (by kernel_rfl) (by kernel_rfl) (fun _ _ _ h => h) (Or.inl ⟨by rfl, ?hya5⟩) (by assumption) ?_
  case hya5 => (intro wz hSw; (try dsimp only at hSw); go_simp; try with_reducible rfl)
  (try simp only [Act.put, List.setIfInBounds_toArray, List.set_cons_zero, List.set_cons_succ])
  refine wpAnyH_take (i := 6) (oi := { dst := some 19, op := Go.Op.move (Go.Operand.tmp 18), type := 4, pos := _, after := #[{ on := 5, ground := Go.Ground.data }], guard := none }) (v := ?va6) rfl (by kernel_rfl) (by kernel_rfl) (by kernel_rfl) (fun _ _ _ h => h) (Or.inl ⟨by rfl, ?hya6⟩) (by assumption) ?_
  case hya6 => (intro wz hSw; (try dsimp only at hSw); go_simp; try with_reducible rfl)
  (try simp only [Act.put, List.setIfInBounds_toArray, List.set_cons_zero, List.set_cons_succ])
  refine wpAnyH_take (i := 7) (oi := { dst := some 20, op := Go.Op.move (Go.Operand.tmp 3), type := 3, pos := _, after := #[{ on := 6, ground := Go.Ground.guard }], guard := some (6, false) }) (v := ?va7) rfl (by kernel_rfl) (by kernel_rfl) (by kernel_rfl) (fun _ _ _ h => h) (Or.inl ⟨by rfl, ?hya7⟩) (by assumption) ?_
  case hya7 => (intro wz hSw; (try dsimp only at hSw); go_simp; try with_reducible rfl)
  (try simp only [Act.put, List.setIfInBounds_toArray, List.set_cons_zero, List.set_cons_succ])
  refine wpAnyH_take (i := 8) (oi := { dst := some 21, op := Go.Op.binOp Go.BinOp.add 3 (Go.Operand.const (Go.Value.int Go.IntKind.i64 2)) (Go.Operand.tmp 20) 3, type := 3, pos := _, after := #[{ on := 7, ground := Go.Ground.data }, { on := 6, ground := Go.Ground.guard }], guard := some (6, false) }) (v := ?va8) rfl (by kernel_rfl) (by kernel_rfl) (by kernel_rfl) (fun _ _ _ h => h) (Or.inl ⟨by rfl, ?hya8⟩) (by assumption) ?_
  case hya8 => (intro wz hSw; (try dsimp only at hSw); go_simp; try with_reducible rfl)
  (try simp only [Act.put, List.setIfInBounds_toArray, List.set_cons_zero, List.set_cons_succ])
  refine wpAnyH_take (i := 9) (oi := { dst := some 22, op := Go.Op.move (Go.Operand.tmp 0), type := 44, pos := _, after := #[{ on := 6, ground := Go.Ground.guard }], guard := some (6, false) }) (v := ?va9) rfl (by kernel_rfl) (by kernel_rfl) (by kernel_rfl) (fun _ _ _ h => h) (Or.inl ⟨by rfl, ?hya9⟩) (by assumption) ?_
  case hya9 => (intro wz hSw; (try dsimp only at hSw); go_simp; try with_reducible rfl)
  (try simp only [Act.put, List.setIfInBounds_toArray, List.set_cons_zero, List.set_cons_succ])
  refine wpAnyH_take (i := 10) (oi := { dst := some 23, op := Go.Op.nilCheck (Go.Operand.tmp 22), type := 0, pos := _, after := #[{ on := 9, ground := Go.Ground.data }, { on := 6, ground := Go.Ground.guard }], guard := some (6, false) }) (v := ?va10) rfl (by kernel_rfl) (by kernel_rfl) (by kernel_rfl) (fun _ _ _ h => h) (Or.inl ⟨by rfl, ?hya10⟩) (by assumption) ?_
  case hya10 => (intro wz hSw; (try dsimp only at hSw); go_simp; try with_reducible rfl)
  (try simp only [Act.put, List.setIfInBounds_toArray, List.set_cons_zero, List.set_cons_succ])
  refine wpAnyH_take (i := 11) (oi := { dst := some 24, op := Go.Op.fieldAddr 47 (Go.Operand.tmp 23) 0, type := 0, pos := _, after := #[{ on := 10, ground := Go.Ground.data }, { on := 6, ground := Go.Ground.guard }], guard := some (6, false) }) (v := ?va11) rfl (by kernel_rfl) (by kernel_rfl) (by kernel_rfl) (fun _ _ _ h => h) (Or.inl ⟨by rfl, ?hya11⟩) (by assumption) ?_
  case hya11 => (intro wz hSw; (try dsimp only at hSw); go_simp; try with_reducible rfl)
  (try simp only [Act.put, List.setIfInBounds_toArray, List.set_cons_zero, List.set_cons_succ])
  refine wpAnyH_take (i := 12) (oi := { dst := some 25, op := Go.Op.load 3 (Go.Operand.tmp 24), type := 3, pos := _, after := #[{ on := 11, ground := Go.Ground.data }, { on := 6, ground := Go.Ground.guard }], guard := some (6, false) }) (v := ?va12) rfl (by kernel_rfl) (by kernel_rfl) (by kernel_rfl) (fun _ _ _ h => h) (Or.inl ⟨by rfl, ?hya12⟩) (by assumption) ?_
  case hya12 => (intro wz hSw; (try dsimp only at hSw); go_simp; try with_reducible rfl)
  (try simp only [Act.put, List.setIfInBounds_toArray, List.set_cons_zero, List.set_cons_succ])
  refine wpAnyH_take (i := 13) (oi := { dst := some 26, op := Go.Op.move (Go.Operand.tmp 0), type := 44, pos := _, after := #[{ on := 6, ground := Go.Ground.guard }], guard := some (6, false) }) (v := ?va13) rfl (by kernel_rfl) (by kernel_rfl) (by kernel_rfl) (fun _ _ _ h => h) (Or.inl ⟨by rfl, ?hya13⟩) (by assumption) ?_
  case hya13 => (intro wz hSw; (try dsimp only at hSw); go_simp; try with_reducible rfl)
  (try simp only [Act.put, List.setIfInBounds_toArray, List.set_cons_zero, List.set_cons_succ])
  refine wpAnyH_ready (rs := [14]) (by kernel_rfl) (by simp) ?_
  refine AllReadyH.cons (o := { dst := some 27, op := Go.Op.call { callee := Go.Callee.value (Go.Operand.func 42), args := #[Go.Operand.tmp 26], argTypes := #[44] }, type := 3, pos := _, after := #[{ on := 13, ground := Go.Ground.data }, { on := 6, ground := Go.Ground.chain }, { on := 6, ground := Go.Ground.guard }], guard := some (6, false) }) rfl (fun K hK => ?_) AllReadyH.nil
  go_simp
  refine (US.out _ (below_drew w)).mono ?_; rintro e w1 ⟨rfl, hb0⟩
  have hb1 := bt (below_drew w) hb0
  clear hb0
  have c0b := (hb1.cell (p := ⟨g, 0, none⟩) glt).trans c0
  go_wp2_with fail
  refine hK.out _ _ ?_ (fun hHeld => ?_)
  · (try dsimp only); go_keep
  clear hK K
  (try simp only [Act.put, List.setIfInBounds_toArray, List.set_cons_zero, List.set_cons_succ])
  refine wpAnyH_take (i := 15) (oi := { dst := some 28, op := Go.Op.binOp Go.BinOp.sub 3 (Go.Operand.tmp 25) (Go.Operand.tmp 27) 3, type := 3, pos := _, after := #[{ on := 12, ground := Go.Ground.data }, { on := 14, ground := Go.Ground.data }, { on := 6, ground := Go.Ground.guard }], guard := some (6, false) }) (v := ?va15) rfl (by kernel_rfl) (by kernel_rfl) (by kernel_rfl) (fun _ _ _ h => h) (Or.inl ⟨by rfl, ?hya15⟩) (by assumption) ?_
  case hya15 => (intro wz hSw; (try dsimp only at hSw); go_simp; try with_reducible rfl)
  (try simp only [Act.put, List.setIfInBounds_toArray, List.set_cons_zero, List.set_cons_succ])
  refine wpAnyH_take (i := 16) (oi := { dst := some 29, op := Go.Op.binOp Go.BinOp.gtr 3 (Go.Operand.tmp 21) (Go.Operand.tmp 28) 3, type := 4, pos := _, after := #[{ on := 8, ground := Go.Ground.data }, { on := 15, ground := Go.Ground.data }, { on := 6, ground := Go.Ground.guard }], guard := some (6, false) }) (v := ?va16) rfl (by kernel_rfl) (by kernel_rfl) (by kernel_rfl) (fun _ _ _ h => h) (Or.inl ⟨by rfl, ?hya16⟩) (by assumption) ?_
  case hya16 => (intro wz hSw; (try dsimp only at hSw); go_simp; try with_reducible rfl)
  (try simp only [Act.put, List.setIfInBounds_toArray, List.set_cons_zero, List.set_cons_succ])
  refine wpAnyH_take (i := 17) (oi := { dst := some 30, op := Go.Op.pick (Go.Operand.tmp 19) (Go.Operand.const (Go.Value.bool true)) (Go.Operand.tmp 29), type := 4, pos := _, after := #[{ on := 6, ground := Go.Ground.data }, { on := 16, ground := Go.Ground.data }], guard := none }) (v := ?va17) rfl (by kernel_rfl) (by kernel_rfl) (by kernel_rfl) (fun _ _ _ h => h) (Or.inl ⟨by rfl, ?hya17⟩) (by assumption) ?_
  case hya17 => (intro wz hSw; (try dsimp only at hSw); go_simp; try with_reducible rfl)
  (try simp only [Act.put, List.setIfInBounds_toArray, List.set_cons_zero, List.set_cons_succ])
  refine wpAnyH_done (by kernel_rfl) ?_ _
  go_wp2
  go_ret
  exact ⟨rfl, hb1⟩
/-- the new frame while its slots are laid. -/
def PL (w : World) (B fb : Nat) (bk cl : Int) (k : Nat) (wr : World) : Prop := ∃ A c, wr.heap[fb]? = some (.cells #[.int .i64 bk, .int .i64 cl, .slice A k c, .slice none 0 0] 80 (0, 0)) ∧ wr.ownsRow (fb + 1) 29 1 (.slice A k c) k (wds (List.replicate k 1)) ∧ Below w.heap.size w wr ∧ w.heap.size ≤ fb ∧ fb < wr.heap.size
theorem frc_one (fl : List RX) (h : ∀ x ∈ fl, (∃ A n c, x.sv = .slice A n c) ∧ ∃ A n c, x.av = .slice A n c) : ∀ u ∈ frc fl, u.oneCell' = true := fun u hu => by
  simp only [frc, List.mem_flatMap] at hu
  obtain ⟨x, hx, hu⟩ := hu
  obtain ⟨⟨A, n, c, e1⟩, ⟨A2, n2, c2, e2⟩⟩ := h x hx
  rw [e1, e2] at hu
  simp at hu
  rcases hu with rfl | rfl | rfl | rfl <;> rfl
theorem RS.ones {w : World} {B g room : Nat} {fv : Value} {fl : List RX} (t : RS w B g room fv fl) : ∀ u ∈ frc fl, u.oneCell' = true := frc_one fl fun x hx => by
  obtain ⟨A, c, e, _⟩ := (t.rs x hx).form
  obtain ⟨A2, c2, e2, _⟩ := (t.ra x hx).form
  exact ⟨⟨A, _, c, e⟩, ⟨A2, _, c2, e2⟩⟩
theorem rpush_end {w w3 : World} {B g room N g3 cap c sl base : Nat} {fv A : Option Addr} {fl : List RX} {bk cl : Int} {sc : Nat} (T : RS w B g room (.slice fv N c) fl) (b3 : Below w.heap.size w w3) (hbase : w.heap.size ≤ base)
    (own3 : w3.ownsRow base 80 4 (.slice (some ⟨g3, 0, none⟩) (N + 1) cap) (N + 1) (frc fl ++ [.int .i64 bk, .int .i64 cl, .slice A sl sc, .slice none 0 0])) (hN : N = fl.length) (osl : w3.ownsRow base 29 1 (.slice A sl sc) sl (wds (List.replicate sl 1))) (hr : used (fl.map (·.f)) + 2 + sl ≤ room) :
    RS (w3.setCell ⟨g, 1, none⟩ (.slice (some ⟨g3, 0, none⟩) (N + 1) cap)) B g room (.slice (some ⟨g3, 0, none⟩) (N + 1) cap) (fl ++ [⟨⟨bk, cl, List.replicate sl 1, []⟩, .slice A sl sc, .slice none 0 0⟩]) ∧ Frm w (w3.setCell ⟨g, 1, none⟩ (.slice (some ⟨g3, 0, none⟩) (N + 1) cap)) (Own g (.slice fv N c) fl) ∧ ∀ k', Own g (.slice (some ⟨g3, 0, none⟩) (N + 1) cap) (fl ++ [⟨⟨bk, cl, List.replicate sl 1, []⟩, .slice A sl sc, .slice none 0 0⟩]) k' → Own g (.slice fv N c) fl k' ∨ w.heap.size ≤ k' := by
  have T3 := T.below b3
  have hglt := T.glt
  have hB := T.le
  have hBb : B ≤ base := by omega
  have hg3 := (own3.lt g3 rfl).1
  have fr : Frm w3 (w3.setCell ⟨g, 1, none⟩ (.slice (some ⟨g3, 0, none⟩) (N + 1) cap)) (· = g) := frm_set (R := (· = g)) 1 _ rfl
  have hrb : ∀ k, rb (.slice (some ⟨g3, 0, none⟩) (N + 1) cap) = some k → k = g3 := fun k hk => by
    rw [rb_pos (by omega)] at hk; injection hk with hk; exact hk.symm
  have hsb : ∀ k, rb (.slice A sl sc) = some k → base ≤ k := fun k hk => (osl.lt k (rb_own hk)).1
  have hnb : ∀ k, rb (.slice none 0 0) = some k → False := fun k hk => by simp [rb] at hk
  have er : rowsOf (fl ++ [⟨⟨bk, cl, List.replicate sl 1, []⟩, .slice A sl sc, .slice none 0 0⟩]) = rowsOf fl ++ [.slice A sl sc, .slice none 0 0] := by rw [rowsOf_app, rowsOf_cons]; rfl
  have hz : ∀ x ∈ fl, x.sv ∈ rowsOf fl ∧ x.av ∈ rowsOf fl := fun x hx => rows_mem hx
  refine ⟨⟨obj_set1 _ T3.obj, T.le, ?_, ?_, ?_, ?_, ?_, T.small⟩, ?_, ?_⟩
  · have h := (Rw.of_own (own_mono own3 hBb)).frm fr (fun k hk e => by have := hrb k hk; omega)
    rw [List.length_append, List.length_singleton, ← hN, frc_app]
    exact h
  · intro x hx
    rcases List.mem_append.1 hx with hx | hx
    · exact (T3.rs x hx).frm fr (fun k hk e => T3.gz _ (hz x hx).1 (e ▸ hk))
    · rw [List.mem_singleton] at hx
      subst hx
      have h := (Rw.of_own (own_mono osl hBb)).frm fr (fun k hk e => by have := hsb k hk; omega)
      show Rw _ B 29 1 _ (List.replicate sl 1).length _
      rw [List.length_replicate]; exact h
  · intro x hx
    rcases List.mem_append.1 hx with hx | hx
    · exact (T3.ra x hx).frm fr (fun k hk e => T3.gz _ (hz x hx).2 (e ▸ hk))
    · rw [List.mem_singleton] at hx
      subst hx
      exact Rw.nil _ _ _ _ _ _ (fun _ => rfl)
  · rw [er]
    unfold Apart
    rw [List.pairwise_append]
    refine ⟨T.ap, ?_, ?_⟩
    · rw [List.pairwise_cons]
      exact ⟨fun z hz k hk => by rw [List.mem_singleton] at hz; subst hz; intro e; exact hnb k e, List.pairwise_singleton _ _⟩
    · intro z hz u hu k hk e
      rcases List.mem_cons.1 hu with rfl | hu
      · have := (T.row z hz k hk).2.1; have := hsb k e; omega
      · rw [List.mem_singleton] at hu; subst hu; exact hnb k e
  · rw [List.map_append, List.map_cons, List.map_nil, used_snoc]
    simp only [List.length_replicate, List.length_nil]; omega
  · exact (Frm.of_below b3 (Nat.le_refl _) _).trans (fr.mono (fun q _ hq => .inl hq))
  · rintro k (h | h | ⟨z, hz, h⟩)
    · exact .inl (.inl h)
    · right; rw [hrb k h]; omega
    · rw [er] at hz
      rcases List.mem_append.1 hz with hz | hz
      · exact .inl (.inr (.inr ⟨z, hz, h⟩))
      · right
        rcases List.mem_cons.1 hz with rfl | hz
        · have := hsb k h; omega
        · rw [List.mem_singleton] at hz; subst hz; exact absurd h (hnb k)
theorem pl_first {w w1 : World} {B : Nat} {bk cl : Int} (hb : Below w.heap.size w w1) : PL w B w1.heap.size bk cl 0 (w1.alloc (.cells #[.int .i64 bk, .int .i64 cl, .slice none 0 0, .slice none 0 0] 80)) :=
  ⟨none, 0, heap_alloc_new w1 _, World.ownsRow_nil _ _ _ _, bt hb (below_alloc w1 _), hb.size, by simp⟩
theorem pl_more {w wr w2 : World} {B fb k gg cap : Nat} {bk cl : Int} {A : Option Addr} {c : Nat} (h1 : wr.heap[fb]? = some (.cells #[.int .i64 bk, .int .i64 cl, .slice A k c, .slice none 0 0] 80 (0, 0))) (h2 : wr.ownsRow (fb + 1) 29 1 (.slice A k c) k (wds (List.replicate k 1))) (h3 : Below w.heap.size w wr) (h4 : w.heap.size ≤ fb)
    (own2 : w2.ownsRow (fb + 1) 29 1 (.slice (some ⟨gg, 0, none⟩) (k + 1) cap) (k + 1) (wds (List.replicate k 1) ++ [.int .u64 1])) (gr : (wr.alloc (.cells #[.int .u64 1] 29)).grownBy w2 (Value.slice A k c).ownBlock) :
    w2.heap[fb]? = some (.cells #[.int .i64 bk, .int .i64 cl, .slice A k c, .slice none 0 0] 80 (0, 0)) ∧ PL w B fb bk cl (k + 1) (w2.setCell ⟨fb, 2, none⟩ (.slice (some ⟨gg, 0, none⟩) (k + 1) cap)) := by
  have hlt := (Array.getElem?_eq_some_iff.1 h1).1
  have e1 : w2.heap[fb]? = some (.cells #[.int .i64 bk, .int .i64 cl, .slice A k c, .slice none 0 0] 80 (0, 0)) := by
    rw [gr.block fb (by simp; omega) (fun e => by have := (h2.lt fb e.symm).1; omega)]
    exact ((below_alloc wr _).block fb hlt).trans h1
  refine ⟨e1, some ⟨gg, 0, none⟩, cap, by simp [World.setCell, Array.getElem?_modify, e1], ?_, ?_, h4, by simp [World.setCell]; have := gr.size; simp at this; omega⟩
  · rw [List.replicate_succ', wds_app]
    exact own_frm own2 (frm_set (R := (· = fb)) 2 _ rfl) (fun j hj e => by have := (own2.lt j hj).1; omega)
  · have hb2 : Below w.heap.size w w2 := (bt h3 (below_alloc wr _)).grown gr (by have := h3.size; simp; omega) (fun q hq => by have := (h2.lt q hq).1; omega)
    exact hb2.setCell h4 _
end Go.Proofs.Ytkecnhogooaccaa
