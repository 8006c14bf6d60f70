import Derived.Test.YtclilpabdcdeoaaDoorVt
import Derived.Deep.RegionHeld3
namespace Go.Proofs.YtclilpabdcdeoaaDoor
open Go.ChangeShapes Go.WideShapes Go.ChangeAt Go.RowKit
set_option linter.unusedVariables false
set_option maxRecDepth 100000 in
set_option maxHeartbeats 4000000 in
theorem cell_good {w0 w : World} {R vb vo cb co tb to_ : Nat} {ks : Value} {s nm x nm2 : ByteArray} {wi vr k tk vr2 : Int} {j nc cc ct n2 c2 : Nat} {A2 : Option Addr} (h : RS w0 w R (.slice (some ⟨cb, co, none⟩) nc cc) ks s) (hs : s.size ≤ 900000)
    (hv : Has w0 w R vb (vo + 6) (.int .i64 j)) (hj : j < nc) (hw0 : 0 ≤ wi) (hw : wi < 50)
    (t0 : Has w0 w R tb to_ (.int .i64 tk)) (t1 : Has w0 w R tb (to_ + 1) (.string nm2)) (t2 : Has w0 w R tb (to_ + 2) (.int .i64 vr2)) (t3 : Has w0 w R tb (to_ + 3) (.slice A2 n2 c2))
    (hV : ∀ W, RS w0 W R (.slice (some ⟨cb, co, none⟩) nc cc) ks (s ++ refT) → Kp R w W → Calls Tryd.prog 31 #[.pointer (some ⟨R, 0, none⟩), .pointer (some ⟨cb, co + j * 7, none⟩), .agg #[.int .i64 tk, .string nm2, .int .i64 vr2, .slice A2 n2 c2], .int .i64 (wi + 1)] W fun e w' => e = .returned (.tuple #[]) ∧ Hid (RS w0 w' R (.slice (some ⟨cb, co, none⟩) nc cc) ks (s ++ refT ++ x)) ∧ Hid (Kp R W w')) :
    Calls Tryd.prog 39 #[.pointer (some ⟨R, 0, none⟩), .pointer (some ⟨vb, vo, none⟩), .agg #[.int .i64 k, .string nm, .int .i64 vr, .slice (some ⟨tb, to_, none⟩) 1 ct], .int .i64 wi] w fun e w' => e = .returned (.tuple #[]) ∧ Hid (RS w0 w' R (.slice (some ⟨cb, co, none⟩) nc cc) ks (s ++ refT ++ x)) ∧ Hid (Kp R w w') := by
  have TX : Hid (∀ O, Calls Tryd.prog 35 #[.pointer (some ⟨R, 0, none⟩), .string ⟨#[114, 101, 102, 32]⟩] (w.alloc O) fun e w' => e = .returned (.tuple #[]) ∧ Hid (RS w0 w' R (.slice (some ⟨cb, co, none⟩) nc cc) ks (s ++ refT)) ∧ Hid (Kp R (w.alloc O) w')) := Lib.hid (fun O =>
    text_any refT (h.alloc O) (by have : refT.size = 4 := rfl; omega))
  have HV := Lib.hid hv
  have HRL := Lib.hid h.lt
  have T0 := Lib.hid t0; have T1 := Lib.hid t1; have T2 := Lib.hid t2; have T3 := Lib.hid t3
  have VV := Lib.hid hV
  clear h hv hs t0 t1 t2 t3 hV
  have hj' : (j : Int) < (nc : Int) := by omega
  have d1 : decide ((j : Int) < 0) = false := decide_eq_false (by omega)
  have d2 : decide ((nc : Int) ≤ (j : Int)) = false := decide_eq_false (by omega)
  have d2' : decide (nc ≤ j) = false := decide_eq_false (by omega)
  go_enter Tryd.func39, Tryd.ntmps39
  go_wp2_with fail
  refine (TX.out _).mono ?_; rintro e w1 ⟨rfl, H1, K1⟩
  have KW : Hid (Kp R w w1) := Lib.hid ((kp_alloc R w _).trans K1.out)
  have v1 := (HV.out.kp KW.out).cell H1.out.below
  have BX := Lib.hid ((has_new w0 w R #[.int .i64 k, .string nm, .int .i64 vr, .slice (some ⟨tb, to_, none⟩) 1 ct] 34 (by decide) HRL.out 3 _ rfl).kp K1.out)
  have b1 := BX.out.cell H1.out.below
  have r0 := H1.out.c0
  have u0 := (T0.out.kp KW.out).cell H1.out.below; have u1 := (T1.out.kp KW.out).cell H1.out.below; have u2 := (T2.out.kp KW.out).cell H1.out.below; have u3 := (T3.out.kp KW.out).cell H1.out.below
  have VY : Hid (∀ q, Calls Tryd.prog 31 #[.pointer (some ⟨R, 0, none⟩), .pointer (some ⟨cb, co + j * 7, none⟩), .agg #[.int .i64 tk, .string nm2, .int .i64 vr2, .slice A2 n2 c2], .int .i64 (wi + 1)] (w1.drewN q) fun e w' => e = .returned (.tuple #[]) ∧ Hid (RS w0 w' R (.slice (some ⟨cb, co, none⟩) nc cc) ks (s ++ refT ++ x)) ∧ Hid (Kp R w w') ∧ Hid (Kp R w1 w')) := Lib.hid (fun q =>
    (VV.out (w1.drewN q) (H1.out.drewN q) (KW.out.trans (kp_drewN R w1 q))).mono (by
      rintro e w' ⟨rfl, a, b⟩
      exact ⟨rfl, a, Lib.hid (KW.out.trans ((kp_drewN R w1 q).trans b.out)), Lib.hid ((kp_drewN R w1 q).trans b.out)⟩))
  clear TX H1 K1 HRL VV KW
  go_wp2
  go_quiet (fail)
  go_wp2
  have hwr : IntKind.i64.wrap (wi + 1) = wi + 1 := IntWalk.i64_in _ (by omega)
  refine wp_region_held_drew (S := fun w' => w'.cell? ⟨R, 0, none⟩ = some (.slice (some ⟨cb, co, none⟩) nc cc) ∧ w'.cell? ⟨vb, vo + 6, none⟩ = some (.int .i64 j) ∧ w'.cell? ⟨w.heap.size, 3, none⟩ = some (.slice (some ⟨tb, to_, none⟩) 1 ct) ∧ w'.cell? ⟨tb, to_, none⟩ = some (.int .i64 tk) ∧ w'.cell? ⟨tb, to_ + 1, none⟩ = some (.string nm2) ∧ w'.cell? ⟨tb, to_ + 2, none⟩ = some (.int .i64 vr2) ∧ w'.cell? ⟨tb, to_ + 3, none⟩ = some (.slice A2 n2 c2)) (by kernel_rfl) ?_ (fun hHeld => ?_)
  · (try dsimp only); go_keep
  refine wpAnyH_take (i := 0) (oi := { dst := some 35, op := Go.Op.move (Go.Operand.tmp 0), type := 86, pos := _, after := #[], guard := none }) (v := ?v0) rfl (by kernel_rfl) (by kernel_rfl) (by kernel_rfl) (fun _ _ _ h => h) (Or.inl ⟨by rfl, ?hy0⟩) (by assumption) ?_
  case hy0 => (intro wz hSw; (try dsimp only at hSw); go_simp; try with_reducible rfl)
  (try simp only [Act.put, List.setIfInBounds_toArray, List.set_cons_zero, List.set_cons_succ])
  refine wpAnyH_take (i := 1) (oi := { dst := some 36, op := Go.Op.move (Go.Operand.tmp 0), type := 86, pos := _, after := #[], guard := none }) (v := ?v1) rfl (by kernel_rfl) (by kernel_rfl) (by kernel_rfl) (fun _ _ _ h => h) (Or.inl ⟨by rfl, ?hy1⟩) (by assumption) ?_
  case hy1 => (intro wz hSw; (try dsimp only at hSw); go_simp; try with_reducible rfl)
  (try simp only [Act.put, List.setIfInBounds_toArray, List.set_cons_zero, List.set_cons_succ])
  refine wpAnyH_take (i := 2) (oi := { dst := some 37, op := Go.Op.nilCheck (Go.Operand.tmp 36), type := 0, pos := _, after := #[{ on := 1, ground := Go.Ground.data }], guard := none }) (v := ?v2) rfl (by kernel_rfl) (by kernel_rfl) (by kernel_rfl) (fun _ _ _ h => h) (Or.inl ⟨by rfl, ?hy2⟩) (by assumption) ?_
  case hy2 => (intro wz hSw; (try dsimp only at hSw); go_simp; try with_reducible rfl)
  (try simp only [Act.put, List.setIfInBounds_toArray, List.set_cons_zero, List.set_cons_succ])
  refine wpAnyH_take (i := 3) (oi := { dst := some 38, op := Go.Op.fieldAddr 79 (Go.Operand.tmp 37) 0, type := 0, pos := _, after := #[{ on := 2, ground := Go.Ground.data }], guard := none }) (v := ?v3) rfl (by kernel_rfl) (by kernel_rfl) (by kernel_rfl) (fun _ _ _ h => h) (Or.inl ⟨by rfl, ?hy3⟩) (by assumption) ?_
  case hy3 => (intro wz hSw; (try dsimp only at hSw); go_simp; try with_reducible rfl)
  (try simp only [Act.put, List.setIfInBounds_toArray, List.set_cons_zero, List.set_cons_succ])
  refine wpAnyH_take (i := 4) (oi := { dst := some 39, op := Go.Op.load 23 (Go.Operand.tmp 38), type := 23, pos := _, after := #[{ on := 3, ground := Go.Ground.data }], guard := none }) (v := ?v4) rfl (by kernel_rfl) (by kernel_rfl) (by kernel_rfl) (fun _ _ _ h => h) (Or.inl ⟨by rfl, ?hy4⟩) (by assumption) ?_
  case hy4 => (intro wz hSw; (try dsimp only at hSw); go_simp; try with_reducible rfl)
  (try simp only [Act.put, List.setIfInBounds_toArray, List.set_cons_zero, List.set_cons_succ])
  refine wpAnyH_take (i := 5) (oi := { dst := some 40, op := Go.Op.move (Go.Operand.tmp 1), type := 81, pos := _, after := #[], guard := none }) (v := ?v5) rfl (by kernel_rfl) (by kernel_rfl) (by kernel_rfl) (fun _ _ _ h => h) (Or.inl ⟨by rfl, ?hy5⟩) (by assumption) ?_
  case hy5 => (intro wz hSw; (try dsimp only at hSw); go_simp; try with_reducible rfl)
  (try simp only [Act.put, List.setIfInBounds_toArray, List.set_cons_zero, List.set_cons_succ])
  refine wpAnyH_take (i := 6) (oi := { dst := some 41, op := Go.Op.nilCheck (Go.Operand.tmp 40), type := 0, pos := _, after := #[{ on := 5, ground := Go.Ground.data }], guard := none }) (v := ?v6) rfl (by kernel_rfl) (by kernel_rfl) (by kernel_rfl) (fun _ _ _ h => h) (Or.inl ⟨by rfl, ?hy6⟩) (by assumption) ?_
  case hy6 => (intro wz hSw; (try dsimp only at hSw); go_simp; try with_reducible rfl)
  (try simp only [Act.put, List.setIfInBounds_toArray, List.set_cons_zero, List.set_cons_succ])
  refine wpAnyH_take (i := 7) (oi := { dst := some 42, op := Go.Op.fieldAddr 26 (Go.Operand.tmp 41) 6, type := 0, pos := _, after := #[{ on := 6, ground := Go.Ground.data }], guard := none }) (v := ?v7) rfl (by kernel_rfl) (by kernel_rfl) (by kernel_rfl) (fun _ _ _ h => h) (Or.inl ⟨by rfl, ?hy7⟩) (by assumption) ?_
  case hy7 => (intro wz hSw; (try dsimp only at hSw); go_simp; try with_reducible rfl)
  (try simp only [Act.put, List.setIfInBounds_toArray, List.set_cons_zero, List.set_cons_succ])
  refine wpAnyH_take (i := 8) (oi := { dst := some 43, op := Go.Op.load 3 (Go.Operand.tmp 42), type := 3, pos := _, after := #[{ on := 7, ground := Go.Ground.data }], guard := none }) (v := ?v8) rfl (by kernel_rfl) (by kernel_rfl) (by kernel_rfl) (fun _ _ _ h => h) (Or.inl ⟨by rfl, ?hy8⟩) (by assumption) ?_
  case hy8 => (intro wz hSw; (try dsimp only at hSw); go_simp; try with_reducible rfl)
  (try simp only [Act.put, List.setIfInBounds_toArray, List.set_cons_zero, List.set_cons_succ])
  refine wpAnyH_take (i := 9) (oi := { dst := some 44, op := Go.Op.indexAddr 23 (Go.Operand.tmp 39) (Go.Operand.tmp 43), type := 0, pos := _, after := #[{ on := 4, ground := Go.Ground.data }, { on := 8, ground := Go.Ground.data }], guard := none }) (v := ?v9) rfl (by kernel_rfl) (by kernel_rfl) (by kernel_rfl) (fun _ _ _ h => h) (Or.inl ⟨by rfl, ?hy9⟩) (by assumption) ?_
  case hy9 => (intro wz hSw; (try dsimp only at hSw); go_simp; try with_reducible rfl)
  (try simp only [Act.put, List.setIfInBounds_toArray, List.set_cons_zero, List.set_cons_succ])
  refine wpAnyH_take (i := 10) (oi := { dst := some 45, op := Go.Op.fieldAddr 34 (Go.Operand.tmp 6) 3, type := 0, pos := _, after := #[], guard := none }) (v := ?v10) rfl (by kernel_rfl) (by kernel_rfl) (by kernel_rfl) (fun _ _ _ h => h) (Or.inl ⟨by rfl, ?hy10⟩) (by assumption) ?_
  case hy10 => (intro wz hSw; (try dsimp only at hSw); go_simp; try with_reducible rfl)
  (try simp only [Act.put, List.setIfInBounds_toArray, List.set_cons_zero, List.set_cons_succ])
  refine wpAnyH_take (i := 11) (oi := { dst := some 46, op := Go.Op.load 32 (Go.Operand.tmp 45), type := 32, pos := _, after := #[{ on := 10, ground := Go.Ground.data }], guard := none }) (v := ?v11) rfl (by kernel_rfl) (by kernel_rfl) (by kernel_rfl) (fun _ _ _ h => h) (Or.inl ⟨by rfl, ?hy11⟩) (by assumption) ?_
  case hy11 => (intro wz hSw; (try dsimp only at hSw); go_simp; try with_reducible rfl)
  (try simp only [Act.put, List.setIfInBounds_toArray, List.set_cons_zero, List.set_cons_succ])
  refine wpAnyH_take (i := 12) (oi := { dst := some 47, op := Go.Op.indexAddr 32 (Go.Operand.tmp 46) (Go.Operand.const (Go.Value.int Go.IntKind.i64 0)), type := 0, pos := _, after := #[{ on := 11, ground := Go.Ground.data }], guard := none }) (v := ?v12) rfl (by kernel_rfl) (by kernel_rfl) (by kernel_rfl) (fun _ _ _ h => h) (Or.inl ⟨by rfl, ?hy12⟩) (by assumption) ?_
  case hy12 => (intro wz hSw; (try dsimp only at hSw); go_simp; try with_reducible rfl)
  (try simp only [Act.put, List.setIfInBounds_toArray, List.set_cons_zero, List.set_cons_succ])
  refine wpAnyH_take (i := 13) (oi := { dst := some 48, op := Go.Op.load 34 (Go.Operand.tmp 47), type := 34, pos := _, after := #[{ on := 12, ground := Go.Ground.data }], guard := none }) (v := ?v13) rfl (by kernel_rfl) (by kernel_rfl) (by kernel_rfl) (fun _ _ _ h => h) (Or.inl ⟨by rfl, ?hy13⟩) (by assumption) ?_
  case hy13 => (intro wz hSw; (try dsimp only at hSw); go_simp; try with_reducible rfl)
  (try simp only [Act.put, List.setIfInBounds_toArray, List.set_cons_zero, List.set_cons_succ])
  refine wpAnyH_take (i := 14) (oi := { dst := some 49, op := Go.Op.move (Go.Operand.tmp 3), type := 3, pos := _, after := #[], guard := none }) (v := ?v14) rfl (by kernel_rfl) (by kernel_rfl) (by kernel_rfl) (fun _ _ _ h => h) (Or.inl ⟨by rfl, ?hy14⟩) (by assumption) ?_
  case hy14 => (intro wz hSw; (try dsimp only at hSw); go_simp; try with_reducible rfl)
  (try simp only [Act.put, List.setIfInBounds_toArray, List.set_cons_zero, List.set_cons_succ])
  refine wpAnyH_take (i := 15) (oi := { dst := some 50, op := Go.Op.binOp Go.BinOp.add 3 (Go.Operand.tmp 49) (Go.Operand.const (Go.Value.int Go.IntKind.i64 1)) 3, type := 3, pos := _, after := #[{ on := 14, ground := Go.Ground.data }], guard := none }) (v := ?v15) rfl (by kernel_rfl) (by kernel_rfl) (by kernel_rfl) (fun _ _ _ h => h) (Or.inl ⟨by rfl, ?hy15⟩) (by assumption) ?_
  case hy15 => (intro wz hSw; (try dsimp only at hSw); go_simp; try with_reducible rfl)
  (try simp only [Act.put, List.setIfInBounds_toArray, List.set_cons_zero, List.set_cons_succ])
  refine wpAnyH_ready (rs := [16]) (by kernel_rfl) (by simp) ?_
  refine AllReadyH.cons (o := { dst := some 51, op := Go.Op.call { callee := Go.Callee.value (Go.Operand.func 31), args := #[Go.Operand.tmp 35, Go.Operand.tmp 44, Go.Operand.tmp 48, Go.Operand.tmp 50], argTypes := #[86, 81, 34, 3] }, type := 0, pos := _, after := #[{ on := 0, ground := Go.Ground.data }, { on := 9, ground := Go.Ground.data }, { on := 13, ground := Go.Ground.data }, { on := 15, ground := Go.Ground.data }], guard := none }) rfl (fun K hK => ?_) AllReadyH.nil
  go_simp
  refine Calls.mono (VY.out _) ?_; rintro e w2 ⟨rfl, H2, K2, K3⟩
  have f0 := H2.out.c0; have f1 := (HV.out.kp K2.out).cell H2.out.below; have f2 := (BX.out.kp K3.out).cell H2.out.below; have f3 := (T0.out.kp K2.out).cell H2.out.below; have f4 := (T1.out.kp K2.out).cell H2.out.below; have f5 := (T2.out.kp K2.out).cell H2.out.below; have f6 := (T3.out.kp K2.out).cell H2.out.below
  go_wp2_with fail
  refine hK.out _ _ ?_ (fun hHeld => ?_)
  · (try dsimp only); go_keep
  clear hK K
  (try simp only [Act.put, List.setIfInBounds_toArray, List.set_cons_zero, List.set_cons_succ])
  refine wpAnyH_done (by kernel_rfl) ?_ _
  go_wp2
  first | go_end0 | (simp only [Exit.inBlock, Exit.then]; refine bodyPost_ret (results_none rfl _ _ _) rfl ?_) | refine bodyPost_ret (results_none rfl _ _ _) rfl ?_
  exact ⟨rfl, H2, K2⟩
end Go.Proofs.YtclilpabdcdeoaaDoor
