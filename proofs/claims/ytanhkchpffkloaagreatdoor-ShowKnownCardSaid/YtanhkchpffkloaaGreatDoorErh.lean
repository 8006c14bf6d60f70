import Derived.Test.YtanhkchpffkloaaGreatDoorErg
namespace Go.Proofs.YtanhkchpffkloaaGreatDoor
open Go Go.RowKit
set_option linter.unusedVariables false
set_option linter.unusedSimpArgs false
noncomputable section
variable {ds : List Deferred}
section
variable {P : Program} {o : Oper} {a : Act} {w : World}
theorem run_move {x : Operand} {v : Value} (h : o.op = .move x ∨ o.op = .assign x) (hx : a.eval x = v) : (execOp a.eval o).run P w = .ok (.value v) w := by
  rcases h with h | h <;> simp [execOp, h, hx, Sem.run, pure]
theorem run_int {op : BinOp} {t t' : TypeId} {x y : Operand} {m k : Int} {v : Value} (h : o.op = .binOp op t x y t') (hx : a.eval x = .int .i64 m) (hy : a.eval y = .int .i64 k) (hv : intBin op .i64 m k = some v) : (execOp a.eval o).run P w = .ok (.value v) w := by
  obtain ⟨h4, h5⟩ := intBin_ok (P := P) (w := w) (t := t) (k := .i64) (k' := .i64) hv (.inr rfl)
  have h1 : (eqGuard op t x y (a.eval x) (a.eval y)).run P w = .ok () w := by rw [hx, hy]; exact guard_run (by simp) (by simp)
  rw [hx, hy] at h1
  simp [execOp, h, hx, hy, h1, h4, Result.andThen]
theorem run_load {t : TypeId} {x : Operand} {p : Addr} {v : Value} (h : o.op = .load t x) (hx : a.eval x = .pointer (some p)) (hl : (loadVar t p).run P w = .ok v w) : (execOp a.eval o).run P w = .ok (.value v) w := by
  simp [execOp, h, hx, Instr.loadAt, Instr.sureAddr, hl]
theorem run_not {t : TypeId} {x : Operand} {b : Bool} (h : o.op = .unOp .not t x) (hx : a.eval x = .bool b) : (execOp a.eval o).run P w = .ok (.value (.bool (!b))) w := by
  simp [execOp, h, hx, Op.unary, Sem.run, pure, bind, Sem.bind]
theorem run_yieldcall {x : Operand} {args : Array Operand} {tys : Array TypeId} {l : Nat} {nx : Next} (h : o.op = .call ⟨.value x, args, tys⟩) (hx : a.eval x = .func (.yield l) #[] #[]) (hy : (Instr.yield l (args.map a.eval)).run P w = .ok nx w) : (execOp a.eval o).run P w = .ok nx w := by
  simp [execOp, h, resolve, Deferred.ofValue, hx, invoke, hy]
end
/-- what the closure comes to. -/
def bwQ (E : Env) (H : Hp) (w : World) (rec : LoopState → Option Code → Loop) (e : Ex) (H' : Hp) : Exit → Act → World → Prop := fun x a' W' => (x = .normal ∨ x = .ret) ∧ a'.defers = [] ∧ ∃ E2 st, st ≠ .busy ∧ Rd E H w rec E2 H' st (jumpOf e) W'
theorem range8 : List.range 8 = [0, 1, 2, 3, 4, 5, 6, 7] := rfl
section
variable {n : Nat} {P : Program} {Q : Exit → Act → World → Prop} {a : Act} {W : World} {l : Nat} {pv : Value}
/-- the test i >= 0. -/
theorem bw_test {i : Int} (hit : IT l pv a) (h3 : a.tmps[3]? = some (.int .i64 i)) {c : Code}
    (h : ∀ a', IT l pv a' → a'.tmps[3]? = some (.int .i64 i) → if 0 ≤ i then c.wpIn (FF none) n P Q a' W else Q (.exit 0) a' W) :
    (Code.seq (.seq (.region 1 bwr1 false) (.cond (.tmp 8) .skip (.exit 0))) c).wpIn (FF none) n P Q a W := by
  have h31 : (a.put (some 7) (.int .i64 i)).tmps[3]? = some (.int .i64 i) := by rw [tput_other (by omega)]; exact h3
  have hi1 := hit.put 7 (.int .i64 i) (by omega) (by omega)
  have hi2 := hi1.put 8 (.bool (Bool.not (ltF i 0))) (by omega) (by omega)
  have h32 : ((a.put (some 7) (.int .i64 i)).put (some 8) (.bool (Bool.not (ltF i 0)))).tmps[3]? = some (.int .i64 i) := by rw [tput_other (by omega)]; exact h31
  refine wpIn_seq (wpIn_seq (wpIn_region ?_))
  show wpOpsIn _ _ _ bwr1 _ [0, 1] a W
  refine opsIn_val (o := bwr1[0]) (some 7) rfl rfl rfl (by intro c hc; cases hc) (run_move (.inl rfl) (eval_tmp h3)) ?_
  refine opsIn_val (o := bwr1[1]) (some 8) rfl rfl rfl (by intro c hc; cases hc) (run_int rfl (eval_tmp (tput_same (by rw [hit.size]; omega))) rfl rfl) ?_
  refine opsIn_end ?_
  show (Code.cond (.tmp 8) .skip (.exit 0)).wpIn _ _ _ _ _ _
  refine wpIn_cond (t := Bool.not (ltF i 0)) (eval_tmp (tput_same (by rw [hi1.size]; omega))) ?_
  have h9 := h _ hi2 h32
  clear h32 hi2
  rw [ltF_eq] at h9 ⊢
  by_cases hp : 0 ≤ i
  · rw [if_pos hp] at h9
    rw [decide_eq_false (by omega)] at h9 ⊢
    exact wpIn_skip h9
  · rw [if_neg hp] at h9
    rw [decide_eq_true (by omega)] at h9 ⊢
    exact wpIn_exit h9
/-- i = i - 1. -/
theorem bw_dec {i : Nat} (hit : IT l pv a) (h3 : a.tmps[3]? = some (.int .i64 (i : Int))) (hi : i ≤ 4294967296) (h : ∀ a', IT l pv a' → a'.tmps[3]? = some (.int .i64 ((i : Int) - 1)) → Q .normal a' W) :
    (Code.region 2 bwr2 false).wpIn (FF none) n P Q a W := by
  refine wpIn_region ?_
  show wpOpsIn _ _ _ bwr2 _ [0, 1, 2] a W
  have hw : wrapF .i64 (Int.sub i 1) = (i : Int) - 1 := by
    rw [wrapF_eq]
    show IntKind.i64.wrap ((i : Int) - 1) = _
    simp [IntKind.wrap, IntKind.bits, IntKind.signed]
    omega
  have hi1 := hit.put 9 (.int .i64 (i : Int)) (by omega) (by omega)
  have hi2 := hi1.put 10 (.int .i64 (wrapF .i64 (Int.sub i 1))) (by omega) (by omega)
  have hi3 := hi2.put 3 (.int .i64 (wrapF .i64 (Int.sub i 1))) (by omega) (by omega)
  refine opsIn_val (o := bwr2[0]) (some 9) rfl rfl rfl (by intro c hc; cases hc) (run_move (.inl rfl) (eval_tmp h3)) ?_
  refine opsIn_val (o := bwr2[1]) (some 10) rfl rfl rfl (by intro c hc; cases hc) (run_int rfl (eval_tmp (tput_same (by rw [hit.size]; omega))) rfl rfl) ?_
  refine opsIn_val (o := bwr2[2]) (some 3) rfl rfl rfl (by intro c hc; cases hc) (run_move (.inr rfl) (eval_tmp (tput_same (by rw [hi1.size]; omega)))) ?_
  refine opsIn_end (h _ hi3 ?_)
  rw [← hw]
  exact tput_same (by rw [hi2.size]; omega)
end
end
end Go.Proofs.YtanhkchpffkloaaGreatDoor
