import Derived.Test.YtanhkchpffkloaaGreatDoorEwr
namespace Go.Proofs.YtanhkchpffkloaaGreatDoor
open Go Go.RowKit
set_option linter.unusedVariables false
set_option linter.unusedSimpArgs false
noncomputable section
variable {ds : List Deferred}
/-! ### ranges over slices.Backward -/
def CodesOk (P : Program) (T : Cx) (ih : Cmd → Out) : Prop := ∀ c A H e A' H', ih (.code c A H) = .code e A' H' → ndCode c = true → ∀ (ds : List Deferred) (ro : Option Nat), (ro = none ∨ nrCode c = true) → ∀ (E : Env) (a : Act) (w : World), AR ds E H.next A a → HRel E H w → wpR ro P c (PostM ds e A' H' E H w) a w
def bwr0 (ts : TypeId) : Array Oper := #[{ dst := some 4, op := .load ts (.tmp 1), type := ts, pos := "iter.go:28", after := #[], guard := none },
  { dst := some 5, op := .call { callee := .builtin .len, args := #[.tmp 4], argTypes := #[ts] }, type := 3, pos := "iter.go:28", after := #[{ on := 0, ground := .data }], guard := none },
  { dst := some 6, op := .binOp .sub 3 (.tmp 5) (.const (.int .i64 1)) 3, type := 3, pos := "iter.go:28", after := #[{ on := 1, ground := .data }], guard := none },
  { dst := some 3, op := .assign (.tmp 6), type := 3, pos := "iter.go:28", after := #[{ on := 2, ground := .data }, { on := 0, ground := .phase }, { on := 1, ground := .phase }, { on := 2, ground := .phase }], guard := none }]
def bwr1 : Array Oper := #[{ dst := some 7, op := .move (.tmp 3), type := 3, pos := "iter.go:28", after := #[], guard := none },
  { dst := some 8, op := .binOp .geq 3 (.tmp 7) (.const (.int .i64 0)) 3, type := 4, pos := "iter.go:28", after := #[{ on := 0, ground := .data }], guard := none }]
def bwr3 (y ts te : TypeId) : Array Oper := #[{ dst := some 11, op := .move (.tmp 0), type := y, pos := "iter.go:29", after := #[], guard := none },
  { dst := some 12, op := .move (.tmp 3), type := 3, pos := "iter.go:29", after := #[], guard := none },
  { dst := some 13, op := .load ts (.tmp 1), type := ts, pos := "iter.go:29", after := #[], guard := none },
  { dst := some 14, op := .move (.tmp 3), type := 3, pos := "iter.go:29", after := #[], guard := none },
  { dst := some 15, op := .indexAddr ts (.tmp 13) (.tmp 14), type := 0, pos := "iter.go:29", after := #[{ on := 2, ground := .data }, { on := 3, ground := .data }], guard := none },
  { dst := some 16, op := .load te (.tmp 15), type := te, pos := "iter.go:29", after := #[{ on := 4, ground := .data }], guard := none },
  { dst := some 17, op := .call { callee := .value (.tmp 11), args := #[.tmp 12, .tmp 16], argTypes := #[3, te] }, type := 4, pos := "iter.go:29", after := #[{ on := 0, ground := .data }, { on := 1, ground := .data }, { on := 5, ground := .data }], guard := none },
  { dst := some 18, op := .unOp .not 4 (.tmp 17), type := 4, pos := "iter.go:29", after := #[{ on := 6, ground := .data }], guard := none }]
def bwr2 : Array Oper := #[{ dst := some 9, op := .move (.tmp 3), type := 3, pos := "iter.go:28", after := #[], guard := none },
  { dst := some 10, op := .binOp .sub 3 (.tmp 9) (.const (.int .i64 1)) 3, type := 3, pos := "iter.go:28", after := #[{ on := 0, ground := .data }], guard := none },
  { dst := some 3, op := .assign (.tmp 10), type := 3, pos := "iter.go:28", after := #[{ on := 1, ground := .data }, { on := 0, ground := .phase }, { on := 1, ground := .phase }], guard := none }]
/-- what the closure of slices.Backward does, at the types y of yield, ts of the slice, te of its elements. -/
def bwRound (y ts te : TypeId) : Code := .seq (.seq (.region 1 bwr1 false) (.cond (.tmp 8) .skip (.exit 0))) (.seq (.block 1 (.seq (.region 3 (bwr3 y ts te) false) (.cond (.tmp 18) .ret .skip))) (.region 2 bwr2 false))
def bwBody (y ts te : TypeId) : Code := .seq (.region 0 (bwr0 ts) false) (.block 0 (.loop (bwRound y ts te)))
def BwAt (P : Program) (f : FuncId) (q : TypeId × TypeId) : Prop := ∃ (fn : Func) (y : TypeId), P.funcs[f]? = some fn ∧ (fn.name == "runtime.NumGoroutine") = false ∧ fn.body = some (bwBody y q.1 q.2) ∧ fn.ntmps = 19 ∧ fn.results = #[]
def BwOk (P : Program) (T : Cx) : Prop := ∀ f q, T.bw.get f = some q → BwAt P f q
/-! ### in the evaluator -/
def lenB (T : Cx) (ts : TypeId) (H : Hp) (s : Value) : Option Nat := match o_len ts (.tmp 4) T ⟨0, 19, 0, .nil, [(4, s)]⟩ H with
  | some p => (match p.1 with
    | .int .i64 (.ofNat n) => some n
    | _ => none)
  | none => none
/-- element i of the slice s. -/
def bwElem (T : Cx) (q : TypeId × TypeId) (i : Nat) (H : Hp) (s : Option Value) : Option Value := match s with
  | some s => (match o_indexAddr q.1 (.tmp 13) (.tmp 14) T ⟨0, 19, 0, .nil, [(14, .int .i64 (.ofNat i)), (13, s)]⟩ H with
    | some p => (match p.1 with
      | .pointer (some p) => loadV T H q.2 p.block p.off
      | _ => none)
    | none => none)
  | none => none
def rndEnd (A : AA) (next : Hp → Out) (r : Out) : Out := match r with
  | .code .normal _ H => next H
  | .code (.exit id) _ H => .code (.exit id) A H
  | .code .ret _ H => .code .ret A H
  | .bad w => .bad w
  | .call _ _ => .bad 17
def rndBody (ih : Cmd → Out) (body : Code) (A : AA) (next : Hp → Out) (r : Out) : Out := match r with
  | .code .normal A' H => rndEnd A next (ih (.code body A' H))
  | .bad w => .bad w
  | _ => .bad 18
def rndD (ih : Cmd → Out) (p0 p1 : Nat) (assign body : Code) (A : AA) (i : Nat) (next : Hp → Out) (H : Hp) (v : Option Value) : Out := match v with
  | some v => (match A.set p0 (.int .i64 (.ofNat i)) with
    | some A1 => (match A1.set p1 v with
      | some A2 => rndBody ih body A next (ih (.code assign A2 H))
      | none => .bad 19)
    | none => .bad 19)
  | none => .bad 20
def rndsD (T : Cx) (ih : Cmd → Out) (q : TypeId × TypeId) (b o : Nat) (p0 p1 : Nat) (assign body : Code) (A : AA) (n : Nat) : Hp → Out :=
  Nat.rec (motive := fun _ => Hp → Out) (fun H => .code .normal A H) (fun i next H => rndD ih p0 p1 assign body A i next H (bwElem T q i H (loadV T H q.1 b o))) n
def rngD (T : Cx) (ih : Cmd → Out) (q : TypeId × TypeId) (b o : Nat) (ps : List Tmp) (assign body : Code) (A : AA) (H : Hp) (s : Option Value) : Out := match s with
  | some s => (match lenB T q.1 H s with
    | some n => (match ps with
      | [p0, p1] => ite' (Nat.ble n 4294967296) (rndsD T ih q b o p0 p1 assign body A n H) (.bad 21)
      | _ => .bad 21)
    | none => .bad 21)
  | none => .bad 22
def rangeD (T : Cx) (ih : Cmd → Out) (ps : List Tmp) (assign body : Code) (A : AA) (H : Hp) (f : Option Value) : Out := match f with
  | some (.func (.func f) x1 x2) => (match x1.toList with
    | [] => (match x2.toList with
      | [.pointer (some p)] => (match T.bw.get f with
        | some q => rngD T ih q p.block p.off ps assign body A.fresh H (loadV T H q.1 p.block p.off)
        | none => .bad 23)
      | _ => .bad 24)
    | _ => .bad 24)
  | _ => .bad 25
theorem rndsD_succ (T : Cx) (ih : Cmd → Out) (q : TypeId × TypeId) (b o : Nat) (p0 p1 : Nat) (assign body : Code) (A : AA) (n : Nat) (H : Hp) :
    rndsD T ih q b o p0 p1 assign body A (n + 1) H = rndD ih p0 p1 assign body A n (rndsD T ih q b o p0 p1 assign body A n) H (bwElem T q n H (loadV T H q.1 b o)) := rfl
/-! ### the record -/
theorem HRel.named {E : Env} {H : Hp} {w : World} (hr : HRel E H w) {b : Nat} {x : Blk} (hb : H.b.get b = some x) : E.s b < w.heap.size := by
  have := hr.rel b x hb
  unfold BR at this
  split at this
  · obtain ⟨cs, fz, h1, _⟩ := this; exact (Array.getElem?_eq_some_iff.1 h1).1
  · obtain ⟨es', h1, _⟩ := this; exact (Array.getElem?_eq_some_iff.1 h1).1
  · exact (Array.getElem?_eq_some_iff.1 this).1
  · obtain ⟨cs, e, fz, h1, _⟩ := this; exact (Array.getElem?_eq_some_iff.1 h1).1
theorem HRel.same {E : Env} {H : Hp} {w w' : World} (hr : HRel E H w) (h : ∀ b x, H.b.get b = some x → w'.heap[E.s b]? = w.heap[E.s b]?) : HRel E H w' := ⟨hr.lt, fun b x hb => by rw [h b x hb]; exact hr.rel b x hb, hr.inj⟩
theorem HRel.notL {E : Env} {H : Hp} {w : World} (hr : HRel E H w) {D b : Nat} {x : Blk} {o : Loop} (hD : w.heap[D]? = some (.loop o)) (hb : H.b.get b = some x) : E.s b ≠ D := fun e => by
  have := hr.rel b x hb
  rw [e, hD] at this
  unfold BR at this
  split at this
  · obtain ⟨cs, fz, h1, _⟩ := this; cases h1
  · obtain ⟨es', h1, _⟩ := this; cases h1
  · cases this
  · obtain ⟨cs, e, fz, h1, _⟩ := this; cases h1
theorem HRel.putL {E : Env} {H : Hp} {w : World} (hr : HRel E H w) {l : Nat} {r : Loop} (hl : w.heap[l]? = some (.loop r)) (o : Obj) : HRel E H (w.putObj l o) :=
  hr.same fun b x hb => World.putObj_heap_other (hr.notL hl hb)
theorem Gd.putL {E E' : Env} {H H' : Hp} {w w' : World} (g : Gd E E' H H' w w') {l : Nat} (hl : w.heap.size ≤ l) (o : Obj) : Gd E E' H H' w (w'.putObj l o) :=
  ⟨g.le, g.ag, g.dom, g.os, g.tape, g.output, by rw [World.putObj_size]; exact g.size, fun i hi hf => by rw [World.putObj_heap_other (by omega)]; exact g.frame i hi hf⟩
theorem Gd.keepL {E1 E2 : Env} {H1 H2 : Hp} {w1 w2 : World} (g : Gd E1 E2 H1 H2 w1 w2) (hr : HRel E1 H1 w1) {l : Nat} {r : Loop} (hl : w1.heap[l]? = some (.loop r)) : w2.heap[l]? = some (.loop r) := by
  rw [g.frame l (Array.getElem?_eq_some_iff.1 hl).1 fun b x hb _ => hr.notL hl hb]; exact hl
theorem Gd.keepD {E1 E2 : Env} {H1 H2 : Hp} {w1 w2 : World} (g : Gd E1 E2 H1 H2 w1 w2) (hr : HRel E1 H1 w1) {l : Nat} {r : Option (List Deferred)} (hl : w1.heap[l]? = some (.deferred r)) : w2.heap[l]? = some (.deferred r) := by
  rw [g.frame l (Array.getElem?_eq_some_iff.1 hl).1 fun b x hb _ => hr.notD hl hb]; exact hl
end
end Go.Proofs.YtanhkchpffkloaaGreatDoor
