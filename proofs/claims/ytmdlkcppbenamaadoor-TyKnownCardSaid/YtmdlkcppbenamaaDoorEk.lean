import Derived.Test.YtmdlkcppbenamaaDoorEjj
namespace Go.Proofs.YtmdlkcppbenamaaDoor
open Go
set_option linter.unusedVariables false
set_option linter.unusedSimpArgs false
noncomputable section
inductive Ex where
  | normal
  | exit (id : Nat)
  | ret
def Ex.out : Ex → Exit
  | .normal => .normal
  | .exit id => .exit id
  | .ret => .ret
inductive Cmd where
  | code (c : Code) (A : AA) (H : Hp)
  | call (f : FuncId) (args : List Value) (H : Hp)
inductive Out where
  | code (e : Ex) (A : AA) (H : Hp)
  | call (v : Value) (H : Hp)
  | bad (what : Nat)
/-- is the operation wanted? none: that is not known. -/
def wantedA (ops : List Oper) (A : AA) (o : Oper) : Option Bool := match o.guard with
  | none => some true
  | some g => (match ops[g.1]? with
    | some oj => (match oj.dst with
      | some d => (match A.get d with
        | some (.bool x) => some (ite' g.2 x (Bool.not x))
        | some (.tuple _) => some false
        | _ => none)
      | none => some false)
    | none => some false)
theorem wantedA_ok {E : Env} {N : Nat} {A : AA} {a : Act} (h : AR E N A a) {ops : Array Oper} {o : Oper} {b : Bool} (hw : wantedA ops.toList A o = some b) : Region.wanted o (yielded ops a.tmps) = b := by
  unfold wantedA at hw
  unfold Region.wanted
  split at hw
  · rename_i hg; cases hw; simp [hg]
  · rename_i g hg
    obtain ⟨j, want⟩ := g
    simp only [hg]
    unfold yielded
    simp only [Array.getElem?_toList] at hw
    split at hw
    · rename_i oj hj
      rw [hj]
      split at hw
      · rename_i d hd
        simp only [Option.bind_some, hd]
        split at hw
        · rename_i x hx
          obtain ⟨v', e1, r⟩ := h.tm d _ hx
          have e2 := r.bool
          subst e2
          rw [e1]
          cases hw
          cases x <;> cases want <;> rfl
        · rename_i x hx
          obtain ⟨v', e1, r⟩ := h.tm d _ hx
          obtain ⟨l', e2, _⟩ := r.tup
          subst e2
          rw [e1]
          cases hw
          rfl
        · cases hw
      · rename_i hd
        cases hw
        simp [hd]
    · rename_i hj
      cases hw
      simp [hj]
/-- an operation: a call of a function, or another. -/
inductive Kd where
  | call (f : Operand) (args : List Operand)
  | plain
def kdOf (o : Op) : Kd := match o with
  | .call c => (match c.callee with
    | .value f => .call f c.args.toList
    | _ => .plain)
  | _ => .plain
abbrev Rest := AA → Hp → Out
def put1 (o : Oper) (A : AA) (v : Value) (H : Hp) (rest : Rest) : Out := match putA A o.dst v with
  | some A' => rest A' H
  | none => .bad 10
def doPlain (T : Cx) (id : Nat) (o : Oper) (rest : Rest) (A : AA) (H : Hp) : Out := match opE o.op T A H with
  | some r => Prod.rec (motive := fun _ => Out) (fun v H1 => put1 o A v H1 rest) r
  | none => .bad (1000 + id)
def doCall2 (o : Oper) (rest : Rest) (A : AA) (r : Out) : Out := match r with
  | .call v H' => put1 o A v H' rest
  | .bad w => .bad w
  | _ => .bad 1
def doCall (T : Cx) (ih : Cmd → Out) (o : Oper) (rest : Rest) (A : AA) (H : Hp) (f : Option Value) (args : Option (List Value)) : Out := match f with
  | some (.func (.func f) _ _) => (match args with
    | some args => ite' (Nat.beq A.g T.g) (doCall2 o rest A (ih (.call f args H))) (.bad 16)
    | none => .bad 11)
  | _ => .bad 2
def doOp (T : Cx) (ih : Cmd → Out) (id : Nat) (o : Oper) (rest : Rest) (A : AA) (H : Hp) : Out :=
  Kd.rec (motive := fun _ => Out) (fun f args => doCall T ih o rest A H (ev A f) (evL A args)) (doPlain T id o rest A H) (kdOf o.op)
def stepOp (T : Cx) (ih : Cmd → Out) (id : Nat) (o : Oper) (rest : Rest) (A : AA) (H : Hp) (w : Option Bool) : Out := match w with
  | some true => doOp T ih id o rest A H
  | some false => put1 o A undef H rest
  | none => .bad 12
def runOps (T : Cx) (ih : Cmd → Out) (ops : List Oper) (id : Nat) (l : List Oper) (A : AA) (H : Hp) : Out :=
  List.rec (motive := fun _ => AA → Hp → Out) (fun A H => .code .normal A H) (fun o _ rest A H => stepOp T ih id o rest A H (wantedA ops A o)) l A H
/-! ### the result of a function -/
def res1 (T : Cx) (A : AA) (H : Hp) (r : ResultVar) : Option Value := match r with
  | .tmp t => A.get t
  | .cell a t => (match A.get a with
    | some (.pointer (some p)) => loadV T H t p.block p.off
    | _ => none)
def resL (T : Cx) (A : AA) (H : Hp) (l : List ResultVar) : Option (List Value) := List.rec (motive := fun _ => Option (List Value)) (some []) (fun r _ ih => match res1 T A H r with
  | some v => (match ih with
    | some l => some (v :: l)
    | none => none)
  | none => none) l
def resultsA (T : Cx) (A : AA) (H : Hp) (rs : List ResultVar) : Option Value := match resL T A H rs with
  | some l => (match l with
    | [v] => some v
    | l => some (.tuple l.toArray))
  | none => none
/-! ### code -/
abbrev CodeF := Cx → (Cmd → Out) → AA → Hp → Out
def thenCode (ih : Cmd → Out) (b : Code) (r : Out) : Out := match r with
  | .code .normal A' H' => ih (.code b A' H')
  | r => r
def condCode (ih : Cmd → Out) (a b : Code) (A : AA) (H : Hp) (v : Option Value) : Out := match v with
  | some (.bool x) => ih (.code (ite' x a b) A H)
  | _ => .bad 3
def blockCode (id : Nat) (r : Out) : Out := match r with
  | .code (.exit j) A' H' => ite' (Nat.beq j id) (.code .normal A' H') (.code (.exit j) A' H')
  | r => r
def usesOf (l : List Operand) (d m : Nat) : Nat := List.rec (motive := fun _ => Nat) m (fun x _ ih => match x with
  | .tmp t => ite' (bit d t) ih (Nat.lor ih (Nat.shiftLeft 1 t))
  | _ => ih) l
def kOps (l : List Oper) : Nat → Nat → Nat := List.rec (motive := fun _ => Nat → Nat → Nat) (fun _ m => m) (fun o _ ih d m =>
  ih (match o.dst with | some t => Nat.lor d (Nat.shiftLeft 1 t) | none => d) (usesOf o.op.operands.toList d m)) l
/-- the temporaries that a region takes from elsewhere, as bits. -/
def kCode (c : Code) : Nat :=
  Code.rec (motive := fun _ => Nat) 0 (fun _ ops _ => kOps ops.toList 0 0) (fun _ _ a b => Nat.lor a b) (fun _ _ _ a b => Nat.lor a b) (fun _ _ a => a) (fun _ a => a) (fun _ _ _ _ a b => Nat.lor a b) (fun _ => 0) (fun _ a => a) (fun _ => 0) (fun _ => 0) 0 (fun _ => 0) c
def kRes (l : List ResultVar) : Nat := List.rec (motive := fun _ => Nat) 0 (fun r _ ih => match r with | .tmp t => Nat.lor ih (Nat.shiftLeft 1 t) | .cell t _ => Nat.lor ih (Nat.shiftLeft 1 t)) l
def kOf (fn : Func) (c : Code) : Nat := Nat.lor (Nat.lor (kCode c) (Nat.sub (Nat.shiftLeft 1 fn.params.size) 1)) (kRes fn.results.toList)
def backCall (T : Cx) (f : FuncId) (rs : List ResultVar) (r : Out) : Out := match r with
  | .code .normal A' H' => (match resultsA T A' H' rs with
    | some v => .call v H'
    | none => .bad 5)
  | .code .ret A' H' => (match resultsA T A' H' rs with
    | some v => .call v H'
    | none => .bad 5)
  | .bad w => .bad (w * 1000 + f)
  | _ => .bad 6
def entryA (T : Cx) (fn : Func) (c : Code) (args : List Value) : AA := ⟨T.g, Nat.max args.length fn.ntmps, kOf fn c, Tr.lay args 0 .nil, []⟩
def enterCall (T : Cx) (ih : Cmd → Out) (f : FuncId) (fn : Func) (args : List Value) (H : Hp) : Out := match fn.body with
  | some c => backCall T f fn.results.toList (ih (.code c (entryA T fn c args) H))
  | none => .bad 7
end
end Go.Proofs.YtmdlkcppbenamaaDoor
