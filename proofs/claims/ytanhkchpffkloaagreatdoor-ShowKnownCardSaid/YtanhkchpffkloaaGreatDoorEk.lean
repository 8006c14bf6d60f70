import Derived.Test.YtanhkchpffkloaaGreatDoorEjk
namespace Go.Proofs.YtanhkchpffkloaaGreatDoor
open Go
set_option linter.unusedVariables false
set_option linter.unusedSimpArgs false
noncomputable section
variable {ds : List Deferred}
inductive Ex where
  | normal
  | exit (id : Nat)
  | ret
def Ex.out : Ex → Exit
  | .normal => .normal
  | .exit id => .exit id
  | .ret => .ret
inductive Cmd where
  | code (c : Code) (A : AA) (H : Hp)
  | call (f : FuncId) (args : List Value) (H : Hp)
inductive Out where
  | code (e : Ex) (A : AA) (H : Hp)
  | call (v : Value) (H : Hp)
  | bad (what : Nat)
/-- is the operation wanted? none: that is not known. -/
def gdOf (ops : List Oper) (g : Nat) : Option Tmp := match ops[g]? with
  | some oj => oj.dst
  | none => none
def wantV (b : Bool) (v : Option Value) : Option Bool := match v with
  | some (.bool x) => some (ite' b x (Bool.not x))
  | some (.tuple _) => some false
  | _ => none
def wantG (ops : List Oper) (A : AA) (g : Nat × Bool) : Option Bool := Option.rec (motive := fun _ => Option Bool) (some false) (fun d => wantV g.2 (A.get d)) (gdOf ops g.1)
def wantedA (ops : List Oper) (A : AA) (o : Oper) : Option Bool := Option.rec (motive := fun _ => Option Bool) (some true) (fun g => wantG ops A g) o.guard
theorem wantedA_def (ops : List Oper) (A : AA) (o : Oper) : wantedA ops A o = (match o.guard with
  | none => some true
  | some g => (match ops[g.1]? with
    | some oj => (match oj.dst with
      | some d => (match A.get d with
        | some (.bool x) => some (ite' g.2 x (Bool.not x))
        | some (.tuple _) => some false
        | _ => none)
      | none => some false)
    | none => some false)) := by
  unfold wantedA
  cases o.guard with
  | none => rfl
  | some g =>
    show wantG ops A g = _
    unfold wantG gdOf
    simp only
    cases ops[g.1]? with
    | none => rfl
    | some oj =>
      simp only
      cases oj.dst with
      | none => rfl
      | some d => rfl
theorem wantedA_ok {E : Env} {N : Nat} {A : AA} {a : Act} (h : AR ds E N A a) {ops : Array Oper} {o : Oper} {b : Bool} (hw : wantedA ops.toList A o = some b) : Region.wanted o (yielded ops a.tmps) = b := by
  rw [wantedA_def] at hw
  unfold Region.wanted
  split at hw
  · rename_i hg; cases hw; simp [hg]
  · rename_i g hg
    obtain ⟨j, want⟩ := g
    simp only [hg]
    unfold yielded
    simp only [Array.getElem?_toList] at hw
    split at hw
    · rename_i oj hj
      rw [hj]
      split at hw
      · rename_i d hd
        simp only [Option.bind_some, hd]
        split at hw
        · rename_i x hx
          obtain ⟨v', e1, r⟩ := h.tm d _ hx
          have e2 := r.bool
          subst e2
          rw [e1]
          cases hw
          cases x <;> cases want <;> rfl
        · rename_i x hx
          obtain ⟨v', e1, r⟩ := h.tm d _ hx
          obtain ⟨l', e2, _⟩ := r.tup
          subst e2
          rw [e1]
          cases hw
          rfl
        · cases hw
      · rename_i hd
        cases hw
        simp [hd]
    · rename_i hj
      cases hw
      simp [hj]
/-- an operation: a call of a function, or another. -/
inductive Kd where
  | call (f : Operand) (args : List Operand)
  | plain
def kdOf (o : Op) : Kd := match o with
  | .call c => (match c.callee with
    | .value f => .call f c.args.toList
    | _ => .plain)
  | _ => .plain
abbrev Rest := AA → Hp → Out
def setR (A : AA) (t : Nat) (v : Value) (H : Hp) (rest : Rest) : Out := AA.rec (motive := fun _ => Out) (fun g n k vt r => Bool.rec (motive := fun _ => Out) (.bad 10) (rest (Bool.rec (motive := fun _ => AA) ⟨g, n, k, vt, (t, v) :: r⟩ ⟨g, n, k, vt.put t (some v), r⟩ (bit k t)) H) (Nat.ble (Nat.succ t) n)) A
def putR (d : Option Tmp) (A : AA) (v : Value) (H : Hp) (rest : Rest) : Out := Option.rec (motive := fun _ => Out) (rest A H) (fun t => setR A t v H rest) d
def put1 (o : Oper) (A : AA) (v : Value) (H : Hp) (rest : Rest) : Out := putR o.dst A v H rest
theorem put1_def (o : Oper) (A : AA) (v : Value) (H : Hp) (rest : Rest) : put1 o A v H rest = (match putA A o.dst v with
  | some A' => rest A' H
  | none => .bad 10) := by
  unfold put1
  cases o.dst with
  | none => rfl
  | some t =>
    show setR A t v H rest = (match A.set t v with
      | some A' => rest A' H
      | none => .bad 10)
    obtain ⟨g, n, k, vt, r⟩ := A
    show Bool.rec (motive := fun _ => Out) (.bad 10) (rest (Bool.rec (motive := fun _ => AA) ⟨g, n, k, vt, (t, v) :: r⟩ ⟨g, n, k, vt.put t (some v), r⟩ (bit k t)) H) (Nat.ble (Nat.succ t) n) = (match ite' (Nat.ble (Nat.succ t) n) (some (ite' (bit k t) ⟨g, n, k, vt.put t (some v), r⟩ ⟨g, n, k, vt, (t, v) :: r⟩)) none with
      | some A' => rest A' H
      | none => .bad 10)
    cases Nat.ble (Nat.succ t) n <;> rfl
/-- the same operations, each as a pair that is found once. -/
structure OpC where
  run : OpF
def callBC (b : Builtin) (args : List Operand) (tys : List TypeId) : OpC := match b with
  | .min => ⟨mmD false args⟩
  | .cap => ⟨capD args tys⟩
  | .copy => ⟨copyD args tys⟩
  | .max => ⟨mmD true args⟩
  | .len => ⟨lenD args tys⟩
  | .append => ⟨appF args tys⟩
  | _ => ⟨noF⟩
def callC (c : Call) : OpC := match c.callee with
  | .builtin b => callBC b c.args.toList c.argTypes.toList
  | _ => ⟨noF⟩
def opDC (o : Op) : OpC := match o with
  | .move x => ⟨o_move x⟩
  | .assign x => ⟨o_move x⟩
  | .pick c a b => ⟨o_pick c a b⟩
  | .extract t i => ⟨o_extract t i⟩
  | .binOp op t x y _ => ⟨o_bin op t x y⟩
  | .unOp op _ x => ⟨unD op x⟩
  | .nilCheck x => ⟨o_nilCheck x⟩
  | .load t x => ⟨o_load t x⟩
  | .store t x y => ⟨o_store t x y⟩
  | .fieldAddr s x f => ⟨o_fieldAddr s x f⟩
  | .indexAddr t x i => ⟨o_indexAddr t x i⟩
  | .index t x i => ⟨o_index t x i⟩
  | .box t x => ⟨o_box t x⟩
  | .alloc t => ⟨o_alloc t⟩
  | .build t ps => ⟨o_build t ps.toList⟩
  | .buildSlice t n ps => ⟨o_buildSlice t n ps.toList⟩
  | .convert s d x => ⟨o_conv s d x⟩
  | .makeInterface t x => ⟨o_mkIface t x⟩
  | .slice t x lo hi mx => ⟨sliceD t x lo hi mx⟩
  | .call c => ⟨callD c⟩
  | _ => ⟨noF⟩
def opC (o : Op) : OpC := match o with
  | .move x => ⟨o_move x⟩
  | .assign x => ⟨o_move x⟩
  | .pick c a b => ⟨o_pick c a b⟩
  | .extract t i => ⟨o_extract t i⟩
  | .binOp op t x y _ => ⟨o_bin op t x y⟩
  | .unOp op _ x => ⟨unD op x⟩
  | .nilCheck x => ⟨o_nilCheck x⟩
  | .load t x => ⟨o_load t x⟩
  | .store t x y => ⟨o_store t x y⟩
  | .fieldAddr s x f => ⟨o_fieldAddr s x f⟩
  | .indexAddr t x i => ⟨o_indexAddr t x i⟩
  | .index t x i => ⟨o_index t x i⟩
  | .box t x => ⟨o_box t x⟩
  | .alloc t => ⟨o_alloc t⟩
  | .build t ps => ⟨o_build t ps.toList⟩
  | .buildSlice t n ps => ⟨o_buildSlice t n ps.toList⟩
  | .slice t x lo hi mx => ⟨sliceD t x lo hi mx⟩
  | .convert s d x => ⟨o_convM s d x⟩
  | .makeInterface t x => ⟨o_mkIface t x⟩
  | .call c => callC c
  | .field s x f => ⟨o_field s x f⟩
  | .lookup t m k ok => ⟨o_lookupX t m k ok⟩
  | .mapUpdate t m k x => ⟨o_mapUpdateX t m k x⟩
  | .insert t m k x => ⟨o_mapUpdateX t m k x⟩
  | .makeMap t r => ⟨mkMapD r⟩
  | .range t x => ⟨o_range t x⟩
  | .makeSlice t l c => ⟨o_mkSliceG t l c⟩
  | .makeFunc f first cap => ⟨makeFuncD f first.toList cap.toList⟩
  | .next x s => ⟨nextD s x⟩
  | _ => ⟨noF⟩

theorem opDC_eq (o : Op) : (opDC o).run = opD o := by cases o <;> rfl
theorem opC_eq (o : Op) : (opC o).run = opF o := by
  cases o with
  | call c =>
    obtain ⟨callee, args, tys⟩ := c
    cases callee with
    | builtin b => cases b <;> rfl
    | value f => rfl
    | invoke r m => rfl
  | _ => rfl
def plainR (o : Oper) (rest : Rest) (A : AA) (no : Nat) (r : Option (Value × Hp)) : Out := Option.rec (motive := fun _ => Out) (.bad no) (fun r => Prod.rec (motive := fun _ => Out) (fun v H1 => putR o.dst A v H1 rest) r) r
def doPlain (T : Cx) (id : Nat) (o : Oper) (rest : Rest) (A : AA) (H : Hp) : Out := plainR o rest A (Nat.add 1000 id) ((opC o.op).run T A H)
theorem doPlain_def (T : Cx) (id : Nat) (o : Oper) (rest : Rest) (A : AA) (H : Hp) : doPlain T id o rest A H = (match opF o.op T A H with
  | some r => put1 o A r.1 r.2 rest
  | none => .bad (1000 + id)) := by
  unfold doPlain
  rw [opC_eq]
  cases opF o.op T A H with
  | none => rfl
  | some r => obtain ⟨v, H1⟩ := r; rfl
def doCall2 (o : Oper) (rest : Rest) (A : AA) (r : Out) : Out := match r with
  | .call v H' => put1 o A v H' rest
  | .bad w => .bad w
  | _ => .bad 1
/-- what a closure holds comes before and behind the arguments. -/
def addFirst (a args : List Value) : List Value := List.rec (motive := fun _ => List Value) args (fun x l _ => (x :: l) ++ args) a
def addCap (args b : List Value) : List Value := List.rec (motive := fun _ => List Value) args (fun x l _ => args ++ (x :: l)) b
def doCall (T : Cx) (ih : Cmd → Out) (o : Oper) (rest : Rest) (A : AA) (H : Hp) (f : Option Value) (args : Option (List Value)) : Out := match f with
  | some (.func (.func f) a b) => (match args with
    | some args => ite' (Nat.beq A.g T.g) (doCall2 o rest A (ih (.call f (addCap (addFirst a.toList args) b.toList) H))) (.bad 16)
    | none => .bad 11)
  | _ => .bad 2
def doOp (T : Cx) (ih : Cmd → Out) (id : Nat) (o : Oper) (rest : Rest) (A : AA) (H : Hp) : Out :=
  Kd.rec (motive := fun _ => Out) (fun f args => doCall T ih o rest A H (ev A f) (evL A args)) (doPlain T id o rest A H) (kdOf o.op)
def stepOp (T : Cx) (ih : Cmd → Out) (id : Nat) (o : Oper) (rest : Rest) (A : AA) (H : Hp) (w : Option Bool) : Out := Option.rec (motive := fun _ => Out) (.bad 12) (fun b => Bool.rec (motive := fun _ => Out) (putR o.dst A undef H rest) (doOp T ih id o rest A H) b) w
theorem stepOp_def (T : Cx) (ih : Cmd → Out) (id : Nat) (o : Oper) (rest : Rest) (A : AA) (H : Hp) (w : Option Bool) : stepOp T ih id o rest A H w = (match w with
  | some true => doOp T ih id o rest A H
  | some false => put1 o A undef H rest
  | none => .bad 12) := by
  cases w with
  | none => rfl
  | some b => cases b <;> rfl
def runOps (T : Cx) (ih : Cmd → Out) (ops : List Oper) (id : Nat) (l : List Oper) (A : AA) (H : Hp) : Out :=
  List.rec (motive := fun _ => AA → Hp → Out) (fun A H => .code .normal A H) (fun o _ rest A H => stepOp T ih id o rest A H (wantedA ops A o)) l A H
/-! ### the result of a function -/
def res1 (T : Cx) (A : AA) (H : Hp) (r : ResultVar) : Option Value := match r with
  | .tmp t => A.get t
  | .cell a t => (match A.get a with
    | some (.pointer (some p)) => loadV T H t p.block p.off
    | _ => none)
def resL (T : Cx) (A : AA) (H : Hp) (l : List ResultVar) : Option (List Value) := List.rec (motive := fun _ => Option (List Value)) (some []) (fun r _ ih => match res1 T A H r with
  | some v => (match ih with
    | some l => some (v :: l)
    | none => none)
  | none => none) l
def resultsA (T : Cx) (A : AA) (H : Hp) (rs : List ResultVar) : Option Value := match resL T A H rs with
  | some l => (match l with
    | [v] => some v
    | l => some (.tuple l.toArray))
  | none => none
/-! ### code -/
abbrev CodeF := Cx → (Cmd → Out) → AA → Hp → Out
def thenEx (ih : Cmd → Out) (b : Code) (e : Ex) (A : AA) (H : Hp) : Out := Ex.rec (motive := fun _ => Out) (ih (.code b A H)) (fun i => .code (.exit i) A H) (.code .ret A H) e
def thenCode (ih : Cmd → Out) (b : Code) (r : Out) : Out := Out.rec (motive := fun _ => Out) (fun e A H => thenEx ih b e A H) (fun v H => .call v H) (fun w => .bad w) r
theorem thenCode_def (ih : Cmd → Out) (b : Code) (r : Out) : thenCode ih b r = (match r with
  | .code .normal A' H' => ih (.code b A' H')
  | r => r) := by
  cases r with
  | code e A H => cases e <;> rfl
  | call v H => rfl
  | bad w => rfl
def condCode (ih : Cmd → Out) (a b : Code) (A : AA) (H : Hp) (v : Option Value) : Out := match v with
  | some (.bool x) => ih (.code (ite' x a b) A H)
  | _ => .bad 3
def blockCode (id : Nat) (r : Out) : Out := match r with
  | .code (.exit j) A' H' => ite' (Nat.beq j id) (.code .normal A' H') (.code (.exit j) A' H')
  | r => r
def usesOf (l : List Operand) (d m : Nat) : Nat := List.rec (motive := fun _ => Nat) m (fun x _ ih => match x with
  | .tmp t => ite' (bit d t) ih (Nat.lor ih (Nat.shiftLeft 1 t))
  | _ => ih) l
def kOps (l : List Oper) : Nat → Nat → Nat := List.rec (motive := fun _ => Nat → Nat → Nat) (fun _ m => m) (fun o _ ih d m =>
  ih (match o.dst with | some t => Nat.lor d (Nat.shiftLeft 1 t) | none => d) (usesOf o.op.operands.toList d m)) l
/-- the temporaries that a region takes from elsewhere, as bits. -/
def kCode (c : Code) : Nat :=
  Code.rec (motive := fun _ => Nat) 0 (fun _ ops _ => kOps ops.toList 0 0) (fun _ _ a b => Nat.lor a b) (fun _ _ _ a b => Nat.lor a b) (fun _ _ a => a) (fun _ a => a) (fun _ _ _ _ a b => Nat.lor a b) (fun _ => 0) (fun _ a => a) (fun _ => 0) (fun _ => 0) 0 (fun _ => 0) c
def kRes (l : List ResultVar) : Nat := List.rec (motive := fun _ => Nat) 0 (fun r _ ih => match r with | .tmp t => Nat.lor ih (Nat.shiftLeft 1 t) | .cell t _ => Nat.lor ih (Nat.shiftLeft 1 t)) l
def kOf (fn : Func) (c : Code) : Nat := Nat.lor (Nat.lor (kCode c) (Nat.sub (Nat.shiftLeft 1 fn.params.size) 1)) (kRes fn.results.toList)
def backCall (T : Cx) (f : FuncId) (rs : List ResultVar) (r : Out) : Out := match r with
  | .code .normal A' H' => (match resultsA T A' H' rs with
    | some v => .call v H'
    | none => .bad 5)
  | .code .ret A' H' => (match resultsA T A' H' rs with
    | some v => .call v H'
    | none => .bad 5)
  | .bad w => .bad (w * 1000 + f)
  | _ => .bad 6
def entryA (T : Cx) (fn : Func) (c : Code) (args : List Value) : AA := ⟨T.g, Nat.max args.length fn.ntmps, kOf fn c, Tr.lay args 0 .nil, []⟩
def enterCall (T : Cx) (ih : Cmd → Out) (f : FuncId) (fn : Func) (args : List Value) (H : Hp) : Out := match fn.body with
  | some c => backCall T f fn.results.toList (ih (.code c (entryA T fn c args) H))
  | none => .bad 7
end
end Go.Proofs.YtanhkchpffkloaaGreatDoor
