import Derived.Test.YtcpghlilbohohaaGreatDoorEq3
namespace Go.Proofs.YtcpghlilbohohaaGreatDoor
open Go
set_option linter.unusedVariables false
set_option linter.unusedSimpArgs false
noncomputable section
variable {ds : List Deferred}
inductive Ex where
  | normal
  | exit (id : Nat)
  | ret
def Ex.out : Ex → Exit
  | .normal => .normal
  | .exit id => .exit id
  | .ret => .ret
inductive Cmd where
  | code (c : Code) (A : AA) (H : Hp)
  | call (f : FuncId) (args : List Value) (H : Hp)
inductive Out where
  | code (e : Ex) (A : AA) (H : Hp)
  | call (v : Value) (H : Hp)
  | bad (what : Nat)
/-- is the operation wanted? none: that is not known. -/
def gdOf (ops : List Oper) (g : Nat) : Option Tmp := match ops[g]? with
  | some oj => oj.dst
  | none => none
def wantV (b : Bool) (v : Option Value) : Option Bool := match v with
  | some (.bool x) => some (ite' b x (Bool.not x))
  | some (.tuple _) => some false
  | _ => none
def wantG (ops : List Oper) (A : AA) (g : Nat × Bool) : Option Bool := Option.rec (motive := fun _ => Option Bool) (some false) (fun d => wantV g.2 (A.get d)) (gdOf ops g.1)
def wantedA (ops : List Oper) (A : AA) (o : Oper) : Option Bool := Option.rec (motive := fun _ => Option Bool) (some true) (fun g => wantG ops A g) o.guard
theorem wantedA_def (ops : List Oper) (A : AA) (o : Oper) : wantedA ops A o = (match o.guard with
  | none => some true
  | some g => (match ops[g.1]? with
    | some oj => (match oj.dst with
      | some d => (match A.get d with
        | some (.bool x) => some (ite' g.2 x (Bool.not x))
        | some (.tuple _) => some false
        | _ => none)
      | none => some false)
    | none => some false)) := by
  unfold wantedA
  cases o.guard with
  | none => rfl
  | some g =>
    show wantG ops A g = _
    unfold wantG gdOf
    simp only
    cases ops[g.1]? with
    | none => rfl
    | some oj =>
      simp only
      cases oj.dst with
      | none => rfl
      | some d => rfl
theorem wantedA_ok {E : Env} {N : Nat} {A : AA} {a : Act} (h : AR ds E N A a) {ops : Array Oper} {o : Oper} {b : Bool} (hw : wantedA ops.toList A o = some b) : Region.wanted o (yielded ops a.tmps) = b := by
  rw [wantedA_def] at hw
  unfold Region.wanted
  split at hw
  · rename_i hg; cases hw; simp [hg]
  · rename_i g hg
    obtain ⟨j, want⟩ := g
    simp only [hg]
    unfold yielded
    simp only [Array.getElem?_toList] at hw
    split at hw
    · rename_i oj hj
      rw [hj]
      split at hw
      · rename_i d hd
        simp only [Option.bind_some, hd]
        split at hw
        · rename_i x hx
          obtain ⟨v', e1, r⟩ := h.tm d _ hx
          have e2 := r.bool
          subst e2
          rw [e1]
          cases hw
          cases x <;> cases want <;> rfl
        · rename_i x hx
          obtain ⟨v', e1, r⟩ := h.tm d _ hx
          obtain ⟨l', e2, _⟩ := r.tup
          subst e2
          rw [e1]
          cases hw
          rfl
        · cases hw
      · rename_i hd
        cases hw
        simp [hd]
    · rename_i hj
      cases hw
      simp [hj]
/-- an operation: a call of a function, or another. -/
inductive Kd where
  | call (f : Operand) (args : List Operand)
  | plain
def kdOf (o : Op) : Kd := match o with
  | .call c => (match c.callee with
    | .value f => .call f c.args.toList
    | _ => .plain)
  | _ => .plain
abbrev Rest := AA → Hp → Out
def setR (A : AA) (t : Nat) (v : Value) (H : Hp) (rest : Rest) : Out := AA.rec (motive := fun _ => Out) (fun g n k vt r => Bool.rec (motive := fun _ => Out) (.bad 10) (rest (Bool.rec (motive := fun _ => AA) ⟨g, n, k, vt, (t, v) :: r⟩ ⟨g, n, k, vt.put t (some v), r⟩ (bit k t)) H) (Nat.ble (Nat.succ t) n)) A
def putR (d : Option Tmp) (A : AA) (v : Value) (H : Hp) (rest : Rest) : Out := Option.rec (motive := fun _ => Out) (rest A H) (fun t => setR A t v H rest) d
def put1 (o : Oper) (A : AA) (v : Value) (H : Hp) (rest : Rest) : Out := putR o.dst A v H rest
theorem put1_def (o : Oper) (A : AA) (v : Value) (H : Hp) (rest : Rest) : put1 o A v H rest = (match putA A o.dst v with
  | some A' => rest A' H
  | none => .bad 10) := by
  unfold put1
  cases o.dst with
  | none => rfl
  | some t =>
    show setR A t v H rest = (match A.set t v with
      | some A' => rest A' H
      | none => .bad 10)
    obtain ⟨g, n, k, vt, r⟩ := A
    show Bool.rec (motive := fun _ => Out) (.bad 10) (rest (Bool.rec (motive := fun _ => AA) ⟨g, n, k, vt, (t, v) :: r⟩ ⟨g, n, k, vt.put t (some v), r⟩ (bit k t)) H) (Nat.ble (Nat.succ t) n) = (match ite' (Nat.ble (Nat.succ t) n) (some (ite' (bit k t) ⟨g, n, k, vt.put t (some v), r⟩ ⟨g, n, k, vt, (t, v) :: r⟩)) none with
      | some A' => rest A' H
      | none => .bad 10)
    cases Nat.ble (Nat.succ t) n <;> rfl
/-- the same operations, each as a pair that is found once. -/
structure OpC where
  run : OpF
def callBC (b : Builtin) (args : List Operand) (tys : List TypeId) : OpC := match b with
  | .min => ⟨mmD false args⟩
  | .cap => ⟨capD args tys⟩
  | .copy => ⟨copyD args tys⟩
  | .max => ⟨mmD true args⟩
  | .len => ⟨lenD args tys⟩
  | .append => ⟨appF args tys⟩
  | _ => ⟨noF⟩
def callC (c : Call) : OpC := match c.callee with
  | .builtin b => callBC b c.args.toList c.argTypes.toList
  | _ => ⟨noF⟩
def opDC (o : Op) : OpC := match o with
  | .move x => ⟨o_move x⟩
  | .assign x => ⟨o_move x⟩
  | .pick c a b => ⟨o_pick c a b⟩
  | .extract t i => ⟨o_extract t i⟩
  | .binOp op t x y _ => ⟨o_bin op t x y⟩
  | .unOp op _ x => ⟨unD op x⟩
  | .nilCheck x => ⟨o_nilCheck x⟩
  | .load t x => ⟨o_load t x⟩
  | .store t x y => ⟨o_store t x y⟩
  | .fieldAddr s x f => ⟨o_fieldAddr s x f⟩
  | .indexAddr t x i => ⟨o_indexAddr t x i⟩
  | .index t x i => ⟨o_index t x i⟩
  | .box t x => ⟨o_box t x⟩
  | .alloc t => ⟨o_alloc t⟩
  | .build t ps => ⟨o_build t ps.toList⟩
  | .buildSlice t n ps => ⟨o_buildSlice t n ps.toList⟩
  | .convert s d x => ⟨o_conv s d x⟩
  | .makeInterface t x => ⟨o_mkIface t x⟩
  | .slice t x lo hi mx => ⟨sliceD t x lo hi mx⟩
  | .call c => ⟨callD c⟩
  | _ => ⟨noF⟩
def opC (o : Op) : OpC := match o with
  | .move x => ⟨o_move x⟩
  | .assign x => ⟨o_move x⟩
  | .pick c a b => ⟨o_pick c a b⟩
  | .extract t i => ⟨o_extract t i⟩
  | .binOp op t x y _ => ⟨orF (o_bin op t x y) (o_ptrEq op t x y)⟩
  | .unOp op _ x => ⟨unD op x⟩
  | .nilCheck x => ⟨o_nilCheck x⟩
  | .load t x => ⟨o_load t x⟩
  | .store t x y => ⟨o_store t x y⟩
  | .fieldAddr s x f => ⟨o_fieldAddr s x f⟩
  | .indexAddr t x i => ⟨o_indexAddr t x i⟩
  | .index t x i => ⟨o_index t x i⟩
  | .box t x => ⟨o_box t x⟩
  | .alloc t => ⟨o_alloc t⟩
  | .build t ps => ⟨o_build t ps.toList⟩
  | .buildSlice t n ps => ⟨o_buildSlice t n ps.toList⟩
  | .slice t x lo hi mx => ⟨sliceD t x lo hi mx⟩
  | .convert s d x => ⟨o_convM s d x⟩
  | .makeInterface t x => ⟨o_mkIface t x⟩
  | .call c => callC c
  | .field s x f => ⟨o_field s x f⟩
  | .lookup t m k ok => ⟨o_lookupX t m k ok⟩
  | .mapUpdate t m k x => ⟨o_mapUpdateX t m k x⟩
  | .insert t m k x => ⟨o_mapUpdateX t m k x⟩
  | .makeMap t r => ⟨mkMapD r⟩
  | .range t x => ⟨o_range t x⟩
  | .makeSlice t l c => ⟨o_mkSliceG t l c⟩
  | .makeFunc f first cap => ⟨makeFuncD f first.toList cap.toList⟩
  | .next x s => ⟨nextD s x⟩
  | _ => ⟨noF⟩

theorem opDC_eq (o : Op) : (opDC o).run = opD o := by cases o <;> rfl
theorem opC_eq (o : Op) : (opC o).run = opF o := by
  cases o with
  | call c =>
    obtain ⟨callee, args, tys⟩ := c
    cases callee with
    | builtin b => cases b <;> rfl
    | value f => rfl
    | invoke r m => rfl
  | _ => rfl
def plainR (o : Oper) (rest : Rest) (A : AA) (no : Nat) (r : Option (Value × Hp)) : Out := Option.rec (motive := fun _ => Out) (.bad no) (fun r => Prod.rec (motive := fun _ => Out) (fun v H1 => putR o.dst A v H1 rest) r) r
def doPlain (T : Cx) (id : Nat) (o : Oper) (rest : Rest) (A : AA) (H : Hp) : Out := plainR o rest A (Nat.add 1000 id) ((opC o.op).run T A H)
theorem doPlain_def (T : Cx) (id : Nat) (o : Oper) (rest : Rest) (A : AA) (H : Hp) : doPlain T id o rest A H = (match opF o.op T A H with
  | some r => put1 o A r.1 r.2 rest
  | none => .bad (1000 + id)) := by
  unfold doPlain
  rw [opC_eq]
  cases opF o.op T A H with
  | none => rfl
  | some r => obtain ⟨v, H1⟩ := r; rfl
def doCall2 (o : Oper) (rest : Rest) (A : AA) (r : Out) : Out := match r with
  | .call v H' => put1 o A v H' rest
  | .bad w => .bad w
  | _ => .bad 1
/-- what a closure holds comes before and behind the arguments. -/
def addFirst (a args : List Value) : List Value := List.rec (motive := fun _ => List Value) args (fun x l _ => (x :: l) ++ args) a
def addCap (args b : List Value) : List Value := List.rec (motive := fun _ => List Value) args (fun x l _ => args ++ (x :: l)) b
def doCall (T : Cx) (ih : Cmd → Out) (o : Oper) (rest : Rest) (A : AA) (H : Hp) (f : Option Value) (args : Option (List Value)) : Out := match f with
  | some (.func (.func f) a b) => (match args with
    | some args => ite' (Nat.beq A.g T.g) (doCall2 o rest A (ih (.call f (addCap (addFirst a.toList args) b.toList) H))) (.bad 16)
    | none => .bad 11)
  | _ => .bad 2
def doOp (T : Cx) (ih : Cmd → Out) (id : Nat) (o : Oper) (rest : Rest) (A : AA) (H : Hp) : Out :=
  Kd.rec (motive := fun _ => Out) (fun f args => doCall T ih o rest A H (ev A f) (evL A args)) (doPlain T id o rest A H) (kdOf o.op)
def stepOp (T : Cx) (ih : Cmd → Out) (id : Nat) (o : Oper) (rest : Rest) (A : AA) (H : Hp) (w : Option Bool) : Out := Option.rec (motive := fun _ => Out) (.bad 12) (fun b => Bool.rec (motive := fun _ => Out) (putR o.dst A undef H rest) (doOp T ih id o rest A H) b) w
theorem stepOp_def (T : Cx) (ih : Cmd → Out) (id : Nat) (o : Oper) (rest : Rest) (A : AA) (H : Hp) (w : Option Bool) : stepOp T ih id o rest A H w = (match w with
  | some true => doOp T ih id o rest A H
  | some false => put1 o A undef H rest
  | none => .bad 12) := by
  cases w with
  | none => rfl
  | some b => cases b <;> rfl
def runOps (T : Cx) (ih : Cmd → Out) (ops : List Oper) (id : Nat) (l : List Oper) (A : AA) (H : Hp) : Out :=
  List.rec (motive := fun _ => AA → Hp → Out) (fun A H => .code .normal A H) (fun o _ rest A H => stepOp T ih id o rest A H (wantedA ops A o)) l A H
/-! ### the result of a function -/
def res1 (T : Cx) (A : AA) (H : Hp) (r : ResultVar) : Option Value := match r with
  | .tmp t => A.get t
  | .cell a t => (match A.get a with
    | some (.pointer (some p)) => loadV T H t p.block p.off
    | _ => none)
def resL (T : Cx) (A : AA) (H : Hp) (l : List ResultVar) : Option (List Value) := List.rec (motive := fun _ => Option (List Value)) (some []) (fun r _ ih => match res1 T A H r with
  | some v => (match ih with
    | some l => some (v :: l)
    | none => none)
  | none => none) l
def resultsA (T : Cx) (A : AA) (H : Hp) (rs : List ResultVar) : Option Value := match resL T A H rs with
  | some l => (match l with
    | [v] => some v
    | l => some (.tuple l.toArray))
  | none => none
/-! ### code -/
abbrev CodeF := Cx → (Cmd → Out) → AA → Hp → Out
def thenEx (ih : Cmd → Out) (b : Code) (e : Ex) (A : AA) (H : Hp) : Out := Ex.rec (motive := fun _ => Out) (ih (.code b A H)) (fun i => .code (.exit i) A H) (.code .ret A H) e
def thenCode (ih : Cmd → Out) (b : Code) (r : Out) : Out := Out.rec (motive := fun _ => Out) (fun e A H => thenEx ih b e A H) (fun v H => .call v H) (fun w => .bad w) r
theorem thenCode_def (ih : Cmd → Out) (b : Code) (r : Out) : thenCode ih b r = (match r with
  | .code .normal A' H' => ih (.code b A' H')
  | r => r) := by
  cases r with
  | code e A H => cases e <;> rfl
  | call v H => rfl
  | bad w => rfl
def condCode (ih : Cmd → Out) (a b : Code) (A : AA) (H : Hp) (v : Option Value) : Out := match v with
  | some (.bool x) => ih (.code (ite' x a b) A H)
  | _ => .bad 3
def blockCode (id : Nat) (r : Out) : Out := match r with
  | .code (.exit j) A' H' => ite' (Nat.beq j id) (.code .normal A' H') (.code (.exit j) A' H')
  | r => r
def usesOf (l : List Operand) (d m : Nat) : Nat := List.rec (motive := fun _ => Nat) m (fun x _ ih => match x with
  | .tmp t => ite' (bit d t) ih (Nat.lor ih (Nat.shiftLeft 1 t))
  | _ => ih) l
def kOps (l : List Oper) : Nat → Nat → Nat := List.rec (motive := fun _ => Nat → Nat → Nat) (fun _ m => m) (fun o _ ih d m =>
  ih (match o.dst with | some t => Nat.lor d (Nat.shiftLeft 1 t) | none => d) (usesOf o.op.operands.toList d m)) l
/-- the temporaries that a region takes from elsewhere, as bits. -/
def kCode (c : Code) : Nat :=
  Code.rec (motive := fun _ => Nat) 0 (fun _ ops _ => kOps ops.toList 0 0) (fun _ _ a b => Nat.lor a b) (fun _ _ _ a b => Nat.lor a b) (fun _ _ a => a) (fun _ a => a) (fun _ _ _ _ a b => Nat.lor a b) (fun _ => 0) (fun _ a => a) (fun _ => 0) (fun _ => 0) 0 (fun _ => 0) c
def kRes (l : List ResultVar) : Nat := List.rec (motive := fun _ => Nat) 0 (fun r _ ih => match r with | .tmp t => Nat.lor ih (Nat.shiftLeft 1 t) | .cell t _ => Nat.lor ih (Nat.shiftLeft 1 t)) l
def kOf (fn : Func) (c : Code) : Nat := Nat.lor (Nat.lor (kCode c) (Nat.sub (Nat.shiftLeft 1 fn.params.size) 1)) (kRes fn.results.toList)
def backCall (T : Cx) (f : FuncId) (rs : List ResultVar) (r : Out) : Out := match r with
  | .code .normal A' H' => (match resultsA T A' H' rs with
    | some v => .call v H'
    | none => .bad 5)
  | .code .ret A' H' => (match resultsA T A' H' rs with
    | some v => .call v H'
    | none => .bad 5)
  | .bad w => .bad (w * 1000 + f)
  | _ => .bad 6
def entryA (T : Cx) (fn : Func) (c : Code) (args : List Value) : AA := ⟨T.g, Nat.max args.length fn.ntmps, kOf fn c, Tr.lay args 0 .nil, []⟩
def enterCall (T : Cx) (ih : Cmd → Out) (f : FuncId) (fn : Func) (args : List Value) (H : Hp) : Out := match fn.body with
  | some c => backCall T f fn.results.toList (ih (.code c (entryA T fn c args) H))
  | none => .bad 7
end
end Go.Proofs.YtcpghlilbohohaaGreatDoor
namespace Go.Proofs.YtcpghlilbohohaaGreatDoor
open Go
set_option linter.unusedVariables false
set_option linter.unusedSimpArgs false
noncomputable section
variable {ds : List Deferred}
def CallsOk (P : Program) (T : Cx) (ih : Cmd → Out) : Prop := ∀ f args H v H', ih (.call f args H) = .call v H' → (∃ fn, P.funcs[f]? = some fn ∧ (fn.name == "runtime.NumGoroutine") = false ∧ fn.body.isNone = false) ∧ ∀ (E : Env) (args' : List Value) (w : World), VL E H.next args args' → HRel E H w → (∀ g, g < T.g → E.s g = g ∧ g < H.next) →
  Calls P f args'.toArray w fun e w' => ∃ E' v', e = .returned v' ∧ Gd E E' H H' w w' ∧ VR E' H'.next v v' ∧ HRel E' H' w'
theorem kdOf_call {o : Op} {f : Operand} {args : List Operand} (h : kdOf o = .call f args) : ∃ tys, o = .call ⟨.value f, args.toArray, tys⟩ := by
  unfold kdOf at h
  split at h
  · rename_i c
    split at h
    · rename_i g hc
      cases h
      obtain ⟨callee, ⟨as⟩, tys⟩ := c
      simp only at hc; subst hc
      exact ⟨tys, rfl⟩
    · cases h
  · cases h
theorem VR.fn {E : Env} {N : Nat} {f : FuncId} {a b : Array Value} {v : Value} (h : VR E N (.func (.func f) a b) v) : ∃ l' m', v = .func (.func f) l'.toArray m'.toArray ∧ VL E N a.toList l' ∧ VL E N b.toList m' := by
  cases h with
  | same h =>
    simp [plainV] at h
    obtain ⟨rfl, rfl⟩ := h
    exact ⟨[], [], rfl, .nil, .nil⟩
  | clo h k => exact ⟨_, _, rfl, h, k⟩
theorem addFirst_vl {E : Env} {N : Nat} {a l' args args' : List Value} (h : VL E N a l') (k : VL E N args args') : VL E N (addFirst a args) (l' ++ args') := by
  cases h with
  | nil => exact k
  | cons h t => exact (VL.cons h t).append k
theorem addCap_vl {E : Env} {N : Nat} {b m' args args' : List Value} (h : VL E N b m') (k : VL E N args args') : VL E N (addCap args b) (args' ++ m') := by
  cases h with
  | nil => rw [List.append_nil]; exact k
  | cons h t => exact k.append (.cons h t)
theorem put1_ok {o : Oper} {A : AA} {v : Value} {H : Hp} {rest : Rest} {e : Ex} {A' : AA} {H' : Hp} (h : put1 o A v H rest = .code e A' H') : ∃ A1, putA A o.dst v = some A1 ∧ rest A1 H = .code e A' H' := by
  rw [put1_def] at h
  split at h
  · exact ⟨_, by assumption, h⟩
  · cases h
/-- what is to be shown behind an operation. -/
def Cont (ds : List Deferred) (E : Env) (H : Hp) (w : World) (rest : Rest) (e : Ex) (A' : AA) (H' : Hp) (K : Act → World → Prop) : Prop :=
  ∀ E1 A1 H1 a1 w1, rest A1 H1 = .code e A' H' → Gd E E1 H H1 w w1 → AR ds E1 H1.next A1 a1 → HRel E1 H1 w1 → K a1 w1
theorem doPlain_ok {P : Program} {T : Cx} (hT : Fits P T) {id : Nat} {o : Oper} {rest : Rest} {A A' : AA} {H H' : Hp} {e : Ex} (h : doPlain T id o rest A H = .code e A' H') {E : Env} {a : Act} {w : World} (ha : AR ds E H.next A a) (hr : HRel E H w)
    {K : Act → World → Prop} {Q : Exit → Act → World → Prop} (hK : Cont ds E H w rest e A' H' K) : o.wp P a w K Q := by
  rw [doPlain_def] at h
  split at h
  · rename_i r hop
    obtain ⟨v, H1⟩ := r
    obtain ⟨A1, hp, hrest⟩ := put1_ok h
    obtain ⟨E1, v', w1, n, h1, h2, h3, h4, h5⟩ := opF_ok hT A H v H1 hop E a w ha hr
    have ha1 := (ha.mono h3.ag h3.le).put hp h4
    unfold Oper.wp
    rw [h1]
    rcases h2 with rfl | ⟨rfl, rfl⟩
    · exact hK E1 A1 H1 _ _ hrest h3 ha1 h5
    · exact hK E1 A1 H1 _ _ hrest h3 ha1 h5
  · cases h
theorem call_run {P : Program} {fid : FuncId} {fn : Func} {args : Array Value} {w : World} (hf : P.funcs[fid]? = some fn) (hn : (fn.name == "runtime.NumGoroutine") = false) (hb : fn.body.isNone = false) :
    (callFunc fid args).run P w = .ok (.enter fid args) w := by
  have hn2 : fn.name ≠ "runtime.NumGoroutine" := by simpa using hn
  have hb2 : fn.body ≠ none := fun e => by rw [e] at hb; cases hb
  simp [callFunc, hf, hn2, hb2]
theorem doCall_ok {P : Program} {T : Cx} {ih : Cmd → Out} (hih : CallsOk P T ih) {o : Oper} {f : Operand} {args : List Operand} (hk : kdOf o.op = .call f args) {rest : Rest} {A A' : AA} {H H' : Hp} {e : Ex}
    (h : doCall T ih o rest A H (ev A f) (evL A args) = .code e A' H') {E : Env} {a : Act} {w : World} (ha : AR ds E H.next A a) (hr : HRel E H w)
    {K : Act → World → Prop} {Q : Exit → Act → World → Prop} (hK : Cont ds E H w rest e A' H' K) : o.wp P a w K Q := by
  unfold doCall at h
  split at h
  · rename_i fid x1 x2 hf
    split at h
    · rename_i vs hvs
      obtain ⟨hg, h⟩ : Nat.beq A.g T.g = true ∧ doCall2 o rest A (ih (.call fid (addCap (addFirst x1.toList vs) x2.toList) H)) = .code e A' H' := by
        cases hb : Nat.beq A.g T.g with
        | true => rw [hb] at h; exact ⟨rfl, h⟩
        | false => rw [hb] at h; cases h
      have hg2 := Nat.eq_of_beq_eq_true hg
      unfold doCall2 at h
      split at h
      · rename_i v H1 hcall
        obtain ⟨A1, hp, hrest⟩ := put1_ok h
        obtain ⟨⟨fn, q1, q2, q3⟩, hc⟩ := hih fid _ H v H1 hcall
        obtain ⟨tys, ho⟩ := kdOf_call hk
        obtain ⟨l', m', e3, r1, r2⟩ := (ev_ok ha hf).fn
        have hvl := addCap_vl r2 (addFirst_vl r1 (evL_ok ha hvs))
        have hC := hc E _ w hvl hr (fun g hgg => ha.gl g (by rw [hg2]; exact hgg))
        unfold Oper.wp
        have hrun : (execOp a.eval o).run P w = .ok (.enter fid ((l' ++ args.map a.eval) ++ m').toArray) w := by
          simp [execOp, ho, resolve, Deferred.ofValue, e3, invoke, call_run q1 q2 q3]
        rw [hrun, Oper.upon_enter]
        refine hC.mono fun en w1 hh => ?_
        obtain ⟨E1, v', rfl, g1, g2, g3⟩ := hh
        exact hK E1 A1 H1 _ _ hrest g1 ((ha.mono g1.ag g1.le).put hp g2) g3
      · cases h
      · cases h
    · cases h
  · cases h
theorem doOp_ok {P : Program} {T : Cx} (hT : Fits P T) {ih : Cmd → Out} (hih : CallsOk P T ih) {id : Nat} {o : Oper} {rest : Rest} {A A' : AA} {H H' : Hp} {e : Ex} (h : doOp T ih id o rest A H = .code e A' H') {E : Env} {a : Act} {w : World} (ha : AR ds E H.next A a) (hr : HRel E H w)
    {K : Act → World → Prop} {Q : Exit → Act → World → Prop} (hK : Cont ds E H w rest e A' H' K) : o.wp P a w K Q := by
  unfold doOp at h
  cases hk : kdOf o.op with
  | call f args => rw [hk] at h; exact doCall_ok hih hk h ha hr hK
  | plain => rw [hk] at h; exact doPlain_ok hT h ha hr hK
/-- what a piece of code comes to. -/
def Post (ds : List Deferred) (e : Ex) (A' : AA) (H' : Hp) (E : Env) (H : Hp) (w : World) : Exit → Act → World → Prop := fun x a' w' => x = e.out ∧ ∃ E', Gd E E' H H' w w' ∧ AR ds E' H'.next A' a' ∧ HRel E' H' w'
theorem Post.trans {e : Ex} {A' : AA} {E E1 : Env} {H H1 H' : Hp} {w w1 : World} (g : Gd E E1 H H1 w w1) {x : Exit} {a' : Act} {w' : World} (h : Post ds e A' H' E1 H1 w1 x a' w') : Post ds e A' H' E H w x a' w' := by
  obtain ⟨h1, E', g2, h3, h4⟩ := h
  exact ⟨h1, E', g.trans g2, h3, h4⟩
theorem runOps_nil (T : Cx) (ih : Cmd → Out) (ops : List Oper) (id : Nat) (A : AA) (H : Hp) : runOps T ih ops id [] A H = .code .normal A H := rfl
theorem runOps_cons (T : Cx) (ih : Cmd → Out) (ops : List Oper) (id : Nat) (o : Oper) (l : List Oper) (A : AA) (H : Hp) : runOps T ih ops id (o :: l) A H = stepOp T ih id o (runOps T ih ops id l) A H (wantedA ops A o) := rfl
theorem runOps_ok {P : Program} {T : Cx} (hT : Fits P T) {ih : Cmd → Out} (hih : CallsOk P T ih) {ops : Array Oper} {id : Nat} {A' : AA} {H' : Hp} {e : Ex} : ∀ (k : Nat) {A : AA} {H : Hp}, runOps T ih ops.toList id (ops.toList.drop k) A H = .code e A' H' → ∀ {E : Env} {a : Act} {w : World}, AR ds E H.next A a → HRel E H w →
    ∀ {Q : Exit → Act → World → Prop}, (∀ E1 a1 w1, e = .normal → Gd E E1 H H' w w1 → AR ds E1 H'.next A' a1 → HRel E1 H' w1 → Q .normal a1 w1) → k ≤ ops.size → wpOps P ops Q (List.range' k (ops.size - k)) a w := by
  intro k
  induction hn : ops.size - k generalizing k with
  | zero =>
    intro A H h E a w ha hr Q hQ hk
    rw [List.drop_eq_nil_of_le (by simp; omega), runOps_nil] at h
    cases h
    exact hQ E a w rfl (Gd.refl _ _ _) ha hr
  | succ n ihn =>
    intro A H h E a w ha hr Q hQ hk
    have hlt : k < ops.size := by omega
    rw [List.drop_eq_getElem_cons (by simpa using hlt), runOps_cons] at h
    simp only [Array.getElem_toList] at h
    rw [List.range'_succ]
    unfold wpOps
    rw [Array.getElem?_eq_getElem hlt]
    simp only
    cases hw : wantedA ops.toList A ops[k] with
    | none => rw [hw] at h; cases h
    | some b =>
      rw [hw] at h
      have hwant := wantedA_ok ha hw
      have next : ∀ E1 A1 H1 a1 w1, runOps T ih ops.toList id (ops.toList.drop (k + 1)) A1 H1 = .code e A' H' → Gd E E1 H H1 w w1 → AR ds E1 H1.next A1 a1 → HRel E1 H1 w1 → wpOps P ops Q (List.range' (k + 1) n) a1 w1 := fun E1 A1 H1 a1 w1 hh g ha1 hr1 =>
        ihn (k + 1) (by omega) hh ha1 hr1 (fun E2 a2 w2 he g2 ha2 hr2 => hQ E2 a2 w2 he (g.trans g2) ha2 hr2) (by omega)
      cases b with
      | true =>
        rw [hwant, if_pos rfl]
        exact .inl (doOp_ok hT hih h ha hr next)
      | false =>
        rw [hwant, if_neg (by simp)]
        obtain ⟨A1, hp, hrest⟩ := put1_ok h
        exact next E A1 H _ _ hrest (Gd.refl _ _ _) (ha.put hp VR.undef) hr
theorem region_ops {P : Program} {T : Cx} (hT : Fits P T) {ih : Cmd → Out} (hih : CallsOk P T ih) {ops : Array Oper} {id : Nat} {A A' : AA} {H H' : Hp} {e : Ex} (h : runOps T ih ops.toList id ops.toList A H = .code e A' H') {E : Env} {a : Act} {w : World} (ha : AR ds E H.next A a) (hr : HRel E H w) :
    e = .normal ∧ wpOps P ops (Post ds e A' H' E H w) (List.range ops.size) a w := by
  have he : ∀ (l : List Oper) (A : AA) (H : Hp), runOps T ih ops.toList id l A H = .code e A' H' → e = .normal := by
    intro l
    induction l with
    | nil => intro A H h; rw [runOps_nil] at h; cases h; rfl
    | cons o l ihl =>
      intro A H h
      rw [runOps_cons] at h
      rw [stepOp_def] at h
      split at h
      · unfold doOp at h
        cases hk : kdOf o.op with
        | call f args =>
          rw [hk] at h
          change doCall T ih o (runOps T ih ops.toList id l) A H (ev A f) (evL A args) = .code e A' H' at h
          unfold doCall at h
          split at h
          · split at h
            · cases hb : Nat.beq A.g T.g with
              | false => rw [hb] at h; cases h
              | true =>
                rw [hb, ite'_true] at h
                unfold doCall2 at h
                split at h
                · obtain ⟨A1, _, h1⟩ := put1_ok h; exact ihl _ _ h1
                · cases h
                · cases h
            · cases h
          · cases h
        | plain =>
          rw [hk] at h
          change doPlain T id o (runOps T ih ops.toList id l) A H = .code e A' H' at h
          rw [doPlain_def] at h
          split at h
          · obtain ⟨A1, _, h1⟩ := put1_ok h; exact ihl _ _ h1
          · cases h
      · obtain ⟨A1, _, h1⟩ := put1_ok h; exact ihl _ _ h1
      · cases h
  have hen := he _ _ _ h
  subst hen
  refine ⟨rfl, ?_⟩
  have := runOps_ok hT hih (ops := ops) (id := id) 0 (by simpa using h) ha hr (Q := Post ds .normal A' H' E H w) (fun E1 a1 w1 _ g ha1 hr1 => ⟨rfl, E1, g, ha1, hr1⟩) (Nat.zero_le _)
  rw [Nat.sub_zero, ← List.range_eq_range'] at this
  exact this
end
end Go.Proofs.YtcpghlilbohohaaGreatDoor
namespace Go.Proofs.YtcpghlilbohohaaGreatDoor
open Go
set_option linter.unusedVariables false
set_option linter.unusedSimpArgs false
noncomputable section
variable {ds : List Deferred}
/-- does operation j wait for operation i? -/
def reachB (ops : Array Oper) (i : Nat) (n : Nat) : Nat → Bool := Nat.rec (motive := fun _ => Nat → Bool) (fun _ => false) (fun _ ih j => match ops[j]? with
  | some o => o.after.toList.any fun e => Region.binds .any e && (Nat.beq e.on i || ih e.on)
  | none => false) n
theorem reachB_succ (ops : Array Oper) (i n j : Nat) : reachB ops i (n + 1) j = (match ops[j]? with
  | some o => o.after.toList.any fun e => Region.binds .any e && (Nat.beq e.on i || reachB ops i n e.on)
  | none => false) := rfl
/-- what is listed has all that it waits for listed. -/
def ClosedL (ops : Array Oper) (listed : Array Bool) : Prop := ∀ (j : Nat) (o : Oper), ops[j]? = some o → listed.getD j false = true → ∀ e ∈ o.after, Region.binds .any e = true → listed.getD e.on false = true
theorem reach_listed {ops : Array Oper} {listed : Array Bool} (hc : ClosedL ops listed) {i : Nat} : ∀ (n j : Nat) (o : Oper), ops[j]? = some o → (∀ e ∈ o.after, Region.binds .any e = true → listed.getD e.on false = true) → reachB ops i n j = true → listed.getD i false = true
  | 0, _, _, _, _, h => by cases h
  | n + 1, j, o, ho, hp, h => by
    rw [reachB_succ, ho] at h
    simp only at h
    rw [List.any_eq_true] at h
    obtain ⟨e, he, h2⟩ := h
    have he2 : e ∈ o.after := by simpa using he
    simp only [Bool.and_eq_true, Bool.or_eq_true] at h2
    have hl := hp e he2 h2.1
    rcases h2.2 with h3 | h3
    · rw [← Nat.eq_of_beq_eq_true h3]; exact hl
    · cases n with
      | zero => cases h3
      | succ n =>
        cases ho2 : ops[e.on]? with
        | none => rw [reachB_succ, ho2] at h3; cases h3
        | some o2 => exact reach_listed hc (n + 1) e.on o2 ho2 (hc e.on o2 ho2 hl) h3
theorem closed_start (ops : Array Oper) (n : Nat) : ClosedL ops (Array.replicate n false) := fun j o ho h => by
  simp only [Array.getD_eq_getD_getElem?, Array.getElem?_replicate] at h
  split at h <;> cases h
theorem closed_step {ops : Array Oper} {listed : Array Bool} (hc : ClosedL ops listed) {i : Nat} (hr : i ∈ Region.ready .any ops listed) : ClosedL ops (listed.setIfInBounds i true) := fun j o ho h e he hb => by
  obtain ⟨h0, oi, hoi, hall⟩ := mem_ready.1 hr
  by_cases hj : i = j
  · subst hj
    rw [hoi] at ho; cases ho
    exact getD_set_true (hall e he hb)
  · rw [getD_set_ne false hj] at h
    exact getD_set_true (hc j o ho h e he hb)
/-- none of D has come up. -/
def NoD (D : Nat → Bool) (listed : Array Bool) : Prop := ∀ d, D d = true → listed.getD d false = false
/-- whatever order is picked from here on; S holds behind every operation as long as none of D has come up. -/
def wpD (P : Program) (ops : Array Oper) (Q : Exit → Act → World → Prop) (D : Nat → Bool) (S : World → Prop) : Nat → Array Bool → Act → World → Prop
  | 0, listed, a, w => Region.ready .any ops listed = [] ∧ Q .normal a w
  | n + 1, listed, a, w => (Region.ready .any ops listed = [] → Q .normal a w) ∧
    ∀ i ∈ Region.ready .any ops listed, wpOp P ops Q i (fun a' w' => (NoD D (listed.setIfInBounds i true) → S w') ∧ wpD P ops Q D S n (listed.setIfInBounds i true) a' w') a w
variable {P : Program} {ops : Array Oper} {Q : Exit → Act → World → Prop} {S S' : World → Prop} {D : Nat → Bool}
theorem wpD_any : ∀ (n : Nat) (listed : Array Bool) (a : Act) (w : World), wpD P ops Q D S n listed a w → wpAny P .any ops Q n listed a w
  | 0, _, _, _, h => h
  | n + 1, listed, a, w, h => ⟨h.1, fun i hi => wpOp_mono (fun a' w' hk => wpD_any n _ a' w' hk.2) (h.2 i hi)⟩
theorem wpD_mono (hs : ∀ w, S' w → S w) : ∀ (n : Nat) (listed : Array Bool) (a : Act) (w : World), wpD P ops Q D S' n listed a w → wpD P ops Q D S n listed a w
  | 0, _, _, _, h => h
  | n + 1, listed, a, w, h => ⟨h.1, fun i hi => wpOp_mono (fun a' w' hk => ⟨fun hd => hs _ (hk.1 hd), wpD_mono hs n _ a' w' hk.2⟩) (h.2 i hi)⟩
theorem wpD_done {listed : Array Bool} {a : Act} {w : World} (hr : Region.ready .any ops listed = []) (h : Q .normal a w) : ∀ n, wpD P ops Q D S n listed a w
  | 0 => ⟨hr, h⟩
  | n + 1 => ⟨fun _ => h, fun i hi => by rw [hr] at hi; cases hi⟩
theorem wpD_one {i n : Nat} {listed : Array Bool} {a : Act} {w : World} (hr : Region.ready .any ops listed = [i]) (h : wpOp P ops Q i (fun a' w' => (NoD D (listed.setIfInBounds i true) → S w') ∧ wpD P ops Q D S n (listed.setIfInBounds i true) a' w') a w) : wpD P ops Q D S (n + 1) listed a w :=
  ⟨fun h0 => (by rw [hr] at h0; cases h0), fun j hj => (by rw [hr, List.mem_singleton] at hj; subst hj; exact h)⟩
/-- an operation that may come up is taken first: what it yields hangs on S1 alone, and S1 stays while it has not come up. -/
theorem wpD_take {S1 : World → Prop} {i : Nat} {oi : Oper} {v : Value} (hi : ops[i]? = some oi) (hns : Region.noSelect ops = true) (hQ : ∀ c a w, Q (.panic c) (a.put oi.dst v) w → Q (.panic c) a w) (hDi : D i = false)
    (hD : (∀ w, S1 w) ∨ ((∀ w, S w → S1 w) ∧ ∀ j, D j = true → (ops[j]?).isSome = true ∧ ∃ n, reachB ops i n j = true)) :
    ∀ (n : Nat) (listed : Array Bool) (a : Act) (w : World), ClosedL ops listed → (∀ j oj, ops[j]? = some oj → j ≠ i → listed.getD j true = false → (∀ e ∈ oj.after, Region.binds .any e = true → e.on ≠ i) → oi.apart ops oj = true) → i ∈ Region.ready .any ops listed → YieldsIf P ops S1 oi v a → (NoD D listed → S w) →
      wpD P ops Q D S n (listed.setIfInBounds i true) (a.put oi.dst v) w → wpD P ops Q D S (n + 1) listed a w := by
  have hsel := Region.noSelect_spec hns
  have hif : ∀ {listed : Array Bool}, i ∈ Region.ready .any ops listed → listed.getD i false = false := fun {listed} hr => by
    obtain ⟨hiun, _⟩ := mem_ready.1 hr
    rcases Nat.lt_or_ge i listed.size with h' | h'
    · simp [h'] at hiun ⊢; exact hiun
    · simp [Array.getElem?_eq_none h']
  have hgo : ∀ (listed : Array Bool) (w : World), ClosedL ops listed → i ∈ Region.ready .any ops listed → (NoD D listed → S w) → S1 w := fun listed w hc hr h => by
    rcases hD with h2 | h2
    · exact h2 w
    · refine h2.1 w (h fun d hd => ?_)
      cases hl : listed.getD d false with
      | false => rfl
      | true =>
        obtain ⟨h3, n0, h4⟩ := h2.2 d hd
        obtain ⟨o, ho⟩ := Option.isSome_iff_exists.1 h3
        have := reach_listed hc n0 d o ho (hc d o ho hl) h4
        rw [hif hr] at this; cases this
  have hno : ∀ {listed : Array Bool}, NoD D (listed.setIfInBounds i true) ↔ NoD D listed := fun {listed} => ⟨fun h d hd => by
    have := h d hd
    rwa [getD_set_ne false (fun e => by subst e; rw [hDi] at hd; cases hd)] at this, fun h d hd => by
    rw [getD_set_ne false (fun e => by subst e; rw [hDi] at hd; cases hd)]; exact h d hd⟩
  intro n
  induction n with
  | zero =>
    intro listed a w hc hf hr hy hS H
    refine ⟨fun h => (by rw [h] at hr; cases hr), fun j hj => ?_⟩
    by_cases hji : j = i
    · subst hji
      exact hy.wpOp hi (hgo listed w hc hr hS) ⟨fun h => hS (hno.1 h), H⟩
    · have := ready_mono hj hji
      rw [H.1] at this; cases this
  | succ n ih =>
    intro listed a w hc hf hr hy hS H
    refine ⟨fun h => (by rw [h] at hr; cases hr), fun j hj => ?_⟩
    by_cases hji : j = i
    · subst hji
      exact hy.wpOp hi (hgo listed w hc hr hS) ⟨fun h => hS (hno.1 h), H⟩
    · have h1 := H.2 j (ready_mono hj hji)
      obtain ⟨hjun, oj, hoj, hall⟩ := mem_ready.1 hj
      have hnot : ∀ e ∈ oj.after, Region.binds .any e = true → e.on ≠ i := fun e he hb heq => by
        have h1 := hall e he hb
        rw [heq, hif hr] at h1; cases h1
      have h2 := wpOp_putIf hoj (hf j oj hoj hji hjun hnot) (fun cs b => hsel i oi cs b hi) (fun cs b => hsel j oj cs b hoj) hQ hy h1
      refine wpOp_mono (fun a' w' h3 => ?_) h2
      obtain ⟨hy', hSj, hrest⟩ := h3
      have hSj2 : NoD D (listed.setIfInBounds j true) → S w' := fun h => hSj (by
        rw [Array.setIfInBounds_comm _ _ (Ne.symm hji)]
        exact hno.2 h)
      refine ⟨hSj2, ih (listed.setIfInBounds j true) a' w' (closed_step hc hj) (fun k ok hk hki hun hno' => ?_) (ready_mono hr (Ne.symm hji)) hy' hSj2 ?_⟩
      · refine hf k ok hk hki ?_ hno'
        by_cases hjk : j = k
        · subst hjk; exact hjun
        · rw [getD_set_ne true hjk] at hun; exact hun
      · rw [Array.setIfInBounds_comm _ _ hji]
        exact hrest
end
end Go.Proofs.YtcpghlilbohohaaGreatDoor
namespace Go.Proofs.YtcpghlilbohohaaGreatDoor
open Go
set_option linter.unusedVariables false
set_option linter.unusedSimpArgs false
noncomputable section
variable {ds : List Deferred}
/-! ### regions that ask for an order -/
def valEq (a b : Value) : Bool := match a with
  | .bool x => (match b with
    | .bool y => ite' x y (Bool.not y)
    | _ => false)
  | .int k x => (match b with
    | .int k' y => ite' (kindEq k k') (eqF x y) false
    | _ => false)
  | .string x => (match b with
    | .string y => bytesEq x.data.toList y.data.toList
    | _ => false)
  | .pointer none => (match b with
    | .pointer none => true
    | _ => false)
  | .pointer (some ⟨pb, po, none⟩) => (match b with
    | .pointer (some ⟨qb, qo, none⟩) => ite' (Nat.beq pb qb) (Nat.beq po qo) false
    | _ => false)
  | .slice none l c => (match b with
    | .slice none l' c' => ite' (Nat.beq l l') (Nat.beq c c') false
    | _ => false)
  | .slice (some ⟨pb, po, none⟩) l c => (match b with
    | .slice (some ⟨qb, qo, none⟩) l' c' => ite' (Nat.beq pb qb) (ite' (Nat.beq po qo) (ite' (Nat.beq l l') (Nat.beq c c') false) false) false
    | _ => false)
  | .map none => (match b with
    | .map none => true
    | _ => false)
  | .map (some r) => (match b with
    | .map (some r') => Nat.beq r r'
    | _ => false)
  | _ => false
theorem ite'_true_eq {b x : Bool} (h : ite' b x false = true) : b = true ∧ x = true := by
  cases b with
  | true => exact ⟨rfl, h⟩
  | false => cases h
theorem valEq_eq {a b : Value} (h : valEq a b = true) : a = b := by
  unfold valEq at h
  split at h
  · split at h
    · rename_i x _ y; cases x <;> cases y <;> first | rfl | cases h
    · cases h
  · split at h
    · obtain ⟨h1, h2⟩ := ite'_true_eq h
      rw [eqF_eq] at h2
      rw [kindEq_eq h1, eq_of_beq h2]
    · cases h
  · split at h
    · rw [bytesEq_eq] at h
      have := eq_of_beq h
      rename_i x _ y
      congr 1
      apply ByteArray.ext
      exact Array.toList_inj.1 this
    · cases h
  · split at h
    · rfl
    · cases h
  · split at h
    · obtain ⟨h1, h2⟩ := ite'_true_eq h
      rw [Nat.eq_of_beq_eq_true h1, Nat.eq_of_beq_eq_true h2]
    · cases h
  · split at h
    · obtain ⟨h1, h2⟩ := ite'_true_eq h
      rw [Nat.eq_of_beq_eq_true h1, Nat.eq_of_beq_eq_true h2]
    · cases h
  · split at h
    · obtain ⟨h1, h2⟩ := ite'_true_eq h
      obtain ⟨h3, h4⟩ := ite'_true_eq h2
      obtain ⟨h5, h6⟩ := ite'_true_eq h4
      rw [Nat.eq_of_beq_eq_true h1, Nat.eq_of_beq_eq_true h3, Nat.eq_of_beq_eq_true h5, Nat.eq_of_beq_eq_true h6]
    · cases h
  · split at h
    · rfl
    · cases h
  · split at h
    · rw [Nat.eq_of_beq_eq_true h]
    · cases h
  · cases h
theorem VR.fun' {E : Env} {N : Nat} {v v1 v2 : Value} (hq : valEq v v = true) (h : VR E N v v1) (k : VR E N v v2) : v1 = v2 := by
  cases h with
  | same h =>
    cases k with
    | same _ => rfl
    | ptr _ => cases h
    | slice _ _ => cases h
    | open_ _ _ _ _ => cases h
    | map _ => cases h
    | agg _ => cases h
    | tuple _ => cases h
    | iface _ => cases h
    | tail => cases h
    | clo _ _ => cases hq
  | ptr h =>
    cases k with
    | same h => cases h
    | ptr _ => rfl
  | slice h hc =>
    cases k with
    | same h => cases h
    | slice _ _ => rfl
    | open_ _ hc2 _ _ => omega
  | @open_ _ o _ c c' h hc hl hk =>
    cases k with
    | same h => cases h
    | slice _ hc2 => omega
    | @open_ _ _ _ _ c2 _ hc2 hl2 hk2 =>
      have h1 : c' * (c - OPN) = c2 * (c - OPN) := by omega
      have h2 : 0 < c - OPN := by omega
      rw [Nat.eq_of_mul_eq_mul_right h2 h1]
  | map h =>
    cases k with
    | same h => cases h
    | map _ => rfl
  | agg h => cases hq
  | tuple h => cases hq
  | iface h => cases hq
  | tail => cases hq
  | clo _ _ => cases hq
inductive HeldR (E : Env) (N : Nat) : List (Nat × Nat × Value) → List (Addr × Value) → Prop
  | nil : HeldR E N [] []
  | cons {b o : Nat} {u u' : Value} {l : List (Nat × Nat × Value)} {l' : List (Addr × Value)} (h : b < N) (hv : VR E N u u') (t : HeldR E N l l') : HeldR E N ((b, o, u) :: l) ((⟨E.s b, o, none⟩, u') :: l')
theorem HeldR.mono {E E' : Env} {N N' : Nat} (ha : Agree E E' N) (hN : N ≤ N') : ∀ {l : List (Nat × Nat × Value)} {l' : List (Addr × Value)}, HeldR E N l l' → HeldR E' N' l l'
  | _, _, .nil => .nil
  | _, _, .cons h hv t => by rw [← (ha _ h).1]; exact .cons (Nat.lt_of_lt_of_le h hN) (hv.mono ha hN) (HeldR.mono ha hN t)
def SS (l : List (Addr × Value)) : World → Prop := fun w => ∀ q ∈ l, w.cell? q.1 = some q.2
def heldOk (H : Hp) (l : List (Nat × Nat × Value)) : Bool := List.rec (motive := fun _ => Bool) true (fun q _ ih => match H.cell q.1 q.2.1 with
  | some u => ite' (valEq q.2.2 u) ih false
  | none => false) l
theorem heldOk_ok {E : Env} {H : Hp} {w : World} (hr : HRel E H w) : ∀ {l : List (Nat × Nat × Value)} {l' : List (Addr × Value)}, HeldR E H.next l l' → heldOk H l = true → SS l' w
  | _, _, .nil, _ => fun q hq => by cases hq
  | _, _, .cons (b := b) (o := o) (u := u) (u' := u') (l := l) h hv t, hk => by
    change (match H.cell b o with
      | some x => ite' (valEq u x) (heldOk H l) false
      | none => false) = true at hk
    split at hk
    · rename_i x hx
      obtain ⟨h1, h2⟩ := ite'_true_eq hk
      have e := valEq_eq h1
      subst e
      obtain ⟨_, x', e1, r⟩ := hr.cell hx
      intro q hq
      rcases List.mem_cons.1 hq with e | e
      · subst e; rw [← hv.fun' h1 r] at e1; exact e1
      · exact heldOk_ok hr t h2 q e
    · cases hk
/-! ### the order in which a region's operations are taken -/
def planOk (ops : Array Oper) (l : List (Nat × Bool)) : Array Bool → Bool := List.rec (motive := fun _ => Array Bool → Bool)
  (fun listed => match Region.ready .any ops listed with
    | [] => true
    | _ => false)
  (fun s _ ih listed => ite' s.2 (ite' ((Region.ready .any ops listed).contains s.1) (ite' (Region.free .any ops listed s.1) (ih (listed.setIfInBounds s.1 true)) false) false)
    (match Region.ready .any ops listed with
      | [i] => ite' (Nat.beq i s.1) (ih (listed.setIfInBounds s.1 true)) false
      | _ => false)) l
def isLoad (o : Op) : Bool := match o with
  | .load _ _ => true
  | _ => false
/-- the first of these that may be taken. -/
def pick1 (ops : Array Oper) (listed : Array Bool) (rs : List Nat) : Option Nat := List.rec (motive := fun _ => Option Nat) none (fun i _ ih => match ops[i]? with
  | some o => ite' (ite' (isPure o.op) true (isLoad o.op)) (ite' (Region.free .any ops listed i) (some i) ih) ih
  | none => ih) rs
def planGen (ops : Array Oper) (fuel : Nat) : Array Bool → Option (List (Nat × Bool)) := Nat.rec (motive := fun _ => Array Bool → Option (List (Nat × Bool))) (fun _ => some [])
  (fun _ ih listed => match Region.ready .any ops listed with
    | [] => some []
    | rs => (match pick1 ops listed rs with
      | some i => (match ih (listed.setIfInBounds i true) with
        | some l => some ((i, true) :: l)
        | none => none)
      | none => (match rs with
        | [i] => (match ih (listed.setIfInBounds i true) with
          | some l => some ((i, false) :: l)
          | none => none)
        | _ => none))) fuel
abbrev Rest2 := List (Nat × Nat × Value) → AA → Hp → Out
def heldOf (b off : Nat) (l : List Value) (held : List (Nat × Nat × Value)) : List (Nat × Nat × Value) := List.rec (motive := fun _ => Nat → List (Nat × Nat × Value)) (fun _ => held) (fun v _ ih off => (b, off, v) :: ih (Nat.succ off)) l off
def sizeA (T : Cx) (t : TypeId) : Option Nat := match T.ty.get t with
  | some i => (match T.und t with
    | some d => some (ite' (isAggD d) i.size 1)
    | none => none)
  | none => none
def takePut (o : Oper) (rest : Rest2) (held : List (Nat × Nat × Value)) (A : AA) (H : Hp) (r : Option (Value × Hp)) (no : Out) : Out := Option.rec (motive := fun _ => Out) no (fun r => Prod.rec (motive := fun _ => Out) (fun v H1 => putR o.dst A v H1 (rest held)) r) r
theorem takePut_def (o : Oper) (rest : Rest2) (held : List (Nat × Nat × Value)) (A : AA) (H : Hp) (r : Option (Value × Hp)) (no : Out) : takePut o rest held A H r no = (match r with
  | some r => put1 o A r.1 r.2 (rest held)
  | none => no) := by
  cases r with
  | none => rfl
  | some r => obtain ⟨v, H1⟩ := r; rfl
def takeLoad (T : Cx) (id : Nat) (o : Oper) (rest : Rest2) (held : List (Nat × Nat × Value)) (A : AA) (H : Hp) (t : TypeId) (x : Option Value) : Out := match x with
  | some (.pointer (some p)) => (match sizeA T t with
    | some n => (match H.cells p.block p.off n with
      | some l => takePut o rest (heldOf p.block p.off l held) A H (opD o.op T A H) (.bad (1000 + id))
      | none => .bad 19)
    | none => .bad 20)
  | _ => .bad 21
/-- a text of a row of bytes: these are held. -/
def takeConv (T : Cx) (id : Nat) (o : Oper) (rest : Rest2) (held : List (Nat × Nat × Value)) (A : AA) (H : Hp) (s d : TypeId) (x : Option Value) : Out := match x with
  | some (.slice (some p) n _) => (match H.cells p.block p.off n with
    | some l => ite' (b2s T s d) (match textOf l with
      | some v => put1 o A v H (rest (heldOf p.block p.off l held))
      | none => .bad 22) (.bad 23)
    | none => .bad 24)
  | some (.slice none _ _) => ite' (b2s T s d) (put1 o A (.string ByteArray.empty) H (rest held)) (.bad 23)
  | _ => .bad (1000 + id)
def convOf (o : Op) : Option (TypeId × TypeId × Operand) := match o with
  | .convert s d x => some (s, d, x)
  | _ => none
def takeMem (T : Cx) (id : Nat) (o : Oper) (rest : Rest2) (held : List (Nat × Nat × Value)) (A : AA) (H : Hp) (c : Option (TypeId × TypeId × Operand)) : Out := match c with
  | some c => takeConv T id o rest held A H c.1 c.2.1 (ev A c.2.2)
  | none => .bad (1000 + id)
def ldStep (T : Cx) (id : Nat) (o : Oper) (rest : Rest2) (held : List (Nat × Nat × Value)) (A : AA) (H : Hp) : Out := match o.op with
  | .load t x => takeLoad T id o rest held A H t (ev A x)
  | _ => .bad 15
def takeStep (T : Cx) (id : Nat) (o : Oper) (rest : Rest2) (held : List (Nat × Nat × Value)) (A : AA) (H : Hp) : Out := Bool.rec (motive := fun _ => Out) (ldStep T id o rest held A H) (takePut o rest held A H ((opDC o.op).run T A H) (takeMem T id o rest held A H (convOf o.op))) (isPure o.op)
theorem takeStep_def (T : Cx) (id : Nat) (o : Oper) (rest : Rest2) (held : List (Nat × Nat × Value)) (A : AA) (H : Hp) : takeStep T id o rest held A H = ite' (isPure o.op) (takePut o rest held A H (opD o.op T A H) (takeMem T id o rest held A H (convOf o.op))) (match o.op with
  | .load t x => takeLoad T id o rest held A H t (ev A x)
  | _ => .bad 15) := by
  unfold takeStep
  rw [opDC_eq]
  rfl
def planStep (T : Cx) (ih : Cmd → Out) (id : Nat) (o : Oper) (tk dj : Bool) (rest : Rest2) (held : List (Nat × Nat × Value)) (A : AA) (H : Hp) (w : Option Bool) : Out := match w with
  | some true => ite' tk (takeStep T id o rest held A H) (doOp T ih id o (fun A' H' => ite' (heldOk H' held) (rest held A' H') (ite' dj (rest [] A' H') (.bad 14))) A H)
  | some false => put1 o A undef H (rest held)
  | none => .bad 12
def runPlan (T : Cx) (ih : Cmd → Out) (ops : List Oper) (D : Nat → Bool) (id : Nat) (l : List (Nat × Bool)) : Rest2 := List.rec (motive := fun _ => Rest2) (fun _ A H => .code .normal A H)
  (fun s _ rest held A H => match ops[s.1]? with
    | some o => planStep T ih id o s.2 (D s.1) rest held A H (wantedA ops A o)
    | none => .bad 13) l
/-- an operation that is taken first may not be one of these; each of them waits for every load that is taken first. -/
def convB (T : Cx) (c : Option (TypeId × TypeId × Operand)) : Bool := match c with
  | some c => Bool.not (b2s T c.1 c.2.1)
  | none => true
def pureAt (T : Cx) (ops : Array Oper) (i : Nat) : Bool := match ops[i]? with
  | some o => ite' (isPure o.op) (convB T (convOf o.op)) false
  | none => true
def tkOk (T : Cx) (ops : Array Oper) (j : Nat) (l : List (Nat × Bool)) : Bool := List.rec (motive := fun _ => Bool) true (fun s _ ih => ite' s.2 (ite' (Nat.beq s.1 j) false (ite' (pureAt T ops s.1) ih (ite' (reachB ops s.1 6 j) ih false))) ih) l
def dOf (T : Cx) (ops : Array Oper) (l : List (Nat × Bool)) (j : Nat) : Bool := ite' ((ops[j]?).isSome) (tkOk T ops j l) false
theorem tkOk_cons (T : Cx) (ops : Array Oper) (j : Nat) (s : Nat × Bool) (l : List (Nat × Bool)) : tkOk T ops j (s :: l) = ite' s.2 (ite' (Nat.beq s.1 j) false (ite' (pureAt T ops s.1) (tkOk T ops j l) (ite' (reachB ops s.1 6 j) (tkOk T ops j l) false))) (tkOk T ops j l) := rfl
theorem tkOk_ok {T : Cx} {ops : Array Oper} {j : Nat} : ∀ {l : List (Nat × Bool)}, tkOk T ops j l = true → ∀ s ∈ l, s.2 = true → s.1 ≠ j ∧ (pureAt T ops s.1 = false → ∃ n, reachB ops s.1 n j = true)
  | [], _, s, hs, _ => by cases hs
  | q :: l, h, s, hs, hb => by
    rw [tkOk_cons] at h
    have key : (q.2 = true → q.1 ≠ j ∧ (pureAt T ops q.1 = false → ∃ n, reachB ops q.1 n j = true)) ∧ tkOk T ops j l = true := by
      cases hq : q.2 with
      | false => rw [hq, ite'_false] at h; exact ⟨fun h => (by cases h), h⟩
      | true =>
        rw [hq, ite'_true] at h
        cases h1 : Nat.beq q.1 j with
        | true => rw [h1] at h; cases h
        | false =>
          rw [h1, ite'_false] at h
          have hne : q.1 ≠ j := fun e => by rw [e, Nat.beq_refl] at h1; cases h1
          cases h2 : pureAt T ops q.1 with
          | true => rw [h2, ite'_true] at h; exact ⟨fun _ => ⟨hne, fun h => (by cases h)⟩, h⟩
          | false =>
            rw [h2, ite'_false] at h
            obtain ⟨h3, h4⟩ := ite'_true_eq h
            exact ⟨fun _ => ⟨hne, fun _ => ⟨6, h3⟩⟩, h4⟩
    rcases List.mem_cons.1 hs with e | e
    · subst e; exact key.1 hb
    · exact tkOk_ok key.2 s e hb
theorem dOf_ok {T : Cx} {ops : Array Oper} {l : List (Nat × Bool)} {i j : Nat} (hd : dOf T ops l j = true) (hi : (i, true) ∈ l) : i ≠ j ∧ (ops[j]?).isSome = true ∧ (pureAt T ops i = false → ∃ n, reachB ops i n j = true) := by
  obtain ⟨h1, h2⟩ := ite'_true_eq hd
  obtain ⟨h3, h4⟩ := tkOk_ok h2 _ hi rfl
  exact ⟨h3, h1, h4⟩
theorem Act.put_panic {A' : AA} {H H' : Hp} {E : Env} {e : Ex} {w0 : World} {d : Option Tmp} {v : Value} : ∀ c a w, Post ds e A' H' E H w0 (.panic c) (a.put d v) w → Post ds e A' H' E H w0 (.panic c) a w := fun c a w h => by
  have h1 := h.1
  cases e <;> cases h1
/-- what a load looks at. -/
theorem load_held {P : Program} {T : Cx} (hT : Fits P T) {E : Env} {H : Hp} {w : World} (hr : HRel E H w) {t : TypeId} {b off n : Nat} {v : Value} {l : List Value} (h : loadV T H t b off = some v) (hs : sizeA T t = some n) (hl : H.cells b off n = some l) :
    ∃ l' v', VL E H.next l l' ∧ VR E H.next v v' ∧ l'.length = n ∧ (∀ i u, l'[i]? = some u → w.cell? ⟨E.s b, off + i, none⟩ = some u) ∧ ∀ w2 : World, (∀ i u, l'[i]? = some u → w2.cell? ⟨E.s b, off + i, none⟩ = some u) → (loadVar t ⟨E.s b, off, none⟩).run P w2 = .ok v' w2 := by
  unfold loadV at h
  unfold sizeA at hs
  split at h
  · rename_i i hi
    rw [hi] at hs
    simp only at hs
    split at h
    · rename_i d hd
      rw [hd] at hs
      simp only [Option.some.injEq] at hs
      have e1 := hT.ty t i hi
      have e2 := hT.und hd
      obtain ⟨hn, l', r, hc⟩ := hr.cells hl
      have hl' : l'.length = n := by rw [← r.length]; exact hn
      have hcw : ∀ j u, l'[j]? = some u → w.cell? ⟨E.s b, off + j, none⟩ = some u := fun j u hu => by
        rw [hc j (by have := (List.getElem?_eq_some_iff.1 hu).1; omega)]; exact hu
      cases hag : isAggD d with
      | true =>
        rw [hag, ite'_true] at h hs
        subst hs
        rw [hl] at h
        cases h
        refine ⟨l', .agg l'.toArray, r, .agg r, hl', hcw, fun w2 h2 => ?_⟩
        have hld := run_loadCells_list (P := P) w2 ⟨E.s b, off, none⟩ l' (fun j u hu => by rw [add_plain']; exact h2 j u hu)
        rw [hl'] at hld
        have hu := run_underlying (P := P) e2 w2
        cases d <;> simp [isAggD] at hag <;> simp [loadVar, isAgg, hu, sizeOf, typeInfo, e1, hld]
      | false =>
        rw [hag, ite'_false] at h hs
        subst hs
        rw [cells_succ, h] at hl
        cases hl
        cases r with
        | @cons _ v' _ l2 hv ht =>
          refine ⟨v' :: l2, v', .cons hv ht, hv, hl', hcw, fun w2 h2 => ?_⟩
          have e3 : w2.cell? ⟨E.s b, off, none⟩ = some v' := by simpa using h2 0 v' rfl
          have hu := run_underlying (P := P) e2 w2
          cases d <;> simp [isAggD] at hag <;> simp [loadVar, isAgg, hu, e3]
    · cases h
  · cases h
theorem heldOf_ok {E : Env} {N : Nat} {b : Nat} (hb : b < N) {held : List (Nat × Nat × Value)} {hl : List (Addr × Value)} (hh : HeldR E N held hl) : ∀ {l l' : List Value} (off : Nat), VL E N l l' → ∃ hl2, HeldR E N (heldOf b off l held) hl2 ∧ (∀ w : World, SS hl2 w ↔ (∀ i u, l'[i]? = some u → w.cell? ⟨E.s b, off + i, none⟩ = some u) ∧ SS hl w)
  | _, _, off, .nil => ⟨hl, hh, fun w => ⟨fun h => ⟨fun i u hu => by simp at hu, h⟩, fun h => h.2⟩⟩
  | _, _, off, .cons (v' := v') (l' := l2) hv ht => by
    obtain ⟨hl2, h1, h2⟩ := heldOf_ok hb hh (off + 1) ht
    refine ⟨(⟨E.s b, off, none⟩, v') :: hl2, .cons hb hv h1, fun w => ⟨fun h => ?_, fun h => ?_⟩⟩
    · have h3 := (h2 w).1 (fun q hq => h q (List.mem_cons_of_mem _ hq))
      refine ⟨fun i u hu => ?_, h3.2⟩
      cases i with
      | zero => simp at hu; subst hu; exact h _ (List.mem_cons_self ..)
      | succ i =>
        have := h3.1 i u (by simpa using hu)
        rw [show off + (i + 1) = off + 1 + i from by omega]; exact this
    · intro q hq
      rcases List.mem_cons.1 hq with e | e
      · subst e; exact h.1 0 v' rfl
      · exact (h2 w).2 ⟨fun i u hu => by rw [show off + 1 + i = off + (i + 1) from by omega]; exact h.1 (i + 1) u (by simpa using hu), h.2⟩ q e
end
end Go.Proofs.YtcpghlilbohohaaGreatDoor
namespace Go.Proofs.YtcpghlilbohohaaGreatDoor
open Go
set_option linter.unusedVariables false
set_option linter.unusedSimpArgs false
noncomputable section
variable {ds : List Deferred}
theorem planOk_nil {ops : Array Oper} {listed : Array Bool} (h : planOk ops [] listed = true) : Region.ready .any ops listed = [] := by
  change (match Region.ready .any ops listed with
    | [] => true
    | _ => false) = true at h
  split at h
  · assumption
  · cases h
theorem planOk_cons {ops : Array Oper} {i : Nat} {b : Bool} {l : List (Nat × Bool)} {listed : Array Bool} (h : planOk ops ((i, b) :: l) listed = true) : planOk ops l (listed.setIfInBounds i true) = true ∧
    ((b = true ∧ (Region.ready .any ops listed).contains i = true ∧ Region.free .any ops listed i = true) ∨ (b = false ∧ Region.ready .any ops listed = [i])) := by
  change ite' b (ite' ((Region.ready .any ops listed).contains i) (ite' (Region.free .any ops listed i) (planOk ops l (listed.setIfInBounds i true)) false) false)
    (match Region.ready .any ops listed with
      | [j] => ite' (Nat.beq j i) (planOk ops l (listed.setIfInBounds i true)) false
      | _ => false) = true at h
  cases b with
  | true =>
    rw [ite'_true] at h
    obtain ⟨h1, h2⟩ := ite'_true_eq h
    obtain ⟨h3, h4⟩ := ite'_true_eq h2
    exact ⟨h4, .inl ⟨rfl, h1, h3⟩⟩
  | false =>
    rw [ite'_false] at h
    split at h
    · rename_i j hj
      obtain ⟨h1, h2⟩ := ite'_true_eq h
      have := Nat.eq_of_beq_eq_true h1
      subst this
      exact ⟨h2, .inr ⟨rfl, hj⟩⟩
    · cases h
theorem ite'_out {b : Bool} {x : Out} {n : Nat} {e : Ex} {A : AA} {H : Hp} (h : ite' b x (.bad n) = .code e A H) : b = true ∧ x = .code e A H := by
  cases b with
  | true => exact ⟨rfl, h⟩
  | false => cases h
theorem runPlan_cons (T : Cx) (ih : Cmd → Out) (ops : List Oper) (D : Nat → Bool) (id : Nat) (i : Nat) (b : Bool) (l : List (Nat × Bool)) (held : List (Nat × Nat × Value)) (A : AA) (H : Hp) : runPlan T ih ops D id ((i, b) :: l) held A H = (match ops[i]? with
    | some o => planStep T ih id o b (D i) (runPlan T ih ops D id l) held A H (wantedA ops A o)
    | none => .bad 13) := rfl
/-- the invariant of what is held. -/
def Keeps (D : Nat → Bool) (S : World → Prop) (HL : List (Addr × Value)) (listed : Array Bool) (w : World) : Prop := NoD D listed → (∀ w2, SS HL w2 → S w2) ∧ SS HL w
theorem noD_set {D : Nat → Bool} {listed : Array Bool} {i : Nat} (h : NoD D (listed.setIfInBounds i true)) : NoD D listed := fun d hd => by
  have h1 := h d hd
  cases hl : listed.getD d false with
  | false => rfl
  | true => rw [getD_set_true hl] at h1; cases h1
theorem ready_in {ops : Array Oper} {listed : Array Bool} {i : Nat} (hsz : listed.size = ops.size) (hr : i ∈ Region.ready .any ops listed) : (listed.setIfInBounds i true).getD i false = true := by
  obtain ⟨hiun, o, ho, _⟩ := mem_ready.1 hr
  have h1 : i < listed.size := by rw [hsz]; exact (Array.getElem?_eq_some_iff.1 ho).1
  simp [h1]
/-- an operation that is taken first. -/
theorem take_ok {P : Program} {ops : Array Oper} {e : Ex} {A' : AA} {H' H0 : Hp} {E0 : Env} {w0 : World} {S S1 : World → Prop} {D : Nat → Bool} {i fuel : Nat} {o : Oper} {listed : Array Bool} {a : Act} {w : World} {v : Value} (ho : ops[i]? = some o) (hns : Region.noSelect ops = true)
    (hf : Region.free .any ops listed i = true) (hrd : (Region.ready .any ops listed).contains i = true) (hDi : D i = false) (hcl : ClosedL ops listed)
    (hD : (∀ w, S1 w) ∨ ((∀ w, S w → S1 w) ∧ ∀ j, D j = true → (ops[j]?).isSome = true ∧ ∃ n, reachB ops i n j = true)) (hy : YieldsIf P ops S1 o v a) (hS : NoD D listed → S w)
    (h : wpD P ops (Post ds e A' H' E0 H0 w0) D S fuel (listed.setIfInBounds i true) (a.put o.dst v) w) : wpD P ops (Post ds e A' H' E0 H0 w0) D S (fuel + 1) listed a w :=
  wpD_take ho hns (Act.put_panic) hDi hD fuel listed a w hcl (Region.free_spec ho hf) (by simpa using hrd) hy hS h
theorem held_ok {T : Cx} {ops : Array Oper} {D : Nat → Bool} {l : List (Nat × Bool)} {listed : Array Bool} {i : Nat} {o : Oper} (hpa : pureAt T ops i = false) (hd : ∀ k, (k, true) ∈ (i, true) :: l → ∀ j, D j = true → k ≠ j ∧ (ops[j]?).isSome = true ∧ (pureAt T ops k = false → ∃ n, reachB ops k n j = true))
    (hcl : ClosedL ops listed) (hsz : listed.size = ops.size) (hmem : i ∈ Region.ready .any ops listed) (hoi : ops[i]? = some o) : (∀ j, D j = true → (ops[j]?).isSome = true ∧ ∃ n, reachB ops i n j = true) ∧ NoD D listed := by
  have hDr : ∀ j, D j = true → (ops[j]?).isSome = true ∧ ∃ n, reachB ops i n j = true := fun j hj => by
    obtain ⟨_, h2, h3⟩ := hd i (List.mem_cons_self ..) j hj
    exact ⟨h2, h3 hpa⟩
  refine ⟨hDr, fun d hd0 => ?_⟩
  cases hl : listed.getD d false with
  | false => rfl
  | true =>
    obtain ⟨h3, n0, h4⟩ := hDr d hd0
    obtain ⟨o2, ho2⟩ := Option.isSome_iff_exists.1 h3
    have := reach_listed hcl n0 d o2 ho2 (hcl d o2 ho2 hl) h4
    obtain ⟨hiun, _⟩ := mem_ready.1 hmem
    have hil : i < listed.size := by rw [hsz]; exact (Array.getElem?_eq_some_iff.1 hoi).1
    simp [hil] at hiun this
    rw [this] at hiun; cases hiun
theorem runPlan_ok {P : Program} {T : Cx} (hT : Fits P T) {ih : Cmd → Out} (hih : CallsOk P T ih) {ops : Array Oper} (hns : Region.noSelect ops = true) {id : Nat} {A' : AA} {H' H0 : Hp} {e : Ex} {E0 : Env} {w0 : World} {D : Nat → Bool} :
    ∀ (l : List (Nat × Bool)) (listed : Array Bool) (fuel : Nat) (held : List (Nat × Nat × Value)) (HL : List (Addr × Value)) (S : World → Prop) (A : AA) (H : Hp) (E : Env) (a : Act) (w : World), (∀ i, (i, true) ∈ l → ∀ j, D j = true → i ≠ j ∧ (ops[j]?).isSome = true ∧ (pureAt T ops i = false → ∃ n, reachB ops i n j = true)) →
      listed.size = ops.size → ClosedL ops listed → planOk ops l listed = true → l.length ≤ fuel → runPlan T ih ops.toList D id l held A H = .code e A' H' →
      AR ds E H.next A a → HRel E H w → HeldR E H.next held HL → Keeps D S HL listed w → Gd E0 E H0 H w0 w → wpD P ops (Post ds e A' H' E0 H0 w0) D S fuel listed a w
  | [], listed, fuel, held, HL, S, A, H, E, a, w, hd, hsz, hcl, hp, hf, h, ha, hr, hh, hs, g => by
    change Out.code .normal A H = .code e A' H' at h
    cases h
    exact wpD_done (planOk_nil hp) ⟨rfl, E, g, ha, hr⟩ fuel
  | (i, b) :: l, listed, 0, held, HL, S, A, H, E, a, w, hd, hsz, hcl, hp, hf, h, ha, hr, hh, hs, g => by simp at hf
  | (i, b) :: l, listed, fuel + 1, held, HL, S, A, H, E, a, w, hd, hsz, hcl, hp, hf, h, ha, hr, hh, hs, g => by
    obtain ⟨hp1, hcase⟩ := planOk_cons hp
    have hf1 : l.length ≤ fuel := by simp at hf; exact hf
    have hd1 : ∀ i, (i, true) ∈ l → ∀ j, D j = true → i ≠ j ∧ (ops[j]?).isSome = true ∧ (pureAt T ops i = false → ∃ n, reachB ops i n j = true) := fun k hk => hd k (List.mem_cons_of_mem _ hk)
    have hsz1 : (listed.setIfInBounds i true).size = ops.size := by simpa using hsz
    have hmem : i ∈ Region.ready .any ops listed := by
      rcases hcase with ⟨_, hrd, _⟩ | ⟨_, hrd⟩
      · simpa using hrd
      · rw [hrd]; exact List.mem_singleton_self _
    have hcl1 := closed_step hcl hmem
    have hs1 : Keeps D S HL (listed.setIfInBounds i true) w := fun hn => hs (noD_set hn)
    rw [runPlan_cons] at h
    split at h
    · rename_i o ho
      have hoi : ops[i]? = some o := by rw [← Array.getElem?_toList]; exact ho
      have hDi : b = true → D i = false := fun hb => by
        subst hb
        cases hD : D i with
        | false => rfl
        | true => exact absurd rfl (hd i (List.mem_cons_self ..) i hD).1
      unfold planStep at h
      split at h
      · -- wanted
        rename_i hw
        have hwant := wantedA_ok ha hw
        rcases hcase with ⟨rfl, hrd, hfree⟩ | ⟨rfl, hrd⟩
        · rw [ite'_true] at h
          rw [takeStep_def] at h
          cases hpu : isPure o.op with
          | true =>
            rw [hpu, ite'_true] at h
            rw [takePut_def] at h
            split at h
            · rename_i r hop
              obtain ⟨v, H1⟩ := r
              obtain ⟨A1, hput, hrest⟩ := put1_ok h
              obtain ⟨v', e1, hv, hrun⟩ := opD_pure hT hpu A H v H1 hop E a ha
              have e1' : H1 = H := e1
              subst e1'
              exact take_ok (S1 := fun _ => True) hoi hns hfree hrd (hDi rfl) hcl (.inl fun _ => trivial) (.inl ⟨hwant, fun w2 _ => hrun w2⟩) (fun hn => (hs hn).1 _ (hs hn).2)
                (runPlan_ok hT hih hns l _ fuel held HL S A1 H1 E _ w hd1 hsz1 hcl1 hp1 hf1 hrest (ha.put hput hv) hr hh hs1 g)
            · unfold takeMem at h
              split at h
              · rename_i c hc
                obtain ⟨sT, dT, x⟩ := c
                have hop : o.op = .convert sT dT x := by
                  unfold convOf at hc
                  split at hc
                  · cases hc; assumption
                  · cases hc
                simp only at h
                unfold takeConv at h
                split at h
                · rename_i p n c0 hx
                  split at h
                  · rename_i cl hcl2
                    obtain ⟨hb, h⟩ := ite'_out h
                    split at h
                    · rename_i v hv
                      obtain ⟨A1, hput, hrest⟩ := put1_ok h
                      have hpa : pureAt T ops i = false := by
                        unfold pureAt; rw [hoi]
                        show ite' (isPure o.op) (convB T (convOf o.op)) false = false
                        rw [hpu, ite'_true, hc]
                        show Bool.not (b2s T sT dT) = false
                        rw [hb]; rfl
                      obtain ⟨hDr, hNo⟩ := held_ok hpa hd hcl hsz hmem hoi
                      obtain ⟨e0, q1, q2, q3⟩ := b2s_ok hT hb
                      obtain ⟨_, hpb, c', e2, _⟩ := (ev_ok ha hx).sl
                      obtain ⟨hcn, l', r1, hcw⟩ := hr.cells hcl2
                      have hcw2 : ∀ i u, l'[i]? = some u → w.cell? ⟨E.s p.block, p.off + i, none⟩ = some u := fun i u hu => by
                        rw [hcw i (by have := (List.getElem?_eq_some_iff.1 hu).1; rw [← r1.length, hcn] at this; exact this)]; exact hu
                      obtain ⟨HL2, hh2, hiff⟩ := heldOf_ok (E := E) hpb hh p.off r1
                      have hs2 : SS HL2 w := (hiff w).2 ⟨hcw2, (hs hNo).2⟩
                      have hto : ∀ w2, SS HL2 w2 → S w2 := fun w2 hw2 => (hs hNo).1 w2 ((hiff w2).1 hw2).2
                      have hpl := (textOf_run (P := P) (b := E.s p.block) (off := p.off) (c := c') q1 q2 q3 hv r1 hcn (w := w) hcw2).2
                      refine wpD_mono (S' := SS HL2) hto _ _ _ _ ?_
                      refine take_ok (S1 := SS HL2) (v := v) hoi hns hfree hrd (hDi rfl) hcl (.inr ⟨fun _ h => h, hDr⟩) (.inl ⟨hwant, fun w2 hw2 => ?_⟩) (fun _ => hs2)
                        (runPlan_ok hT hih hns l _ fuel _ HL2 (SS HL2) A1 _ E _ w hd1 hsz1 hcl1 hp1 hf1 hrest (ha.put hput (.same hpl)) hr hh2 (fun _ => ⟨fun _ h => h, hs2⟩) g)
                      have := (textOf_run (P := P) (b := E.s p.block) (off := p.off) (c := c') q1 q2 q3 hv r1 hcn (w := w2) ((hiff w2).1 hw2).1).1
                      simp [execOp, hop, e2, this]
                    · cases h
                  · cases h
                · rename_i l0 c0 hx
                  obtain ⟨hb, h⟩ := ite'_out h
                  obtain ⟨A1, hput, hrest⟩ := put1_ok h
                  obtain ⟨e0, q1, q2, q3⟩ := b2s_ok hT hb
                  obtain ⟨_, _, e2⟩ := (ev_ok ha hx).snil
                  refine take_ok (S1 := fun _ => True) (v := .string ByteArray.empty) hoi hns hfree hrd (hDi rfl) hcl (.inl fun _ => trivial) (.inl ⟨hwant, fun w2 _ => ?_⟩) (fun hn => (hs hn).1 _ (hs hn).2)
                    (runPlan_ok hT hih hns l _ fuel held HL S A1 H E _ w hd1 hsz1 hcl1 hp1 hf1 hrest (ha.put hput (.same rfl)) hr hh hs1 g)
                  have := run_convert_bytes_nil (P := P) w2 sT e0 q1 q2 0 0 dT q3
                  simp [execOp, hop, e2, this]
                · cases h
              · cases h
          | false =>
            rw [hpu, ite'_false] at h
            have hpa : pureAt T ops i = false := by
              unfold pureAt; rw [hoi]
              show ite' (isPure o.op) (convB T (convOf o.op)) false = false
              rw [hpu]
            obtain ⟨hDr, hNo⟩ := held_ok hpa hd hcl hsz hmem hoi
            split at h
            · rename_i t x hop
              unfold takeLoad at h
              split at h
              · rename_i p hx
                split at h
                · rename_i n hn
                  split at h
                  · rename_i cl hcl2
                    rw [takePut_def] at h
                    split at h
                    · rename_i r hopd
                      obtain ⟨v, H1⟩ := r
                      obtain ⟨A1, hput, hrest⟩ := put1_ok h
                      rw [hop] at hopd
                      change o_load t x T A H = some (v, H1) at hopd
                      unfold o_load at hopd
                      rw [hx] at hopd
                      simp only at hopd
                      split at hopd
                      · rename_i u hu
                        cases hopd
                        obtain ⟨_, hpb, e2⟩ := (ev_ok ha hx).pptr
                        obtain ⟨l', v', r1, r2, hl', hcw, hrun⟩ := load_held (P := P) hT hr hu hn hcl2
                        obtain ⟨HL2, hh2, hiff⟩ := heldOf_ok (E := E) hpb hh p.off r1
                        have hs2 : SS HL2 w := (hiff w).2 ⟨hcw, (hs hNo).2⟩
                        have hto : ∀ w2, SS HL2 w2 → S w2 := fun w2 hw2 => (hs hNo).1 w2 ((hiff w2).1 hw2).2
                        refine wpD_mono (S' := SS HL2) hto _ _ _ _ ?_
                        refine take_ok (S1 := SS HL2) (v := v') hoi hns hfree hrd (hDi rfl) hcl (.inr ⟨fun _ h => h, hDr⟩) (.inl ⟨hwant, fun w2 hw2 => ?_⟩) (fun _ => hs2)
                          (runPlan_ok hT hih hns l _ fuel _ HL2 (SS HL2) A1 _ E _ w hd1 hsz1 hcl1 hp1 hf1 hrest (ha.put hput r2) hr hh2 (fun _ => ⟨fun _ h => h, hs2⟩) g)
                        have := hrun w2 ((hiff w2).1 hw2).1
                        simp [execOp, hop, e2, Instr.loadAt, Instr.sureAddr, this]
                      · cases hopd
                    · cases h
                  · cases h
                · cases h
              · cases h
            · cases h
        · rw [ite'_false] at h
          refine wpD_one hrd ?_
          unfold wpOp
          simp only [hoi, hwant, if_true]
          refine .inl (doOp_ok hT hih h ha hr (fun E1 A1 H1 a1 w1 hrest g1 ha1 hr1 => ?_))
          simp only at hrest
          cases hk : heldOk H1 held with
          | false =>
            rw [hk, ite'_false] at hrest
            obtain ⟨hDt, hrest⟩ := ite'_out hrest
            have hup : ¬ NoD D (listed.setIfInBounds i true) := fun hn => by
              have h1 := hn i hDt
              rw [ready_in hsz hmem] at h1; cases h1
            exact ⟨fun hn => absurd hn hup, runPlan_ok hT hih hns l _ fuel [] [] S A1 H1 E1 a1 w1 hd1 hsz1 hcl1 hp1 hf1 hrest ha1 hr1 .nil (fun hn => absurd hn hup) (g.trans g1)⟩
          | true =>
            rw [hk, ite'_true] at hrest
            have hh1 := hh.mono g1.ag g1.le
            have hs2 := heldOk_ok hr1 hh1 hk
            exact ⟨fun hn => (hs (noD_set hn)).1 _ hs2, runPlan_ok hT hih hns l _ fuel held HL S A1 H1 E1 a1 w1 hd1 hsz1 hcl1 hp1 hf1 hrest ha1 hr1 hh1 (fun hn => ⟨(hs (noD_set hn)).1, hs2⟩) (g.trans g1)⟩
      · -- not wanted
        rename_i hw
        have hwant := wantedA_ok ha hw
        obtain ⟨A1, hput, hrest⟩ := put1_ok h
        have hnext := runPlan_ok hT hih hns l (listed.setIfInBounds i true) fuel held HL S A1 H E _ w hd1 hsz1 hcl1 hp1 hf1 hrest (ha.put hput VR.undef) hr hh hs1 g
        rcases hcase with ⟨rfl, hrd, hfree⟩ | ⟨rfl, hrd⟩
        · exact take_ok (S1 := fun _ => True) hoi hns hfree hrd (hDi rfl) hcl (.inl fun _ => trivial) (.inr ⟨hwant, rfl⟩) (fun hn => (hs hn).1 _ (hs hn).2) hnext
        · refine wpD_one hrd ?_
          unfold wpOp
          simp only [hoi, hwant]
          exact ⟨fun hn => (hs1 hn).1 _ (hs1 hn).2, hnext⟩
      · cases h
    · cases h
/-- a region that asks for an order. -/
def drawRun (T : Cx) (ih : Cmd → Out) (ops : Array Oper) (id : Nat) (A : AA) (H : Hp) : Out := match planGen ops ops.size (Array.replicate ops.size false) with
  | some l => ite' (ite' (planOk ops l (Array.replicate ops.size false)) (ite' (Region.noSelect ops) (Nat.ble l.length ops.size) false) false) (runPlan T ih ops.toList (dOf T ops l) id l [] A H) (.bad 17)
  | none => .bad (2000 + id)
theorem draw_ok {P : Program} {T : Cx} (hT : Fits P T) (hm : P.follows .mixedOrders = true) {ih : Cmd → Out} (hih : CallsOk P T ih) {ops : Array Oper} {id : Nat} {A A' : AA} {H H' : Hp} {e : Ex} (h : drawRun T ih ops id A H = .code e A' H') {E : Env} {a : Act} {w : World} (ha : AR ds E H.next A a) (hr : HRel E H w) :
    (Code.region id ops true).wp P (Post ds e A' H' E H w) a w := by
  unfold drawRun at h
  split at h
  · rename_i l hl
    obtain ⟨h1, h2⟩ := ite'_out h
    obtain ⟨h3, h4⟩ := ite'_true_eq h1
    obtain ⟨h5, h6⟩ := ite'_true_eq h4
    have hr1 : HRel E H { w with drawn := w.drawn + 1 } := hr.heap rfl
    have g1 : Gd E E H H w { w with drawn := w.drawn + 1 } := ⟨Nat.le_refl _, Agree.refl _ _, fun b x hx => .inl ⟨b, x, hx, fun h => h, rfl⟩, rfl, rfl, rfl, Nat.le_refl _, fun _ _ _ => rfl⟩
    exact wp_region_any hm (wpD_any _ _ _ _ (runPlan_ok hT hih h5 l _ _ [] [] (SS []) A H E a _ (fun i hi j hj => dOf_ok hj hi) (by simp) (closed_start _ _) h3 (Nat.le_of_ble_eq_true h6) h2 ha hr1 .nil (fun _ => ⟨fun _ h => h, fun q hq => by cases hq⟩) g1))
  · cases h
end
end Go.Proofs.YtcpghlilbohohaaGreatDoor
namespace Go.Proofs.YtcpghlilbohohaaGreatDoor
open Go
set_option linter.unusedVariables false
set_option linter.unusedSimpArgs false
noncomputable section
variable {ds : List Deferred}
/-! ### what two outcomes have in common -/
def optM {α : Type} (f : α → α → Option α) (x y : Option α) : Option α := match x with
  | some x => (match y with
    | some y => f x y
    | none => none)
  | none => none
def meetT {α : Type} (f : α → α → Option α) (t : Tr α) : Tr α → Tr α := Tr.rec (motive := fun _ => Tr α → Tr α) (fun _ => .nil) (fun v _ _ il ir t2 => Tr.rec (motive := fun _ => Tr α) .nil (fun v2 l2 r2 _ _ => .node (optM f v v2) (il l2) (ir r2)) t2) t
theorem meetT_get {α : Type} {f : α → α → Option α} : ∀ {t t2 : Tr α} {n : Nat} {z : α}, (meetT f t t2).get n = some z → ∃ x y, t.get n = some x ∧ t2.get n = some y ∧ f x y = some z
  | .nil, t2, n, z, h => by cases h
  | .node v l r, .nil, n, z, h => by cases h
  | .node v l r, .node v2 l2 r2, n, z, h => by
    change (Tr.node (optM f v v2) (meetT f l l2) (meetT f r r2)).get n = some z at h
    rw [Tr.get_node] at h
    rw [Tr.get_node, Tr.get_node]
    by_cases h0 : n = 0
    · rw [if_pos h0] at h ⊢
      rw [if_pos h0]
      unfold optM at h
      split at h
      · split at h
        · exact ⟨_, _, rfl, rfl, h⟩
        · cases h
      · cases h
    · rw [if_neg h0] at h ⊢
      rw [if_neg h0]
      by_cases h1 : n % 2 = 1
      · rw [if_pos h1] at h ⊢
        rw [if_pos h1]
        exact meetT_get h
      · rw [if_neg h1] at h ⊢
        rw [if_neg h1]
        exact meetT_get h
def valM (x y : Value) : Option Value := ite' (valEq x y) (some x) none
theorem valM_ok {x y z : Value} (h : valM x y = some z) : z = x ∧ z = y := by
  obtain ⟨h1, h2⟩ := ite'_some h
  cases h2
  exact ⟨rfl, valEq_eq h1⟩
def esEq (l : List MapEntry) : List MapEntry → Bool := List.rec (motive := fun _ => List MapEntry → Bool) (fun m => List.rec (motive := fun _ => Bool) true (fun _ _ _ => false) m)
  (fun e _ ih m => List.rec (motive := fun _ => Bool) false (fun e2 m2 _ => ite' (valEq e.key e2.key) (ite' (valEq e.val e2.val) (ite' (Nat.beq e.born e2.born) (ih m2) false) false) false) m) l
theorem esEq_ok : ∀ {l m : List MapEntry}, esEq l m = true → l = m
  | [], [], _ => rfl
  | [], _ :: _, h => by cases h
  | _ :: _, [], h => by cases h
  | ⟨k, v, b⟩ :: l, ⟨k2, v2, b2⟩ :: m, h => by
    change ite' (valEq k k2) (ite' (valEq v v2) (ite' (Nat.beq b b2) (esEq l m) false) false) false = true at h
    obtain ⟨h1, h2⟩ := ite'_true_eq h
    obtain ⟨h3, h4⟩ := ite'_true_eq h2
    obtain ⟨h5, h6⟩ := ite'_true_eq h4
    rw [valEq_eq h1, valEq_eq h3, Nat.eq_of_beq_eq_true h5, esEq_ok h6]
def blkM (x y : Blk) : Option Blk := match x with
  | .row c n e o => (match y with
    | .row c2 n2 e2 o2 => ite' (Nat.beq n n2) (ite' (Nat.beq e e2) (ite' (ite' o o2 (Bool.not o2)) (some (.row (meetT valM c c2) n e o)) none) none) none
    | _ => none)
  | .map es cl => (match y with
    | .map es2 cl2 => ite' (esEq es es2) (ite' (Nat.beq cl cl2) (some (.map es cl)) none) none
    | _ => none)
  | .siter s p => (match y with
    | .siter s2 p2 => ite' (bytesEq s.data.toList s2.data.toList) (ite' (Nat.beq p p2) (some (.siter s p)) none) none
    | _ => none)
  | .rom c => (match y with
    | .rom c2 => some (.rom (meetT valM c c2))
    | _ => none)
/-- this block says less. -/
def BLe (z x : Blk) : Prop := wr z = wr x ∧ ∀ (E : Env) (N b : Nat) (o : Option Obj), BR E N b x o → BR E N b z o
theorem blkM_ok {x y z : Blk} (h : blkM x y = some z) : BLe z x ∧ BLe z y := by
  unfold blkM at h
  split at h
  · split at h
    · rename_i c n e o _ c2 n2 e2 o2
      obtain ⟨h1, h2⟩ := ite'_some h
      obtain ⟨h3, h4⟩ := ite'_some h2
      obtain ⟨h5, h6⟩ := ite'_some h4
      cases h6
      have e1 := Nat.eq_of_beq_eq_true h1
      have e2' := Nat.eq_of_beq_eq_true h3
      have e3 : o = o2 := by cases o <;> cases o2 <;> first | rfl | cases h5
      subst e1 e2' e3
      refine ⟨⟨rfl, fun E N b ob hb => ?_⟩, ⟨rfl, fun E N b ob hb => ?_⟩⟩
      · obtain ⟨cs, fz, g1, g2, g3, g4, g5⟩ := hb
        exact ⟨cs, fz, g1, g2, g3, g4, fun i v hi hv => by
          obtain ⟨x, y, q1, q2, q3⟩ := meetT_get hv
          obtain ⟨r1, r2⟩ := valM_ok q3
          exact g5 i v hi (by rw [r1]; exact q1)⟩
      · obtain ⟨cs, fz, g1, g2, g3, g4, g5⟩ := hb
        exact ⟨cs, fz, g1, g2, g3, g4, fun i v hi hv => by
          obtain ⟨x, y, q1, q2, q3⟩ := meetT_get hv
          obtain ⟨r1, r2⟩ := valM_ok q3
          exact g5 i v hi (by rw [r2]; exact q2)⟩
    · cases h
  · split at h
    · obtain ⟨h1, h2⟩ := ite'_some h
      obtain ⟨h3, h4⟩ := ite'_some h2
      cases h4
      have e1 := esEq_ok h1
      have e2 := Nat.eq_of_beq_eq_true h3
      subst e1 e2
      exact ⟨⟨rfl, fun _ _ _ _ h => h⟩, ⟨rfl, fun _ _ _ _ h => h⟩⟩
    · cases h
  · split at h
    · rename_i s p _ s2 p2
      obtain ⟨h1, h2⟩ := ite'_some h
      obtain ⟨h3, h4⟩ := ite'_some h2
      cases h4
      have e2 := Nat.eq_of_beq_eq_true h3
      rw [bytesEq_eq] at h1
      have e1 : s = s2 := ByteArray.ext (Array.toList_inj.1 (eq_of_beq h1))
      subst e1 e2
      exact ⟨⟨rfl, fun _ _ _ _ h => h⟩, ⟨rfl, fun _ _ _ _ h => h⟩⟩
    · cases h
  · split at h
    · cases h
      refine ⟨⟨rfl, fun E N b ob hb => ?_⟩, ⟨rfl, fun E N b ob hb => ?_⟩⟩
      · obtain ⟨cs, e, fz, g1, g5⟩ := hb
        exact ⟨cs, e, fz, g1, fun i v hv => by
          obtain ⟨x, y, q1, q2, q3⟩ := meetT_get hv
          obtain ⟨r1, r2⟩ := valM_ok q3
          exact g5 i v (by rw [r1]; exact q1)⟩
      · obtain ⟨cs, e, fz, g1, g5⟩ := hb
        exact ⟨cs, e, fz, g1, fun i v hv => by
          obtain ⟨x, y, q1, q2, q3⟩ := meetT_get hv
          obtain ⟨r1, r2⟩ := valM_ok q3
          exact g5 i v (by rw [r2]; exact q2)⟩
    · cases h
/-- this heap says less. -/
def HLe (Z H : Hp) : Prop := Z.next = H.next ∧ ∀ b z, Z.b.get b = some z → ∃ x, H.b.get b = some x ∧ BLe z x
theorem HLe.rel {Z H : Hp} (h : HLe Z H) {E : Env} {w : World} (hr : HRel E H w) : HRel E Z w := by
  obtain ⟨hn, hb⟩ := h
  refine ⟨fun b z hz => ?_, fun b z hz => ?_, fun b b' z z' h1 h2 he => ?_⟩
  · obtain ⟨x, g, _⟩ := hb b z hz
    rw [hn]; exact hr.lt b x g
  · obtain ⟨x, g, k⟩ := hb b z hz
    rw [hn]; exact k.2 _ _ _ _ (hr.rel b x g)
  · obtain ⟨x, g, _⟩ := hb b z h1
    obtain ⟨x', g', _⟩ := hb b' z' h2
    exact hr.inj _ _ _ _ g g' he
theorem HLe.gd {Z H1 H : Hp} (h : HLe Z H1) {E E' : Env} {w w' : World} (g : Gd E E' H H1 w w') : Gd E E' H Z w w' := by
  obtain ⟨hn, hb⟩ := h
  refine ⟨by rw [hn]; exact g.le, g.ag, fun b z hz => ?_, g.os, g.tape, g.output, g.size, g.frame⟩
  obtain ⟨x, k, hx⟩ := hb b z hz
  rcases g.dom b x k with ⟨b0, x0, h0, w0, e0⟩ | h0
  · exact .inl ⟨b0, x0, h0, fun hw => w0 (by rw [← hx.1]; exact hw), e0⟩
  · exact .inr h0
def meetA (A B : AA) : AA := ⟨A.g, A.n, A.k, meetT valM A.v B.v, []⟩
def sameA (A B : AA) : Bool := ite' (Nat.beq A.g B.g) (ite' (Nat.beq A.n B.n) (Nat.beq A.k B.k) false) false
theorem meetA_ok {A B : AA} (hs : sameA A B = true) {E : Env} {N : Nat} {a : Act} : (AR ds E N A a → AR ds E N (meetA A B) a) ∧ (AR ds E N B a → AR ds E N (meetA A B) a) := by
  obtain ⟨h1, h2⟩ := ite'_true_eq hs
  obtain ⟨h3, h4⟩ := ite'_true_eq h2
  have e1 := Nat.eq_of_beq_eq_true h1
  have e2 := Nat.eq_of_beq_eq_true h3
  have e3 := Nat.eq_of_beq_eq_true h4
  refine ⟨fun h => ⟨h.df, h.size, h.gl, fun t v hv => ?_⟩, fun h => ⟨h.df, by show _ = A.n; rw [e2]; exact h.size, by show ∀ g, g < A.g → _; rw [e1]; exact h.gl, fun t v hv => ?_⟩⟩
  · change ite' (bit A.k t) ((meetT valM A.v B.v).get t) (recGet [] t) = some v at hv
    cases hb : bit A.k t with
    | false => rw [hb] at hv; cases hv
    | true =>
      rw [hb, ite'_true] at hv
      obtain ⟨x, y, q1, q2, q3⟩ := meetT_get hv
      obtain ⟨r1, r2⟩ := valM_ok q3
      refine h.tm t v ?_
      show ite' (bit A.k t) (A.v.get t) _ = some v
      rw [hb, ite'_true, r1]; exact q1
  · change ite' (bit A.k t) ((meetT valM A.v B.v).get t) (recGet [] t) = some v at hv
    cases hb : bit A.k t with
    | false => rw [hb] at hv; cases hv
    | true =>
      rw [hb, ite'_true] at hv
      obtain ⟨x, y, q1, q2, q3⟩ := meetT_get hv
      obtain ⟨r1, r2⟩ := valM_ok q3
      refine h.tm t v ?_
      show ite' (bit B.k t) (B.v.get t) _ = some v
      rw [← e3, hb, ite'_true, r2]; exact q2
def exEq (e e2 : Ex) : Bool := match e with
  | .normal => (match e2 with
    | .normal => true
    | _ => false)
  | .ret => (match e2 with
    | .ret => true
    | _ => false)
  | .exit i => (match e2 with
    | .exit j => Nat.beq i j
    | _ => false)
theorem exEq_eq {e e2 : Ex} (h : exEq e e2 = true) : e = e2 := by
  cases e <;> cases e2 <;> first | rfl | (cases h; done) | (rw [Nat.eq_of_beq_eq_true h])
def meetOut (r s : Out) : Out := match r with
  | .code e A H => (match s with
    | .code e2 A2 H2 => ite' (exEq e e2) (ite' (sameA A A2) (ite' (Nat.beq H.next H2.next) (.code e (meetA A A2) ⟨meetT blkM H.b H2.b, H.next⟩) (.bad 25)) (.bad 26)) (.bad 27)
    | .bad w => .bad w
    | _ => .bad 28)
  | .bad w => .bad w
  | _ => .bad 28
theorem meetOut_ok {r s : Out} {e : Ex} {A : AA} {H : Hp} (h : meetOut r s = .code e A H) : ∃ A1 H1 A2 H2, r = .code e A1 H1 ∧ s = .code e A2 H2 ∧ HLe H H1 ∧ HLe H H2 ∧ ∀ {ds : List Deferred} {E : Env} {N : Nat} {a : Act}, (AR ds E N A1 a → AR ds E N A a) ∧ (AR ds E N A2 a → AR ds E N A a) := by
  unfold meetOut at h
  split at h
  · rename_i e1 A1 H1
    split at h
    · rename_i e2 A2 H2
      obtain ⟨h1, h2⟩ := ite'_out h
      obtain ⟨h3, h4⟩ := ite'_out h2
      obtain ⟨h5, h6⟩ := ite'_out h4
      cases h6
      have e3 := exEq_eq h1
      subst e3
      refine ⟨A1, H1, A2, H2, rfl, rfl, ⟨rfl, fun b z hz => ?_⟩, ⟨Nat.eq_of_beq_eq_true h5, fun b z hz => ?_⟩, fun {E N a} => meetA_ok h3⟩
      · obtain ⟨x, y, q1, q2, q3⟩ := meetT_get hz
        exact ⟨x, q1, (blkM_ok q3).1⟩
      · obtain ⟨x, y, q1, q2, q3⟩ := meetT_get hz
        exact ⟨y, q2, (blkM_ok q3).2⟩
    · cases h
    · cases h
  · cases h
  · cases h
end
end Go.Proofs.YtcpghlilbohohaaGreatDoor
