import Derived.Test.YtanhkchpffkloaaGreatDoorEk
namespace Go.Proofs.YtanhkchpffkloaaGreatDoor
open Go
set_option linter.unusedVariables false
set_option linter.unusedSimpArgs false
noncomputable section
variable {ds : List Deferred}
def CallsOk (P : Program) (T : Cx) (ih : Cmd → Out) : Prop := ∀ f args H v H', ih (.call f args H) = .call v H' → (∃ fn, P.funcs[f]? = some fn ∧ (fn.name == "runtime.NumGoroutine") = false ∧ fn.body.isNone = false) ∧ ∀ (E : Env) (args' : List Value) (w : World), VL E H.next args args' → HRel E H w → (∀ g, g < T.g → E.s g = g ∧ g < H.next) →
  Calls P f args'.toArray w fun e w' => ∃ E' v', e = .returned v' ∧ Gd E E' H H' w w' ∧ VR E' H'.next v v' ∧ HRel E' H' w'
theorem kdOf_call {o : Op} {f : Operand} {args : List Operand} (h : kdOf o = .call f args) : ∃ tys, o = .call ⟨.value f, args.toArray, tys⟩ := by
  unfold kdOf at h
  split at h
  · rename_i c
    split at h
    · rename_i g hc
      cases h
      obtain ⟨callee, ⟨as⟩, tys⟩ := c
      simp only at hc; subst hc
      exact ⟨tys, rfl⟩
    · cases h
  · cases h
theorem VR.fn {E : Env} {N : Nat} {f : FuncId} {a b : Array Value} {v : Value} (h : VR E N (.func (.func f) a b) v) : ∃ l' m', v = .func (.func f) l'.toArray m'.toArray ∧ VL E N a.toList l' ∧ VL E N b.toList m' := by
  cases h with
  | same h =>
    simp [plainV] at h
    obtain ⟨rfl, rfl⟩ := h
    exact ⟨[], [], rfl, .nil, .nil⟩
  | clo h k => exact ⟨_, _, rfl, h, k⟩
theorem addFirst_vl {E : Env} {N : Nat} {a l' args args' : List Value} (h : VL E N a l') (k : VL E N args args') : VL E N (addFirst a args) (l' ++ args') := by
  cases h with
  | nil => exact k
  | cons h t => exact (VL.cons h t).append k
theorem addCap_vl {E : Env} {N : Nat} {b m' args args' : List Value} (h : VL E N b m') (k : VL E N args args') : VL E N (addCap args b) (args' ++ m') := by
  cases h with
  | nil => rw [List.append_nil]; exact k
  | cons h t => exact k.append (.cons h t)
theorem put1_ok {o : Oper} {A : AA} {v : Value} {H : Hp} {rest : Rest} {e : Ex} {A' : AA} {H' : Hp} (h : put1 o A v H rest = .code e A' H') : ∃ A1, putA A o.dst v = some A1 ∧ rest A1 H = .code e A' H' := by
  rw [put1_def] at h
  split at h
  · exact ⟨_, by assumption, h⟩
  · cases h
/-- what is to be shown behind an operation. -/
def Cont (ds : List Deferred) (E : Env) (H : Hp) (w : World) (rest : Rest) (e : Ex) (A' : AA) (H' : Hp) (K : Act → World → Prop) : Prop :=
  ∀ E1 A1 H1 a1 w1, rest A1 H1 = .code e A' H' → Gd E E1 H H1 w w1 → AR ds E1 H1.next A1 a1 → HRel E1 H1 w1 → K a1 w1
theorem doPlain_ok {P : Program} {T : Cx} (hT : Fits P T) {id : Nat} {o : Oper} {rest : Rest} {A A' : AA} {H H' : Hp} {e : Ex} (h : doPlain T id o rest A H = .code e A' H') {E : Env} {a : Act} {w : World} (ha : AR ds E H.next A a) (hr : HRel E H w)
    {K : Act → World → Prop} {Q : Exit → Act → World → Prop} (hK : Cont ds E H w rest e A' H' K) : o.wp P a w K Q := by
  rw [doPlain_def] at h
  split at h
  · rename_i r hop
    obtain ⟨v, H1⟩ := r
    obtain ⟨A1, hp, hrest⟩ := put1_ok h
    obtain ⟨E1, v', w1, n, h1, h2, h3, h4, h5⟩ := opF_ok hT A H v H1 hop E a w ha hr
    have ha1 := (ha.mono h3.ag h3.le).put hp h4
    unfold Oper.wp
    rw [h1]
    rcases h2 with rfl | ⟨rfl, rfl⟩
    · exact hK E1 A1 H1 _ _ hrest h3 ha1 h5
    · exact hK E1 A1 H1 _ _ hrest h3 ha1 h5
  · cases h
theorem call_run {P : Program} {fid : FuncId} {fn : Func} {args : Array Value} {w : World} (hf : P.funcs[fid]? = some fn) (hn : (fn.name == "runtime.NumGoroutine") = false) (hb : fn.body.isNone = false) :
    (callFunc fid args).run P w = .ok (.enter fid args) w := by
  have hn2 : fn.name ≠ "runtime.NumGoroutine" := by simpa using hn
  have hb2 : fn.body ≠ none := fun e => by rw [e] at hb; cases hb
  simp [callFunc, hf, hn2, hb2]
theorem doCall_ok {P : Program} {T : Cx} {ih : Cmd → Out} (hih : CallsOk P T ih) {o : Oper} {f : Operand} {args : List Operand} (hk : kdOf o.op = .call f args) {rest : Rest} {A A' : AA} {H H' : Hp} {e : Ex}
    (h : doCall T ih o rest A H (ev A f) (evL A args) = .code e A' H') {E : Env} {a : Act} {w : World} (ha : AR ds E H.next A a) (hr : HRel E H w)
    {K : Act → World → Prop} {Q : Exit → Act → World → Prop} (hK : Cont ds E H w rest e A' H' K) : o.wp P a w K Q := by
  unfold doCall at h
  split at h
  · rename_i fid x1 x2 hf
    split at h
    · rename_i vs hvs
      obtain ⟨hg, h⟩ : Nat.beq A.g T.g = true ∧ doCall2 o rest A (ih (.call fid (addCap (addFirst x1.toList vs) x2.toList) H)) = .code e A' H' := by
        cases hb : Nat.beq A.g T.g with
        | true => rw [hb] at h; exact ⟨rfl, h⟩
        | false => rw [hb] at h; cases h
      have hg2 := Nat.eq_of_beq_eq_true hg
      unfold doCall2 at h
      split at h
      · rename_i v H1 hcall
        obtain ⟨A1, hp, hrest⟩ := put1_ok h
        obtain ⟨⟨fn, q1, q2, q3⟩, hc⟩ := hih fid _ H v H1 hcall
        obtain ⟨tys, ho⟩ := kdOf_call hk
        obtain ⟨l', m', e3, r1, r2⟩ := (ev_ok ha hf).fn
        have hvl := addCap_vl r2 (addFirst_vl r1 (evL_ok ha hvs))
        have hC := hc E _ w hvl hr (fun g hgg => ha.gl g (by rw [hg2]; exact hgg))
        unfold Oper.wp
        have hrun : (execOp a.eval o).run P w = .ok (.enter fid ((l' ++ args.map a.eval) ++ m').toArray) w := by
          simp [execOp, ho, resolve, Deferred.ofValue, e3, invoke, call_run q1 q2 q3]
        rw [hrun, Oper.upon_enter]
        refine hC.mono fun en w1 hh => ?_
        obtain ⟨E1, v', rfl, g1, g2, g3⟩ := hh
        exact hK E1 A1 H1 _ _ hrest g1 ((ha.mono g1.ag g1.le).put hp g2) g3
      · cases h
      · cases h
    · cases h
  · cases h
theorem doOp_ok {P : Program} {T : Cx} (hT : Fits P T) {ih : Cmd → Out} (hih : CallsOk P T ih) {id : Nat} {o : Oper} {rest : Rest} {A A' : AA} {H H' : Hp} {e : Ex} (h : doOp T ih id o rest A H = .code e A' H') {E : Env} {a : Act} {w : World} (ha : AR ds E H.next A a) (hr : HRel E H w)
    {K : Act → World → Prop} {Q : Exit → Act → World → Prop} (hK : Cont ds E H w rest e A' H' K) : o.wp P a w K Q := by
  unfold doOp at h
  cases hk : kdOf o.op with
  | call f args => rw [hk] at h; exact doCall_ok hih hk h ha hr hK
  | plain => rw [hk] at h; exact doPlain_ok hT h ha hr hK
/-- what a piece of code comes to. -/
def Post (ds : List Deferred) (e : Ex) (A' : AA) (H' : Hp) (E : Env) (H : Hp) (w : World) : Exit → Act → World → Prop := fun x a' w' => x = e.out ∧ ∃ E', Gd E E' H H' w w' ∧ AR ds E' H'.next A' a' ∧ HRel E' H' w'
theorem Post.trans {e : Ex} {A' : AA} {E E1 : Env} {H H1 H' : Hp} {w w1 : World} (g : Gd E E1 H H1 w w1) {x : Exit} {a' : Act} {w' : World} (h : Post ds e A' H' E1 H1 w1 x a' w') : Post ds e A' H' E H w x a' w' := by
  obtain ⟨h1, E', g2, h3, h4⟩ := h
  exact ⟨h1, E', g.trans g2, h3, h4⟩
theorem runOps_nil (T : Cx) (ih : Cmd → Out) (ops : List Oper) (id : Nat) (A : AA) (H : Hp) : runOps T ih ops id [] A H = .code .normal A H := rfl
theorem runOps_cons (T : Cx) (ih : Cmd → Out) (ops : List Oper) (id : Nat) (o : Oper) (l : List Oper) (A : AA) (H : Hp) : runOps T ih ops id (o :: l) A H = stepOp T ih id o (runOps T ih ops id l) A H (wantedA ops A o) := rfl
theorem runOps_ok {P : Program} {T : Cx} (hT : Fits P T) {ih : Cmd → Out} (hih : CallsOk P T ih) {ops : Array Oper} {id : Nat} {A' : AA} {H' : Hp} {e : Ex} : ∀ (k : Nat) {A : AA} {H : Hp}, runOps T ih ops.toList id (ops.toList.drop k) A H = .code e A' H' → ∀ {E : Env} {a : Act} {w : World}, AR ds E H.next A a → HRel E H w →
    ∀ {Q : Exit → Act → World → Prop}, (∀ E1 a1 w1, e = .normal → Gd E E1 H H' w w1 → AR ds E1 H'.next A' a1 → HRel E1 H' w1 → Q .normal a1 w1) → k ≤ ops.size → wpOps P ops Q (List.range' k (ops.size - k)) a w := by
  intro k
  induction hn : ops.size - k generalizing k with
  | zero =>
    intro A H h E a w ha hr Q hQ hk
    rw [List.drop_eq_nil_of_le (by simp; omega), runOps_nil] at h
    cases h
    exact hQ E a w rfl (Gd.refl _ _ _) ha hr
  | succ n ihn =>
    intro A H h E a w ha hr Q hQ hk
    have hlt : k < ops.size := by omega
    rw [List.drop_eq_getElem_cons (by simpa using hlt), runOps_cons] at h
    simp only [Array.getElem_toList] at h
    rw [List.range'_succ]
    unfold wpOps
    rw [Array.getElem?_eq_getElem hlt]
    simp only
    cases hw : wantedA ops.toList A ops[k] with
    | none => rw [hw] at h; cases h
    | some b =>
      rw [hw] at h
      have hwant := wantedA_ok ha hw
      have next : ∀ E1 A1 H1 a1 w1, runOps T ih ops.toList id (ops.toList.drop (k + 1)) A1 H1 = .code e A' H' → Gd E E1 H H1 w w1 → AR ds E1 H1.next A1 a1 → HRel E1 H1 w1 → wpOps P ops Q (List.range' (k + 1) n) a1 w1 := fun E1 A1 H1 a1 w1 hh g ha1 hr1 =>
        ihn (k + 1) (by omega) hh ha1 hr1 (fun E2 a2 w2 he g2 ha2 hr2 => hQ E2 a2 w2 he (g.trans g2) ha2 hr2) (by omega)
      cases b with
      | true =>
        rw [hwant, if_pos rfl]
        exact .inl (doOp_ok hT hih h ha hr next)
      | false =>
        rw [hwant, if_neg (by simp)]
        obtain ⟨A1, hp, hrest⟩ := put1_ok h
        exact next E A1 H _ _ hrest (Gd.refl _ _ _) (ha.put hp VR.undef) hr
theorem region_ops {P : Program} {T : Cx} (hT : Fits P T) {ih : Cmd → Out} (hih : CallsOk P T ih) {ops : Array Oper} {id : Nat} {A A' : AA} {H H' : Hp} {e : Ex} (h : runOps T ih ops.toList id ops.toList A H = .code e A' H') {E : Env} {a : Act} {w : World} (ha : AR ds E H.next A a) (hr : HRel E H w) :
    e = .normal ∧ wpOps P ops (Post ds e A' H' E H w) (List.range ops.size) a w := by
  have he : ∀ (l : List Oper) (A : AA) (H : Hp), runOps T ih ops.toList id l A H = .code e A' H' → e = .normal := by
    intro l
    induction l with
    | nil => intro A H h; rw [runOps_nil] at h; cases h; rfl
    | cons o l ihl =>
      intro A H h
      rw [runOps_cons] at h
      rw [stepOp_def] at h
      split at h
      · unfold doOp at h
        cases hk : kdOf o.op with
        | call f args =>
          rw [hk] at h
          change doCall T ih o (runOps T ih ops.toList id l) A H (ev A f) (evL A args) = .code e A' H' at h
          unfold doCall at h
          split at h
          · split at h
            · cases hb : Nat.beq A.g T.g with
              | false => rw [hb] at h; cases h
              | true =>
                rw [hb, ite'_true] at h
                unfold doCall2 at h
                split at h
                · obtain ⟨A1, _, h1⟩ := put1_ok h; exact ihl _ _ h1
                · cases h
                · cases h
            · cases h
          · cases h
        | plain =>
          rw [hk] at h
          change doPlain T id o (runOps T ih ops.toList id l) A H = .code e A' H' at h
          rw [doPlain_def] at h
          split at h
          · obtain ⟨A1, _, h1⟩ := put1_ok h; exact ihl _ _ h1
          · cases h
      · obtain ⟨A1, _, h1⟩ := put1_ok h; exact ihl _ _ h1
      · cases h
  have hen := he _ _ _ h
  subst hen
  refine ⟨rfl, ?_⟩
  have := runOps_ok hT hih (ops := ops) (id := id) 0 (by simpa using h) ha hr (Q := Post ds .normal A' H' E H w) (fun E1 a1 w1 _ g ha1 hr1 => ⟨rfl, E1, g, ha1, hr1⟩) (Nat.zero_le _)
  rw [Nat.sub_zero, ← List.range_eq_range'] at this
  exact this
end
end Go.Proofs.YtanhkchpffkloaaGreatDoor
