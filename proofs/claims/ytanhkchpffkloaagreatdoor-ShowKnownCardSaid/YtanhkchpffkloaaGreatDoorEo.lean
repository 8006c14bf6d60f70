import Derived.Test.YtanhkchpffkloaaGreatDoorEnf
import Derived.Test.YtanhkchpffkloaaGreatDoorEri
import Derived.Below
namespace Go.Proofs.YtanhkchpffkloaaGreatDoor
open Go Go.RowKit
set_option linter.unusedVariables false
set_option linter.unusedSimpArgs false
noncomputable section
variable {ds : List Deferred}
def plainSeq (ih : Cmd → Out) (a b : Code) (A : AA) (H : Hp) : Out := thenCode ih b (ih (.code a A H))
/-- two pieces of code; the first may be a region with two orders whose outcomes differ. -/
def seqCode (T : Cx) (ih : Cmd → Out) (a b : Code) (A : AA) (H : Hp) : Out := match a with
  | .region id ops d => ite' d (ite' (forkOk ops) (forkSeq T ih id ops.toList ops.toList b A.fresh H) (plainSeq ih (.region id ops d) b A H)) (plainSeq ih (.region id ops d) b A H)
  | a => plainSeq ih a b A H
theorem seqCode_ok {T : Cx} {ih : Cmd → Out} {a b : Code} {A A' : AA} {H H' : Hp} {e : Ex} (h : seqCode T ih a b A H = .code e A' H') : thenCode ih b (ih (.code a A H)) = .code e A' H' ∨ ∃ id ops, a = .region id ops true ∧ forkOk ops = true ∧ forkSeq T ih id ops.toList ops.toList b A.fresh H = .code e A' H' := by
  unfold seqCode at h
  split at h
  · rename_i id ops d
    cases d with
    | false => exact .inl h
    | true =>
      rw [ite'_true] at h
      cases hf : forkOk ops with
      | false => rw [hf, ite'_false] at h; exact .inl h
      | true => rw [hf, ite'_true] at h; exact .inr ⟨id, ops, rfl, hf, h⟩
  · exact .inl h
def codeD (c : Code) : CodeF := match c with
  | .skip => fun _ _ A H => .code .normal A H
  | .ret => fun _ _ A H => .code .ret A H
  | .exit id => fun _ _ A H => .code (.exit id) A H
  | .seq a b => fun T ih A H => seqCode T ih a b A H
  | .cond x a b => fun _ ih A H => condCode ih a b A H (ev A x)
  | .block id b => fun _ ih A H => blockCode id (ih (.code b A H))
  | .loop b => fun _ ih A H => thenCode ih (.loop b) (ih (.code b A H))
  | .region id ops d => fun T ih A H => ite' d (drawZ T ih ops id A.fresh H) (runOps T ih ops.toList id ops.toList A.fresh H)
  | .rangeFunc g ps asg bd => fun T ih A H => rangeD T ih ps.toList asg bd A H (ev A g)
  | _ => fun _ _ _ _ => .bad 4
def callStep (T : Cx) (ih : Cmd → Out) (f : FuncId) (args : List Value) (H : Hp) (fn : Option Func) : Out := match fn with
  | some fn => enterCall T ih f fn args H
  | none => .bad 8
/-! ### calls that are known -/
def valsEq (l : List Value) : List Value → Bool := List.rec (motive := fun _ => List Value → Bool) (fun m => List.rec (motive := fun _ => Bool) true (fun _ _ _ => false) m) (fun v _ ih m => List.rec (motive := fun _ => Bool) false (fun u m2 _ => ite' (valEq v u) (ih m2) false) m) l
theorem valsEq_eq : ∀ {l m : List Value}, valsEq l m = true → l = m
  | [], [], _ => rfl
  | [], _ :: _, h => by cases h
  | _ :: _, [], h => by cases h
  | v :: l, u :: m, h => by
    change ite' (valEq v u) (valsEq l m) false = true at h
    obtain ⟨h1, h2⟩ := ite'_true_eq h
    rw [valEq_eq h1, valsEq_eq h2]
def orcFind (l : List (List Value × Value)) (args : List Value) : Option Value := List.rec (motive := fun _ => Option Value) none (fun p _ ih => ite' (valsEq p.1 args) (some p.2) ih) l
theorem orcFind_mem : ∀ {l : List (List Value × Value)} {args : List Value} {v : Value}, orcFind l args = some v → (args, v) ∈ l
  | [], _, _, h => by cases h
  | p :: l, args, v, h => by
    change ite' (valsEq p.1 args) (some p.2) (orcFind l args) = some v at h
    cases hb : valsEq p.1 args with
    | true =>
      rw [hb] at h; cases h
      rw [← valsEq_eq hb]; exact List.mem_cons_self ..
    | false => rw [hb] at h; exact List.mem_cons_of_mem _ (orcFind_mem h)
theorem plain_eq {E : Env} {N : Nat} {v v' : Value} (hp : plainV v = true) (h : VR E N v v') : v' = v := by
  cases h with
  | same _ => rfl
  | ptr _ => cases hp
  | slice _ _ => cases hp
  | open_ _ _ _ _ => cases hp
  | map _ => cases hp
  | agg _ => cases hp
  | tuple _ => cases hp
  | iface _ => cases hp
  | tail => cases hp
  | @clo f l l' m m' h k =>
    simp [plainV] at hp
    obtain ⟨rfl, rfl⟩ := hp
    cases h; cases k; rfl
theorem plainL_eq {E : Env} {N : Nat} : ∀ {l l' : List Value}, plainL l = true → VL E N l l' → l' = l
  | [], _, _, .nil => rfl
  | v :: l, _, h, .cons (v' := v') (l' := l') hv ht => by
    change ite' (plainV v) (plainL l) false = true at h
    obtain ⟨h1, h2⟩ := ite'_true_eq h
    rw [plain_eq h1 hv, plainL_eq h2 ht]
/-- a result: plain, or several plain ones. -/
def resOk (v : Value) : Bool := match v with
  | .tuple vs => plainL vs.toList
  | v => plainV v
theorem resOk_vr {E : Env} {N : Nat} {v : Value} (h : resOk v = true) : VR E N v v := by
  unfold resOk at h
  split at h
  · rename_i vs
    have := VR.tuple (plainL_ok (E := E) (N := N) h)
    simpa using this
  · exact .same h
theorem resOk_eq {E : Env} {N : Nat} {v v' : Value} (h : resOk v = true) (hv : VR E N v v') : v' = v := by
  unfold resOk at h
  split at h
  · rename_i vs
    obtain ⟨l', e, r⟩ := hv.tup
    rw [e, plainL_eq h r]
  · exact plain_eq h hv
/-! ### package-level tables that are only read -/
def romT (tabs : List (Nat × List Value)) : Tr Blk := List.rec (motive := fun _ => Tr Blk) .nil (fun p _ ih => ih.put p.1 (some (.rom (Tr.lay p.2 0 .nil)))) tabs
theorem romT_get : ∀ {tabs : List (Nat × List Value)} {b : Nat} {x : Blk}, (romT tabs).get b = some x → ∃ l, (b, l) ∈ tabs ∧ x = .rom (Tr.lay l 0 .nil)
  | [], b, x, h => by cases h
  | p :: tabs, b, x, h => by
    change ((romT tabs).put p.1 (some (.rom (Tr.lay p.2 0 .nil)))).get b = some x at h
    rw [Tr.get_put] at h
    split at h
    · rename_i e; subst e; cases h
      exact ⟨p.2, List.mem_cons_self .., rfl⟩
    · obtain ⟨l, h1, h2⟩ := romT_get h
      exact ⟨l, List.mem_cons_of_mem _ h1, h2⟩
/-- what is known of a call: whatever lies in memory, as long as the tables do. -/
structure OrcOk (P : Program) (g : Nat) (tabs : List (Nat × List Value)) (f : FuncId) (args : List Value) (v : Value) : Prop where
  fn : ∃ fn, P.funcs[f]? = some fn ∧ (fn.name == "runtime.NumGoroutine") = false ∧ fn.body.isNone = false
  pa : plainL args = true
  pr : resOk v = true
  call : ∀ E w, HRel E ⟨romT tabs, g⟩ w → (∀ b, b < g → E.s b = b) → Calls P f args.toArray w fun e w' => e = .returned v ∧ Below w.heap.size w w'
def OrOk (P : Program) (T : Cx) : Prop := ∀ f l, T.orc.get f = some l → ∀ args v, (args, v) ∈ l → OrcOk P T.g T.tabs f args v
def romLe (c : Tr Value) (l : List Value) : Nat → Bool := List.rec (motive := fun _ => Nat → Bool) (fun _ => true) (fun v _ ih i => match c.get i with
  | some u => ite' (valEq v u) (ih (Nat.succ i)) false
  | none => false) l
def romsOk (H : Hp) (tabs : List (Nat × List Value)) : Bool := List.rec (motive := fun _ => Bool) true (fun p _ ih => match H.b.get p.1 with
  | some (.rom c) => ite' (romLe c p.2 0) ih false
  | _ => false) tabs
theorem romLe_ok {c : Tr Value} : ∀ {l : List Value} {i : Nat}, romLe c l i = true → ∀ j v, l[j]? = some v → c.get (i + j) = some v
  | [], _, _, j, v, hj => by simp at hj
  | u :: l, i, h, j, v, hj => by
    change (match c.get i with
      | some x => ite' (valEq u x) (romLe c l (i + 1)) false
      | none => false) = true at h
    split at h
    · rename_i x hx
      obtain ⟨h1, h2⟩ := ite'_true_eq h
      cases j with
      | zero => simp at hj; subst hj; rw [Nat.add_zero, hx, valEq_eq h1]
      | succ j =>
        have := romLe_ok h2 j v (by simpa using hj)
        rw [← this]; congr 1; omega
    · cases h
theorem romsOk_ok {H : Hp} : ∀ {tabs : List (Nat × List Value)}, romsOk H tabs = true → ∀ p ∈ tabs, ∃ c, H.b.get p.1 = some (.rom c) ∧ ∀ j v, p.2[j]? = some v → c.get j = some v
  | [], _, p, hp => by cases hp
  | q :: tabs, h, p, hp => by
    change (match H.b.get q.1 with
      | some (.rom c) => ite' (romLe c q.2 0) (romsOk H tabs) false
      | _ => false) = true at h
    split at h
    · rename_i c hc
      obtain ⟨h1, h2⟩ := ite'_true_eq h
      rcases List.mem_cons.1 hp with e | e
      · subst e; exact ⟨c, hc, fun j v hj => by have := romLe_ok h1 j v hj; rwa [Nat.zero_add] at this⟩
      · exact romsOk_ok h2 p e
    · cases h
theorem roms_rel {E : Env} {H : Hp} {w : World} (hr : HRel E H w) {g : Nat} {tabs : List (Nat × List Value)} (ht : ∀ p ∈ tabs, p.1 < g ∧ plainL p.2 = true) (h : romsOk H tabs = true) : HRel E ⟨romT tabs, g⟩ w := by
  refine ⟨fun b x hx => ?_, fun b x hx => ?_, fun b b' x x' h1 h2 he => ?_⟩
  · obtain ⟨l, h1, _⟩ := romT_get hx
    exact (ht _ h1).1
  · obtain ⟨l, h1, h2⟩ := romT_get hx
    subst h2
    obtain ⟨c, hc, hcv⟩ := romsOk_ok h _ h1
    obtain ⟨cs, e, fz, q1, q2⟩ := hr.rel _ _ hc
    refine ⟨cs, e, fz, q1, fun i v hv => ?_⟩
    rw [Tr.get_lay] at hv
    split at hv
    · have hv2 : l[i]? = some v := by simpa using hv
      obtain ⟨v', e1, r⟩ := q2 i v (hcv i v hv2)
      have hp : plainV v = true := by
        have hall : ∀ (l : List Value), plainL l = true → ∀ v ∈ l, plainV v = true := by
          intro l
          induction l with
          | nil => intro _ v hv; cases hv
          | cons u l ih =>
            intro h v hv
            obtain ⟨h1, h2⟩ := ite'_true_eq (show ite' (plainV u) (plainL l) false = true from h)
            rcases List.mem_cons.1 hv with e | e
            · subst e; exact h1
            · exact ih h2 v e
        exact hall l (ht _ h1).2 v (List.mem_of_getElem? hv2)
      rw [plain_eq hp r] at e1
      exact ⟨v, e1, .same hp⟩
    · cases hv
  · obtain ⟨l, q1, _⟩ := romT_get h1
    obtain ⟨l', q1', _⟩ := romT_get h2
    obtain ⟨c, hc, _⟩ := romsOk_ok h _ q1
    obtain ⟨c', hc', _⟩ := romsOk_ok h _ q1'
    exact hr.inj _ _ _ _ hc hc' he
def orcCall (T : Cx) (ih : Cmd → Out) (f : FuncId) (args : List Value) (H : Hp) (v : Option Value) : Out := Option.rec (motive := fun _ => Out) (callStep T ih f args H (T.fn.get f)) (fun v => ite' (romsOk H T.tabs) (.call v H) (.bad 40)) v
def orcStep (T : Cx) (ih : Cmd → Out) (f : FuncId) (args : List Value) (H : Hp) (l : Option (List (List Value × Value))) : Out := Option.rec (motive := fun _ => Out) (callStep T ih f args H (T.fn.get f)) (fun l => orcCall T ih f args H (orcFind l args)) l
/-! ### answers that hold memory -/
def VRow.blk (r : VRow) : Blk := .row (Tr.lay r.l 0 .nil) r.l.length r.e r.o
def refs1 (lo : Nat) (v : Value) : Bool := match v with
  | .pointer (some p) => Nat.ble lo p.block
  | .slice (some p) _ _ => Nat.ble lo p.block
  | .map (some r) => Nat.ble lo r
  | v => plainV v
def refs1L (lo : Nat) (l : List Value) : Bool := List.rec (motive := fun _ => Bool) true (fun v _ ih => ite' (refs1 lo v) ih false) l
def refs2 (lo : Nat) (v : Value) : Bool := match v with
  | .agg cs => refs1L lo cs.toList
  | v => refs1 lo v
def refs2L (lo : Nat) (l : List Value) : Bool := List.rec (motive := fun _ => Bool) true (fun v _ ih => ite' (refs2 lo v) ih false) l
def refsB (lo : Nat) (v : Value) : Bool := match v with
  | .tuple vs => refs2L lo vs.toList
  | v => refs2 lo v
section
variable {E E' : Env} {N N' lo : Nat} (hE : ∀ b, lo ≤ b → E'.s b = E.s b ∧ E'.k b = E.k b) (hN : N ≤ N')
include hE hN
theorem refs1_re {v v' : Value} (h : VR E N v v') (hr : refs1 lo v = true) : VR E' N' v v' := by
  cases h with
  | same h => exact .same h
  | ptr h => rw [← (hE _ (Nat.le_of_ble_eq_true hr)).1]; exact .ptr (Nat.lt_of_lt_of_le h hN)
  | slice h hc => rw [← (hE _ (Nat.le_of_ble_eq_true hr)).1]; exact .slice (Nat.lt_of_lt_of_le h hN) hc
  | open_ h hc hl hk => rw [← (hE _ (Nat.le_of_ble_eq_true hr)).1]; exact .open_ (Nat.lt_of_lt_of_le h hN) hc hl (hk.trans (hE _ (Nat.le_of_ble_eq_true hr)).2.symm)
  | map h => rw [← (hE _ (Nat.le_of_ble_eq_true hr)).1]; exact .map (Nat.lt_of_lt_of_le h hN)
  | agg _ => cases hr
  | tuple _ => cases hr
  | iface _ => cases hr
  | tail => cases hr
  | @clo f l l' m m' h k =>
    have hp : plainV (.func (.func f) l.toArray m.toArray) = true := hr
    have e := plain_eq (E := E) (N := N) hp (.clo h k)
    rw [e]; exact .same hp
theorem refs1L_re : ∀ {l l' : List Value}, VL E N l l' → refs1L lo l = true → VL E' N' l l'
  | _, _, .nil, _ => .nil
  | _, _, .cons (v := v) (l := l) h t, hr => by
    obtain ⟨h1, h2⟩ := ite'_true_eq (show ite' (refs1 lo v) (refs1L lo l) false = true from hr)
    exact .cons (refs1_re hE hN h h1) (refs1L_re t h2)
theorem refs2_re {v v' : Value} (h : VR E N v v') (hr : refs2 lo v = true) : VR E' N' v v' := by
  unfold refs2 at hr
  split at hr
  · rename_i cs
    obtain ⟨l', e, r⟩ := h.ag
    rw [e]
    have := VR.agg (refs1L_re hE hN r hr)
    simpa using this
  · exact refs1_re hE hN h hr
theorem refs2L_re : ∀ {l l' : List Value}, VL E N l l' → refs2L lo l = true → VL E' N' l l'
  | _, _, .nil, _ => .nil
  | _, _, .cons (v := v) (l := l) h t, hr => by
    obtain ⟨h1, h2⟩ := ite'_true_eq (show ite' (refs2 lo v) (refs2L lo l) false = true from hr)
    exact .cons (refs2_re hE hN h h1) (refs2L_re t h2)
theorem refsB_re {v v' : Value} (h : VR E N v v') (hr : refsB lo v = true) : VR E' N' v v' := by
  unfold refsB at hr
  split at hr
  · rename_i vs
    obtain ⟨l', e, r⟩ := h.tup
    rw [e]
    have := VR.tuple (refs2L_re hE hN r hr)
    simpa using this
  · exact refs2_re hE hN h hr
end
theorem refs1L_mem {lo : Nat} : ∀ {l : List Value}, refs1L lo l = true → ∀ v ∈ l, refs1 lo v = true
  | [], _, v, hv => by cases hv
  | u :: l, h, v, hv => by
    obtain ⟨h1, h2⟩ := ite'_true_eq (show ite' (refs1 lo u) (refs1L lo l) false = true from h)
    rcases List.mem_cons.1 hv with e | e
    · subst e; exact h1
    · exact refs1L_mem h2 v e
structure VOk (P : Program) (g : Nat) (tabs : List (Nat × List Value)) (f : FuncId) (q : VO) : Prop where
  fn : ∃ fn, P.funcs[f]? = some fn ∧ (fn.name == "runtime.NumGoroutine") = false ∧ fn.body.isNone = false
  pa : plainL q.args = true
  le : q.lo ≤ q.hi
  rv : refsB q.lo q.v = true
  rb : ∀ r ∈ q.bs, q.lo ≤ r.b ∧ r.b < q.hi ∧ refs1L q.lo r.l = true
  call : ∀ E w, HRel E ⟨romT tabs, g⟩ w → (∀ b, b < g → E.s b = b) → Calls P f q.args.toArray w fun e w' => ∃ Ev v', e = .returned v' ∧ VR Ev q.hi q.v v' ∧ Below w.heap.size w w' ∧ (∀ r ∈ q.bs, BR Ev q.hi r.b r.blk w'.heap[Ev.s r.b]? ∧ w.heap.size ≤ Ev.s r.b) ∧ (∀ r ∈ q.bs, ∀ r' ∈ q.bs, Ev.s r.b = Ev.s r'.b → r.b = r'.b)
def OvOk (P : Program) (T : Cx) : Prop := ∀ f l, T.orv.get f = some l → ∀ q ∈ l, VOk P T.g T.tabs f q
def putRows (bs : List VRow) (t : Tr Blk) : Tr Blk := List.rec (motive := fun _ => Tr Blk) t (fun r _ ih => ih.put r.b (some r.blk)) bs
theorem putRows_get {t : Tr Blk} {b : Nat} {x : Blk} : ∀ {bs : List VRow}, (putRows bs t).get b = some x → (∃ r ∈ bs, r.b = b ∧ x = r.blk) ∨ t.get b = some x
  | [], h => .inr h
  | r :: bs, h => by
    change ((putRows bs t).put r.b (some r.blk)).get b = some x at h
    rw [Tr.get_put] at h
    split at h
    · rename_i e; cases h
      exact .inl ⟨r, List.mem_cons_self .., e.symm, rfl⟩
    · rcases putRows_get h with ⟨r', h1, h2⟩ | h1
      · exact .inl ⟨r', List.mem_cons_of_mem _ h1, h2⟩
      · exact .inr h1
def orvFind (l : List VO) (args : List Value) : Option VO := List.rec (motive := fun _ => Option VO) none (fun p _ ih => ite' (valsEq p.args args) (some p) ih) l
theorem orvFind_mem : ∀ {l : List VO} {args : List Value} {q : VO}, orvFind l args = some q → q ∈ l ∧ q.args = args
  | [], _, _, h => by cases h
  | p :: l, args, q, h => by
    change ite' (valsEq p.args args) (some p) (orvFind l args) = some q at h
    cases hb : valsEq p.args args with
    | true =>
      rw [hb] at h; cases h
      exact ⟨List.mem_cons_self .., valsEq_eq hb⟩
    | false =>
      rw [hb] at h
      obtain ⟨h1, h2⟩ := orvFind_mem h
      exact ⟨List.mem_cons_of_mem _ h1, h2⟩
def orvCall (T : Cx) (ih : Cmd → Out) (f : FuncId) (args : List Value) (H : Hp) (q : Option VO) : Out := Option.rec (motive := fun _ => Out) (orcStep T ih f args H (T.orc.get f)) (fun q => ite' (romsOk H T.tabs) (ite' (Nat.ble H.next q.lo) (.call q.v ⟨putRows q.bs H.b, q.hi⟩) (.bad 41)) (.bad 42)) q
def orvStep (T : Cx) (ih : Cmd → Out) (f : FuncId) (args : List Value) (H : Hp) (l : Option (List VO)) : Out := Option.rec (motive := fun _ => Out) (orcStep T ih f args H (T.orc.get f)) (fun l => orvCall T ih f args H (orvFind l args)) l
/-- the answer is put into memory. -/
theorem VOk.use {P : Program} {g : Nat} {tabs : List (Nat × List Value)} {f : FuncId} {q : VO} (h : VOk P g tabs f q) {E : Env} {H : Hp} {w : World} (hr : HRel E H w) (ht : ∀ p ∈ tabs, p.1 < g ∧ plainL p.2 = true) (hrom : romsOk H tabs = true) (hg : ∀ b, b < g → E.s b = b) (hle : H.next ≤ q.lo) :
    Calls P f q.args.toArray w fun e w' => ∃ E' v', e = .returned v' ∧ Gd E E' H ⟨putRows q.bs H.b, q.hi⟩ w w' ∧ VR E' q.hi q.v v' ∧ HRel E' ⟨putRows q.bs H.b, q.hi⟩ w' := by
  refine (h.call E w (roms_rel hr ht hrom) hg).mono fun e w' hh => ?_
  obtain ⟨Ev, v', he, hv, hb, hrow, hinj⟩ := hh
  have hnam : ∀ b x, H.b.get b = some x → E.s b < w.heap.size := fun b x hbx => by
    have := hr.rel b x hbx
    unfold BR at this
    split at this
    · obtain ⟨cs, fz, h1, _⟩ := this; exact (Array.getElem?_eq_some_iff.1 h1).1
    · obtain ⟨es', h1, _⟩ := this; exact (Array.getElem?_eq_some_iff.1 h1).1
    · exact (Array.getElem?_eq_some_iff.1 this).1
    · obtain ⟨cs, e, fz, h1, _⟩ := this; exact (Array.getElem?_eq_some_iff.1 h1).1
  obtain ⟨E2, hE2⟩ : ∃ E2 : Env, E2 = ⟨fun b => if q.lo ≤ b then Ev.s b else E.s b, fun b => if q.lo ≤ b then Ev.k b else E.k b⟩ := ⟨_, rfl⟩
  have hhi : ∀ b, q.lo ≤ b → E2.s b = Ev.s b ∧ E2.k b = Ev.k b := fun b hb => by rw [hE2]; simp [hb]
  have hlo : ∀ b, b < q.lo → E2.s b = E.s b ∧ E2.k b = E.k b := fun b hb => by
    have : ¬ q.lo ≤ b := by omega
    rw [hE2]; simp [this]
  have hag : Agree E E2 H.next := fun b hb => hlo b (by omega)
  have hnew : ∀ r ∈ q.bs, BR E2 q.hi r.b r.blk w'.heap[E2.s r.b]? := fun r hm => by
    obtain ⟨h1, h2, h3⟩ := h.rb r hm
    rw [(hhi _ h1).1]
    obtain ⟨cs, fz, g1, g2, g3, g4, g5⟩ := (hrow r hm).1
    refine ⟨cs, fz, g1, g2, g3, by rw [(hhi _ h1).2]; exact g4, fun i v hi hv => ?_⟩
    obtain ⟨u, e1, r1⟩ := g5 i v hi hv
    refine ⟨u, e1, refs1_re hhi (Nat.le_refl _) r1 ?_⟩
    rw [Tr.get_lay] at hv
    split at hv
    · exact refs1L_mem h3 v (List.mem_of_getElem? hv)
    · cases hv
  refine ⟨E2, v', he, ⟨by show H.next ≤ q.hi; have := h.le; omega, hag, fun b x hx => ?_, hb.os, hb.tape, hb.output, hb.size, fun i hi _ => hb.block i hi⟩, refsB_re hhi (Nat.le_refl _) hv h.rv, ⟨fun b x hx => ?_, fun b x hx => ?_, fun b b' x x' h1 h2 he => ?_⟩⟩
  · rcases putRows_get hx with ⟨r, hm, e1, e2⟩ | h1
    · refine .inr ?_
      rw [← e1, (hhi _ (h.rb r hm).1).1]
      exact (hrow r hm).2
    · exact .inl ⟨b, x, h1, fun h => h, (hlo b (by have := hr.lt _ _ h1; omega)).1⟩
  · show b < q.hi
    rcases putRows_get hx with ⟨r, hm, e1, e2⟩ | h1
    · rw [← e1]; exact (h.rb r hm).2.1
    · have := hr.lt _ _ h1
      have := h.le
      omega
  · rcases putRows_get hx with ⟨r, hm, e1, e2⟩ | h1
    · subst e1 e2; exact hnew r hm
    · rw [(hag b (hr.lt _ _ h1)).1, hb.block _ (hnam b x h1)]
      exact (hr.rel _ _ h1).mono hag (by show H.next ≤ q.hi; have := h.le; omega) (hr.lt _ _ h1)
  · have hbig : ∀ r ∈ q.bs, w.heap.size ≤ E2.s r.b := fun r hm => by rw [(hhi _ (h.rb r hm).1).1]; exact (hrow r hm).2
    rcases putRows_get h1 with ⟨r, hm, e1, _⟩ | k1 <;> rcases putRows_get h2 with ⟨r', hm', e1', _⟩ | k2
    · subst e1 e1'
      rw [(hhi _ (h.rb r hm).1).1, (hhi _ (h.rb r' hm').1).1] at he
      exact hinj r hm r' hm' he
    · subst e1
      have := hbig r hm
      have h3 := hnam _ _ k2
      rw [(hag _ (hr.lt _ _ k2)).1] at he
      omega
    · subst e1'
      have := hbig r' hm'
      have h3 := hnam _ _ k1
      rw [(hag _ (hr.lt _ _ k1)).1] at he
      omega
    · rw [(hag _ (hr.lt _ _ k1)).1, (hag _ (hr.lt _ _ k2)).1] at he
      exact hr.inj _ _ _ _ k1 k2 he
def stepA (T : Cx) (ih : Cmd → Out) (c : Cmd) : Out := match c with
  | .code c A H => codeD c T ih A H
  | .call f args H => orvStep T ih f args H (T.orv.get f)
def evN (T : Cx) (n : Nat) : Cmd → Out := Nat.rec (motive := fun _ => Cmd → Out) (fun _ => .bad 9) (fun _ ih => stepA T ih) n
theorem evN_succ (T : Cx) (n : Nat) (c : Cmd) : evN T (n + 1) c = stepA T (evN T n) c := rfl
def LoopsOk (P : Program) (T : Cx) (ih : Cmd → Out) : Prop := ∀ b A H e A' H', ih (.code (.loop b) A H) = .code e A' H' → ndCode b = true → ∃ m, ∀ (ds : List Deferred) (ro : Option Nat), (ro = none ∨ nrCode b = true) → ∀ (E : Env) (a : Act) (w : World), AR ds E H.next A a → HRel E H w → roundsR ro P b (PostM ds e A' H' E H w) m a w
theorem rounds_mono {P : Program} {c : Code} {Q Q' : Exit → Act → World → Prop} (hq : ∀ e a w, Q e a w → Q' e a w) : ∀ (n : Nat) (a : Act) (w : World), Code.rounds P c Q n a w → Code.rounds P c Q' n a w
  | 0, _, _, h => h
  | n + 1, a, w, h => wp_mono h fun x a1 w1 hp => by
    cases x with
    | normal => exact rounds_mono hq n _ _ hp
    | exit id => exact hq _ _ _ hp
    | goto l => exact hq _ _ _ hp
    | ret => exact hq _ _ _ hp
    | panic ch => exact hq _ _ _ hp
    | outgrown => exact hq _ _ _ hp
def resSem (tmps : Array Value) (r : ResultVar) : Sem Value := match r with
  | .tmp t => pure (tmps.getD t undef)
  | .cell q t => do loadVar t (← asAddr (tmps.getD q undef))
theorem results_eq (fn : Func) (tmps : Array Value) : results fn tmps = (do
  let vs ← fn.results.mapM (resSem tmps)
  pure (if h : vs.size = 1 then vs[0] else .tuple vs)) := by
  unfold results
  have : (fun (x : ResultVar) => (match x with
    | .tmp t => pure (tmps.getD t undef)
    | .cell a t => do loadVar t (← asAddr (tmps.getD a undef)) : Sem Value)) = resSem tmps := by
    funext x; cases x <;> rfl
  rw [← this]
  rfl
theorem res1_ok {P : Program} {T : Cx} (hT : Fits P T) {E : Env} {A : AA} {a : Act} {H : Hp} {w : World} (ha : AR ds E H.next A a) (hr : HRel E H w) {r : ResultVar} {v : Value} (hv : res1 T A H r = some v) : ∃ v', VR E H.next v v' ∧ (resSem a.tmps r).run P w = .ok v' w := by
  cases r with
  | tmp t =>
    obtain ⟨v', e1, r⟩ := ha.tm t v hv
    refine ⟨v', r, ?_⟩
    simp [resSem, Array.getD_eq_getD_getElem?, e1]
  | cell q t =>
    change (match A.get q with
      | some (.pointer (some p)) => loadV T H t p.block p.off
      | _ => none) = some v at hv
    split at hv
    · rename_i p hp
      obtain ⟨v', e1, r⟩ := ha.tm q _ hp
      obtain ⟨_, _, e2⟩ := r.pptr
      subst e2
      obtain ⟨u, e3, r3⟩ := loadV_ok (P := P) hT hr hv
      refine ⟨u, r3, ?_⟩
      simp [resSem, Array.getD_eq_getD_getElem?, e1, asAddr, e3]
    · cases hv
theorem resL_ok {P : Program} {T : Cx} (hT : Fits P T) {E : Env} {A : AA} {a : Act} {H : Hp} {w : World} (ha : AR ds E H.next A a) (hr : HRel E H w) : ∀ {l : List ResultVar} {vs : List Value}, resL T A H l = some vs → ∃ vs', VL E H.next vs vs' ∧
    (l.mapM (resSem a.tmps)).run P w = .ok vs' w
  | [], vs, h => by cases h; exact ⟨[], .nil, by simp⟩
  | r :: l, vs, h => by
    change (match res1 T A H r with
      | some v => (match resL T A H l with
        | some l => some (v :: l)
        | none => none)
      | none => none) = some vs at h
    split at h
    · rename_i v hv
      split at h
      · rename_i l2 hl2
        cases h
        obtain ⟨vs', r1, r2⟩ := resL_ok (P := P) hT ha hr hl2
        obtain ⟨v', r3, e3⟩ := res1_ok (P := P) hT ha hr hv
        refine ⟨v' :: vs', .cons r3 r1, ?_⟩
        rw [List.mapM_cons]
        simp [e3, r2]
      · cases h
    · cases h
theorem results_ok {P : Program} {T : Cx} (hT : Fits P T) {E : Env} {A : AA} {a : Act} {H : Hp} {w : World} (ha : AR ds E H.next A a) (hr : HRel E H w) {fn : Func} {v : Value} (h : resultsA T A H fn.results.toList = some v) : ∃ v', VR E H.next v v' ∧ (results fn a.tmps).run P w = .ok v' w := by
  unfold resultsA at h
  rw [results_eq]
  split at h
  · rename_i l hl
    obtain ⟨vs', r1, r2⟩ := resL_ok (P := P) hT ha hr hl
    have hrun : (fn.results.mapM (resSem a.tmps)).run P w = .ok vs'.toArray w := by
      rw [Array.mapM_eq_mapM_toList]
      simp [r2]
    split at h
    · rename_i u
      cases h
      cases r1 with
      | @cons _ v' _ l2 hv ht =>
        cases ht
        refine ⟨v', hv, ?_⟩
        simp [hrun]
    · rename_i hne
      cases h
      refine ⟨.tuple vs'.toArray, .tuple r1, ?_⟩
      have hs : ¬ vs'.length = 1 := fun e => by
        have := r1.length
        rw [e] at this
        match l, this with
        | [x], _ => exact hne x rfl
      simp [hrun, hs]
  · cases h
theorem entry_ok {E : Env} {N : Nat} {T : Cx} {fn : Func} {c : Code} {args args' : List Value} (hv : VL E N args args') (hg : ∀ g, g < T.g → E.s g = g ∧ g < N) : AR [] E N (entryA T fn c args) { tmps := args'.toArray ++ Array.replicate (fn.ntmps - args'.toArray.size) undef, defers := [] } := by
  have hl := hv.length
  refine ⟨rfl, ?_, hg, fun t v h => ?_⟩
  · show (args'.toArray ++ Array.replicate (fn.ntmps - args'.toArray.size) undef).size = Nat.max args.length fn.ntmps
    rw [Array.size_append, Array.size_replicate, List.size_toArray, hl]
    show _ = max _ _
    omega
  · change ite' (bit (kOf fn c) t) ((Tr.lay args 0 .nil).get t) none = some v at h
    obtain ⟨_, h2⟩ := ite'_some h
    obtain ⟨v', e, r⟩ := map_rows hv t v h2
    exact ⟨v', by rw [Array.getElem?_append_left (Array.getElem?_eq_some_iff.1 e).1]; exact e, r⟩
theorem main_ok {P : Program} {T : Cx} (hT : Fits P T) (hm : P.follows .mixedOrders = true) (hTab : ∀ p ∈ T.tabs, p.1 < T.g ∧ plainL p.2 = true) (hO : OrOk P T) (hV : OvOk P T) (hB : BwOk P T) (hND : ∀ f fn c, T.fn.get f = some fn → fn.body = some c → ndCode c = true) : ∀ n, CallsOk P T (evN T n) ∧ CodesOk P T (evN T n) ∧ LoopsOk P T (evN T n)
  | 0 => ⟨fun f args H v H' h => (by cases h), fun c A H e A' H' h => (by cases h), fun b A H e A' H' h => (by cases h)⟩
  | n + 1 => by
    obtain ⟨hC, hD, hL⟩ := main_ok hT hm hTab hO hV hB hND n
    -- two pieces of code, one behind the other
    have hthen : ∀ (c1 c2 : Code) (A : AA) (H : Hp) (e : Ex) (A' : AA) (H' : Hp), thenCode (evN T n) c2 (evN T n (.code c1 A H)) = .code e A' H' → (∃ A1 H1, evN T n (.code c1 A H) = .code .normal A1 H1 ∧ evN T n (.code c2 A1 H1) = .code e A' H') ∨ (e ≠ .normal ∧ evN T n (.code c1 A H) = .code e A' H') := by
      intro c1 c2 A H e A' H' h
      rw [thenCode_def] at h
      split at h
      · exact .inl ⟨_, _, by assumption, h⟩
      · rename_i hne
        refine .inr ⟨fun he => ?_, h⟩
        subst he
        exact hne _ _ h
    have hloop : LoopsOk P T (evN T (n + 1)) := by
      intro b A H e A' H' h hnd
      rw [evN_succ] at h
      change thenCode (evN T n) (.loop b) (evN T n (.code b A H)) = .code e A' H' at h
      rcases hthen b (.loop b) A H e A' H' h with ⟨A1, H1, h1, h2⟩ | ⟨hne, h1⟩
      · obtain ⟨m, hm1⟩ := hL b A1 H1 e A' H' h2 hnd
        refine ⟨m + 1, fun ds ro hro E a w ha hr => ?_⟩
        show wpR ro P b (Exit.then (roundsR ro P b _ _) _) a w
        refine wpR_mono (hD b A H _ _ _ h1 hnd ds ro hro E a w ha hr) fun x a1 w1 hp => ?_
        obtain ⟨hx, E1, ms1, g1, ha1, hr1, hk1⟩ := hp
        subst hx
        exact roundsR_mono (fun x2 a2 w2 hp2 => PostM.comp g1 hr1 hk1 hp2) m _ _ (hm1 _ ro hro E1 a1 w1 ha1 hr1)
      · refine ⟨1, fun ds ro hro E a w ha hr => ?_⟩
        show wpR ro P b (Exit.then (roundsR ro P b _ _) _) a w
        refine wpR_mono (hD b A H _ _ _ h1 hnd ds ro hro E a w ha hr) fun x a1 w1 hp => ?_
        have hx := hp.1
        subst hx
        cases e with
        | normal => exact absurd rfl hne
        | exit id => exact hp
        | ret => exact hp
    refine ⟨fun f args H v H' h => ?_, fun c A H e A' H' h hnd ds ro hro E a w ha hr => ?_, hloop⟩
    · -- a call
      rw [evN_succ] at h
      change orvStep T (evN T n) f args H (T.orv.get f) = .call v H' at h
      have horv : (∃ q, VOk P T.g T.tabs f q ∧ q.args = args ∧ romsOk H T.tabs = true ∧ H.next ≤ q.lo ∧ v = q.v ∧ H' = ⟨putRows q.bs H.b, q.hi⟩) ∨ orcStep T (evN T n) f args H (T.orc.get f) = .call v H' := by
        cases hl : T.orv.get f with
        | none => rw [hl] at h; exact .inr h
        | some l =>
          rw [hl] at h
          change orvCall T (evN T n) f args H (orvFind l args) = .call v H' at h
          cases hv : orvFind l args with
          | none => rw [hv] at h; exact .inr h
          | some q =>
            rw [hv] at h
            change ite' (romsOk H T.tabs) (ite' (Nat.ble H.next q.lo) (Out.call q.v ⟨putRows q.bs H.b, q.hi⟩) (.bad 41)) (.bad 42) = .call v H' at h
            obtain ⟨hq1, hq2⟩ := orvFind_mem hv
            cases hb : romsOk H T.tabs with
            | false => rw [hb] at h; cases h
            | true =>
              rw [hb, ite'_true] at h
              cases hb2 : Nat.ble H.next q.lo with
              | false => rw [hb2] at h; cases h
              | true =>
                rw [hb2] at h
                cases h
                exact .inl ⟨q, hV f l hl q hq1, hq2, rfl, Nat.le_of_ble_eq_true hb2, rfl, rfl⟩
      rcases horv with ⟨q, hq, hqa, hrom, hle, rfl, rfl⟩ | h
      · refine ⟨hq.fn, fun E args' w hv hr hg => ?_⟩
        subst hqa
        rw [plainL_eq hq.pa hv]
        exact hq.use hr hTab hrom (fun b hb => (hg b hb).1) hle
      have horc : (OrcOk P T.g T.tabs f args v ∧ romsOk H T.tabs = true ∧ H' = H) ∨ callStep T (evN T n) f args H (T.fn.get f) = .call v H' := by
        cases hl : T.orc.get f with
        | none => rw [hl] at h; exact .inr h
        | some l =>
          rw [hl] at h
          change orcCall T (evN T n) f args H (orcFind l args) = .call v H' at h
          cases hv : orcFind l args with
          | none => rw [hv] at h; exact .inr h
          | some u =>
            rw [hv] at h
            change ite' (romsOk H T.tabs) (Out.call u H) (.bad 40) = .call v H' at h
            cases hb : romsOk H T.tabs with
            | false => rw [hb] at h; cases h
            | true =>
              rw [hb] at h
              cases h
              exact .inl ⟨hO f l hl args v (orcFind_mem hv), rfl, rfl⟩
      rcases horc with ⟨ho, hrom, rfl⟩ | h
      · refine ⟨ho.fn, fun E args' w hv hr hg => ?_⟩
        rw [plainL_eq ho.pa hv]
        refine (ho.call E w (roms_rel hr hTab hrom) fun b hb => (hg b hb).1).mono fun e w' hh => ?_
        obtain ⟨he, hb⟩ := hh
        have hrow : ∀ b x, H'.b.get b = some x → E.s b < w.heap.size := fun b x hbx => by
          have := hr.rel b x hbx
          unfold BR at this
          split at this
          · obtain ⟨cs, fz, h1, _⟩ := this; exact (Array.getElem?_eq_some_iff.1 h1).1
          · obtain ⟨es', h1, _⟩ := this; exact (Array.getElem?_eq_some_iff.1 h1).1
          · exact (Array.getElem?_eq_some_iff.1 this).1
          · obtain ⟨cs, e, fz, h1, _⟩ := this; exact (Array.getElem?_eq_some_iff.1 h1).1
        exact ⟨E, v, he, ⟨Nat.le_refl _, Agree.refl _ _, fun b x h => .inl ⟨b, x, h, fun h => h, rfl⟩, hb.os, hb.tape, hb.output, hb.size, fun i hi _ => hb.block i hi⟩, resOk_vr ho.pr, ⟨hr.lt, fun b x hbx => by rw [hb.block _ (hrow b x hbx)]; exact hr.rel b x hbx, hr.inj⟩⟩
      cases hf : T.fn.get f with
      | none => rw [hf] at h; cases h
      | some fn =>
        rw [hf] at h
        change enterCall T (evN T n) f fn args H = .call v H' at h
        unfold enterCall at h
        obtain ⟨h1, h2⟩ := hT.fn f fn hf
        split at h
        · rename_i c hb
          refine ⟨⟨fn, h1, h2, by rw [hb]; rfl⟩, fun E args' w hv hr hg => ?_⟩
          have key : ∃ e A1 H1, (e = .normal ∨ e = .ret) ∧ evN T n (.code c (entryA T fn c args) H) = .code e A1 H1 ∧ resultsA T A1 H1 fn.results.toList = some v ∧ H' = H1 := by
            unfold backCall at h
            split at h
            · rename_i A1 H1 he
              split at h
              · cases h; exact ⟨_, _, _, .inl rfl, he, by assumption, rfl⟩
              · cases h
            · rename_i A1 H1 he
              split at h
              · cases h; exact ⟨_, _, _, .inr rfl, he, by assumption, rfl⟩
              · cases h
            · cases h
            · cases h
          obtain ⟨e, A1, H1, he, hev, hres, rfl⟩ := key
          have hw := hD c _ _ _ _ _ hev (hND f fn c hf hb) [] none (.inl rfl) E _ w (entry_ok hv hg) hr
          refine callsIn_FF.1 (callsIn_of_wp_marks (F := FF none) (n := 0) h1 hb trivial (wpIn_mono (hw 0) fun x a1 w1 hp => ?_))
          obtain ⟨hx, E1, ms1, g1, ha1, hr1, hk1⟩ := hp
          have hend : ∀ w2, HRel E1 H' w2 → Gd E E1 H H' w w2 → ∃ u, (results fn a1.tmps).run P w2 = .ok u w2 ∧ ∃ E' v', Ending.returned u = .returned v' ∧ Gd E E' H H' w w2 ∧ VR E' H'.next v v' ∧ HRel E' H' w2 := fun w2 hr2 g2 => by
            obtain ⟨v', r1, r2⟩ := results_ok (P := P) hT ha1 hr2 hres
            exact ⟨v', r2, E1, v', rfl, g2, r1, hr2⟩
          have hlv := leave_ms (n := 0) (R := fun e w' => ∃ E' v', e = .returned v' ∧ Gd E E' H H' w w' ∧ VR E' H'.next v v' ∧ HRel E' H' w') hend ms1 w1 hk1 hr1 g1
          have hdf : a1.defers = ms1.map markD := by rw [ha1.df, List.append_nil]
          rcases he with rfl | rfl
          · subst hx
            show LeavesInM _ _ _ _ _ _ a1.defers _ _
            rw [hdf]; exact hlv
          · subst hx
            show LeavesInM _ _ _ _ _ _ a1.defers _ _
            rw [hdf]; exact hlv
        · cases h
    · -- code
      rw [evN_succ] at h
      change codeD c T (evN T n) A H = .code e A' H' at h
      unfold codeD at h
      split at h
      · cases h; exact wpR_skip ⟨rfl, E, [], Gd.refl _ _ _, ha, hr, .nil⟩
      · cases h; exact wpR_ret ⟨rfl, E, [], Gd.refl _ _ _, ha, hr, .nil⟩
      · cases h; exact wpR_exit ⟨rfl, E, [], Gd.refl _ _ _, ha, hr, .nil⟩
      · rename_i c1 c2
        obtain ⟨nd1, nd2⟩ := ite'_true_eq (show ite' (ndCode c1) (ndCode c2) false = true from hnd)
        have hro1 : ro = none ∨ nrCode c1 = true := hro.imp id fun hh => (ite'_true_eq (show ite' (nrCode c1) (nrCode c2) false = true from hh)).1
        have hro2 : ro = none ∨ nrCode c2 = true := hro.imp id fun hh => (ite'_true_eq (show ite' (nrCode c1) (nrCode c2) false = true from hh)).2
        refine wpR_seq ?_
        rcases seqCode_ok h with h | ⟨id, ops, rfl, hf, h⟩
        case inr =>
          refine wpR_mono (fork_ok hT hm hC (fun A H e A' H' h => hD c2 A H e A' H' h nd2 ds ro hro2) (noDefer_of nd1) hf rfl h ha.fresh hr) fun x a1 w1 hp => ?_
          obtain ⟨hx, hb⟩ := hp
          subst hx
          exact hb
        rcases hthen c1 c2 A H e A' H' h with ⟨A1, H1, h1, h2⟩ | ⟨hne, h1⟩
        · refine wpR_mono (hD c1 A H _ _ _ h1 nd1 ds ro hro1 E a w ha hr) fun x a1 w1 hp => ?_
          obtain ⟨hx, E1, ms1, g1, ha1, hr1, hk1⟩ := hp
          subst hx
          exact wpR_mono (hD c2 A1 H1 _ _ _ h2 nd2 _ ro hro2 E1 a1 w1 ha1 hr1) fun x2 a2 w2 hp2 => PostM.comp g1 hr1 hk1 hp2
        · refine wpR_mono (hD c1 A H _ _ _ h1 nd1 ds ro hro1 E a w ha hr) fun x a1 w1 hp => ?_
          have hx := hp.1
          subst hx
          cases e with
          | normal => exact absurd rfl hne
          | exit id => exact hp
          | ret => exact hp
      · rename_i x c1 c2
        unfold condCode at h
        split at h
        · rename_i b hb
          have hc : a.eval x = .bool b := (ev_ok ha hb).bool
          obtain ⟨nd1, nd2⟩ := ite'_true_eq (show ite' (ndCode c1) (ndCode c2) false = true from hnd)
          have hro1 : ro = none ∨ nrCode c1 = true := hro.imp id fun hh => (ite'_true_eq (show ite' (nrCode c1) (nrCode c2) false = true from hh)).1
          have hro2 : ro = none ∨ nrCode c2 = true := hro.imp id fun hh => (ite'_true_eq (show ite' (nrCode c1) (nrCode c2) false = true from hh)).2
          refine wpR_cond hc ?_
          cases b
          · exact hD _ A H _ _ _ h nd2 ds ro hro2 E a w ha hr
          · exact hD _ A H _ _ _ h nd1 ds ro hro1 E a w ha hr
        · cases h
      · rename_i id c1
        refine wpR_block ?_
        unfold blockCode at h
        split at h
        · rename_i j A1 H1 hev
          have hw := hD c1 A H _ _ _ hev hnd ds ro hro E a w ha hr
          cases hj : Nat.beq j id with
          | true =>
            rw [hj, ite'_true] at h
            cases h
            have := Nat.eq_of_beq_eq_true hj
            subst this
            refine wpR_mono hw fun x a1 w1 hp => ?_
            have hx := hp.1
            subst hx
            show (if j = j then _ else _)
            rw [if_pos rfl]
            exact ⟨rfl, hp.2⟩
          | false =>
            rw [hj, ite'_false] at h
            cases h
            refine wpR_mono hw fun x a1 w1 hp => ?_
            have hx := hp.1
            subst hx
            show (if j = id then _ else _)
            rw [if_neg (fun e => by subst e; rw [Nat.beq_refl] at hj; cases hj)]
            exact hp
        · rename_i hne
          refine wpR_mono (hD c1 A H _ _ _ h hnd ds ro hro E a w ha hr) fun x a1 w1 hp => ?_
          have hx := hp.1
          subst hx
          cases e with
          | normal => exact hp
          | exit j => exact absurd h (hne j A' H')
          | ret => exact hp
      · rename_i c1
        obtain ⟨m, hm1⟩ := hloop c1 A H e A' H' (by rw [evN_succ]; exact h) hnd
        exact wpR_loop_rounds m (hm1 ds ro hro E a w ha hr)
      · rename_i id ops d
        cases d with
        | true => exact wpR_mono (wpR_region_any (noDefer_of hnd) post_stays hm (drawZ_any hT hm hC h ha.fresh hr)) fun _ _ _ hp => hp.m
        | false => exact wpR_mono (wpR_region (noDefer_of hnd) post_stays (region_ops hT hC h ha.fresh hr).2) fun _ _ _ hp => hp.m
      · rename_i g ps asg bd
        have hnd2 : ite' (nrCode asg) (ite' (nrCode bd) (ite' (ndCode asg) (ndCode bd) false) false) false = true := hnd
        obtain ⟨k1, hnd2⟩ := ite'_true_eq hnd2
        obtain ⟨k2, hnd2⟩ := ite'_true_eq hnd2
        obtain ⟨k3, k4⟩ := ite'_true_eq hnd2
        rcases hro with rfl | hro
        · exact rangeB_ok hT hB hD k3 k4 k1 k2 h ha hr
        · cases hro
      · cases h
end
end Go.Proofs.YtanhkchpffkloaaGreatDoor
